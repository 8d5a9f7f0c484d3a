/-
  Proved: for every label l and all bytes p and q, LabelCodes(l, p, q) returns true: a right label as bytes behind p, and back; any bytes q as a label; the document's example holds. No condition.
-/
import Derived.Test.YtdnhhbpnefhjlaaLArgs
import Derived.Test.YtdnhhbpnefhjlaaLRefD
import Derived.Test.YtdnhhbpnefhjlaaCdArgs
namespace Go.Proofs.Ytdnhhbpnefhjlaa.labelCodes
open Go.ChangeShapes Go.WideShapes Go.ChangeAt Go.RowKit
open Go.ChangeMaps (open_string shut_string)
set_option linter.unusedVariables false
set_option linter.unusedSimpArgs false

theorem rd_RR {W W' : World} {r M : Nat} {st : Option (List UInt8)} {ao : Option Addr} {n cap : Nat} {o : Option Nat} (h : Cd.Rd W r st) (hr : Cd.RR W M ao n cap o) (hg : W.grownBy W' (some M)) (hne : r ≠ M) : Cd.Rd W' r st := by
  cases st with
  | none =>
    show W'.heap[r]? = _
    rw [hg.block r (Array.getElem?_eq_some_iff.1 h).1 (by simpa using hne)]
    exact h
  | some xs =>
    obtain ⟨bo, k, c, h1, h2⟩ := h
    exact ⟨bo, k, c, by rw [hg.block r (Array.getElem?_eq_some_iff.1 h1).1 (by simpa using hne)]; exact h1, Cd.row_RR h2 hr hg⟩
theorem at_some {xs : List UInt8} {o : Option Nat} {st : Option (List UInt8)} (h : Cd.same xs o st) : decide (0 ≤ Cd.atOf o) = st.isSome := by
  cases o with
  | none => cases st with
    | none => rfl
    | some ys => exact absurd h (by simp [Cd.same])
  | some k => cases st with
    | none => exact absurd h (by simp [Cd.same])
    | some ys => simp [Cd.atOf]
theorem dec_encV (N : Nat) (hN : N < 18446744073709551616) (p : Int) (hf : formV N p = true) (rest : List UInt8) : decV (some (Cd.enc N ++ [pb p] ++ rest)) = ((N, p.toNat), some rest) := by
  have hp : 0 ≤ p ∧ p ≤ (if N = 0 then 0 else 15) := by simpa [formV] using hf
  have hp15 : p ≤ 15 := by have := hp.2; split at this <;> omega
  have e1 : Cd.rUint (some (Cd.enc N ++ [pb p] ++ rest)) = (N, some ([pb p] ++ rest)) := by
    have := Cd.rd_enc N ([pb p] ++ rest) hN
    rw [List.append_assoc]
    simp only [Cd.rUint, this]
    simp
  have hb : [pb p] = Cd.enc p.toNat := (Cd.encF_small 9 p.toNat (by omega)).symm
  have e2 : Cd.rUint (some ([pb p] ++ rest)) = (p.toNat, some rest) := by
    have := Cd.rd_enc p.toNat rest (by omega)
    rw [hb]
    simp only [Cd.rUint, this]
    simp
  unfold decV
  rw [e1]
  simp only
  have e3 : Cd.rInt (some ([pb p] ++ rest)) (if N = 0 then 0 else 15) = (p.toNat, some rest) := by
    unfold Cd.rInt
    rw [e2]
    simp only
    rw [if_neg]
    have h1 := hp.1
    have h2 := hp.2
    split <;> rename_i hN0
    · rw [if_pos hN0] at h2; omega
    · omega
  rw [e3]
theorem dec_encL (x : Lb) (hx : x.1 < 18446744073709551616) (hx2 : x.2.2.1 < 18446744073709551616) (hf : formL x = true) : decL (some (encL x)) = (x, some []) := by
  obtain ⟨hv, _, _, hq0, hq15⟩ := formL_parts hf
  obtain ⟨hp0, hp15⟩ := formV_p hv
  obtain ⟨N, p, s, q⟩ := x
  simp only at *
  have e0 : decV (some (encL (N, p, s, q))) = ((N, p.toNat), some (Cd.enc s ++ [pb q])) := by
    have := dec_encV N hx p hv (Cd.enc s ++ [pb q])
    unfold encL
    simpa using this
  have e1 : Cd.rUint (some (Cd.enc s ++ [pb q])) = (s, some [pb q]) := by
    have := Cd.rd_enc s [pb q] hx2
    simp [Cd.rUint, this]
  have hb : [pb q] = Cd.enc q.toNat := (Cd.encF_small 9 q.toNat (by omega)).symm
  have e2 : Cd.rUint (some [pb q]) = (q.toNat, some []) := by
    have := Cd.rd_enc q.toNat [] (by omega)
    rw [List.append_nil] at this
    rw [hb]
    simp [Cd.rUint, this]
  have e3 : Cd.rInt (some [pb q]) 15 = (q.toNat, some []) := by
    unfold Cd.rInt
    rw [e2]
    simp only
    rw [if_neg (by omega)]
  unfold decL
  rw [e0]
  simp only [e1, e3]
  rw [Int.toNat_of_nonneg hp0, Int.toNat_of_nonneg hq0, hf]

/-- What stays while the law asks. -/
def Gs (w wx : World) (B C r g L cq : Nat) (ap : Option Addr) (np capp : Nat) (xs ss : List UInt8) (x : Lb) : Prop :=
  Cd.Row wx (some ⟨g, 0, none⟩) L cq ss ∧ Cd.Row wx ap np capp xs ∧ Cd.Rd wx r (some []) ∧ Below w.heap.size w wx ∧ Bx B x.1 x.2.1 x.2.2.1 x.2.2.2 wx ∧ Bx C x.1 x.2.1 x.2.2.1 x.2.2.2 wx
theorem bx_below {B n s : Nat} {p q : Int} {w w' : World} (h : Bx B n p s q w) (hb : Below w.heap.size w w') : Bx B n p s q w' :=
  have k : ∀ {ad v}, w.cell? ad = some v → w'.cell? ad = some v := fun {ad v} h => (hb.cell (World.block_lt_of_cell? w _ h)).trans h
  ⟨k h.1, k h.2.1, k h.2.2.1, k h.2.2.2⟩
theorem bx_grown {B n s r : Nat} {p q : Int} {w w' : World} (h : Bx B n p s q w) (hg : w.grownBy w' (some r)) (hne : B ≠ r) : Bx B n p s q w' :=
  ⟨hg.cell h.1 (by simp; omega), hg.cell h.2.1 (by simp; omega), hg.cell h.2.2.1 (by simp; omega), hg.cell h.2.2.2 (by simp; omega)⟩
theorem Gs.below {w wx wy : World} {B C r g L cq : Nat} {ap : Option Addr} {np capp : Nat} {xs ss : List UInt8} {x : Lb} (h : Gs w wx B C r g L cq ap np capp xs ss x) (hb : Below wx.heap.size wx wy) : Gs w wy B C r g L cq ap np capp xs ss x := by
  obtain ⟨h1, h2, h3, h4, h5, h6⟩ := h
  exact ⟨h1.below hb (Nat.le_refl _), h2.below hb (Nat.le_refl _), Cd.rd_below h3 hb, bl_step h4 hb, bx_below h5 hb, bx_below h6 hb⟩

set_option maxRecDepth 20000 in
set_option maxHeartbeats 4000000 in
theorem walk (w : World) (x : Lb) (hok : OkL x) (ap : Option Addr) (np capp : Nat) (xs : List UInt8) (hrp : Cd.Row w ap np capp xs) (hnp : np + 40 ≤ 140737488355328) (aq : Option Addr) (nq capq : Nat) (qs : List UInt8) (hrq : Cd.Row w aq nq capq qs) (hnq : nq ≤ 140737488355328) :
    Calls Try.prog 6 #[lab x, .slice ap np capp, .slice aq nq capq] w fun e w' => e = .returned (.bool true) ∧ Below w.heap.size w w' := by
  have hqm := hrq.2.1
  have hlq := hrq.1
  have HP : Hid (Cd.Row w ap np capp xs) := hrp
  have HQ : Hid (Cd.Row w aq nq capq qs) := hrq
  clear hrp hrq
  have hbx := bx_new w x.1 x.2.1 x.2.2.1 x.2.2.2 26
  have bl0 : Below w.heap.size w (w.alloc (.cells #[.int .u64 (x.1 : Nat), .int .i64 x.2.1, .int .u64 (x.2.2.1 : Nat), .int .i64 x.2.2.2] 26)) := bl1 _ _
  have hdq : Cd.same qs (some 0) (some qs) := by simp [Cd.same]
  have hx1 := hok.1
  have hx2 := hok.2.2.1
  cases hfv : formL x with
  | false =>
    have henc := fun W (hW : Cd.Row W ap np capp xs) => encodeL_bad W ap np capp xs hW x hx1 hfv (by omega)
    have href := fun W => refFormL_any W x
    rw [hfv] at href
    unfold lab at henc href ⊢
    go_enter Try.func6, Try.ntmps6
    go_wp2_with fail
    refine (awake_any _).mono ?_
    rintro e w1 ⟨rfl, hb1⟩
    have k1 := bx_below hbx hb1
    obtain ⟨k10, k11, k12, k13⟩ := k1
    have bl1' := bl_step bl0 hb1
    have rp1 := HP.out.below bl1' (Nat.le_refl _)
    go_wp2_with fail
    refine (henc _ rp1).mono ?_
    rintro e w2 ⟨rfl, hb2⟩
    have k2 := bx_below (show Bx w.heap.size x.1 x.2.1 x.2.2.1 x.2.2.2 w1 from ⟨k10, k11, k12, k13⟩) hb2
    obtain ⟨m10, m11, m12, m13⟩ := k2
    have bl2' := bl_step bl1' hb2
    go_wp2_with fail
    refine (href _).mono ?_
    rintro e w3 ⟨rfl, hu3⟩
    have bl3 := bl_step bl2' hu3.bl
    have rq3 := HQ.out.below bl3 (Nat.le_refl _)
    clear k10 k11 k12 k13 m10 m11 m12 m13 hb1 hb2 hu3 bl0 bl1' bl2' henc href hbx HP rp1
    go_wp2_with fail
    have hs3 := bl3.size
    refine (Cd.newReader_any _ _ _ _ _ rq3 hnq).mono ?_
    rintro e w4 ⟨r, rfl, hr4, rd4, hb4⟩
    have bl4 := bl_step bl3 hb4
    have rq4 := rq3.below hb4 (Nat.le_refl _)
    clear rq3 hb4 bl3
    go_wp2_with fail
    refine (decodeL_rd _ r _ rd4).mono ?_
    rintro e w5 ⟨rfl, rd5, gr5⟩
    have hr45 : r < w4.heap.size := rd4.lt
    have rq5 := Cd.row_kept rq4 rd4 gr5
    have hwr : w.heap.size ≤ r := Nat.le_trans hs3 hr4
    have bl5 : Below w.heap.size w w5 := bl_grown bl4 bl4.size gr5 (fun k hk => by simp at hk; omega)
    clear rd4 rq4 gr5 bl4
    have HSAME : ∀ W M, Cd.RR W M aq nq capq (some 0) → Cd.Row W aq nq capq qs → Calls Try.prog 27 #[.pointer (some ⟨M, 0, none⟩)] W _ := fun W M h1 h2 => refDecodeL_step W M aq nq capq qs (some 0) (some qs) hdq h1 h2 hnq
    generalize decL (some qs) = dd at *
    obtain ⟨dx, st9⟩ := dd
    unfold lab at HSAME ⊢
    simp only at HSAME rd5 ⊢
    have heqd := fun W => lab_equal dx dx W
    have hdd : decide (dx = dx) = true := by simp
    rw [hdd] at heqd
    clear hdd
    go_wp2_with fail
    have rr6 : Cd.RR ((w5.alloc (.cells #[.int .u64 (dx.1 : Nat), .int .i64 dx.2.1, .int .u64 (dx.2.2.1 : Nat), .int .i64 dx.2.2.2] 26)).alloc (.cells #[.slice aq nq capq, .int .i64 0] 50)) (w5.heap.size + 1) aq nq capq (some 0) := by
      have := heap_alloc_new (w5.alloc (.cells #[.int .u64 (dx.1 : Nat), .int .i64 dx.2.1, .int .u64 (dx.2.2.1 : Nat), .int .i64 dx.2.2.2] 26)) (.cells #[.slice aq nq capq, .int .i64 0] 50)
      simpa [Cd.RR, Cd.atOf] using this
    have bA : Below w5.heap.size w5 ((w5.alloc (.cells #[.int .u64 (dx.1 : Nat), .int .i64 dx.2.1, .int .u64 (dx.2.2.1 : Nat), .int .i64 dx.2.2.2] 26)).alloc (.cells #[.slice aq nq capq, .int .i64 0] 50)) := bl2 _ _ _
    have rq6 := rq5.below bA (Nat.le_refl _)
    have rd6 := Cd.rd_below rd5 bA
    have bl6 := bl_step bl5 bA
    have hrlt : r < w5.heap.size := rd5.lt
    have bxA := bx_below (bx_new w5 dx.1 dx.2.1 dx.2.2.1 dx.2.2.2 26) (bl1 _ (.cells #[.slice aq nq capq, .int .i64 0] 50))
    refine (HSAME _ _ rr6 rq6).mono ?_
    rintro e w7 ⟨rfl, o', hsm, rr7, gr7⟩
    have bxA7 := bx_grown bxA gr7 (by omega)
    have rd7 := rd_RR rd6 rr6 gr7 (by omega)
    have bl7 : Below w.heap.size w w7 := bl_grown bl6 bl6.size gr7 (fun k hk => by have := bl5.size; simp at hk; omega)
    have bC : Below w7.heap.size w7 (w7.alloc (.cells #[.int .u64 (dx.1 : Nat), .int .i64 dx.2.1, .int .u64 (dx.2.2.1 : Nat), .int .i64 dx.2.2.2] 26)) := bl1 _ _
    have rr8 := rr7.below bC
    have rd8 := Cd.rd_below rd7 bC
    have bl8 := bl_step bl7 bC
    have hat := at_some hsm
    have am := rr8.cells.2.1
    obtain ⟨dA0, dA1, dA2, dA3⟩ := bx_below bxA7 bC
    clear rr6 bA rq6 rd6 bl6 rd5 rq5 bl5 HSAME gr7 bxA bxA7
    have hleft := fun W (h1 : Cd.Rd W r st9) => Cd.left_rd W r st9 h1
    have hrl := fun W (h1 : Cd.RR W (w5.heap.size + 1) aq nq capq o') => Cd.refLeft_step W (w5.heap.size + 1) aq nq capq qs o' st9 hsm h1 hlq hnq
    cases st9 with
    | none =>
      have hat2 : (0 : Int) ≤ Cd.atOf o' ↔ False := by simpa using hat
      generalize Cd.atOf o' = aa at *
      have haf : ¬ ((0 : Int) ≤ aa) := fun hh => hat2.1 hh
      have had : decide ((0 : Int) ≤ aa) = false := by simpa using haf
      clear hat hat2 hleft hrl rr8 rd8 rr7 rd7 bl7
      go_wp2
      go_ret
      first | exact ⟨rfl, bl8⟩ | exact ⟨ret_bool (by simp; omega), bl8⟩ | exact ⟨ret_bool (by simp), bl8⟩
    | some ys =>
      have hat2 : (0 : Int) ≤ Cd.atOf o' := by simpa using hat
      have hl8 := hleft _ rd8
      have hr8 := hrl _ rr8
      generalize Cd.rLeft (some ys) = lf at *
      clear hat hleft hrl rr8 rd8
      generalize Cd.atOf o' = aa at *
      go_wp2_with fail
      refine hl8.mono ?_
      rintro e w9 ⟨rfl, rfl⟩
      go_wp2_with fail
      refine hr8.mono ?_
      rintro e w9 ⟨rfl, hb9⟩
      have blF := bl_step bl8 hb9
      clear hr8 hb9 bl8 rr7 rd7 bl7
      go_wp2
      go_ret
      exact ⟨rfl, blF⟩
  | true =>
    have hdec := dec_encL x hx1 hx2 hfv
    have href := fun W => refFormL_any W x
    rw [hfv] at href
    have hrefE := fun W => refEncodeL_any W x hx1 hx2 hfv
    have henc0 := fun W (hW : Cd.Row W ap np capp xs) => encodeL_any W ap np capp xs hW x hx1 hx2 hfv (by omega)
    have hel : (encL x).length ≤ 22 ∧ 0 < (encL x).length := by
      have h1 := Cd.enc_length x.1
      have h2 := Cd.enc_length x.2.2.1
      unfold encL
      simp
      omega
    obtain ⟨hel1, hel0⟩ := hel
    have hxl : xs.length = np := HP.out.1
    have heqx := fun W => lab_equal x x W
    have hdd : decide (x = x) = true := by simp
    rw [hdd] at heqx
    clear hdd
    unfold lab at href hrefE henc0 ⊢
    go_enter Try.func6, Try.ntmps6
    go_wp2_with fail
    refine (awake_any _).mono ?_
    rintro e w1 ⟨rfl, hb1⟩
    obtain ⟨k10, k11, k12, k13⟩ := bx_below hbx hb1
    have bl1' := bl_step bl0 hb1
    have rp1 := HP.out.below bl1' (Nat.le_refl _)
    go_wp2_with fail
    refine (henc0 _ rp1).mono ?_
    rintro e w2 ⟨v, rfl, hown, hb2⟩
    obtain ⟨m10, m11, m12, m13⟩ := bx_below (show Bx w.heap.size x.1 x.2.1 x.2.2.1 x.2.2.2 w1 from ⟨k10, k11, k12, k13⟩) hb2
    have bl2' := bl_step bl1' hb2
    obtain ⟨L, HL⟩ : ∃ L, Hid (np + (encL x).length = L) := ⟨_, rfl⟩
    obtain ⟨EL, HEL⟩ : ∃ EL, Hid (encL x = EL) := ⟨_, rfl⟩
    rw [HL.out] at hown
    have hL1 : np < L := by have := HL.out; omega
    have hL2 : L ≤ np + 22 := by have := HL.out; omega
    rcases hown.2 with ⟨_, h0⟩ | ⟨g, cq, cur, hv, hg, _, hc1, hc2, _, _⟩
    · omega
    unfold maxLen at hc2
    subst hv
    obtain ⟨ao', cap', hv', hrow, _⟩ := Cd.owns_row hown
    simp only [Value.slice.injEq] at hv'
    obtain ⟨rfl, _, rfl⟩ := hv'
    clear hown henc0 rp1 k10 k11 k12 k13 hb1 hb2 bl1' bl0 hbx
    go_wp2_with fail
    refine (href _).mono ?_
    rintro e w3 ⟨rfl, hu3⟩
    have hb3 := hu3.bl
    have n1 := bx_below (show Bx w.heap.size x.1 x.2.1 x.2.2.1 x.2.2.2 w2 from ⟨m10, m11, m12, m13⟩) hb3
    have bl3 := bl_step bl2' hb3
    have hrow3 := hrow.below hb3 (Nat.le_refl _)
    have hdrop : Cd.Row w3 (some ⟨g, np, none⟩) (L - np) (cq - np) (encL x) := by
      have := hrow3.drop_at np (by omega)
      rw [List.drop_left' hxl] at this
      simpa using this
    have HN1 : Hid (Bx w.heap.size x.1 x.2.1 x.2.2.1 x.2.2.2 w3) := n1
    clear m10 m11 m12 m13 hrow hb3 hu3 bl2' href n1
    have hnpI : (np : Int) ≤ L := by omega
    go_wp2_with fail
    refine (Cd.newReader_any _ _ _ _ _ hdrop (by omega)).mono ?_
    rintro e w4 ⟨r1, rfl, hr1, rd4, hb4⟩
    have hs3' := bl3.size
    have hw3 : w.heap.size < w3.heap.size := World.block_lt_of_cell? w3 _ HN1.out.1
    have bl4 := bl_step bl3 hb4
    have hrow4 := hrow3.below hb4 (Nat.le_refl _)
    have rp4 := HP.out.below bl4 (Nat.le_refl _)
    have HQ1 : Hid (Bx w.heap.size x.1 x.2.1 x.2.2.1 x.2.2.2 w4) := bx_below HN1.out hb4
    clear hdrop hrow3 HN1 bl3 hb4
    go_wp2_with fail
    have hdc := decodeL_rd w4 r1 _ rd4
    rw [hdec] at hdc
    simp only [lab] at hdc
    refine hdc.mono ?_
    rintro e w5 ⟨rfl, rd5, gr5⟩
    have bl5 : Below w.heap.size w w5 := bl_grown bl4 bl4.size gr5 (fun k hk => by simp at hk; omega)
    have hrow5 := Cd.row_kept hrow4 rd4 gr5
    have rp5 := Cd.row_kept rp4 rd4 gr5
    have s0 := bx_grown HQ1.out gr5 (by omega)
    have hGA : Gs w (w5.alloc (.cells #[.int .u64 (x.1 : Nat), .int .i64 x.2.1, .int .u64 (x.2.2.1 : Nat), .int .i64 x.2.2.2] 26)).drew w.heap.size w5.heap.size r1 g L cq ap np capp xs (xs ++ encL x) x := by
      have bA : Below w5.heap.size w5 (w5.alloc (.cells #[.int .u64 (x.1 : Nat), .int .i64 x.2.1, .int .u64 (x.2.2.1 : Nat), .int .i64 x.2.2.2] 26)).drew := ⟨rfl, rfl, rfl, by simp, fun k hk => Below.heap_alloc w5 _ k hk⟩
      exact ⟨hrow5.below bA (Nat.le_refl _), rp5.below bA (Nat.le_refl _), Cd.rd_below rd5 bA, bl_step bl5 bA, bx_below s0 bA, bx_new w5 x.1 x.2.1 x.2.2.1 x.2.2.2 26⟩
    have mk : ∀ wx, Gs w wx w.heap.size w5.heap.size r1 g L cq ap np capp xs (xs ++ encL x) x → Gs w wx w.heap.size w5.heap.size r1 g L cq ap np capp xs (xs ++ encL x) x ∧ (convert 38 9 (.slice (some ⟨g, 0, none⟩) L cq)).run Try.prog wx = .ok (.string (Cd.str (xs ++ encL x))) wx ∧ (convert 38 9 (.slice ap np capp)).run Try.prog wx = .ok (.string (Cd.str xs)) wx ∧ Bx w.heap.size x.1 x.2.1 x.2.2.1 x.2.2.2 wx ∧ Bx w5.heap.size x.1 x.2.1 x.2.2.1 x.2.2.2 wx := fun wx hx =>
      ⟨hx, Cd.conv_row hx.1, Cd.conv_row hx.2.1, hx.2.2.2.2.1, hx.2.2.2.2.2⟩
    have hadd : ∀ wx, (Op.stringOp .add (Cd.str xs) (Cd.str (encL x))).run Try.prog wx = .ok (.string (Cd.str (xs ++ encL x))) wx := fun wx => Cd.add_run wx xs (encL x) (by omega)
    clear rd4 gr5 bl4 hrow4 rp4 HQ1 hrow5 rp5 bl5 rd5 hdc hdec HP s0
    go_wp2_with fail
    refine wp_region_noPanic ?_
    refine wp_region_held_drew (S := fun wx => Gs w wx w.heap.size w5.heap.size r1 g L cq ap np capp xs (xs ++ encL x) x ∧ (convert 38 9 (.slice (some ⟨g, 0, none⟩) L cq)).run Try.prog wx = .ok (.string (Cd.str (xs ++ encL x))) wx ∧ (convert 38 9 (.slice ap np capp)).run Try.prog wx = .ok (.string (Cd.str xs)) wx ∧ Bx w.heap.size x.1 x.2.1 x.2.2.1 x.2.2.2 wx ∧ Bx w5.heap.size x.1 x.2.1 x.2.2.1 x.2.2.2 wx) (by kernel_rfl) (mk _ hGA) (fun hHeld => ?_)
    refine take_first 0 (v := ?_) rfl (by kernel_rfl) (by kernel_rfl) (by kernel_rfl) (fun _ _ _ h => h) (Or.inl ⟨by rfl, by intro wx hSw; obtain ⟨hGs, hcv1, hcv2, ⟨hk0, hk1, hk2, hk3⟩, hk4, hk5, hk6, hk7⟩ := hSw; go_simp; try with_reducible rfl⟩) (by assumption) ?_
    (try simp only [Act.put, List.setIfInBounds_toArray, List.set_cons_zero, List.set_cons_succ])
    refine take_first 1 (v := ?_) rfl (by kernel_rfl) (by kernel_rfl) (by kernel_rfl) (fun _ _ _ h => h) (Or.inl ⟨by rfl, by intro wx hSw; obtain ⟨hGs, hcv1, hcv2, ⟨hk0, hk1, hk2, hk3⟩, hk4, hk5, hk6, hk7⟩ := hSw; go_simp; try with_reducible rfl⟩) (by assumption) ?_
    (try simp only [Act.put, List.setIfInBounds_toArray, List.set_cons_zero, List.set_cons_succ])
    refine take_first 2 (v := ?_) rfl (by kernel_rfl) (by kernel_rfl) (by kernel_rfl) (fun _ _ _ h => h) (Or.inl ⟨by rfl, by intro wx hSw; obtain ⟨hGs, hcv1, hcv2, ⟨hk0, hk1, hk2, hk3⟩, hk4, hk5, hk6, hk7⟩ := hSw; go_simp; try with_reducible rfl⟩) (by assumption) ?_
    (try simp only [Act.put, List.setIfInBounds_toArray, List.set_cons_zero, List.set_cons_succ])
    refine take_first 3 (v := ?_) rfl (by kernel_rfl) (by kernel_rfl) (by kernel_rfl) (fun _ _ _ h => h) (Or.inl ⟨by rfl, by intro wx hSw; obtain ⟨hGs, hcv1, hcv2, ⟨hk0, hk1, hk2, hk3⟩, hk4, hk5, hk6, hk7⟩ := hSw; go_simp; try with_reducible rfl⟩) (by assumption) ?_
    (try simp only [Act.put, List.setIfInBounds_toArray, List.set_cons_zero, List.set_cons_succ])
    refine take_first 4 (v := ?_) rfl (by kernel_rfl) (by kernel_rfl) (by kernel_rfl) (fun _ _ _ h => h) (Or.inl ⟨by rfl, by intro wx hSw; obtain ⟨hGs, hcv1, hcv2, ⟨hk0, hk1, hk2, hk3⟩, hk4, hk5, hk6, hk7⟩ := hSw; go_simp; try with_reducible rfl⟩) (by assumption) ?_
    (try simp only [Act.put, List.setIfInBounds_toArray, List.set_cons_zero, List.set_cons_succ])
    refine take_first 5 (v := ?_) rfl (by kernel_rfl) (by kernel_rfl) (by kernel_rfl) (fun _ _ _ h => h) (Or.inl ⟨by rfl, by intro wx hSw; obtain ⟨hGs, hcv1, hcv2, ⟨hk0, hk1, hk2, hk3⟩, hk4, hk5, hk6, hk7⟩ := hSw; go_simp; try with_reducible rfl⟩) (by assumption) ?_
    (try simp only [Act.put, List.setIfInBounds_toArray, List.set_cons_zero, List.set_cons_succ])
    refine take_first 6 (v := ?_) rfl (by kernel_rfl) (by kernel_rfl) (by kernel_rfl) (fun _ _ _ h => h) (Or.inl ⟨by rfl, by intro wx hSw; obtain ⟨hGs, hcv1, hcv2, ⟨hk0, hk1, hk2, hk3⟩, hk4, hk5, hk6, hk7⟩ := hSw; go_simp; try with_reducible rfl⟩) (by assumption) ?_
    (try simp only [Act.put, List.setIfInBounds_toArray, List.set_cons_zero, List.set_cons_succ])
    refine take_first 7 (v := ?_) rfl (by kernel_rfl) (by kernel_rfl) (by kernel_rfl) (fun _ _ _ h => h) (Or.inl ⟨by rfl, by intro wx hSw; obtain ⟨hGs, hcv1, hcv2, ⟨hk0, hk1, hk2, hk3⟩, hk4, hk5, hk6, hk7⟩ := hSw; go_simp; try with_reducible rfl⟩) (by assumption) ?_
    (try simp only [Act.put, List.setIfInBounds_toArray, List.set_cons_zero, List.set_cons_succ])
    refine comes_up 8 rfl (by kernel_rfl) (fun K hK => ?_)
    go_simp
    refine (hrefE _).mono ?_
    rintro e w6 ⟨v6, rfl, hown6, hb6⟩
    have hG6 := hGA.below hb6
    obtain ⟨ao6, cap6, hv6, hrow6, _⟩ := Cd.owns_row hown6
    subst hv6
    have hc6 := Cd.conv_row hrow6
    clear hown6 hrow6 hb6
    go_wp2_with fail
    refine hK.out _ _ (mk _ hG6) (fun hHeld => ?_)
    clear hK K
    (try simp only [Act.put, List.setIfInBounds_toArray, List.set_cons_zero, List.set_cons_succ])
    refine comes_up 9 rfl (by kernel_rfl) (fun K hK => ?_)
    go_simp
    refine hK.out _ _ (mk _ hG6) (fun hHeld => ?_)
    clear hK K
    (try simp only [Act.put, List.setIfInBounds_toArray, List.set_cons_zero, List.set_cons_succ])
    refine take_first 10 (v := .string (Cd.str (xs ++ encL x))) rfl (by kernel_rfl) (by kernel_rfl) (by kernel_rfl) (fun _ _ _ h => h) (Or.inl ⟨by rfl, by intro wx hSw; obtain ⟨hGs, hcv1, hcv2, ⟨hk0, hk1, hk2, hk3⟩, hk4, hk5, hk6, hk7⟩ := hSw; go_simp; try with_reducible rfl⟩) (by assumption) ?_
    (try simp only [Act.put, List.setIfInBounds_toArray, List.set_cons_zero, List.set_cons_succ])
    refine take_first 11 (v := .bool false) rfl (by kernel_rfl) (by kernel_rfl) (by kernel_rfl) (fun _ _ _ h => h) (Or.inl ⟨by rfl, by intro wx hSw; obtain ⟨hGs, hcv1, hcv2, ⟨hk0, hk1, hk2, hk3⟩, hk4, hk5, hk6, hk7⟩ := hSw; go_simp; try with_reducible rfl⟩) (by assumption) ?_
    (try simp only [Act.put, List.setIfInBounds_toArray, List.set_cons_zero, List.set_cons_succ])
    refine take_first 12 (v := ?_) rfl (by kernel_rfl) (by kernel_rfl) (by kernel_rfl) (fun _ _ _ h => h) (Or.inl ⟨by rfl, by intro wx hSw; obtain ⟨hGs, hcv1, hcv2, ⟨hk0, hk1, hk2, hk3⟩, hk4, hk5, hk6, hk7⟩ := hSw; go_simp; try with_reducible rfl⟩) (by assumption) ?_
    (try simp only [Act.put, List.setIfInBounds_toArray, List.set_cons_zero, List.set_cons_succ])
    refine take_first 13 (v := ?_) rfl (by kernel_rfl) (by kernel_rfl) (by kernel_rfl) (fun _ _ _ h => h) (Or.inl ⟨by rfl, by intro wx hSw; obtain ⟨hGs, hcv1, hcv2, ⟨hk0, hk1, hk2, hk3⟩, hk4, hk5, hk6, hk7⟩ := hSw; go_simp; try with_reducible rfl⟩) (by assumption) ?_
    (try simp only [Act.put, List.setIfInBounds_toArray, List.set_cons_zero, List.set_cons_succ])
    refine take_first 14 (v := ?_) rfl (by kernel_rfl) (by kernel_rfl) (by kernel_rfl) (fun _ _ _ h => h) (Or.inl ⟨by rfl, by intro wx hSw; obtain ⟨hGs, hcv1, hcv2, ⟨hk0, hk1, hk2, hk3⟩, hk4, hk5, hk6, hk7⟩ := hSw; go_simp; try with_reducible rfl⟩) (by assumption) ?_
    (try simp only [Act.put, List.setIfInBounds_toArray, List.set_cons_zero, List.set_cons_succ])
    refine take_first 15 (v := ?_) rfl (by kernel_rfl) (by kernel_rfl) (by kernel_rfl) (fun _ _ _ h => h) (Or.inl ⟨by rfl, by intro wx hSw; obtain ⟨hGs, hcv1, hcv2, ⟨hk0, hk1, hk2, hk3⟩, hk4, hk5, hk6, hk7⟩ := hSw; go_simp; try with_reducible rfl⟩) (by assumption) ?_
    (try simp only [Act.put, List.setIfInBounds_toArray, List.set_cons_zero, List.set_cons_succ])
    refine take_first 16 (v := ?_) rfl (by kernel_rfl) (by kernel_rfl) (by kernel_rfl) (fun _ _ _ h => h) (Or.inl ⟨by rfl, by intro wx hSw; obtain ⟨hGs, hcv1, hcv2, ⟨hk0, hk1, hk2, hk3⟩, hk4, hk5, hk6, hk7⟩ := hSw; go_simp; try with_reducible rfl⟩) (by assumption) ?_
    (try simp only [Act.put, List.setIfInBounds_toArray, List.set_cons_zero, List.set_cons_succ])
    refine take_first 17 (v := ?_) rfl (by kernel_rfl) (by kernel_rfl) (by kernel_rfl) (fun _ _ _ h => h) (Or.inl ⟨by rfl, by intro wx hSw; obtain ⟨hGs, hcv1, hcv2, ⟨hk0, hk1, hk2, hk3⟩, hk4, hk5, hk6, hk7⟩ := hSw; go_simp; try with_reducible rfl⟩) (by assumption) ?_
    (try simp only [Act.put, List.setIfInBounds_toArray, List.set_cons_zero, List.set_cons_succ])
    refine take_first 18 (v := ?_) rfl (by kernel_rfl) (by kernel_rfl) (by kernel_rfl) (fun _ _ _ h => h) (Or.inl ⟨by rfl, by intro wx hSw; obtain ⟨hGs, hcv1, hcv2, ⟨hk0, hk1, hk2, hk3⟩, hk4, hk5, hk6, hk7⟩ := hSw; go_simp; try with_reducible rfl⟩) (by assumption) ?_
    (try simp only [Act.put, List.setIfInBounds_toArray, List.set_cons_zero, List.set_cons_succ])
    refine take_first 19 (v := ?_) rfl (by kernel_rfl) (by kernel_rfl) (by kernel_rfl) (fun _ _ _ h => h) (Or.inl ⟨by rfl, by intro wx hSw; obtain ⟨hGs, hcv1, hcv2, ⟨hk0, hk1, hk2, hk3⟩, hk4, hk5, hk6, hk7⟩ := hSw; go_simp; try with_reducible rfl⟩) (by assumption) ?_
    (try simp only [Act.put, List.setIfInBounds_toArray, List.set_cons_zero, List.set_cons_succ])
    refine take_first 20 (v := .bool false) rfl (by kernel_rfl) (by kernel_rfl) (by kernel_rfl) (fun _ _ _ h => h) (Or.inl ⟨by rfl, by intro wx hSw; obtain ⟨hGs, hcv1, hcv2, ⟨hk0, hk1, hk2, hk3⟩, hk4, hk5, hk6, hk7⟩ := hSw; go_simp; try with_reducible rfl⟩) (by assumption) ?_
    (try simp only [Act.put, List.setIfInBounds_toArray, List.set_cons_zero, List.set_cons_succ])
    refine take_first 21 (v := ?_) rfl (by kernel_rfl) (by kernel_rfl) (by kernel_rfl) (fun _ _ _ h => h) (Or.inl ⟨by rfl, by intro wx hSw; obtain ⟨hGs, hcv1, hcv2, ⟨hk0, hk1, hk2, hk3⟩, hk4, hk5, hk6, hk7⟩ := hSw; go_simp; try with_reducible rfl⟩) (by assumption) ?_
    (try simp only [Act.put, List.setIfInBounds_toArray, List.set_cons_zero, List.set_cons_succ])
    refine take_first 22 (v := ?_) rfl (by kernel_rfl) (by kernel_rfl) (by kernel_rfl) (fun _ _ _ h => h) (Or.inl ⟨by rfl, by intro wx hSw; obtain ⟨hGs, hcv1, hcv2, ⟨hk0, hk1, hk2, hk3⟩, hk4, hk5, hk6, hk7⟩ := hSw; go_simp; try with_reducible rfl⟩) (by assumption) ?_
    (try simp only [Act.put, List.setIfInBounds_toArray, List.set_cons_zero, List.set_cons_succ])
    refine take_first 23 (v := ?_) rfl (by kernel_rfl) (by kernel_rfl) (by kernel_rfl) (fun _ _ _ h => h) (Or.inl ⟨by rfl, by intro wx hSw; obtain ⟨hGs, hcv1, hcv2, ⟨hk0, hk1, hk2, hk3⟩, hk4, hk5, hk6, hk7⟩ := hSw; go_simp; try with_reducible rfl⟩) (by assumption) ?_
    (try simp only [Act.put, List.setIfInBounds_toArray, List.set_cons_zero, List.set_cons_succ])
    refine comes_up 24 rfl (by kernel_rfl) (fun K hK => ?_)
    go_simp
    refine (Cd.left_rd _ _ _ hG6.2.2.1).mono ?_
    rintro e w7 ⟨rfl, rfl⟩
    go_wp2_with fail
    refine hK.out _ _ (mk _ hG6) (fun hHeld => ?_)
    clear hK K
    (try simp only [Act.put, List.setIfInBounds_toArray, List.set_cons_zero, List.set_cons_succ])
    refine take_first 25 (v := .bool false) rfl (by kernel_rfl) (by kernel_rfl) (by kernel_rfl) (fun _ _ _ h => h) (Or.inl ⟨by rfl, by intro wx hSw; obtain ⟨hGs, hcv1, hcv2, ⟨hk0, hk1, hk2, hk3⟩, hk4, hk5, hk6, hk7⟩ := hSw; go_simp; rfl⟩) (by assumption) ?_
    (try simp only [Act.put, List.setIfInBounds_toArray, List.set_cons_zero, List.set_cons_succ])
    refine take_first 26 (v := ?_) rfl (by kernel_rfl) (by kernel_rfl) (by kernel_rfl) (fun _ _ _ h => h) (Or.inl ⟨by rfl, by intro wx hSw; obtain ⟨hGs, hcv1, hcv2, ⟨hk0, hk1, hk2, hk3⟩, hk4, hk5, hk6, hk7⟩ := hSw; go_simp; try with_reducible rfl⟩) (by assumption) ?_
    (try simp only [Act.put, List.setIfInBounds_toArray, List.set_cons_zero, List.set_cons_succ])
    refine take_first 27 (v := ?_) rfl (by kernel_rfl) (by kernel_rfl) (by kernel_rfl) (fun _ _ _ h => h) (Or.inl ⟨by rfl, by intro wx hSw; obtain ⟨hGs, hcv1, hcv2, ⟨hk0, hk1, hk2, hk3⟩, hk4, hk5, hk6, hk7⟩ := hSw; go_simp; try with_reducible rfl⟩) (by assumption) ?_
    (try simp only [Act.put, List.setIfInBounds_toArray, List.set_cons_zero, List.set_cons_succ])
    refine take_first 28 (v := ?_) rfl (by kernel_rfl) (by kernel_rfl) (by kernel_rfl) (fun _ _ _ h => h) (Or.inl ⟨by rfl, by intro wx hSw; obtain ⟨hGs, hcv1, hcv2, ⟨hk0, hk1, hk2, hk3⟩, hk4, hk5, hk6, hk7⟩ := hSw; go_simp; try with_reducible rfl⟩) (by assumption) ?_
    (try simp only [Act.put, List.setIfInBounds_toArray, List.set_cons_zero, List.set_cons_succ])
    refine comes_up 29 rfl (by kernel_rfl) (fun K hK => ?_)
    go_simp
    refine (Cd.bad_rd _ _ _ hG6.2.2.1).mono ?_
    rintro e w7 ⟨rfl, rfl⟩
    go_wp2_with fail
    refine hK.out _ _ (mk _ hG6) (fun hHeld => ?_)
    clear hK K
    (try simp only [Act.put, List.setIfInBounds_toArray, List.set_cons_zero, List.set_cons_succ])
    refine take_first 30 (v := ?_) rfl (by kernel_rfl) (by kernel_rfl) (by kernel_rfl) (fun _ _ _ h => h) (Or.inl ⟨by rfl, by intro wx hSw; obtain ⟨hGs, hcv1, hcv2, ⟨hk0, hk1, hk2, hk3⟩, hk4, hk5, hk6, hk7⟩ := hSw; go_simp; try with_reducible rfl⟩) (by assumption) ?_
    (try simp only [Act.put, List.setIfInBounds_toArray, List.set_cons_zero, List.set_cons_succ])
    refine wpAnyH_done (by kernel_rfl) ?_ _
    refine NoPanic.normal ?_
    have bl3 := hG6.2.2.2.1
    have rq3 := HQ.out.below bl3 (Nat.le_refl _)
    clear hG6 hGA mk hadd hc6 hrefE hr1 hw3 hs3' HL hL1 hL2 hg hc1 hc2 hxl hel1 hel0 hnpI heqx HEL
    go_wp2_with fail
    have hs3 := bl3.size
    refine (Cd.newReader_any _ _ _ _ _ rq3 hnq).mono ?_
    rintro e w4 ⟨r, rfl, hr4, rd4, hb4⟩
    have bl4 := bl_step bl3 hb4
    have rq4 := rq3.below hb4 (Nat.le_refl _)
    clear rq3 hb4 bl3
    go_wp2_with fail
    refine (decodeL_rd _ r _ rd4).mono ?_
    rintro e w5 ⟨rfl, rd5, gr5⟩
    have hr45 : r < w4.heap.size := rd4.lt
    have rq5 := Cd.row_kept rq4 rd4 gr5
    have hwr : w.heap.size ≤ r := Nat.le_trans hs3 hr4
    have bl5 : Below w.heap.size w w5 := bl_grown bl4 bl4.size gr5 (fun k hk => by simp at hk; omega)
    clear rd4 rq4 gr5 bl4
    have HSAME : ∀ W M, Cd.RR W M aq nq capq (some 0) → Cd.Row W aq nq capq qs → Calls Try.prog 27 #[.pointer (some ⟨M, 0, none⟩)] W _ := fun W M h1 h2 => refDecodeL_step W M aq nq capq qs (some 0) (some qs) hdq h1 h2 hnq
    generalize decL (some qs) = dd at *
    obtain ⟨dx, st9⟩ := dd
    unfold lab at HSAME ⊢
    simp only at HSAME rd5 ⊢
    have heqd := fun W => lab_equal dx dx W
    have hdd : decide (dx = dx) = true := by simp
    rw [hdd] at heqd
    clear hdd
    go_wp2_with fail
    have rr6 : Cd.RR ((w5.alloc (.cells #[.int .u64 (dx.1 : Nat), .int .i64 dx.2.1, .int .u64 (dx.2.2.1 : Nat), .int .i64 dx.2.2.2] 26)).alloc (.cells #[.slice aq nq capq, .int .i64 0] 50)) (w5.heap.size + 1) aq nq capq (some 0) := by
      have := heap_alloc_new (w5.alloc (.cells #[.int .u64 (dx.1 : Nat), .int .i64 dx.2.1, .int .u64 (dx.2.2.1 : Nat), .int .i64 dx.2.2.2] 26)) (.cells #[.slice aq nq capq, .int .i64 0] 50)
      simpa [Cd.RR, Cd.atOf] using this
    have bA : Below w5.heap.size w5 ((w5.alloc (.cells #[.int .u64 (dx.1 : Nat), .int .i64 dx.2.1, .int .u64 (dx.2.2.1 : Nat), .int .i64 dx.2.2.2] 26)).alloc (.cells #[.slice aq nq capq, .int .i64 0] 50)) := bl2 _ _ _
    have rq6 := rq5.below bA (Nat.le_refl _)
    have rd6 := Cd.rd_below rd5 bA
    have bl6 := bl_step bl5 bA
    have hrlt : r < w5.heap.size := rd5.lt
    have bxA := bx_below (bx_new w5 dx.1 dx.2.1 dx.2.2.1 dx.2.2.2 26) (bl1 _ (.cells #[.slice aq nq capq, .int .i64 0] 50))
    refine (HSAME _ _ rr6 rq6).mono ?_
    rintro e w7 ⟨rfl, o', hsm, rr7, gr7⟩
    have bxA7 := bx_grown bxA gr7 (by omega)
    have rd7 := rd_RR rd6 rr6 gr7 (by omega)
    have bl7 : Below w.heap.size w w7 := bl_grown bl6 bl6.size gr7 (fun k hk => by have := bl5.size; simp at hk; omega)
    have bC : Below w7.heap.size w7 (w7.alloc (.cells #[.int .u64 (dx.1 : Nat), .int .i64 dx.2.1, .int .u64 (dx.2.2.1 : Nat), .int .i64 dx.2.2.2] 26)) := bl1 _ _
    have rr8 := rr7.below bC
    have rd8 := Cd.rd_below rd7 bC
    have bl8 := bl_step bl7 bC
    have hat := at_some hsm
    have am := rr8.cells.2.1
    obtain ⟨dA0, dA1, dA2, dA3⟩ := bx_below bxA7 bC
    clear rr6 bA rq6 rd6 bl6 rd5 rq5 bl5 HSAME gr7 bxA bxA7
    have hleft := fun W (h1 : Cd.Rd W r st9) => Cd.left_rd W r st9 h1
    have hrl := fun W (h1 : Cd.RR W (w5.heap.size + 1) aq nq capq o') => Cd.refLeft_step W (w5.heap.size + 1) aq nq capq qs o' st9 hsm h1 hlq hnq
    cases st9 with
    | none =>
      have hat2 : (0 : Int) ≤ Cd.atOf o' ↔ False := by simpa using hat
      generalize Cd.atOf o' = aa at *
      have haf : ¬ ((0 : Int) ≤ aa) := fun hh => hat2.1 hh
      have had : decide ((0 : Int) ≤ aa) = false := by simpa using haf
      clear hat hat2 hleft hrl rr8 rd8 rr7 rd7 bl7
      go_wp2
      go_ret
      first | exact ⟨rfl, bl8⟩ | exact ⟨ret_bool (by simp; omega), bl8⟩ | exact ⟨ret_bool (by simp), bl8⟩
    | some ys =>
      have hat2 : (0 : Int) ≤ Cd.atOf o' := by simpa using hat
      have hl8 := hleft _ rd8
      have hr8 := hrl _ rr8
      generalize Cd.rLeft (some ys) = lf at *
      clear hat hleft hrl rr8 rd8
      generalize Cd.atOf o' = aa at *
      go_wp2_with fail
      refine hl8.mono ?_
      rintro e w9 ⟨rfl, rfl⟩
      go_wp2_with fail
      refine hr8.mono ?_
      rintro e w9 ⟨rfl, hb9⟩
      have blF := bl_step bl8 hb9
      clear hr8 hb9 bl8 rr7 rd7 bl7
      go_wp2
      go_ret
      exact ⟨rfl, blF⟩

set_option maxRecDepth 100000 in
theorem lifted (os : Os) (started : os.Started) (H : Type) (enc : TypeId × Value → H) :
    ReturnsInHanded {} Try.checked os 6 .any (Rows.labelCodesSpec.pre6 enc Try.prog Try.f6 Rows.labelCodesRow.domain false) (Rows.labelCodesSpec.post enc Try.prog Try.f6 false true false false) := by
  refine returnsInHanded_of_change_sized (C := Try.checked) own started (by kernel_rfl) Try.func6
    (ChangeSpec.witness6 (enc := enc) (C := Try.checked) false ⟨#[], #[.agg #[.int .u64 0, .int .i64 0, .int .u64 0, .int .i64 0], .slice none 0 0, .slice none 0 0], []⟩ 8 (by kernel_rfl) (by kernel_rfl) (by kernel_rfl) (by kernel_rfl)) ?_
  intro W base args ds gs before hval0 hW hcnd hsz0 _
  have hsz : (DataW.weightsEach Try.prog (Try.f6.params.toList ++ Rows.labelCodesSpec.plain.varTypes Try.prog) (ds ++ gs)).all (· ≤ reachBytes) = true := hsz0
  have hval : ∀ (j : Nat) t v, Try.f6.params[j]? = some t → args[j]? = some v → Value.okWide Try.prog W .any base t v := hval0
  have hW' := hW
  obtain ⟨p, q, hA0, hV, rfl, hfz, hnd⟩ := hW
  have hA : DataW.TrodAll enc Try.prog W 0 (fun _ => true) true Try.f6.params.toList args.toList ds p := hA0
  rw [Try.params6] at hA hval hsz
  obtain ⟨v0, vs0, d0, ds0, p0, q0, hargs, rfl, rfl, h0, r0⟩ := trodAll_cons hA
  obtain ⟨v1, vs1, d1, ds1, p1, q1, rfl, rfl, rfl, h1, r1⟩ := trodAll_cons r0
  obtain ⟨v2, vs2, d2, ds2, p2, q2, rfl, rfl, rfl, h2, r2⟩ := trodAll_cons r1
  obtain ⟨rfl, rfl, rfl⟩ := trodAll_nil r2
  obtain rfl : args = #[v0, v1, v2] := by cases args; simp_all
  obtain ⟨rfl, rfl⟩ := trodVars_none hV
  obtain ⟨a1, len1, cap1, rfl⟩ := okWide_slice Try.underlying38 (hval 1 38 v1 rfl rfl)
  obtain ⟨a2, len2, cap2, rfl⟩ := okWide_slice Try.underlying38 (hval 2 38 v2 rfl rfl)
  have k1 := h1
  have lt1 : ∀ x ∈ p1, x.block < W.heap.size := by obtain ⟨m, hm⟩ := k1; exact DataW.trod_lt m _ _ _ hm
  have k2 := h2
  have lt2 : ∀ x ∈ p2, x.block < W.heap.size := by obtain ⟨m, hm⟩ := k2; exact DataW.trod_lt m _ _ _ hm
  obtain ⟨xs1, hrow1, hcap1⟩ := Cd.open_bytes h1 hsz (j := 1) rfl rfl
  obtain ⟨xs2, hrow2, hcap2⟩ := Cd.open_bytes h2 hsz (j := 2) rfl rfl
  clear hsz hsz0
  have k0 := h0
  obtain ⟨x0, hx0, rfl, rfl⟩ := open_lab (hval 0 26 v0 rfl rfl) h0
  clear hA0 hval0
  refine (walk W x0 hx0 a1 len1 cap1 xs1 hrow1 (by have := hrow1.2.1; omega) a2 len2 cap2 xs2 hrow2 (by have := hrow2.2.1; omega)).mono fun e W' ⟨he, bel⟩ => ?_
  subst he
  exact ⟨_, rfl, _, _, _, [], _, [], hW', trodAll_mk1 (shut_bool Try.underlying4 _), (trodAll_cons_mk (WideElems.Trod_stays laidOut rec26 row26 k0 (by simp) (by simp)) (trodAll_cons_mk (Below.trod Cd.laidOut (by kernel_rfl) (of_decide_eq_true (by kernel_rfl)) k1 bel lt1) (trodAll_cons_mk (Below.trod Cd.laidOut (by kernel_rfl) (of_decide_eq_true (by kernel_rfl)) k2 bel lt2) trodAll_mk0))), rfl, bel.frame _, fun h => by cases h⟩

theorem over : Rows.labelCodesRow.holds Try.pinned (OpenSpec.ofChange Rows.labelCodesSpec) :=
  OpenClaim.holds_of_wide 6 Try.f6 rfl rfl rfl rfl rfl rfl rfl ⟨rfl, rfl, rfl, rfl, rfl⟩ rfl rfl rfl rfl rfl (by kernel_rfl) Try.func6 (by kernel_rfl)
    (of_decide_eq_true (by kernel_rfl)) (by unfold Func.isWrapper; first | (rw [if_pos (by decide +kernel)]; kernel_rfl) | (rw [if_neg (by decide +kernel)]; exact ⟨rfl, rfl⟩))
    (fun os started H enc _ => lifted os started H enc)

end Go.Proofs.Ytdnhhbpnefhjlaa.labelCodes
namespace Go.Proofs.Ytdnhhbpnefhjlaa
theorem labelCodes_holds : Rows.LabelCodesSaid := labelCodes.over
#print axioms labelCodes_holds
end Go.Proofs.Ytdnhhbpnefhjlaa
