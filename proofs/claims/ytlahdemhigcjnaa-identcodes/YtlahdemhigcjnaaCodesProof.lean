/-
  Proved: for every view's number v and all bytes p and q, IdentCodes(v, p, q) returns true: a right number as bytes behind p, and back; any bytes q as a number; the document's examples hold. No condition.
-/
import Derived.Test.YtlahdemhigcjnaaRows
import Derived.Test.YtlahdemhigcjnaaIRefD
import Derived.Test.YtlahdemhigcjnaaIVid
import Derived.Test.YtlahdemhigcjnaaCdArgs
namespace Go.Proofs.Ytlahdemhigcjnaa.identCodes
open Go.ChangeShapes Go.WideShapes Go.ChangeAt Go.RowKit Go.Joins
open Go.ChangeMaps (open_string shut_string)
set_option linter.unusedVariables false
set_option linter.unusedSimpArgs false

theorem rd_RR {W W' : World} {r M : Nat} {st : Option (List UInt8)} {ao : Option Addr} {n cap : Nat} {o : Option Nat} (h : Cd.Rd W r st) (hr : Cd.RR W M ao n cap o) (hg : W.grownBy W' (some M)) (hne : r ≠ M) : Cd.Rd W' r st := by
  cases st with
  | none =>
    show W'.heap[r]? = _
    rw [hg.block r (Array.getElem?_eq_some_iff.1 h).1 (by simpa using hne)]
    exact h
  | some xs =>
    obtain ⟨bo, k, c, h1, h2⟩ := h
    exact ⟨bo, k, c, by rw [hg.block r (Array.getElem?_eq_some_iff.1 h1).1 (by simpa using hne)]; exact h1, Cd.row_RR h2 hr hg⟩
theorem at_some {xs : List UInt8} {o : Option Nat} {st : Option (List UInt8)} (h : Cd.same xs o st) : decide (0 ≤ Cd.atOf o) = st.isSome := by
  cases o with
  | none => cases st with
    | none => rfl
    | some ys => exact absurd h (by simp [Cd.same])
  | some k => cases st with
    | none => exact absurd h (by simp [Cd.same])
    | some ys => simp [Cd.atOf]
theorem dec_enc (N : Nat) (hN : N < 18446744073709551616) (p : Int) (hf : formV N p = true) : decV (some (Cd.enc N ++ [pb p])) = ((N, p.toNat), some []) := by
  have hp : 0 ≤ p ∧ p ≤ (if N = 0 then 0 else 15) := by simpa [formV] using hf
  have hp15 : p ≤ 15 := by have := hp.2; split at this <;> omega
  have e1 : Cd.rUint (some (Cd.enc N ++ [pb p])) = (N, some [pb p]) := by
    have := Cd.rd_enc N [pb p] hN
    simp [Cd.rUint, this]
  have hb : [pb p] = Cd.enc p.toNat := (Cd.encF_small 9 p.toNat (by omega)).symm
  have e2 : Cd.rUint (some [pb p]) = (p.toNat, some []) := by
    have := Cd.rd_enc p.toNat [] (by omega)
    rw [List.append_nil] at this
    rw [hb]
    simp [Cd.rUint, this]
  unfold decV
  rw [e1]
  simp only
  have e3 : Cd.rInt (some [pb p]) (if N = 0 then 0 else 15) = (p.toNat, some []) := by
    unfold Cd.rInt
    rw [e2]
    simp only
    rw [if_neg]
    have h1 := hp.1
    have h2 := hp.2
    split <;> rename_i hN0
    · rw [if_pos hN0] at h2; omega
    · omega
  rw [e3]

/-- What stays while the law asks. -/
def Gs (w wx : World) (B C r g L cq : Nat) (ap : Option Addr) (np capp : Nat) (xs ss : List UInt8) (N : Nat) (p : Int) : Prop :=
  Cd.Row wx (some ⟨g, 0, none⟩) L cq ss ∧ Cd.Row wx ap np capp xs ∧ Cd.Rd wx r (some []) ∧ Below w.heap.size w wx ∧ (wx.cell? ⟨B, 0, none⟩ = some (.int .u64 (N : Nat)) ∧ wx.cell? ⟨B, 1, none⟩ = some (.int .i64 p)) ∧ (wx.cell? ⟨C, 0, none⟩ = some (.int .u64 (N : Nat)) ∧ wx.cell? ⟨C, 1, none⟩ = some (.int .i64 p))
theorem Gs.below {w wx wy : World} {B C r g L cq : Nat} {ap : Option Addr} {np capp : Nat} {xs ss : List UInt8} {N : Nat} {p : Int} (h : Gs w wx B C r g L cq ap np capp xs ss N p) (hb : Below wx.heap.size wx wy) : Gs w wy B C r g L cq ap np capp xs ss N p := by
  obtain ⟨h1, h2, h3, h4, ⟨h5, h6⟩, h7, h8⟩ := h
  have k : ∀ {ad v}, wx.cell? ad = some v → wy.cell? ad = some v := fun {ad v} h => (hb.cell (World.block_lt_of_cell? wx _ h)).trans h
  exact ⟨h1.below hb (Nat.le_refl _), h2.below hb (Nat.le_refl _), Cd.rd_below h3 hb, bl_step h4 hb, ⟨k h5, k h6⟩, k h7, k h8⟩

set_option maxRecDepth 20000 in
set_option maxHeartbeats 4000000 in
theorem walk (w : World) (N : Nat) (hN : N < 18446744073709551616) (p : Int) (hpin : In p) (ap : Option Addr) (np capp : Nat) (xs : List UInt8) (hrp : Cd.Row w ap np capp xs) (hnp : np + 20 ≤ 140737488355328) (aq : Option Addr) (nq capq : Nat) (qs : List UInt8) (hrq : Cd.Row w aq nq capq qs) (hnq : nq ≤ 140737488355328) :
    Calls Try.prog 5 #[.agg #[.int .u64 (N : Nat), .int .i64 p], .slice ap np capp, .slice aq nq capq] w fun e w' => e = .returned (.bool true) ∧ Below w.heap.size w w' := by
  have hqm := hrq.2.1
  have hlq := hrq.1
  have HP : Hid (Cd.Row w ap np capp xs) := hrp
  have HQ : Hid (Cd.Row w aq nq capq qs) := hrq
  clear hrp hrq
  have hbx0 := cell_box w #[Value.int .u64 (N : Nat), .int .i64 p] 29 0 _ rfl
  have hbx1 := cell_box w #[Value.int .u64 (N : Nat), .int .i64 p] 29 1 _ rfl
  have bl0 : Below w.heap.size w (w.alloc (.cells #[Value.int .u64 (N : Nat), .int .i64 p] 29)) := (Below.refl _ _).alloc (Nat.le_refl _) _
  have hdq : Cd.same qs (some 0) (some qs) := by simp [Cd.same]
  cases hfv : formV N p with
  | false =>
    have henc := fun W => encode_bad W ap np capp N p hfv
    have href := fun W => refForm_any W N p
    rw [hfv] at href
    unfold vid at henc href
    go_enter Try.func5, Try.ntmps5
    go_wp2_with fail
    refine (awake_any _).mono ?_
    rintro e w1 ⟨rfl, hb1⟩
    have k0 := (hb1.cell (World.block_lt_of_cell? _ _ hbx0)).trans hbx0
    have k1 := (hb1.cell (World.block_lt_of_cell? _ _ hbx1)).trans hbx1
    have bl1 := bl_step bl0 hb1
    go_wp2_with fail
    refine (henc _).mono ?_
    rintro e w2 ⟨rfl, hb2⟩
    have m0 := (hb2.cell (World.block_lt_of_cell? _ _ k0)).trans k0
    have m1 := (hb2.cell (World.block_lt_of_cell? _ _ k1)).trans k1
    have bl2 := bl_step bl1 hb2
    go_wp2_with fail
    refine (href _).mono ?_
    rintro e w3 ⟨rfl, hb3⟩
    have bl3 := bl_step bl2 hb3
    have rq3 := HQ.out.below bl3 (Nat.le_refl _)
    clear k0 k1 m0 m1 hb1 hb2 hb3 bl0 bl1 bl2 henc href hbx0 hbx1 HP
    go_wp2_with fail
    have hs3 := bl3.size
    refine (Cd.newReader_any _ _ _ _ _ rq3 hnq).mono ?_
    rintro e w4 ⟨r, rfl, hr4, rd4, hb4⟩
    have bl4 := bl_step bl3 hb4
    have rq4 := rq3.below hb4 (Nat.le_refl _)
    clear rq3 hb4 bl3
    go_wp2_with fail
    refine (decode_rd _ r _ rd4).mono ?_
    rintro e w5 ⟨rfl, rd5, gr5⟩
    have hr45 : r < w4.heap.size := rd4.lt
    have rq5 := Cd.row_kept rq4 rd4 gr5
    have hwr : w.heap.size ≤ r := Nat.le_trans hs3 hr4
    have bl5 : Below w.heap.size w w5 := bl_grown bl4 bl4.size gr5 (fun k hk => by simp at hk; omega)
    clear rd4 rq4 gr5 bl4
    have HSAME : ∀ W M, Cd.RR W M aq nq capq (some 0) → Cd.Row W aq nq capq qs → Calls Try.prog 21 #[.pointer (some ⟨M, 0, none⟩)] W _ := fun W M h1 h2 => refDecode_step W M aq nq capq qs (some 0) (some qs) hdq h1 h2 hnq
    unfold vid at HSAME ⊢
    generalize (decV (some qs)).1.1 = dn at *
    generalize (decV (some qs)).1.2 = dp at *
    generalize (decV (some qs)).2 = st9 at *
    go_wp2_with fail
    have rr6 : Cd.RR ((w5.alloc (.cells #[.int .u64 (dn : Nat), .int .i64 (dp : Nat)] 29)).alloc (.cells #[.slice aq nq capq, .int .i64 0] 46)) (w5.heap.size + 1) aq nq capq (some 0) := by
      have := heap_alloc_new (w5.alloc (.cells #[.int .u64 (dn : Nat), .int .i64 (dp : Nat)] 29)) (.cells #[.slice aq nq capq, .int .i64 0] 46)
      simpa [Cd.RR, Cd.atOf] using this
    have bA : Below w5.heap.size w5 ((w5.alloc (.cells #[.int .u64 (dn : Nat), .int .i64 (dp : Nat)] 29)).alloc (.cells #[.slice aq nq capq, .int .i64 0] 46)) := bl2 _ _ _
    have rq6 := rq5.below bA (Nat.le_refl _)
    have rd6 := Cd.rd_below rd5 bA
    have bl6 := bl_step bl5 bA
    have hrlt : r < w5.heap.size := rd5.lt
    have up1 : ∀ {ad v}, (w5.alloc (.cells #[.int .u64 (dn : Nat), .int .i64 (dp : Nat)] 29)).cell? ad = some v → ((w5.alloc (.cells #[.int .u64 (dn : Nat), .int .i64 (dp : Nat)] 29)).alloc (.cells #[.slice aq nq capq, .int .i64 0] 46)).cell? ad = some v := fun {ad v} hh => (((Below.refl _ _).alloc (Nat.le_refl _) _).cell (World.block_lt_of_cell? _ _ hh)).trans hh
    refine (HSAME _ _ rr6 rq6).mono ?_
    rintro e w7 ⟨rfl, o', hsm, rr7, gr7⟩
    have cA0 := gr7.cell (up1 (cell_box w5 #[Value.int .u64 (dn : Nat), .int .i64 (dp : Nat)] 29 0 _ rfl)) (by simp)
    have cA1 := gr7.cell (up1 (cell_box w5 #[Value.int .u64 (dn : Nat), .int .i64 (dp : Nat)] 29 1 _ rfl)) (by simp)
    have rd7 := rd_RR rd6 rr6 gr7 (by omega)
    have bl7 : Below w.heap.size w w7 := bl_grown bl6 bl6.size gr7 (fun k hk => by have := bl5.size; simp at hk; omega)
    have bC : ∀ o, Below w7.heap.size w7 (w7.alloc o) := fun o => (Below.refl _ _).alloc (Nat.le_refl _) o
    have rr8 := fun o => rr7.below (bC o)
    have rd8 := fun o => Cd.rd_below rd7 (bC o)
    have bl8 := fun o => bl_step bl7 (bC o)
    have hat := at_some hsm
    have am := fun o => (rr8 o).cells.2.1
    have lA0 : w5.heap.size < w7.heap.size := World.block_lt_of_cell? w7 _ cA0
    have lA1 : w5.heap.size + 1 < w7.heap.size := rr7.lt
    have dA0 := fun o => ((bC o).cell (p := ⟨w5.heap.size, 0, none⟩) lA0).trans cA0
    have dA1 := fun o => ((bC o).cell (p := ⟨w5.heap.size, 1, none⟩) lA0).trans cA1
    clear rr6 bA rq6 rd6 bl6 up1 rd5 rq5 bl5 HSAME gr7
    have hleft := fun W (h1 : Cd.Rd W r st9) => Cd.left_rd W r st9 h1
    have hrl := fun W (h1 : Cd.RR W (w5.heap.size + 1) aq nq capq o') => Cd.refLeft_step W (w5.heap.size + 1) aq nq capq qs o' st9 hsm h1 hlq hnq
    cases st9 with
    | none =>
      have hat2 : (0 : Int) ≤ Cd.atOf o' ↔ False := by simpa using hat
      generalize Cd.atOf o' = aa at *
      have haf : ¬ ((0 : Int) ≤ aa) := fun hh => hat2.1 hh
      clear hat hat2 hleft hrl
      have blE := bl8 (.cells #[.int .u64 (dn : Nat), .int .i64 (dp : Nat)] 29)
      have had : decide ((0 : Int) ≤ aa) = false := by simpa using haf
      clear bl8 rr8 rd8 rr7 rd7 bl7
      go_wp2
      go_ret
      first | exact ⟨rfl, blE⟩ | exact ⟨ret_bool (by simp; omega), blE⟩ | exact ⟨ret_bool (by simp), blE⟩
    | some ys =>
      have hat2 : (0 : Int) ≤ Cd.atOf o' := by simpa using hat
      have hl8 := hleft _ (rd8 (.cells #[.int .u64 (dn : Nat), .int .i64 (dp : Nat)] 29))
      have hr8 := hrl _ (rr8 (.cells #[.int .u64 (dn : Nat), .int .i64 (dp : Nat)] 29))
      have blE := bl8 (.cells #[.int .u64 (dn : Nat), .int .i64 (dp : Nat)] 29)
      generalize Cd.rLeft (some ys) = lf at *
      clear hat hleft hrl bl8 rr8 rd8
      generalize Cd.atOf o' = aa at *
      go_wp2_with fail
      refine hl8.mono ?_
      rintro e w9 ⟨rfl, rfl⟩
      go_wp2_with fail
      refine hr8.mono ?_
      rintro e w9 ⟨rfl, hb9⟩
      have blF := bl_step blE hb9
      clear hr8 hb9 blE rr7 rd7 bl7
      go_wp2
      go_ret
      exact ⟨rfl, blF⟩
  | true =>
    have hp : 0 ≤ p ∧ p ≤ 15 := by
      have h2 : 0 ≤ p ∧ p ≤ (if N = 0 then 0 else 15) := by simpa [formV] using hfv
      have := h2.2
      split at this <;> omega
    obtain ⟨hp0, hp15⟩ := hp
    have hdec := dec_enc N hN p hfv
    have hpt : ((p.toNat : Nat) : Int) = p := Int.toNat_of_nonneg hp0
    have href := fun W => refForm_any W N p
    rw [hfv] at href
    have hrefE := fun W => refEncode_any W N hN p hp0 hp15
    have henc0 := fun W (hW : Cd.Row W ap np capp xs) => encode_any W ap np capp xs hW N hN p hfv (by omega)
    have hel := Cd.enc_length N
    unfold vid at href hrefE henc0
    have hxl : xs.length = np := HP.out.1
    go_enter Try.func5, Try.ntmps5
    go_wp2_with fail
    refine (awake_any _).mono ?_
    rintro e w1 ⟨rfl, hb1⟩
    have k0 := (hb1.cell (World.block_lt_of_cell? _ _ hbx0)).trans hbx0
    have k1 := (hb1.cell (World.block_lt_of_cell? _ _ hbx1)).trans hbx1
    have bl1 := bl_step bl0 hb1
    have rp1 := HP.out.below bl1 (Nat.le_refl _)
    go_wp2_with fail
    refine (henc0 _ rp1).mono ?_
    rintro e w2 ⟨v, rfl, hown, hb2⟩
    have m0 := (hb2.cell (World.block_lt_of_cell? _ _ k0)).trans k0
    have m1 := (hb2.cell (World.block_lt_of_cell? _ _ k1)).trans k1
    have bl2' := bl_step bl1 hb2
    obtain ⟨L, HL⟩ : ∃ L, Hid (np + (Cd.enc N).length + 1 = L) := ⟨_, rfl⟩
    obtain ⟨E, HE9⟩ : ∃ E, Hid ((Cd.enc N).length = E) := ⟨_, rfl⟩
    rw [HL.out] at hown
    rw [HE9.out] at hel
    have HLE : Hid (L = np + E + 1) := by have := HL.out; have := HE9.out; unfold Hid; omega
    have hL1 : np < L := by have := HLE.out; omega
    have hL2 : L ≤ np + 11 := by have := HLE.out; omega
    rcases hown.2 with ⟨_, h0⟩ | ⟨g, cq, cur, hv, hg, _, hc1, hc2, _, _⟩
    · omega
    unfold maxLen at hc2
    subst hv
    obtain ⟨ao', cap', hv', hrow, _⟩ := Cd.owns_row hown
    simp only [Value.slice.injEq] at hv'
    obtain ⟨rfl, _, rfl⟩ := hv'
    clear hown henc0 rp1 k0 k1 hb1 hb2 bl1 bl0 hbx0 hbx1
    go_wp2_with fail
    refine (href _).mono ?_
    rintro e w3 ⟨rfl, hb3⟩
    have n0 := (hb3.cell (World.block_lt_of_cell? _ _ m0)).trans m0
    have n1 := (hb3.cell (World.block_lt_of_cell? _ _ m1)).trans m1
    have bl3 := bl_step bl2' hb3
    have hrow3 := hrow.below hb3 (Nat.le_refl _)
    have hdrop : Cd.Row w3 (some ⟨g, np, none⟩) (L - np) (cq - np) (Cd.enc N ++ [pb p]) := by
      have := hrow3.drop_at np (by omega)
      rw [List.append_assoc, List.drop_left' hxl] at this
      simpa using this
    clear m0 m1 hrow hb3 bl2' href
    have hnpI : (np : Int) ≤ L := by omega
    go_wp2_with fail
    refine (Cd.newReader_any _ _ _ _ _ hdrop (by omega)).mono ?_
    rintro e w4 ⟨r1, rfl, hr1, rd4, hb4⟩
    have hs3' := bl3.size
    have hw3 : w.heap.size < w3.heap.size := World.block_lt_of_cell? w3 _ n0
    have bl4 := bl_step bl3 hb4
    have hrow4 := hrow3.below hb4 (Nat.le_refl _)
    have rp4 := HP.out.below bl4 (Nat.le_refl _)
    have q0 := (hb4.cell (World.block_lt_of_cell? _ _ n0)).trans n0
    have q1 := (hb4.cell (World.block_lt_of_cell? _ _ n1)).trans n1
    clear hdrop hrow3 n0 n1 bl3 hb4
    go_wp2_with fail
    have hdc := decode_rd w4 r1 _ rd4
    rw [hdec] at hdc
    simp only [vid, hpt] at hdc
    refine hdc.mono ?_
    rintro e w5 ⟨rfl, rd5, gr5⟩
    have bl5 : Below w.heap.size w w5 := bl_grown bl4 bl4.size gr5 (fun k hk => by simp at hk; omega)
    have hrow5 := Cd.row_kept hrow4 rd4 gr5
    have rp5 := Cd.row_kept rp4 rd4 gr5
    have s0 := gr5.cell q0 (by simp; omega)
    have s1 := gr5.cell q1 (by simp; omega)
    have hGA : Gs w (w5.alloc (.cells #[.int .u64 (N : Nat), .int .i64 p] 29)).drew w.heap.size w5.heap.size r1 g L cq ap np capp xs (xs ++ Cd.enc N ++ [pb p]) N p := by
      have bA : Below w5.heap.size w5 (w5.alloc (.cells #[.int .u64 (N : Nat), .int .i64 p] 29)).drew := ⟨rfl, rfl, rfl, by simp, fun k hk => Below.heap_alloc w5 _ k hk⟩
      exact ⟨hrow5.below bA (Nat.le_refl _), rp5.below bA (Nat.le_refl _), Cd.rd_below rd5 bA, bl_step bl5 bA, ⟨(bA.cell (World.block_lt_of_cell? _ _ s0)).trans s0, (bA.cell (World.block_lt_of_cell? _ _ s1)).trans s1⟩, cell_box w5 _ 29 0 _ rfl, cell_box w5 _ 29 1 _ rfl⟩
    have mk : ∀ wx, Gs w wx w.heap.size w5.heap.size r1 g L cq ap np capp xs (xs ++ Cd.enc N ++ [pb p]) N p → Gs w wx w.heap.size w5.heap.size r1 g L cq ap np capp xs (xs ++ Cd.enc N ++ [pb p]) N p ∧ (convert 34 9 (.slice (some ⟨g, 0, none⟩) L cq)).run Try.prog wx = .ok (.string (Cd.str (xs ++ (Cd.enc N ++ [pb p])))) wx ∧ (convert 34 9 (.slice ap np capp)).run Try.prog wx = .ok (.string (Cd.str xs)) wx ∧ (wx.cell? ⟨w.heap.size, 0, none⟩ = some (.int .u64 (N : Nat)) ∧ wx.cell? ⟨w.heap.size, 1, none⟩ = some (.int .i64 p)) ∧ (wx.cell? ⟨w5.heap.size, 0, none⟩ = some (.int .u64 (N : Nat)) ∧ wx.cell? ⟨w5.heap.size, 1, none⟩ = some (.int .i64 p)) := fun wx hx =>
      ⟨hx, by rw [← List.append_assoc]; exact Cd.conv_row hx.1, Cd.conv_row hx.2.1, hx.2.2.2.2.1, hx.2.2.2.2.2⟩
    have hadd : ∀ wx, (Op.stringOp .add (Cd.str xs) (Cd.str (Cd.enc N ++ [pb p]))).run Try.prog wx = .ok (.string (Cd.str (xs ++ (Cd.enc N ++ [pb p])))) wx := fun wx => Cd.add_run wx xs (Cd.enc N ++ [pb p]) (by have := HE9.out; simp; omega)
    clear rd4 gr5 bl4 hrow4 rp4 q0 q1 s0 s1 hrow5 rp5 bl5 rd5 hdc hdec HP
    go_wp2_with fail
    refine wp_region_noPanic ?_
    refine wp_region_held_drew (S := fun wx => Gs w wx w.heap.size w5.heap.size r1 g L cq ap np capp xs (xs ++ Cd.enc N ++ [pb p]) N p ∧ (convert 34 9 (.slice (some ⟨g, 0, none⟩) L cq)).run Try.prog wx = .ok (.string (Cd.str (xs ++ (Cd.enc N ++ [pb p])))) wx ∧ (convert 34 9 (.slice ap np capp)).run Try.prog wx = .ok (.string (Cd.str xs)) wx ∧ (wx.cell? ⟨w.heap.size, 0, none⟩ = some (.int .u64 (N : Nat)) ∧ wx.cell? ⟨w.heap.size, 1, none⟩ = some (.int .i64 p)) ∧ (wx.cell? ⟨w5.heap.size, 0, none⟩ = some (.int .u64 (N : Nat)) ∧ wx.cell? ⟨w5.heap.size, 1, none⟩ = some (.int .i64 p))) (by kernel_rfl) (mk _ hGA) (fun hHeld => ?_)
    refine take_first 0 (v := ?_) rfl (by kernel_rfl) (by kernel_rfl) (by kernel_rfl) (fun _ _ _ h => h) (Or.inl ⟨by rfl, by intro wx hSw; obtain ⟨hGs, hcv1, hcv2, ⟨hk0, hk1⟩, hk2, hk3⟩ := hSw; go_simp; try with_reducible rfl⟩) (by assumption) ?_
    (try simp only [Act.put, List.setIfInBounds_toArray, List.set_cons_zero, List.set_cons_succ])
    refine take_first 1 (v := ?_) rfl (by kernel_rfl) (by kernel_rfl) (by kernel_rfl) (fun _ _ _ h => h) (Or.inl ⟨by rfl, by intro wx hSw; obtain ⟨hGs, hcv1, hcv2, ⟨hk0, hk1⟩, hk2, hk3⟩ := hSw; go_simp; try with_reducible rfl⟩) (by assumption) ?_
    (try simp only [Act.put, List.setIfInBounds_toArray, List.set_cons_zero, List.set_cons_succ])
    refine take_first 2 (v := ?_) rfl (by kernel_rfl) (by kernel_rfl) (by kernel_rfl) (fun _ _ _ h => h) (Or.inl ⟨by rfl, by intro wx hSw; obtain ⟨hGs, hcv1, hcv2, ⟨hk0, hk1⟩, hk2, hk3⟩ := hSw; go_simp; try with_reducible rfl⟩) (by assumption) ?_
    (try simp only [Act.put, List.setIfInBounds_toArray, List.set_cons_zero, List.set_cons_succ])
    refine take_first 3 (v := ?_) rfl (by kernel_rfl) (by kernel_rfl) (by kernel_rfl) (fun _ _ _ h => h) (Or.inl ⟨by rfl, by intro wx hSw; obtain ⟨hGs, hcv1, hcv2, ⟨hk0, hk1⟩, hk2, hk3⟩ := hSw; go_simp; try with_reducible rfl⟩) (by assumption) ?_
    (try simp only [Act.put, List.setIfInBounds_toArray, List.set_cons_zero, List.set_cons_succ])
    refine take_first 4 (v := ?_) rfl (by kernel_rfl) (by kernel_rfl) (by kernel_rfl) (fun _ _ _ h => h) (Or.inl ⟨by rfl, by intro wx hSw; obtain ⟨hGs, hcv1, hcv2, ⟨hk0, hk1⟩, hk2, hk3⟩ := hSw; go_simp; try with_reducible rfl⟩) (by assumption) ?_
    (try simp only [Act.put, List.setIfInBounds_toArray, List.set_cons_zero, List.set_cons_succ])
    refine take_first 5 (v := ?_) rfl (by kernel_rfl) (by kernel_rfl) (by kernel_rfl) (fun _ _ _ h => h) (Or.inl ⟨by rfl, by intro wx hSw; obtain ⟨hGs, hcv1, hcv2, ⟨hk0, hk1⟩, hk2, hk3⟩ := hSw; go_simp; try with_reducible rfl⟩) (by assumption) ?_
    (try simp only [Act.put, List.setIfInBounds_toArray, List.set_cons_zero, List.set_cons_succ])
    refine take_first 6 (v := ?_) rfl (by kernel_rfl) (by kernel_rfl) (by kernel_rfl) (fun _ _ _ h => h) (Or.inl ⟨by rfl, by intro wx hSw; obtain ⟨hGs, hcv1, hcv2, ⟨hk0, hk1⟩, hk2, hk3⟩ := hSw; go_simp; try with_reducible rfl⟩) (by assumption) ?_
    (try simp only [Act.put, List.setIfInBounds_toArray, List.set_cons_zero, List.set_cons_succ])
    refine take_first 7 (v := ?_) rfl (by kernel_rfl) (by kernel_rfl) (by kernel_rfl) (fun _ _ _ h => h) (Or.inl ⟨by rfl, by intro wx hSw; obtain ⟨hGs, hcv1, hcv2, ⟨hk0, hk1⟩, hk2, hk3⟩ := hSw; go_simp; try with_reducible rfl⟩) (by assumption) ?_
    (try simp only [Act.put, List.setIfInBounds_toArray, List.set_cons_zero, List.set_cons_succ])
    refine comes_up 8 rfl (by kernel_rfl) (fun K hK => ?_)
    go_simp
    refine (hrefE _).mono ?_
    rintro e w6 ⟨v6, rfl, hown6, hb6⟩
    have hG6 := hGA.below hb6
    obtain ⟨ao6, cap6, hv6, hrow6, _⟩ := Cd.owns_row hown6
    subst hv6
    have hc6 := Cd.conv_row hrow6
    clear hown6 hrow6 hb6
    go_wp2_with fail
    refine hK.out _ _ (mk _ hG6) (fun hHeld => ?_)
    clear hK K
    (try simp only [Act.put, List.setIfInBounds_toArray, List.set_cons_zero, List.set_cons_succ])
    refine comes_up 9 rfl (by kernel_rfl) (fun K hK => ?_)
    go_simp
    refine hK.out _ _ (mk _ hG6) (fun hHeld => ?_)
    clear hK K
    (try simp only [Act.put, List.setIfInBounds_toArray, List.set_cons_zero, List.set_cons_succ])
    refine take_first 10 (v := .string (Cd.str (xs ++ (Cd.enc N ++ [pb p])))) rfl (by kernel_rfl) (by kernel_rfl) (by kernel_rfl) (fun _ _ _ h => h) (Or.inl ⟨by rfl, by intro wx hSw; obtain ⟨hGs, hcv1, hcv2, ⟨hk0, hk1⟩, hk2, hk3⟩ := hSw; go_simp; try with_reducible rfl⟩) (by assumption) ?_
    (try simp only [Act.put, List.setIfInBounds_toArray, List.set_cons_zero, List.set_cons_succ])
    refine take_first 11 (v := .bool false) rfl (by kernel_rfl) (by kernel_rfl) (by kernel_rfl) (fun _ _ _ h => h) (Or.inl ⟨by rfl, by intro wx hSw; obtain ⟨hGs, hcv1, hcv2, ⟨hk0, hk1⟩, hk2, hk3⟩ := hSw; go_simp; try with_reducible rfl⟩) (by assumption) ?_
    (try simp only [Act.put, List.setIfInBounds_toArray, List.set_cons_zero, List.set_cons_succ])
    refine take_first 12 (v := ?_) rfl (by kernel_rfl) (by kernel_rfl) (by kernel_rfl) (fun _ _ _ h => h) (Or.inl ⟨by rfl, by intro wx hSw; obtain ⟨hGs, hcv1, hcv2, ⟨hk0, hk1⟩, hk2, hk3⟩ := hSw; go_simp; try with_reducible rfl⟩) (by assumption) ?_
    (try simp only [Act.put, List.setIfInBounds_toArray, List.set_cons_zero, List.set_cons_succ])
    refine take_first 13 (v := ?_) rfl (by kernel_rfl) (by kernel_rfl) (by kernel_rfl) (fun _ _ _ h => h) (Or.inl ⟨by rfl, by intro wx hSw; obtain ⟨hGs, hcv1, hcv2, ⟨hk0, hk1⟩, hk2, hk3⟩ := hSw; go_simp; try with_reducible rfl⟩) (by assumption) ?_
    (try simp only [Act.put, List.setIfInBounds_toArray, List.set_cons_zero, List.set_cons_succ])
    refine take_first 14 (v := ?_) rfl (by kernel_rfl) (by kernel_rfl) (by kernel_rfl) (fun _ _ _ h => h) (Or.inl ⟨by rfl, by intro wx hSw; obtain ⟨hGs, hcv1, hcv2, ⟨hk0, hk1⟩, hk2, hk3⟩ := hSw; go_simp; try with_reducible rfl⟩) (by assumption) ?_
    (try simp only [Act.put, List.setIfInBounds_toArray, List.set_cons_zero, List.set_cons_succ])
    refine take_first 15 (v := ?_) rfl (by kernel_rfl) (by kernel_rfl) (by kernel_rfl) (fun _ _ _ h => h) (Or.inl ⟨by rfl, by intro wx hSw; obtain ⟨hGs, hcv1, hcv2, ⟨hk0, hk1⟩, hk2, hk3⟩ := hSw; go_simp; try with_reducible rfl⟩) (by assumption) ?_
    (try simp only [Act.put, List.setIfInBounds_toArray, List.set_cons_zero, List.set_cons_succ])
    refine take_first 16 (v := ?_) rfl (by kernel_rfl) (by kernel_rfl) (by kernel_rfl) (fun _ _ _ h => h) (Or.inl ⟨by rfl, by intro wx hSw; obtain ⟨hGs, hcv1, hcv2, ⟨hk0, hk1⟩, hk2, hk3⟩ := hSw; go_simp; try with_reducible rfl⟩) (by assumption) ?_
    (try simp only [Act.put, List.setIfInBounds_toArray, List.set_cons_zero, List.set_cons_succ])
    refine take_first 17 (v := ?_) rfl (by kernel_rfl) (by kernel_rfl) (by kernel_rfl) (fun _ _ _ h => h) (Or.inl ⟨by rfl, by intro wx hSw; obtain ⟨hGs, hcv1, hcv2, ⟨hk0, hk1⟩, hk2, hk3⟩ := hSw; go_simp; try with_reducible rfl⟩) (by assumption) ?_
    (try simp only [Act.put, List.setIfInBounds_toArray, List.set_cons_zero, List.set_cons_succ])
    refine take_first 18 (v := ?_) rfl (by kernel_rfl) (by kernel_rfl) (by kernel_rfl) (fun _ _ _ h => h) (Or.inl ⟨by rfl, by intro wx hSw; obtain ⟨hGs, hcv1, hcv2, ⟨hk0, hk1⟩, hk2, hk3⟩ := hSw; go_simp; try with_reducible rfl⟩) (by assumption) ?_
    (try simp only [Act.put, List.setIfInBounds_toArray, List.set_cons_zero, List.set_cons_succ])
    refine take_first 19 (v := ?_) rfl (by kernel_rfl) (by kernel_rfl) (by kernel_rfl) (fun _ _ _ h => h) (Or.inl ⟨by rfl, by intro wx hSw; obtain ⟨hGs, hcv1, hcv2, ⟨hk0, hk1⟩, hk2, hk3⟩ := hSw; go_simp; try with_reducible rfl⟩) (by assumption) ?_
    (try simp only [Act.put, List.setIfInBounds_toArray, List.set_cons_zero, List.set_cons_succ])
    refine take_first 20 (v := .bool false) rfl (by kernel_rfl) (by kernel_rfl) (by kernel_rfl) (fun _ _ _ h => h) (Or.inl ⟨by rfl, by intro wx hSw; obtain ⟨hGs, hcv1, hcv2, ⟨hk0, hk1⟩, hk2, hk3⟩ := hSw; go_simp; try with_reducible rfl⟩) (by assumption) ?_
    (try simp only [Act.put, List.setIfInBounds_toArray, List.set_cons_zero, List.set_cons_succ])
    refine take_first 21 (v := ?_) rfl (by kernel_rfl) (by kernel_rfl) (by kernel_rfl) (fun _ _ _ h => h) (Or.inl ⟨by rfl, by intro wx hSw; obtain ⟨hGs, hcv1, hcv2, ⟨hk0, hk1⟩, hk2, hk3⟩ := hSw; go_simp; try with_reducible rfl⟩) (by assumption) ?_
    (try simp only [Act.put, List.setIfInBounds_toArray, List.set_cons_zero, List.set_cons_succ])
    refine take_first 22 (v := ?_) rfl (by kernel_rfl) (by kernel_rfl) (by kernel_rfl) (fun _ _ _ h => h) (Or.inl ⟨by rfl, by intro wx hSw; obtain ⟨hGs, hcv1, hcv2, ⟨hk0, hk1⟩, hk2, hk3⟩ := hSw; go_simp; try with_reducible rfl⟩) (by assumption) ?_
    (try simp only [Act.put, List.setIfInBounds_toArray, List.set_cons_zero, List.set_cons_succ])
    refine take_first 23 (v := ?_) rfl (by kernel_rfl) (by kernel_rfl) (by kernel_rfl) (fun _ _ _ h => h) (Or.inl ⟨by rfl, by intro wx hSw; obtain ⟨hGs, hcv1, hcv2, ⟨hk0, hk1⟩, hk2, hk3⟩ := hSw; go_simp; try with_reducible rfl⟩) (by assumption) ?_
    (try simp only [Act.put, List.setIfInBounds_toArray, List.set_cons_zero, List.set_cons_succ])
    refine comes_up 24 rfl (by kernel_rfl) (fun K hK => ?_)
    go_simp
    refine (Cd.left_rd _ _ _ hG6.2.2.1).mono ?_
    rintro e w7 ⟨rfl, rfl⟩
    go_wp2_with fail
    refine hK.out _ _ (mk _ hG6) (fun hHeld => ?_)
    clear hK K
    (try simp only [Act.put, List.setIfInBounds_toArray, List.set_cons_zero, List.set_cons_succ])
    refine take_first 25 (v := .bool false) rfl (by kernel_rfl) (by kernel_rfl) (by kernel_rfl) (fun _ _ _ h => h) (Or.inl ⟨by rfl, by intro wx hSw; obtain ⟨hGs, hcv1, hcv2, ⟨hk0, hk1⟩, hk2, hk3⟩ := hSw; go_simp; rfl⟩) (by assumption) ?_
    (try simp only [Act.put, List.setIfInBounds_toArray, List.set_cons_zero, List.set_cons_succ])
    refine take_first 26 (v := ?_) rfl (by kernel_rfl) (by kernel_rfl) (by kernel_rfl) (fun _ _ _ h => h) (Or.inl ⟨by rfl, by intro wx hSw; obtain ⟨hGs, hcv1, hcv2, ⟨hk0, hk1⟩, hk2, hk3⟩ := hSw; go_simp; try with_reducible rfl⟩) (by assumption) ?_
    (try simp only [Act.put, List.setIfInBounds_toArray, List.set_cons_zero, List.set_cons_succ])
    refine take_first 27 (v := ?_) rfl (by kernel_rfl) (by kernel_rfl) (by kernel_rfl) (fun _ _ _ h => h) (Or.inl ⟨by rfl, by intro wx hSw; obtain ⟨hGs, hcv1, hcv2, ⟨hk0, hk1⟩, hk2, hk3⟩ := hSw; go_simp; try with_reducible rfl⟩) (by assumption) ?_
    (try simp only [Act.put, List.setIfInBounds_toArray, List.set_cons_zero, List.set_cons_succ])
    refine take_first 28 (v := ?_) rfl (by kernel_rfl) (by kernel_rfl) (by kernel_rfl) (fun _ _ _ h => h) (Or.inl ⟨by rfl, by intro wx hSw; obtain ⟨hGs, hcv1, hcv2, ⟨hk0, hk1⟩, hk2, hk3⟩ := hSw; go_simp; try with_reducible rfl⟩) (by assumption) ?_
    (try simp only [Act.put, List.setIfInBounds_toArray, List.set_cons_zero, List.set_cons_succ])
    refine comes_up 29 rfl (by kernel_rfl) (fun K hK => ?_)
    go_simp
    refine (Cd.bad_rd _ _ _ hG6.2.2.1).mono ?_
    rintro e w7 ⟨rfl, rfl⟩
    go_wp2_with fail
    refine hK.out _ _ (mk _ hG6) (fun hHeld => ?_)
    clear hK K
    (try simp only [Act.put, List.setIfInBounds_toArray, List.set_cons_zero, List.set_cons_succ])
    refine take_first 30 (v := ?_) rfl (by kernel_rfl) (by kernel_rfl) (by kernel_rfl) (fun _ _ _ h => h) (Or.inl ⟨by rfl, by intro wx hSw; obtain ⟨hGs, hcv1, hcv2, ⟨hk0, hk1⟩, hk2, hk3⟩ := hSw; go_simp; try with_reducible rfl⟩) (by assumption) ?_
    (try simp only [Act.put, List.setIfInBounds_toArray, List.set_cons_zero, List.set_cons_succ])
    refine wpAnyH_done (by kernel_rfl) ?_ _
    refine NoPanic.normal ?_
    have bl3 := hG6.2.2.2.1
    have rq3 := HQ.out.below bl3 (Nat.le_refl _)
    clear hG6 hGA mk hadd hc6 hrefE hr1 hw3 hs3' HL HE9 HLE hL1 hL2 hg hc1 hc2 hxl hel hnpI
    go_wp2_with fail
    have hs3 := bl3.size
    refine (Cd.newReader_any _ _ _ _ _ rq3 hnq).mono ?_
    rintro e w4 ⟨r, rfl, hr4, rd4, hb4⟩
    have bl4 := bl_step bl3 hb4
    have rq4 := rq3.below hb4 (Nat.le_refl _)
    clear rq3 hb4 bl3
    go_wp2_with fail
    refine (decode_rd _ r _ rd4).mono ?_
    rintro e w5 ⟨rfl, rd5, gr5⟩
    have hr45 : r < w4.heap.size := rd4.lt
    have rq5 := Cd.row_kept rq4 rd4 gr5
    have hwr : w.heap.size ≤ r := Nat.le_trans hs3 hr4
    have bl5 : Below w.heap.size w w5 := bl_grown bl4 bl4.size gr5 (fun k hk => by simp at hk; omega)
    clear rd4 rq4 gr5 bl4
    have HSAME : ∀ W M, Cd.RR W M aq nq capq (some 0) → Cd.Row W aq nq capq qs → Calls Try.prog 21 #[.pointer (some ⟨M, 0, none⟩)] W _ := fun W M h1 h2 => refDecode_step W M aq nq capq qs (some 0) (some qs) hdq h1 h2 hnq
    unfold vid at HSAME ⊢
    generalize (decV (some qs)).1.1 = dn at *
    generalize (decV (some qs)).1.2 = dp at *
    generalize (decV (some qs)).2 = st9 at *
    go_wp2_with fail
    have rr6 : Cd.RR ((w5.alloc (.cells #[.int .u64 (dn : Nat), .int .i64 (dp : Nat)] 29)).alloc (.cells #[.slice aq nq capq, .int .i64 0] 46)) (w5.heap.size + 1) aq nq capq (some 0) := by
      have := heap_alloc_new (w5.alloc (.cells #[.int .u64 (dn : Nat), .int .i64 (dp : Nat)] 29)) (.cells #[.slice aq nq capq, .int .i64 0] 46)
      simpa [Cd.RR, Cd.atOf] using this
    have bA : Below w5.heap.size w5 ((w5.alloc (.cells #[.int .u64 (dn : Nat), .int .i64 (dp : Nat)] 29)).alloc (.cells #[.slice aq nq capq, .int .i64 0] 46)) := bl2 _ _ _
    have rq6 := rq5.below bA (Nat.le_refl _)
    have rd6 := Cd.rd_below rd5 bA
    have bl6 := bl_step bl5 bA
    have hrlt : r < w5.heap.size := rd5.lt
    have up1 : ∀ {ad v}, (w5.alloc (.cells #[.int .u64 (dn : Nat), .int .i64 (dp : Nat)] 29)).cell? ad = some v → ((w5.alloc (.cells #[.int .u64 (dn : Nat), .int .i64 (dp : Nat)] 29)).alloc (.cells #[.slice aq nq capq, .int .i64 0] 46)).cell? ad = some v := fun {ad v} hh => (((Below.refl _ _).alloc (Nat.le_refl _) _).cell (World.block_lt_of_cell? _ _ hh)).trans hh
    refine (HSAME _ _ rr6 rq6).mono ?_
    rintro e w7 ⟨rfl, o', hsm, rr7, gr7⟩
    have cA0 := gr7.cell (up1 (cell_box w5 #[Value.int .u64 (dn : Nat), .int .i64 (dp : Nat)] 29 0 _ rfl)) (by simp)
    have cA1 := gr7.cell (up1 (cell_box w5 #[Value.int .u64 (dn : Nat), .int .i64 (dp : Nat)] 29 1 _ rfl)) (by simp)
    have rd7 := rd_RR rd6 rr6 gr7 (by omega)
    have bl7 : Below w.heap.size w w7 := bl_grown bl6 bl6.size gr7 (fun k hk => by have := bl5.size; simp at hk; omega)
    have bC : ∀ o, Below w7.heap.size w7 (w7.alloc o) := fun o => (Below.refl _ _).alloc (Nat.le_refl _) o
    have rr8 := fun o => rr7.below (bC o)
    have rd8 := fun o => Cd.rd_below rd7 (bC o)
    have bl8 := fun o => bl_step bl7 (bC o)
    have hat := at_some hsm
    have am := fun o => (rr8 o).cells.2.1
    have lA0 : w5.heap.size < w7.heap.size := World.block_lt_of_cell? w7 _ cA0
    have lA1 : w5.heap.size + 1 < w7.heap.size := rr7.lt
    have dA0 := fun o => ((bC o).cell (p := ⟨w5.heap.size, 0, none⟩) lA0).trans cA0
    have dA1 := fun o => ((bC o).cell (p := ⟨w5.heap.size, 1, none⟩) lA0).trans cA1
    clear rr6 bA rq6 rd6 bl6 up1 rd5 rq5 bl5 HSAME gr7
    have hleft := fun W (h1 : Cd.Rd W r st9) => Cd.left_rd W r st9 h1
    have hrl := fun W (h1 : Cd.RR W (w5.heap.size + 1) aq nq capq o') => Cd.refLeft_step W (w5.heap.size + 1) aq nq capq qs o' st9 hsm h1 hlq hnq
    cases st9 with
    | none =>
      have hat2 : (0 : Int) ≤ Cd.atOf o' ↔ False := by simpa using hat
      generalize Cd.atOf o' = aa at *
      have haf : ¬ ((0 : Int) ≤ aa) := fun hh => hat2.1 hh
      clear hat hat2 hleft hrl
      have blE := bl8 (.cells #[.int .u64 (dn : Nat), .int .i64 (dp : Nat)] 29)
      have had : decide ((0 : Int) ≤ aa) = false := by simpa using haf
      clear bl8 rr8 rd8 rr7 rd7 bl7
      go_wp2
      go_ret
      first | exact ⟨rfl, blE⟩ | exact ⟨ret_bool (by simp; omega), blE⟩ | exact ⟨ret_bool (by simp), blE⟩
    | some ys =>
      have hat2 : (0 : Int) ≤ Cd.atOf o' := by simpa using hat
      have hl8 := hleft _ (rd8 (.cells #[.int .u64 (dn : Nat), .int .i64 (dp : Nat)] 29))
      have hr8 := hrl _ (rr8 (.cells #[.int .u64 (dn : Nat), .int .i64 (dp : Nat)] 29))
      have blE := bl8 (.cells #[.int .u64 (dn : Nat), .int .i64 (dp : Nat)] 29)
      generalize Cd.rLeft (some ys) = lf at *
      clear hat hleft hrl bl8 rr8 rd8
      generalize Cd.atOf o' = aa at *
      go_wp2_with fail
      refine hl8.mono ?_
      rintro e w9 ⟨rfl, rfl⟩
      go_wp2_with fail
      refine hr8.mono ?_
      rintro e w9 ⟨rfl, hb9⟩
      have blF := bl_step blE hb9
      clear hr8 hb9 blE rr7 rd7 bl7
      go_wp2
      go_ret
      exact ⟨rfl, blF⟩

set_option maxRecDepth 100000 in
theorem lifted (os : Os) (started : os.Started) (H : Type) (enc : TypeId × Value → H) :
    ReturnsInHanded {} Try.checked os 5 .any (Rows.identCodesSpec.pre6 enc Try.prog Try.f5 Rows.identCodesRow.domain false) (Rows.identCodesSpec.post enc Try.prog Try.f5 false true false false) := by
  refine returnsInHanded_of_change_sized (C := Try.checked) own started (by kernel_rfl) Try.func5
    (ChangeSpec.witness6 (enc := enc) (C := Try.checked) false ⟨#[], #[.agg #[.int .u64 0, .int .i64 0], .slice none 0 0, .slice none 0 0], []⟩ 8 (by kernel_rfl) (by kernel_rfl) (by kernel_rfl) (by kernel_rfl)) ?_
  intro W base args ds gs before hval0 hW hcnd hsz0 _
  have hsz : (DataW.weightsEach Try.prog (Try.f5.params.toList ++ Rows.identCodesSpec.plain.varTypes Try.prog) (ds ++ gs)).all (· ≤ reachBytes) = true := hsz0
  have hval : ∀ (j : Nat) t v, Try.f5.params[j]? = some t → args[j]? = some v → Value.okWide Try.prog W .any base t v := hval0
  have hW' := hW
  obtain ⟨p, q, hA0, hV, rfl, hfz, hnd⟩ := hW
  have hA : DataW.TrodAll enc Try.prog W 0 (fun _ => true) true Try.f5.params.toList args.toList ds p := hA0
  rw [Try.params5] at hA hval hsz
  obtain ⟨v0, vs0, d0, ds0, p0, q0, hargs, rfl, rfl, h0, r0⟩ := trodAll_cons hA
  obtain ⟨v1, vs1, d1, ds1, p1, q1, rfl, rfl, rfl, h1, r1⟩ := trodAll_cons r0
  obtain ⟨v2, vs2, d2, ds2, p2, q2, rfl, rfl, rfl, h2, r2⟩ := trodAll_cons r1
  obtain ⟨rfl, rfl, rfl⟩ := trodAll_nil r2
  obtain rfl : args = #[v0, v1, v2] := by cases args; simp_all
  obtain ⟨rfl, rfl⟩ := trodVars_none hV
  obtain ⟨a1, len1, cap1, rfl⟩ := okWide_slice Try.underlying34 (hval 1 34 v1 rfl rfl)
  obtain ⟨a2, len2, cap2, rfl⟩ := okWide_slice Try.underlying34 (hval 2 34 v2 rfl rfl)
  have k1 := h1
  have lt1 : ∀ x ∈ p1, x.block < W.heap.size := by obtain ⟨m, hm⟩ := k1; exact DataW.trod_lt m _ _ _ hm
  have k2 := h2
  have lt2 : ∀ x ∈ p2, x.block < W.heap.size := by obtain ⟨m, hm⟩ := k2; exact DataW.trod_lt m _ _ _ hm
  obtain ⟨xs1, hrow1, hcap1⟩ := Cd.open_bytes h1 hsz (j := 1) rfl rfl
  obtain ⟨xs2, hrow2, hcap2⟩ := Cd.open_bytes h2 hsz (j := 2) rfl rfl
  clear hsz hsz0
  obtain ⟨c0a, c0b, y0a, y0b, m0, rfl, rfl, rfl, hy0a, hy0b⟩ := open_agg2 Try.underlying29 (by kernel_rfl) cells29 (hval 0 29 v0 rfl rfl) h0
  obtain ⟨n0', e0a, rfl, w0a⟩ := DataW.trod_int Try.underlying27 hy0a
  obtain ⟨q0', e0b, rfl, w0b⟩ := DataW.trod_int Try.underlying3 hy0b
  simp at e0a e0b
  subst e0a e0b
  clear hA0 hval0
  obtain ⟨n0, rfl, hn0⟩ := u64_of_wf w0a
  refine (walk W n0 hn0 q0' (in_of_wf w0b) a1 len1 cap1 xs1 hrow1 (by have := hrow1.2.1; omega) a2 len2 cap2 xs2 hrow2 (by have := hrow2.2.1; omega)).mono fun e W' ⟨he, bel⟩ => ?_
  subst he
  exact ⟨_, rfl, _, _, _, [], _, [], hW', trodAll_mk1 (shut_bool Try.underlying4 _), (trodAll_cons_mk (shut_vid w0a w0b) (trodAll_cons_mk (Below.trod Cd.laidOut (by kernel_rfl) (of_decide_eq_true (by kernel_rfl)) k1 bel lt1) (trodAll_cons_mk (Below.trod Cd.laidOut (by kernel_rfl) (of_decide_eq_true (by kernel_rfl)) k2 bel lt2) trodAll_mk0))), rfl, bel.frame _, fun h => by cases h⟩

theorem over : Rows.identCodesRow.holds Try.pinned (OpenSpec.ofChange Rows.identCodesSpec) :=
  OpenClaim.holds_of_wide 5 Try.f5 rfl rfl rfl rfl rfl rfl rfl ⟨rfl, rfl, rfl, rfl, rfl⟩ rfl rfl rfl rfl rfl (by kernel_rfl) Try.func5 (by kernel_rfl)
    (of_decide_eq_true (by kernel_rfl)) (by unfold Func.isWrapper; first | (rw [if_pos (by decide +kernel)]; kernel_rfl) | (rw [if_neg (by decide +kernel)]; exact ⟨rfl, rfl⟩))
    (fun os started H enc _ => lifted os started H enc)

end Go.Proofs.Ytlahdemhigcjnaa.identCodes
namespace Go.Proofs.Ytlahdemhigcjnaa
theorem identCodes_holds : Rows.IdentCodesSaid := identCodes.over
#print axioms identCodes_holds
end Go.Proofs.Ytlahdemhigcjnaa
