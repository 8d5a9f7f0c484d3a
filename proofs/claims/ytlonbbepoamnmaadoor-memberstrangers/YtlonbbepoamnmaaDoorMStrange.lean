/-
  A frame from nobody, or from oneself, or of no kind (MemberStrangers).
-/
import Derived.Test.YtlonbbepoamnmaaDoorMGreat
import Derived.Test.YtlonbbepoamnmaaDoorMReads
import Derived.Test.YtlonbbepoamnmaaDoorMAwake
namespace Go.Proofs.YtlonbbepoamnmaaDoor
open Go.RowKit
set_option linter.unusedVariables false

theorem hasN_nat2 {i : Nat} (s : Nat) (hi : i < 16) : hasN s (i : Int) = s.testBit i := by simp [hasN]; omega
theorem high_bit2 {s x : Nat} (hs : s < 65536) (hx : 16 ≤ x) : s.testBit x = false :=
  Nat.testBit_lt_two_pow (Nat.lt_of_lt_of_le hs (by have := Nat.pow_le_pow_right (show 0 < 2 by omega) hx; omega))
theorem withoutN_bit2 (s k x : Nat) (hs : s < 65536) (hk : k < 16) : (withoutN s (k : Int)).testBit x = (s.testBit x && !decide (k = x)) := by
  unfold withoutN onlyN
  rw [if_pos (by omega), Int.toNat_natCast]
  have hp : 2 ^ k ≤ 32768 := by have := Nat.pow_le_pow_right (show 0 < 2 by omega) (show k ≤ 15 by omega); omega
  have e : 65535 - 2 ^ k = 2 ^ 16 - (2 ^ k + 1) := by omega
  rw [Nat.testBit_and, e, Nat.testBit_two_pow_sub_succ (by omega), Nat.testBit_two_pow]
  by_cases hx : x < 16
  · simp [hx]
  · simp [high_bit2 hs (by omega : 16 ≤ x)]
theorem node_has {k i : Nat} (hk : k ≤ 16) (hi : i < k) (f : Int) : hasN (withoutN (2 ^ k - 1) (i : Int)) f = decide (0 ≤ f ∧ f < k ∧ f ≠ i) := by
  have hpow : 2 ^ k ≤ 65536 := Nat.pow_le_pow_right (n := 2) (j := 16) (by omega) hk
  by_cases h : 0 ≤ f ∧ f < 16
  · obtain ⟨j, rfl⟩ : ∃ j : Nat, f = (j : Int) := ⟨f.toNat, by omega⟩
    rw [hasN_nat2 _ (by omega), withoutN_bit2 _ _ _ (by have := Nat.one_le_two_pow (n := k); omega) (by omega), Nat.testBit_two_pow_sub_one]
    by_cases h1 : j < k <;> by_cases h2 : i = j <;> simp [h1, h2] <;> omega
  · have : ¬ (0 ≤ f ∧ f < k ∧ f ≠ i) := by omega
    simp only [this, decide_false]
    unfold hasN
    by_cases h0 : 0 ≤ f
    · have : ¬ f < 16 := by omega
      simp [this]
    · simp [h0]
/-- What a node without a view answers. -/
theorem inn_far {k i : Nat} (hk : k ≤ 16) (hi : i < k) (F : PF) (d : Sd) (h : ¬ (0 ≤ F.frm ∧ F.frm < k ∧ F.frm ≠ i)) : (newM k i).inn F d = ⟨newM k i, [], none, 1⟩ := by
  unfold Mm.inn
  rw [if_pos]
  show hasN (withoutN (2 ^ k - 1) (i : Int)) F.frm = false
  rw [node_has hk hi]; simp only [h, decide_false]
theorem inn_kind {k i : Nat} (hk : k ≤ 16) (hi : i < k) (F : PF) (d : Sd) (h : 0 ≤ F.frm ∧ F.frm < k ∧ F.frm ≠ i) (hkd : F.kind < 1 ∨ 5 < F.kind) : (newM k i).inn F d = ⟨newM k i, [], none, 3⟩ := by
  unfold Mm.inn
  rw [if_neg (by show ¬ hasN (withoutN (2 ^ k - 1) (i : Int)) F.frm = false; rw [node_has hk hi, decide_eq_true h]; simp), if_neg (by omega), if_neg (by omega), if_neg (by omega), if_neg (by omega), if_neg (by omega)]
theorem inn_none {k i : Nat} (F : PF) (d : Sd) : ((newM k i).inn F d).inst = none ∧ ((newM k i).inn F d).m.cur = (0, 0) ∧ ((newM k i).inn F d).m.cset = 0 := by
  unfold Mm.inn
  split
  · exact ⟨rfl, rfl, rfl⟩
  split
  · exact ⟨rfl, rfl, rfl⟩
  split
  · have e : ((newM k i).took F).cur = (0, 0) ∧ ((newM k i).took F).cset = 0 := by unfold Mm.took; split <;> exact ⟨rfl, rfl⟩
    unfold Mm.proposed
    split
    · exact ⟨rfl, rfl, rfl⟩
    split
    · exact ⟨rfl, e⟩
    · exact ⟨rfl, e⟩
  split
  · exact ⟨rfl, rfl, rfl⟩
  split
  · exact ⟨rfl, rfl, rfl⟩
  split
  · unfold Mm.committed
    rw [if_pos (by
      by_cases h : F.id = (0, 0)
      · exact .inr (.inl h)
      · exact .inl h)]
    exact ⟨rfl, rfl, rfl⟩
  · exact ⟨rfl, rfl, rfl⟩
theorem outs_nil {w : World} {Z : Nat → Prop} {v : Value} (h : OutsIs w Z v []) : ∃ (u : Option Addr × Nat), v = .slice u.1 0 u.2 := by
  obtain ⟨L, l1, l2, _⟩ := h
  match L, l1 with
  | [], _ =>
    obtain ⟨_, ⟨rfl, _⟩ | ⟨g, cap, cur, rfl, _⟩⟩ := l2
    · exact ⟨(none, 0), rfl⟩
    · exact ⟨(some ⟨g, 0, none⟩, cap), rfl⟩

set_option maxRecDepth 20000 in
set_option maxHeartbeats 4000000 in
theorem strange_walk (w : World) (tab : Tab w) (n0 : Nat) (hn0 : n0 < 256) (n1 : Nat) (hn1 : n1 < 256) (F : PF) (a : Fa) (h : FArg w F a) : Calls Tryd.prog 10 #[.int .u8 (n0 : Nat), .int .u8 (n1 : Nat), fval F a] w fun e w' => e = .returned (.bool true) ∧ Below w.heap.size w w' := by
  obtain ⟨k, hk⟩ : ∃ k, 1 + n0 % 16 = k := ⟨_, rfl⟩
  obtain ⟨i, hi⟩ : ∃ i, n1 % k = i := ⟨_, rfl⟩
  have k1 : 1 ≤ k := by omega
  have k16 : k ≤ 16 := by omega
  have hik : i < k := by rw [← hi]; exact Nat.mod_lt _ (by omega)
  have e1 : (1 : Int) + (n0 : Int) % 16 = (k : Int) := by omega
  have e2 : (n1 : Int) % (k : Int) = (i : Int) := by rw [← hi]; exact (Int.natCast_emod _ _).symm
  have HE : Hid ((1 : Int) + (n0 : Int) % 16 = (k : Int) ∧ (n1 : Int) % (k : Int) = (i : Int)) := ⟨e1, e2⟩
  clear e1 e2
  have k0 : ¬ ((k : Int) = 0) := by omega
  obtain ⟨w0, hw0⟩ : ∃ w0, w.alloc (.cells (fcells F a) 43) = w0 := ⟨_, rfl⟩
  have b0 : Below w.heap.size w w0 := by rw [← hw0]; exact bl1 _ _
  have d : Bfr w.heap.size F a w0 := by rw [← hw0]; exact bfr_new _ _ _
  have tab0 := tab.below b0 tab.lt
  have ha := awake_any w0 tab0
  have HU : Hid (Below w.heap.size w w0 ∧ w.heap.size ≤ w0.heap.size ∧ Tab w0) := ⟨b0, b0.size, tab0⟩
  have HD : Hid (Bfr w.heap.size F a w0) := d
  have HF : Hid (FArg w F a) := h
  have HK : Hid (1 + n0 % 16 = k ∧ n1 % k = i) := ⟨hk, hi⟩
  clear h d b0 tab0 hk hi
  unfold fval
  unfold fcells at hw0 ⊢
  go_enter Tryd.func10, Tryd.ntmps10
  go_wp2_with fail
  refine ha.mono ?_
  rintro e w1 ⟨rfl, b1⟩
  have HU1 : Hid (Below w.heap.size w w1 ∧ w.heap.size ≤ w1.heap.size ∧ Tab w1) := ⟨Up.below HU.out.1 HU.out.2.1 b1, Nat.le_trans HU.out.2.1 b1.size, HU.out.2.2.below b1 HU.out.2.2.lt⟩
  have HD1 : Hid (Bfr w.heap.size F a w1) := HD.out.up b1
  have hgr := great_any w1 F a (HF.out.keep (Kp.up HU1.out.1))
  have d0 := HD1.out 0 _ rfl
  have d1 := HD1.out 1 _ rfl
  have d2 := HD1.out 2 _ rfl
  have d3 := HD1.out 3 _ rfl
  have d4 := HD1.out 4 _ rfl
  have d5 := HD1.out 5 _ rfl
  have d6 := HD1.out 6 _ rfl
  have d7 := HD1.out 7 _ rfl
  have d8 := HD1.out 8 _ rfl
  have d9 := HD1.out 9 _ rfl
  have d10 := HD1.out 10 _ rfl
  have d11 := HD1.out 11 _ rfl
  have d12 := HD1.out 12 _ rfl
  have d13 := HD1.out 13 _ rfl
  have d14 := HD1.out 14 _ rfl
  clear ha b1 HU HD
  unfold fval fcells at hgr
  go_wp2_with fail
  refine hgr.mono ?_
  rintro e w2 ⟨⟨r, rfl⟩, u2⟩
  clear hgr d0 d1 d2 d3 d4 d5 d6 d7 d8 d9 d10 d11 d12 d13 d14
  have HU2 : Hid (Below w.heap.size w w2 ∧ w.heap.size ≤ w2.heap.size ∧ Tab w2) := ⟨Up.below HU1.out.1 HU1.out.2.1 u2.bl, Nat.le_trans HU1.out.2.1 u2.bl.size, HU1.out.2.2.below u2.bl HU1.out.2.2.lt⟩
  have HD2 : Hid (Bfr w.heap.size F a w2) := HD1.out.up u2.bl
  clear u2 HU1 HD1
  cases r with
  | true =>
    go_wp2_with fail
    refine (awake_any w2 HU2.out.2.2).mono ?_
    rintro e w3 ⟨rfl, b3⟩
    have HX : Hid (Below w.heap.size w w3) := Up.below HU2.out.1 HU2.out.2.1 b3
    clear b3
    go_wp2
    go_ret
    exact ⟨rfl, HX.out⟩
  | false =>
    have hnew := new_any w2 k i k1 k16 hik
    go_wp2_with fail
    rw [HE.out.1, HE.out.2]
    refine hnew.mono ?_
    rintro e w3 ⟨q, rfl, hN⟩
    have h3 := hN.mb (fun b => b < w.heap.size) (fun b hb => Nat.lt_of_lt_of_le hb HU2.out.2.1) HU2.out.2.2 (by omega) (by omega)
    have hb3 := Up.below HU2.out.1 HU2.out.2.1 hN.b
    have hss : Ss (fun b => b < w.heap.size) w3 a.so F.st.length F.st := (HF.out.st.imp (q := fun b => b < w.heap.size) (fun b hb _ => hb)).keep (Kp.up hb3)
    have hin := in_any h3 F a hss HF.out.stl HF.out.se (0, 0, 0, none, 0, 0) zd (Si.nil _ _ _ _ _ _)
    have HQ : Hid (w.heap.size ≠ q) := by
      have hl := World.block_lt_of_cell? _ _ (HD2.out 0 _ rfl)
      have h0 : w.heap.size < w2.heap.size := hl
      have := hN.hq
      show w.heap.size ≠ q
      omega
    have HB3 : Hid (Below w.heap.size w w3 ∧ w.heap.size ≤ w3.heap.size ∧ ∀ b, b = q → w.heap.size ≤ b) := ⟨hb3, hb3.size, fun b hb => by have := hN.hq; have := HU2.out.2.1; omega⟩
    have d := HD2.out.up hN.b
    have HD3 : Hid (Bfr w.heap.size F a w3) := d
    have d0 := d 0 _ rfl
    have d1 := d 1 _ rfl
    have d2 := d 2 _ rfl
    have d3 := d 3 _ rfl
    have d4 := d 4 _ rfl
    have d5 := d 5 _ rfl
    have d6 := d 6 _ rfl
    have d7 := d 7 _ rfl
    have d8 := d 8 _ rfl
    have d9 := d 9 _ rfl
    have d10 := d 10 _ rfl
    have d11 := d 11 _ rfl
    have d12 := d 12 _ rfl
    have d13 := d 13 _ rfl
    have d14 := d 14 _ rfl
    clear hnew hN h3 hss d hb3
    unfold fval fcells sta at hin
    go_wp2_with fail
    refine hin.mono ?_
    rintro e w4 ⟨v, iv, rfl, F4, Z4, o4, sp4, h4, ho4, hi4⟩
    have HB4 : Hid (Below w.heap.size w w4 ∧ w.heap.size ≤ w4.heap.size ∧ ∀ b, F4 b → w.heap.size ≤ b) := below_sp HB3.out.1 HB3.out.2.1 sp4 HB3.out.2.2
    have d : Bfr w.heap.size F a w4 := fun j u hj => by
      have hc := HD3.out j u hj
      exact (cell_block (sp4.turned.block _ (World.block_lt_of_cell? _ _ hc) HQ.out)).trans hc
    have c0 : w4.cell? ⟨w.heap.size, 0, none⟩ = some (.int .u8 (F.kind : Nat)) := d 0 _ rfl
    have c1 : w4.cell? ⟨w.heap.size, 1, none⟩ = some (.int .i64 F.frm) := d 1 _ rfl
    have v0 := fun W => view_equal 0 0 0 0 0 0 W
    have v1 := fun W => vid_equal 0 0 0 0 W
    simp only [and_self, decide_true, Int.natCast_zero] at v0 v1
    have eF : (⟨F.kind, F.frm, F.idN, F.idP, F.set, F.curN, F.curP, F.promN, F.promP, F.st, F.base, F.ms, F.it, F.ack, F.safe⟩ : PF) = F := rfl
    have hcase : F.frm < 0 ∨ (¬ F.frm < 0 ∧ (k : Int) ≤ F.frm) ∨ (¬ F.frm < 0 ∧ ¬ (k : Int) ≤ F.frm ∧ F.frm = (i : Int)) ∨ (¬ F.frm < 0 ∧ ¬ (k : Int) ≤ F.frm ∧ ¬ F.frm = (i : Int) ∧ (F.kind < 1 ∨ (¬ F.kind < 1 ∧ 5 < F.kind) ∨ (¬ F.kind < 1 ∧ ¬ 5 < F.kind))) := by omega
    clear d d0 d1 d2 d3 d4 d5 d6 d7 d8 d9 d10 d11 d12 d13 d14 hin HB3 sp4 HD2 HD3 HU2
    rcases hcase with hc | ⟨hc0, hc⟩ | ⟨hc0, hc1, hc⟩ | ⟨hc0, hc1, hc2, hk | ⟨hk0, hk⟩ | ⟨hk0, hk⟩⟩
    · rw [inn_far k16 hik F zd (by omega)] at ho4 hi4 h4 ⊢
      obtain ⟨⟨x1, x2⟩, rfl⟩ := outs_nil ho4
      have hiv : iv = .pointer none := hi4
      subst hiv
      have hpr := prom_any h4
      clear ho4 hi4 h4
      go_wp2_with fail
      (try rw [HE.out.1])
      (try rw [HE.out.2])
      refine hpr.mono ?_
      rintro e w5 ⟨rfl, u5⟩
      have HX : Hid (Below w.heap.size w w5) := Up.below HB4.out.1 HB4.out.2.1 u5.bl
      clear u5 hpr
      unfold vid newM
      go_wp2
      go_ret
      exact ⟨rfl, HX.out⟩
    · rw [inn_far k16 hik F zd (by omega)] at ho4 hi4 h4 ⊢
      obtain ⟨⟨x1, x2⟩, rfl⟩ := outs_nil ho4
      have hiv : iv = .pointer none := hi4
      subst hiv
      have hpr := prom_any h4
      clear ho4 hi4 h4
      go_wp2_with fail
      (try rw [HE.out.1])
      (try rw [HE.out.2])
      refine hpr.mono ?_
      rintro e w5 ⟨rfl, u5⟩
      have HX : Hid (Below w.heap.size w w5) := Up.below HB4.out.1 HB4.out.2.1 u5.bl
      clear u5 hpr
      unfold vid newM
      go_wp2
      go_ret
      exact ⟨rfl, HX.out⟩
    · rw [inn_far k16 hik F zd (by omega)] at ho4 hi4 h4 ⊢
      obtain ⟨⟨x1, x2⟩, rfl⟩ := outs_nil ho4
      have hiv : iv = .pointer none := hi4
      subst hiv
      have hpr := prom_any h4
      clear ho4 hi4 h4
      go_wp2_with fail
      (try rw [HE.out.1])
      (try rw [HE.out.2])
      refine hpr.mono ?_
      rintro e w5 ⟨rfl, u5⟩
      have HX : Hid (Below w.heap.size w w5) := Up.below HB4.out.1 HB4.out.2.1 u5.bl
      clear u5 hpr
      unfold vid newM
      go_wp2
      go_ret
      exact ⟨rfl, HX.out⟩
    · have hc3 : (F.frm == (i : Int)) = false := by simpa using hc2
      have hc4 : decide (F.frm = (i : Int)) = false := decide_eq_false hc2
      have hkI : (F.kind : Int) < 1 := by omega
      rw [inn_kind k16 hik F zd (by omega) (by omega)] at ho4 hi4 h4 ⊢
      obtain ⟨⟨x1, x2⟩, rfl⟩ := outs_nil ho4
      have hiv : iv = .pointer none := hi4
      subst hiv
      have hpr := prom_any h4
      clear ho4 hi4 h4
      go_wp2_with fail
      (try rw [HE.out.1])
      (try rw [HE.out.2])
      refine hpr.mono ?_
      rintro e w5 ⟨rfl, u5⟩
      have HX : Hid (Below w.heap.size w w5) := Up.below HB4.out.1 HB4.out.2.1 u5.bl
      clear u5 hpr
      unfold vid newM
      go_wp2
      go_ret
      exact ⟨rfl, HX.out⟩
    · have hc3 : (F.frm == (i : Int)) = false := by simpa using hc2
      have hc4 : decide (F.frm = (i : Int)) = false := decide_eq_false hc2
      have hkI : ¬ (F.kind : Int) < 1 := by omega
      have hkJ : (5 : Int) < (F.kind : Int) := by omega
      rw [inn_kind k16 hik F zd (by omega) (by omega)] at ho4 hi4 h4 ⊢
      obtain ⟨⟨x1, x2⟩, rfl⟩ := outs_nil ho4
      have hiv : iv = .pointer none := hi4
      subst hiv
      have hpr := prom_any h4
      clear ho4 hi4 h4
      go_wp2_with fail
      (try rw [HE.out.1])
      (try rw [HE.out.2])
      refine hpr.mono ?_
      rintro e w5 ⟨rfl, u5⟩
      have HX : Hid (Below w.heap.size w w5) := Up.below HB4.out.1 HB4.out.2.1 u5.bl
      clear u5 hpr
      unfold vid newM
      go_wp2
      go_ret
      exact ⟨rfl, HX.out⟩
    · have hc3 : (F.frm == (i : Int)) = false := by simpa using hc2
      have hc4 : decide (F.frm = (i : Int)) = false := decide_eq_false hc2
      have hkI : ¬ (F.kind : Int) < 1 := by omega
      have hkJ : ¬ (5 : Int) < (F.kind : Int) := by omega
      obtain ⟨x1, x2, x3⟩ := inn_none (k := k) (i := i) F zd
      rw [x1] at hi4
      have hiv : iv = .pointer none := hi4
      subst hiv
      have hcu := cur_any h4
      rw [x2, x3] at hcu
      clear ho4 hi4 h4 x1 x2 x3
      go_wp2_with fail
      refine hcu.mono ?_
      rintro e w5 ⟨rfl, u5⟩
      have HX : Hid (Below w.heap.size w w5) := Up.below HB4.out.1 HB4.out.2.1 u5.bl
      clear u5 hcu
      unfold vw
      go_wp2
      go_ret
      exact ⟨rfl, HX.out⟩
end Go.Proofs.YtlonbbepoamnmaaDoor
