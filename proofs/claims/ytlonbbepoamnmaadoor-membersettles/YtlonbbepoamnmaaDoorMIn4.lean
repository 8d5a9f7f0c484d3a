/-
  A proposal of one's own was accepted by another node (Member.accepted).
-/
import Derived.Test.YtlonbbepoamnmaaDoorMIn3
namespace Go.Proofs.YtlonbbepoamnmaaDoor
open Go.RowKit
set_option linter.unusedVariables false
theorem filter_all {α : Type} (l : List α) : l.filter (fun i => (fun _ => true) i) = l := by simp
def AccPost (w : World) (F Z : Nat → Prop) (q : Nat) (R : Res) (e : Ending) (w' : World) : Prop := ∃ v iv, e = .returned (.tuple #[v, iv, .int .i64 (R.err : Nat)]) ∧ StepPost w F Z q R v iv w'
theorem accepted_own {M : Mm} {Fr : PF} (h : M.own = none) : M.accepted Fr = ⟨M, [], none, 9⟩ := by unfold Mm.accepted; rw [h]
theorem accepted_one {M : Mm} {Fr : PF} {P : Pp} {d : Sd} (h : M.own = some P) (hs : Fr.st = [d]) : M.accepted Fr = if Fr.id = P.id ∧ hasN P.set Fr.frm = true ∧ hasN P.acc Fr.frm = false then
      if (P.more Fr.frm d).agreed = true then ⟨{ M with own := some (P.more Fr.frm d) }.install (P.more Fr.frm d), (M.others P).map (fun i => (i, M.commit { P.more Fr.frm d with sts := joinD (P.more Fr.frm d).sts })), some (insOf (P.more Fr.frm d)), 0⟩
      else ⟨{ M with own := some (P.more Fr.frm d) }, [], none, 0⟩
    else ⟨M, [], none, 9⟩ := by unfold Mm.accepted; rw [h, hs]
theorem accepted_many {M : Mm} {Fr : PF} (hs : Fr.st.length ≠ 1) : M.accepted Fr = ⟨M, [], none, 9⟩ := by
  unfold Mm.accepted
  split
  · rename_i p d h1 h2
    rw [h2] at hs
    exact absurd rfl hs
  · rfl
theorem accepted_no {M : Mm} {Fr : PF} {P : Pp} (h : M.own = some P) (hn : ¬ (Fr.id = P.id ∧ hasN P.set Fr.frm = true ∧ hasN P.acc Fr.frm = false)) : M.accepted Fr = ⟨M, [], none, 9⟩ := by
  by_cases hs : Fr.st.length = 1
  · obtain ⟨d, hd⟩ := List.length_eq_one_iff.1 hs
    rw [accepted_one h hd, if_neg hn]
  · exact accepted_many hs
section
variable {w : World} {F Z : Nat → Prop} {q p : Nat} {M : Mm} {P : Pp} {o : Option Nat}

set_option maxRecDepth 10000 in
set_option maxHeartbeats 2000000 in
theorem accepted_any (h : Mb w F Z q M o) (Fr : PF) (a : Fa) (hss : Ss Z w a.so Fr.st.length Fr.st) (hst : Fr.st.length ≤ 2932031007402) : Calls Tryd.prog 47 #[.pointer (some ⟨q, 0, none⟩), fval Fr a] w fun e w' => AccPost w F Z q (M.accepted Fr) e w' := by
  have hql := h.lt q h.fq
  obtain ⟨w1, hw1⟩ : ∃ w1, w.alloc (.cells (fcells Fr a) 43) = w1 := ⟨_, rfl⟩
  have hb1 : Below w.heap.size w w1 := by rw [← hw1]; exact bl1 _ _
  have h1 := h.still hb1
  have hB : w1.heap[w.heap.size]? = some (.cells (fcells Fr a) 43 (0, 0)) := by rw [← hw1]; exact heap_alloc_new _ _
  have c8 := h1.cell 8 (by omega)
  unfold mcell ptr at c8
  rw [← hw1] at c8
  have hss1 := hss.keep (Kp.up hb1)
  have HW : Hid (w.alloc (.cells (fcells Fr a) 43) = w1) := hw1
  have HM : Hid (Mb w1.drew.drew F Z q M o ∧ Sp w F Z w1.drew.drew F Z) := ⟨h1.still ((Below.refl _ _).drew.drew), (Sp.still hb1 h.zl).trans (Sp.still ((Below.refl _ _).drew.drew) h1.zl)⟩
  have HC : Hid (∀ W, Below w1.heap.size w1 W → M.accepted Fr = ⟨M, [], none, 9⟩ → AccPost w F Z q (M.accepted Fr) (.returned (.tuple #[.slice none 0 0, .pointer none, .int .i64 9])) W) := fun W u e => by
    rw [e]
    exact ⟨_, _, rfl, F, Z, o, (Sp.still hb1 h.zl).trans (Sp.still u h1.zl), h1.still u, OutsIs.nil _ _, rfl⟩
  cases hM : M.own with
  | none =>
    obtain rfl := h.ownNone hM
    have HE : Hid (AccPost w F Z q (M.accepted Fr) (.returned (.tuple #[.slice none 0 0, .pointer none, .int .i64 9])) w1.drew) := HC.out _ ((Below.refl _ _).drew) (accepted_own hM)
    simp only [Option.map_none] at c8
    obtain ⟨R, hR⟩ : ∃ R, M.accepted Fr = R := ⟨_, rfl⟩
    rw [hR] at HE ⊢
    clear h h1 hb1 hB hw1 hql hss hss1 HC HM hM hR
    unfold fval
    have HW2 := HW.out
    unfold fcells at HW2 c8 ⊢
    replace HW : Hid _ := HW2
    clear HW2
    go_enter Tryd.func47, Tryd.ntmps47
    go_wp2_with fail
    rw [HW.out]
    refine wp_region_noPanic ?_
    refine wp_region_held_drew (S := fun wx => True) (by kernel_rfl) trivial (fun hHeld => ?_)
    refine tk 0 rfl (fun wx hSw => by go_simp; try with_reducible rfl) ?_
    refine tk 1 rfl (fun wx hSw => by go_simp; try with_reducible rfl) ?_
    refine tk 2 rfl (fun wx hSw => by go_simp; try with_reducible rfl) ?_
    refine take_first 3 (v := undef) rfl (by kernel_rfl) (by kernel_rfl) (by kernel_rfl) (fun _ _ _ h => h) (Or.inr ⟨by rfl, rfl⟩) (by assumption) ?_
    (try simp only [Act.put, List.setIfInBounds_toArray, List.set_cons_zero, List.set_cons_succ])
    refine take_first 4 (v := undef) rfl (by kernel_rfl) (by kernel_rfl) (by kernel_rfl) (fun _ _ _ h => h) (Or.inr ⟨by rfl, rfl⟩) (by assumption) ?_
    (try simp only [Act.put, List.setIfInBounds_toArray, List.set_cons_zero, List.set_cons_succ])
    refine take_first 5 (v := undef) rfl (by kernel_rfl) (by kernel_rfl) (by kernel_rfl) (fun _ _ _ h => h) (Or.inr ⟨by rfl, rfl⟩) (by assumption) ?_
    (try simp only [Act.put, List.setIfInBounds_toArray, List.set_cons_zero, List.set_cons_succ])
    refine take_first 6 (v := undef) rfl (by kernel_rfl) (by kernel_rfl) (by kernel_rfl) (fun _ _ _ h => h) (Or.inr ⟨by rfl, rfl⟩) (by assumption) ?_
    (try simp only [Act.put, List.setIfInBounds_toArray, List.set_cons_zero, List.set_cons_succ])
    refine take_first 7 (v := undef) rfl (by kernel_rfl) (by kernel_rfl) (by kernel_rfl) (fun _ _ _ h => h) (Or.inr ⟨by rfl, rfl⟩) (by assumption) ?_
    (try simp only [Act.put, List.setIfInBounds_toArray, List.set_cons_zero, List.set_cons_succ])
    refine take_first 8 (v := undef) rfl (by kernel_rfl) (by kernel_rfl) (by kernel_rfl) (fun _ _ _ h => h) (Or.inr ⟨by rfl, rfl⟩) (by assumption) ?_
    (try simp only [Act.put, List.setIfInBounds_toArray, List.set_cons_zero, List.set_cons_succ])
    refine take_first 9 (v := undef) rfl (by kernel_rfl) (by kernel_rfl) (by kernel_rfl) (fun _ _ _ h => h) (Or.inr ⟨by rfl, rfl⟩) (by assumption) ?_
    (try simp only [Act.put, List.setIfInBounds_toArray, List.set_cons_zero, List.set_cons_succ])
    refine take_first 10 (v := undef) rfl (by kernel_rfl) (by kernel_rfl) (by kernel_rfl) (fun _ _ _ h => h) (Or.inr ⟨by rfl, rfl⟩) (by assumption) ?_
    (try simp only [Act.put, List.setIfInBounds_toArray, List.set_cons_zero, List.set_cons_succ])
    refine tk 11 rfl (fun wx hSw => by go_simp; try with_reducible rfl) ?_
    refine tk 12 rfl (fun wx hSw => by go_simp; try with_reducible rfl) ?_
    refine take_first 13 (v := undef) rfl (by kernel_rfl) (by kernel_rfl) (by kernel_rfl) (fun _ _ _ h => h) (Or.inr ⟨by rfl, rfl⟩) (by assumption) ?_
    (try simp only [Act.put, List.setIfInBounds_toArray, List.set_cons_zero, List.set_cons_succ])
    refine take_first 14 (v := undef) rfl (by kernel_rfl) (by kernel_rfl) (by kernel_rfl) (fun _ _ _ h => h) (Or.inr ⟨by rfl, rfl⟩) (by assumption) ?_
    (try simp only [Act.put, List.setIfInBounds_toArray, List.set_cons_zero, List.set_cons_succ])
    refine take_first 15 (v := undef) rfl (by kernel_rfl) (by kernel_rfl) (by kernel_rfl) (fun _ _ _ h => h) (Or.inr ⟨by rfl, rfl⟩) (by assumption) ?_
    (try simp only [Act.put, List.setIfInBounds_toArray, List.set_cons_zero, List.set_cons_succ])
    refine take_first 16 (v := undef) rfl (by kernel_rfl) (by kernel_rfl) (by kernel_rfl) (fun _ _ _ h => h) (Or.inr ⟨by rfl, rfl⟩) (by assumption) ?_
    (try simp only [Act.put, List.setIfInBounds_toArray, List.set_cons_zero, List.set_cons_succ])
    refine take_first 17 (v := undef) rfl (by kernel_rfl) (by kernel_rfl) (by kernel_rfl) (fun _ _ _ h => h) (Or.inr ⟨by rfl, rfl⟩) (by assumption) ?_
    (try simp only [Act.put, List.setIfInBounds_toArray, List.set_cons_zero, List.set_cons_succ])
    refine tk 18 rfl (fun wx hSw => by go_simp; try with_reducible rfl) ?_
    refine tk 19 rfl (fun wx hSw => by go_simp; try with_reducible rfl) ?_
    refine take_first 20 (v := undef) rfl (by kernel_rfl) (by kernel_rfl) (by kernel_rfl) (fun _ _ _ h => h) (Or.inr ⟨by rfl, rfl⟩) (by assumption) ?_
    (try simp only [Act.put, List.setIfInBounds_toArray, List.set_cons_zero, List.set_cons_succ])
    refine take_first 21 (v := undef) rfl (by kernel_rfl) (by kernel_rfl) (by kernel_rfl) (fun _ _ _ h => h) (Or.inr ⟨by rfl, rfl⟩) (by assumption) ?_
    (try simp only [Act.put, List.setIfInBounds_toArray, List.set_cons_zero, List.set_cons_succ])
    refine take_first 22 (v := undef) rfl (by kernel_rfl) (by kernel_rfl) (by kernel_rfl) (fun _ _ _ h => h) (Or.inr ⟨by rfl, rfl⟩) (by assumption) ?_
    (try simp only [Act.put, List.setIfInBounds_toArray, List.set_cons_zero, List.set_cons_succ])
    refine take_first 23 (v := undef) rfl (by kernel_rfl) (by kernel_rfl) (by kernel_rfl) (fun _ _ _ h => h) (Or.inr ⟨by rfl, rfl⟩) (by assumption) ?_
    (try simp only [Act.put, List.setIfInBounds_toArray, List.set_cons_zero, List.set_cons_succ])
    refine tk 24 rfl (fun wx hSw => by go_simp; try with_reducible rfl) ?_
    refine wpAnyH_done (by kernel_rfl) ?_ _
    refine NoPanic.normal ?_
    go_wp2
    go_ret3
    exact HE.out
  | some P =>
    obtain ⟨p, rfl, -⟩ := h.ownSome hM
    simp only [Option.map_some] at c8
    obtain ⟨_, hpe, hp1⟩ := h1.ownSome hM
    cases hpe
    have hS : (w1.drew.cell? ⟨w.heap.size, 1, none⟩ = some (.int .i64 Fr.frm) ∧ w1.drew.cell? ⟨w.heap.size, 2, none⟩ = some (.int .u64 (Fr.idN : Nat)) ∧ w1.drew.cell? ⟨w.heap.size, 3, none⟩ = some (.int .i64 Fr.idP) ∧ w1.drew.cell? ⟨w.heap.size, 9, none⟩ = some (.slice a.so Fr.st.length a.sc)) ∧ w1.drew.cell? ⟨p, 0, none⟩ = some (.int .u64 (P.id.1 : Nat)) ∧ w1.drew.cell? ⟨p, 1, none⟩ = some (.int .i64 P.id.2) := ⟨⟨heap_cell (j := 1) hB rfl, heap_cell (j := 2) hB rfl, heap_cell (j := 3) hB rfl, heap_cell (j := 9) hB rfl⟩, hp1.c0, hp1.c1⟩
    have haw := awaits_any (hp1.frame (w' := w1.drew) (Z' := Z) (fun b hb => rfl) (Kp.up ((Below.refl _ w1).drew)) (fun _ h => h)) Fr.frm
    have hq := fun W => vid_equal Fr.idN Fr.idP P.id.1 P.id.2 W
    have hv : decide (Fr.idN = P.id.1 ∧ Fr.idP = P.id.2) = decide (Fr.id = P.id) := vid_eq2 Fr.id P.id
    rw [hv] at hq
    have hsm := hss1
    obtain ⟨ss, s1, s2, s3⟩ := hss1
    have HSS : Hid (SR Z w1 a.so Fr.st.length ss ∧ ∀ (j : Nat) (x : Sx) (d : Sd), ss[j]? = some x → Fr.st[j]? = some d → Si Z w1 x d) := ⟨s1, s3⟩
    have hln : ss.length = Fr.st.length := s1.1
    have hHB : Hid (w1.heap[w.heap.size]? = some (.cells (fcells Fr a) 43 (0, 0))) := hB
    obtain ⟨R, hR⟩ : ∃ R, M.accepted Fr = R := ⟨_, rfl⟩
    clear h h1 hb1 hB hw1 hql hss hp1 hv hsm s1 s2 s3
    unfold fval
    have HW2 := HW.out
    unfold fcells at HW2 c8 ⊢
    replace HW : Hid _ := HW2
    clear HW2
    by_cases e1 : Fr.id = P.id
    · rw [show decide (Fr.id = P.id) = true by simpa using e1] at hq
      cases hb : (hasN P.set Fr.frm && !hasN P.acc Fr.frm) with
      | false =>
        rw [hb] at haw
        have HE : Hid (AccPost w F Z q (M.accepted Fr) (.returned (.tuple #[.slice none 0 0, .pointer none, .int .i64 9])) w1.drew) := HC.out _ ((Below.refl _ _).drew) (accepted_no hM (by rintro ⟨_, g1, g2⟩; rw [g1, g2] at hb; cases hb))
        rw [hR] at HE ⊢
        clear HC HM hM hR e1 hb HSS hHB
        go_enter Tryd.func47, Tryd.ntmps47
        go_wp2_with fail
        rw [HW.out]
        refine wp_region_noPanic ?_
        refine wp_region_held_drew (S := fun wx => (wx.cell? ⟨w.heap.size, 1, none⟩ = some (.int .i64 Fr.frm) ∧ wx.cell? ⟨w.heap.size, 2, none⟩ = some (.int .u64 (Fr.idN : Nat)) ∧ wx.cell? ⟨w.heap.size, 3, none⟩ = some (.int .i64 Fr.idP) ∧ wx.cell? ⟨w.heap.size, 9, none⟩ = some (.slice a.so Fr.st.length a.sc)) ∧ wx.cell? ⟨p, 0, none⟩ = some (.int .u64 (P.id.1 : Nat)) ∧ wx.cell? ⟨p, 1, none⟩ = some (.int .i64 P.id.2)) (by kernel_rfl) hS (fun hHeld => ?_)
        refine tk 0 rfl (fun wx ⟨⟨a1, a2, a3, a4⟩, a5, a6⟩ => by go_simp; try with_reducible rfl) ?_
        refine tk 1 rfl (fun wx ⟨⟨a1, a2, a3, a4⟩, a5, a6⟩ => by go_simp; try with_reducible rfl) ?_
        refine tk 2 rfl (fun wx ⟨⟨a1, a2, a3, a4⟩, a5, a6⟩ => by go_simp; try with_reducible rfl) ?_
        refine tk 3 rfl (fun wx ⟨⟨a1, a2, a3, a4⟩, a5, a6⟩ => by go_simp; try with_reducible rfl) ?_
        refine tk 4 rfl (fun wx ⟨⟨a1, a2, a3, a4⟩, a5, a6⟩ => by go_simp; try with_reducible rfl) ?_
        refine tk 5 rfl (fun wx ⟨⟨a1, a2, a3, a4⟩, a5, a6⟩ => by go_simp; try with_reducible rfl) ?_
        refine tk 6 rfl (fun wx ⟨⟨a1, a2, a3, a4⟩, a5, a6⟩ => by go_simp; try with_reducible rfl) ?_
        refine tk 7 rfl (fun wx ⟨⟨a1, a2, a3, a4⟩, a5, a6⟩ => by go_simp; try with_reducible rfl) ?_
        refine tk 8 rfl (fun wx ⟨⟨a1, a2, a3, a4⟩, a5, a6⟩ => by go_simp; try with_reducible rfl) ?_
        refine tk 9 rfl (fun wx ⟨⟨a1, a2, a3, a4⟩, a5, a6⟩ => by go_simp; try with_reducible rfl) ?_
        refine tk 10 rfl (fun wx ⟨⟨a1, a2, a3, a4⟩, a5, a6⟩ => by go_simp; try with_reducible rfl) ?_
        refine tk 11 rfl (fun wx ⟨⟨a1, a2, a3, a4⟩, a5, a6⟩ => by go_simp; try with_reducible rfl) ?_
        refine tk 12 rfl (fun wx ⟨⟨a1, a2, a3, a4⟩, a5, a6⟩ => by go_simp; try with_reducible rfl) ?_
        refine tk 13 rfl (fun wx ⟨⟨a1, a2, a3, a4⟩, a5, a6⟩ => by go_simp; try with_reducible rfl) ?_
        refine tk 14 rfl (fun wx ⟨⟨a1, a2, a3, a4⟩, a5, a6⟩ => by go_simp; try with_reducible rfl) ?_
        refine tk 15 rfl (fun wx ⟨⟨a1, a2, a3, a4⟩, a5, a6⟩ => by go_simp; try with_reducible rfl) ?_
        refine comes_up 16 rfl (by kernel_rfl) (fun K hK => ?_)
        go_simp
        refine haw.mono ?_
        rintro e w2 ⟨rfl, rfl⟩
        go_wp2_with fail
        refine hK.out _ _ hS (fun hHeld => ?_)
        clear hK K
        (try simp only [Act.put, List.setIfInBounds_toArray, List.set_cons_zero, List.set_cons_succ])
        refine tk 17 rfl (fun wx ⟨⟨a1, a2, a3, a4⟩, a5, a6⟩ => by go_simp; try with_reducible rfl) ?_
        refine tk 18 rfl (fun wx ⟨⟨a1, a2, a3, a4⟩, a5, a6⟩ => by go_simp; try with_reducible rfl) ?_
        refine tk 19 rfl (fun wx ⟨⟨a1, a2, a3, a4⟩, a5, a6⟩ => by go_simp; try with_reducible rfl) ?_
        refine take_first 20 (v := undef) rfl (by kernel_rfl) (by kernel_rfl) (by kernel_rfl) (fun _ _ _ h => h) (Or.inr ⟨by rfl, rfl⟩) (by assumption) ?_
        (try simp only [Act.put, List.setIfInBounds_toArray, List.set_cons_zero, List.set_cons_succ])
        refine take_first 21 (v := undef) rfl (by kernel_rfl) (by kernel_rfl) (by kernel_rfl) (fun _ _ _ h => h) (Or.inr ⟨by rfl, rfl⟩) (by assumption) ?_
        (try simp only [Act.put, List.setIfInBounds_toArray, List.set_cons_zero, List.set_cons_succ])
        refine take_first 22 (v := undef) rfl (by kernel_rfl) (by kernel_rfl) (by kernel_rfl) (fun _ _ _ h => h) (Or.inr ⟨by rfl, rfl⟩) (by assumption) ?_
        (try simp only [Act.put, List.setIfInBounds_toArray, List.set_cons_zero, List.set_cons_succ])
        refine take_first 23 (v := undef) rfl (by kernel_rfl) (by kernel_rfl) (by kernel_rfl) (fun _ _ _ h => h) (Or.inr ⟨by rfl, rfl⟩) (by assumption) ?_
        (try simp only [Act.put, List.setIfInBounds_toArray, List.set_cons_zero, List.set_cons_succ])
        refine tk 24 rfl (fun wx ⟨⟨a1, a2, a3, a4⟩, a5, a6⟩ => by go_simp; try with_reducible rfl) ?_
        refine wpAnyH_done (by kernel_rfl) ?_ _
        refine NoPanic.normal ?_
        go_wp2
        go_ret3
        exact HE.out
      | true =>
        rw [hb] at haw
        obtain ⟨g1, g2⟩ : hasN P.set Fr.frm = true ∧ hasN P.acc Fr.frm = false := by simpa using hb
        by_cases hl : Fr.st.length = 1
        · obtain ⟨d, hd⟩ := List.length_eq_one_iff.1 hl
          obtain ⟨i, hi⟩ : ∃ i : Nat, Fr.frm = (i : Int) := by
            unfold hasN at g1
            simp only [Bool.and_eq_true, decide_eq_true_eq] at g1
            exact ⟨Fr.frm.toNat, by omega⟩
          have hi16 : i < 16 := by
            unfold hasN at g1
            simp only [Bool.and_eq_true, decide_eq_true_eq] at g1
            omega
          have hRe : R = if (P.more (i : Nat) d).agreed = true then (⟨{ M with own := some (P.more (i : Nat) d) }.install (P.more (i : Nat) d), (M.others P).map (fun i' => (i', M.commit { P.more (i : Nat) d with sts := joinD (P.more (i : Nat) d).sts })), some (insOf (P.more (i : Nat) d)), 0⟩ : Res) else ⟨{ M with own := some (P.more (i : Nat) d) }, [], none, 0⟩ := by
            rw [← hR, accepted_one hM hd, if_pos ⟨e1, g1, g2⟩, hi]
          have HR : Hid (R = if (P.more (i : Nat) d).agreed = true then (⟨{ M with own := some (P.more (i : Nat) d) }.install (P.more (i : Nat) d), (M.others P).map (fun i' => (i', M.commit { P.more (i : Nat) d with sts := joinD (P.more (i : Nat) d).sts })), some (insOf (P.more (i : Nat) d)), 0⟩ : Res) else ⟨{ M with own := some (P.more (i : Nat) d) }, [], none, 0⟩) := hRe
          have hno : P.acc.testBit i = false := by rw [hi] at g2; unfold hasN at g2; simp at g2; exact g2 (by omega)
          obtain ⟨y, hy⟩ : ∃ y, ss[0]? = some y := ⟨ss[0]'(by omega), List.getElem?_eq_getElem (by omega)⟩
          have hsi := HSS.out.2 0 y d hy (by rw [hd]; rfl)
          obtain ⟨sb, so, hso, hzb, hcell⟩ := HSS.out.1.2.2.2 (by omega)
          obtain ⟨q0, q1, q2, q3⟩ := hcell 0 y hy
          simp only [Nat.zero_mul, Nat.add_zero] at q0 q1 q2 q3
          have hB9 : w1.cell? ⟨w.heap.size, 9, none⟩ = some (.slice a.so Fr.st.length a.sc) := heap_cell (j := 9) hHB.out rfl
          have hB1 : w1.cell? ⟨w.heap.size, 1, none⟩ = some (.int .i64 Fr.frm) := heap_cell (j := 1) hHB.out rfl
          rw [hso] at hB9
          rw [hi] at hB1
          have hT : (w1.drew.drew.cell? ⟨w.heap.size, 1, none⟩ = some (.int .i64 (i : Nat)) ∧ w1.drew.drew.cell? ⟨w.heap.size, 9, none⟩ = some (.slice (some ⟨sb, so, none⟩) Fr.st.length a.sc)) ∧ w1.drew.drew.cell? ⟨sb, so, none⟩ = some (.int .u64 (y.1 : Nat)) ∧ w1.drew.drew.cell? ⟨sb, so + 1, none⟩ = some (.int .i64 y.2.1) ∧ w1.drew.drew.cell? ⟨sb, so + 2, none⟩ = some (.int .i64 y.2.2.1) ∧ w1.drew.drew.cell? ⟨sb, so + 3, none⟩ = some (.slice y.2.2.2.1 y.2.2.2.2.1 y.2.2.2.2.2) := ⟨⟨hB1, hB9⟩, q0, q1, q2, q3⟩
          have hac := accept_any HM.out.1 hM i hi16 hno y d (hsi.keep (Kp.up ((Below.refl _ w1).drew.drew)))
          unfold sta at hac
          have HLN : Hid (Fr.st.length = 1) := hl
          have h1len : (0 : Int) < (Fr.st.length : Int) := by omega
          have h1N : 0 < Fr.st.length := by omega
          rw [hR]
          clear HC hM hR e1 hb HSS hHB hRe hd hl g1 g2 hno hi hy hsi hso hzb hcell q0 q1 q2 q3 hB9 hB1 hln
          go_enter Tryd.func47, Tryd.ntmps47
          go_wp2_with fail
          rw [HW.out]
          refine wp_region_noPanic ?_
          refine wp_region_held_drew (S := fun wx => (wx.cell? ⟨w.heap.size, 1, none⟩ = some (.int .i64 Fr.frm) ∧ wx.cell? ⟨w.heap.size, 2, none⟩ = some (.int .u64 (Fr.idN : Nat)) ∧ wx.cell? ⟨w.heap.size, 3, none⟩ = some (.int .i64 Fr.idP) ∧ wx.cell? ⟨w.heap.size, 9, none⟩ = some (.slice a.so Fr.st.length a.sc)) ∧ wx.cell? ⟨p, 0, none⟩ = some (.int .u64 (P.id.1 : Nat)) ∧ wx.cell? ⟨p, 1, none⟩ = some (.int .i64 P.id.2)) (by kernel_rfl) hS (fun hHeld => ?_)
          refine tk 0 rfl (fun wx ⟨⟨a1, a2, a3, a4⟩, a5, a6⟩ => by go_simp; try with_reducible rfl) ?_
          refine tk 1 rfl (fun wx ⟨⟨a1, a2, a3, a4⟩, a5, a6⟩ => by go_simp; try with_reducible rfl) ?_
          refine tk 2 rfl (fun wx ⟨⟨a1, a2, a3, a4⟩, a5, a6⟩ => by go_simp; try with_reducible rfl) ?_
          refine tk 3 rfl (fun wx ⟨⟨a1, a2, a3, a4⟩, a5, a6⟩ => by go_simp; try with_reducible rfl) ?_
          refine tk 4 rfl (fun wx ⟨⟨a1, a2, a3, a4⟩, a5, a6⟩ => by go_simp; try with_reducible rfl) ?_
          refine tk 5 rfl (fun wx ⟨⟨a1, a2, a3, a4⟩, a5, a6⟩ => by go_simp; try with_reducible rfl) ?_
          refine tk 6 rfl (fun wx ⟨⟨a1, a2, a3, a4⟩, a5, a6⟩ => by go_simp; try with_reducible rfl) ?_
          refine tk 7 rfl (fun wx ⟨⟨a1, a2, a3, a4⟩, a5, a6⟩ => by go_simp; try with_reducible rfl) ?_
          refine tk 8 rfl (fun wx ⟨⟨a1, a2, a3, a4⟩, a5, a6⟩ => by go_simp; try with_reducible rfl) ?_
          refine tk 9 rfl (fun wx ⟨⟨a1, a2, a3, a4⟩, a5, a6⟩ => by go_simp; try with_reducible rfl) ?_
          refine tk 10 rfl (fun wx ⟨⟨a1, a2, a3, a4⟩, a5, a6⟩ => by go_simp; try with_reducible rfl) ?_
          refine tk 11 rfl (fun wx ⟨⟨a1, a2, a3, a4⟩, a5, a6⟩ => by go_simp; try with_reducible rfl) ?_
          refine tk 12 rfl (fun wx ⟨⟨a1, a2, a3, a4⟩, a5, a6⟩ => by go_simp; try with_reducible rfl) ?_
          refine tk 13 rfl (fun wx ⟨⟨a1, a2, a3, a4⟩, a5, a6⟩ => by go_simp; try with_reducible rfl) ?_
          refine tk 14 rfl (fun wx ⟨⟨a1, a2, a3, a4⟩, a5, a6⟩ => by go_simp; try with_reducible rfl) ?_
          refine tk 15 rfl (fun wx ⟨⟨a1, a2, a3, a4⟩, a5, a6⟩ => by go_simp; try with_reducible rfl) ?_
          refine comes_up 16 rfl (by kernel_rfl) (fun K hK => ?_)
          go_simp
          refine haw.mono ?_
          rintro e w2 ⟨rfl, rfl⟩
          go_wp2_with fail
          refine hK.out _ _ hS (fun hHeld => ?_)
          clear hK K
          (try simp only [Act.put, List.setIfInBounds_toArray, List.set_cons_zero, List.set_cons_succ])
          refine tk 17 rfl (fun wx ⟨⟨a1, a2, a3, a4⟩, a5, a6⟩ => by go_simp; try with_reducible rfl) ?_
          refine tk 18 rfl (fun wx ⟨⟨a1, a2, a3, a4⟩, a5, a6⟩ => by go_simp; try with_reducible rfl) ?_
          refine tk 19 rfl (fun wx ⟨⟨a1, a2, a3, a4⟩, a5, a6⟩ => by go_simp; try with_reducible rfl) ?_
          refine tk 20 rfl (fun wx ⟨⟨a1, a2, a3, a4⟩, a5, a6⟩ => by go_simp; try with_reducible rfl) ?_
          refine tk 21 rfl (fun wx ⟨⟨a1, a2, a3, a4⟩, a5, a6⟩ => by go_simp; try with_reducible rfl) ?_
          refine tk 22 rfl (fun wx ⟨⟨a1, a2, a3, a4⟩, a5, a6⟩ => by go_simp; try with_reducible rfl) ?_
          refine take_first 23 (v := .bool false) rfl (by kernel_rfl) (by kernel_rfl) (by kernel_rfl) (fun _ _ _ h => h) (Or.inl ⟨by rfl, by intro wx hSw; obtain ⟨⟨a1, a2, a3, a4⟩, a5, a6⟩ := hSw; go_simp; all_goals (have := HLN.out; omega)⟩) (by assumption) ?_
          (try simp only [Act.put, List.setIfInBounds_toArray, List.set_cons_zero, List.set_cons_succ])
          refine tk 24 rfl (fun wx ⟨⟨a1, a2, a3, a4⟩, a5, a6⟩ => by go_simp; try with_reducible rfl) ?_
          refine wpAnyH_done (by kernel_rfl) ?_ _
          refine NoPanic.normal ?_
          clear hHeld haw hq
          go_wp2_with fail
          refine wp_region_noPanic ?_
          refine beginE (fun wx => (wx.cell? ⟨w.heap.size, 1, none⟩ = some (.int .i64 (i : Nat)) ∧ wx.cell? ⟨w.heap.size, 9, none⟩ = some (.slice (some ⟨sb, so, none⟩) Fr.st.length a.sc)) ∧ wx.cell? ⟨sb, so, none⟩ = some (.int .u64 (y.1 : Nat)) ∧ wx.cell? ⟨sb, so + 1, none⟩ = some (.int .i64 y.2.1) ∧ wx.cell? ⟨sb, so + 2, none⟩ = some (.int .i64 y.2.2.1) ∧ wx.cell? ⟨sb, so + 3, none⟩ = some (.slice y.2.2.2.1 y.2.2.2.2.1 y.2.2.2.2.2)) 7 (by kernel_rfl) hT (fun hHeld => ?_)
          refine takeT 0 (v := ?_) rfl (by kernel_rfl) (by kernel_rfl) (by kernel_rfl) (by kernel_rfl) (by kernel_rfl) (by kernel_rfl) (by kernel_rfl) (fun _ _ _ h => h) (Or.inl ⟨by rfl, by intro wx hSw; (try dsimp only at hSw); obtain ⟨⟨c1, c2⟩, c3, c4, c5, c6⟩ := hSw; go_simp; try with_reducible rfl⟩) (by assumption) ?_
          (try simp only [Act.put, List.setIfInBounds_toArray, List.set_cons_zero, List.set_cons_succ])
          refine takeT 1 (v := ?_) rfl (by kernel_rfl) (by kernel_rfl) (by kernel_rfl) (by kernel_rfl) (by kernel_rfl) (by kernel_rfl) (by kernel_rfl) (fun _ _ _ h => h) (Or.inl ⟨by rfl, by intro wx hSw; (try dsimp only at hSw); obtain ⟨⟨c1, c2⟩, c3, c4, c5, c6⟩ := hSw; go_simp; try with_reducible rfl⟩) (by assumption) ?_
          (try simp only [Act.put, List.setIfInBounds_toArray, List.set_cons_zero, List.set_cons_succ])
          refine takeT 2 (v := ?_) rfl (by kernel_rfl) (by kernel_rfl) (by kernel_rfl) (by kernel_rfl) (by kernel_rfl) (by kernel_rfl) (by kernel_rfl) (fun _ _ _ h => h) (Or.inl ⟨by rfl, by intro wx hSw; (try dsimp only at hSw); obtain ⟨⟨c1, c2⟩, c3, c4, c5, c6⟩ := hSw; go_simp; try with_reducible rfl⟩) (by assumption) ?_
          (try simp only [Act.put, List.setIfInBounds_toArray, List.set_cons_zero, List.set_cons_succ])
          refine takeT 3 (v := ?_) rfl (by kernel_rfl) (by kernel_rfl) (by kernel_rfl) (by kernel_rfl) (by kernel_rfl) (by kernel_rfl) (by kernel_rfl) (fun _ _ _ h => h) (Or.inl ⟨by rfl, by intro wx hSw; (try dsimp only at hSw); obtain ⟨⟨c1, c2⟩, c3, c4, c5, c6⟩ := hSw; go_simp; try with_reducible rfl⟩) (by assumption) ?_
          (try simp only [Act.put, List.setIfInBounds_toArray, List.set_cons_zero, List.set_cons_succ])
          refine takeT 4 (v := ?_) rfl (by kernel_rfl) (by kernel_rfl) (by kernel_rfl) (by kernel_rfl) (by kernel_rfl) (by kernel_rfl) (by kernel_rfl) (fun _ _ _ h => h) (Or.inl ⟨by rfl, by intro wx hSw; (try dsimp only at hSw); obtain ⟨⟨c1, c2⟩, c3, c4, c5, c6⟩ := hSw; go_simp; try with_reducible rfl⟩) (by assumption) ?_
          (try simp only [Act.put, List.setIfInBounds_toArray, List.set_cons_zero, List.set_cons_succ])
          refine takeT 5 (v := ?_) rfl (by kernel_rfl) (by kernel_rfl) (by kernel_rfl) (by kernel_rfl) (by kernel_rfl) (by kernel_rfl) (by kernel_rfl) (fun _ _ _ h => h) (Or.inl ⟨by rfl, by intro wx hSw; (try dsimp only at hSw); obtain ⟨⟨c1, c2⟩, c3, c4, c5, c6⟩ := hSw; go_simp; try with_reducible rfl⟩) (by assumption) ?_
          (try simp only [Act.put, List.setIfInBounds_toArray, List.set_cons_zero, List.set_cons_succ])
          refine takeT 6 (v := ?_) rfl (by kernel_rfl) (by kernel_rfl) (by kernel_rfl) (by kernel_rfl) (by kernel_rfl) (by kernel_rfl) (by kernel_rfl) (fun _ _ _ h => h) (Or.inl ⟨by rfl, by intro wx hSw; (try dsimp only at hSw); obtain ⟨⟨c1, c2⟩, c3, c4, c5, c6⟩ := hSw; go_simp; try with_reducible rfl⟩) (by assumption) ?_
          (try simp only [Act.put, List.setIfInBounds_toArray, List.set_cons_zero, List.set_cons_succ])
          refine lastE 7 rfl (by kernel_rfl) (by kernel_rfl) (fun K hK => ?_)
          go_simp
          refine hac.mono ?_
          rintro e w3 ⟨rfl, F3, Z3, sp3, h3⟩
          have sp03 := HM.out.2.trans sp3
          clear hac sp3 hT hHeld
          cases hg : (P.more (i : Nat) d).agreed with
          | false =>
            have hin := install_not h3 (P := P.more (i : Nat) d) rfl hg
            have HE0 : Hid (∀ W, Below w3.heap.size w3 W → AccPost w F Z q R (.returned (.tuple #[.slice none 0 0, .pointer none, .int .i64 0])) W) := fun W u => by
              rw [HR.out, hg, if_neg (by simp)]
              exact ⟨_, _, rfl, F3, Z3, some p, sp03.trans (Sp.still u h3.zl), h3.still u, OutsIs.nil _ _, rfl⟩
            clear h3 sp03 hg HR HM
            go_wp2_with fail
            refine hK.out _ _ ?_
            clear hK K
            (try simp only [Act.put, List.setIfInBounds_toArray, List.set_cons_zero, List.set_cons_succ])
            refine doneE (by kernel_rfl) ?_ _
            refine NoPanic.normal ?_
            go_wp2_with fail
            refine hin.mono ?_
            rintro e w4 ⟨rfl, b4⟩
            have HE : Hid (AccPost w F Z q R (.returned (.tuple #[.slice none 0 0, .pointer none, .int .i64 0])) w4) := HE0.out w4 b4
            clear hin b4 HE0
            go_wp2
            go_ret3
            exact HE.out
          | true =>
            have hin := install_any h3 (P := P.more (i : Nat) d) rfl hg
            have HR2 : Hid (R = ⟨{ M with own := some (P.more (i : Nat) d) }.install (P.more (i : Nat) d), (M.others P).map (fun i' => (i', M.commit { P.more (i : Nat) d with sts := joinD (P.more (i : Nat) d).sts })), some (insOf (P.more (i : Nat) d)), 0⟩) := by unfold Hid; rw [HR.out, hg, if_pos rfl]
            have H3 : Hid (Sp w F Z w3 F3 Z3) := sp03
            clear h3 sp03 hg HR HM
            go_wp2_with fail
            refine hK.out _ _ ?_
            clear hK K
            (try simp only [Act.put, List.setIfInBounds_toArray, List.set_cons_zero, List.set_cons_succ])
            refine doneE (by kernel_rfl) ?_ _
            refine NoPanic.normal ?_
            go_wp2_with fail
            refine hin.mono ?_
            rintro e w4 ⟨b4, rfl, F4, Z4, sp4, h4, hib⟩
            have hto := toOthersD_any h4 (P := { P.more (i : Nat) d with sts := joinD (P.more (i : Nat) d).sts }) rfl
            have H4 : Hid (Mb w4 F4 Z4 q ({ M with own := some (P.more (i : Nat) d) }.install (P.more (i : Nat) d)) (some p) ∧ Sp w F Z w4 F4 Z4 ∧ Ib w4 Z4 b4 (insOf (P.more (i : Nat) d))) := ⟨h4, H3.out.trans sp4, hib⟩
            clear hin sp4 h4 hib H3
            go_wp2_with fail
            refine hto.mono ?_
            intro e w5 hpost
            obtain ⟨v, L, rfl, r1, r2, r3, r4⟩ := id hpost
            have HE : Hid (AccPost w F Z q R (.returned (.tuple #[v, .pointer (some ⟨b4, 0, none⟩), .int .i64 0])) w5) := by
              rw [HR2.out]
              obtain ⟨o1, o2⟩ := OutsPost.is (Z := Z4) hpost H4.out.1.tab.lt
              refine ⟨_, _, rfl, F4, nz Z4 w4 w5, some p, H4.out.2.1.trans (Sp.up o2 H4.out.1.zl), H4.out.1.up o2, ?_, b4, rfl, H4.out.2.2.keep (Kp.up o2) (o2.block _ (H4.out.1.zl _ H4.out.2.2.zb)) (fun _ h => .inl h)⟩
              rw [filter_all] at o1
              exact o1
            clear hto hpost r1 r2 r3 r4 H4 HR2
            go_wp2
            go_ret3
            exact HE.out
        · have HE : Hid (AccPost w F Z q (M.accepted Fr) (.returned (.tuple #[.slice none 0 0, .pointer none, .int .i64 9])) w1.drew) := HC.out _ ((Below.refl _ _).drew) (accepted_many hl)
          rw [hR] at HE ⊢
          have hlI : ¬ ((Fr.st.length : Int) = 1) := by omega
          clear HC HM hM hR e1 hb HSS hHB g1 g2 hl
          go_enter Tryd.func47, Tryd.ntmps47
          go_wp2_with fail
          rw [HW.out]
          refine wp_region_noPanic ?_
          refine wp_region_held_drew (S := fun wx => (wx.cell? ⟨w.heap.size, 1, none⟩ = some (.int .i64 Fr.frm) ∧ wx.cell? ⟨w.heap.size, 2, none⟩ = some (.int .u64 (Fr.idN : Nat)) ∧ wx.cell? ⟨w.heap.size, 3, none⟩ = some (.int .i64 Fr.idP) ∧ wx.cell? ⟨w.heap.size, 9, none⟩ = some (.slice a.so Fr.st.length a.sc)) ∧ wx.cell? ⟨p, 0, none⟩ = some (.int .u64 (P.id.1 : Nat)) ∧ wx.cell? ⟨p, 1, none⟩ = some (.int .i64 P.id.2)) (by kernel_rfl) hS (fun hHeld => ?_)
          refine tk 0 rfl (fun wx ⟨⟨a1, a2, a3, a4⟩, a5, a6⟩ => by go_simp; try with_reducible rfl) ?_
          refine tk 1 rfl (fun wx ⟨⟨a1, a2, a3, a4⟩, a5, a6⟩ => by go_simp; try with_reducible rfl) ?_
          refine tk 2 rfl (fun wx ⟨⟨a1, a2, a3, a4⟩, a5, a6⟩ => by go_simp; try with_reducible rfl) ?_
          refine tk 3 rfl (fun wx ⟨⟨a1, a2, a3, a4⟩, a5, a6⟩ => by go_simp; try with_reducible rfl) ?_
          refine tk 4 rfl (fun wx ⟨⟨a1, a2, a3, a4⟩, a5, a6⟩ => by go_simp; try with_reducible rfl) ?_
          refine tk 5 rfl (fun wx ⟨⟨a1, a2, a3, a4⟩, a5, a6⟩ => by go_simp; try with_reducible rfl) ?_
          refine tk 6 rfl (fun wx ⟨⟨a1, a2, a3, a4⟩, a5, a6⟩ => by go_simp; try with_reducible rfl) ?_
          refine tk 7 rfl (fun wx ⟨⟨a1, a2, a3, a4⟩, a5, a6⟩ => by go_simp; try with_reducible rfl) ?_
          refine tk 8 rfl (fun wx ⟨⟨a1, a2, a3, a4⟩, a5, a6⟩ => by go_simp; try with_reducible rfl) ?_
          refine tk 9 rfl (fun wx ⟨⟨a1, a2, a3, a4⟩, a5, a6⟩ => by go_simp; try with_reducible rfl) ?_
          refine tk 10 rfl (fun wx ⟨⟨a1, a2, a3, a4⟩, a5, a6⟩ => by go_simp; try with_reducible rfl) ?_
          refine tk 11 rfl (fun wx ⟨⟨a1, a2, a3, a4⟩, a5, a6⟩ => by go_simp; try with_reducible rfl) ?_
          refine tk 12 rfl (fun wx ⟨⟨a1, a2, a3, a4⟩, a5, a6⟩ => by go_simp; try with_reducible rfl) ?_
          refine tk 13 rfl (fun wx ⟨⟨a1, a2, a3, a4⟩, a5, a6⟩ => by go_simp; try with_reducible rfl) ?_
          refine tk 14 rfl (fun wx ⟨⟨a1, a2, a3, a4⟩, a5, a6⟩ => by go_simp; try with_reducible rfl) ?_
          refine tk 15 rfl (fun wx ⟨⟨a1, a2, a3, a4⟩, a5, a6⟩ => by go_simp; try with_reducible rfl) ?_
          refine comes_up 16 rfl (by kernel_rfl) (fun K hK => ?_)
          go_simp
          refine haw.mono ?_
          rintro e w2 ⟨rfl, rfl⟩
          go_wp2_with fail
          refine hK.out _ _ hS (fun hHeld => ?_)
          clear hK K
          (try simp only [Act.put, List.setIfInBounds_toArray, List.set_cons_zero, List.set_cons_succ])
          refine tk 17 rfl (fun wx ⟨⟨a1, a2, a3, a4⟩, a5, a6⟩ => by go_simp; try with_reducible rfl) ?_
          refine tk 18 rfl (fun wx ⟨⟨a1, a2, a3, a4⟩, a5, a6⟩ => by go_simp; try with_reducible rfl) ?_
          refine tk 19 rfl (fun wx ⟨⟨a1, a2, a3, a4⟩, a5, a6⟩ => by go_simp; try with_reducible rfl) ?_
          refine tk 20 rfl (fun wx ⟨⟨a1, a2, a3, a4⟩, a5, a6⟩ => by go_simp; try with_reducible rfl) ?_
          refine tk 21 rfl (fun wx ⟨⟨a1, a2, a3, a4⟩, a5, a6⟩ => by go_simp; try with_reducible rfl) ?_
          refine tk 22 rfl (fun wx ⟨⟨a1, a2, a3, a4⟩, a5, a6⟩ => by go_simp; try with_reducible rfl) ?_
          refine take_first 23 (v := .bool true) rfl (by kernel_rfl) (by kernel_rfl) (by kernel_rfl) (fun _ _ _ h => h) (Or.inl ⟨by rfl, by intro wx hSw; obtain ⟨⟨a1, a2, a3, a4⟩, a5, a6⟩ := hSw; go_simp; all_goals (first | omega | simpa using hlI)⟩) (by assumption) ?_
          (try simp only [Act.put, List.setIfInBounds_toArray, List.set_cons_zero, List.set_cons_succ])
          refine tk 24 rfl (fun wx ⟨⟨a1, a2, a3, a4⟩, a5, a6⟩ => by go_simp; try with_reducible rfl) ?_
          refine wpAnyH_done (by kernel_rfl) ?_ _
          refine NoPanic.normal ?_
          go_wp2
          go_ret3
          exact HE.out
    · rw [show decide (Fr.id = P.id) = false by simpa using e1] at hq
      have HE : Hid (AccPost w F Z q (M.accepted Fr) (.returned (.tuple #[.slice none 0 0, .pointer none, .int .i64 9])) w1.drew) := HC.out _ ((Below.refl _ _).drew) (accepted_no hM (fun hh => e1 hh.1))
      rw [hR] at HE ⊢
      clear HC HM hM hR e1 HSS hHB haw
      go_enter Tryd.func47, Tryd.ntmps47
      go_wp2_with fail
      rw [HW.out]
      refine wp_region_noPanic ?_
      refine wp_region_held_drew (S := fun wx => (wx.cell? ⟨w.heap.size, 1, none⟩ = some (.int .i64 Fr.frm) ∧ wx.cell? ⟨w.heap.size, 2, none⟩ = some (.int .u64 (Fr.idN : Nat)) ∧ wx.cell? ⟨w.heap.size, 3, none⟩ = some (.int .i64 Fr.idP) ∧ wx.cell? ⟨w.heap.size, 9, none⟩ = some (.slice a.so Fr.st.length a.sc)) ∧ wx.cell? ⟨p, 0, none⟩ = some (.int .u64 (P.id.1 : Nat)) ∧ wx.cell? ⟨p, 1, none⟩ = some (.int .i64 P.id.2)) (by kernel_rfl) hS (fun hHeld => ?_)
      refine tk 0 rfl (fun wx ⟨⟨a1, a2, a3, a4⟩, a5, a6⟩ => by go_simp; try with_reducible rfl) ?_
      refine tk 1 rfl (fun wx ⟨⟨a1, a2, a3, a4⟩, a5, a6⟩ => by go_simp; try with_reducible rfl) ?_
      refine tk 2 rfl (fun wx ⟨⟨a1, a2, a3, a4⟩, a5, a6⟩ => by go_simp; try with_reducible rfl) ?_
      refine tk 3 rfl (fun wx ⟨⟨a1, a2, a3, a4⟩, a5, a6⟩ => by go_simp; try with_reducible rfl) ?_
      refine tk 4 rfl (fun wx ⟨⟨a1, a2, a3, a4⟩, a5, a6⟩ => by go_simp; try with_reducible rfl) ?_
      refine tk 5 rfl (fun wx ⟨⟨a1, a2, a3, a4⟩, a5, a6⟩ => by go_simp; try with_reducible rfl) ?_
      refine tk 6 rfl (fun wx ⟨⟨a1, a2, a3, a4⟩, a5, a6⟩ => by go_simp; try with_reducible rfl) ?_
      refine tk 7 rfl (fun wx ⟨⟨a1, a2, a3, a4⟩, a5, a6⟩ => by go_simp; try with_reducible rfl) ?_
      refine tk 8 rfl (fun wx ⟨⟨a1, a2, a3, a4⟩, a5, a6⟩ => by go_simp; try with_reducible rfl) ?_
      refine tk 9 rfl (fun wx ⟨⟨a1, a2, a3, a4⟩, a5, a6⟩ => by go_simp; try with_reducible rfl) ?_
      refine tk 10 rfl (fun wx ⟨⟨a1, a2, a3, a4⟩, a5, a6⟩ => by go_simp; try with_reducible rfl) ?_
      refine tk 11 rfl (fun wx ⟨⟨a1, a2, a3, a4⟩, a5, a6⟩ => by go_simp; try with_reducible rfl) ?_
      refine tk 12 rfl (fun wx ⟨⟨a1, a2, a3, a4⟩, a5, a6⟩ => by go_simp; try with_reducible rfl) ?_
      refine take_first 13 (v := undef) rfl (by kernel_rfl) (by kernel_rfl) (by kernel_rfl) (fun _ _ _ h => h) (Or.inr ⟨by rfl, rfl⟩) (by assumption) ?_
      (try simp only [Act.put, List.setIfInBounds_toArray, List.set_cons_zero, List.set_cons_succ])
      refine take_first 14 (v := undef) rfl (by kernel_rfl) (by kernel_rfl) (by kernel_rfl) (fun _ _ _ h => h) (Or.inr ⟨by rfl, rfl⟩) (by assumption) ?_
      (try simp only [Act.put, List.setIfInBounds_toArray, List.set_cons_zero, List.set_cons_succ])
      refine take_first 15 (v := undef) rfl (by kernel_rfl) (by kernel_rfl) (by kernel_rfl) (fun _ _ _ h => h) (Or.inr ⟨by rfl, rfl⟩) (by assumption) ?_
      (try simp only [Act.put, List.setIfInBounds_toArray, List.set_cons_zero, List.set_cons_succ])
      refine take_first 16 (v := undef) rfl (by kernel_rfl) (by kernel_rfl) (by kernel_rfl) (fun _ _ _ h => h) (Or.inr ⟨by rfl, rfl⟩) (by assumption) ?_
      (try simp only [Act.put, List.setIfInBounds_toArray, List.set_cons_zero, List.set_cons_succ])
      refine take_first 17 (v := undef) rfl (by kernel_rfl) (by kernel_rfl) (by kernel_rfl) (fun _ _ _ h => h) (Or.inr ⟨by rfl, rfl⟩) (by assumption) ?_
      (try simp only [Act.put, List.setIfInBounds_toArray, List.set_cons_zero, List.set_cons_succ])
      refine tk 18 rfl (fun wx ⟨⟨a1, a2, a3, a4⟩, a5, a6⟩ => by go_simp; try with_reducible rfl) ?_
      refine tk 19 rfl (fun wx ⟨⟨a1, a2, a3, a4⟩, a5, a6⟩ => by go_simp; try with_reducible rfl) ?_
      refine take_first 20 (v := undef) rfl (by kernel_rfl) (by kernel_rfl) (by kernel_rfl) (fun _ _ _ h => h) (Or.inr ⟨by rfl, rfl⟩) (by assumption) ?_
      (try simp only [Act.put, List.setIfInBounds_toArray, List.set_cons_zero, List.set_cons_succ])
      refine take_first 21 (v := undef) rfl (by kernel_rfl) (by kernel_rfl) (by kernel_rfl) (fun _ _ _ h => h) (Or.inr ⟨by rfl, rfl⟩) (by assumption) ?_
      (try simp only [Act.put, List.setIfInBounds_toArray, List.set_cons_zero, List.set_cons_succ])
      refine take_first 22 (v := undef) rfl (by kernel_rfl) (by kernel_rfl) (by kernel_rfl) (fun _ _ _ h => h) (Or.inr ⟨by rfl, rfl⟩) (by assumption) ?_
      (try simp only [Act.put, List.setIfInBounds_toArray, List.set_cons_zero, List.set_cons_succ])
      refine take_first 23 (v := undef) rfl (by kernel_rfl) (by kernel_rfl) (by kernel_rfl) (fun _ _ _ h => h) (Or.inr ⟨by rfl, rfl⟩) (by assumption) ?_
      (try simp only [Act.put, List.setIfInBounds_toArray, List.set_cons_zero, List.set_cons_succ])
      refine tk 24 rfl (fun wx ⟨⟨a1, a2, a3, a4⟩, a5, a6⟩ => by go_simp; try with_reducible rfl) ?_
      refine wpAnyH_done (by kernel_rfl) ?_ _
      refine NoPanic.normal ?_
      go_wp2
      go_ret3
      exact HE.out
end
end Go.Proofs.YtlonbbepoamnmaaDoor
