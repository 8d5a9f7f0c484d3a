/-
  The document's example of exchange.
-/
import Derived.Test.YtooeemhlpmiceaaXTold
namespace Go.Proofs.Ytooeemhlpmiceaa
open Go.RowKit
set_option linter.unusedVariables false
set_option linter.unusedSimpArgs false

def exA : Lb := (1, 0, 1, 0)
def exT : List Pt := [⟨0, [], [], 1, 1, 0⟩, ⟨1, [], [exA], 2, 2, 0⟩]
theorem ex_ch : chT exT = 1 := by decide
theorem ex_nx : nxT exT = 2 := by decide
theorem ex_sh : shortT exT = [exA] := by
  unfold shortT
  rw [ex_ch]
  rfl
def Sa (g : Nat) (w : World) : Prop := w.cell? ⟨g, 0, none⟩ = some (.int .u64 1) ∧ w.cell? ⟨g, 1, none⟩ = some (.int .i64 0) ∧ w.cell? ⟨g, 2, none⟩ = some (.int .u64 1) ∧ w.cell? ⟨g, 3, none⟩ = some (.int .i64 0)
theorem one_lr (w : World) : LR (w.alloc (.cells #[.int .u64 1, .int .i64 0, .int .u64 1, .int .i64 0] 34)) (some ⟨w.heap.size, 0, none⟩) 1 [exA] := by
  refine ⟨rfl, by omega, fun _ => ⟨w.heap.size, 0, rfl, fun j x hj => ?_⟩⟩
  have hj0 : j = 0 := by have := (List.getElem?_eq_some_iff.1 hj).1; simp at this; exact this
  subst hj0
  simp at hj
  subst hj
  exact ⟨cell_box w _ 34 0 _ rfl, cell_box w _ 34 1 _ rfl, cell_box w _ 34 2 _ rfl, cell_box w _ 34 3 _ rfl⟩

set_option maxRecDepth 20000 in
set_option maxHeartbeats 4000000 in
theorem awakeX_any (w : World) : Calls Try.prog 24 #[] w fun e w' => e = .returned (.bool true) ∧ Below w.heap.size w w' := by
  obtain ⟨A0, hA0⟩ : ∃ W, Hid (w.alloc (.cells #[.int .u64 1, .int .i64 0, .int .u64 1, .int .i64 0] 34) = W) := ⟨_, rfl⟩
  have bA : Below w.heap.size w A0 := by rw [← hA0.out]; exact bl1 _ _
  have sA : Sa w.heap.size A0 := by rw [← hA0.out]; exact ⟨cell_box w _ 34 0 _ rfl, cell_box w _ 34 1 _ rfl, cell_box w _ 34 2 _ rfl, cell_box w _ 34 3 _ rfl⟩
  have zA : A0.heap.size = w.heap.size + 1 := by rw [← hA0.out]; simp
  obtain ⟨A1, hA1⟩ : ∃ W, Hid (A0.alloc (.cells #[.int .u64 1, .int .i64 0, .int .u64 1, .int .i64 0] 34) = W) := ⟨_, rfl⟩
  have lA := one_lr A0
  rw [hA1.out] at lA
  have b1 : Below A0.heap.size A0 A1 := by rw [← hA1.out]; exact bl1 _ _
  have z1 : A1.heap.size = w.heap.size + 2 := by rw [← hA1.out]; simp [zA]
  obtain ⟨A2, hA2⟩ : ∃ W, Hid (A1.alloc (.cells #[.int .i64 0, .slice none 0 0, .slice none 0 0, .int .i64 1, .int .u64 1, .int .i64 0, .int .i64 1, .slice none 0 0, .slice (some ⟨A0.heap.size, 0, none⟩) 1 1, .int .i64 2, .int .u64 2, .int .i64 0] 65) = W) := ⟨_, rfl⟩
  have b2 : Below A1.heap.size A1 A2 := by rw [← hA2.out]; exact bl1 _ _
  have hTL : TL (fun _ => True) A2 (some ⟨A1.heap.size, 0, none⟩) 2 exT := by
    have cb := fun j v hj => cell_box A1 #[.int .i64 0, .slice none 0 0, .slice none 0 0, .int .i64 1, .int .u64 1, .int .i64 0, .int .i64 1, .slice none 0 0, .slice (some ⟨A0.heap.size, 0, none⟩) 1 1, .int .i64 2, .int .u64 2, .int .i64 0] 65 j v hj
    rw [hA2.out] at cb
    refine ⟨rfl, by omega, fun _ => ⟨A1.heap.size, 0, rfl, trivial, fun j t hj => ?_⟩⟩
    have hj2 : j = 0 ∨ j = 1 := by have := (List.getElem?_eq_some_iff.1 hj).1; simp [exT] at this; omega
    rcases hj2 with rfl | rfl
    · simp [exT] at hj
      subst hj
      exact ⟨cb 0 _ rfl, none, 0, none, 0, ⟨cb 1 _ rfl, cb 2 _ rfl, cb 3 _ rfl, cb 4 _ rfl, cb 5 _ rfl⟩, ER.nil _ _ _, ⟨rfl, by simp, fun h => by simp at h⟩, fun _ _ _ => trivial, fun _ => ⟨rfl, rfl⟩, fun _ => ⟨rfl, rfl⟩⟩
    · simp [exT] at hj
      subst hj
      exact ⟨cb 6 _ rfl, none, 0, some ⟨A0.heap.size, 0, none⟩, 1, ⟨cb 7 _ rfl, cb 8 _ rfl, cb 9 _ rfl, cb 10 _ rfl, cb 11 _ rfl⟩, ER.nil _ _ _, lA.up b2, fun _ _ _ => trivial, fun _ => ⟨rfl, rfl⟩, fun e => by cases e⟩
  have b02 := bl_step b1 b2
  have HB : Hid (Below w.heap.size w A2) := bl_step bA b02
  have hS0 : Sa w.heap.size A2 := ⟨bl_cell b02 sA.1, bl_cell b02 sA.2.1, bl_cell b02 sA.2.2.1, bl_cell b02 sA.2.2.2⟩
  obtain ⟨gl, hgl⟩ : ∃ g, A1.heap.size = g := ⟨_, rfl⟩
  rw [hgl] at hTL
  have HSH : Hid (∀ W, Below A2.heap.size A2 W → Calls Try.prog 31 #[.slice (some ⟨gl, 0, none⟩) 2 2] W (fun e w' => ∃ v, e = .returned v ∧ w'.ownsRow W.heap.size 34 4 v 1 (flat [exA]) ∧ Below W.heap.size W w')) := fun W u => by
    have := short_any _ W _ 2 2 exT (hTL.bl u) (fun t ht => by simp [exT] at ht; rcases ht with rfl | rfl <;> simp)
    rw [ex_sh] at this
    exact this
  have HCH : Hid (∀ W, Below A2.heap.size A2 W → Calls Try.prog 30 #[.slice (some ⟨gl, 0, none⟩) 2 2] W (fun e w' => e = .returned (.int .i64 1) ∧ Below W.heap.size W w')) := fun W u => by
    have := chosen_any _ W _ 2 2 exT (hTL.bl u)
    rw [ex_ch] at this
    exact this
  have HNX : Hid (∀ W, Below A2.heap.size A2 W → Calls Try.prog 37 #[.slice (some ⟨gl, 0, none⟩) 2 2] W (fun e w' => e = .returned (.int .i64 2) ∧ Below W.heap.size W w')) := fun W u => by
    have := next_any _ W _ 2 2 exT (hTL.bl u)
    rw [ex_nx] at this
    exact this
  have ud : Below A2.heap.size A2 A2.drew := (Below.refl _ _).drew
  have HS : Hid (∀ W, Below A2.heap.size A2 W → Sa w.heap.size W) := fun W u => ⟨bl_cell u hS0.1, bl_cell u hS0.2.1, bl_cell u hS0.2.2.1, bl_cell u hS0.2.2.2⟩
  have s0 := HS.out _ ud
  obtain ⟨x0, x1, x2, x3⟩ := sA
  clear hTL hS0 b02 b2 b1 lA bA
  unfold Sa at s0
  go_enter Try.func24, Try.ntmps24
  rw [← hA0.out] at x0 x1 x2 x3
  go_wp2_with fail
  rw [zA] at hA2
  rw [hA0.out, hA1.out, hA2.out]
  have hgl2 : w.heap.size + 1 + 1 = gl := by omega
  rw [hgl2]
  clear hA0 hA1 hA2 zA z1 hgl hgl2 x0 x1 x2 x3
  refine wp_region_noPanic ?_
  refine wp_region_held_drew (S := Sa w.heap.size) (by kernel_rfl) s0 (fun hHeld => ?_)
  unfold Sa at hHeld
  generalize A2.drew = D2 at *
  refine tq 0 ?_
  refine tq 2 ?_
  refine comes_up2 1 3 rfl rfl (by kernel_rfl) (fun K hK => ?_) (fun K hK => ?_)
  · go_simp
    refine (HSH.out _ ud).mono ?_
    rintro e w3 ⟨v3, rfl, ho3, u3⟩
    obtain ⟨a3, c3, rfl, hL3⟩ := LR.own ho3
    have u23 := bl_step ud u3
    clear ho3
    go_wp2_with fail
    refine hK.out _ _ (HS.out _ u23) (fun hHeld => ?_)
    clear hK K
    (try simp only [Act.put, List.setIfInBounds_toArray, List.set_cons_zero, List.set_cons_succ])
    refine comes_up 3 rfl (by kernel_rfl) (fun K hK => ?_)
    go_simp
    have b4 := bl1 w3 (.cells #[.int .u64 1, .int .i64 0, .int .u64 1, .int .i64 0] 34)
    have l4 := one_lr w3
    have u24 := bl_step u23 b4
    have hL4 := hL3.up b4
    have k4 := same_any _ a3 1 c3 [exA] hL4 (some ⟨w3.heap.size, 0, none⟩) 1 1 [exA] l4
    simp only [decide_true] at k4
    clear hL3 hL4 l4
    refine hK.out _ _ (HS.out _ u24) (fun hHeld => ?_)
    clear hK K
    (try simp only [Act.put, List.setIfInBounds_toArray, List.set_cons_zero, List.set_cons_succ])
    refine comes_up 4 rfl (by kernel_rfl) (fun K hK => ?_)
    go_simp
    refine k4.mono ?_
    rintro e w5 ⟨rfl, u5⟩
    have u25 := bl_step u24 u5.bl
    clear k4
    go_wp2_with fail
    refine hK.out _ _ (HS.out _ u25) (fun hHeld => ?_)
    clear hK K
    (try simp only [Act.put, List.setIfInBounds_toArray, List.set_cons_zero, List.set_cons_succ])
    refine tq 5 ?_
    refine tq 6 ?_
    refine comes_up 7 rfl (by kernel_rfl) (fun K hK => ?_)
    go_simp
    refine (HCH.out _ u25).mono ?_
    rintro e w6 ⟨rfl, u6⟩
    have u26 := bl_step u25 u6
    go_wp2_with fail
    refine hK.out _ _ (HS.out _ u26) (fun hHeld => ?_)
    clear hK K
    (try simp only [Act.put, List.setIfInBounds_toArray, List.set_cons_zero, List.set_cons_succ])
    refine tq 8 ?_
    refine tq 9 ?_
    refine tq 10 ?_
    refine tq 11 ?_
    refine comes_up 12 rfl (by kernel_rfl) (fun K hK => ?_)
    go_simp
    refine (HNX.out _ u26).mono ?_
    rintro e w7 ⟨rfl, u7⟩
    have u27 := bl_step u26 u7
    go_wp2_with fail
    refine hK.out _ _ (HS.out _ u27) (fun hHeld => ?_)
    clear hK K
    (try simp only [Act.put, List.setIfInBounds_toArray, List.set_cons_zero, List.set_cons_succ])
    refine tq 13 ?_
    refine tq 14 ?_
    refine tq 15 ?_
    refine wpAnyH_done (by kernel_rfl) ?_ _
    refine NoPanic.normal ?_
    clear hHeld
    have uf := bl_step HB.out u27
    go_wp2
    go_ret
    exact ⟨rfl, uf⟩
  · go_simp
    have b3 := bl1 D2 (.cells #[.int .u64 1, .int .i64 0, .int .u64 1, .int .i64 0] 34)
    have l3 := one_lr D2
    have u23 := bl_step ud b3
    obtain ⟨A3, hA3⟩ : ∃ W, Hid (D2.alloc (.cells #[.int .u64 1, .int .i64 0, .int .u64 1, .int .i64 0] 34) = W) := ⟨_, rfl⟩
    rw [hA3.out] at l3 u23
    clear b3
    rw [hA3.out]
    refine hK.out _ _ (HS.out _ u23) (fun hHeld => ?_)
    clear hK K
    (try simp only [Act.put, List.setIfInBounds_toArray, List.set_cons_zero, List.set_cons_succ])
    refine comes_up 1 rfl (by kernel_rfl) (fun K hK => ?_)
    go_simp
    refine (HSH.out _ u23).mono ?_
    rintro e w4 ⟨v4, rfl, ho4, u4⟩
    obtain ⟨a4, c4, rfl, hL4⟩ := LR.own ho4
    have u24 := bl_step u23 u4
    have k4 := same_any _ a4 1 c4 [exA] hL4 _ 1 1 [exA] (l3.up u4)
    simp only [decide_true] at k4
    clear ho4 hL4 l3
    go_wp2_with fail
    refine hK.out _ _ (HS.out _ u24) (fun hHeld => ?_)
    clear hK K
    (try simp only [Act.put, List.setIfInBounds_toArray, List.set_cons_zero, List.set_cons_succ])
    refine comes_up 4 rfl (by kernel_rfl) (fun K hK => ?_)
    go_simp
    refine k4.mono ?_
    rintro e w5 ⟨rfl, u5⟩
    have u25 := bl_step u24 u5.bl
    clear k4
    go_wp2_with fail
    refine hK.out _ _ (HS.out _ u25) (fun hHeld => ?_)
    clear hK K
    (try simp only [Act.put, List.setIfInBounds_toArray, List.set_cons_zero, List.set_cons_succ])
    refine tq 5 ?_
    refine tq 6 ?_
    refine comes_up 7 rfl (by kernel_rfl) (fun K hK => ?_)
    go_simp
    refine (HCH.out _ u25).mono ?_
    rintro e w6 ⟨rfl, u6⟩
    have u26 := bl_step u25 u6
    go_wp2_with fail
    refine hK.out _ _ (HS.out _ u26) (fun hHeld => ?_)
    clear hK K
    (try simp only [Act.put, List.setIfInBounds_toArray, List.set_cons_zero, List.set_cons_succ])
    refine tq 8 ?_
    refine tq 9 ?_
    refine tq 10 ?_
    refine tq 11 ?_
    refine comes_up 12 rfl (by kernel_rfl) (fun K hK => ?_)
    go_simp
    refine (HNX.out _ u26).mono ?_
    rintro e w7 ⟨rfl, u7⟩
    have u27 := bl_step u26 u7
    go_wp2_with fail
    refine hK.out _ _ (HS.out _ u27) (fun hHeld => ?_)
    clear hK K
    (try simp only [Act.put, List.setIfInBounds_toArray, List.set_cons_zero, List.set_cons_succ])
    refine tq 13 ?_
    refine tq 14 ?_
    refine tq 15 ?_
    refine wpAnyH_done (by kernel_rfl) ?_ _
    refine NoPanic.normal ?_
    clear hHeld
    have uf := bl_step HB.out u27
    go_wp2
    go_ret
    exact ⟨rfl, uf⟩
end Go.Proofs.Ytooeemhlpmiceaa
