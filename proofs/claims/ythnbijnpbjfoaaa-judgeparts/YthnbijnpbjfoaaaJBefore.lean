/-
  stay.before: may the node go on into this view?
-/
import Derived.Test.YthnbijnpbjfoaaaJTake
namespace Go.Proofs.Ythnbijnpbjfoaaa
open Go.RowKit Go.Sort
set_option linter.unusedVariables false

theorem above_any (w : World) (n1 : Nat) (p1 : Int) (n2 : Nat) (p2 : Int) : Calls Try.prog 53 #[vid n1 p1, vid n2 p2] w fun e w' => e = .returned (.bool (decide (0 < cmpV n1 p1 n2 p2))) ∧ Up w w' := by
  have hc := fun W => compare_any W n1 p1 n2 p2
  generalize cmpV n1 p1 n2 p2 = c at *
  unfold vid at *
  by_cases h : 0 < c
  · have h2 : decide (0 < c) = true := by simpa using h
    rw [h2]
    clear h2
    go_enter Try.func53, Try.ntmps53
    go_wp2_with fail
    refine (hc _).mono ?_
    rintro e w1 ⟨rfl, u1⟩
    clear hc
    go_wp2
    go_ret
    exact ⟨rfl, (((Up.refl _).alloc _).alloc _).trans u1⟩
  · have h2 : decide (0 < c) = false := by simpa using h
    rw [h2]
    clear h2
    go_enter Try.func53, Try.ntmps53
    go_wp2_with fail
    refine (hc _).mono ?_
    rintro e w1 ⟨rfl, u1⟩
    clear hc
    go_wp2
    go_ret
    exact ⟨ret_bool (by simpa using h), (((Up.refl _).alloc _).alloc _).trans u1⟩

def viv (e : Ev) : Value := .agg #[.int .u64 (e.n : Nat), .int .i64 e.p, .int .u16 (e.s : Nat)]
def B1 (q X : Nat) (node n : Nat) (p : Int) (n' : Nat) (p' : Int) (s' : Nat) (w : World) : Prop :=
  w.cell? ⟨q, 0, none⟩ = some (.int .i64 (node : Nat)) ∧ w.cell? ⟨q, 1, none⟩ = some (.int .u64 (n : Nat)) ∧ w.cell? ⟨q, 2, none⟩ = some (.int .i64 p) ∧ w.cell? ⟨X, 0, none⟩ = some (.int .u64 (n' : Nat)) ∧ w.cell? ⟨X, 1, none⟩ = some (.int .i64 p') ∧ w.cell? ⟨X, 2, none⟩ = some (.int .u16 (s' : Nat))
theorem B1.up {q X node n : Nat} {p : Int} {n' : Nat} {p' : Int} {s' : Nat} {w w' : World} (h : B1 q X node n p n' p' s' w) (u : Below w.heap.size w w') : B1 q X node n p n' p' s' w' := by
  obtain ⟨h0, h1, h2, h3, h4, h5⟩ := h
  exact ⟨bl_cell u h0, bl_cell u h1, bl_cell u h2, bl_cell u h3, bl_cell u h4, bl_cell u h5⟩
set_option maxRecDepth 10000 in
set_option maxHeartbeats 2000000 in
theorem before_any (w : World) (q : Nat) (y : Sy) (rs rg : Sr) (h : Y9 w q y rs rg) (e : Ev) (hs : e.s < 65536) :
    Calls Try.prog 36 #[ptr q, viv e] w fun ee w' => ee = .returned (.bool (beforeD y e)) ∧ Up w w' := by
  obtain ⟨w1, hw1⟩ : ∃ w1, w.alloc (.cells #[.int .u64 (e.n : Nat), .int .i64 e.p, .int .u16 (e.s : Nat)] 47) = w1 := ⟨_, rfl⟩
  have u1 : Up w w1 := by rw [← hw1]; exact (Up.refl _).alloc _
  obtain ⟨X, hX⟩ : ∃ X, w.heap.size = X := ⟨_, rfl⟩
  have x0 : w1.cell? ⟨X, 0, none⟩ = some (.int .u64 (e.n : Nat)) := by rw [← hw1, ← hX]; exact cell_box w _ 47 0 _ rfl
  have x1 : w1.cell? ⟨X, 1, none⟩ = some (.int .i64 e.p) := by rw [← hw1, ← hX]; exact cell_box w _ 47 1 _ rfl
  have x2 : w1.cell? ⟨X, 2, none⟩ = some (.int .u16 (e.s : Nat)) := by rw [← hw1, ← hX]; exact cell_box w _ 47 2 _ rfl
  obtain ⟨y0, y1, y2, _⟩ := h.up u1.bl
  have b1 : B1 q X y.node y.n y.p e.n e.p e.s w1 := ⟨y0, y1, y2, x0, x1, x2⟩
  have bd := b1.up ((Up.refl w1).drew).bl
  have hh := fun W => has_any W e.s hs (y.node : Nat)
  have ha := fun W => above_any W e.n e.p y.n y.p
  unfold beforeD
  obtain ⟨hb, hhb⟩ : ∃ b, hasN e.s y.node = b := ⟨_, rfl⟩
  obtain ⟨ab, hab⟩ : ∃ b, decide (0 < cmpV e.n e.p y.n y.p) = b := ⟨_, rfl⟩
  rw [hhb, hab]
  simp only [hhb] at hh
  simp only [hab] at ha
  clear h y0 y1 y2 x0 x1 x2 b1 hhb hab
  unfold ptr viv
  unfold vid at ha
  by_cases hn : e.n = 0
  · rw [hn] at bd ha ⊢
    have hw1' : w.alloc (.cells #[.int .u64 0, .int .i64 e.p, .int .u16 (e.s : Nat)] 47) = w1 := by rw [← hw1, hn]; rfl
    simp only [Nat.lt_irrefl, decide_false, Bool.false_and]
    go_enter Try.func36, Try.ntmps36
    go_wp2_with fail
    (try simp only [hw1', hX])
    clear hw1 hw1' hX
    refine wp_region_noPanic ?_
    refine wp_region_held_drew (S := B1 q X y.node y.n y.p 0 e.p e.s) (by kernel_rfl) (bd) (fun hHeld => ?_)
    unfold B1 at hHeld
    refine tq 0 ?_
    refine tq 1 ?_
    refine tq 2 ?_
    refine tq 3 ?_
    refine tq 4 ?_
    refine tqS 5 ?_
    refine tqS 6 ?_
    refine tqS 7 ?_
    refine tqS 8 ?_
    refine tqS 9 ?_
    refine tqS 10 ?_
    refine tqS 11 ?_
    refine tq 12 ?_
    refine tq 13 ?_
    refine tqS 14 ?_
    refine tqS 15 ?_
    refine tqS 16 ?_
    refine tqS 17 ?_
    refine tqS 18 ?_
    refine tqS 19 ?_
    refine tqS 20 ?_
    refine tqS 21 ?_
    refine tq 22 ?_
    refine tq 23 ?_
    refine wpAnyH_done (by kernel_rfl) ?_ _
    refine NoPanic.normal ?_
    go_wp2
    go_ret
    exact ⟨rfl, u1.drew⟩
  have hnI : (0 : Int) < (e.n : Int) := by omega
  have hnG : (e.n : Int) > 0 := by omega
  have hnD : decide (0 < e.n) = true := by simp; omega
  rw [hnD]
  simp only [Bool.true_and]
  clear hnD
  cases hb with
  | false =>
    simp only [Bool.false_and]
    go_enter Try.func36, Try.ntmps36
    go_wp2_with fail
    (try simp only [hw1, hX])
    clear hw1 hX
    refine wp_region_noPanic ?_
    refine wp_region_held_drew (S := B1 q X y.node y.n y.p e.n e.p e.s) (by kernel_rfl) (bd) (fun hHeld => ?_)
    unfold B1 at hHeld
    refine tq 0 ?_
    refine tq 1 ?_
    refine tq 2 ?_
    refine tq 3 ?_
    refine tq 4 ?_
    (try rw [show decide (0 < e.n) = true from decide_eq_true (by omega)])
    refine tq 5 ?_
    refine tq 6 ?_
    refine tq 7 ?_
    refine tq 8 ?_
    refine tq 9 ?_
    refine tq 10 ?_
    refine comes_up 11 rfl (by kernel_rfl) (fun K hK => ?_)
    go_simp
    refine (hh _).mono ?_
    rintro _ w3 ⟨rfl, rfl⟩
    refine hK.out _ _ (hHeld) (fun hHeld => ?_)
    clear hK K
    (try simp only [Act.put, List.setIfInBounds_toArray, List.set_cons_zero, List.set_cons_succ])
    refine tq 12 ?_
    refine tq 13 ?_
    refine tqS 14 ?_
    refine tqS 15 ?_
    refine tqS 16 ?_
    refine tqS 17 ?_
    refine tqS 18 ?_
    refine tqS 19 ?_
    refine tqS 20 ?_
    refine tqS 21 ?_
    refine tq 22 ?_
    refine tq 23 ?_
    refine wpAnyH_done (by kernel_rfl) ?_ _
    refine NoPanic.normal ?_
    go_wp2
    go_ret
    exact ⟨rfl, u1.drew⟩
  | true =>
    simp only [Bool.true_and]
    go_enter Try.func36, Try.ntmps36
    go_wp2_with fail
    (try simp only [hw1, hX])
    clear hw1 hX
    refine wp_region_noPanic ?_
    refine wp_region_held_drew (S := B1 q X y.node y.n y.p e.n e.p e.s) (by kernel_rfl) (bd) (fun hHeld => ?_)
    unfold B1 at hHeld
    refine tq 0 ?_
    refine tq 1 ?_
    refine tq 2 ?_
    refine tq 3 ?_
    refine tq 4 ?_
    (try rw [show decide (0 < e.n) = true from decide_eq_true (by omega)])
    refine tq 5 ?_
    refine tq 6 ?_
    refine tq 7 ?_
    refine tq 8 ?_
    refine tq 9 ?_
    refine tq 10 ?_
    refine comes_up 11 rfl (by kernel_rfl) (fun K hK => ?_)
    go_simp
    refine (hh _).mono ?_
    rintro _ w3 ⟨rfl, rfl⟩
    refine hK.out _ _ (hHeld) (fun hHeld => ?_)
    clear hK K
    (try simp only [Act.put, List.setIfInBounds_toArray, List.set_cons_zero, List.set_cons_succ])
    refine tq 12 ?_
    refine tq 13 ?_
    refine tq 14 ?_
    refine tq 15 ?_
    refine tq 16 ?_
    refine tq 17 ?_
    refine tq 18 ?_
    refine tq 19 ?_
    refine tq 20 ?_
    refine comes_up 21 rfl (by kernel_rfl) (fun K hK => ?_)
    go_simp
    refine (ha _).mono ?_
    rintro _ w4 ⟨rfl, u4⟩
    refine hK.out _ _ (B1.up hHeld u4.bl) (fun hHeld => ?_)
    clear hK K
    (try simp only [Act.put, List.setIfInBounds_toArray, List.set_cons_zero, List.set_cons_succ])
    refine tq 22 ?_
    refine tq 23 ?_
    refine wpAnyH_done (by kernel_rfl) ?_ _
    refine NoPanic.normal ?_
    go_wp2
    go_ret
    exact ⟨rfl, u1.trans (((Up.refl w1).drew).trans u4)⟩
end Go.Proofs.Ythnbijnpbjfoaaa
