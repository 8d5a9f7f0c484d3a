/-
  Labels: which of two is greater, and which are right; the document's answers.
-/
import Derived.Test.YtpdgoalbknopiaaLOrd
namespace Go.Proofs.Ytpdgoalbknopiaa
open Go.RowKit Go.Sort
set_option linter.unusedVariables false

/-- A label: its view's number, its own, and whose it is. -/
abbrev Lb := Nat × Int × Nat × Int
def lab (x : Lb) : Value := .agg #[.int .u64 (x.1 : Nat), .int .i64 x.2.1, .int .u64 (x.2.2.1 : Nat), .int .i64 x.2.2.2]
/-- Which of two labels is greater. -/
def cmpL (x y : Lb) : Int := if cmpV x.1 x.2.1 y.1 y.2.1 ≠ 0 then cmpV x.1 x.2.1 y.1 y.2.1 else if sgn x.2.2.1 y.2.2.1 ≠ 0 then sgn x.2.2.1 y.2.2.1 else sgn x.2.2.2 y.2.2.2

set_option maxRecDepth 10000 in
theorem or_any (w : World) (B : Nat) (c0 c1 c2 : Int) (h0 : w.cell? ⟨B, 0, none⟩ = some (.int .i64 c0)) (h1 : w.cell? ⟨B, 1, none⟩ = some (.int .i64 c1)) (h2 : w.cell? ⟨B, 2, none⟩ = some (.int .i64 c2)) :
    Calls Try.prog 78 #[.slice (some ⟨B, 0, none⟩) 3 3] w fun e w' => e = .returned (.int .i64 (if c0 ≠ 0 then c0 else if c1 ≠ 0 then c1 else c2)) ∧ w = w' := by
  by_cases a0 : c0 = 0
  · subst a0
    simp only [ne_eq, not_true_eq_false, if_false]
    by_cases a1 : c1 = 0
    · subst a1
      simp only [not_true_eq_false, if_false]
      by_cases a2 : c2 = 0
      · subst a2
        go_enter Try.func78, Try.ntmps78
        go_wp2
        refine wp_loop_rounds 4 ?_
        rw [rounds_succ]
        go_wp2
        rw [rounds_succ]
        go_wp2
        rw [rounds_succ]
        go_wp2
        rw [rounds_succ]
        go_wp2
        go_ret
        exact ⟨rfl, rfl⟩
      · have a2' : (c2 != 0) = true := by simpa using a2
        go_enter Try.func78, Try.ntmps78
        go_wp2
        refine wp_loop_rounds 3 ?_
        rw [rounds_succ]
        go_wp2
        rw [rounds_succ]
        go_wp2
        rw [rounds_succ]
        go_wp2
        go_ret
        exact ⟨rfl, rfl⟩
    · have a1' : (c1 != 0) = true := by simpa using a1
      rw [if_pos a1]
      go_enter Try.func78, Try.ntmps78
      go_wp2
      refine wp_loop_rounds 2 ?_
      rw [rounds_succ]
      go_wp2
      rw [rounds_succ]
      go_wp2
      go_ret
      exact ⟨rfl, rfl⟩
  · have a0' : (c0 != 0) = true := by simpa using a0
    rw [if_pos a0]
    go_enter Try.func78, Try.ntmps78
    go_wp2
    refine wp_loop_rounds 1 ?_
    rw [rounds_succ]
    go_wp2
    go_ret
    exact ⟨rfl, rfl⟩

/-- A label in a block. -/
def Bx (B : Nat) (n : Nat) (p : Int) (s : Nat) (q : Int) (wx : World) : Prop :=
  wx.cell? ⟨B, 0, none⟩ = some (.int .u64 (n : Nat)) ∧ wx.cell? ⟨B, 1, none⟩ = some (.int .i64 p) ∧ wx.cell? ⟨B, 2, none⟩ = some (.int .u64 (s : Nat)) ∧ wx.cell? ⟨B, 3, none⟩ = some (.int .i64 q)
theorem Bx.up {B n s : Nat} {p q : Int} {w w' : World} (h : Bx B n p s q w) (hb : Up w w') : Bx B n p s q w' := ⟨hb.cell h.1, hb.cell h.2.1, hb.cell h.2.2.1, hb.cell h.2.2.2⟩
theorem bx_new (w : World) (n : Nat) (p : Int) (s : Nat) (q : Int) (t : TypeId) : Bx w.heap.size n p s q (w.alloc (.cells #[.int .u64 (n : Nat), .int .i64 p, .int .u64 (s : Nat), .int .i64 q] t)) :=
  ⟨cell_box w _ t 0 _ rfl, cell_box w _ t 1 _ rfl, cell_box w _ t 2 _ rfl, cell_box w _ t 3 _ rfl⟩

set_option maxRecDepth 10000 in
set_option maxHeartbeats 2000000 in
theorem compareL_any (w : World) (x y : Lb) : Calls Try.prog 74 #[lab x, lab y] w fun e w' => e = .returned (.int .i64 (cmpL x y)) ∧ Up w w' := by
  obtain ⟨n1, p1, s1, q1⟩ := x
  obtain ⟨n2, p2, s2, q2⟩ := y
  unfold cmpL lab
  simp only
  have c1 := fun W => compare_any W n1 p1 n2 p2
  have c2 := fun W => cmpU W s1 s2
  have c3 := fun W => cmpI W q1 q2
  have c4 := fun W B h0 h1 h2 => or_any W B (cmpV n1 p1 n2 p2) (sgn s1 s2) (sgn q1 q2) h0 h1 h2
  unfold vid at c1
  generalize cmpV n1 p1 n2 p2 = d1 at *
  generalize sgn s1 s2 = d2 at *
  generalize sgn q1 q2 = d3 at *
  generalize (if d1 ≠ 0 then d1 else if d2 ≠ 0 then d2 else d3) = d4 at *
  have b1 := (bx_new w n1 p1 s1 q1 26).up ((Up.refl _).alloc (.cells #[.int .u64 (n2 : Nat), .int .i64 p2, .int .u64 (s2 : Nat), .int .i64 q2] 26))
  have b2 := bx_new (w.alloc (.cells #[.int .u64 (n1 : Nat), .int .i64 p1, .int .u64 (s1 : Nat), .int .i64 q1] 26)) n2 p2 s2 q2 26
  have at0 : Bx w.heap.size n1 p1 s1 q1 _ ∧ Bx (w.heap.size + 1) n2 p2 s2 q2 _ := ⟨b1, by simpa using b2⟩
  have bl0 : Up w ((w.alloc (.cells #[.int .u64 (n1 : Nat), .int .i64 p1, .int .u64 (s1 : Nat), .int .i64 q1] 26)).alloc (.cells #[.int .u64 (n2 : Nat), .int .i64 p2, .int .u64 (s2 : Nat), .int .i64 q2] 26)).drew := (((Up.refl _).alloc _).alloc _).drew
  clear b1 b2
  go_enter Try.func74, Try.ntmps74
  go_wp2_with fail
  refine wp_region_noPanic ?_
  refine wp_region_held_drew (S := fun wx => Bx w.heap.size n1 p1 s1 q1 wx ∧ Bx (w.heap.size + 1) n2 p2 s2 q2 wx) (by kernel_rfl) at0 (fun hHeld => ?_)
  refine take_first 0 (v := ?_) rfl (by kernel_rfl) (by kernel_rfl) (by kernel_rfl) (fun _ _ _ h => h) (Or.inl ⟨by rfl, by intro wx hSw; obtain ⟨⟨hSw1, hSw2, hSw3, hSw4⟩, hSw5, hSw6, hSw7, hSw8⟩ := hSw; go_simp; try with_reducible rfl⟩) (by assumption) ?_
  (try simp only [Act.put, List.setIfInBounds_toArray, List.set_cons_zero, List.set_cons_succ])
  refine take_first 1 (v := ?_) rfl (by kernel_rfl) (by kernel_rfl) (by kernel_rfl) (fun _ _ _ h => h) (Or.inl ⟨by rfl, by intro wx hSw; obtain ⟨⟨hSw1, hSw2, hSw3, hSw4⟩, hSw5, hSw6, hSw7, hSw8⟩ := hSw; go_simp; try with_reducible rfl⟩) (by assumption) ?_
  (try simp only [Act.put, List.setIfInBounds_toArray, List.set_cons_zero, List.set_cons_succ])
  refine take_first 2 (v := ?_) rfl (by kernel_rfl) (by kernel_rfl) (by kernel_rfl) (fun _ _ _ h => h) (Or.inl ⟨by rfl, by intro wx hSw; obtain ⟨⟨hSw1, hSw2, hSw3, hSw4⟩, hSw5, hSw6, hSw7, hSw8⟩ := hSw; go_simp; try with_reducible rfl⟩) (by assumption) ?_
  (try simp only [Act.put, List.setIfInBounds_toArray, List.set_cons_zero, List.set_cons_succ])
  refine take_first 3 (v := ?_) rfl (by kernel_rfl) (by kernel_rfl) (by kernel_rfl) (fun _ _ _ h => h) (Or.inl ⟨by rfl, by intro wx hSw; obtain ⟨⟨hSw1, hSw2, hSw3, hSw4⟩, hSw5, hSw6, hSw7, hSw8⟩ := hSw; go_simp; try with_reducible rfl⟩) (by assumption) ?_
  (try simp only [Act.put, List.setIfInBounds_toArray, List.set_cons_zero, List.set_cons_succ])
  refine take_first 5 (v := ?_) rfl (by kernel_rfl) (by kernel_rfl) (by kernel_rfl) (fun _ _ _ h => h) (Or.inl ⟨by rfl, by intro wx hSw; obtain ⟨⟨hSw1, hSw2, hSw3, hSw4⟩, hSw5, hSw6, hSw7, hSw8⟩ := hSw; go_simp; try with_reducible rfl⟩) (by assumption) ?_
  (try simp only [Act.put, List.setIfInBounds_toArray, List.set_cons_zero, List.set_cons_succ])
  refine take_first 6 (v := ?_) rfl (by kernel_rfl) (by kernel_rfl) (by kernel_rfl) (fun _ _ _ h => h) (Or.inl ⟨by rfl, by intro wx hSw; obtain ⟨⟨hSw1, hSw2, hSw3, hSw4⟩, hSw5, hSw6, hSw7, hSw8⟩ := hSw; go_simp; try with_reducible rfl⟩) (by assumption) ?_
  (try simp only [Act.put, List.setIfInBounds_toArray, List.set_cons_zero, List.set_cons_succ])
  refine take_first 7 (v := ?_) rfl (by kernel_rfl) (by kernel_rfl) (by kernel_rfl) (fun _ _ _ h => h) (Or.inl ⟨by rfl, by intro wx hSw; obtain ⟨⟨hSw1, hSw2, hSw3, hSw4⟩, hSw5, hSw6, hSw7, hSw8⟩ := hSw; go_simp; try with_reducible rfl⟩) (by assumption) ?_
  (try simp only [Act.put, List.setIfInBounds_toArray, List.set_cons_zero, List.set_cons_succ])
  refine take_first 8 (v := ?_) rfl (by kernel_rfl) (by kernel_rfl) (by kernel_rfl) (fun _ _ _ h => h) (Or.inl ⟨by rfl, by intro wx hSw; obtain ⟨⟨hSw1, hSw2, hSw3, hSw4⟩, hSw5, hSw6, hSw7, hSw8⟩ := hSw; go_simp; try with_reducible rfl⟩) (by assumption) ?_
  (try simp only [Act.put, List.setIfInBounds_toArray, List.set_cons_zero, List.set_cons_succ])
  refine take_first 10 (v := ?_) rfl (by kernel_rfl) (by kernel_rfl) (by kernel_rfl) (fun _ _ _ h => h) (Or.inl ⟨by rfl, by intro wx hSw; obtain ⟨⟨hSw1, hSw2, hSw3, hSw4⟩, hSw5, hSw6, hSw7, hSw8⟩ := hSw; go_simp; try with_reducible rfl⟩) (by assumption) ?_
  (try simp only [Act.put, List.setIfInBounds_toArray, List.set_cons_zero, List.set_cons_succ])
  refine take_first 11 (v := ?_) rfl (by kernel_rfl) (by kernel_rfl) (by kernel_rfl) (fun _ _ _ h => h) (Or.inl ⟨by rfl, by intro wx hSw; obtain ⟨⟨hSw1, hSw2, hSw3, hSw4⟩, hSw5, hSw6, hSw7, hSw8⟩ := hSw; go_simp; try with_reducible rfl⟩) (by assumption) ?_
  (try simp only [Act.put, List.setIfInBounds_toArray, List.set_cons_zero, List.set_cons_succ])
  refine take_first 12 (v := ?_) rfl (by kernel_rfl) (by kernel_rfl) (by kernel_rfl) (fun _ _ _ h => h) (Or.inl ⟨by rfl, by intro wx hSw; obtain ⟨⟨hSw1, hSw2, hSw3, hSw4⟩, hSw5, hSw6, hSw7, hSw8⟩ := hSw; go_simp; try with_reducible rfl⟩) (by assumption) ?_
  (try simp only [Act.put, List.setIfInBounds_toArray, List.set_cons_zero, List.set_cons_succ])
  refine take_first 13 (v := ?_) rfl (by kernel_rfl) (by kernel_rfl) (by kernel_rfl) (fun _ _ _ h => h) (Or.inl ⟨by rfl, by intro wx hSw; obtain ⟨⟨hSw1, hSw2, hSw3, hSw4⟩, hSw5, hSw6, hSw7, hSw8⟩ := hSw; go_simp; try with_reducible rfl⟩) (by assumption) ?_
  (try simp only [Act.put, List.setIfInBounds_toArray, List.set_cons_zero, List.set_cons_succ])
  refine comes_up 4 rfl (by kernel_rfl) (fun K hK => ?_)
  go_simp
  refine (c1 _).mono ?_
  rintro e w1 ⟨rfl, hb1⟩
  have at1 : Bx w.heap.size n1 p1 s1 q1 w1 ∧ Bx (w.heap.size + 1) n2 p2 s2 q2 w1 := ⟨Bx.up (hHeld.1) hb1, Bx.up (hHeld.2) hb1⟩
  have bl1 := bl0.trans hb1
  clear at0 bl0 hb1 hHeld
  go_wp2_with fail
  refine hK.out _ _ at1 (fun hHeld => ?_)
  clear hK K
  (try simp only [Act.put, List.setIfInBounds_toArray, List.set_cons_zero, List.set_cons_succ])
  refine comes_up 9 rfl (by kernel_rfl) (fun K hK => ?_)
  go_simp
  refine (c2 _).mono ?_
  rintro e w2 ⟨rfl, rfl⟩
  go_wp2_with fail
  refine hK.out _ _ at1 (fun hHeld => ?_)
  clear hK K
  (try simp only [Act.put, List.setIfInBounds_toArray, List.set_cons_zero, List.set_cons_succ])
  refine comes_up 14 rfl (by kernel_rfl) (fun K hK => ?_)
  go_simp
  refine (c3 _).mono ?_
  rintro e w2 ⟨rfl, rfl⟩
  go_wp2_with fail
  refine hK.out _ _ at1 (fun hHeld => ?_)
  clear hK K
  (try simp only [Act.put, List.setIfInBounds_toArray, List.set_cons_zero, List.set_cons_succ])
  refine comes_up 15 rfl (by kernel_rfl) (fun K hK => ?_)
  go_simp
  have up3 : Up w1 (w1.alloc (.cells #[.int .i64 d1, .int .i64 d2, .int .i64 d3] 3)) := (Up.refl _).alloc _
  have at3 : Bx w.heap.size n1 p1 s1 q1 (w1.alloc (.cells #[.int .i64 d1, .int .i64 d2, .int .i64 d3] 3)) ∧ Bx (w.heap.size + 1) n2 p2 s2 q2 (w1.alloc (.cells #[.int .i64 d1, .int .i64 d2, .int .i64 d3] 3)) := ⟨Bx.up (at1.1) up3, Bx.up (at1.2) up3⟩
  refine hK.out _ _ at3 (fun hHeld => ?_)
  clear hK K
  (try simp only [Act.put, List.setIfInBounds_toArray, List.set_cons_zero, List.set_cons_succ])
  refine comes_up 16 rfl (by kernel_rfl) (fun K hK => ?_)
  go_simp
  refine (c4 _ _ (cell_box w1 _ 3 0 _ rfl) (cell_box w1 _ 3 1 _ rfl) (cell_box w1 _ 3 2 _ rfl)).mono ?_
  rintro e w4 ⟨rfl, rfl⟩
  go_wp2_with fail
  refine hK.out _ _ at3 (fun hHeld => ?_)
  clear hK K
  (try simp only [Act.put, List.setIfInBounds_toArray, List.set_cons_zero, List.set_cons_succ])
  refine take_first 17 (v := ?_) rfl (by kernel_rfl) (by kernel_rfl) (by kernel_rfl) (fun _ _ _ h => h) (Or.inl ⟨by rfl, by intro wx hSw; obtain ⟨⟨hSw1, hSw2, hSw3, hSw4⟩, hSw5, hSw6, hSw7, hSw8⟩ := hSw; go_simp; try with_reducible rfl⟩) (by assumption) ?_
  (try simp only [Act.put, List.setIfInBounds_toArray, List.set_cons_zero, List.set_cons_succ])
  refine wpAnyH_done (by kernel_rfl) ?_ _
  refine NoPanic.normal ?_
  go_wp2
  go_ret
  exact ⟨rfl, bl1.alloc _⟩
end Go.Proofs.Ytpdgoalbknopiaa
