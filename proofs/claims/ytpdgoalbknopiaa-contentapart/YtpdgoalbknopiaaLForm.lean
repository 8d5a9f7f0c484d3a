/-
  Labels: which are right, and which of two is less: the document's answers.
-/
import Derived.Test.YtpdgoalbknopiaaLCmp
namespace Go.Proofs.Ytpdgoalbknopiaa
open Go.RowKit Go.Sort
set_option linter.unusedVariables false

/-- Is a label right? -/
def formL (x : Lb) : Bool := formV x.1 x.2.1 && decide (0 < x.1) && decide (0 < x.2.2.1) && decide (0 ≤ x.2.2.2) && decide (x.2.2.2 ≤ 15)
set_option maxRecDepth 10000 in
set_option maxHeartbeats 1000000 in
theorem formL_any (w : World) (x : Lb) : Calls Try.prog 19 #[lab x] w fun e w' => e = .returned (.bool (formL x)) ∧ Up w w' := by
  obtain ⟨n, p, s, q⟩ := x
  unfold formL lab
  simp only
  have c1 := fun W => form_any W n p
  unfold vid at c1
  have up0 : Up w (w.alloc (.cells #[.int .u64 (n : Nat), .int .i64 p, .int .u64 (s : Nat), .int .i64 q] 26)) := (Up.refl _).alloc _
  have bx0 := bx_new w n p s q 26
  cases hf : formV n p with
  | false =>
    rw [hf] at c1
    simp only [Bool.false_and]
    go_enter Try.func19, Try.ntmps19
    go_wp2_with fail
    refine (c1 _).mono ?_
    rintro e w1 ⟨rfl, hb⟩
    have up1 := up0.trans hb
    obtain ⟨d0, d1, d2, d3⟩ := bx0.up hb
    clear hb c1 bx0 up0
    go_wp2
    go_ret
    exact ⟨rfl, up1⟩
  | true =>
    rw [hf] at c1
    simp only [Bool.true_and]
    by_cases hn : 0 < n
    · have hnI : (0 : Int) < (n : Int) := by omega
      by_cases hs : 0 < s
      · have hsI : (0 : Int) < (s : Int) := by omega
        by_cases hq : 0 ≤ q
        · have hqI : 0 ≤ q := by omega
          go_enter Try.func19, Try.ntmps19
          go_wp2_with fail
          refine (c1 _).mono ?_
          rintro e w1 ⟨rfl, hb⟩
          have up1 := up0.trans hb
          obtain ⟨d0, d1, d2, d3⟩ := bx0.up hb
          clear hb c1 bx0 up0
          go_wp2
          go_ret
          exact ⟨ret_bool (by simp [*] <;> omega), up1⟩
        · have hqI : ¬ (0 ≤ q) := by omega
          go_enter Try.func19, Try.ntmps19
          go_wp2_with fail
          refine (c1 _).mono ?_
          rintro e w1 ⟨rfl, hb⟩
          have up1 := up0.trans hb
          obtain ⟨d0, d1, d2, d3⟩ := bx0.up hb
          clear hb c1 bx0 up0
          go_wp2
          go_ret
          exact ⟨ret_bool (by simp [*] <;> omega), up1⟩
      · have hsI : ¬ ((0 : Int) < (s : Int)) := by omega
        go_enter Try.func19, Try.ntmps19
        go_wp2_with fail
        refine (c1 _).mono ?_
        rintro e w1 ⟨rfl, hb⟩
        have up1 := up0.trans hb
        obtain ⟨d0, d1, d2, d3⟩ := bx0.up hb
        clear hb c1 bx0 up0
        go_wp2
        go_ret
        exact ⟨ret_bool (by simp [*] <;> omega), up1⟩
    · have hnI : ¬ ((0 : Int) < (n : Int)) := by omega
      go_enter Try.func19, Try.ntmps19
      go_wp2_with fail
      refine (c1 _).mono ?_
      rintro e w1 ⟨rfl, hb⟩
      have up1 := up0.trans hb
      obtain ⟨d0, d1, d2, d3⟩ := bx0.up hb
      clear hb c1 bx0 up0
      go_wp2
      go_ret
      exact ⟨ret_bool (by simp [*] <;> omega), up1⟩
set_option maxRecDepth 10000 in
set_option maxHeartbeats 1000000 in
theorem refFormL_any (w : World) (x : Lb) : Calls Try.prog 20 #[lab x] w fun e w' => e = .returned (.bool (formL x)) ∧ Up w w' := by
  obtain ⟨n, p, s, q⟩ := x
  unfold formL lab
  simp only
  have c1 := fun W => refForm_any W n p
  unfold vid at c1
  have up0 : Up w (w.alloc (.cells #[.int .u64 (n : Nat), .int .i64 p, .int .u64 (s : Nat), .int .i64 q] 26)) := (Up.refl _).alloc _
  have bx0 := bx_new w n p s q 26
  cases hf : formV n p with
  | false =>
    rw [hf] at c1
    simp only [Bool.false_and]
    go_enter Try.func20, Try.ntmps20
    go_wp2_with fail
    refine (c1 _).mono ?_
    rintro e w1 ⟨rfl, hb⟩
    have up1 := up0.trans hb
    obtain ⟨d0, d1, d2, d3⟩ := bx0.up hb
    clear hb c1 bx0 up0
    go_wp2
    go_ret
    exact ⟨rfl, up1⟩
  | true =>
    rw [hf] at c1
    simp only [Bool.true_and]
    by_cases hn : 0 < n
    · have hnI : (0 : Int) < (n : Int) := by omega
      by_cases hs : 0 < s
      · have hsI : (0 : Int) < (s : Int) := by omega
        by_cases hq : 0 ≤ q
        · have hqI : 0 ≤ q := by omega
          go_enter Try.func20, Try.ntmps20
          go_wp2_with fail
          refine (c1 _).mono ?_
          rintro e w1 ⟨rfl, hb⟩
          have up1 := up0.trans hb
          obtain ⟨d0, d1, d2, d3⟩ := bx0.up hb
          clear hb c1 bx0 up0
          go_wp2
          go_ret
          exact ⟨ret_bool (by simp [*] <;> omega), up1⟩
        · have hqI : ¬ (0 ≤ q) := by omega
          go_enter Try.func20, Try.ntmps20
          go_wp2_with fail
          refine (c1 _).mono ?_
          rintro e w1 ⟨rfl, hb⟩
          have up1 := up0.trans hb
          obtain ⟨d0, d1, d2, d3⟩ := bx0.up hb
          clear hb c1 bx0 up0
          go_wp2
          go_ret
          exact ⟨ret_bool (by simp [*] <;> omega), up1⟩
      · have hsI : ¬ ((0 : Int) < (s : Int)) := by omega
        go_enter Try.func20, Try.ntmps20
        go_wp2_with fail
        refine (c1 _).mono ?_
        rintro e w1 ⟨rfl, hb⟩
        have up1 := up0.trans hb
        obtain ⟨d0, d1, d2, d3⟩ := bx0.up hb
        clear hb c1 bx0 up0
        go_wp2
        go_ret
        exact ⟨ret_bool (by simp [*] <;> omega), up1⟩
    · have hnI : ¬ ((0 : Int) < (n : Int)) := by omega
      go_enter Try.func20, Try.ntmps20
      go_wp2_with fail
      refine (c1 _).mono ?_
      rintro e w1 ⟨rfl, hb⟩
      have up1 := up0.trans hb
      obtain ⟨d0, d1, d2, d3⟩ := bx0.up hb
      clear hb c1 bx0 up0
      go_wp2
      go_ret
      exact ⟨ret_bool (by simp [*] <;> omega), up1⟩

set_option maxRecDepth 10000 in
set_option maxHeartbeats 1000000 in
theorem less_any (w : World) (x y : Lb) : Calls Try.prog 61 #[lab x, lab y] w fun e w' => e = .returned (.bool (decide (cmpL x y < 0))) ∧ Up w w' := by
  obtain ⟨n1, p1, s1, q1⟩ := x
  obtain ⟨n2, p2, s2, q2⟩ := y
  unfold cmpL lab
  simp only
  have c1 := fun W => refCompare_any W n1 p1 n2 p2
  unfold vid at c1
  generalize cmpV n1 p1 n2 p2 = d1 at *
  have b1 := (bx_new w n1 p1 s1 q1 26).up ((Up.refl _).alloc (.cells #[.int .u64 (n2 : Nat), .int .i64 p2, .int .u64 (s2 : Nat), .int .i64 q2] 26))
  have b2 := bx_new (w.alloc (.cells #[.int .u64 (n1 : Nat), .int .i64 p1, .int .u64 (s1 : Nat), .int .i64 q1] 26)) n2 p2 s2 q2 26
  have hsz : (w.alloc (.cells #[.int .u64 (n1 : Nat), .int .i64 p1, .int .u64 (s1 : Nat), .int .i64 q1] 26)).heap.size = w.heap.size + 1 := by simp
  rw [hsz] at b2
  have b2' := b2
  clear hsz
  have up0 : Up w ((w.alloc (.cells #[.int .u64 (n1 : Nat), .int .i64 p1, .int .u64 (s1 : Nat), .int .i64 q1] 26)).alloc (.cells #[.int .u64 (n2 : Nat), .int .i64 p2, .int .u64 (s2 : Nat), .int .i64 q2] 26)) := ((Up.refl _).alloc _).alloc _
  clear b2
  by_cases h1 : d1 = 0
  · subst h1
    simp only [ne_eq, not_true_eq_false, if_false]
    by_cases h2 : s1 < s2
    · have h2I : (s1 : Int) < (s2 : Int) := by omega
      have hs : sgn (s1 : Int) s2 = -1 := by unfold sgn; rw [if_pos h2I]
      rw [hs]
      go_enter Try.func61, Try.ntmps61
      go_wp2_with fail
      refine (c1 _).mono ?_
      rintro e w1 ⟨rfl, hb⟩
      have up1 := up0.trans hb
      obtain ⟨d0, d1, d2, d3⟩ := b1.up hb
      obtain ⟨e0, e1, e2, e3⟩ := b2'.up hb
      clear hb c1 b1 b2' up0
      go_wp2
      go_ret
      exact ⟨ret_bool (by simp), up1⟩
    · have h2I : ¬ ((s1 : Int) < (s2 : Int)) := by omega
      by_cases h3 : s1 = s2
      · subst h3
        have hs : sgn (s1 : Int) s1 = 0 := by unfold sgn; simp
        have hq : decide (sgn q1 q2 < 0) = decide (q1 < q2) := by unfold sgn; by_cases a : q1 < q2 <;> by_cases b : q2 < q1 <;> simp [a, b]
        simp only [hs, not_true_eq_false, if_false, hq]
        go_enter Try.func61, Try.ntmps61
        go_wp2_with fail
        refine (c1 _).mono ?_
        rintro e w1 ⟨rfl, hb⟩
        have up1 := up0.trans hb
        obtain ⟨d0, d1, d2, d3⟩ := b1.up hb
        obtain ⟨e0, e1, e2, e3⟩ := b2'.up hb
        clear hb c1 b1 b2' up0
        go_wp2
        go_ret
        exact ⟨ret_bool (by simp), up1⟩
      · have h3I : ((s1 : Int) == (s2 : Int)) = false := by simp; omega
        have hs : sgn (s1 : Int) s2 = 1 := by unfold sgn; rw [if_neg h2I, if_pos (by omega)]
        rw [hs]
        go_enter Try.func61, Try.ntmps61
        go_wp2_with fail
        refine (c1 _).mono ?_
        rintro e w1 ⟨rfl, hb⟩
        have up1 := up0.trans hb
        obtain ⟨d0, d1, d2, d3⟩ := b1.up hb
        obtain ⟨e0, e1, e2, e3⟩ := b2'.up hb
        clear hb c1 b1 b2' up0
        go_wp2
        go_ret
        exact ⟨ret_bool (by simp), up1⟩
  · have h1' : (d1 != 0) = true := by simpa using h1
    rw [if_pos h1]
    go_enter Try.func61, Try.ntmps61
    go_wp2_with fail
    refine (c1 _).mono ?_
    rintro e w1 ⟨rfl, hb⟩
    have up1 := up0.trans hb
    clear hb c1 b1 b2' up0
    go_wp2
    go_ret
    exact ⟨ret_bool (by simp), up1⟩
end Go.Proofs.Ytpdgoalbknopiaa
