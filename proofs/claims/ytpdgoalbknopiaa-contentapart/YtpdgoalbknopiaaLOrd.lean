/-
  Views' numbers: which of two is greater, and which are right (package ident), and the document's answers.
-/
import Derived.Test.YtpdgoalbknopiaaLBase
namespace Go.Proofs.Ytpdgoalbknopiaa
open Go.RowKit
set_option linter.unusedVariables false

/-- Which of two numbers is greater. -/
def sgn (x y : Int) : Int := if x < y then -1 else if y < x then 1 else 0
/-- Which of two views' numbers is greater. -/
def cmpV (n1 : Nat) (p1 : Int) (n2 : Nat) (p2 : Int) : Int := if n1 < n2 then -1 else if n2 < n1 then 1 else sgn p1 p2
def vid (n : Nat) (p : Int) : Value := .agg #[.int .u64 (n : Nat), .int .i64 p]

theorem nanU (w : World) (x : Int) : Calls Try.prog 84 #[.int .u64 x] w fun e w' => e = .returned (.bool false) ∧ w = w' := by
  go_enter Try.func84, Try.ntmps84
  go_wp2
  go_ret
  exact ⟨ret_bool (by simp), rfl⟩
theorem nanI (w : World) (x : Int) : Calls Try.prog 85 #[.int .i64 x] w fun e w' => e = .returned (.bool false) ∧ w = w' := by
  go_enter Try.func85, Try.ntmps85
  go_wp2
  go_ret
  exact ⟨ret_bool (by simp), rfl⟩
theorem cmpU (w : World) (x y : Int) : Calls Try.prog 80 #[.int .u64 x, .int .u64 y] w fun e w' => e = .returned (.int .i64 (sgn x y)) ∧ w = w' := by
  unfold sgn
  by_cases h1 : x < y
  · rw [if_pos h1]
    go_enter Try.func80, Try.ntmps80
    go_wp2_with (first | (go_at_call 84; refine (nanU _ _).mono ?_; rintro e w' ⟨rfl, rfl⟩))
    go_ret
    exact ⟨rfl, rfl⟩
  · rw [if_neg h1]
    by_cases h2 : y < x
    · rw [if_pos h2]
      go_enter Try.func80, Try.ntmps80
      go_wp2_with (first | (go_at_call 84; refine (nanU _ _).mono ?_; rintro e w' ⟨rfl, rfl⟩))
      go_ret
      exact ⟨rfl, rfl⟩
    · rw [if_neg h2]
      go_enter Try.func80, Try.ntmps80
      go_wp2_with (first | (go_at_call 84; refine (nanU _ _).mono ?_; rintro e w' ⟨rfl, rfl⟩))
      go_ret
      exact ⟨rfl, rfl⟩
theorem cmpI (w : World) (x y : Int) : Calls Try.prog 81 #[.int .i64 x, .int .i64 y] w fun e w' => e = .returned (.int .i64 (sgn x y)) ∧ w = w' := by
  unfold sgn
  by_cases h1 : x < y
  · rw [if_pos h1]
    go_enter Try.func81, Try.ntmps81
    go_wp2_with (first | (go_at_call 85; refine (nanI _ _).mono ?_; rintro e w' ⟨rfl, rfl⟩))
    go_ret
    exact ⟨rfl, rfl⟩
  · rw [if_neg h1]
    by_cases h2 : y < x
    · rw [if_pos h2]
      go_enter Try.func81, Try.ntmps81
      go_wp2_with (first | (go_at_call 85; refine (nanI _ _).mono ?_; rintro e w' ⟨rfl, rfl⟩))
      go_ret
      exact ⟨rfl, rfl⟩
    · rw [if_neg h2]
      go_enter Try.func81, Try.ntmps81
      go_wp2_with (first | (go_at_call 85; refine (nanI _ _).mono ?_; rintro e w' ⟨rfl, rfl⟩))
      go_ret
      exact ⟨rfl, rfl⟩


theorem compare_any (w : World) (n1 : Nat) (p1 : Int) (n2 : Nat) (p2 : Int) : Calls Try.prog 79 #[vid n1 p1, vid n2 p2] w fun e w' => e = .returned (.int .i64 (cmpV n1 p1 n2 p2)) ∧ Up w w' := by
  have h1 := fun W => cmpU W n1 n2
  have h2 := fun W => cmpI W p1 p2
  have hs : sgn (n1 : Int) (n2 : Int) = if n1 < n2 then -1 else if n2 < n1 then 1 else 0 := by
    unfold sgn; by_cases a : n1 < n2
    · rw [if_pos a, if_pos (by omega)]
    · rw [if_neg a, if_neg (by omega)]
      by_cases b : n2 < n1
      · rw [if_pos b, if_pos (by omega)]
      · rw [if_neg b, if_neg (by omega)]
  rw [hs] at h1
  clear hs
  unfold cmpV vid
  generalize sgn p1 p2 = c2 at *
  by_cases a : n1 < n2
  · simp only [if_pos a] at h1 ⊢
    clear a
    go_enter Try.func79, Try.ntmps79
    go_wp2_with fail
    refine (h1 _).mono ?_
    rintro e w' ⟨rfl, rfl⟩
    go_wp2
    go_ret
    exact ⟨rfl, ((Up.refl _).alloc _).alloc _⟩
  · simp only [if_neg a] at h1 ⊢
    by_cases b : n2 < n1
    · simp only [if_pos b] at h1 ⊢
      clear a b
      go_enter Try.func79, Try.ntmps79
      go_wp2_with fail
      refine (h1 _).mono ?_
      rintro e w' ⟨rfl, rfl⟩
      go_wp2
      go_ret
      exact ⟨rfl, ((Up.refl _).alloc _).alloc _⟩
    · simp only [if_neg b] at h1 ⊢
      clear a b
      go_enter Try.func79, Try.ntmps79
      go_wp2_with fail
      refine (h1 _).mono ?_
      rintro e w' ⟨rfl, rfl⟩
      go_wp2_with fail
      refine (h2 _).mono ?_
      rintro e w' ⟨rfl, rfl⟩
      go_wp2
      go_ret
      exact ⟨rfl, ((Up.refl _).alloc _).alloc _⟩

/-- The document's answer. -/
theorem refCompare_any (w : World) (n1 : Nat) (p1 : Int) (n2 : Nat) (p2 : Int) : Calls Try.prog 72 #[vid n1 p1, vid n2 p2] w fun e w' => e = .returned (.int .i64 (cmpV n1 p1 n2 p2)) ∧ Up w w' := by
  unfold cmpV sgn vid
  by_cases a : n1 < n2
  · simp only [if_pos a]
    have aI : (n1 : Int) < n2 := by omega
    go_enter Try.func72, Try.ntmps72
    go_wp2
    go_ret
    exact ⟨rfl, ((Up.refl _).alloc _).alloc _⟩
  · simp only [if_neg a]
    have aI : ¬ ((n1 : Int) < n2) := by omega
    by_cases b : n2 < n1
    · simp only [if_pos b]
      have bI : ((n1 : Int) == n2) = false := by simp; omega
      go_enter Try.func72, Try.ntmps72
      go_wp2
      go_ret
      exact ⟨rfl, ((Up.refl _).alloc _).alloc _⟩
    · simp only [if_neg b]
      have hn : n1 = n2 := by omega
      subst hn
      clear a b aI
      by_cases c : p1 < p2
      · simp only [if_pos c]
        go_enter Try.func72, Try.ntmps72
        go_wp2
        go_ret
        exact ⟨rfl, ((Up.refl _).alloc _).alloc _⟩
      · simp only [if_neg c]
        by_cases d : p2 < p1
        · simp only [if_pos d]
          have dI : (p1 == p2) = false := by simp; omega
          go_enter Try.func72, Try.ntmps72
          go_wp2
          go_ret
          exact ⟨rfl, ((Up.refl _).alloc _).alloc _⟩
        · simp only [if_neg d]
          have hp : p1 = p2 := by omega
          subst hp
          clear c d
          go_enter Try.func72, Try.ntmps72
          go_wp2
          go_ret
          exact ⟨rfl, ((Up.refl _).alloc _).alloc _⟩

/-- Is a view's number right? -/
def formV (n : Nat) (p : Int) : Bool := decide (0 ≤ p) && decide (p ≤ if n = 0 then 0 else 15)
theorem refForm_any (w : World) (n : Nat) (p : Int) : Calls Try.prog 36 #[vid n p] w fun e w' => e = .returned (.bool (formV n p)) ∧ Up w w' := by
  unfold formV vid
  by_cases h0 : n = 0
  · subst h0
    have e : (decide (0 ≤ p) && decide (p ≤ if (0 : Nat) = 0 then 0 else 15)) = (p == 0) := by
      rw [Bool.eq_iff_iff]; simp; omega
    rw [e]
    clear e
    go_enter Try.func36, Try.ntmps36
    go_wp2
    go_ret
    exact ⟨rfl, (Up.refl _).alloc _⟩
  · rw [if_neg h0]
    have hI : ((n : Int) == 0) = false := by simp; omega
    by_cases h1 : 0 ≤ p
    · rw [show decide (0 ≤ p) = true by simpa using h1]
      go_enter Try.func36, Try.ntmps36
      go_wp2
      go_ret
      exact ⟨ret_bool (by simp), (Up.refl _).alloc _⟩
    · rw [show decide (0 ≤ p) = false by simpa using h1]
      go_enter Try.func36, Try.ntmps36
      go_wp2
      go_ret
      exact ⟨ret_bool (by simp), (Up.refl _).alloc _⟩

theorem great_any (w : World) (n : Nat) : Calls Try.prog 60 #[.int .u64 (n : Nat)] w fun e w' => e = .returned (.int .i64 (if n = 0 then 0 else 15)) ∧ w = w' := by
  by_cases h0 : n = 0
  · subst h0
    go_enter Try.func60, Try.ntmps60
    go_wp2
    go_ret
    exact ⟨rfl, rfl⟩
  · rw [if_neg h0]
    have hI : ((n : Int) == 0) = false := by simp; omega
    go_enter Try.func60, Try.ntmps60
    go_wp2
    go_ret
    exact ⟨rfl, rfl⟩

set_option maxRecDepth 10000 in
theorem form_any (w : World) (n : Nat) (p : Int) : Calls Try.prog 33 #[vid n p] w fun e w' => e = .returned (.bool (formV n p)) ∧ Up w w' := by
  have hg := fun W => great_any W n
  unfold formV vid
  generalize (if n = 0 then (0 : Int) else 15) = g at *
  by_cases h1 : 0 ≤ p
  · have hd : decide (0 ≤ p) = true := by simpa using h1
    rw [hd]
    have hgs := fun W => (hg W).mono (fun e w' ⟨a, b⟩ => (⟨a, b.symm⟩ : e = _ ∧ w' = W))
    go_enter Try.func33, Try.ntmps33
    go_wp2_with fail
    go_quiet (first | (go_at_call 60; refine Calls.quiet_of_same (hgs _)))
    go_wp2
    go_ret
    exact ⟨ret_bool (by simp), ((Up.refl _).alloc _).drewN _⟩
  · have hd : decide (0 ≤ p) = false := by simpa using h1
    rw [hd]
    have hgs := fun W => (hg W).mono (fun e w' ⟨a, b⟩ => (⟨a, b.symm⟩ : e = _ ∧ w' = W))
    go_enter Try.func33, Try.ntmps33
    go_wp2_with fail
    go_quiet (first | (go_at_call 60; refine Calls.quiet_of_same (hgs _)))
    go_wp2
    go_ret
    exact ⟨ret_bool (by simp), ((Up.refl _).alloc _).drewN _⟩

end Go.Proofs.Ytpdgoalbknopiaa
