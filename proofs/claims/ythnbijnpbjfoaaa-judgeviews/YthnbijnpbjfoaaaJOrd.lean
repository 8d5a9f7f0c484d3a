/-
  Views' numbers: which of two is greater, and which are right (package ident), and the document's answers.
-/
import Derived.Test.YthnbijnpbjfoaaaJBase
namespace Go.Proofs.Ythnbijnpbjfoaaa
open Go.RowKit
set_option linter.unusedVariables false

/-- Which of two numbers is greater. -/
def sgn (x y : Int) : Int := if x < y then -1 else if y < x then 1 else 0
/-- Which of two views' numbers is greater. -/
def cmpV (n1 : Nat) (p1 : Int) (n2 : Nat) (p2 : Int) : Int := if n1 < n2 then -1 else if n2 < n1 then 1 else sgn p1 p2
def vid (n : Nat) (p : Int) : Value := .agg #[.int .u64 (n : Nat), .int .i64 p]

theorem nanU (w : World) (x : Int) : Calls Try.prog 64 #[.int .u64 x] w fun e w' => e = .returned (.bool false) ∧ w = w' := by
  go_enter Try.func64, Try.ntmps64
  go_wp2
  go_ret
  exact ⟨ret_bool (by simp), rfl⟩
theorem nanI (w : World) (x : Int) : Calls Try.prog 65 #[.int .i64 x] w fun e w' => e = .returned (.bool false) ∧ w = w' := by
  go_enter Try.func65, Try.ntmps65
  go_wp2
  go_ret
  exact ⟨ret_bool (by simp), rfl⟩
theorem cmpU (w : World) (x y : Int) : Calls Try.prog 39 #[.int .u64 x, .int .u64 y] w fun e w' => e = .returned (.int .i64 (sgn x y)) ∧ w = w' := by
  unfold sgn
  by_cases h1 : x < y
  · rw [if_pos h1]
    go_enter Try.func39, Try.ntmps39
    go_wp2_with (first | (go_at_call 64; refine (nanU _ _).mono ?_; rintro e w' ⟨rfl, rfl⟩))
    go_ret
    exact ⟨rfl, rfl⟩
  · rw [if_neg h1]
    by_cases h2 : y < x
    · rw [if_pos h2]
      go_enter Try.func39, Try.ntmps39
      go_wp2_with (first | (go_at_call 64; refine (nanU _ _).mono ?_; rintro e w' ⟨rfl, rfl⟩))
      go_ret
      exact ⟨rfl, rfl⟩
    · rw [if_neg h2]
      go_enter Try.func39, Try.ntmps39
      go_wp2_with (first | (go_at_call 64; refine (nanU _ _).mono ?_; rintro e w' ⟨rfl, rfl⟩))
      go_ret
      exact ⟨rfl, rfl⟩
theorem cmpI (w : World) (x y : Int) : Calls Try.prog 40 #[.int .i64 x, .int .i64 y] w fun e w' => e = .returned (.int .i64 (sgn x y)) ∧ w = w' := by
  unfold sgn
  by_cases h1 : x < y
  · rw [if_pos h1]
    go_enter Try.func40, Try.ntmps40
    go_wp2_with (first | (go_at_call 65; refine (nanI _ _).mono ?_; rintro e w' ⟨rfl, rfl⟩))
    go_ret
    exact ⟨rfl, rfl⟩
  · rw [if_neg h1]
    by_cases h2 : y < x
    · rw [if_pos h2]
      go_enter Try.func40, Try.ntmps40
      go_wp2_with (first | (go_at_call 65; refine (nanI _ _).mono ?_; rintro e w' ⟨rfl, rfl⟩))
      go_ret
      exact ⟨rfl, rfl⟩
    · rw [if_neg h2]
      go_enter Try.func40, Try.ntmps40
      go_wp2_with (first | (go_at_call 65; refine (nanI _ _).mono ?_; rintro e w' ⟨rfl, rfl⟩))
      go_ret
      exact ⟨rfl, rfl⟩


theorem compare_any (w : World) (n1 : Nat) (p1 : Int) (n2 : Nat) (p2 : Int) : Calls Try.prog 25 #[vid n1 p1, vid n2 p2] w fun e w' => e = .returned (.int .i64 (cmpV n1 p1 n2 p2)) ∧ Up w w' := by
  have h1 := fun W => cmpU W n1 n2
  have h2 := fun W => cmpI W p1 p2
  have hs : sgn (n1 : Int) (n2 : Int) = if n1 < n2 then -1 else if n2 < n1 then 1 else 0 := by
    unfold sgn; by_cases a : n1 < n2
    · rw [if_pos a, if_pos (by omega)]
    · rw [if_neg a, if_neg (by omega)]
      by_cases b : n2 < n1
      · rw [if_pos b, if_pos (by omega)]
      · rw [if_neg b, if_neg (by omega)]
  rw [hs] at h1
  clear hs
  unfold cmpV vid
  generalize sgn p1 p2 = c2 at *
  by_cases a : n1 < n2
  · simp only [if_pos a] at h1 ⊢
    clear a
    go_enter Try.func25, Try.ntmps25
    go_wp2_with fail
    refine (h1 _).mono ?_
    rintro e w' ⟨rfl, rfl⟩
    go_wp2
    go_ret
    exact ⟨rfl, ((Up.refl _).alloc _).alloc _⟩
  · simp only [if_neg a] at h1 ⊢
    by_cases b : n2 < n1
    · simp only [if_pos b] at h1 ⊢
      clear a b
      go_enter Try.func25, Try.ntmps25
      go_wp2_with fail
      refine (h1 _).mono ?_
      rintro e w' ⟨rfl, rfl⟩
      go_wp2
      go_ret
      exact ⟨rfl, ((Up.refl _).alloc _).alloc _⟩
    · simp only [if_neg b] at h1 ⊢
      clear a b
      go_enter Try.func25, Try.ntmps25
      go_wp2_with fail
      refine (h1 _).mono ?_
      rintro e w' ⟨rfl, rfl⟩
      go_wp2_with fail
      refine (h2 _).mono ?_
      rintro e w' ⟨rfl, rfl⟩
      go_wp2
      go_ret
      exact ⟨rfl, ((Up.refl _).alloc _).alloc _⟩

end Go.Proofs.Ythnbijnpbjfoaaa
