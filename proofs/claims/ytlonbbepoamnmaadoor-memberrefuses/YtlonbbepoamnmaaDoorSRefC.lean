/-
  The document's Join.
-/
import Derived.Test.YtlonbbepoamnmaaDoorSJMath
import Derived.Deep.RegionHeld3
import Derived.Deep.Cut
import Derived.Deep.CutRange
namespace Go.Proofs.YtlonbbepoamnmaaDoor
open Go.RowKit Go.Sort
set_option linter.unusedVariables false

set_option maxRecDepth 10000 in
theorem refEnd_any (w : World) (x : Sx) (hx : OkS x) : Calls Tryd.prog 81 #[sta x] w fun e w' => e = .returned (.int .i64 (endS x)) ∧ Up w w' := by
  clear hx
  obtain ⟨n, p, f, ao, l, c⟩ := x
  unfold sta endS
  simp only at *
  go_enter Tryd.func81, Tryd.ntmps81
  go_wp2
  go_ret
  exact ⟨rfl, (Up.refl _).alloc _⟩

theorem refCompare_any (w : World) (n1 : Nat) (p1 : Int) (n2 : Nat) (p2 : Int) : Calls Tryd.prog 26 #[vid n1 p1, vid n2 p2] w fun e w' => e = .returned (.int .i64 (cmpV n1 p1 n2 p2)) ∧ Up w w' := by
  unfold cmpV sgn vid
  by_cases a : n1 < n2
  · simp only [if_pos a]
    have aI : (n1 : Int) < n2 := by omega
    go_enter Tryd.func26, Tryd.ntmps26
    go_wp2
    go_ret
    exact ⟨rfl, ((Up.refl _).alloc _).alloc _⟩
  · simp only [if_neg a]
    have aI : ¬ ((n1 : Int) < n2) := by omega
    by_cases b : n2 < n1
    · simp only [if_pos b]
      have bI : ((n1 : Int) == n2) = false := by simp; omega
      go_enter Tryd.func26, Tryd.ntmps26
      go_wp2
      go_ret
      exact ⟨rfl, ((Up.refl _).alloc _).alloc _⟩
    · simp only [if_neg b]
      have hn : n1 = n2 := by omega
      subst hn
      clear a b aI
      by_cases c : p1 < p2
      · simp only [if_pos c]
        go_enter Tryd.func26, Tryd.ntmps26
        go_wp2
        go_ret
        exact ⟨rfl, ((Up.refl _).alloc _).alloc _⟩
      · simp only [if_neg c]
        by_cases d : p2 < p1
        · simp only [if_pos d]
          have dI : (p1 == p2) = false := by simp; omega
          go_enter Tryd.func26, Tryd.ntmps26
          go_wp2
          go_ret
          exact ⟨rfl, ((Up.refl _).alloc _).alloc _⟩
        · simp only [if_neg d]
          have hp : p1 = p2 := by omega
          subst hp
          clear c d
          go_enter Tryd.func26, Tryd.ntmps26
          go_wp2
          go_ret
          exact ⟨rfl, ((Up.refl _).alloc _).alloc _⟩

/-- Is a view's number right? -/
def formV (n : Nat) (p : Int) : Bool := decide (0 ≤ p) && decide (p ≤ if n = 0 then 0 else 15)
end Go.Proofs.YtlonbbepoamnmaaDoor
