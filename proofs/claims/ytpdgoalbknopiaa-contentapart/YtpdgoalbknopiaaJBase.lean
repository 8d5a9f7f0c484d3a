/-
  Which views' numbers are right: nothing of old turns.
-/
import Derived.Test.YtpdgoalbknopiaaLOrd
namespace Go.Proofs.Ytpdgoalbknopiaa
open Go.RowKit Go.Sort
set_option linter.unusedVariables false
theorem formB_any (w : World) (n : Nat) (p : Int) : Calls Try.prog 33 #[vid n p] w fun e w' => e = .returned (.bool (formV n p)) ∧ RowKit.Below w.heap.size w w' := (form_any w n p).mono fun _ _ h => ⟨h.1, h.2.bl⟩
theorem refFormB_any (w : World) (n : Nat) (p : Int) : Calls Try.prog 36 #[vid n p] w fun e w' => e = .returned (.bool (formV n p)) ∧ RowKit.Below w.heap.size w w' := (refForm_any w n p).mono fun _ _ h => ⟨h.1, h.2.bl⟩
theorem row_shape {w : World} {B e n : Nat} {v : Value} {xs : List Value} (h : w.ownsRow B e 1 v n xs) : ∃ ao cap, v = .slice ao n cap := by
  rcases h.2 with ⟨rfl, rfl⟩ | ⟨g, cap, cur, rfl, _⟩
  · exact ⟨_, _, rfl⟩
  · exact ⟨_, _, rfl⟩
end Go.Proofs.Ytpdgoalbknopiaa
