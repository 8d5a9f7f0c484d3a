/-
  The document's Join.
-/
import Derived.Test.YtfemjbaadnjanaaSRow
import Derived.Deep.Cut
import Derived.Deep.CutRange
namespace Go.Proofs.Ytfemjbaadnjanaa
open Go.RowKit Go.Sort
set_option linter.unusedVariables false

/-- Is a view's number right? -/
def formV (n : Nat) (p : Int) : Bool := decide (0 ≤ p) && decide (p ≤ if n = 0 then 0 else 15)
end Go.Proofs.Ytfemjbaadnjanaa
