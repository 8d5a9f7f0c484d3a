/-
  How the statements' arguments are opened: a slice of bytes that came in is a row of bytes, and takes no more than the form's own reach.
-/
import Derived.Test.YtlaihgdfedalmaaGreatRows
import Derived.Test.YtlaihgdfedalmaaGreatCdAll
import Derived.ProofKit
import Derived.OpenShut
import Derived.ShutString
import Derived.ChangeOld
import Derived.Below
import Derived.SizedLaws
namespace Go.Proofs.YtlaihgdfedalmaaGreat.Cd
open Go.ChangeShapes Go.WideShapes Go.ChangeAt Go.RowKit
set_option linter.unusedVariables false

theorem own : ownKnob Tryz.prog.godebug = none := by kernel_rfl
theorem laidOut : laidOutB Tryz.prog = true := by kernel_rfl
theorem cells5 : Tryz.prog.cellsOf 5 = 1 := by kernel_rfl

end Go.Proofs.YtlaihgdfedalmaaGreat.Cd
