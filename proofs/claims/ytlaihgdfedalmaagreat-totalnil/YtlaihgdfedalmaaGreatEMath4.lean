/-
  What is read as an entry, or as a summary, was its bytes.
-/
import Derived.Test.YtlaihgdfedalmaaGreatEMath3
namespace Go.Proofs.YtlaihgdfedalmaaGreat
open Go.RowKit
set_option linter.unusedVariables false

end Go.Proofs.YtlaihgdfedalmaaGreat
