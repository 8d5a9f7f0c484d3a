/-
  Lists of entries, entries and labels as they are handed in, and how long their messages are.
-/
import Derived.Test.YtlaihgdfedalmaaGreatEArgs2
namespace Go.Proofs.YtlaihgdfedalmaaGreat
open Go.ChangeShapes Go.WideShapes Go.ChangeAt Go.RowKit Go.Deep
set_option linter.unusedVariables false
set_option linter.unusedSimpArgs false

end Go.Proofs.YtlaihgdfedalmaaGreat
