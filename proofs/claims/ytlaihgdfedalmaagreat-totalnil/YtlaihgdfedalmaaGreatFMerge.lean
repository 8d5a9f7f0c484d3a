/-
  The document's Merge: entries by their labels, with others.
-/
import Derived.Test.YtlaihgdfedalmaaGreatFMergeA
namespace Go.Proofs.YtlaihgdfedalmaaGreat
open Go.RowKit
set_option linter.unusedVariables false
set_option linter.unusedSimpArgs false

end Go.Proofs.YtlaihgdfedalmaaGreat
