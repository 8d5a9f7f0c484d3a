/-
  What package label's among tells: whether a label is one of a list.
-/
import Derived.Test.YtpdgoalbknopiaaLMap
namespace Go.Proofs.Ytpdgoalbknopiaa
open Go.RowKit Go.Sort
set_option linter.unusedVariables false


end Go.Proofs.Ytpdgoalbknopiaa
