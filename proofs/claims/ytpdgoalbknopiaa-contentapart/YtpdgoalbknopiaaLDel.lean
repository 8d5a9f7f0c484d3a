/-
  slices.IndexFunc and slices.DeleteFunc of labels, at what among tells.
-/
import Derived.Test.YtpdgoalbknopiaaLAmong
import Derived.Laws.CopyRow
import Derived.Lib.SliceRun
namespace Go.Proofs.Ytpdgoalbknopiaa
open Go.RowKit Go.Sort
set_option linter.unusedVariables false

end Go.Proofs.Ytpdgoalbknopiaa
