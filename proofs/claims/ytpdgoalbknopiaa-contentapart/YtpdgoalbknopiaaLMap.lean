/-
  A set of labels: a map from labels to nothing.
-/
import Derived.Test.YtpdgoalbknopiaaLSame
import Derived.Below
namespace Go.Proofs.Ytpdgoalbknopiaa
open Go.RowKit Go.Sort
set_option linter.unusedVariables false

def In (a : Int) : Prop := -9223372036854775808 ≤ a ∧ a ≤ 9223372036854775807
/-- The numbers of a label are numbers of their kinds. -/
def OkL (x : Lb) : Prop := x.1 < 18446744073709551616 ∧ In x.2.1 ∧ x.2.2.1 < 18446744073709551616 ∧ In x.2.2.2
theorem wf_i64 {a : Int} (h : In a) : (Lit.int .i64 a).wf = true := by
  unfold In at h
  simp [Lit.wf, IntKind.min, IntKind.max, IntKind.bits, IntKind.signed]
  omega
theorem wf_u64 {a : Nat} (h : a < 18446744073709551616) : (Lit.int .u64 (a : Int)).wf = true := by
  simp [Lit.wf, IntKind.min, IntKind.max, IntKind.bits, IntKind.signed]
  omega

theorem laidOut : laidOutB Try.prog = true := by kernel_rfl
theorem cells26 : Try.prog.cellsOf 26 = 4 := by kernel_rfl
theorem cells24 : Try.prog.cellsOf 24 = 2 := by kernel_rfl
theorem cells22 : Try.prog.cellsOf 22 = 1 := by kernel_rfl
theorem cells3 : Try.prog.cellsOf 3 = 1 := by kernel_rfl
end Go.Proofs.Ytpdgoalbknopiaa
