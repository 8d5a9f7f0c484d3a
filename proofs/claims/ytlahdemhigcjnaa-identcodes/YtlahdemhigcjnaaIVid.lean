/-
  Views' numbers as they are handed in.
-/
import Derived.Test.YtlahdemhigcjnaaIOrd
import Derived.Test.YtlahdemhigcjnaaIArgs
import Derived.Lib.SmallJoins
namespace Go.Proofs.Ytlahdemhigcjnaa
open Go.ChangeShapes Go.WideShapes Go.ChangeAt Go.RowKit Go.Joins
set_option linter.unusedVariables false
theorem cells29 : Try.prog.cellsOf 29 = 2 := by kernel_rfl
theorem shut_vid {H : Type} {enc : TypeId × Value → H} {W : World} {base : Nat} {spare : Nat → Bool} {held : Bool} {n q : Int} (wa : (Lit.int .u64 n).wf = true) (wb : (Lit.int .i64 q).wf = true) :
    DataW.Trod enc Try.prog W base spare held 29 (.agg #[.int .u64 n, .int .i64 q]) (.agg [.lit (.int .u64 n), .lit (.int .i64 q)]) ([] ++ []) :=
  shut_agg2 (y0 := (.lit (.int .u64 n), [])) (y1 := (.lit (.int .i64 q), [])) Try.underlying29 (by kernel_rfl) cells29 ⟨1, by simp [DataW.trod, Try.underlying27, wa]⟩ ⟨1, by simp [DataW.trod, Try.underlying3, wb]⟩
end Go.Proofs.Ytlahdemhigcjnaa
