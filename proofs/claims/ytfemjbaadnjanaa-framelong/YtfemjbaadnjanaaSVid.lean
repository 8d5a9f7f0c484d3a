/-
  Views' numbers: which of two is greater, and which are right (package ident), and the document's answers.
-/
import Derived.Test.YtfemjbaadnjanaaSItem
namespace Go.Proofs.Ytfemjbaadnjanaa
open Go.RowKit
set_option linter.unusedVariables false

def vid (n : Nat) (p : Int) : Value := .agg #[.int .u64 (n : Nat), .int .i64 p]

end Go.Proofs.Ytfemjbaadnjanaa
