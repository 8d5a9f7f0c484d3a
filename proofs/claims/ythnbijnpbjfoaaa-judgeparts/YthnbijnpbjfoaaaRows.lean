/-
  No cell of these rows narrows 'for every input' (looked for: loops, veiled, ifaces, maps, wideKeys, modest, calm, conditions, laid).
  DERIVED. THE GIVEN ROWS OF THIS SEAT. 7 by the template 'for every input the law returns true; each argument reads behind the call as it read before'; 0 by the template 'total and deterministic' (their statements: YthnbijnpbjfoaaaTotals.lean).
  GIVEN WITH THE SEED: the statements are not yours to turn. If you find one false, say at which input.
  Laid BY PROGRAM, IN A SANDBOX (cutbox-rows.mjs): the forced cells as the released guide's own fill.sh prints them over the translation faeb97a1fb57c141… (all of the seat's roots in one cut). By AI agents, Wed Nov 11 2026. No macro, syntax, notation, axiom, sorry.
-/
import Derived.Test.YthnbijnpbjfoaaaChecked
import GoSem.Claim
import GoSem.ClaimJoined
import GoSem.ClaimMapViews
import Derived.JoinedTies
import Derived.KernelRfl
namespace Go.Proofs.Ythnbijnpbjfoaaa
/- THE CELL 'sum', in the pinned program and in every row, IS THE sha256 OF THE DUMP (.gsa) THAT YthnbijnpbjfoaaaProg.lean LOADS. Nothing in Lean hashes anything: it is a label: what it is worth is what the hold of that sum in a sandbox is worth. -/
noncomputable def Try.pinned : Pinned := { name := "ythnbijnpbjfoaaa", sum := "faeb97a1fb57c14199a979a76d298e9cc49c7c76e35a044e7754271b916a66da", checked := Try.checked }
namespace Rows
def none {H : Type} : Left H := { results := [], args := [] }

/-- 'folkmootlaw19.JudgeTotals': WHATEVER THE INPUT: true; the input reads as it did. -/
def judgeTotalsSpec : ChangeSpec := { name := "judgeTotals", fn := fun _ => fun
  | [d1, d2] => { results := [.lit (.bool true)], args := [d1, d2] }
  | _ => none }
def judgeTotalsRow : OpenClaim := { program := "ythnbijnpbjfoaaa", sum := "faeb97a1fb57c14199a979a76d298e9cc49c7c76e35a044e7754271b916a66da", func := "folkmoot/folkmootlaw19.JudgeTotals", spec := "judgeTotals", unfollowed := true, recurses := true, apart := false }
def JudgeTotalsSaid : Prop := judgeTotalsRow.holds Try.pinned (OpenSpec.ofChange judgeTotalsSpec)

/-- ITS FALSE NEIGHBOUR: 'it returns false'. Refute it at one input. -/
def judgeTotalsWrong : ChangeSpec := { name := "judgeTotals", fn := fun _ => fun
  | [d1, d2] => { results := [.lit (.bool false)], args := [d1, d2] }
  | _ => none }
def JudgeTotalsWrongFalsely : Prop := judgeTotalsRow.holds Try.pinned (OpenSpec.ofChange judgeTotalsWrong)

/-- 'folkmootlaw19.JudgeMixes': WHATEVER THE INPUT: true; the input reads as it did. -/
def judgeMixesSpec : ChangeSpec := { name := "judgeMixes", fn := fun _ => fun
  | [d1, d2, d3, d4] => { results := [.lit (.bool true)], args := [d1, d2, d3, d4] }
  | _ => none }
def judgeMixesRow : OpenClaim := { program := "ythnbijnpbjfoaaa", sum := "faeb97a1fb57c14199a979a76d298e9cc49c7c76e35a044e7754271b916a66da", func := "folkmoot/folkmootlaw19.JudgeMixes", spec := "judgeMixes", unfollowed := true, recurses := true, apart := false }
def JudgeMixesSaid : Prop := judgeMixesRow.holds Try.pinned (OpenSpec.ofChange judgeMixesSpec)

/-- ITS FALSE NEIGHBOUR: 'it returns false'. Refute it at one input. -/
def judgeMixesWrong : ChangeSpec := { name := "judgeMixes", fn := fun _ => fun
  | [d1, d2, d3, d4] => { results := [.lit (.bool false)], args := [d1, d2, d3, d4] }
  | _ => none }
def JudgeMixesWrongFalsely : Prop := judgeMixesRow.holds Try.pinned (OpenSpec.ofChange judgeMixesWrong)

/-- 'folkmootlaw19.JudgeViews': WHATEVER THE INPUT: true; the input reads as it did. -/
def judgeViewsSpec : ChangeSpec := { name := "judgeViews", fn := fun _ => fun
  | [d] => { results := [.lit (.bool true)], args := [d] }
  | _ => none }
def judgeViewsRow : OpenClaim := { program := "ythnbijnpbjfoaaa", sum := "faeb97a1fb57c14199a979a76d298e9cc49c7c76e35a044e7754271b916a66da", func := "folkmoot/folkmootlaw19.JudgeViews", spec := "judgeViews", unfollowed := true, recurses := true, apart := false }
def JudgeViewsSaid : Prop := judgeViewsRow.holds Try.pinned (OpenSpec.ofChange judgeViewsSpec)

/-- ITS FALSE NEIGHBOUR: 'it returns false'. Refute it at one input. -/
def judgeViewsWrong : ChangeSpec := { name := "judgeViews", fn := fun _ => fun
  | [d] => { results := [.lit (.bool false)], args := [d] }
  | _ => none }
def JudgeViewsWrongFalsely : Prop := judgeViewsRow.holds Try.pinned (OpenSpec.ofChange judgeViewsWrong)

/-- 'folkmootlaw19.JudgeGood': WHATEVER THE INPUT: true; the input reads as it did. -/
def judgeGoodSpec : ChangeSpec := { name := "judgeGood", fn := fun _ => fun
  | [d1, d2] => { results := [.lit (.bool true)], args := [d1, d2] }
  | _ => none }
def judgeGoodRow : OpenClaim := { program := "ythnbijnpbjfoaaa", sum := "faeb97a1fb57c14199a979a76d298e9cc49c7c76e35a044e7754271b916a66da", func := "folkmoot/folkmootlaw19.JudgeGood", spec := "judgeGood", unfollowed := true, recurses := true, apart := false }
def JudgeGoodSaid : Prop := judgeGoodRow.holds Try.pinned (OpenSpec.ofChange judgeGoodSpec)

/-- ITS FALSE NEIGHBOUR: 'it returns false'. Refute it at one input. -/
def judgeGoodWrong : ChangeSpec := { name := "judgeGood", fn := fun _ => fun
  | [d1, d2] => { results := [.lit (.bool false)], args := [d1, d2] }
  | _ => none }
def JudgeGoodWrongFalsely : Prop := judgeGoodRow.holds Try.pinned (OpenSpec.ofChange judgeGoodWrong)

/-- 'folkmootlaw19.JudgeBad': WHATEVER THE INPUT: true; the input reads as it did. -/
def judgeBadSpec : ChangeSpec := { name := "judgeBad", fn := fun _ => fun
  | [d1, d2, d3, d4, d5] => { results := [.lit (.bool true)], args := [d1, d2, d3, d4, d5] }
  | _ => none }
def judgeBadRow : OpenClaim := { program := "ythnbijnpbjfoaaa", sum := "faeb97a1fb57c14199a979a76d298e9cc49c7c76e35a044e7754271b916a66da", func := "folkmoot/folkmootlaw19.JudgeBad", spec := "judgeBad", unfollowed := true, recurses := true, apart := false }
def JudgeBadSaid : Prop := judgeBadRow.holds Try.pinned (OpenSpec.ofChange judgeBadSpec)

/-- ITS FALSE NEIGHBOUR: 'it returns false'. Refute it at one input. -/
def judgeBadWrong : ChangeSpec := { name := "judgeBad", fn := fun _ => fun
  | [d1, d2, d3, d4, d5] => { results := [.lit (.bool false)], args := [d1, d2, d3, d4, d5] }
  | _ => none }
def JudgeBadWrongFalsely : Prop := judgeBadRow.holds Try.pinned (OpenSpec.ofChange judgeBadWrong)

/-- 'folkmootlaw19.JudgeParts': WHATEVER THE INPUT: true; the input reads as it did. -/
def judgePartsSpec : ChangeSpec := { name := "judgeParts", fn := fun _ => fun
  | [d1, d2, d3] => { results := [.lit (.bool true)], args := [d1, d2, d3] }
  | _ => none }
def judgePartsRow : OpenClaim := { program := "ythnbijnpbjfoaaa", sum := "faeb97a1fb57c14199a979a76d298e9cc49c7c76e35a044e7754271b916a66da", func := "folkmoot/folkmootlaw19.JudgeParts", spec := "judgeParts", unfollowed := true, recurses := true, apart := false }
def JudgePartsSaid : Prop := judgePartsRow.holds Try.pinned (OpenSpec.ofChange judgePartsSpec)

/-- ITS FALSE NEIGHBOUR: 'it returns false'. Refute it at one input. -/
def judgePartsWrong : ChangeSpec := { name := "judgeParts", fn := fun _ => fun
  | [d1, d2, d3] => { results := [.lit (.bool false)], args := [d1, d2, d3] }
  | _ => none }
def JudgePartsWrongFalsely : Prop := judgePartsRow.holds Try.pinned (OpenSpec.ofChange judgePartsWrong)

/-- 'folkmootlaw19.JudgeOthers': WHATEVER THE INPUT: true; the input reads as it did. -/
def judgeOthersSpec : ChangeSpec := { name := "judgeOthers", fn := fun _ => fun
  | [d1, d2, d3] => { results := [.lit (.bool true)], args := [d1, d2, d3] }
  | _ => none }
def judgeOthersRow : OpenClaim := { program := "ythnbijnpbjfoaaa", sum := "faeb97a1fb57c14199a979a76d298e9cc49c7c76e35a044e7754271b916a66da", func := "folkmoot/folkmootlaw19.JudgeOthers", spec := "judgeOthers", unfollowed := true, recurses := true, apart := false }
def JudgeOthersSaid : Prop := judgeOthersRow.holds Try.pinned (OpenSpec.ofChange judgeOthersSpec)

/-- ITS FALSE NEIGHBOUR: 'it returns false'. Refute it at one input. -/
def judgeOthersWrong : ChangeSpec := { name := "judgeOthers", fn := fun _ => fun
  | [d1, d2, d3] => { results := [.lit (.bool false)], args := [d1, d2, d3] }
  | _ => none }
def JudgeOthersWrongFalsely : Prop := judgeOthersRow.holds Try.pinned (OpenSpec.ofChange judgeOthersWrong)

/- THE SECOND FORM. 'bulk': how many values and letters a reading holds, each counted each time it is reached (what is shared counts as often as it is met; a slice's spare places count too). A statement '..UptoSaid' is the law's where the arguments, and the package variables that the reading takes, are together of bulk at most 1048576: NARROWER than '..Said'. Prove '..Said' where nothing that the law and all that it calls make is longer than what came in: it says more and counts as full. Else prove '..UptoSaid'. A law counts once. -/
mutual
def uptoBulk {H : Type} : DataW H → Nat
  | .lit (.string bytes) => bytes.length + 1
  | .lit _ => 1
  | .nil => 1
  | .ptr d => uptoBulk d + 1
  | .slice elems spare => uptoBulkAll elems + uptoBulkAll spare + 1
  | .agg parts => uptoBulkAll parts + 1
  | .iface _ d => uptoBulk d + 1
  | .map entries => uptoBulkEntries entries + 1
  | .held _ => 1
def uptoBulkAll {H : Type} : List (DataW H) → Nat
  | [] => 0
  | d :: r => uptoBulk d + uptoBulkAll r
def uptoBulkEntries {H : Type} : List (Lit × DataW H) → Nat
  | [] => 0
  | x :: r => uptoBulkEntry x + uptoBulkEntries r
def uptoBulkEntry {H : Type} : Lit × DataW H → Nat
  | (.string bytes, d) => bytes.length + uptoBulk d + 1
  | (_, d) => uptoBulk d + 1
 end
def uptoSmall : (H : Type) → List (DataW H) → Bool := fun _ ds => decide (uptoBulkAll ds ≤ 1048576)
def OpenSpec.upto (s : _root_.Go.ChangeSpec) : _root_.Go.OpenSpec := { _root_.Go.OpenSpec.ofChange s with cond := some uptoSmall }

/-- 'folkmootlaw19.JudgeTotals', WHERE WHAT IT READS IS OF BULK AT MOST 1048576: true; the input reads as it did. -/
def judgeTotalsUptoRow : OpenClaim := { program := "ythnbijnpbjfoaaa", sum := "faeb97a1fb57c14199a979a76d298e9cc49c7c76e35a044e7754271b916a66da", func := "folkmoot/folkmootlaw19.JudgeTotals", spec := "judgeTotals", unfollowed := true, recurses := true, apart := false, narrowed := true }
def JudgeTotalsUptoSaid : Prop := judgeTotalsUptoRow.holds Try.pinned (OpenSpec.upto judgeTotalsSpec)

/-- 'folkmootlaw19.JudgeMixes', WHERE WHAT IT READS IS OF BULK AT MOST 1048576: true; the input reads as it did. -/
def judgeMixesUptoRow : OpenClaim := { program := "ythnbijnpbjfoaaa", sum := "faeb97a1fb57c14199a979a76d298e9cc49c7c76e35a044e7754271b916a66da", func := "folkmoot/folkmootlaw19.JudgeMixes", spec := "judgeMixes", unfollowed := true, recurses := true, apart := false, narrowed := true }
def JudgeMixesUptoSaid : Prop := judgeMixesUptoRow.holds Try.pinned (OpenSpec.upto judgeMixesSpec)

/-- 'folkmootlaw19.JudgeViews', WHERE WHAT IT READS IS OF BULK AT MOST 1048576: true; the input reads as it did. -/
def judgeViewsUptoRow : OpenClaim := { program := "ythnbijnpbjfoaaa", sum := "faeb97a1fb57c14199a979a76d298e9cc49c7c76e35a044e7754271b916a66da", func := "folkmoot/folkmootlaw19.JudgeViews", spec := "judgeViews", unfollowed := true, recurses := true, apart := false, narrowed := true }
def JudgeViewsUptoSaid : Prop := judgeViewsUptoRow.holds Try.pinned (OpenSpec.upto judgeViewsSpec)

/-- 'folkmootlaw19.JudgeGood', WHERE WHAT IT READS IS OF BULK AT MOST 1048576: true; the input reads as it did. -/
def judgeGoodUptoRow : OpenClaim := { program := "ythnbijnpbjfoaaa", sum := "faeb97a1fb57c14199a979a76d298e9cc49c7c76e35a044e7754271b916a66da", func := "folkmoot/folkmootlaw19.JudgeGood", spec := "judgeGood", unfollowed := true, recurses := true, apart := false, narrowed := true }
def JudgeGoodUptoSaid : Prop := judgeGoodUptoRow.holds Try.pinned (OpenSpec.upto judgeGoodSpec)

/-- 'folkmootlaw19.JudgeBad', WHERE WHAT IT READS IS OF BULK AT MOST 1048576: true; the input reads as it did. -/
def judgeBadUptoRow : OpenClaim := { program := "ythnbijnpbjfoaaa", sum := "faeb97a1fb57c14199a979a76d298e9cc49c7c76e35a044e7754271b916a66da", func := "folkmoot/folkmootlaw19.JudgeBad", spec := "judgeBad", unfollowed := true, recurses := true, apart := false, narrowed := true }
def JudgeBadUptoSaid : Prop := judgeBadUptoRow.holds Try.pinned (OpenSpec.upto judgeBadSpec)

/-- 'folkmootlaw19.JudgeParts', WHERE WHAT IT READS IS OF BULK AT MOST 1048576: true; the input reads as it did. -/
def judgePartsUptoRow : OpenClaim := { program := "ythnbijnpbjfoaaa", sum := "faeb97a1fb57c14199a979a76d298e9cc49c7c76e35a044e7754271b916a66da", func := "folkmoot/folkmootlaw19.JudgeParts", spec := "judgeParts", unfollowed := true, recurses := true, apart := false, narrowed := true }
def JudgePartsUptoSaid : Prop := judgePartsUptoRow.holds Try.pinned (OpenSpec.upto judgePartsSpec)

/-- 'folkmootlaw19.JudgeOthers', WHERE WHAT IT READS IS OF BULK AT MOST 1048576: true; the input reads as it did. -/
def judgeOthersUptoRow : OpenClaim := { program := "ythnbijnpbjfoaaa", sum := "faeb97a1fb57c14199a979a76d298e9cc49c7c76e35a044e7754271b916a66da", func := "folkmoot/folkmootlaw19.JudgeOthers", spec := "judgeOthers", unfollowed := true, recurses := true, apart := false, narrowed := true }
def JudgeOthersUptoSaid : Prop := judgeOthersUptoRow.holds Try.pinned (OpenSpec.upto judgeOthersSpec)

end Rows
end Go.Proofs.Ythnbijnpbjfoaaa
