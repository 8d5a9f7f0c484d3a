/-
  No cell of these rows narrows 'for every input' (looked for: loops, veiled, ifaces, maps, wideKeys, modest, calm, conditions, laid).
  DERIVED. THE GIVEN ROWS OF THIS SEAT. 8 by the template 'for every input the law returns true; each argument reads behind the call as it read before'; 0 by the template 'total and deterministic' (their statements: YtlaihgdfedalmaaGreatTotals.lean).
  GIVEN WITH THE SEED: the statements are not yours to turn. If you find one false, say at which input.
  Laid BY PROGRAM, IN A SANDBOX (cutbox-rows.mjs): the forced cells as the released guide's own fill.sh prints them over the translation 1b3c7c95e5675a4d… (all of the seat's roots in one cut). By AI agents, Wed Nov 11 2026. No macro, syntax, notation, axiom, sorry.
-/
import Derived.Test.YtlaihgdfedalmaaGreatChecked
import GoSem.Claim
import GoSem.ClaimJoined
import GoSem.ClaimMapViews
import Derived.JoinedTies
import Derived.KernelRfl
namespace Go.Proofs.YtlaihgdfedalmaaGreat
/- THE CELL 'sum', in the pinned program and in every row, IS THE sha256 OF THE DUMP (.gsa) THAT YtlaihgdfedalmaaGreatProg.lean LOADS. Nothing in Lean hashes anything: it is a label: what it is worth is what the hold of that sum in a sandbox is worth. -/
noncomputable def Tryz.pinned : Pinned := { name := "ytlaihgdfedalmaagreat", sum := "1b3c7c95e5675a4d870a73c8d0b8a93b15b52e7a95ea257cc814ed31b3b37fc0", checked := Tryz.checked }
namespace Rows
def none {H : Type} : Left H := { results := [], args := [] }

/-- 'folkmootlaw17.TotalPlays': WHATEVER THE INPUT: true; the input reads as it did. -/
def totalPlaysSpec : ChangeSpec := { name := "totalPlays", fn := fun _ => fun
  | [d1, d2, d3, d4] => { results := [.lit (.bool true)], args := [d1, d2, d3, d4] }
  | _ => none }
def totalPlaysRow : OpenClaim := { program := "ytlaihgdfedalmaagreat", sum := "1b3c7c95e5675a4d870a73c8d0b8a93b15b52e7a95ea257cc814ed31b3b37fc0", func := "folkmoot/folkmootlaw17.TotalPlays", spec := "totalPlays", unfollowed := true, recurses := true, plainKeys := false, apart := false }
def TotalPlaysSaid : Prop := totalPlaysRow.holds Tryz.pinned (OpenSpec.ofChange totalPlaysSpec)

/-- ITS FALSE NEIGHBOUR: 'it returns false'. Refute it at one input. -/
def totalPlaysWrong : ChangeSpec := { name := "totalPlays", fn := fun _ => fun
  | [d1, d2, d3, d4] => { results := [.lit (.bool false)], args := [d1, d2, d3, d4] }
  | _ => none }
def TotalPlaysWrongFalsely : Prop := totalPlaysRow.holds Tryz.pinned (OpenSpec.ofChange totalPlaysWrong)

/-- 'folkmootlaw17.TotalOne': WHATEVER THE INPUT: true; the input reads as it did. -/
def totalOneSpec : ChangeSpec := { name := "totalOne", fn := fun _ => fun
  | [d1, d2] => { results := [.lit (.bool true)], args := [d1, d2] }
  | _ => none }
def totalOneRow : OpenClaim := { program := "ytlaihgdfedalmaagreat", sum := "1b3c7c95e5675a4d870a73c8d0b8a93b15b52e7a95ea257cc814ed31b3b37fc0", func := "folkmoot/folkmootlaw17.TotalOne", spec := "totalOne", unfollowed := true, recurses := true, plainKeys := false, apart := false }
def TotalOneSaid : Prop := totalOneRow.holds Tryz.pinned (OpenSpec.ofChange totalOneSpec)

/-- ITS FALSE NEIGHBOUR: 'it returns false'. Refute it at one input. -/
def totalOneWrong : ChangeSpec := { name := "totalOne", fn := fun _ => fun
  | [d1, d2] => { results := [.lit (.bool false)], args := [d1, d2] }
  | _ => none }
def TotalOneWrongFalsely : Prop := totalOneRow.holds Tryz.pinned (OpenSpec.ofChange totalOneWrong)

/-- 'folkmootlaw17.TotalEnds': WHATEVER THE INPUT: true; the input reads as it did. -/
def totalEndsSpec : ChangeSpec := { name := "totalEnds", fn := fun _ => fun
  | [d1, d2, d3] => { results := [.lit (.bool true)], args := [d1, d2, d3] }
  | _ => none }
def totalEndsRow : OpenClaim := { program := "ytlaihgdfedalmaagreat", sum := "1b3c7c95e5675a4d870a73c8d0b8a93b15b52e7a95ea257cc814ed31b3b37fc0", func := "folkmoot/folkmootlaw17.TotalEnds", spec := "totalEnds", unfollowed := true, recurses := true, plainKeys := false, apart := false }
def TotalEndsSaid : Prop := totalEndsRow.holds Tryz.pinned (OpenSpec.ofChange totalEndsSpec)

/-- ITS FALSE NEIGHBOUR: 'it returns false'. Refute it at one input. -/
def totalEndsWrong : ChangeSpec := { name := "totalEnds", fn := fun _ => fun
  | [d1, d2, d3] => { results := [.lit (.bool false)], args := [d1, d2, d3] }
  | _ => none }
def TotalEndsWrongFalsely : Prop := totalEndsRow.holds Tryz.pinned (OpenSpec.ofChange totalEndsWrong)

/-- 'folkmootlaw17.TotalKeeps': WHATEVER THE INPUT: true; the input reads as it did. -/
def totalKeepsSpec : ChangeSpec := { name := "totalKeeps", fn := fun _ => fun
  | [d1, d2] => { results := [.lit (.bool true)], args := [d1, d2] }
  | _ => none }
def totalKeepsRow : OpenClaim := { program := "ytlaihgdfedalmaagreat", sum := "1b3c7c95e5675a4d870a73c8d0b8a93b15b52e7a95ea257cc814ed31b3b37fc0", func := "folkmoot/folkmootlaw17.TotalKeeps", spec := "totalKeeps", unfollowed := true, recurses := true, plainKeys := false, apart := false }
def TotalKeepsSaid : Prop := totalKeepsRow.holds Tryz.pinned (OpenSpec.ofChange totalKeepsSpec)

/-- ITS FALSE NEIGHBOUR: 'it returns false'. Refute it at one input. -/
def totalKeepsWrong : ChangeSpec := { name := "totalKeeps", fn := fun _ => fun
  | [d1, d2] => { results := [.lit (.bool false)], args := [d1, d2] }
  | _ => none }
def TotalKeepsWrongFalsely : Prop := totalKeepsRow.holds Tryz.pinned (OpenSpec.ofChange totalKeepsWrong)

/-- 'folkmootlaw17.TotalFew': WHATEVER THE INPUT: true; the input reads as it did. -/
def totalFewSpec : ChangeSpec := { name := "totalFew", fn := fun _ => fun
  | [d1, d2] => { results := [.lit (.bool true)], args := [d1, d2] }
  | _ => none }
def totalFewRow : OpenClaim := { program := "ytlaihgdfedalmaagreat", sum := "1b3c7c95e5675a4d870a73c8d0b8a93b15b52e7a95ea257cc814ed31b3b37fc0", func := "folkmoot/folkmootlaw17.TotalFew", spec := "totalFew", unfollowed := true, recurses := true, plainKeys := false, apart := false }
def TotalFewSaid : Prop := totalFewRow.holds Tryz.pinned (OpenSpec.ofChange totalFewSpec)

/-- ITS FALSE NEIGHBOUR: 'it returns false'. Refute it at one input. -/
def totalFewWrong : ChangeSpec := { name := "totalFew", fn := fun _ => fun
  | [d1, d2] => { results := [.lit (.bool false)], args := [d1, d2] }
  | _ => none }
def TotalFewWrongFalsely : Prop := totalFewRow.holds Tryz.pinned (OpenSpec.ofChange totalFewWrong)

/-- 'folkmootlaw17.TotalNil': WHATEVER THE INPUT: true; the input reads as it did. -/
def totalNilSpec : ChangeSpec := { name := "totalNil", fn := fun _ => fun
  | [d1, d2, d3] => { results := [.lit (.bool true)], args := [d1, d2, d3] }
  | _ => none }
def totalNilRow : OpenClaim := { program := "ytlaihgdfedalmaagreat", sum := "1b3c7c95e5675a4d870a73c8d0b8a93b15b52e7a95ea257cc814ed31b3b37fc0", func := "folkmoot/folkmootlaw17.TotalNil", spec := "totalNil", unfollowed := true, recurses := true, plainKeys := false, apart := false }
def TotalNilSaid : Prop := totalNilRow.holds Tryz.pinned (OpenSpec.ofChange totalNilSpec)

/-- ITS FALSE NEIGHBOUR: 'it returns false'. Refute it at one input. -/
def totalNilWrong : ChangeSpec := { name := "totalNil", fn := fun _ => fun
  | [d1, d2, d3] => { results := [.lit (.bool false)], args := [d1, d2, d3] }
  | _ => none }
def TotalNilWrongFalsely : Prop := totalNilRow.holds Tryz.pinned (OpenSpec.ofChange totalNilWrong)

/-- 'folkmootlaw17.TotalAlone': WHATEVER THE INPUT: true; the input reads as it did. -/
def totalAloneSpec : ChangeSpec := { name := "totalAlone", fn := fun _ => fun
  | [d1, d2] => { results := [.lit (.bool true)], args := [d1, d2] }
  | _ => none }
def totalAloneRow : OpenClaim := { program := "ytlaihgdfedalmaagreat", sum := "1b3c7c95e5675a4d870a73c8d0b8a93b15b52e7a95ea257cc814ed31b3b37fc0", func := "folkmoot/folkmootlaw17.TotalAlone", spec := "totalAlone", unfollowed := true, recurses := true, plainKeys := false, apart := false }
def TotalAloneSaid : Prop := totalAloneRow.holds Tryz.pinned (OpenSpec.ofChange totalAloneSpec)

/-- ITS FALSE NEIGHBOUR: 'it returns false'. Refute it at one input. -/
def totalAloneWrong : ChangeSpec := { name := "totalAlone", fn := fun _ => fun
  | [d1, d2] => { results := [.lit (.bool false)], args := [d1, d2] }
  | _ => none }
def TotalAloneWrongFalsely : Prop := totalAloneRow.holds Tryz.pinned (OpenSpec.ofChange totalAloneWrong)

/-- 'folkmootlaw17.TotalLabels': WHATEVER THE INPUT: true; the input reads as it did. -/
def totalLabelsSpec : ChangeSpec := { name := "totalLabels", fn := fun _ => fun
  | [d1, d2, d3] => { results := [.lit (.bool true)], args := [d1, d2, d3] }
  | _ => none }
def totalLabelsRow : OpenClaim := { program := "ytlaihgdfedalmaagreat", sum := "1b3c7c95e5675a4d870a73c8d0b8a93b15b52e7a95ea257cc814ed31b3b37fc0", func := "folkmoot/folkmootlaw17.TotalLabels", spec := "totalLabels", unfollowed := true, recurses := true, plainKeys := false, apart := false }
def TotalLabelsSaid : Prop := totalLabelsRow.holds Tryz.pinned (OpenSpec.ofChange totalLabelsSpec)

/-- ITS FALSE NEIGHBOUR: 'it returns false'. Refute it at one input. -/
def totalLabelsWrong : ChangeSpec := { name := "totalLabels", fn := fun _ => fun
  | [d1, d2, d3] => { results := [.lit (.bool false)], args := [d1, d2, d3] }
  | _ => none }
def TotalLabelsWrongFalsely : Prop := totalLabelsRow.holds Tryz.pinned (OpenSpec.ofChange totalLabelsWrong)

/- THE SECOND FORM. 'bulk': how many values and letters a reading holds, each counted each time it is reached (what is shared counts as often as it is met; a slice's spare places count too). A statement '..UptoSaid' is the law's where the arguments, and the package variables that the reading takes, are together of bulk at most 1048576: NARROWER than '..Said'. Prove '..Said' where nothing that the law and all that it calls make is longer than what came in: it says more and counts as full. Else prove '..UptoSaid'. A law counts once. -/
mutual
def uptoBulk {H : Type} : DataW H → Nat
  | .lit (.string bytes) => bytes.length + 1
  | .lit _ => 1
  | .nil => 1
  | .ptr d => uptoBulk d + 1
  | .slice elems spare => uptoBulkAll elems + uptoBulkAll spare + 1
  | .agg parts => uptoBulkAll parts + 1
  | .iface _ d => uptoBulk d + 1
  | .map entries => uptoBulkEntries entries + 1
  | .held _ => 1
def uptoBulkAll {H : Type} : List (DataW H) → Nat
  | [] => 0
  | d :: r => uptoBulk d + uptoBulkAll r
def uptoBulkEntries {H : Type} : List (Lit × DataW H) → Nat
  | [] => 0
  | x :: r => uptoBulkEntry x + uptoBulkEntries r
def uptoBulkEntry {H : Type} : Lit × DataW H → Nat
  | (.string bytes, d) => bytes.length + uptoBulk d + 1
  | (_, d) => uptoBulk d + 1
 end
def uptoSmall : (H : Type) → List (DataW H) → Bool := fun _ ds => decide (uptoBulkAll ds ≤ 1048576)
def OpenSpec.upto (s : _root_.Go.ChangeSpec) : _root_.Go.OpenSpec := { _root_.Go.OpenSpec.ofChange s with cond := some uptoSmall }

/-- 'folkmootlaw17.TotalPlays', WHERE WHAT IT READS IS OF BULK AT MOST 1048576: true; the input reads as it did. -/
def totalPlaysUptoRow : OpenClaim := { program := "ytlaihgdfedalmaagreat", sum := "1b3c7c95e5675a4d870a73c8d0b8a93b15b52e7a95ea257cc814ed31b3b37fc0", func := "folkmoot/folkmootlaw17.TotalPlays", spec := "totalPlays", unfollowed := true, recurses := true, plainKeys := false, apart := false, narrowed := true }
def TotalPlaysUptoSaid : Prop := totalPlaysUptoRow.holds Tryz.pinned (OpenSpec.upto totalPlaysSpec)

/-- 'folkmootlaw17.TotalOne', WHERE WHAT IT READS IS OF BULK AT MOST 1048576: true; the input reads as it did. -/
def totalOneUptoRow : OpenClaim := { program := "ytlaihgdfedalmaagreat", sum := "1b3c7c95e5675a4d870a73c8d0b8a93b15b52e7a95ea257cc814ed31b3b37fc0", func := "folkmoot/folkmootlaw17.TotalOne", spec := "totalOne", unfollowed := true, recurses := true, plainKeys := false, apart := false, narrowed := true }
def TotalOneUptoSaid : Prop := totalOneUptoRow.holds Tryz.pinned (OpenSpec.upto totalOneSpec)

/-- 'folkmootlaw17.TotalEnds', WHERE WHAT IT READS IS OF BULK AT MOST 1048576: true; the input reads as it did. -/
def totalEndsUptoRow : OpenClaim := { program := "ytlaihgdfedalmaagreat", sum := "1b3c7c95e5675a4d870a73c8d0b8a93b15b52e7a95ea257cc814ed31b3b37fc0", func := "folkmoot/folkmootlaw17.TotalEnds", spec := "totalEnds", unfollowed := true, recurses := true, plainKeys := false, apart := false, narrowed := true }
def TotalEndsUptoSaid : Prop := totalEndsUptoRow.holds Tryz.pinned (OpenSpec.upto totalEndsSpec)

/-- 'folkmootlaw17.TotalKeeps', WHERE WHAT IT READS IS OF BULK AT MOST 1048576: true; the input reads as it did. -/
def totalKeepsUptoRow : OpenClaim := { program := "ytlaihgdfedalmaagreat", sum := "1b3c7c95e5675a4d870a73c8d0b8a93b15b52e7a95ea257cc814ed31b3b37fc0", func := "folkmoot/folkmootlaw17.TotalKeeps", spec := "totalKeeps", unfollowed := true, recurses := true, plainKeys := false, apart := false, narrowed := true }
def TotalKeepsUptoSaid : Prop := totalKeepsUptoRow.holds Tryz.pinned (OpenSpec.upto totalKeepsSpec)

/-- 'folkmootlaw17.TotalFew', WHERE WHAT IT READS IS OF BULK AT MOST 1048576: true; the input reads as it did. -/
def totalFewUptoRow : OpenClaim := { program := "ytlaihgdfedalmaagreat", sum := "1b3c7c95e5675a4d870a73c8d0b8a93b15b52e7a95ea257cc814ed31b3b37fc0", func := "folkmoot/folkmootlaw17.TotalFew", spec := "totalFew", unfollowed := true, recurses := true, plainKeys := false, apart := false, narrowed := true }
def TotalFewUptoSaid : Prop := totalFewUptoRow.holds Tryz.pinned (OpenSpec.upto totalFewSpec)

/-- 'folkmootlaw17.TotalNil', WHERE WHAT IT READS IS OF BULK AT MOST 1048576: true; the input reads as it did. -/
def totalNilUptoRow : OpenClaim := { program := "ytlaihgdfedalmaagreat", sum := "1b3c7c95e5675a4d870a73c8d0b8a93b15b52e7a95ea257cc814ed31b3b37fc0", func := "folkmoot/folkmootlaw17.TotalNil", spec := "totalNil", unfollowed := true, recurses := true, plainKeys := false, apart := false, narrowed := true }
def TotalNilUptoSaid : Prop := totalNilUptoRow.holds Tryz.pinned (OpenSpec.upto totalNilSpec)

/-- 'folkmootlaw17.TotalAlone', WHERE WHAT IT READS IS OF BULK AT MOST 1048576: true; the input reads as it did. -/
def totalAloneUptoRow : OpenClaim := { program := "ytlaihgdfedalmaagreat", sum := "1b3c7c95e5675a4d870a73c8d0b8a93b15b52e7a95ea257cc814ed31b3b37fc0", func := "folkmoot/folkmootlaw17.TotalAlone", spec := "totalAlone", unfollowed := true, recurses := true, plainKeys := false, apart := false, narrowed := true }
def TotalAloneUptoSaid : Prop := totalAloneUptoRow.holds Tryz.pinned (OpenSpec.upto totalAloneSpec)

/-- 'folkmootlaw17.TotalLabels', WHERE WHAT IT READS IS OF BULK AT MOST 1048576: true; the input reads as it did. -/
def totalLabelsUptoRow : OpenClaim := { program := "ytlaihgdfedalmaagreat", sum := "1b3c7c95e5675a4d870a73c8d0b8a93b15b52e7a95ea257cc814ed31b3b37fc0", func := "folkmoot/folkmootlaw17.TotalLabels", spec := "totalLabels", unfollowed := true, recurses := true, plainKeys := false, apart := false, narrowed := true }
def TotalLabelsUptoSaid : Prop := totalLabelsUptoRow.holds Tryz.pinned (OpenSpec.upto totalLabelsSpec)

end Rows
end Go.Proofs.YtlaihgdfedalmaaGreat
