/-
  No cell of these rows narrows 'for every input' (looked for: loops, veiled, ifaces, maps, wideKeys, modest, calm, conditions, laid).
  DERIVED. THE GIVEN ROWS OF THIS SEAT. 6 by the template 'for every input the law returns true; each argument reads behind the call as it read before'; 0 by the template 'total and deterministic' (their statements: YtdnhhbpnefhjlaaTotals.lean).
  GIVEN WITH THE SEED: the statements are not yours to turn. If you find one false, say at which input.
  Laid BY PROGRAM, IN A SANDBOX (cutbox-rows.mjs): the forced cells as the released guide's own fill.sh prints them over the translation e49e1dbad3ab6343… (all of the seat's roots in one cut). By AI agents, Wed Nov 11 2026. No macro, syntax, notation, axiom, sorry.
-/
import Derived.Test.YtdnhhbpnefhjlaaChecked
import GoSem.Claim
import GoSem.ClaimJoined
import GoSem.ClaimMapViews
import Derived.JoinedTies
import Derived.KernelRfl
namespace Go.Proofs.Ytdnhhbpnefhjlaa
/- THE CELL 'sum', in the pinned program and in every row, IS THE sha256 OF THE DUMP (.gsa) THAT YtdnhhbpnefhjlaaProg.lean LOADS. Nothing in Lean hashes anything: it is a label: what it is worth is what the hold of that sum in a sandbox is worth. -/
noncomputable def Try.pinned : Pinned := { name := "ytdnhhbpnefhjlaa", sum := "e49e1dbad3ab63434979d919d4e5647321638ff404369408c2a101dc9c3cdba8", checked := Try.checked }
namespace Rows
def none {H : Type} : Left H := { results := [], args := [] }

/-- 'folkmootlaw05.LabelOrder': WHATEVER THE INPUT: true; the input reads as it did. -/
def labelOrderSpec : ChangeSpec := { name := "labelOrder", fn := fun _ => fun
  | [d1, d2, d3] => { results := [.lit (.bool true)], args := [d1, d2, d3] }
  | _ => none }
def labelOrderRow : OpenClaim := { program := "ytdnhhbpnefhjlaa", sum := "e49e1dbad3ab63434979d919d4e5647321638ff404369408c2a101dc9c3cdba8", func := "folkmoot/folkmootlaw05.LabelOrder", spec := "labelOrder", unfollowed := true, recurses := true, plainKeys := false, apart := false }
def LabelOrderSaid : Prop := labelOrderRow.holds Try.pinned (OpenSpec.ofChange labelOrderSpec)

/-- ITS FALSE NEIGHBOUR: 'it returns false'. Refute it at one input. -/
def labelOrderWrong : ChangeSpec := { name := "labelOrder", fn := fun _ => fun
  | [d1, d2, d3] => { results := [.lit (.bool false)], args := [d1, d2, d3] }
  | _ => none }
def LabelOrderWrongFalsely : Prop := labelOrderRow.holds Try.pinned (OpenSpec.ofChange labelOrderWrong)

/-- 'folkmootlaw05.LabelSorts': WHATEVER THE INPUT: true; the input reads as it did. -/
def labelSortsSpec : ChangeSpec := { name := "labelSorts", fn := fun _ => fun
  | [d] => { results := [.lit (.bool true)], args := [d] }
  | _ => none }
def labelSortsRow : OpenClaim := { program := "ytdnhhbpnefhjlaa", sum := "e49e1dbad3ab63434979d919d4e5647321638ff404369408c2a101dc9c3cdba8", func := "folkmoot/folkmootlaw05.LabelSorts", spec := "labelSorts", unfollowed := true, recurses := true, plainKeys := false, apart := false }
def LabelSortsSaid : Prop := labelSortsRow.holds Try.pinned (OpenSpec.ofChange labelSortsSpec)

/-- ITS FALSE NEIGHBOUR: 'it returns false'. Refute it at one input. -/
def labelSortsWrong : ChangeSpec := { name := "labelSorts", fn := fun _ => fun
  | [d] => { results := [.lit (.bool false)], args := [d] }
  | _ => none }
def LabelSortsWrongFalsely : Prop := labelSortsRow.holds Try.pinned (OpenSpec.ofChange labelSortsWrong)

/-- 'folkmootlaw05.LabelBehind': WHATEVER THE INPUT: true; the input reads as it did. -/
def labelBehindSpec : ChangeSpec := { name := "labelBehind", fn := fun _ => fun
  | [d1, d2] => { results := [.lit (.bool true)], args := [d1, d2] }
  | _ => none }
def labelBehindRow : OpenClaim := { program := "ytdnhhbpnefhjlaa", sum := "e49e1dbad3ab63434979d919d4e5647321638ff404369408c2a101dc9c3cdba8", func := "folkmoot/folkmootlaw05.LabelBehind", spec := "labelBehind", unfollowed := true, recurses := true, plainKeys := false, apart := false }
def LabelBehindSaid : Prop := labelBehindRow.holds Try.pinned (OpenSpec.ofChange labelBehindSpec)

/-- ITS FALSE NEIGHBOUR: 'it returns false'. Refute it at one input. -/
def labelBehindWrong : ChangeSpec := { name := "labelBehind", fn := fun _ => fun
  | [d1, d2] => { results := [.lit (.bool false)], args := [d1, d2] }
  | _ => none }
def LabelBehindWrongFalsely : Prop := labelBehindRow.holds Try.pinned (OpenSpec.ofChange labelBehindWrong)

/-- 'folkmootlaw05.LabelCodes': WHATEVER THE INPUT: true; the input reads as it did. -/
def labelCodesSpec : ChangeSpec := { name := "labelCodes", fn := fun _ => fun
  | [d1, d2, d3] => { results := [.lit (.bool true)], args := [d1, d2, d3] }
  | _ => none }
def labelCodesRow : OpenClaim := { program := "ytdnhhbpnefhjlaa", sum := "e49e1dbad3ab63434979d919d4e5647321638ff404369408c2a101dc9c3cdba8", func := "folkmoot/folkmootlaw05.LabelCodes", spec := "labelCodes", unfollowed := true, recurses := true, plainKeys := false, apart := false }
def LabelCodesSaid : Prop := labelCodesRow.holds Try.pinned (OpenSpec.ofChange labelCodesSpec)

/-- ITS FALSE NEIGHBOUR: 'it returns false'. Refute it at one input. -/
def labelCodesWrong : ChangeSpec := { name := "labelCodes", fn := fun _ => fun
  | [d1, d2, d3] => { results := [.lit (.bool false)], args := [d1, d2, d3] }
  | _ => none }
def LabelCodesWrongFalsely : Prop := labelCodesRow.holds Try.pinned (OpenSpec.ofChange labelCodesWrong)

/-- 'folkmootlaw05.LabelKeeps': WHATEVER THE INPUT: true; the input reads as it did. -/
def labelKeepsSpec : ChangeSpec := { name := "labelKeeps", fn := fun _ => fun
  | [d1, d2] => { results := [.lit (.bool true)], args := [d1, d2] }
  | _ => none }
def labelKeepsRow : OpenClaim := { program := "ytdnhhbpnefhjlaa", sum := "e49e1dbad3ab63434979d919d4e5647321638ff404369408c2a101dc9c3cdba8", func := "folkmoot/folkmootlaw05.LabelKeeps", spec := "labelKeeps", unfollowed := true, recurses := true, plainKeys := false, apart := false }
def LabelKeepsSaid : Prop := labelKeepsRow.holds Try.pinned (OpenSpec.ofChange labelKeepsSpec)

/-- ITS FALSE NEIGHBOUR: 'it returns false'. Refute it at one input. -/
def labelKeepsWrong : ChangeSpec := { name := "labelKeeps", fn := fun _ => fun
  | [d1, d2] => { results := [.lit (.bool false)], args := [d1, d2] }
  | _ => none }
def LabelKeepsWrongFalsely : Prop := labelKeepsRow.holds Try.pinned (OpenSpec.ofChange labelKeepsWrong)

/-- 'folkmootlaw05.LabelParts': WHATEVER THE INPUT: true; the input reads as it did. -/
def labelPartsSpec : ChangeSpec := { name := "labelParts", fn := fun _ => fun
  | [d1, d2] => { results := [.lit (.bool true)], args := [d1, d2] }
  | _ => none }
def labelPartsRow : OpenClaim := { program := "ytdnhhbpnefhjlaa", sum := "e49e1dbad3ab63434979d919d4e5647321638ff404369408c2a101dc9c3cdba8", func := "folkmoot/folkmootlaw05.LabelParts", spec := "labelParts", unfollowed := true, recurses := true, plainKeys := false, apart := false }
def LabelPartsSaid : Prop := labelPartsRow.holds Try.pinned (OpenSpec.ofChange labelPartsSpec)

/-- ITS FALSE NEIGHBOUR: 'it returns false'. Refute it at one input. -/
def labelPartsWrong : ChangeSpec := { name := "labelParts", fn := fun _ => fun
  | [d1, d2] => { results := [.lit (.bool false)], args := [d1, d2] }
  | _ => none }
def LabelPartsWrongFalsely : Prop := labelPartsRow.holds Try.pinned (OpenSpec.ofChange labelPartsWrong)

/- THE SECOND FORM. 'bulk': how many values and letters a reading holds, each counted each time it is reached (what is shared counts as often as it is met; a slice's spare places count too). A statement '..UptoSaid' is the law's where the arguments, and the package variables that the reading takes, are together of bulk at most 1048576: NARROWER than '..Said'. Prove '..Said' where nothing that the law and all that it calls make is longer than what came in: it says more and counts as full. Else prove '..UptoSaid'. A law counts once. -/
mutual
def uptoBulk {H : Type} : DataW H → Nat
  | .lit (.string bytes) => bytes.length + 1
  | .lit _ => 1
  | .nil => 1
  | .ptr d => uptoBulk d + 1
  | .slice elems spare => uptoBulkAll elems + uptoBulkAll spare + 1
  | .agg parts => uptoBulkAll parts + 1
  | .iface _ d => uptoBulk d + 1
  | .map entries => uptoBulkEntries entries + 1
  | .held _ => 1
def uptoBulkAll {H : Type} : List (DataW H) → Nat
  | [] => 0
  | d :: r => uptoBulk d + uptoBulkAll r
def uptoBulkEntries {H : Type} : List (Lit × DataW H) → Nat
  | [] => 0
  | x :: r => uptoBulkEntry x + uptoBulkEntries r
def uptoBulkEntry {H : Type} : Lit × DataW H → Nat
  | (.string bytes, d) => bytes.length + uptoBulk d + 1
  | (_, d) => uptoBulk d + 1
 end
def uptoSmall : (H : Type) → List (DataW H) → Bool := fun _ ds => decide (uptoBulkAll ds ≤ 1048576)
def OpenSpec.upto (s : _root_.Go.ChangeSpec) : _root_.Go.OpenSpec := { _root_.Go.OpenSpec.ofChange s with cond := some uptoSmall }

/-- 'folkmootlaw05.LabelOrder', WHERE WHAT IT READS IS OF BULK AT MOST 1048576: true; the input reads as it did. -/
def labelOrderUptoRow : OpenClaim := { program := "ytdnhhbpnefhjlaa", sum := "e49e1dbad3ab63434979d919d4e5647321638ff404369408c2a101dc9c3cdba8", func := "folkmoot/folkmootlaw05.LabelOrder", spec := "labelOrder", unfollowed := true, recurses := true, plainKeys := false, apart := false, narrowed := true }
def LabelOrderUptoSaid : Prop := labelOrderUptoRow.holds Try.pinned (OpenSpec.upto labelOrderSpec)

/-- 'folkmootlaw05.LabelSorts', WHERE WHAT IT READS IS OF BULK AT MOST 1048576: true; the input reads as it did. -/
def labelSortsUptoRow : OpenClaim := { program := "ytdnhhbpnefhjlaa", sum := "e49e1dbad3ab63434979d919d4e5647321638ff404369408c2a101dc9c3cdba8", func := "folkmoot/folkmootlaw05.LabelSorts", spec := "labelSorts", unfollowed := true, recurses := true, plainKeys := false, apart := false, narrowed := true }
def LabelSortsUptoSaid : Prop := labelSortsUptoRow.holds Try.pinned (OpenSpec.upto labelSortsSpec)

/-- 'folkmootlaw05.LabelBehind', WHERE WHAT IT READS IS OF BULK AT MOST 1048576: true; the input reads as it did. -/
def labelBehindUptoRow : OpenClaim := { program := "ytdnhhbpnefhjlaa", sum := "e49e1dbad3ab63434979d919d4e5647321638ff404369408c2a101dc9c3cdba8", func := "folkmoot/folkmootlaw05.LabelBehind", spec := "labelBehind", unfollowed := true, recurses := true, plainKeys := false, apart := false, narrowed := true }
def LabelBehindUptoSaid : Prop := labelBehindUptoRow.holds Try.pinned (OpenSpec.upto labelBehindSpec)

/-- 'folkmootlaw05.LabelCodes', WHERE WHAT IT READS IS OF BULK AT MOST 1048576: true; the input reads as it did. -/
def labelCodesUptoRow : OpenClaim := { program := "ytdnhhbpnefhjlaa", sum := "e49e1dbad3ab63434979d919d4e5647321638ff404369408c2a101dc9c3cdba8", func := "folkmoot/folkmootlaw05.LabelCodes", spec := "labelCodes", unfollowed := true, recurses := true, plainKeys := false, apart := false, narrowed := true }
def LabelCodesUptoSaid : Prop := labelCodesUptoRow.holds Try.pinned (OpenSpec.upto labelCodesSpec)

/-- 'folkmootlaw05.LabelKeeps', WHERE WHAT IT READS IS OF BULK AT MOST 1048576: true; the input reads as it did. -/
def labelKeepsUptoRow : OpenClaim := { program := "ytdnhhbpnefhjlaa", sum := "e49e1dbad3ab63434979d919d4e5647321638ff404369408c2a101dc9c3cdba8", func := "folkmoot/folkmootlaw05.LabelKeeps", spec := "labelKeeps", unfollowed := true, recurses := true, plainKeys := false, apart := false, narrowed := true }
def LabelKeepsUptoSaid : Prop := labelKeepsUptoRow.holds Try.pinned (OpenSpec.upto labelKeepsSpec)

/-- 'folkmootlaw05.LabelParts', WHERE WHAT IT READS IS OF BULK AT MOST 1048576: true; the input reads as it did. -/
def labelPartsUptoRow : OpenClaim := { program := "ytdnhhbpnefhjlaa", sum := "e49e1dbad3ab63434979d919d4e5647321638ff404369408c2a101dc9c3cdba8", func := "folkmoot/folkmootlaw05.LabelParts", spec := "labelParts", unfollowed := true, recurses := true, plainKeys := false, apart := false, narrowed := true }
def LabelPartsUptoSaid : Prop := labelPartsUptoRow.holds Try.pinned (OpenSpec.upto labelPartsSpec)

end Rows
end Go.Proofs.Ytdnhhbpnefhjlaa
