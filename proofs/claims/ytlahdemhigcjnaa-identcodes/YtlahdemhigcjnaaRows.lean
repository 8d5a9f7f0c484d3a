/-
  No cell of these rows narrows 'for every input' (looked for: loops, veiled, ifaces, maps, wideKeys, modest, calm, conditions, laid).
  DERIVED. THE GIVEN ROWS OF THIS SEAT. 4 by the template 'for every input the law returns true; each argument reads behind the call as it read before'; 0 by the template 'total and deterministic' (their statements: YtlahdemhigcjnaaTotals.lean).
  GIVEN WITH THE SEED: the statements are not yours to turn. If you find one false, say at which input.
  Laid BY PROGRAM, IN A SANDBOX (cutbox-rows.mjs): the forced cells as the released guide's own fill.sh prints them over the translation 5978711475fb6c58… (all of the seat's roots in one cut). By AI agents, Wed Nov 11 2026. No macro, syntax, notation, axiom, sorry.
-/
import Derived.Test.YtlahdemhigcjnaaChecked
import GoSem.Claim
import GoSem.ClaimJoined
import GoSem.ClaimMapViews
import Derived.JoinedTies
import Derived.KernelRfl
namespace Go.Proofs.Ytlahdemhigcjnaa
/- THE CELL 'sum', in the pinned program and in every row, IS THE sha256 OF THE DUMP (.gsa) THAT YtlahdemhigcjnaaProg.lean LOADS. Nothing in Lean hashes anything: it is a label: what it is worth is what the hold of that sum in a sandbox is worth. -/
noncomputable def Try.pinned : Pinned := { name := "ytlahdemhigcjnaa", sum := "5978711475fb6c58d328ec81ecc4fb57ba0e61ac25b1184332b37f98bb4a026b", checked := Try.checked }
namespace Rows
def none {H : Type} : Left H := { results := [], args := [] }

/-- 'folkmootlaw04.IdentMeet': WHATEVER THE INPUT: true; the input reads as it did. -/
def identMeetSpec : ChangeSpec := { name := "identMeet", fn := fun _ => fun
  | [d1, d2, d3] => { results := [.lit (.bool true)], args := [d1, d2, d3] }
  | _ => none }
def identMeetRow : OpenClaim := { program := "ytlahdemhigcjnaa", sum := "5978711475fb6c58d328ec81ecc4fb57ba0e61ac25b1184332b37f98bb4a026b", func := "folkmoot/folkmootlaw04.IdentMeet", spec := "identMeet", apart := false }
def IdentMeetSaid : Prop := identMeetRow.holds Try.pinned (OpenSpec.ofChange identMeetSpec)

/-- ITS FALSE NEIGHBOUR: 'it returns false'. Refute it at one input. -/
def identMeetWrong : ChangeSpec := { name := "identMeet", fn := fun _ => fun
  | [d1, d2, d3] => { results := [.lit (.bool false)], args := [d1, d2, d3] }
  | _ => none }
def IdentMeetWrongFalsely : Prop := identMeetRow.holds Try.pinned (OpenSpec.ofChange identMeetWrong)

/-- 'folkmootlaw04.IdentOrder': WHATEVER THE INPUT: true; the input reads as it did. -/
def identOrderSpec : ChangeSpec := { name := "identOrder", fn := fun _ => fun
  | [d1, d2, d3] => { results := [.lit (.bool true)], args := [d1, d2, d3] }
  | _ => none }
def identOrderRow : OpenClaim := { program := "ytlahdemhigcjnaa", sum := "5978711475fb6c58d328ec81ecc4fb57ba0e61ac25b1184332b37f98bb4a026b", func := "folkmoot/folkmootlaw04.IdentOrder", spec := "identOrder", apart := false }
def IdentOrderSaid : Prop := identOrderRow.holds Try.pinned (OpenSpec.ofChange identOrderSpec)

/-- ITS FALSE NEIGHBOUR: 'it returns false'. Refute it at one input. -/
def identOrderWrong : ChangeSpec := { name := "identOrder", fn := fun _ => fun
  | [d1, d2, d3] => { results := [.lit (.bool false)], args := [d1, d2, d3] }
  | _ => none }
def IdentOrderWrongFalsely : Prop := identOrderRow.holds Try.pinned (OpenSpec.ofChange identOrderWrong)

/-- 'folkmootlaw04.IdentCodes': WHATEVER THE INPUT: true; the input reads as it did. -/
def identCodesSpec : ChangeSpec := { name := "identCodes", fn := fun _ => fun
  | [d1, d2, d3] => { results := [.lit (.bool true)], args := [d1, d2, d3] }
  | _ => none }
def identCodesRow : OpenClaim := { program := "ytlahdemhigcjnaa", sum := "5978711475fb6c58d328ec81ecc4fb57ba0e61ac25b1184332b37f98bb4a026b", func := "folkmoot/folkmootlaw04.IdentCodes", spec := "identCodes", apart := false }
def IdentCodesSaid : Prop := identCodesRow.holds Try.pinned (OpenSpec.ofChange identCodesSpec)

/-- ITS FALSE NEIGHBOUR: 'it returns false'. Refute it at one input. -/
def identCodesWrong : ChangeSpec := { name := "identCodes", fn := fun _ => fun
  | [d1, d2, d3] => { results := [.lit (.bool false)], args := [d1, d2, d3] }
  | _ => none }
def IdentCodesWrongFalsely : Prop := identCodesRow.holds Try.pinned (OpenSpec.ofChange identCodesWrong)

/-- 'folkmootlaw04.IdentHalves': WHATEVER THE INPUT: true; the input reads as it did. -/
def identHalvesSpec : ChangeSpec := { name := "identHalves", fn := fun _ => fun
  | [d1, d2] => { results := [.lit (.bool true)], args := [d1, d2] }
  | _ => none }
def identHalvesRow : OpenClaim := { program := "ytlahdemhigcjnaa", sum := "5978711475fb6c58d328ec81ecc4fb57ba0e61ac25b1184332b37f98bb4a026b", func := "folkmoot/folkmootlaw04.IdentHalves", spec := "identHalves", apart := false }
def IdentHalvesSaid : Prop := identHalvesRow.holds Try.pinned (OpenSpec.ofChange identHalvesSpec)

/-- ITS FALSE NEIGHBOUR: 'it returns false'. Refute it at one input. -/
def identHalvesWrong : ChangeSpec := { name := "identHalves", fn := fun _ => fun
  | [d1, d2] => { results := [.lit (.bool false)], args := [d1, d2] }
  | _ => none }
def IdentHalvesWrongFalsely : Prop := identHalvesRow.holds Try.pinned (OpenSpec.ofChange identHalvesWrong)

/- THE SECOND FORM. 'bulk': how many values and letters a reading holds, each counted each time it is reached (what is shared counts as often as it is met; a slice's spare places count too). A statement '..UptoSaid' is the law's where the arguments, and the package variables that the reading takes, are together of bulk at most 1048576: NARROWER than '..Said'. Prove '..Said' where nothing that the law and all that it calls make is longer than what came in: it says more and counts as full. Else prove '..UptoSaid'. A law counts once. -/
mutual
def uptoBulk {H : Type} : DataW H → Nat
  | .lit (.string bytes) => bytes.length + 1
  | .lit _ => 1
  | .nil => 1
  | .ptr d => uptoBulk d + 1
  | .slice elems spare => uptoBulkAll elems + uptoBulkAll spare + 1
  | .agg parts => uptoBulkAll parts + 1
  | .iface _ d => uptoBulk d + 1
  | .map entries => uptoBulkEntries entries + 1
  | .held _ => 1
def uptoBulkAll {H : Type} : List (DataW H) → Nat
  | [] => 0
  | d :: r => uptoBulk d + uptoBulkAll r
def uptoBulkEntries {H : Type} : List (Lit × DataW H) → Nat
  | [] => 0
  | x :: r => uptoBulkEntry x + uptoBulkEntries r
def uptoBulkEntry {H : Type} : Lit × DataW H → Nat
  | (.string bytes, d) => bytes.length + uptoBulk d + 1
  | (_, d) => uptoBulk d + 1
 end
def uptoSmall : (H : Type) → List (DataW H) → Bool := fun _ ds => decide (uptoBulkAll ds ≤ 1048576)
def OpenSpec.upto (s : _root_.Go.ChangeSpec) : _root_.Go.OpenSpec := { _root_.Go.OpenSpec.ofChange s with cond := some uptoSmall }

/-- 'folkmootlaw04.IdentMeet', WHERE WHAT IT READS IS OF BULK AT MOST 1048576: true; the input reads as it did. -/
def identMeetUptoRow : OpenClaim := { program := "ytlahdemhigcjnaa", sum := "5978711475fb6c58d328ec81ecc4fb57ba0e61ac25b1184332b37f98bb4a026b", func := "folkmoot/folkmootlaw04.IdentMeet", spec := "identMeet", apart := false, narrowed := true }
def IdentMeetUptoSaid : Prop := identMeetUptoRow.holds Try.pinned (OpenSpec.upto identMeetSpec)

/-- 'folkmootlaw04.IdentOrder', WHERE WHAT IT READS IS OF BULK AT MOST 1048576: true; the input reads as it did. -/
def identOrderUptoRow : OpenClaim := { program := "ytlahdemhigcjnaa", sum := "5978711475fb6c58d328ec81ecc4fb57ba0e61ac25b1184332b37f98bb4a026b", func := "folkmoot/folkmootlaw04.IdentOrder", spec := "identOrder", apart := false, narrowed := true }
def IdentOrderUptoSaid : Prop := identOrderUptoRow.holds Try.pinned (OpenSpec.upto identOrderSpec)

/-- 'folkmootlaw04.IdentCodes', WHERE WHAT IT READS IS OF BULK AT MOST 1048576: true; the input reads as it did. -/
def identCodesUptoRow : OpenClaim := { program := "ytlahdemhigcjnaa", sum := "5978711475fb6c58d328ec81ecc4fb57ba0e61ac25b1184332b37f98bb4a026b", func := "folkmoot/folkmootlaw04.IdentCodes", spec := "identCodes", apart := false, narrowed := true }
def IdentCodesUptoSaid : Prop := identCodesUptoRow.holds Try.pinned (OpenSpec.upto identCodesSpec)

/-- 'folkmootlaw04.IdentHalves', WHERE WHAT IT READS IS OF BULK AT MOST 1048576: true; the input reads as it did. -/
def identHalvesUptoRow : OpenClaim := { program := "ytlahdemhigcjnaa", sum := "5978711475fb6c58d328ec81ecc4fb57ba0e61ac25b1184332b37f98bb4a026b", func := "folkmoot/folkmootlaw04.IdentHalves", spec := "identHalves", apart := false, narrowed := true }
def IdentHalvesUptoSaid : Prop := identHalvesUptoRow.holds Try.pinned (OpenSpec.upto identHalvesSpec)

end Rows
end Go.Proofs.Ytlahdemhigcjnaa
