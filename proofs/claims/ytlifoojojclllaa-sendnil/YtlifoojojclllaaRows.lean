/-
  No cell of these rows narrows 'for every input' (looked for: loops, veiled, ifaces, maps, wideKeys, modest, calm, conditions, laid).
  DERIVED. THE GIVEN ROWS OF THIS SEAT. 10 by the template 'for every input the law returns true; each argument reads behind the call as it read before'; 0 by the template 'total and deterministic' (their statements: YtlifoojojclllaaTotals.lean).
  GIVEN WITH THE SEED: the statements are not yours to turn. If you find one false, say at which input.
  Laid BY PROGRAM, IN A SANDBOX (cutbox-rows.mjs): the forced cells as the released guide's own fill.sh prints them over the translation 71a7b2db8624124c… (all of the seat's roots in one cut). By AI agents, Wed Nov 11 2026. No macro, syntax, notation, axiom, sorry.
-/
import Derived.Test.YtlifoojojclllaaChecked
import GoSem.Claim
import GoSem.ClaimJoined
import GoSem.ClaimMapViews
import Derived.JoinedTies
import Derived.KernelRfl
namespace Go.Proofs.Ytlifoojojclllaa
/- THE CELL 'sum', in the pinned program and in every row, IS THE sha256 OF THE DUMP (.gsa) THAT YtlifoojojclllaaProg.lean LOADS. Nothing in Lean hashes anything: it is a label: what it is worth is what the hold of that sum in a sandbox is worth. -/
noncomputable def Try.pinned : Pinned := { name := "ytlifoojojclllaa", sum := "71a7b2db8624124c931452600f2618e58d10c5d186e51fb713a545f70e38de09", checked := Try.checked }
namespace Rows
def none {H : Type} : Left H := { results := [], args := [] }

/-- 'folkmootlaw09.SendPlays': WHATEVER THE INPUT: true; the input reads as it did. -/
def sendPlaysSpec : ChangeSpec := { name := "sendPlays", fn := fun _ => fun
  | [d1, d2, d3] => { results := [.lit (.bool true)], args := [d1, d2, d3] }
  | _ => none }
def sendPlaysRow : OpenClaim := { program := "ytlifoojojclllaa", sum := "71a7b2db8624124c931452600f2618e58d10c5d186e51fb713a545f70e38de09", func := "folkmoot/folkmootlaw09.SendPlays", spec := "sendPlays", apart := false }
def SendPlaysSaid : Prop := sendPlaysRow.holds Try.pinned (OpenSpec.ofChange sendPlaysSpec)

/-- ITS FALSE NEIGHBOUR: 'it returns false'. Refute it at one input. -/
def sendPlaysWrong : ChangeSpec := { name := "sendPlays", fn := fun _ => fun
  | [d1, d2, d3] => { results := [.lit (.bool false)], args := [d1, d2, d3] }
  | _ => none }
def SendPlaysWrongFalsely : Prop := sendPlaysRow.holds Try.pinned (OpenSpec.ofChange sendPlaysWrong)

/-- 'folkmootlaw09.SendStays': WHATEVER THE INPUT: true; the input reads as it did. -/
def sendStaysSpec : ChangeSpec := { name := "sendStays", fn := fun _ => fun
  | [d1, d2, d3] => { results := [.lit (.bool true)], args := [d1, d2, d3] }
  | _ => none }
def sendStaysRow : OpenClaim := { program := "ytlifoojojclllaa", sum := "71a7b2db8624124c931452600f2618e58d10c5d186e51fb713a545f70e38de09", func := "folkmoot/folkmootlaw09.SendStays", spec := "sendStays", apart := false }
def SendStaysSaid : Prop := sendStaysRow.holds Try.pinned (OpenSpec.ofChange sendStaysSpec)

/-- ITS FALSE NEIGHBOUR: 'it returns false'. Refute it at one input. -/
def sendStaysWrong : ChangeSpec := { name := "sendStays", fn := fun _ => fun
  | [d1, d2, d3] => { results := [.lit (.bool false)], args := [d1, d2, d3] }
  | _ => none }
def SendStaysWrongFalsely : Prop := sendStaysRow.holds Try.pinned (OpenSpec.ofChange sendStaysWrong)

/-- 'folkmootlaw09.SendNil': WHATEVER THE INPUT: true; the input reads as it did. -/
def sendNilSpec : ChangeSpec := { name := "sendNil", fn := fun _ => fun
  | [d1, d2] => { results := [.lit (.bool true)], args := [d1, d2] }
  | _ => none }
def sendNilRow : OpenClaim := { program := "ytlifoojojclllaa", sum := "71a7b2db8624124c931452600f2618e58d10c5d186e51fb713a545f70e38de09", func := "folkmoot/folkmootlaw09.SendNil", spec := "sendNil", apart := false }
def SendNilSaid : Prop := sendNilRow.holds Try.pinned (OpenSpec.ofChange sendNilSpec)

/-- ITS FALSE NEIGHBOUR: 'it returns false'. Refute it at one input. -/
def sendNilWrong : ChangeSpec := { name := "sendNil", fn := fun _ => fun
  | [d1, d2] => { results := [.lit (.bool false)], args := [d1, d2] }
  | _ => none }
def SendNilWrongFalsely : Prop := sendNilRow.holds Try.pinned (OpenSpec.ofChange sendNilWrong)

/-- 'folkmootlaw09.SendAll': WHATEVER THE INPUT: true; the input reads as it did. -/
def sendAllSpec : ChangeSpec := { name := "sendAll", fn := fun _ => fun
  | [d1, d2, d3] => { results := [.lit (.bool true)], args := [d1, d2, d3] }
  | _ => none }
def sendAllRow : OpenClaim := { program := "ytlifoojojclllaa", sum := "71a7b2db8624124c931452600f2618e58d10c5d186e51fb713a545f70e38de09", func := "folkmoot/folkmootlaw09.SendAll", spec := "sendAll", apart := false }
def SendAllSaid : Prop := sendAllRow.holds Try.pinned (OpenSpec.ofChange sendAllSpec)

/-- ITS FALSE NEIGHBOUR: 'it returns false'. Refute it at one input. -/
def sendAllWrong : ChangeSpec := { name := "sendAll", fn := fun _ => fun
  | [d1, d2, d3] => { results := [.lit (.bool false)], args := [d1, d2, d3] }
  | _ => none }
def SendAllWrongFalsely : Prop := sendAllRow.holds Try.pinned (OpenSpec.ofChange sendAllWrong)

/-- 'folkmootlaw09.SendAcks': WHATEVER THE INPUT: true; the input reads as it did. -/
def sendAcksSpec : ChangeSpec := { name := "sendAcks", fn := fun _ => fun
  | [d1, d2] => { results := [.lit (.bool true)], args := [d1, d2] }
  | _ => none }
def sendAcksRow : OpenClaim := { program := "ytlifoojojclllaa", sum := "71a7b2db8624124c931452600f2618e58d10c5d186e51fb713a545f70e38de09", func := "folkmoot/folkmootlaw09.SendAcks", spec := "sendAcks", apart := false }
def SendAcksSaid : Prop := sendAcksRow.holds Try.pinned (OpenSpec.ofChange sendAcksSpec)

/-- ITS FALSE NEIGHBOUR: 'it returns false'. Refute it at one input. -/
def sendAcksWrong : ChangeSpec := { name := "sendAcks", fn := fun _ => fun
  | [d1, d2] => { results := [.lit (.bool false)], args := [d1, d2] }
  | _ => none }
def SendAcksWrongFalsely : Prop := sendAcksRow.holds Try.pinned (OpenSpec.ofChange sendAcksWrong)

/-- 'folkmootlaw10.RecvPlays': WHATEVER THE INPUT: true; the input reads as it did. -/
def recvPlaysSpec : ChangeSpec := { name := "recvPlays", fn := fun _ => fun
  | [d1, d2] => { results := [.lit (.bool true)], args := [d1, d2] }
  | _ => none }
def recvPlaysRow : OpenClaim := { program := "ytlifoojojclllaa", sum := "71a7b2db8624124c931452600f2618e58d10c5d186e51fb713a545f70e38de09", func := "folkmoot/folkmootlaw10.RecvPlays", spec := "recvPlays", apart := false }
def RecvPlaysSaid : Prop := recvPlaysRow.holds Try.pinned (OpenSpec.ofChange recvPlaysSpec)

/-- ITS FALSE NEIGHBOUR: 'it returns false'. Refute it at one input. -/
def recvPlaysWrong : ChangeSpec := { name := "recvPlays", fn := fun _ => fun
  | [d1, d2] => { results := [.lit (.bool false)], args := [d1, d2] }
  | _ => none }
def RecvPlaysWrongFalsely : Prop := recvPlaysRow.holds Try.pinned (OpenSpec.ofChange recvPlaysWrong)

/-- 'folkmootlaw10.RecvTwice': WHATEVER THE INPUT: true; the input reads as it did. -/
def recvTwiceSpec : ChangeSpec := { name := "recvTwice", fn := fun _ => fun
  | [d1, d2] => { results := [.lit (.bool true)], args := [d1, d2] }
  | _ => none }
def recvTwiceRow : OpenClaim := { program := "ytlifoojojclllaa", sum := "71a7b2db8624124c931452600f2618e58d10c5d186e51fb713a545f70e38de09", func := "folkmoot/folkmootlaw10.RecvTwice", spec := "recvTwice", apart := false }
def RecvTwiceSaid : Prop := recvTwiceRow.holds Try.pinned (OpenSpec.ofChange recvTwiceSpec)

/-- ITS FALSE NEIGHBOUR: 'it returns false'. Refute it at one input. -/
def recvTwiceWrong : ChangeSpec := { name := "recvTwice", fn := fun _ => fun
  | [d1, d2] => { results := [.lit (.bool false)], args := [d1, d2] }
  | _ => none }
def RecvTwiceWrongFalsely : Prop := recvTwiceRow.holds Try.pinned (OpenSpec.ofChange recvTwiceWrong)

/-- 'folkmootlaw10.RecvNil': WHATEVER THE INPUT: true; the input reads as it did. -/
def recvNilSpec : ChangeSpec := { name := "recvNil", fn := fun _ => fun
  | [d1, d2] => { results := [.lit (.bool true)], args := [d1, d2] }
  | _ => none }
def recvNilRow : OpenClaim := { program := "ytlifoojojclllaa", sum := "71a7b2db8624124c931452600f2618e58d10c5d186e51fb713a545f70e38de09", func := "folkmoot/folkmootlaw10.RecvNil", spec := "recvNil", apart := false }
def RecvNilSaid : Prop := recvNilRow.holds Try.pinned (OpenSpec.ofChange recvNilSpec)

/-- ITS FALSE NEIGHBOUR: 'it returns false'. Refute it at one input. -/
def recvNilWrong : ChangeSpec := { name := "recvNil", fn := fun _ => fun
  | [d1, d2] => { results := [.lit (.bool false)], args := [d1, d2] }
  | _ => none }
def RecvNilWrongFalsely : Prop := recvNilRow.holds Try.pinned (OpenSpec.ofChange recvNilWrong)

/-- 'folkmootlaw10.RecvGaps': WHATEVER THE INPUT: true; the input reads as it did. -/
def recvGapsSpec : ChangeSpec := { name := "recvGaps", fn := fun _ => fun
  | [d1, d2] => { results := [.lit (.bool true)], args := [d1, d2] }
  | _ => none }
def recvGapsRow : OpenClaim := { program := "ytlifoojojclllaa", sum := "71a7b2db8624124c931452600f2618e58d10c5d186e51fb713a545f70e38de09", func := "folkmoot/folkmootlaw10.RecvGaps", spec := "recvGaps", apart := false }
def RecvGapsSaid : Prop := recvGapsRow.holds Try.pinned (OpenSpec.ofChange recvGapsSpec)

/-- ITS FALSE NEIGHBOUR: 'it returns false'. Refute it at one input. -/
def recvGapsWrong : ChangeSpec := { name := "recvGaps", fn := fun _ => fun
  | [d1, d2] => { results := [.lit (.bool false)], args := [d1, d2] }
  | _ => none }
def RecvGapsWrongFalsely : Prop := recvGapsRow.holds Try.pinned (OpenSpec.ofChange recvGapsWrong)

/-- 'folkmootlaw10.RecvRoom': WHATEVER THE INPUT: true; the input reads as it did. -/
def recvRoomSpec : ChangeSpec := { name := "recvRoom", fn := fun _ => fun
  | [d1, d2] => { results := [.lit (.bool true)], args := [d1, d2] }
  | _ => none }
def recvRoomRow : OpenClaim := { program := "ytlifoojojclllaa", sum := "71a7b2db8624124c931452600f2618e58d10c5d186e51fb713a545f70e38de09", func := "folkmoot/folkmootlaw10.RecvRoom", spec := "recvRoom", apart := false }
def RecvRoomSaid : Prop := recvRoomRow.holds Try.pinned (OpenSpec.ofChange recvRoomSpec)

/-- ITS FALSE NEIGHBOUR: 'it returns false'. Refute it at one input. -/
def recvRoomWrong : ChangeSpec := { name := "recvRoom", fn := fun _ => fun
  | [d1, d2] => { results := [.lit (.bool false)], args := [d1, d2] }
  | _ => none }
def RecvRoomWrongFalsely : Prop := recvRoomRow.holds Try.pinned (OpenSpec.ofChange recvRoomWrong)

/- THE SECOND FORM. 'bulk': how many values and letters a reading holds, each counted each time it is reached (what is shared counts as often as it is met; a slice's spare places count too). A statement '..UptoSaid' is the law's where the arguments, and the package variables that the reading takes, are together of bulk at most 1048576: NARROWER than '..Said'. Prove '..Said' where nothing that the law and all that it calls make is longer than what came in: it says more and counts as full. Else prove '..UptoSaid'. A law counts once. -/
mutual
def uptoBulk {H : Type} : DataW H → Nat
  | .lit (.string bytes) => bytes.length + 1
  | .lit _ => 1
  | .nil => 1
  | .ptr d => uptoBulk d + 1
  | .slice elems spare => uptoBulkAll elems + uptoBulkAll spare + 1
  | .agg parts => uptoBulkAll parts + 1
  | .iface _ d => uptoBulk d + 1
  | .map entries => uptoBulkEntries entries + 1
  | .held _ => 1
def uptoBulkAll {H : Type} : List (DataW H) → Nat
  | [] => 0
  | d :: r => uptoBulk d + uptoBulkAll r
def uptoBulkEntries {H : Type} : List (Lit × DataW H) → Nat
  | [] => 0
  | x :: r => uptoBulkEntry x + uptoBulkEntries r
def uptoBulkEntry {H : Type} : Lit × DataW H → Nat
  | (.string bytes, d) => bytes.length + uptoBulk d + 1
  | (_, d) => uptoBulk d + 1
 end
def uptoSmall : (H : Type) → List (DataW H) → Bool := fun _ ds => decide (uptoBulkAll ds ≤ 1048576)
def OpenSpec.upto (s : _root_.Go.ChangeSpec) : _root_.Go.OpenSpec := { _root_.Go.OpenSpec.ofChange s with cond := some uptoSmall }

/-- 'folkmootlaw09.SendPlays', WHERE WHAT IT READS IS OF BULK AT MOST 1048576: true; the input reads as it did. -/
def sendPlaysUptoRow : OpenClaim := { program := "ytlifoojojclllaa", sum := "71a7b2db8624124c931452600f2618e58d10c5d186e51fb713a545f70e38de09", func := "folkmoot/folkmootlaw09.SendPlays", spec := "sendPlays", apart := false, narrowed := true }
def SendPlaysUptoSaid : Prop := sendPlaysUptoRow.holds Try.pinned (OpenSpec.upto sendPlaysSpec)

/-- 'folkmootlaw09.SendStays', WHERE WHAT IT READS IS OF BULK AT MOST 1048576: true; the input reads as it did. -/
def sendStaysUptoRow : OpenClaim := { program := "ytlifoojojclllaa", sum := "71a7b2db8624124c931452600f2618e58d10c5d186e51fb713a545f70e38de09", func := "folkmoot/folkmootlaw09.SendStays", spec := "sendStays", apart := false, narrowed := true }
def SendStaysUptoSaid : Prop := sendStaysUptoRow.holds Try.pinned (OpenSpec.upto sendStaysSpec)

/-- 'folkmootlaw09.SendNil', WHERE WHAT IT READS IS OF BULK AT MOST 1048576: true; the input reads as it did. -/
def sendNilUptoRow : OpenClaim := { program := "ytlifoojojclllaa", sum := "71a7b2db8624124c931452600f2618e58d10c5d186e51fb713a545f70e38de09", func := "folkmoot/folkmootlaw09.SendNil", spec := "sendNil", apart := false, narrowed := true }
def SendNilUptoSaid : Prop := sendNilUptoRow.holds Try.pinned (OpenSpec.upto sendNilSpec)

/-- 'folkmootlaw09.SendAll', WHERE WHAT IT READS IS OF BULK AT MOST 1048576: true; the input reads as it did. -/
def sendAllUptoRow : OpenClaim := { program := "ytlifoojojclllaa", sum := "71a7b2db8624124c931452600f2618e58d10c5d186e51fb713a545f70e38de09", func := "folkmoot/folkmootlaw09.SendAll", spec := "sendAll", apart := false, narrowed := true }
def SendAllUptoSaid : Prop := sendAllUptoRow.holds Try.pinned (OpenSpec.upto sendAllSpec)

/-- 'folkmootlaw09.SendAcks', WHERE WHAT IT READS IS OF BULK AT MOST 1048576: true; the input reads as it did. -/
def sendAcksUptoRow : OpenClaim := { program := "ytlifoojojclllaa", sum := "71a7b2db8624124c931452600f2618e58d10c5d186e51fb713a545f70e38de09", func := "folkmoot/folkmootlaw09.SendAcks", spec := "sendAcks", apart := false, narrowed := true }
def SendAcksUptoSaid : Prop := sendAcksUptoRow.holds Try.pinned (OpenSpec.upto sendAcksSpec)

/-- 'folkmootlaw10.RecvPlays', WHERE WHAT IT READS IS OF BULK AT MOST 1048576: true; the input reads as it did. -/
def recvPlaysUptoRow : OpenClaim := { program := "ytlifoojojclllaa", sum := "71a7b2db8624124c931452600f2618e58d10c5d186e51fb713a545f70e38de09", func := "folkmoot/folkmootlaw10.RecvPlays", spec := "recvPlays", apart := false, narrowed := true }
def RecvPlaysUptoSaid : Prop := recvPlaysUptoRow.holds Try.pinned (OpenSpec.upto recvPlaysSpec)

/-- 'folkmootlaw10.RecvTwice', WHERE WHAT IT READS IS OF BULK AT MOST 1048576: true; the input reads as it did. -/
def recvTwiceUptoRow : OpenClaim := { program := "ytlifoojojclllaa", sum := "71a7b2db8624124c931452600f2618e58d10c5d186e51fb713a545f70e38de09", func := "folkmoot/folkmootlaw10.RecvTwice", spec := "recvTwice", apart := false, narrowed := true }
def RecvTwiceUptoSaid : Prop := recvTwiceUptoRow.holds Try.pinned (OpenSpec.upto recvTwiceSpec)

/-- 'folkmootlaw10.RecvNil', WHERE WHAT IT READS IS OF BULK AT MOST 1048576: true; the input reads as it did. -/
def recvNilUptoRow : OpenClaim := { program := "ytlifoojojclllaa", sum := "71a7b2db8624124c931452600f2618e58d10c5d186e51fb713a545f70e38de09", func := "folkmoot/folkmootlaw10.RecvNil", spec := "recvNil", apart := false, narrowed := true }
def RecvNilUptoSaid : Prop := recvNilUptoRow.holds Try.pinned (OpenSpec.upto recvNilSpec)

/-- 'folkmootlaw10.RecvGaps', WHERE WHAT IT READS IS OF BULK AT MOST 1048576: true; the input reads as it did. -/
def recvGapsUptoRow : OpenClaim := { program := "ytlifoojojclllaa", sum := "71a7b2db8624124c931452600f2618e58d10c5d186e51fb713a545f70e38de09", func := "folkmoot/folkmootlaw10.RecvGaps", spec := "recvGaps", apart := false, narrowed := true }
def RecvGapsUptoSaid : Prop := recvGapsUptoRow.holds Try.pinned (OpenSpec.upto recvGapsSpec)

/-- 'folkmootlaw10.RecvRoom', WHERE WHAT IT READS IS OF BULK AT MOST 1048576: true; the input reads as it did. -/
def recvRoomUptoRow : OpenClaim := { program := "ytlifoojojclllaa", sum := "71a7b2db8624124c931452600f2618e58d10c5d186e51fb713a545f70e38de09", func := "folkmoot/folkmootlaw10.RecvRoom", spec := "recvRoom", apart := false, narrowed := true }
def RecvRoomUptoSaid : Prop := recvRoomUptoRow.holds Try.pinned (OpenSpec.upto recvRoomSpec)

end Rows
end Go.Proofs.Ytlifoojojclllaa
