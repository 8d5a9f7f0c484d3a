/-
  No cell of these rows narrows 'for every input' (looked for: loops, veiled, ifaces, maps, wideKeys, modest, calm, conditions, laid).
  DERIVED. THE GIVEN ROWS OF THIS SEAT. 10 by the template 'for every input the law returns true; each argument reads behind the call as it read before'; 0 by the template 'total and deterministic' (their statements: YtooeemhlpmiceaaTotals.lean).
  GIVEN WITH THE SEED: the statements are not yours to turn. If you find one false, say at which input.
  Laid BY PROGRAM, IN A SANDBOX (cutbox-rows.mjs): the forced cells as the released guide's own fill.sh prints them over the translation d3defaf49999db04… (all of the seat's roots in one cut). By AI agents, Wed Nov 11 2026. No macro, syntax, notation, axiom, sorry.
-/
import Derived.Test.YtooeemhlpmiceaaChecked
import GoSem.Claim
import GoSem.ClaimJoined
import GoSem.ClaimMapViews
import Derived.JoinedTies
import Derived.KernelRfl
namespace Go.Proofs.Ytooeemhlpmiceaa
/- THE CELL 'sum', in the pinned program and in every row, IS THE sha256 OF THE DUMP (.gsa) THAT YtooeemhlpmiceaaProg.lean LOADS. Nothing in Lean hashes anything: it is a label: what it is worth is what the hold of that sum in a sandbox is worth. -/
noncomputable def Try.pinned : Pinned := { name := "ytooeemhlpmiceaa", sum := "d3defaf49999db0452de447c637ac93266d491497787ebb58017b97aeb0d9fff", checked := Try.checked }
namespace Rows
def none {H : Type} : Left H := { results := [], args := [] }

/-- 'folkmootlaw15.ContentMerges': WHATEVER THE INPUT: true; the input reads as it did. -/
def contentMergesSpec : ChangeSpec := { name := "contentMerges", fn := fun _ => fun
  | [d1, d2] => { results := [.lit (.bool true)], args := [d1, d2] }
  | _ => none }
def contentMergesRow : OpenClaim := { program := "ytooeemhlpmiceaa", sum := "d3defaf49999db0452de447c637ac93266d491497787ebb58017b97aeb0d9fff", func := "folkmoot/folkmootlaw15.ContentMerges", spec := "contentMerges", unfollowed := true, recurses := true, plainKeys := false, apart := false }
def ContentMergesSaid : Prop := contentMergesRow.holds Try.pinned (OpenSpec.ofChange contentMergesSpec)

/-- ITS FALSE NEIGHBOUR: 'it returns false'. Refute it at one input. -/
def contentMergesWrong : ChangeSpec := { name := "contentMerges", fn := fun _ => fun
  | [d1, d2] => { results := [.lit (.bool false)], args := [d1, d2] }
  | _ => none }
def ContentMergesWrongFalsely : Prop := contentMergesRow.holds Try.pinned (OpenSpec.ofChange contentMergesWrong)

/-- 'folkmootlaw15.ContentFinds': WHATEVER THE INPUT: true; the input reads as it did. -/
def contentFindsSpec : ChangeSpec := { name := "contentFinds", fn := fun _ => fun
  | [d1, d2, d3] => { results := [.lit (.bool true)], args := [d1, d2, d3] }
  | _ => none }
def contentFindsRow : OpenClaim := { program := "ytooeemhlpmiceaa", sum := "d3defaf49999db0452de447c637ac93266d491497787ebb58017b97aeb0d9fff", func := "folkmoot/folkmootlaw15.ContentFinds", spec := "contentFinds", unfollowed := true, recurses := true, plainKeys := false, apart := false }
def ContentFindsSaid : Prop := contentFindsRow.holds Try.pinned (OpenSpec.ofChange contentFindsSpec)

/-- ITS FALSE NEIGHBOUR: 'it returns false'. Refute it at one input. -/
def contentFindsWrong : ChangeSpec := { name := "contentFinds", fn := fun _ => fun
  | [d1, d2, d3] => { results := [.lit (.bool false)], args := [d1, d2, d3] }
  | _ => none }
def ContentFindsWrongFalsely : Prop := contentFindsRow.holds Try.pinned (OpenSpec.ofChange contentFindsWrong)

/-- 'folkmootlaw15.ContentOrder': WHATEVER THE INPUT: true; the input reads as it did. -/
def contentOrderSpec : ChangeSpec := { name := "contentOrder", fn := fun _ => fun
  | [d1, d2] => { results := [.lit (.bool true)], args := [d1, d2] }
  | _ => none }
def contentOrderRow : OpenClaim := { program := "ytooeemhlpmiceaa", sum := "d3defaf49999db0452de447c637ac93266d491497787ebb58017b97aeb0d9fff", func := "folkmoot/folkmootlaw15.ContentOrder", spec := "contentOrder", unfollowed := true, recurses := true, plainKeys := false, apart := false }
def ContentOrderSaid : Prop := contentOrderRow.holds Try.pinned (OpenSpec.ofChange contentOrderSpec)

/-- ITS FALSE NEIGHBOUR: 'it returns false'. Refute it at one input. -/
def contentOrderWrong : ChangeSpec := { name := "contentOrder", fn := fun _ => fun
  | [d1, d2] => { results := [.lit (.bool false)], args := [d1, d2] }
  | _ => none }
def ContentOrderWrongFalsely : Prop := contentOrderRow.holds Try.pinned (OpenSpec.ofChange contentOrderWrong)

/-- 'folkmootlaw15.ContentKeeps': WHATEVER THE INPUT: true; the input reads as it did. -/
def contentKeepsSpec : ChangeSpec := { name := "contentKeeps", fn := fun _ => fun
  | [d1, d2] => { results := [.lit (.bool true)], args := [d1, d2] }
  | _ => none }
def contentKeepsRow : OpenClaim := { program := "ytooeemhlpmiceaa", sum := "d3defaf49999db0452de447c637ac93266d491497787ebb58017b97aeb0d9fff", func := "folkmoot/folkmootlaw15.ContentKeeps", spec := "contentKeeps", unfollowed := true, recurses := true, plainKeys := false, apart := false }
def ContentKeepsSaid : Prop := contentKeepsRow.holds Try.pinned (OpenSpec.ofChange contentKeepsSpec)

/-- ITS FALSE NEIGHBOUR: 'it returns false'. Refute it at one input. -/
def contentKeepsWrong : ChangeSpec := { name := "contentKeeps", fn := fun _ => fun
  | [d1, d2] => { results := [.lit (.bool false)], args := [d1, d2] }
  | _ => none }
def ContentKeepsWrongFalsely : Prop := contentKeepsRow.holds Try.pinned (OpenSpec.ofChange contentKeepsWrong)

/-- 'folkmootlaw16.ExchangePlays': WHATEVER THE INPUT: true; the input reads as it did. -/
def exchangePlaysSpec : ChangeSpec := { name := "exchangePlays", fn := fun _ => fun
  | [d1, d2] => { results := [.lit (.bool true)], args := [d1, d2] }
  | _ => none }
def exchangePlaysRow : OpenClaim := { program := "ytooeemhlpmiceaa", sum := "d3defaf49999db0452de447c637ac93266d491497787ebb58017b97aeb0d9fff", func := "folkmoot/folkmootlaw16.ExchangePlays", spec := "exchangePlays", unfollowed := true, recurses := true, plainKeys := false, apart := false }
def ExchangePlaysSaid : Prop := exchangePlaysRow.holds Try.pinned (OpenSpec.ofChange exchangePlaysSpec)

/-- ITS FALSE NEIGHBOUR: 'it returns false'. Refute it at one input. -/
def exchangePlaysWrong : ChangeSpec := { name := "exchangePlays", fn := fun _ => fun
  | [d1, d2] => { results := [.lit (.bool false)], args := [d1, d2] }
  | _ => none }
def ExchangePlaysWrongFalsely : Prop := exchangePlaysRow.holds Try.pinned (OpenSpec.ofChange exchangePlaysWrong)

/-- 'folkmootlaw16.ExchangeTurned': WHATEVER THE INPUT: true; the input reads as it did. -/
def exchangeTurnedSpec : ChangeSpec := { name := "exchangeTurned", fn := fun _ => fun
  | [d1, d2, d3] => { results := [.lit (.bool true)], args := [d1, d2, d3] }
  | _ => none }
def exchangeTurnedRow : OpenClaim := { program := "ytooeemhlpmiceaa", sum := "d3defaf49999db0452de447c637ac93266d491497787ebb58017b97aeb0d9fff", func := "folkmoot/folkmootlaw16.ExchangeTurned", spec := "exchangeTurned", unfollowed := true, recurses := true, plainKeys := false, apart := false }
def ExchangeTurnedSaid : Prop := exchangeTurnedRow.holds Try.pinned (OpenSpec.ofChange exchangeTurnedSpec)

/-- ITS FALSE NEIGHBOUR: 'it returns false'. Refute it at one input. -/
def exchangeTurnedWrong : ChangeSpec := { name := "exchangeTurned", fn := fun _ => fun
  | [d1, d2, d3] => { results := [.lit (.bool false)], args := [d1, d2, d3] }
  | _ => none }
def ExchangeTurnedWrongFalsely : Prop := exchangeTurnedRow.holds Try.pinned (OpenSpec.ofChange exchangeTurnedWrong)

/-- 'folkmootlaw16.ExchangeFull': WHATEVER THE INPUT: true; the input reads as it did. -/
def exchangeFullSpec : ChangeSpec := { name := "exchangeFull", fn := fun _ => fun
  | [d] => { results := [.lit (.bool true)], args := [d] }
  | _ => none }
def exchangeFullRow : OpenClaim := { program := "ytooeemhlpmiceaa", sum := "d3defaf49999db0452de447c637ac93266d491497787ebb58017b97aeb0d9fff", func := "folkmoot/folkmootlaw16.ExchangeFull", spec := "exchangeFull", unfollowed := true, recurses := true, plainKeys := false, apart := false }
def ExchangeFullSaid : Prop := exchangeFullRow.holds Try.pinned (OpenSpec.ofChange exchangeFullSpec)

/-- ITS FALSE NEIGHBOUR: 'it returns false'. Refute it at one input. -/
def exchangeFullWrong : ChangeSpec := { name := "exchangeFull", fn := fun _ => fun
  | [d] => { results := [.lit (.bool false)], args := [d] }
  | _ => none }
def ExchangeFullWrongFalsely : Prop := exchangeFullRow.holds Try.pinned (OpenSpec.ofChange exchangeFullWrong)

/-- 'folkmootlaw16.ExchangeKeeps': WHATEVER THE INPUT: true; the input reads as it did. -/
def exchangeKeepsSpec : ChangeSpec := { name := "exchangeKeeps", fn := fun _ => fun
  | [d] => { results := [.lit (.bool true)], args := [d] }
  | _ => none }
def exchangeKeepsRow : OpenClaim := { program := "ytooeemhlpmiceaa", sum := "d3defaf49999db0452de447c637ac93266d491497787ebb58017b97aeb0d9fff", func := "folkmoot/folkmootlaw16.ExchangeKeeps", spec := "exchangeKeeps", unfollowed := true, recurses := true, plainKeys := false, apart := false }
def ExchangeKeepsSaid : Prop := exchangeKeepsRow.holds Try.pinned (OpenSpec.ofChange exchangeKeepsSpec)

/-- ITS FALSE NEIGHBOUR: 'it returns false'. Refute it at one input. -/
def exchangeKeepsWrong : ChangeSpec := { name := "exchangeKeeps", fn := fun _ => fun
  | [d] => { results := [.lit (.bool false)], args := [d] }
  | _ => none }
def ExchangeKeepsWrongFalsely : Prop := exchangeKeepsRow.holds Try.pinned (OpenSpec.ofChange exchangeKeepsWrong)

/-- 'folkmootlaw16.ExchangeOne': WHATEVER THE INPUT: true; the input reads as it did. -/
def exchangeOneSpec : ChangeSpec := { name := "exchangeOne", fn := fun _ => fun
  | [d1, d2] => { results := [.lit (.bool true)], args := [d1, d2] }
  | _ => none }
def exchangeOneRow : OpenClaim := { program := "ytooeemhlpmiceaa", sum := "d3defaf49999db0452de447c637ac93266d491497787ebb58017b97aeb0d9fff", func := "folkmoot/folkmootlaw16.ExchangeOne", spec := "exchangeOne", unfollowed := true, recurses := true, plainKeys := false, apart := false }
def ExchangeOneSaid : Prop := exchangeOneRow.holds Try.pinned (OpenSpec.ofChange exchangeOneSpec)

/-- ITS FALSE NEIGHBOUR: 'it returns false'. Refute it at one input. -/
def exchangeOneWrong : ChangeSpec := { name := "exchangeOne", fn := fun _ => fun
  | [d1, d2] => { results := [.lit (.bool false)], args := [d1, d2] }
  | _ => none }
def ExchangeOneWrongFalsely : Prop := exchangeOneRow.holds Try.pinned (OpenSpec.ofChange exchangeOneWrong)

/-- 'folkmootlaw16.ExchangeMore': WHATEVER THE INPUT: true; the input reads as it did. -/
def exchangeMoreSpec : ChangeSpec := { name := "exchangeMore", fn := fun _ => fun
  | [d1, d2] => { results := [.lit (.bool true)], args := [d1, d2] }
  | _ => none }
def exchangeMoreRow : OpenClaim := { program := "ytooeemhlpmiceaa", sum := "d3defaf49999db0452de447c637ac93266d491497787ebb58017b97aeb0d9fff", func := "folkmoot/folkmootlaw16.ExchangeMore", spec := "exchangeMore", unfollowed := true, recurses := true, plainKeys := false, apart := false }
def ExchangeMoreSaid : Prop := exchangeMoreRow.holds Try.pinned (OpenSpec.ofChange exchangeMoreSpec)

/-- ITS FALSE NEIGHBOUR: 'it returns false'. Refute it at one input. -/
def exchangeMoreWrong : ChangeSpec := { name := "exchangeMore", fn := fun _ => fun
  | [d1, d2] => { results := [.lit (.bool false)], args := [d1, d2] }
  | _ => none }
def ExchangeMoreWrongFalsely : Prop := exchangeMoreRow.holds Try.pinned (OpenSpec.ofChange exchangeMoreWrong)

/- THE SECOND FORM. 'bulk': how many values and letters a reading holds, each counted each time it is reached (what is shared counts as often as it is met; a slice's spare places count too). A statement '..UptoSaid' is the law's where the arguments, and the package variables that the reading takes, are together of bulk at most 1048576: NARROWER than '..Said'. Prove '..Said' where nothing that the law and all that it calls make is longer than what came in: it says more and counts as full. Else prove '..UptoSaid'. A law counts once. -/
mutual
def uptoBulk {H : Type} : DataW H → Nat
  | .lit (.string bytes) => bytes.length + 1
  | .lit _ => 1
  | .nil => 1
  | .ptr d => uptoBulk d + 1
  | .slice elems spare => uptoBulkAll elems + uptoBulkAll spare + 1
  | .agg parts => uptoBulkAll parts + 1
  | .iface _ d => uptoBulk d + 1
  | .map entries => uptoBulkEntries entries + 1
  | .held _ => 1
def uptoBulkAll {H : Type} : List (DataW H) → Nat
  | [] => 0
  | d :: r => uptoBulk d + uptoBulkAll r
def uptoBulkEntries {H : Type} : List (Lit × DataW H) → Nat
  | [] => 0
  | x :: r => uptoBulkEntry x + uptoBulkEntries r
def uptoBulkEntry {H : Type} : Lit × DataW H → Nat
  | (.string bytes, d) => bytes.length + uptoBulk d + 1
  | (_, d) => uptoBulk d + 1
 end
def uptoSmall : (H : Type) → List (DataW H) → Bool := fun _ ds => decide (uptoBulkAll ds ≤ 1048576)
def OpenSpec.upto (s : _root_.Go.ChangeSpec) : _root_.Go.OpenSpec := { _root_.Go.OpenSpec.ofChange s with cond := some uptoSmall }

/-- 'folkmootlaw15.ContentMerges', WHERE WHAT IT READS IS OF BULK AT MOST 1048576: true; the input reads as it did. -/
def contentMergesUptoRow : OpenClaim := { program := "ytooeemhlpmiceaa", sum := "d3defaf49999db0452de447c637ac93266d491497787ebb58017b97aeb0d9fff", func := "folkmoot/folkmootlaw15.ContentMerges", spec := "contentMerges", unfollowed := true, recurses := true, plainKeys := false, apart := false, narrowed := true }
def ContentMergesUptoSaid : Prop := contentMergesUptoRow.holds Try.pinned (OpenSpec.upto contentMergesSpec)

/-- 'folkmootlaw15.ContentFinds', WHERE WHAT IT READS IS OF BULK AT MOST 1048576: true; the input reads as it did. -/
def contentFindsUptoRow : OpenClaim := { program := "ytooeemhlpmiceaa", sum := "d3defaf49999db0452de447c637ac93266d491497787ebb58017b97aeb0d9fff", func := "folkmoot/folkmootlaw15.ContentFinds", spec := "contentFinds", unfollowed := true, recurses := true, plainKeys := false, apart := false, narrowed := true }
def ContentFindsUptoSaid : Prop := contentFindsUptoRow.holds Try.pinned (OpenSpec.upto contentFindsSpec)

/-- 'folkmootlaw15.ContentOrder', WHERE WHAT IT READS IS OF BULK AT MOST 1048576: true; the input reads as it did. -/
def contentOrderUptoRow : OpenClaim := { program := "ytooeemhlpmiceaa", sum := "d3defaf49999db0452de447c637ac93266d491497787ebb58017b97aeb0d9fff", func := "folkmoot/folkmootlaw15.ContentOrder", spec := "contentOrder", unfollowed := true, recurses := true, plainKeys := false, apart := false, narrowed := true }
def ContentOrderUptoSaid : Prop := contentOrderUptoRow.holds Try.pinned (OpenSpec.upto contentOrderSpec)

/-- 'folkmootlaw15.ContentKeeps', WHERE WHAT IT READS IS OF BULK AT MOST 1048576: true; the input reads as it did. -/
def contentKeepsUptoRow : OpenClaim := { program := "ytooeemhlpmiceaa", sum := "d3defaf49999db0452de447c637ac93266d491497787ebb58017b97aeb0d9fff", func := "folkmoot/folkmootlaw15.ContentKeeps", spec := "contentKeeps", unfollowed := true, recurses := true, plainKeys := false, apart := false, narrowed := true }
def ContentKeepsUptoSaid : Prop := contentKeepsUptoRow.holds Try.pinned (OpenSpec.upto contentKeepsSpec)

/-- 'folkmootlaw16.ExchangePlays', WHERE WHAT IT READS IS OF BULK AT MOST 1048576: true; the input reads as it did. -/
def exchangePlaysUptoRow : OpenClaim := { program := "ytooeemhlpmiceaa", sum := "d3defaf49999db0452de447c637ac93266d491497787ebb58017b97aeb0d9fff", func := "folkmoot/folkmootlaw16.ExchangePlays", spec := "exchangePlays", unfollowed := true, recurses := true, plainKeys := false, apart := false, narrowed := true }
def ExchangePlaysUptoSaid : Prop := exchangePlaysUptoRow.holds Try.pinned (OpenSpec.upto exchangePlaysSpec)

/-- 'folkmootlaw16.ExchangeTurned', WHERE WHAT IT READS IS OF BULK AT MOST 1048576: true; the input reads as it did. -/
def exchangeTurnedUptoRow : OpenClaim := { program := "ytooeemhlpmiceaa", sum := "d3defaf49999db0452de447c637ac93266d491497787ebb58017b97aeb0d9fff", func := "folkmoot/folkmootlaw16.ExchangeTurned", spec := "exchangeTurned", unfollowed := true, recurses := true, plainKeys := false, apart := false, narrowed := true }
def ExchangeTurnedUptoSaid : Prop := exchangeTurnedUptoRow.holds Try.pinned (OpenSpec.upto exchangeTurnedSpec)

/-- 'folkmootlaw16.ExchangeFull', WHERE WHAT IT READS IS OF BULK AT MOST 1048576: true; the input reads as it did. -/
def exchangeFullUptoRow : OpenClaim := { program := "ytooeemhlpmiceaa", sum := "d3defaf49999db0452de447c637ac93266d491497787ebb58017b97aeb0d9fff", func := "folkmoot/folkmootlaw16.ExchangeFull", spec := "exchangeFull", unfollowed := true, recurses := true, plainKeys := false, apart := false, narrowed := true }
def ExchangeFullUptoSaid : Prop := exchangeFullUptoRow.holds Try.pinned (OpenSpec.upto exchangeFullSpec)

/-- 'folkmootlaw16.ExchangeKeeps', WHERE WHAT IT READS IS OF BULK AT MOST 1048576: true; the input reads as it did. -/
def exchangeKeepsUptoRow : OpenClaim := { program := "ytooeemhlpmiceaa", sum := "d3defaf49999db0452de447c637ac93266d491497787ebb58017b97aeb0d9fff", func := "folkmoot/folkmootlaw16.ExchangeKeeps", spec := "exchangeKeeps", unfollowed := true, recurses := true, plainKeys := false, apart := false, narrowed := true }
def ExchangeKeepsUptoSaid : Prop := exchangeKeepsUptoRow.holds Try.pinned (OpenSpec.upto exchangeKeepsSpec)

/-- 'folkmootlaw16.ExchangeOne', WHERE WHAT IT READS IS OF BULK AT MOST 1048576: true; the input reads as it did. -/
def exchangeOneUptoRow : OpenClaim := { program := "ytooeemhlpmiceaa", sum := "d3defaf49999db0452de447c637ac93266d491497787ebb58017b97aeb0d9fff", func := "folkmoot/folkmootlaw16.ExchangeOne", spec := "exchangeOne", unfollowed := true, recurses := true, plainKeys := false, apart := false, narrowed := true }
def ExchangeOneUptoSaid : Prop := exchangeOneUptoRow.holds Try.pinned (OpenSpec.upto exchangeOneSpec)

/-- 'folkmootlaw16.ExchangeMore', WHERE WHAT IT READS IS OF BULK AT MOST 1048576: true; the input reads as it did. -/
def exchangeMoreUptoRow : OpenClaim := { program := "ytooeemhlpmiceaa", sum := "d3defaf49999db0452de447c637ac93266d491497787ebb58017b97aeb0d9fff", func := "folkmoot/folkmootlaw16.ExchangeMore", spec := "exchangeMore", unfollowed := true, recurses := true, plainKeys := false, apart := false, narrowed := true }
def ExchangeMoreUptoSaid : Prop := exchangeMoreUptoRow.holds Try.pinned (OpenSpec.upto exchangeMoreSpec)

end Rows
end Go.Proofs.Ytooeemhlpmiceaa
