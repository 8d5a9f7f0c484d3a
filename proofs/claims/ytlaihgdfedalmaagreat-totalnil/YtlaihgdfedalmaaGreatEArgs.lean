/-
  Entries as they are handed in.
-/
import Derived.Test.YtlaihgdfedalmaaGreatCdArgs
import Derived.Test.YtlaihgdfedalmaaGreatERow
import Derived.Test.YtlaihgdfedalmaaGreatLAll
import Derived.Test.YtlaihgdfedalmaaGreatRows
import Derived.ProofKit
import Derived.OpenShut
import Derived.ShutString
import Derived.ChangeOld
import Derived.Below
import Derived.Deep.Slices
import Derived.ChangeSame
import Derived.MapViews
import Derived.WideKeyArgs
import Derived.SizedLaws
namespace Go.Proofs.YtlaihgdfedalmaaGreat
open Go.ChangeShapes Go.WideShapes Go.ChangeAt Go.RowKit Go.Deep
set_option linter.unusedVariables false
set_option linter.unusedSimpArgs false

theorem in_of_wf {a : Int} (h : (Lit.int .i64 a).wf = true) : In a := by
  unfold In
  simp [Lit.wf, IntKind.min, IntKind.max, IntKind.bits, IntKind.signed] at h
  omega
theorem u64_of_wf {a : Int} (h : (Lit.int .u64 a).wf = true) : ∃ n : Nat, a = n ∧ n < 18446744073709551616 := by
  simp [Lit.wf, IntKind.min, IntKind.max, IntKind.bits, IntKind.signed] at h
  exact ⟨a.toNat, by omega, by omega⟩
theorem u8_of_wf {a : Int} (h : (Lit.int .u8 a).wf = true) : ∃ n : Nat, a = n ∧ n < 256 := by
  simp [Lit.wf, IntKind.min, IntKind.max, IntKind.bits, IntKind.signed] at h
  exact ⟨a.toNat, by omega, by omega⟩
theorem own : ownKnob Tryz.prog.godebug = none := by kernel_rfl
theorem cellsU8 : Tryz.prog.cellsOf 5 = 1 := by kernel_rfl
theorem vid24 : ∃ f0 f1 : Field, Tryz.prog.underlying 33 = some (.struct #[f0, f1]) ∧ f0.offset = 0 ∧ f1.offset = 1 ∧ f0.type = 31 ∧ f1.type = 3 :=
  ⟨_, _, Tryz.underlying33, rfl, rfl, rfl, rfl⟩
set_option maxRecDepth 10000 in
/-- Bytes that were handed in. -/
theorem trod_bytes {H : Type} {enc : TypeId × Value → H} {W : World} {held : Bool} {fuel : Nat} {cs : List Value} {y : DataW H × List MemPlace} (h : DataW.trod enc Tryz.prog W 0 (fun _ => true) held fuel 37 cs = some y) :
    ∃ ao n cap xs, cs = [.slice ao n cap] ∧ Cd.Row W ao n cap xs := by
  rcases open_ints Tryz.underlying37 Tryz.underlying5 cellsU8 h with ⟨hcs, hy⟩ | ⟨x, l, c, zs, hcs, _, hl, hm, hz, hx, hcell, hwz⟩
  · exact ⟨none, 0, 0, [], hcs, nil_row W⟩
  · simp only [if_true] at hz
    refine ⟨some x, l, c, (zs.take l).map fun z => UInt8.ofNat z.toNat, hcs, by simp; omega, hl, hm, fun e => (by cases e), fun b hb i hi => ?_⟩
    cases hb
    rw [hcell i (by omega)]
    have hi2 : i < zs.length := by omega
    obtain ⟨m, hm1, hm2⟩ := u8_of_wf (hwz (zs.getD i 0) (by simp [List.getD, List.getElem?_eq_getElem hi2]))
    have e : (((zs.take l).map fun z => UInt8.ofNat z.toNat).getD i 0) = UInt8.ofNat (zs.getD i 0).toNat := by
      simp [List.getD, hi, List.getElem?_eq_getElem hi2]
    rw [e, hm1, Int.toNat_natCast, Cd.ofNat_toNat _ hm2]

end Go.Proofs.YtlaihgdfedalmaaGreat
