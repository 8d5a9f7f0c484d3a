/-
  Entries as they are handed in.
-/
import Derived.Test.YtpdgoalbknopiaaCdArgs
import Derived.Test.YtpdgoalbknopiaaERow
import Derived.Test.YtpdgoalbknopiaaLAll
import Derived.Test.YtpdgoalbknopiaaRows
import Derived.ProofKit
import Derived.OpenShut
import Derived.ShutString
import Derived.ChangeOld
import Derived.Below
import Derived.Deep.Slices
import Derived.ChangeSame
import Derived.MapViews
import Derived.WideKeyArgs
import Derived.SizedLaws
namespace Go.Proofs.Ytpdgoalbknopiaa
open Go.ChangeShapes Go.WideShapes Go.ChangeAt Go.RowKit Go.Deep
set_option linter.unusedVariables false
set_option linter.unusedSimpArgs false

theorem in_of_wf {a : Int} (h : (Lit.int .i64 a).wf = true) : In a := by
  unfold In
  simp [Lit.wf, IntKind.min, IntKind.max, IntKind.bits, IntKind.signed] at h
  omega
theorem u64_of_wf {a : Int} (h : (Lit.int .u64 a).wf = true) : ∃ n : Nat, a = n ∧ n < 18446744073709551616 := by
  simp [Lit.wf, IntKind.min, IntKind.max, IntKind.bits, IntKind.signed] at h
  exact ⟨a.toNat, by omega, by omega⟩
theorem u8_of_wf {a : Int} (h : (Lit.int .u8 a).wf = true) : ∃ n : Nat, a = n ∧ n < 256 := by
  simp [Lit.wf, IntKind.min, IntKind.max, IntKind.bits, IntKind.signed] at h
  exact ⟨a.toNat, by omega, by omega⟩
theorem own : ownKnob Try.prog.godebug = none := by kernel_rfl
theorem cellsU8 : Try.prog.cellsOf 5 = 1 := by kernel_rfl
theorem cells27 : Try.prog.cellsOf 27 = 1 := by kernel_rfl
theorem cells29 : Try.prog.cellsOf 29 = 5 := by kernel_rfl
theorem vid24 : ∃ f0 f1 : Field, Try.prog.underlying 24 = some (.struct #[f0, f1]) ∧ f0.offset = 0 ∧ f1.offset = 1 ∧ f0.type = 22 ∧ f1.type = 3 :=
  ⟨_, _, Try.underlying24, rfl, rfl, rfl, rfl⟩
theorem lab26 : ∃ f0 f1 f2 : Field, Try.prog.underlying 26 = some (.struct #[f0, f1, f2]) ∧ f0.offset = 0 ∧ f1.offset = 2 ∧ f2.offset = 3 ∧ f0.type = 24 ∧ f1.type = 22 ∧ f2.type = 3 :=
  ⟨_, _, _, Try.underlying26, rfl, rfl, rfl, rfl, rfl, rfl⟩
theorem ent29 : ∃ f0 f1 : Field, Try.prog.underlying 29 = some (.struct #[f0, f1]) ∧ f0.offset = 0 ∧ f1.offset = 4 ∧ f0.type = 26 ∧ f1.type = 27 :=
  ⟨_, _, Try.underlying29, rfl, rfl, rfl, rfl⟩

set_option maxRecDepth 100000 in
theorem trod_lab {H : Type} {enc : TypeId × Value → H} {W : World} {base : Nat} {sp : Nat → Bool} {held : Bool} {fuel : Nat} {cs : List Value} {y : DataW H × List MemPlace} (h : DataW.trod enc Try.prog W base sp held fuel 26 cs = some y) : ∃ x, OkL x ∧ cs = cellsL x := by
  obtain ⟨f0, f1, f2, he, p0, p1, p2, t0, t1, t2⟩ := lab26
  obtain ⟨g0, g1, he', q0, q1, u0, u1⟩ := vid24
  obtain ⟨xs, k, hk, hxy, hcl, hxl, hf⟩ := DataW.trod_struct he h
  rw [cells26] at hcl
  match xs, hxl, cs, hcl with
  | [y0, y1, y2], _, [v0, v1, v2, v3], _ =>
    have a0 := hf 0 f0 rfl
    have a1 := hf 1 f1 rfl
    have a2 := hf 2 f2 rfl
    simp [p0, p1, p2, t0, t1, t2, cells24, cells22, cells3] at a0 a1 a2
    obtain ⟨ys, k', hk', hyy, _, hyl, hg⟩ := DataW.trod_struct he' a0
    match ys, hyl with
    | [z0, z1], _ =>
      have b0 := hg 0 g0 rfl
      have b1 := hg 1 g1 rfl
      simp [q0, q1, u0, u1, cells22, cells3] at b0 b1
      obtain ⟨n0, c0, _, w0⟩ := DataW.trod_int Try.underlying22 b0
      obtain ⟨n1, c1, _, w1⟩ := DataW.trod_int Try.underlying3 b1
      obtain ⟨n2, c2, _, w2⟩ := DataW.trod_int Try.underlying22 a1
      obtain ⟨n3, c3, _, w3⟩ := DataW.trod_int Try.underlying3 a2
      simp at c0 c1 c2 c3
      subst c0 c1 c2 c3
      obtain ⟨m0, rfl, hm0⟩ := u64_of_wf w0
      obtain ⟨m2, rfl, hm2⟩ := u64_of_wf w2
      exact ⟨(m0, n1, m2, n3), ⟨hm0, in_of_wf w1, hm2, in_of_wf w3⟩, rfl⟩

set_option maxRecDepth 10000 in
/-- Bytes that were handed in. -/
theorem trod_bytes {H : Type} {enc : TypeId × Value → H} {W : World} {held : Bool} {fuel : Nat} {cs : List Value} {y : DataW H × List MemPlace} (h : DataW.trod enc Try.prog W 0 (fun _ => true) held fuel 27 cs = some y) :
    ∃ ao n cap xs, cs = [.slice ao n cap] ∧ Cd.Row W ao n cap xs := by
  rcases open_ints Try.underlying27 Try.underlying5 cellsU8 h with ⟨hcs, hy⟩ | ⟨x, l, c, zs, hcs, _, hl, hm, hz, hx, hcell, hwz⟩
  · exact ⟨none, 0, 0, [], hcs, nil_row W⟩
  · simp only [if_true] at hz
    refine ⟨some x, l, c, (zs.take l).map fun z => UInt8.ofNat z.toNat, hcs, by simp; omega, hl, hm, fun e => (by cases e), fun b hb i hi => ?_⟩
    cases hb
    rw [hcell i (by omega)]
    have hi2 : i < zs.length := by omega
    obtain ⟨m, hm1, hm2⟩ := u8_of_wf (hwz (zs.getD i 0) (by simp [List.getD, List.getElem?_eq_getElem hi2]))
    have e : (((zs.take l).map fun z => UInt8.ofNat z.toNat).getD i 0) = UInt8.ofNat (zs.getD i 0).toNat := by
      simp [List.getD, hi, List.getElem?_eq_getElem hi2]
    rw [e, hm1, Int.toNat_natCast, Cd.ofNat_toNat _ hm2]

set_option maxRecDepth 100000 in
/-- An entry that was handed in. -/
theorem trod_ent {H : Type} {enc : TypeId × Value → H} {W : World} {held : Bool} {fuel : Nat} {cs : List Value} {y : DataW H × List MemPlace} (h : DataW.trod enc Try.prog W 0 (fun _ => true) held fuel 29 cs = some y) :
    ∃ x so sn sc ms, OkL x ∧ cs = cellsL x ++ [.slice so sn sc] ∧ Cd.Row W so sn sc ms := by
  obtain ⟨f0, f1, he, p0, p1, t0, t1⟩ := ent29
  obtain ⟨xs, k, hk, hxy, hcl, hxl, hg⟩ := DataW.trod_struct he h
  rw [cells29] at hcl
  match xs, hxl, cs, hcl with
  | [y0, y1], _, [v0, v1, v2, v3, v4], _ =>
    have a0 := hg 0 f0 rfl
    have a1 := hg 1 f1 rfl
    simp [p0, p1, t0, t1, cells26, cells27] at a0 a1
    obtain ⟨x, hx, hc⟩ := trod_lab a0
    obtain ⟨so, sn, sc, ms, hcs, hr⟩ := trod_bytes a1
    simp at hcs
    subst hcs
    refine ⟨x, so, sn, sc, ms, hx, ?_, hr⟩
    rw [← hc]
    rfl
set_option maxRecDepth 100000 in
theorem open_ent {H : Type} {enc : TypeId × Value → H} {W : World} {base : Nat} {v : Value} {d : DataW H} {p : List MemPlace} (hv : Value.okWide Try.prog W .any base 29 v) (h : DataW.Trod enc Try.prog W 0 (fun _ => true) true 29 v d p) :
    ∃ x so sn sc ms, OkL x ∧ v = ent x (.slice so sn sc) ∧ Cd.Row W so sn sc ms := by
  obtain ⟨f0, f1, he, _⟩ := ent29
  obtain ⟨cs, rfl, hs⟩ := okWide_struct he hv
  obtain ⟨fuel, hf⟩ := h
  obtain ⟨x, so, sn, sc, ms, hx, hc, hr⟩ := trod_ent hf
  refine ⟨x, so, sn, sc, ms, hx, ?_, hr⟩
  obtain ⟨l⟩ := cs
  have e : l = cellsL x ++ [.slice so sn sc] := by simpa [Value.cells] using hc
  rw [e]
  rfl
end Go.Proofs.Ytpdgoalbknopiaa
