/-
  A configuration as it is handed in.
-/
import Derived.Test.YtofhkfbibdkjgaaBMore
import Derived.Test.YtofhkfbibdkjgaaRows
import Derived.Deep.Slices
import Derived.ChangeSame
import Derived.MapViews
import Derived.WideKeyArgs
import Derived.DeepKeys4
namespace Go.Proofs.Ytofhkfbibdkjgaa
open Go.ChangeShapes Go.WideShapes Go.ChangeAt Go.RowKit Go.Deep
set_option linter.unusedVariables false

theorem row23 : (23 : TypeId) < Try.prog.types.size := of_decide_eq_true (by kernel_rfl)
theorem wide23 : (match Try.prog.underlying 23 with | some (.array _ _) | some (.struct _) => true | _ => false) = true := by kernel_rfl
theorem rec23 : Try.prog.readableRec 23 = true := by kernel_rfl
theorem deep23 : Try.prog.keyTypeAt (Try.prog.types.size + 1) 23 = true := by kernel_rfl
theorem cells3 : Try.prog.cellsOf 3 = 1 := by kernel_rfl
theorem cells23 : Try.prog.cellsOf 23 = 6 := by kernel_rfl
theorem cfg23 : ∃ f0 f1 f2 f3 f4 f5 : Field, Try.prog.underlying 23 = some (.struct #[f0, f1, f2, f3, f4, f5]) ∧ (f0.offset = 0 ∧ f1.offset = 1 ∧ f2.offset = 2 ∧ f3.offset = 3 ∧ f4.offset = 4 ∧ f5.offset = 5) ∧ f0.type = 3 ∧ f1.type = 3 ∧ f2.type = 3 ∧ f3.type = 3 ∧ f4.type = 3 ∧ f5.type = 3 :=
  ⟨_, _, _, _, _, _, Try.underlying23, ⟨rfl, rfl, rfl, rfl, rfl, rfl⟩, rfl, rfl, rfl, rfl, rfl, rfl⟩

set_option maxRecDepth 100000 in
theorem open_cfg {H : Type} {enc : TypeId × Value → H} {W : World} {base : Nat} {v : Value} {d : DataW H} {p : List MemPlace} (hv : Value.okWide Try.prog W .any base 23 v) (h : DataW.Trod enc Try.prog W 0 (fun _ => true) true 23 v d p) :
    ∃ N B M Wi R Q : Int, v = cfg N B M Wi R Q ∧ p = [] := by
  obtain ⟨f0, f1, f2, f3, f4, f5, he, ⟨p0, p1, p2, p3, p4, p5⟩, t0, t1, t2, t3, t4, t5⟩ := cfg23
  obtain ⟨cs, rfl, hs⟩ := okWide_struct he hv
  have hform : (Value.agg cs).formed Try.prog 23 = true := by simp [Value.formed, he, hs]
  obtain ⟨_, hp⟩ := keyOf_asKey deep23 wide23 hform h
  obtain ⟨fuel, hf⟩ := h
  obtain ⟨l⟩ := cs
  obtain ⟨xs, k, hk, hxy, hcl, hxl, hg⟩ := DataW.trod_struct he hf
  rw [cells23] at hcl
  simp only [Value.cells] at hcl hg
  match xs, hxl, l, hcl with
  | [y0, y1, y2, y3, y4, y5], _, [v0, v1, v2, v3, v4, v5], _ =>
    have a0 := hg 0 f0 rfl
    have a1 := hg 1 f1 rfl
    have a2 := hg 2 f2 rfl
    have a3 := hg 3 f3 rfl
    have a4 := hg 4 f4 rfl
    have a5 := hg 5 f5 rfl
    simp [p0, p1, p2, p3, p4, p5, t0, t1, t2, t3, t4, t5, cells3] at a0 a1 a2 a3 a4 a5
    obtain ⟨n0, c0, _, w0⟩ := DataW.trod_int Try.underlying3 a0
    obtain ⟨n1, c1, _, w1⟩ := DataW.trod_int Try.underlying3 a1
    obtain ⟨n2, c2, _, w2⟩ := DataW.trod_int Try.underlying3 a2
    obtain ⟨n3, c3, _, w3⟩ := DataW.trod_int Try.underlying3 a3
    obtain ⟨n4, c4, _, w4⟩ := DataW.trod_int Try.underlying3 a4
    obtain ⟨n5, c5, _, w5⟩ := DataW.trod_int Try.underlying3 a5
    simp at c0 c1 c2 c3 c4 c5
    subst c0 c1 c2 c3 c4 c5
    exact ⟨n0, n1, n2, n3, n4, n5, rfl, hp⟩

end Go.Proofs.Ytofhkfbibdkjgaa
