/-
  Views as they are handed in.
-/
import Derived.Test.YtlaihgdfedalmaaGreatMix3
namespace Go.Proofs.YtlaihgdfedalmaaGreat
open Go.ChangeShapes Go.WideShapes Go.ChangeAt Go.RowKit Go.Deep
set_option linter.unusedVariables false
set_option linter.unusedSimpArgs false

theorem u16_of_wf {a : Int} (h : (Lit.int .u16 a).wf = true) : ∃ n : Nat, a = n ∧ n < 65536 := by
  simp [Lit.wf, IntKind.min, IntKind.max, IntKind.bits, IntKind.signed] at h
  exact ⟨a.toNat, by omega, by omega⟩
theorem cellsU16 : Tryz.prog.cellsOf 34 = 1 := by kernel_rfl
theorem cellsV36 : Tryz.prog.cellsOf 36 = 3 := by kernel_rfl
theorem view36 : ∃ f0 f1 : Field, Tryz.prog.underlying 36 = some (.struct #[f0, f1]) ∧ f0.offset = 0 ∧ f1.offset = 2 ∧ f0.type = 33 ∧ f1.type = 34 :=
  ⟨_, _, Tryz.underlying36, rfl, rfl, rfl, rfl⟩
set_option maxRecDepth 100000 in
theorem trod_view {H : Type} {enc : TypeId × Value → H} {W : World} {base : Nat} {sp : Nat → Bool} {held : Bool} {fuel : Nat} {cs : List Value} {y : DataW H × List MemPlace} (h : DataW.trod enc Tryz.prog W base sp held fuel 36 cs = some y) : ∃ (n : Nat) (p : Int) (s : Nat), n < 18446744073709551616 ∧ In p ∧ s < 65536 ∧ cs = [.int .u64 (n : Nat), .int .i64 p, .int .u16 (s : Nat)] := by
  obtain ⟨f0, f1, he, p0, p1, t0, t1⟩ := view36
  obtain ⟨g0, g1, he', q0, q1, u0, u1⟩ := vid24
  obtain ⟨xs, k, hk, hxy, hcl, hxl, hf⟩ := DataW.trod_struct he h
  rw [cellsV36] at hcl
  match xs, hxl, cs, hcl with
  | [y0, y1], _, [v0, v1, v2], _ =>
    have a0 := hf 0 f0 rfl
    have a1 := hf 1 f1 rfl
    simp [p0, p1, t0, t1, cells24, cellsU16] at a0 a1
    obtain ⟨ys, k', hk', hyy, _, hyl, hg⟩ := DataW.trod_struct he' a0
    match ys, hyl with
    | [z0, z1], _ =>
      have b0 := hg 0 g0 rfl
      have b1 := hg 1 g1 rfl
      simp [q0, q1, u0, u1, cells22, cells3] at b0 b1
      obtain ⟨n0, c0, _, w0⟩ := DataW.trod_int Tryz.underlying31 b0
      obtain ⟨n1, c1, _, w1⟩ := DataW.trod_int Tryz.underlying3 b1
      obtain ⟨n2, c2, _, w2⟩ := DataW.trod_int Tryz.underlying34 a1
      simp at c0 c1 c2
      subst c0 c1 c2
      obtain ⟨m0, rfl, hm0⟩ := u64_of_wf w0
      obtain ⟨m2, rfl, hm2⟩ := u16_of_wf w2
      exact ⟨m0, n1, m2, hm0, in_of_wf w1, hm2, rfl⟩
set_option maxRecDepth 100000 in
theorem open_view {H : Type} {enc : TypeId × Value → H} {W : World} {base : Nat} {v : Value} {d : DataW H} {p : List MemPlace} (hv : Value.okWide Tryz.prog W .any base 36 v) (h : DataW.Trod enc Tryz.prog W 0 (fun _ => true) true 36 v d p) : ∃ (n : Nat) (q : Int) (s : Nat), n < 18446744073709551616 ∧ In q ∧ s < 65536 ∧ v = .agg #[.int .u64 (n : Nat), .int .i64 q, .int .u16 (s : Nat)] := by
  obtain ⟨f0, f1, he, _⟩ := view36
  obtain ⟨cs, rfl, hs⟩ := okWide_struct he hv
  obtain ⟨fuel, hf⟩ := h
  obtain ⟨n, q, s, h1, h2, h3, hc⟩ := trod_view hf
  refine ⟨n, q, s, h1, h2, h3, ?_⟩
  obtain ⟨l⟩ := cs
  have e : l = [.int .u64 (n : Nat), .int .i64 q, .int .u16 (s : Nat)] := by simpa [Value.cells] using hc
  rw [e]
set_option maxRecDepth 100000 in
theorem open_bytesT {H : Type} {enc : TypeId × Value → H} {W : World} {ao : Option Addr} {n cap : Nat} {d : DataW H} {p : List MemPlace} (h : DataW.Trod enc Tryz.prog W 0 (fun _ => true) true 37 (.slice ao n cap) d p) : ∃ xs, Cd.Row W ao n cap xs := by
  obtain ⟨fuel, hf⟩ := h
  obtain ⟨ao', n', cap', xs, hcs, hr⟩ := trod_bytes hf
  simp [Value.cells] at hcs
  obtain ⟨rfl, rfl, rfl⟩ := hcs
  exact ⟨xs, hr⟩
end Go.Proofs.YtlaihgdfedalmaaGreat
