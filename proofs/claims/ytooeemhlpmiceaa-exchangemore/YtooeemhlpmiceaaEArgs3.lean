/-
  Lists of entries, entries and labels as they are handed in, and how long their messages are.
-/
import Derived.Test.YtooeemhlpmiceaaEArgs2
namespace Go.Proofs.Ytooeemhlpmiceaa
open Go.ChangeShapes Go.WideShapes Go.ChangeAt Go.RowKit Go.Deep
set_option linter.unusedVariables false
set_option linter.unusedSimpArgs false

theorem bytes5 : Try.prog.bytesOf 5 = 1 := by kernel_rfl
/-- An entry's message is not too long. -/
def OkE (e : Lb × List UInt8) : Prop := OkL e.1 ∧ e.2.length ≤ 140737488355328
set_option maxRecDepth 100000 in
theorem open_lab2 {H : Type} {enc : TypeId × Value → H} {W : World} {base : Nat} {v : Value} {d : DataW H} {p : List MemPlace} (hv : Value.okWide Try.prog W .any base 34 v) (h : DataW.Trod enc Try.prog W 0 (fun _ => true) true 34 v d p) : ∃ x, OkL x ∧ v = lab x := by
  obtain ⟨f0, f1, f2, he, _⟩ := lab26
  obtain ⟨cs, rfl, hs⟩ := okWide_struct he hv
  obtain ⟨fuel, hf⟩ := h
  obtain ⟨x, hx, hc⟩ := trod_lab hf
  refine ⟨x, hx, ?_⟩
  obtain ⟨l⟩ := cs
  have e : l = cellsL x := by simpa [Value.cells] using hc
  rw [e]
  rfl
set_option maxRecDepth 10000 in
theorem trod_bytes2 {H : Type} {enc : TypeId × Value → H} {W : World} {held : Bool} {fuel : Nat} {cs : List Value} {y : DataW H × List MemPlace} (h : DataW.trod enc Try.prog W 0 (fun _ => true) held fuel 35 cs = some y) (hfit : Fits 35 y.1) :
    ∃ ao n cap xs, cs = [.slice ao n cap] ∧ Cd.Row W ao n cap xs ∧ n ≤ 140737488355328 := by
  obtain ⟨ao, n, cap, xs, hcs, hr⟩ := trod_bytes h
  refine ⟨ao, n, cap, xs, hcs, hr, ?_⟩
  rcases open_slice Try.underlying35 h with ⟨hcs', _⟩ | ⟨x, len, c, mm, k, D, Pl, hcs', hb, hl, hm, hmm, hyd, hx⟩
  · rw [hcs] at hcs'
    simp at hcs'
    omega
  · rw [hcs] at hcs'
    simp at hcs'
    rw [hyd] at hfit
    have := Fits.cap Try.underlying35 hfit
    rw [bytes5] at this
    omega
set_option maxRecDepth 100000 in
theorem trod_ent2 {H : Type} {enc : TypeId × Value → H} {W : World} {held : Bool} {fuel : Nat} {cs : List Value} {y : DataW H × List MemPlace} (h : DataW.trod enc Try.prog W 0 (fun _ => true) held fuel 37 cs = some y) (hfit : Fits 37 y.1) :
    ∃ x so sn sc ms, OkL x ∧ cs = cellsL x ++ [.slice so sn sc] ∧ Cd.Row W so sn sc ms ∧ sn ≤ 140737488355328 := by
  obtain ⟨f0, f1, he, p0, p1, t0, t1⟩ := ent29
  obtain ⟨xs, k, hk, hxy, hcl, hxl, hg⟩ := DataW.trod_struct he h
  rw [cells29] at hcl
  match xs, hxl, cs, hcl with
  | [y0, y1], _, [v0, v1, v2, v3, v4], _ =>
    have a0 := hg 0 f0 rfl
    have a1 := hg 1 f1 rfl
    simp [p0, p1, t0, t1, cells26, cells27] at a0 a1
    subst hxy
    have ft1 := Fits.part (f := f1) he hfit (i := 1) rfl rfl
    rw [t1] at ft1
    obtain ⟨x, hx, hc⟩ := trod_lab a0
    obtain ⟨so, sn, sc, ms, hcs, hr, hl⟩ := trod_bytes2 a1 ft1
    simp at hcs
    subst hcs
    refine ⟨x, so, sn, sc, ms, hx, ?_, hr, hl⟩
    rw [← hc]
    rfl
set_option maxRecDepth 100000 in
theorem open_ent2 {H : Type} {enc : TypeId × Value → H} {W : World} {base : Nat} {v : Value} {d : DataW H} {p : List MemPlace} (hv : Value.okWide Try.prog W .any base 37 v) (h : DataW.Trod enc Try.prog W 0 (fun _ => true) true 37 v d p) (hfit : Fits 37 d) :
    ∃ x so sn sc ms, OkL x ∧ v = ent x (.slice so sn sc) ∧ Cd.Row W so sn sc ms ∧ sn ≤ 140737488355328 := by
  obtain ⟨f0, f1, he, _⟩ := ent29
  obtain ⟨cs, rfl, hs⟩ := okWide_struct he hv
  obtain ⟨fuel, hf⟩ := h
  obtain ⟨x, so, sn, sc, ms, hx, hc, hr, hl⟩ := trod_ent2 hf hfit
  refine ⟨x, so, sn, sc, ms, hx, ?_, hr, hl⟩
  obtain ⟨l⟩ := cs
  have e : l = cellsL x ++ [.slice so sn sc] := by simpa [Value.cells] using hc
  rw [e]
  rfl
set_option maxRecDepth 100000 in
theorem open_ents {H : Type} {enc : TypeId × Value → H} {W : World} {ao : Option Addr} {len cap : Nat} {d : DataW H} {p : List MemPlace} (h : DataW.Trod enc Try.prog W 0 (fun _ => true) true 22 (.slice ao len cap) d p) (hfit : Fits 22 d) :
    ∃ es, ER (fun _ => True) W ao len es ∧ (∀ e ∈ es, OkE e) ∧ (ao = none → len = 0 ∧ cap = 0) ∧ len ≤ cap ∧ cap ≤ 140737488355328 := by
  obtain ⟨fuel, hf⟩ := h
  rcases open_slice Try.underlying22 hf with ⟨hcs, _⟩ | ⟨x, len', c, mm, n, D, Pl, hcs, hb, hl, hm, hmm, hyd, hx⟩
  · simp [Value.cells] at hcs
    obtain ⟨rfl, rfl, rfl⟩ := hcs
    exact ⟨[], ER.nil _ _ _, by simp, fun _ => ⟨rfl, rfl⟩, by omega, by omega⟩
  · simp [Value.cells] at hcs
    obtain ⟨rfl, rfl, rfl⟩ := hcs
    simp only [if_true] at hmm
    have hyd1 : d = _ := congrArg Prod.fst hyd
    subst hyd1
    have hcp : cap ≤ 140737488355328 := by
      have := Fits.cap Try.underlying22 hfit
      rw [bytes29] at this
      omega
    have each : ∀ i, i < len → ∃ q : (Lb × List UInt8) × (Option Addr × Nat × Nat), OkE q.1 ∧ Cd.Row W q.2.1 q.2.2.1 q.2.2.2 q.1.2 ∧ ∀ j, j < 5 → W.cell? (x.add (i * 5 + j)) = (cellsL q.1.1 ++ [.slice q.2.1 q.2.2.1 q.2.2.2])[j]? := by
      intro i hi
      obtain ⟨cs', h1, h2⟩ := hx i (by omega)
      rw [cells29] at h1
      obtain ⟨_, hlen, hcell⟩ := World.cells?_some h1
      obtain ⟨q, so, sn, sc, ms, hq, rfl, hr, hlm⟩ := trod_ent2 h2 (Fits.elem Try.underlying22 hfit hi)
      refine ⟨((q, ms), so, sn, sc), ⟨hq, by have := hr.1; show ms.length ≤ _; omega⟩, hr, fun j hj => ?_⟩
      have e0 := hcell j (by omega)
      rw [add_add] at e0
      exact e0
    obtain ⟨q, hq⟩ := choose_lt each
    have hget : ∀ j y, ((List.range len).map fun i => (q i).1)[j]? = some y → j < len ∧ y = (q j).1 := fun j y hj => by
      obtain ⟨h1, h2⟩ := List.getElem?_eq_some_iff.1 hj
      simp at h1 h2
      exact ⟨h1, h2.symm⟩
    refine ⟨(List.range len).map fun i => (q i).1, ⟨by simp, by unfold maxLen at hm; omega, fun h0 => ?_⟩, fun y hy => ?_, (fun e => by cases e), hl, hcp⟩
    · obtain ⟨b, off, spot⟩ := x
      have hs : spot = none := by
        have := (hq 0 h0).2.2 0 (by omega)
        simpa [Addr.add, cellsL] using World.cell?_spot this
      subst hs
      refine ⟨b, off, rfl, trivial, fun j y hj => ?_⟩
      obtain ⟨hjl, rfl⟩ := hget j y hj
      have key : ∀ i, i < 5 → W.cell? ⟨b, off + j * 5 + i, none⟩ = (cellsL (q j).1.1 ++ [.slice (q j).2.1 (q j).2.2.1 (q j).2.2.2])[i]? := fun i hi => by
        have := (hq j hjl).2.2 i hi
        rw [Addr.add_lit, ← Nat.add_assoc] at this
        exact this
      exact ⟨_, _, _, key 0 (by omega), key 1 (by omega), key 2 (by omega), key 3 (by omega), key 4 (by omega), (hq j hjl).2.1, fun _ _ _ => trivial⟩
    · obtain ⟨j, hj, rfl⟩ := List.mem_map.1 hy
      exact (hq j (by simpa using hj)).1
end Go.Proofs.Ytooeemhlpmiceaa
