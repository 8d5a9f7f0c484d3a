/-
  Lists of summaries, and summaries, as they are handed in.
-/
import Derived.Test.YtooeemhlpmiceaaEArgs3
import Derived.Test.YtooeemhlpmiceaaXRep
namespace Go.Proofs.Ytooeemhlpmiceaa
open Go.ChangeShapes Go.WideShapes Go.ChangeAt Go.RowKit Go.Deep
set_option linter.unusedVariables false
set_option linter.unusedSimpArgs false

/-- A summary that was handed in is not too great. -/
def OkP (t : Pt) : Prop := (∀ e ∈ t.es, OkE e) ∧ (∀ x ∈ t.ls, OkL x) ∧ t.es.length ≤ 140737488355328 ∧ t.ls.length ≤ 140737488355328 ∧ In t.nx ∧ t.hn < 18446744073709551616 ∧ In t.hp
theorem trod_ents2 {H : Type} {enc : TypeId × Value → H} {W : World} {fuel : Nat} {cs : List Value} {y : DataW H × List MemPlace} (h : DataW.trod enc Try.prog W 0 (fun _ => true) true fuel 22 cs = some y) (hfit : Fits 22 y.1) :
    ∃ ao len cap es, cs = [.slice ao len cap] ∧ ER (fun _ => True) W ao len es ∧ (∀ e ∈ es, OkE e) ∧ (ao = none → len = 0 ∧ cap = 0) ∧ len ≤ 140737488355328 := by
  obtain ⟨ao, len, cap, hcs⟩ : ∃ ao len cap, cs = [.slice ao len cap] := by
    rcases open_slice Try.underlying22 h with ⟨hcs, _⟩ | ⟨x, len, c, _, _, _, _, hcs, _⟩
    · exact ⟨_, _, _, hcs⟩
    · exact ⟨_, _, _, hcs⟩
  subst hcs
  obtain ⟨d, pl⟩ := y
  have hT : DataW.Trod enc Try.prog W 0 (fun _ => true) true 22 (.slice ao len cap) d pl := ⟨fuel, by simpa [Value.cells] using h⟩
  obtain ⟨es, h1, h2, h3, h4, h5⟩ := open_ents hT hfit
  exact ⟨ao, len, cap, es, rfl, h1, h2, h3, by omega⟩
theorem trod_labs2 {H : Type} {enc : TypeId × Value → H} {W : World} {fuel : Nat} {cs : List Value} {y : DataW H × List MemPlace} (h : DataW.trod enc Try.prog W 0 (fun _ => true) true fuel 28 cs = some y) (hfit : Fits 28 y.1) :
    ∃ ao len cap ls, cs = [.slice ao len cap] ∧ LR W ao len ls ∧ (∀ x ∈ ls, OkL x) ∧ (ao = none → len = 0 ∧ cap = 0) ∧ len ≤ 140737488355328 := by
  obtain ⟨ao, len, cap, ls, hcs, h1, h2, h3, h4, h5⟩ := trod_labs h hfit
  refine ⟨ao, len, cap, ls, hcs, h1, h2, fun e => ⟨h3 e, ?_⟩, by omega⟩
  rcases open_slice Try.underlying28 h with ⟨hcs', _⟩ | ⟨x, len', c, _, _, _, _, hcs', _⟩
  · rw [hcs] at hcs'
    simp at hcs'
    exact hcs'.2.2
  · rw [hcs, e] at hcs'
    simp at hcs'
set_option maxRecDepth 100000 in
theorem trod_sum2 {H : Type} {enc : TypeId × Value → H} {W : World} {fuel : Nat} {cs : List Value} {y : DataW H × List MemPlace} (h : DataW.trod enc Try.prog W 0 (fun _ => true) true fuel 63 cs = some y) (hfit : Fits 63 y.1) :
    ∃ (t : Pt) (ca : Option Addr) (cc : Nat) (oa : Option Addr) (oc : Nat), cs = [.slice ca t.es.length cc, .slice oa t.ls.length oc, .int .i64 t.nx, .int .u64 (t.hn : Nat), .int .i64 t.hp] ∧ ER (fun _ => True) W ca t.es.length t.es ∧ LR W oa t.ls.length t.ls ∧ (ca = none → t.es.length = 0 ∧ cc = 0) ∧ (oa = none → t.ls.length = 0 ∧ oc = 0) ∧ OkP t := by
  obtain ⟨f0, f1, f2, f3, he, p0, p1, p2, p3, t0, t1, t2, t3⟩ := sum38
  obtain ⟨g0, g1, he', q0, q1, u0, u1⟩ := vid24
  obtain ⟨xs, k, hk, hxy, hcl, hxl, hf⟩ := DataW.trod_struct he h
  rw [cells38] at hcl
  match xs, hxl, cs, hcl with
  | [y0, y1, y2, y3], _, [v0, v1, v2, v3, v4], _ =>
    have a0 := hf 0 f0 rfl
    have a1 := hf 1 f1 rfl
    have a2 := hf 2 f2 rfl
    have a3 := hf 3 f3 rfl
    simp [p0, p1, p2, p3, t0, t1, t2, t3, cells24, cells3, cells35, cells36] at a0 a1 a2 a3
    subst hxy
    have ft0 := Fits.part (f := f0) he hfit (i := 0) rfl rfl
    have ft1 := Fits.part (f := f1) he hfit (i := 1) rfl rfl
    rw [t0] at ft0
    rw [t1] at ft1
    obtain ⟨ao, n, ac, es, e0, her, heo, hez, hec⟩ := trod_ents2 a0 ft0
    obtain ⟨bo, m, bc, ls, e1, hlr, hlo, hlz, hlc⟩ := trod_labs2 a1 ft1
    obtain ⟨nx, e2, _, w2⟩ := DataW.trod_int Try.underlying3 a2
    obtain ⟨ys, k', hk', hyy, _, hyl, hg⟩ := DataW.trod_struct he' a3
    match ys, hyl with
    | [z0, z1], _ =>
      have b0 := hg 0 g0 rfl
      have b1 := hg 1 g1 rfl
      simp [q0, q1, u0, u1, cells22, cells3] at b0 b1
      obtain ⟨n0, c0, _, w0⟩ := DataW.trod_int Try.underlying30 b0
      obtain ⟨n1, c1, _, w1⟩ := DataW.trod_int Try.underlying3 b1
      simp at e0 e1 e2 c0 c1
      subst e0 e1 e2 c0 c1
      obtain ⟨m0, rfl, hm0⟩ := u64_of_wf w0
      have hnl := her.1
      have hml := hlr.1
      subst hnl hml
      exact ⟨⟨0, es, ls, nx, m0, n1⟩, ao, ac, bo, bc, rfl, her, hlr, hez, hlz, heo, hlo, hec, hlc, in_of_wf w2, hm0, in_of_wf w1⟩
theorem bytes63 : Try.prog.bytesOf 63 = 72 := by kernel_rfl
set_option maxRecDepth 100000 in
theorem open_sums {H : Type} {enc : TypeId × Value → H} {W : World} {ao : Option Addr} {len cap : Nat} {d : DataW H} {p : List MemPlace} (h : DataW.Trod enc Try.prog W 0 (fun _ => true) true 43 (.slice ao len cap) d p) (hfit : Fits 43 d) :
    ∃ ss, SL (fun _ => True) W ao len ss ∧ (∀ t ∈ ss, OkP t) ∧ len ≤ 140737488355328 := by
  obtain ⟨fuel, hf⟩ := h
  rcases open_slice Try.underlying43 hf with ⟨hcs, _⟩ | ⟨x, len', c, mm, n, D, Pl, hcs, hb, hl, hm, hmm, hyd, hx⟩
  · simp [Value.cells] at hcs
    obtain ⟨rfl, rfl, rfl⟩ := hcs
    exact ⟨[], ⟨rfl, by omega, fun h => by omega⟩, by simp, by omega⟩
  · simp [Value.cells] at hcs
    obtain ⟨rfl, rfl, rfl⟩ := hcs
    simp only [if_true] at hmm
    have hyd1 : d = _ := congrArg Prod.fst hyd
    subst hyd1
    have hcp : cap ≤ 140737488355328 := by
      have := Fits.cap Try.underlying43 hfit
      rw [bytes63] at this
      omega
    have each : ∀ i, i < len → ∃ q : Pt × (Option Addr × Nat) × (Option Addr × Nat), (∀ j, j < 5 → W.cell? (x.add (i * 5 + j)) = [Value.slice q.2.1.1 q.1.es.length q.2.1.2, .slice q.2.2.1 q.1.ls.length q.2.2.2, .int .i64 q.1.nx, .int .u64 (q.1.hn : Nat), .int .i64 q.1.hp][j]?) ∧ ER (fun _ => True) W q.2.1.1 q.1.es.length q.1.es ∧ LR W q.2.2.1 q.1.ls.length q.1.ls ∧ (q.2.1.1 = none → q.1.es.length = 0 ∧ q.2.1.2 = 0) ∧ (q.2.2.1 = none → q.1.ls.length = 0 ∧ q.2.2.2 = 0) ∧ OkP q.1 := by
      intro i hi
      obtain ⟨cs', h1, h2⟩ := hx i (by omega)
      rw [cells38] at h1
      obtain ⟨_, hlen, hcell⟩ := World.cells?_some h1
      obtain ⟨t, ca, cc, oa, oc, rfl, h3, h4, h5, h6, h7⟩ := trod_sum2 h2 (Fits.elem Try.underlying43 hfit hi)
      refine ⟨(t, (ca, cc), (oa, oc)), fun j hj => ?_, h3, h4, h5, h6, h7⟩
      have e0 := hcell j (by omega)
      rw [add_add] at e0
      exact e0
    have : Inhabited (Pt × (Option Addr × Nat) × (Option Addr × Nat)) := ⟨(⟨0, [], [], 0, 0, 0⟩, (none, 0), (none, 0))⟩
    obtain ⟨q, hq⟩ := choose_lt each
    have hget : ∀ j y, ((List.range len).map fun i => (q i).1)[j]? = some y → j < len ∧ y = (q j).1 := fun j y hj => by
      obtain ⟨h1, h2⟩ := List.getElem?_eq_some_iff.1 hj
      simp at h1 h2
      exact ⟨h1, h2.symm⟩
    refine ⟨(List.range len).map fun i => (q i).1, ⟨by simp, by unfold maxLen at hm; omega, fun h0 => ?_⟩, fun y hy => ?_, by omega⟩
    · obtain ⟨b, off, spot⟩ := x
      have hs : spot = none := by
        have := (hq 0 h0).1 0 (by omega)
        simpa [Addr.add] using World.cell?_spot this
      subst hs
      refine ⟨b, off, rfl, trivial, fun j y hj => ?_⟩
      obtain ⟨hjl, rfl⟩ := hget j y hj
      have key : ∀ i, i < 5 → W.cell? ⟨b, off + j * 5 + i, none⟩ = [Value.slice (q j).2.1.1 (q j).1.es.length (q j).2.1.2, .slice (q j).2.2.1 (q j).1.ls.length (q j).2.2.2, .int .i64 (q j).1.nx, .int .u64 ((q j).1.hn : Nat), .int .i64 (q j).1.hp][i]? := fun i hi => by
        have := (hq j hjl).1 i hi
        rw [Addr.add_lit, ← Nat.add_assoc] at this
        exact this
      obtain ⟨_, h3, h4, h5, h6, _⟩ := hq j hjl
      exact ⟨_, _, _, _, ⟨key 0 (by omega), key 1 (by omega), key 2 (by omega), key 3 (by omega), key 4 (by omega)⟩, h3, h4, fun _ _ _ => trivial, h5, h6⟩
    · obtain ⟨j, hj, rfl⟩ := List.mem_map.1 hy
      exact (hq j (by simpa using hj)).2.2.2.2.2
end Go.Proofs.Ytooeemhlpmiceaa
