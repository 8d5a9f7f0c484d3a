/-
  Summaries as they are handed in.
-/
import Derived.Test.YtooeemhlpmiceaaEArgs
import Derived.Test.YtooeemhlpmiceaaEAlike
import Derived.Lib.SmallJoins
namespace Go.Proofs.Ytooeemhlpmiceaa
open Go.ChangeShapes Go.WideShapes Go.ChangeAt Go.RowKit Go.Deep
set_option linter.unusedVariables false
set_option linter.unusedSimpArgs false

theorem cells35 : Try.prog.cellsOf 22 = 1 := by kernel_rfl
theorem cells36 : Try.prog.cellsOf 28 = 1 := by kernel_rfl
theorem cells38 : Try.prog.cellsOf 63 = 5 := by kernel_rfl
theorem sum38 : ∃ f0 f1 f2 f3 : Field, Try.prog.underlying 63 = some (.struct #[f0, f1, f2, f3]) ∧ f0.offset = 0 ∧ f1.offset = 1 ∧ f2.offset = 2 ∧ f3.offset = 3 ∧ f0.type = 22 ∧ f1.type = 28 ∧ f2.type = 3 ∧ f3.type = 32 :=
  ⟨_, _, _, _, Try.underlying63, rfl, rfl, rfl, rfl, rfl, rfl, rfl, rfl⟩

theorem all_mem {H : Type} {P : Program} {e : TypeId} : ∀ {l : List (DataW H)} {d : DataW H}, d ∈ l → ∀ n ∈ d.weights P e, n ∈ DataW.weightsAll P e l
  | [], d, h, _, _ => by simp at h
  | a :: r, d, h, n, hn => by
    rw [List.mem_cons] at h
    rw [DataW.weightsAll, List.mem_append]
    rcases h with rfl | h
    · exact .inl hn
    · exact .inr (all_mem h n hn)
/-- No part takes more than the form's reach. -/
def Fits {H : Type} (t : TypeId) (d : DataW H) : Prop := ∀ n ∈ d.weights Try.prog t, n ≤ 140737488351232
theorem Fits.elem {H : Type} {t e : TypeId} {D : Nat → DataW H} {len m : Nat} (ht : Try.prog.underlying t = some (.slice e)) (h : Fits t (.slice ((List.range len).map D) ((List.range (m - len)).map fun j => D (len + j)))) {i : Nat} (hi : i < len) : Fits e (D i) := by
  intro n hn
  refine h n ?_
  simp only [DataW.weights, ht]
  refine List.mem_cons_of_mem _ (List.mem_append_left _ (all_mem ?_ n hn))
  exact List.mem_map.2 ⟨i, List.mem_range.2 hi, rfl⟩
theorem Fits.cap {H : Type} {t e : TypeId} {D : Nat → DataW H} {len m : Nat} (ht : Try.prog.underlying t = some (.slice e)) (h : Fits t (.slice ((List.range len).map D) ((List.range (m - len)).map fun j => D (len + j)))) : (len + (m - len)) * Try.prog.bytesOf e ≤ 140737488351232 := by
  have := h ((len + (m - len)) * Try.prog.bytesOf e) (by simp [DataW.weights, ht])
  exact this
theorem Fits.part {H : Type} {t : TypeId} {fs : Array Field} {xs : List (DataW H × List MemPlace)} (ht : Try.prog.underlying t = some (.struct fs)) (h : Fits t (.agg (xs.map (·.1)))) {i : Nat} {f : Field} {x : DataW H × List MemPlace} (hf : fs[i]? = some f) (hx : xs[i]? = some x) : Fits f.type x.1 := by
  intro n hn
  refine h n ?_
  simp only [DataW.weights, ht]
  refine DataW.weights_mem_each (j := i) (t := f.type) (d := x.1) ?_ ?_ n hn
  · rw [List.getElem?_map, Array.getElem?_toList, hf]; rfl
  · rw [List.getElem?_map, hx]; rfl

theorem fits_of {H : Type} {ts : List TypeId} {ds : List (DataW H)} {j : Nat} {t : TypeId} {d : DataW H} (hsz : (DataW.weightsEach Try.prog ts ds).all (· ≤ reachBytes) = true) (ht : ts[j]? = some t) (hd : ds[j]? = some d) : Fits t d := by
  intro n hn
  have := List.all_eq_true.1 hsz n (DataW.weights_mem_each ht hd n hn)
  exact of_decide_eq_true this
theorem bytes26 : Try.prog.bytesOf 34 = 32 := by kernel_rfl
theorem bytes29 : Try.prog.bytesOf 37 = 56 := by kernel_rfl

set_option maxRecDepth 100000 in
theorem trod_labs {H : Type} {enc : TypeId × Value → H} {W : World} {held : Bool} {fuel : Nat} {cs : List Value} {y : DataW H × List MemPlace} (h : DataW.trod enc Try.prog W 0 (fun _ => true) held fuel 28 cs = some y) (hfit : Fits 28 y.1) :
    ∃ ao len cap ls, cs = [.slice ao len cap] ∧ LR W ao len ls ∧ (∀ x ∈ ls, OkL x) ∧ (ao = none → len = 0) ∧ len ≤ cap ∧ cap ≤ 140737488355328 := by
  rcases open_slice Try.underlying28 h with ⟨hcs, _⟩ | ⟨x, len, c, mm, n, D, Pl, hcs, hb, hl, hm, hmm, hyd, hx⟩
  · exact ⟨none, 0, 0, [], hcs, ⟨rfl, by omega, fun h => by omega⟩, by simp, fun _ => rfl, by omega, by omega⟩
  · simp only [if_true] at hmm
    have hcp : c ≤ 140737488355328 := by
      rw [hyd] at hfit
      have := Fits.cap Try.underlying28 hfit
      rw [bytes26] at this
      omega
    have each : ∀ i, i < len → ∃ q : Lb, OkL q ∧ ∀ j, j < 4 → W.cell? (x.add (i * 4 + j)) = (cellsL q)[j]? := by
      intro i hi
      obtain ⟨cs', h1, h2⟩ := hx i (by omega)
      rw [cells26] at h1
      obtain ⟨_, hlen, hcell⟩ := World.cells?_some h1
      obtain ⟨q, hq, rfl⟩ := trod_lab h2
      refine ⟨q, hq, fun j hj => ?_⟩
      have e0 := hcell j (by omega)
      rw [add_add] at e0
      exact e0
    obtain ⟨q, hq⟩ := choose_lt each
    have hget : ∀ j y, ((List.range len).map q)[j]? = some y → j < len ∧ y = q j := fun j y hj => by
      obtain ⟨h1, h2⟩ := List.getElem?_eq_some_iff.1 hj
      simp at h1 h2
      exact ⟨h1, h2.symm⟩
    refine ⟨some x, len, c, (List.range len).map q, hcs, ⟨by simp, by unfold maxLen at hm; omega, fun h0 => ?_⟩, fun y hy => ?_, (fun e => by cases e), hl, hcp⟩
    · obtain ⟨b, off, spot⟩ := x
      have hs : spot = none := by
        have := (hq 0 h0).2 0 (by omega)
        simpa [Addr.add, cellsL] using World.cell?_spot this
      subst hs
      refine ⟨b, off, rfl, fun j y hj => ?_⟩
      obtain ⟨hjl, rfl⟩ := hget j y hj
      have key : ∀ i, i < 4 → W.cell? ⟨b, off + j * 4 + i, none⟩ = (cellsL (q j))[i]? := fun i hi => by
        have := (hq j hjl).2 i hi
        rw [Addr.add_lit, ← Nat.add_assoc] at this
        exact this
      exact ⟨key 0 (by omega), key 1 (by omega), key 2 (by omega), key 3 (by omega)⟩
    · obtain ⟨j, hj, rfl⟩ := List.mem_map.1 hy
      exact (hq j (by simpa using hj)).1

set_option maxRecDepth 100000 in
theorem trod_ents {H : Type} {enc : TypeId × Value → H} {W : World} {held : Bool} {fuel : Nat} {cs : List Value} {y : DataW H × List MemPlace} (h : DataW.trod enc Try.prog W 0 (fun _ => true) held fuel 22 cs = some y) (hfit : Fits 22 y.1) :
    ∃ ao len cap es, cs = [.slice ao len cap] ∧ ER (fun _ => True) W ao len es ∧ (∀ e ∈ es, OkL e.1) ∧ (ao = none → len = 0) ∧ len ≤ cap ∧ cap ≤ 140737488355328 := by
  rcases open_slice Try.underlying22 h with ⟨hcs, _⟩ | ⟨x, len, c, mm, n, D, Pl, hcs, hb, hl, hm, hmm, hyd, hx⟩
  · exact ⟨none, 0, 0, [], hcs, ER.nil _ _ _, by simp, fun _ => rfl, by omega, by omega⟩
  · simp only [if_true] at hmm
    have hcp : c ≤ 140737488355328 := by
      rw [hyd] at hfit
      have := Fits.cap Try.underlying22 hfit
      rw [bytes29] at this
      omega
    have each : ∀ i, i < len → ∃ q : (Lb × List UInt8) × (Option Addr × Nat × Nat), OkL q.1.1 ∧ Cd.Row W q.2.1 q.2.2.1 q.2.2.2 q.1.2 ∧ ∀ j, j < 5 → W.cell? (x.add (i * 5 + j)) = (cellsL q.1.1 ++ [.slice q.2.1 q.2.2.1 q.2.2.2])[j]? := by
      intro i hi
      obtain ⟨cs', h1, h2⟩ := hx i (by omega)
      rw [cells29] at h1
      obtain ⟨_, hlen, hcell⟩ := World.cells?_some h1
      obtain ⟨q, so, sn, sc, ms, hq, rfl, hr⟩ := trod_ent h2
      refine ⟨((q, ms), so, sn, sc), hq, hr, fun j hj => ?_⟩
      have e0 := hcell j (by omega)
      rw [add_add] at e0
      exact e0
    obtain ⟨q, hq⟩ := choose_lt each
    have hget : ∀ j y, ((List.range len).map fun i => (q i).1)[j]? = some y → j < len ∧ y = (q j).1 := fun j y hj => by
      obtain ⟨h1, h2⟩ := List.getElem?_eq_some_iff.1 hj
      simp at h1 h2
      exact ⟨h1, h2.symm⟩
    refine ⟨some x, len, c, (List.range len).map fun i => (q i).1, hcs, ⟨by simp, by unfold maxLen at hm; omega, fun h0 => ?_⟩, fun y hy => ?_, (fun e => by cases e), hl, hcp⟩
    · obtain ⟨b, off, spot⟩ := x
      have hs : spot = none := by
        have := (hq 0 h0).2.2 0 (by omega)
        simpa [Addr.add, cellsL] using World.cell?_spot this
      subst hs
      refine ⟨b, off, rfl, trivial, fun j y hj => ?_⟩
      obtain ⟨hjl, rfl⟩ := hget j y hj
      have key : ∀ i, i < 5 → W.cell? ⟨b, off + j * 5 + i, none⟩ = (cellsL (q j).1.1 ++ [.slice (q j).2.1 (q j).2.2.1 (q j).2.2.2])[i]? := fun i hi => by
        have := (hq j hjl).2.2 i hi
        rw [Addr.add_lit, ← Nat.add_assoc] at this
        exact this
      exact ⟨_, _, _, key 0 (by omega), key 1 (by omega), key 2 (by omega), key 3 (by omega), key 4 (by omega), (hq j hjl).2.1, fun _ _ _ => trivial⟩
    · obtain ⟨j, hj, rfl⟩ := List.mem_map.1 hy
      exact (hq j (by simpa using hj)).1

/-- A summary that was handed in. -/
structure Smy where
  ao : Option Addr
  n : Nat
  ac : Nat
  es : List (Lb × List UInt8)
  bo : Option Addr
  m : Nat
  bc : Nat
  ls : List Lb
  nx : Int
  hn : Nat
  hp : Int
def Smy.val (y : Smy) : Value := sumv (.slice y.ao y.n y.ac) (.slice y.bo y.m y.bc) y.nx y.hn y.hp
structure SmyOk (W : World) (y : Smy) : Prop where
  er : ER (fun _ => True) W y.ao y.n y.es
  lr : LR W y.bo y.m y.ls
  eok : ∀ e ∈ y.es, OkL e.1
  lok : ∀ x ∈ y.ls, OkL x
  ez : y.ao = none → y.n = 0
  lz : y.bo = none → y.m = 0
  ec : y.n ≤ y.ac
  lc : y.m ≤ y.bc
  em : y.ac ≤ 140737488355328
  lm : y.bc ≤ 140737488355328
  nxi : In y.nx
  hnl : y.hn < 18446744073709551616
  hpi : In y.hp
theorem SmyOk.bl {W W' : World} {y : Smy} (h : SmyOk W y) (u : Below W.heap.size W W') : SmyOk W' y := { h with er := h.er.bl u, lr := h.lr.up u }

set_option maxRecDepth 100000 in
theorem trod_sum {H : Type} {enc : TypeId × Value → H} {W : World} {held : Bool} {fuel : Nat} {cs : List Value} {y : DataW H × List MemPlace} (h : DataW.trod enc Try.prog W 0 (fun _ => true) held fuel 63 cs = some y) (hfit : Fits 63 y.1) :
    ∃ y : Smy, SmyOk W y ∧ cs = [.slice y.ao y.n y.ac, .slice y.bo y.m y.bc, .int .i64 y.nx, .int .u64 (y.hn : Nat), .int .i64 y.hp] := by
  obtain ⟨f0, f1, f2, f3, he, p0, p1, p2, p3, t0, t1, t2, t3⟩ := sum38
  obtain ⟨g0, g1, he', q0, q1, u0, u1⟩ := vid24
  obtain ⟨xs, k, hk, hxy, hcl, hxl, hf⟩ := DataW.trod_struct he h
  rw [cells38] at hcl
  match xs, hxl, cs, hcl with
  | [y0, y1, y2, y3], _, [v0, v1, v2, v3, v4], _ =>
    have a0 := hf 0 f0 rfl
    have a1 := hf 1 f1 rfl
    have a2 := hf 2 f2 rfl
    have a3 := hf 3 f3 rfl
    simp [p0, p1, p2, p3, t0, t1, t2, t3, cells24, cells3, cells35, cells36] at a0 a1 a2 a3
    subst hxy
    have ft0 := Fits.part (f := f0) he hfit (i := 0) rfl rfl
    have ft1 := Fits.part (f := f1) he hfit (i := 1) rfl rfl
    rw [t0] at ft0
    rw [t1] at ft1
    obtain ⟨ao, n, ac, es, e0, her, heo, hez, hec, hem⟩ := trod_ents a0 ft0
    obtain ⟨bo, m, bc, ls, e1, hlr, hlo, hlz, hlc, hlm⟩ := trod_labs a1 ft1
    obtain ⟨nx, e2, _, w2⟩ := DataW.trod_int Try.underlying3 a2
    obtain ⟨ys, k', hk', hyy, _, hyl, hg⟩ := DataW.trod_struct he' a3
    match ys, hyl with
    | [z0, z1], _ =>
      have b0 := hg 0 g0 rfl
      have b1 := hg 1 g1 rfl
      simp [q0, q1, u0, u1, cells22, cells3] at b0 b1
      obtain ⟨n0, c0, _, w0⟩ := DataW.trod_int Try.underlying30 b0
      obtain ⟨n1, c1, _, w1⟩ := DataW.trod_int Try.underlying3 b1
      simp at e0 e1 e2 c0 c1
      subst e0 e1 e2 c0 c1
      obtain ⟨m0, rfl, hm0⟩ := u64_of_wf w0
      exact ⟨⟨ao, n, ac, es, bo, m, bc, ls, nx, m0, n1⟩, ⟨her, hlr, heo, hlo, hez, hlz, hec, hlc, hem, hlm, in_of_wf w2, hm0, in_of_wf w1⟩, rfl⟩
set_option maxRecDepth 100000 in
theorem open_sum {H : Type} {enc : TypeId × Value → H} {W : World} {base : Nat} {v : Value} {d : DataW H} {p : List MemPlace} (hv : Value.okWide Try.prog W .any base 63 v) (h : DataW.Trod enc Try.prog W 0 (fun _ => true) true 63 v d p) (hfit : Fits 63 d) :
    ∃ y : Smy, SmyOk W y ∧ v = y.val := by
  obtain ⟨f0, f1, f2, f3, he, _⟩ := sum38
  obtain ⟨cs, rfl, hs⟩ := okWide_struct he hv
  obtain ⟨fuel, hf⟩ := h
  obtain ⟨y, hy, hc⟩ := trod_sum hf hfit
  refine ⟨y, hy, ?_⟩
  obtain ⟨l⟩ := cs
  have e : l = [.slice y.ao y.n y.ac, .slice y.bo y.m y.bc, .int .i64 y.nx, .int .u64 (y.hn : Nat), .int .i64 y.hp] := by simpa [Value.cells] using hc
  rw [e]
  rfl
end Go.Proofs.Ytooeemhlpmiceaa
