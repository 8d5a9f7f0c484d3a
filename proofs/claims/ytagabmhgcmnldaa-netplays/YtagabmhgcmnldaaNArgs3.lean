/-
  How lists of bytes, and lists of calls, are opened that were handed in.
-/
import Derived.Test.YtagabmhgcmnldaaNArgs2
import Derived.Deep.Slices
import Derived.ChangeSame
namespace Go.Proofs.Ytagabmhgcmnldaa
open Go.ChangeShapes Go.WideShapes Go.ChangeAt Go.RowKit
open Go.Deep
set_option linter.unusedVariables false

theorem cells35 : Try.prog.cellsOf 35 = 1 := by kernel_rfl
theorem cells37 : Try.prog.cellsOf 37 = 4 := by kernel_rfl
theorem cells3 : Try.prog.cellsOf 3 = 1 := by kernel_rfl
theorem get_range {α : Type} {l : Nat} (f : Nat → α) {j : Nat} {y : α} (hj : ((List.range l).map f)[j]? = some y) : j < l ∧ y = f j := by
  obtain ⟨h1, h2⟩ := List.getElem?_eq_some_iff.1 hj
  simp at h1 h2
  exact ⟨h1, h2.symm⟩
theorem all_mem {H : Type} {P : Program} {e : TypeId} : ∀ {l : List (DataW H)} {d : DataW H}, d ∈ l → ∀ n ∈ d.weights P e, n ∈ DataW.weightsAll P e l
  | [], d, h, _, _ => by simp at h
  | a :: r, d, h, n, hn => by
    rw [List.mem_cons] at h
    rw [DataW.weightsAll, List.mem_append]
    rcases h with rfl | h
    · exact .inl hn
    · exact .inr (all_mem h n hn)
/-- No part takes more than the form's reach. -/
def Fits {H : Type} (t : TypeId) (d : DataW H) : Prop := ∀ n ∈ d.weights Try.prog t, n ≤ 140737488351232
theorem Fits.elem {H : Type} {t e : TypeId} {D : Nat → DataW H} {len m : Nat} (ht : Try.prog.underlying t = some (.slice e)) (h : Fits t (.slice ((List.range len).map D) ((List.range (m - len)).map fun j => D (len + j)))) {i : Nat} (hi : i < len) : Fits e (D i) := by
  intro n hn
  refine h n ?_
  simp only [DataW.weights, ht]
  refine List.mem_cons_of_mem _ (List.mem_append_left _ (all_mem ?_ n hn))
  exact List.mem_map.2 ⟨i, List.mem_range.2 hi, rfl⟩
theorem Fits.cap {H : Type} {t e : TypeId} {D : Nat → DataW H} {len m : Nat} (ht : Try.prog.underlying t = some (.slice e)) (h : Fits t (.slice ((List.range len).map D) ((List.range (m - len)).map fun j => D (len + j)))) : (len + (m - len)) * Try.prog.bytesOf e ≤ 140737488351232 := by
  have := h ((len + (m - len)) * Try.prog.bytesOf e) (by simp [DataW.weights, ht])
  exact this
theorem Fits.part {H : Type} {t : TypeId} {fs : Array Field} {xs : List (DataW H × List MemPlace)} (ht : Try.prog.underlying t = some (.struct fs)) (h : Fits t (.agg (xs.map (·.1)))) {i : Nat} {f : Field} {x : DataW H × List MemPlace} (hf : fs[i]? = some f) (hx : xs[i]? = some x) : Fits f.type x.1 := by
  intro n hn
  refine h n ?_
  simp only [DataW.weights, ht]
  refine DataW.weights_mem_each (j := i) (t := f.type) (d := x.1) ?_ ?_ n hn
  · rw [List.getElem?_map, Array.getElem?_toList, hf]; rfl
  · rw [List.getElem?_map, hx]; rfl


/-- Bytes that were handed in. -/
theorem trod_bytes {H : Type} {enc : TypeId × Value → H} {W : World} {held : Bool} {fuel : Nat} {cs : List Value} {y : DataW H × List MemPlace} (h : DataW.trod enc Try.prog W 0 (fun _ => true) held fuel 35 cs = some y) (hf : Fits 35 y.1) :
    ∃ ao n cap xs, cs = [.slice ao n cap] ∧ Row W ao n cap xs ∧ cap ≤ 140737488351232 := by
  rcases open_ints Try.underlying35 Try.underlying5 cells5 h with ⟨hcs, _⟩ | ⟨x, l, c, zs, hcs, _, hl, hm, hz, hx, hcell, hwz⟩
  · exact ⟨none, 0, 0, [], hcs, row_nil W, by omega⟩
  · subst hx
    simp only [if_true] at hz
    have hcap : c ≤ 140737488351232 := by
      have := hf _ (by
        simp only [DataW.weights, Try.underlying35]
        exact List.mem_cons_self)
      rw [bytes5] at this
      simp only [lits, List.length_map, List.length_take, List.length_drop] at this
      omega
    refine ⟨some x, l, c, (zs.take l).map fun z => UInt8.ofNat z.toNat, hcs, ⟨by simp; omega, hl, hm, fun e => (by cases e), fun b hb i hi => ?_⟩, hcap⟩
    cases hb
    rw [hcell i (by omega)]
    have hi2 : i < zs.length := by omega
    obtain ⟨q, e1, e2⟩ := u8_of_wf (hwz (zs.getD i 0) (by simp [List.getD, List.getElem?_eq_getElem hi2]))
    have e : (((zs.take l).map fun z => UInt8.ofNat z.toNat).getD i 0) = UInt8.ofNat (zs.getD i 0).toNat := by
      simp [List.getD, hi, List.getElem?_eq_getElem hi2]
    rw [e, ofNat_toNat _ (by rw [e1]; simpa using e2), e1]
    simp

/-- A list of bytes' lists. -/
structure Msgs (W : World) (a : Option Addr) (len : Nat) (hd : Nat → Option Addr × Nat × Nat) (ms : Nat → List UInt8) : Prop where
  max : len ≤ 9223372036854775807
  cell : 0 < len → ∃ b off, a = some ⟨b, off, none⟩ ∧ ∀ j, j < len → W.cell? ⟨b, off + j, none⟩ = some (.slice (hd j).1 (hd j).2.1 (hd j).2.2)
  row : ∀ j, j < len → Row W (hd j).1 (hd j).2.1 (hd j).2.2 (ms j) ∧ (hd j).2.2 ≤ 140737488351232
theorem open_msgs {H : Type} {enc : TypeId × Value → H} {W : World} {a : Option Addr} {len cap : Nat} {d : DataW H} {p : List MemPlace} {ts : List TypeId} {ds : List (DataW H)} {j : Nat}
    (h : DataW.Trod enc Try.prog W 0 (fun _ => true) true 56 (.slice a len cap) d p) (hsz : (DataW.weightsEach Try.prog ts ds).all (· ≤ reachBytes) = true) (ht : ts[j]? = some 56) (hd : ds[j]? = some d) :
    ∃ q : (Nat → Option Addr × Nat × Nat) × (Nat → List UInt8), Msgs W a len q.1 q.2 := by
  have hF : Fits 56 d := fun n hn => by
    have := List.all_eq_true.1 hsz n (DataW.weights_mem_each ht hd n hn)
    exact of_decide_eq_true this
  obtain ⟨fuel, hf⟩ := h
  rcases open_slice Try.underlying56 hf with ⟨hcs, _⟩ | ⟨x, l, c, mm, n, D, Pl, hcs, hb, hl, hm, hmm, hy, hx⟩
  · simp [Value.cells] at hcs
    obtain ⟨rfl, rfl, rfl⟩ := hcs
    exact ⟨(fun _ => (none, 0, 0), fun _ => []), ⟨by omega, fun h => by omega, fun j hj => by omega⟩⟩
  · simp [Value.cells] at hcs
    obtain ⟨rfl, rfl, rfl⟩ := hcs
    simp only [Prod.mk.injEq] at hy
    obtain ⟨rfl, _⟩ := hy
    simp only [if_true] at hmm
    have each : ∀ i, i < len → ∃ q : (Option Addr × Nat × Nat) × List UInt8, (Row W q.1.1 q.1.2.1 q.1.2.2 q.2 ∧ q.1.2.2 ≤ 140737488351232) ∧ W.cell? (x.add (i * 1)) = some (.slice q.1.1 q.1.2.1 q.1.2.2) := by
      intro i hi
      obtain ⟨cs', h1, h2⟩ := hx i (by omega)
      rw [cells35] at h1
      obtain ⟨_, hlen, hcell⟩ := World.cells?_some h1
      obtain ⟨ao, n', cap', xs, rfl, hrx, hbl⟩ := trod_bytes h2 (hF.elem Try.underlying56 hi)
      refine ⟨((ao, n', cap'), xs), ⟨hrx, hbl⟩, ?_⟩
      have e0 := hcell 0 (by omega)
      rw [add_add] at e0
      exact e0
    obtain ⟨q, hq⟩ := choose_lt each
    refine ⟨(fun i => (q i).1, fun i => (q i).2), ⟨by unfold maxLen at hm; omega, fun h0 => ?_, fun j hj => (hq j hj).1⟩⟩
    obtain ⟨b, off, spot⟩ := x
    have hs : spot = none := by
      have := (hq 0 h0).2
      simpa [Addr.add] using World.cell?_spot this
    subst hs
    refine ⟨b, off, rfl, fun j hj => ?_⟩
    have := (hq j hj).2
    rw [Addr.add_lit, Nat.mul_one] at this
    exact this

theorem act37 : ∃ f0 f1 f2 f3 : Field, Try.prog.underlying 37 = some (.struct #[f0, f1, f2, f3]) ∧ f0.offset = 0 ∧ f1.offset = 1 ∧ f2.offset = 2 ∧ f3.offset = 3 ∧ f0.type = 5 ∧ f1.type = 3 ∧ f2.type = 3 ∧ f3.type = 35 :=
  ⟨_, _, _, _, Try.underlying37, rfl, rfl, rfl, rfl, rfl, rfl, rfl, rfl⟩
/-- A call. -/
structure Ac where
  kind : Nat
  i : Int
  k : Int
  ao : Option Addr
  n : Nat
  cap : Nat
  xs : List UInt8
instance : Inhabited Ac := ⟨⟨0, 0, 0, none, 0, 0, []⟩⟩
structure AcOk (W : World) (x : Ac) : Prop where
  kind : x.kind < 256
  i : In x.i
  k : In x.k
  row : Row W x.ao x.n x.cap x.xs
  cap : x.cap ≤ 140737488351232
theorem trod_act {H : Type} {enc : TypeId × Value → H} {W : World} {held : Bool} {fuel : Nat} {cs : List Value} {y : DataW H × List MemPlace} (h : DataW.trod enc Try.prog W 0 (fun _ => true) held fuel 37 cs = some y) (hf : Fits 37 y.1) :
    ∃ x : Ac, cs = [.int .u8 (x.kind : Nat), .int .i64 x.i, .int .i64 x.k, .slice x.ao x.n x.cap] ∧ AcOk W x := by
  obtain ⟨f0, f1, f2, f3, he, p0, p1, p2, p3, t0, t1, t2, t3⟩ := act37
  obtain ⟨xs, k, hk, hxy, hcl, hxl, hg⟩ := DataW.trod_struct he h
  rw [cells37] at hcl
  subst hxy
  match xs, hxl, cs, hcl with
  | [y0, y1, y2, y3], _, [v0, v1, v2, v3], _ =>
    have a0 := hg 0 f0 rfl
    have a1 := hg 1 f1 rfl
    have a2 := hg 2 f2 rfl
    have a3 := hg 3 f3 rfl
    have b3 := hf.part he (i := 3) (f := f3) (x := y3) rfl rfl
    rw [t3] at b3
    simp [p0, p1, p2, p3, t0, t1, t2, t3, cells5, cells3, cells35] at a0 a1 a2 a3
    obtain ⟨n0, c0, _, w0⟩ := DataW.trod_int Try.underlying5 a0
    obtain ⟨n1, c1, _, w1⟩ := DataW.trod_int Try.underlying3 a1
    obtain ⟨n2, c2, _, w2⟩ := DataW.trod_int Try.underlying3 a2
    obtain ⟨ao, n, cap, ys, hcs, hrw, hcp⟩ := trod_bytes a3 b3
    simp at c0 c1 c2 hcs
    obtain ⟨m, hm1, hm2⟩ := u8_of_wf w0
    subst c0 c1 c2 hcs hm1
    exact ⟨⟨m, n1, n2, ao, n, cap, ys⟩, rfl, ⟨hm2, in_of_wf w1, in_of_wf w2, hrw, hcp⟩⟩
/-- A list of calls. -/
structure NActs (W : World) (a : Option Addr) (len : Nat) (xs : Nat → Ac) : Prop where
  max : len ≤ 9223372036854775807
  ok : ∀ j, j < len → AcOk W (xs j)
  cell : 0 < len → ∃ b off, a = some ⟨b, off, none⟩ ∧ ∀ j, j < len → W.cell? ⟨b, off + j * 4, none⟩ = some (.int .u8 ((xs j).kind : Nat)) ∧ W.cell? ⟨b, off + j * 4 + 1, none⟩ = some (.int .i64 (xs j).i) ∧ W.cell? ⟨b, off + j * 4 + 2, none⟩ = some (.int .i64 (xs j).k) ∧ W.cell? ⟨b, off + j * 4 + 3, none⟩ = some (.slice (xs j).ao (xs j).n (xs j).cap)
theorem open_nacts {H : Type} {enc : TypeId × Value → H} {W : World} {a : Option Addr} {len cap : Nat} {d : DataW H} {p : List MemPlace} {ts : List TypeId} {ds : List (DataW H)} {j : Nat}
    (h : DataW.Trod enc Try.prog W 0 (fun _ => true) true 22 (.slice a len cap) d p) (hsz : (DataW.weightsEach Try.prog ts ds).all (· ≤ reachBytes) = true) (ht : ts[j]? = some 22) (hd : ds[j]? = some d) :
    ∃ xs, NActs W a len xs := by
  have hF : Fits 22 d := fun n hn => by
    have := List.all_eq_true.1 hsz n (DataW.weights_mem_each ht hd n hn)
    exact of_decide_eq_true this
  obtain ⟨fuel, hf⟩ := h
  rcases open_slice Try.underlying22 hf with ⟨hcs, _⟩ | ⟨x, l, c, mm, n, D, Pl, hcs, hb, hl, hm, hmm, hy, hx⟩
  · simp [Value.cells] at hcs
    obtain ⟨rfl, rfl, rfl⟩ := hcs
    exact ⟨fun _ => ⟨0, 0, 0, none, 0, 0, []⟩, ⟨by omega, fun j hj => by omega, fun h => by omega⟩⟩
  · simp [Value.cells] at hcs
    obtain ⟨rfl, rfl, rfl⟩ := hcs
    simp only [Prod.mk.injEq] at hy
    obtain ⟨rfl, _⟩ := hy
    simp only [if_true] at hmm
    have each : ∀ i, i < len → ∃ q : Ac, AcOk W q ∧ W.cell? (x.add (i * 4)) = some (.int .u8 (q.kind : Nat)) ∧ W.cell? (x.add (i * 4 + 1)) = some (.int .i64 q.i) ∧ W.cell? (x.add (i * 4 + 2)) = some (.int .i64 q.k) ∧ W.cell? (x.add (i * 4 + 3)) = some (.slice q.ao q.n q.cap) := by
      intro i hi
      obtain ⟨cs', h1, h2⟩ := hx i (by omega)
      rw [cells37] at h1
      obtain ⟨_, hlen, hcell⟩ := World.cells?_some h1
      obtain ⟨q, rfl, hok⟩ := trod_act h2 (hF.elem Try.underlying22 hi)
      have e0 := hcell 0 (by omega)
      have e1 := hcell 1 (by omega)
      have e2 := hcell 2 (by omega)
      have e3 := hcell 3 (by omega)
      rw [add_add] at e0 e1 e2 e3
      exact ⟨q, hok, e0, e1, e2, e3⟩
    obtain ⟨q, hq⟩ := choose_lt each
    refine ⟨q, ⟨by unfold maxLen at hm; omega, fun j hj => (hq j hj).1, fun h0 => ?_⟩⟩
    obtain ⟨b, off, spot⟩ := x
    have hs : spot = none := by
      have := (hq 0 h0).2.1
      simpa [Addr.add] using World.cell?_spot this
    subst hs
    refine ⟨b, off, rfl, fun j hj => ?_⟩
    have := (hq j hj).2
    rw [Addr.add_lit, Addr.add_lit, Addr.add_lit, Addr.add_lit, ← Nat.add_assoc, ← Nat.add_assoc, ← Nat.add_assoc] at this
    exact this
end Go.Proofs.Ytagabmhgcmnldaa
