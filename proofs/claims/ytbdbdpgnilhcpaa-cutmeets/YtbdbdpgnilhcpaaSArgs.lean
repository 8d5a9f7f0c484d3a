/-
  States, items, numbers of views as they are handed in.
-/
import Derived.Test.YtbdbdpgnilhcpaaSAwake
import Derived.Test.YtbdbdpgnilhcpaaRows
import Derived.ProofKit
import Derived.OpenShut
import Derived.ShutString
import Derived.ChangeOld
import Derived.Below
import Derived.Deep.Slices
import Derived.ChangeSame
import Derived.SizedLaws
namespace Go.Proofs.Ytbdbdpgnilhcpaa
open Go.ChangeShapes Go.WideShapes Go.ChangeAt Go.RowKit Go.Deep
set_option linter.unusedVariables false

def In (a : Int) : Prop := -9223372036854775808 ≤ a ∧ a ≤ 9223372036854775807
theorem in_of_wf {a : Int} (h : (Lit.int .i64 a).wf = true) : In a := by
  unfold In
  simp [Lit.wf, IntKind.min, IntKind.max, IntKind.bits, IntKind.signed] at h
  omega
theorem u64_of_wf {a : Int} (h : (Lit.int .u64 a).wf = true) : ∃ n : Nat, a = n ∧ n < 18446744073709551616 := by
  simp [Lit.wf, IntKind.min, IntKind.max, IntKind.bits, IntKind.signed] at h
  exact ⟨a.toNat, by omega, by omega⟩
theorem u8_of_wf {a : Int} (h : (Lit.int .u8 a).wf = true) : ∃ n : Nat, a = n ∧ n < 256 := by
  simp [Lit.wf, IntKind.min, IntKind.max, IntKind.bits, IntKind.signed] at h
  exact ⟨a.toNat, by omega, by omega⟩
theorem own : ownKnob Try.prog.godebug = none := by kernel_rfl
theorem laidOut : laidOutB Try.prog = true := by kernel_rfl
theorem cells5 : Try.prog.cellsOf 5 = 1 := by kernel_rfl
theorem cells3 : Try.prog.cellsOf 3 = 1 := by kernel_rfl
theorem cells26 : Try.prog.cellsOf 26 = 1 := by kernel_rfl
theorem cells31 : Try.prog.cellsOf 31 = 4 := by kernel_rfl
theorem cells47 : Try.prog.cellsOf 47 = 2 := by kernel_rfl
theorem cells29 : Try.prog.cellsOf 29 = 1 := by kernel_rfl
theorem cells42 : Try.prog.cellsOf 42 = 1 := by kernel_rfl
theorem bytes5 : Try.prog.bytesOf 5 = 1 := by kernel_rfl
theorem bytes47 : Try.prog.bytesOf 47 = 32 := by kernel_rfl
theorem bytes31 : Try.prog.bytesOf 31 = 48 := by kernel_rfl

theorem all_mem {H : Type} {P : Program} {e : TypeId} : ∀ {l : List (DataW H)} {d : DataW H}, d ∈ l → ∀ n ∈ d.weights P e, n ∈ DataW.weightsAll P e l
  | [], d, h, _, _ => by simp at h
  | a :: r, d, h, n, hn => by
    rw [List.mem_cons] at h
    rw [DataW.weightsAll, List.mem_append]
    rcases h with rfl | h
    · exact .inl hn
    · exact .inr (all_mem h n hn)
/-- No part takes more than the form's reach. -/
def Fits {H : Type} (t : TypeId) (d : DataW H) : Prop := ∀ n ∈ d.weights Try.prog t, n ≤ 140737488351232
theorem Fits.elem {H : Type} {t e : TypeId} {D : Nat → DataW H} {len m : Nat} (ht : Try.prog.underlying t = some (.slice e)) (h : Fits t (.slice ((List.range len).map D) ((List.range (m - len)).map fun j => D (len + j)))) {i : Nat} (hi : i < len) : Fits e (D i) := by
  intro n hn
  refine h n ?_
  simp only [DataW.weights, ht]
  refine List.mem_cons_of_mem _ (List.mem_append_left _ (all_mem ?_ n hn))
  exact List.mem_map.2 ⟨i, List.mem_range.2 hi, rfl⟩
theorem Fits.cap {H : Type} {t e : TypeId} {D : Nat → DataW H} {len m : Nat} (ht : Try.prog.underlying t = some (.slice e)) (h : Fits t (.slice ((List.range len).map D) ((List.range (m - len)).map fun j => D (len + j)))) : (len + (m - len)) * Try.prog.bytesOf e ≤ 140737488351232 := by
  have := h ((len + (m - len)) * Try.prog.bytesOf e) (by simp [DataW.weights, ht])
  exact this
theorem Fits.part {H : Type} {t : TypeId} {fs : Array Field} {xs : List (DataW H × List MemPlace)} (ht : Try.prog.underlying t = some (.struct fs)) (h : Fits t (.agg (xs.map (·.1)))) {i : Nat} {f : Field} {x : DataW H × List MemPlace} (hf : fs[i]? = some f) (hx : xs[i]? = some x) : Fits f.type x.1 := by
  intro n hn
  refine h n ?_
  simp only [DataW.weights, ht]
  refine DataW.weights_mem_each (j := i) (t := f.type) (d := x.1) ?_ ?_ n hn
  · rw [List.getElem?_map, Array.getElem?_toList, hf]; rfl
  · rw [List.getElem?_map, hx]; rfl

/-- Bytes that were handed in. -/
theorem trod_bytes {H : Type} {enc : TypeId × Value → H} {W : World} {held : Bool} {fuel : Nat} {cs : List Value} {y : DataW H × List MemPlace} (h : DataW.trod enc Try.prog W 0 (fun _ => true) held fuel 42 cs = some y) (hf : Fits 42 y.1) :
    ∃ ao n cap xs, cs = [.slice ao n cap] ∧ Rw (fun _ => True) W ao n xs ∧ n ≤ cap ∧ cap ≤ 9223372036854775807 ∧ (ao = none → cap = 0) := by
  rcases open_ints Try.underlying42 Try.underlying5 cells5 h with ⟨hcs, _⟩ | ⟨x, l, c, zs, hcs, _, hl, hm, hz, hx, hcell, hwz⟩
  · exact ⟨none, 0, 0, [], hcs, ⟨rfl, by omega, fun _ => rfl, fun h => by omega⟩, by omega, by omega, fun _ => rfl⟩
  · subst hx
    simp only [if_true] at hz
    have hcap : c ≤ 140737488351232 := by
      have := hf _ (by
        simp only [DataW.weights, Try.underlying42]
        exact List.mem_cons_self)
      rw [bytes5] at this
      simp only [lits, List.length_map, List.length_take, List.length_drop] at this
      omega
    refine ⟨some x, l, c, (zs.take l).map fun z => UInt8.ofNat z.toNat, hcs, ⟨by simp; omega, by omega, fun e => (by cases e), fun h0 => ?_⟩, hl, by unfold maxLen at hm; omega, fun e => (by cases e)⟩
    obtain ⟨b, off, spot⟩ := x
    have hs : spot = none := by
      have := hcell 0 (by omega)
      simpa [Addr.add] using World.cell?_spot this
    subst hs
    refine ⟨b, off, rfl, trivial, fun j u hj => ?_⟩
    obtain ⟨hj1, hj2⟩ := List.getElem?_eq_some_iff.1 hj
    simp at hj1 hj2
    have hjz : j < zs.length := by omega
    have hc := hcell j (by omega)
    rw [Addr.add_lit] at hc
    rw [hc]
    have hg : zs.getD j 0 = zs[j] := by simp [List.getD, List.getElem?_eq_getElem hjz]
    obtain ⟨m, hm1, hm2⟩ := u8_of_wf (hwz zs[j] (List.getElem_mem hjz))
    rw [hg, hm1, ← hj2, hm1, Int.toNat_natCast]
    congr 2
    simp
    omega

theorem item47 : ∃ f0 f1 : Field, Try.prog.underlying 47 = some (.struct #[f0, f1]) ∧ f0.offset = 0 ∧ f1.offset = 1 ∧ f0.type = 3 ∧ f1.type = 42 :=
  ⟨_, _, Try.underlying47, rfl, rfl, rfl, rfl⟩
theorem vid28 : ∃ f0 f1 : Field, Try.prog.underlying 28 = some (.struct #[f0, f1]) ∧ f0.offset = 0 ∧ f1.offset = 1 ∧ f0.type = 26 ∧ f1.type = 3 :=
  ⟨_, _, Try.underlying28, rfl, rfl, rfl, rfl⟩
theorem stat31 : ∃ f0 f1 f2 : Field, Try.prog.underlying 31 = some (.struct #[f0, f1, f2]) ∧ f0.offset = 0 ∧ f1.offset = 2 ∧ f2.offset = 3 ∧ f0.type = 28 ∧ f1.type = 3 ∧ f2.type = 29 :=
  ⟨_, _, _, Try.underlying31, rfl, rfl, rfl, rfl, rfl, rfl⟩

/-- An item that was handed in. -/
theorem trod_item {H : Type} {enc : TypeId × Value → H} {W : World} {held : Bool} {fuel : Nat} {cs : List Value} {y : DataW H × List MemPlace} (h : DataW.trod enc Try.prog W 0 (fun _ => true) held fuel 47 cs = some y) (hf : Fits 47 y.1) :
    ∃ (x : Ix) (d : Di), cs = [.int .i64 x.1, .slice x.2.1 x.2.2.1 x.2.2.2] ∧ It (fun _ => True) W x d := by
  obtain ⟨f0, f1, he, p0, p1, t0, t1⟩ := item47
  obtain ⟨xs, k, hk, hxy, hcl, hxl, hg⟩ := DataW.trod_struct he h
  rw [cells47] at hcl
  subst hxy
  match xs, hxl, cs, hcl with
  | [y0, y1], _, [v0, v1], _ =>
    have a0 := hg 0 f0 rfl
    have a1 := hg 1 f1 rfl
    have b1 := hf.part he (i := 1) (f := f1) (x := y1) rfl rfl
    rw [t1] at b1
    simp [p0, p1, t0, t1, cells3, cells42] at a0 a1
    obtain ⟨n0, c0, _, w0⟩ := DataW.trod_int Try.underlying3 a0
    obtain ⟨ao, n, cap, ys, hcs, hrw, _⟩ := trod_bytes a1 b1
    simp at c0 hcs
    subst c0 hcs
    exact ⟨(n0, ao, n, cap), (n0, ys), rfl, rfl, hrw⟩

/-- Items that were handed in. -/
theorem trod_items {H : Type} {enc : TypeId × Value → H} {W : World} {held : Bool} {fuel : Nat} {cs : List Value} {y : DataW H × List MemPlace} (h : DataW.trod enc Try.prog W 0 (fun _ => true) held fuel 29 cs = some y) (hf : Fits 29 y.1) :
    ∃ ao n cap ds, cs = [.slice ao n cap] ∧ Its (fun _ => True) W ao n ds ∧ n ≤ cap ∧ cap ≤ 9223372036854775807 ∧ (ao = none → cap = 0) := by
  rcases open_slice Try.underlying29 h with ⟨hcs, _⟩ | ⟨x, l, c, mm, n, D, Pl, hcs, hb, hl, hm, hmm, hy, hx⟩
  · exact ⟨none, 0, 0, [], hcs, Its.nil _ _, by omega, by omega, fun _ => rfl⟩
  · subst hy
    simp only [if_true] at hmm
    have hcap := hf.cap Try.underlying29
    rw [bytes47] at hcap
    have each : ∀ i, i < l → ∃ q : Ix × Di, It (fun _ => True) W q.1 q.2 ∧ W.cell? (x.add (i * 2)) = some (.int .i64 q.1.1) ∧ W.cell? (x.add (i * 2 + 1)) = some (.slice q.1.2.1 q.1.2.2.1 q.1.2.2.2) := by
      intro i hi
      obtain ⟨cs', h1, h2⟩ := hx i (by omega)
      rw [cells47] at h1
      obtain ⟨_, hlen, hcell⟩ := World.cells?_some h1
      obtain ⟨q, d, rfl, hit⟩ := trod_item h2 (hf.elem Try.underlying29 hi)
      refine ⟨(q, d), hit, ?_, ?_⟩
      · have e0 := hcell 0 (by omega)
        rw [add_add] at e0
        exact e0
      · have e0 := hcell 1 (by omega)
        rw [add_add] at e0
        exact e0
    obtain ⟨q, hq⟩ := choose_lt each
    have hget : ∀ {α : Type} (f : Nat → α) j y, ((List.range l).map f)[j]? = some y → j < l ∧ y = f j := fun f j y hj => by
      obtain ⟨h1, h2⟩ := List.getElem?_eq_some_iff.1 hj
      simp at h1 h2
      exact ⟨h1, h2.symm⟩
    refine ⟨some x, l, c, (List.range l).map fun i => (q i).2, hcs, ⟨(List.range l).map fun i => (q i).1, ⟨by simp, by omega, fun e => (by cases e), fun h0 => ?_⟩, by simp, fun j u d hu hd => ?_⟩, hl, by unfold maxLen at hm; omega, fun e => (by cases e)⟩
    · obtain ⟨b, off, spot⟩ := x
      have hs : spot = none := by
        have := (hq 0 h0).2.1
        simpa [Addr.add] using World.cell?_spot this
      subst hs
      refine ⟨b, off, rfl, trivial, fun j u hj => ?_⟩
      obtain ⟨hjl, rfl⟩ := hget _ j u hj
      have := (hq j hjl).2
      rw [Addr.add_lit, Addr.add_lit, ← Nat.add_assoc] at this
      exact this
    · obtain ⟨hjl, rfl⟩ := hget _ j u hu
      obtain ⟨_, rfl⟩ := hget _ j d hd
      exact (hq j hjl).1

/-- A state as it was handed in: what is in it fits. -/
def Good (x : Sx) : Prop := x.1 < 18446744073709551616 ∧ In x.2.1 ∧ In x.2.2.1 ∧ x.2.2.2.2.1 ≤ x.2.2.2.2.2 ∧ x.2.2.2.2.2 ≤ 9223372036854775807
theorem trod_state {H : Type} {enc : TypeId × Value → H} {W : World} {held : Bool} {fuel : Nat} {cs : List Value} {y : DataW H × List MemPlace} (h : DataW.trod enc Try.prog W 0 (fun _ => true) held fuel 31 cs = some y) (hf : Fits 31 y.1) :
    ∃ (x : Sx) (e : List Di), cs = cellsS x ∧ Good x ∧ Its (fun _ => True) W x.2.2.2.1 x.2.2.2.2.1 e := by
  obtain ⟨f0, f1, f2, he, p0, p1, p2, t0, t1, t2⟩ := stat31
  obtain ⟨g0, g1, he', q0, q1, u0, u1⟩ := vid28
  obtain ⟨xs, k, hk, hxy, hcl, hxl, hg⟩ := DataW.trod_struct he h
  rw [cells31] at hcl
  subst hxy
  match xs, hxl, cs, hcl with
  | [y0, y1, y2], _, [v0, v1, v2, v3], _ =>
    have a0 := hg 0 f0 rfl
    have a1 := hg 1 f1 rfl
    have a2 := hg 2 f2 rfl
    have b2 := hf.part he (i := 2) (f := f2) (x := y2) rfl rfl
    rw [t2] at b2
    simp [p0, p1, p2, t0, t1, t2, cells28, cells3, cells29] at a0 a1 a2
    obtain ⟨ys, k', hk', hyy, _, hyl, hg'⟩ := DataW.trod_struct he' a0
    match ys, hyl with
    | [z0, z1], _ =>
      have c0 := hg' 0 g0 rfl
      have c1 := hg' 1 g1 rfl
      simp [q0, q1, u0, u1, cells26, cells3] at c0 c1
      obtain ⟨n0, e0, _, w0⟩ := DataW.trod_int Try.underlying26 c0
      obtain ⟨n1, e1, _, w1⟩ := DataW.trod_int Try.underlying3 c1
      obtain ⟨n2, e2, _, w2⟩ := DataW.trod_int Try.underlying3 a1
      obtain ⟨ao, n, cap, ds, hcs, hits, hnc, hcm, _⟩ := trod_items a2 b2
      simp at e0 e1 e2 hcs
      subst e0 e1 e2 hcs
      obtain ⟨m0, rfl, hm0⟩ := u64_of_wf w0
      exact ⟨(m0, n1, n2, ao, n, cap), ds, rfl, ⟨hm0, in_of_wf w1, in_of_wf w2, hnc, hcm⟩, hits⟩

/-- States that were handed in. -/
theorem open_states {H : Type} {enc : TypeId × Value → H} {W : World} {a : Option Addr} {len cap : Nat} {d : DataW H} {p : List MemPlace} {ts : List TypeId} {ds : List (DataW H)} {j : Nat}
    (h : DataW.Trod enc Try.prog W 0 (fun _ => true) true 22 (.slice a len cap) d p) (hsz : (DataW.weightsEach Try.prog ts ds).all (· ≤ reachBytes) = true) (ht : ts[j]? = some 22) (hd : ds[j]? = some d) :
    ∃ ss es, Sts (fun _ => True) W a len ss es ∧ (∀ x ∈ ss, Good x) ∧ (a = none → len = 0 ∧ cap = 0) ∧ len ≤ cap ∧ cap ≤ 9223372036854775807 := by
  have hF : Fits 22 d := fun n hn => by
    have := List.all_eq_true.1 hsz n (DataW.weights_mem_each ht hd n hn)
    exact of_decide_eq_true this
  obtain ⟨fuel, hf⟩ := h
  rcases open_slice Try.underlying22 hf with ⟨hcs, _⟩ | ⟨x, l, c, mm, n, D, Pl, hcs, hb, hl, hm, hmm, hy, hx⟩
  · simp [Value.cells] at hcs
    obtain ⟨rfl, rfl, rfl⟩ := hcs
    exact ⟨[], [], ⟨⟨rfl, by omega, fun _ => rfl, fun h => by omega⟩, rfl, fun j x e hx => by simp at hx⟩, by simp, fun _ => ⟨rfl, rfl⟩, by omega, by omega⟩
  · simp [Value.cells] at hcs
    obtain ⟨rfl, rfl, rfl⟩ := hcs
    simp only [Prod.mk.injEq] at hy
    obtain ⟨rfl, _⟩ := hy
    simp only [if_true] at hmm
    have each : ∀ i, i < len → ∃ q : Sx × List Di, Good q.1 ∧ Its (fun _ => True) W q.1.2.2.2.1 q.1.2.2.2.2.1 q.2 ∧ ∀ j, j < 4 → W.cell? (x.add (i * 4 + j)) = (cellsS q.1)[j]? := by
      intro i hi
      obtain ⟨cs', h1, h2⟩ := hx i (by omega)
      rw [cells31] at h1
      obtain ⟨_, hlen, hcell⟩ := World.cells?_some h1
      obtain ⟨q, e, rfl, hgd, hits⟩ := trod_state h2 (hF.elem Try.underlying22 hi)
      refine ⟨(q, e), hgd, hits, fun j hj => ?_⟩
      have e0 := hcell j (by omega)
      rw [add_add] at e0
      exact e0
    obtain ⟨q, hq⟩ := choose_lt each
    have hget : ∀ {α : Type} (f : Nat → α) j y, ((List.range len).map f)[j]? = some y → j < len ∧ y = f j := fun f j y hj => by
      obtain ⟨h1, h2⟩ := List.getElem?_eq_some_iff.1 hj
      simp at h1 h2
      exact ⟨h1, h2.symm⟩
    refine ⟨(List.range len).map fun i => (q i).1, (List.range len).map fun i => (q i).2, ⟨⟨by simp, by unfold maxLen at hm; omega, fun e => (by cases e), fun h0 => ?_⟩, by simp, fun j u e hu he => ?_⟩, fun y hy => ?_, (fun e => by cases e), hl, by unfold maxLen at hm; omega⟩
    · obtain ⟨b, off, spot⟩ := x
      have hs : spot = none := by
        have := (hq 0 h0).2.2 0 (by omega)
        simpa [Addr.add, cellsS] using World.cell?_spot this
      subst hs
      refine ⟨b, off, rfl, trivial, fun j u hj => ?_⟩
      obtain ⟨hjl, rfl⟩ := hget _ j u hj
      have key : ∀ i, i < 4 → W.cell? ⟨b, off + j * 4 + i, none⟩ = (cellsS (q j).1)[i]? := fun i hi => by
        have := (hq j hjl).2.2 i hi
        rw [Addr.add_lit, ← Nat.add_assoc] at this
        exact this
      exact ⟨key 0 (by omega), key 1 (by omega), key 2 (by omega), key 3 (by omega)⟩
    · obtain ⟨hjl, rfl⟩ := hget _ j u hu
      obtain ⟨_, rfl⟩ := hget _ j e he
      exact (hq j hjl).2.1
    · obtain ⟨j, hj, rfl⟩ := List.mem_map.1 hy
      exact (hq j (by simpa using hj)).1
end Go.Proofs.Ytbdbdpgnilhcpaa
