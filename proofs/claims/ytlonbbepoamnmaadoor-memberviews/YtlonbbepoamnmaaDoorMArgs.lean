/-
  A frame as it is handed in: numbers of views, items, states, messages.
-/
import Derived.Test.YtlonbbepoamnmaaDoorMLaid
import Derived.Test.YtlonbbepoamnmaaDoorMBase
import Derived.Test.YtlonbbepoamnmaaDoorRows
import Derived.ProofKit
import Derived.OpenShut
import Derived.ShutString
import Derived.ChangeOld
import Derived.Below
import Derived.Deep.Slices
import Derived.ChangeSame
import Derived.SizedLaws
import Derived.Lib.SmallJoins
namespace Go.Proofs.YtlonbbepoamnmaaDoor
open Go.ChangeShapes Go.WideShapes Go.ChangeAt Go.RowKit Go.Deep
set_option linter.unusedVariables false
set_option linter.unusedSimpArgs false

def In (a : Int) : Prop := -9223372036854775808 ≤ a ∧ a ≤ 9223372036854775807
theorem in_of_wf {a : Int} (h : (Lit.int .i64 a).wf = true) : In a := by
  unfold In
  simp [Lit.wf, IntKind.min, IntKind.max, IntKind.bits, IntKind.signed] at h
  omega
theorem u64_of_wf {a : Int} (h : (Lit.int .u64 a).wf = true) : ∃ n : Nat, a = n ∧ n < 18446744073709551616 := by
  simp [Lit.wf, IntKind.min, IntKind.max, IntKind.bits, IntKind.signed] at h
  exact ⟨a.toNat, by omega, by omega⟩
theorem laidOut : laidOutB Tryd.prog = true := by kernel_rfl
theorem cells3 : Tryd.prog.cellsOf 3 = 1 := by kernel_rfl
theorem cells29 : Tryd.prog.cellsOf 29 = 1 := by kernel_rfl
theorem cells31 : Tryd.prog.cellsOf 31 = 2 := by kernel_rfl
theorem cells32 : Tryd.prog.cellsOf 32 = 1 := by kernel_rfl
theorem cells36 : Tryd.prog.cellsOf 36 = 1 := by kernel_rfl
theorem cells40 : Tryd.prog.cellsOf 40 = 1 := by kernel_rfl
theorem cells41 : Tryd.prog.cellsOf 41 = 1 := by kernel_rfl
theorem cells43 : Tryd.prog.cellsOf 43 = 15 := by kernel_rfl
theorem cells45 : Tryd.prog.cellsOf 45 = 4 := by kernel_rfl
theorem cells96 : Tryd.prog.cellsOf 96 = 1 := by kernel_rfl
theorem cells98 : Tryd.prog.cellsOf 98 = 2 := by kernel_rfl
theorem bytes5 : Tryd.prog.bytesOf 5 = 1 := by kernel_rfl
theorem bytes98 : Tryd.prog.bytesOf 98 = 32 := by kernel_rfl
theorem bytes45 : Tryd.prog.bytesOf 45 = 48 := by kernel_rfl
theorem bytes96 : Tryd.prog.bytesOf 96 = 24 := by kernel_rfl

theorem all_mem {H : Type} {P : Program} {e : TypeId} : ∀ {l : List (DataW H)} {d : DataW H}, d ∈ l → ∀ n ∈ d.weights P e, n ∈ DataW.weightsAll P e l
  | [], d, h, _, _ => by simp at h
  | a :: r, d, h, n, hn => by
    rw [List.mem_cons] at h
    rw [DataW.weightsAll, List.mem_append]
    rcases h with rfl | h
    · exact .inl hn
    · exact .inr (all_mem h n hn)
/-- No part takes more than the form's reach. -/
def Fits {H : Type} (t : TypeId) (d : DataW H) : Prop := ∀ n ∈ d.weights Tryd.prog t, n ≤ 140737488351232
theorem Fits.elem {H : Type} {t e : TypeId} {D : Nat → DataW H} {len m : Nat} (ht : Tryd.prog.underlying t = some (.slice e)) (h : Fits t (.slice ((List.range len).map D) ((List.range (m - len)).map fun j => D (len + j)))) {i : Nat} (hi : i < len) : Fits e (D i) := by
  intro n hn
  refine h n ?_
  simp only [DataW.weights, ht]
  refine List.mem_cons_of_mem _ (List.mem_append_left _ (all_mem ?_ n hn))
  exact List.mem_map.2 ⟨i, List.mem_range.2 hi, rfl⟩
theorem Fits.cap {H : Type} {t e : TypeId} {D : Nat → DataW H} {len m : Nat} (ht : Tryd.prog.underlying t = some (.slice e)) (h : Fits t (.slice ((List.range len).map D) ((List.range (m - len)).map fun j => D (len + j)))) : (len + (m - len)) * Tryd.prog.bytesOf e ≤ 140737488351232 := by
  have := h ((len + (m - len)) * Tryd.prog.bytesOf e) (by simp [DataW.weights, ht])
  exact this
theorem Fits.part {H : Type} {t : TypeId} {fs : Array Field} {xs : List (DataW H × List MemPlace)} (ht : Tryd.prog.underlying t = some (.struct fs)) (h : Fits t (.agg (xs.map (·.1)))) {i : Nat} {f : Field} {x : DataW H × List MemPlace} (hf : fs[i]? = some f) (hx : xs[i]? = some x) : Fits f.type x.1 := by
  intro n hn
  refine h n ?_
  simp only [DataW.weights, ht]
  refine DataW.weights_mem_each (j := i) (t := f.type) (d := x.1) ?_ ?_ n hn
  · rw [List.getElem?_map, Array.getElem?_toList, hf]; rfl
  · rw [List.getElem?_map, hx]; rfl

set_option maxRecDepth 10000 in
/-- Bytes that were handed in. -/
theorem trod_bytes {H : Type} {enc : TypeId × Value → H} {W : World} {held : Bool} {fuel : Nat} {cs : List Value} {y : DataW H × List MemPlace} (h : DataW.trod enc Tryd.prog W 0 (fun _ => true) held fuel 96 cs = some y) (hf : Fits 96 y.1) :
    ∃ ao n cap xs, cs = [.slice ao n cap] ∧ Rw (fun _ => True) W ao n xs ∧ n ≤ cap ∧ cap ≤ 9223372036854775807 ∧ (ao = none → cap = 0) := by
  rcases open_ints Tryd.underlying96 Tryd.underlying5 cells5 h with ⟨hcs, _⟩ | ⟨x, l, c, zs, hcs, _, hl, hm, hz, hx, hcell, hwz⟩
  · exact ⟨none, 0, 0, [], hcs, ⟨rfl, by omega, fun _ => rfl, fun h => by omega⟩, by omega, by omega, fun _ => rfl⟩
  · subst hx
    simp only [if_true] at hz
    have hcap : c ≤ 140737488351232 := by
      have := hf _ (by
        simp only [DataW.weights, Tryd.underlying96]
        exact List.mem_cons_self)
      rw [bytes5] at this
      simp only [lits, List.length_map, List.length_take, List.length_drop] at this
      omega
    refine ⟨some x, l, c, (zs.take l).map fun z => UInt8.ofNat z.toNat, hcs, ⟨by simp; omega, by omega, fun e => (by cases e), fun h0 => ?_⟩, hl, by unfold maxLen at hm; omega, fun e => (by cases e)⟩
    obtain ⟨b, off, spot⟩ := x
    have hs : spot = none := by
      have := hcell 0 (by omega)
      simpa [Addr.add] using World.cell?_spot this
    subst hs
    refine ⟨b, off, rfl, trivial, fun j u hj => ?_⟩
    obtain ⟨hj1, hj2⟩ := List.getElem?_eq_some_iff.1 hj
    simp at hj1 hj2
    have hjz : j < zs.length := by omega
    have hc := hcell j (by omega)
    rw [Addr.add_lit] at hc
    rw [hc]
    have hg : zs.getD j 0 = zs[j] := by simp [List.getD, List.getElem?_eq_getElem hjz]
    obtain ⟨m, hm1, hm2⟩ := u8_of_wf (hwz zs[j] (List.getElem_mem hjz))
    rw [hg, hm1, ← hj2, hm1, Int.toNat_natCast]
    congr 2
    simp
    omega

theorem item98 : ∃ f0 f1 : Field, Tryd.prog.underlying 98 = some (.struct #[f0, f1]) ∧ f0.offset = 0 ∧ f1.offset = 1 ∧ f0.type = 3 ∧ f1.type = 96 :=
  ⟨_, _, Tryd.underlying98, rfl, rfl, rfl, rfl⟩
theorem vid31 : ∃ f0 f1 : Field, Tryd.prog.underlying 31 = some (.struct #[f0, f1]) ∧ f0.offset = 0 ∧ f1.offset = 1 ∧ f0.type = 29 ∧ f1.type = 3 :=
  ⟨_, _, Tryd.underlying31, rfl, rfl, rfl, rfl⟩
theorem stat45 : ∃ f0 f1 f2 : Field, Tryd.prog.underlying 45 = some (.struct #[f0, f1, f2]) ∧ f0.offset = 0 ∧ f1.offset = 2 ∧ f2.offset = 3 ∧ f0.type = 31 ∧ f1.type = 3 ∧ f2.type = 41 :=
  ⟨_, _, _, Tryd.underlying45, rfl, rfl, rfl, rfl, rfl, rfl⟩

set_option maxRecDepth 10000 in
/-- An item that was handed in. -/
theorem trod_item {H : Type} {enc : TypeId × Value → H} {W : World} {held : Bool} {fuel : Nat} {cs : List Value} {y : DataW H × List MemPlace} (h : DataW.trod enc Tryd.prog W 0 (fun _ => true) held fuel 98 cs = some y) (hf : Fits 98 y.1) :
    ∃ (x : Ix) (d : Di), cs = [.int .i64 x.1, .slice x.2.1 x.2.2.1 x.2.2.2] ∧ It (fun _ => True) W x d := by
  obtain ⟨f0, f1, he, p0, p1, t0, t1⟩ := item98
  obtain ⟨xs, k, hk, hxy, hcl, hxl, hg⟩ := DataW.trod_struct he h
  rw [cells98] at hcl
  subst hxy
  match xs, hxl, cs, hcl with
  | [y0, y1], _, [v0, v1], _ =>
    have a0 := hg 0 f0 rfl
    have a1 := hg 1 f1 rfl
    have b1 := hf.part he (i := 1) (f := f1) (x := y1) rfl rfl
    rw [t1] at b1
    simp [p0, p1, t0, t1, cells3, cells96] at a0 a1
    obtain ⟨n0, c0, _, w0⟩ := DataW.trod_int Tryd.underlying3 a0
    obtain ⟨ao, n, cap, ys, hcs, hrw, _⟩ := trod_bytes a1 b1
    simp at c0 hcs
    subst c0 hcs
    exact ⟨(n0, ao, n, cap), (n0, ys), rfl, rfl, hrw⟩

set_option maxRecDepth 10000 in
/-- Items that were handed in. -/
theorem trod_items {H : Type} {enc : TypeId × Value → H} {W : World} {held : Bool} {fuel : Nat} {cs : List Value} {y : DataW H × List MemPlace} (h : DataW.trod enc Tryd.prog W 0 (fun _ => true) held fuel 41 cs = some y) (hf : Fits 41 y.1) :
    ∃ ao n cap ds, cs = [.slice ao n cap] ∧ Its (fun _ => True) W ao n ds ∧ n ≤ cap ∧ cap ≤ 9223372036854775807 ∧ (ao = none → cap = 0) := by
  rcases open_slice Tryd.underlying41 h with ⟨hcs, _⟩ | ⟨x, l, c, mm, n, D, Pl, hcs, hb, hl, hm, hmm, hy, hx⟩
  · exact ⟨none, 0, 0, [], hcs, ⟨[], ⟨rfl, Nat.zero_le _, fun _ => rfl, fun h => absurd h (Nat.lt_irrefl 0)⟩, rfl, fun j x d hx => by simp at hx⟩, by omega, by omega, fun _ => rfl⟩
  · subst hy
    simp only [if_true] at hmm
    have hcap := hf.cap Tryd.underlying41
    rw [bytes98] at hcap
    have each : ∀ i, i < l → ∃ q : Ix × Di, It (fun _ => True) W q.1 q.2 ∧ W.cell? (x.add (i * 2)) = some (.int .i64 q.1.1) ∧ W.cell? (x.add (i * 2 + 1)) = some (.slice q.1.2.1 q.1.2.2.1 q.1.2.2.2) := by
      intro i hi
      obtain ⟨cs', h1, h2⟩ := hx i (by omega)
      rw [cells98] at h1
      obtain ⟨_, hlen, hcell⟩ := World.cells?_some h1
      obtain ⟨q, d, rfl, hit⟩ := trod_item h2 (hf.elem Tryd.underlying41 hi)
      refine ⟨(q, d), hit, ?_, ?_⟩
      · have e0 := hcell 0 (by omega)
        rw [add_add] at e0
        exact e0
      · have e0 := hcell 1 (by omega)
        rw [add_add] at e0
        exact e0
    obtain ⟨q, hq⟩ := choose_lt each
    have hget : ∀ {α : Type} (f : Nat → α) j y, ((List.range l).map f)[j]? = some y → j < l ∧ y = f j := fun f j y hj => by
      obtain ⟨h1, h2⟩ := List.getElem?_eq_some_iff.1 hj
      simp at h1 h2
      exact ⟨h1, h2.symm⟩
    refine ⟨some x, l, c, (List.range l).map fun i => (q i).2, hcs, ⟨(List.range l).map fun i => (q i).1, ⟨by simp, by omega, fun e => (by cases e), fun h0 => ?_⟩, by simp, fun j u d hu hd => ?_⟩, hl, by unfold maxLen at hm; omega, fun e => (by cases e)⟩
    · obtain ⟨b, off, spot⟩ := x
      have hs : spot = none := by
        have := (hq 0 h0).2.1
        simpa [Addr.add] using World.cell?_spot this
      subst hs
      refine ⟨b, off, rfl, trivial, fun j u hj => ?_⟩
      obtain ⟨hjl, rfl⟩ := hget _ j u hj
      have := (hq j hjl).2
      rw [Addr.add_lit, Addr.add_lit, ← Nat.add_assoc] at this
      exact this
    · obtain ⟨hjl, rfl⟩ := hget _ j u hu
      obtain ⟨_, rfl⟩ := hget _ j d hd
      exact (hq j hjl).1

/-- A state as it was handed in: what is in it fits. -/
def Good (x : Sx) : Prop := x.1 < 18446744073709551616 ∧ In x.2.1 ∧ In x.2.2.1 ∧ x.2.2.2.2.1 ≤ x.2.2.2.2.2 ∧ x.2.2.2.2.2 ≤ 9223372036854775807
set_option maxRecDepth 10000 in
theorem trod_state {H : Type} {enc : TypeId × Value → H} {W : World} {held : Bool} {fuel : Nat} {cs : List Value} {y : DataW H × List MemPlace} (h : DataW.trod enc Tryd.prog W 0 (fun _ => true) held fuel 45 cs = some y) (hf : Fits 45 y.1) :
    ∃ (x : Sx) (e : List Di), cs = cellsS x ∧ Good x ∧ Its (fun _ => True) W x.2.2.2.1 x.2.2.2.2.1 e := by
  obtain ⟨f0, f1, f2, he, p0, p1, p2, t0, t1, t2⟩ := stat45
  obtain ⟨g0, g1, he', q0, q1, u0, u1⟩ := vid31
  obtain ⟨xs, k, hk, hxy, hcl, hxl, hg⟩ := DataW.trod_struct he h
  rw [cells45] at hcl
  subst hxy
  match xs, hxl, cs, hcl with
  | [y0, y1, y2], _, [v0, v1, v2, v3], _ =>
    have a0 := hg 0 f0 rfl
    have a1 := hg 1 f1 rfl
    have a2 := hg 2 f2 rfl
    have b2 := hf.part he (i := 2) (f := f2) (x := y2) rfl rfl
    rw [t2] at b2
    simp [p0, p1, p2, t0, t1, t2, cells31, cells3, cells41] at a0 a1 a2
    obtain ⟨ys, k', hk', hyy, _, hyl, hg'⟩ := DataW.trod_struct he' a0
    match ys, hyl with
    | [z0, z1], _ =>
      have c0 := hg' 0 g0 rfl
      have c1 := hg' 1 g1 rfl
      simp [q0, q1, u0, u1, cells29, cells3] at c0 c1
      obtain ⟨n0, e0, _, w0⟩ := DataW.trod_int Tryd.underlying29 c0
      obtain ⟨n1, e1, _, w1⟩ := DataW.trod_int Tryd.underlying3 c1
      obtain ⟨n2, e2, _, w2⟩ := DataW.trod_int Tryd.underlying3 a1
      obtain ⟨ao, n, cap, ds, hcs, hits, hnc, hcm, _⟩ := trod_items a2 b2
      simp at e0 e1 e2 hcs
      subst e0 e1 e2 hcs
      obtain ⟨m0, rfl, hm0⟩ := u64_of_wf w0
      exact ⟨(m0, n1, n2, ao, n, cap), ds, rfl, ⟨hm0, in_of_wf w1, in_of_wf w2, hnc, hcm⟩, hits⟩

theorem get_range {α : Type} {l : Nat} (f : Nat → α) {j : Nat} {y : α} (hj : ((List.range l).map f)[j]? = some y) : j < l ∧ y = f j := by
  obtain ⟨h1, h2⟩ := List.getElem?_eq_some_iff.1 hj
  simp at h1 h2
  exact ⟨h1, h2.symm⟩
set_option maxRecDepth 10000 in
/-- States that were handed in. -/
theorem trod_states {H : Type} {enc : TypeId × Value → H} {W : World} {held : Bool} {fuel : Nat} {cs : List Value} {y : DataW H × List MemPlace} (h : DataW.trod enc Tryd.prog W 0 (fun _ => true) held fuel 36 cs = some y) (hF : Fits 36 y.1) :
    ∃ ao n cap ds, cs = [.slice ao n cap] ∧ Ss (fun _ => True) W ao n ds ∧ n ≤ 2932031007402 ∧ ∀ d ∈ ds, d.1 < 18446744073709551616 ∧ In d.2.1 ∧ In d.2.2.1 := by
  rcases open_slice Tryd.underlying36 h with ⟨hcs, _⟩ | ⟨x, l, c, mm, n, D, Pl, hcs, hb, hl, hm, hmm, hy, hx⟩
  · exact ⟨none, 0, 0, [], hcs, Ss.nil _ _, by omega, by simp⟩
  · subst hy
    simp only [if_true] at hmm
    have hcap := hF.cap Tryd.underlying36
    rw [bytes45] at hcap
    have each : ∀ i, i < l → ∃ q : Sx × Sd, (Si (fun _ => True) W q.1 q.2 ∧ (q.2.1 < 18446744073709551616 ∧ In q.2.2.1 ∧ In q.2.2.2.1)) ∧ ∀ j, j < 4 → W.cell? (x.add (i * 4 + j)) = (cellsS q.1)[j]? := by
      intro i hi
      obtain ⟨cs', h1, h2⟩ := hx i (by omega)
      rw [cells45] at h1
      obtain ⟨_, hlen, hcell⟩ := World.cells?_some h1
      obtain ⟨q, e, rfl, hgd, hits⟩ := trod_state h2 (hF.elem Tryd.underlying36 hi)
      refine ⟨(q, (q.1, q.2.1, q.2.2.1, e)), ⟨⟨rfl, rfl, rfl, hits⟩, hgd.1, hgd.2.1, hgd.2.2.1⟩, fun j hj => ?_⟩
      have e0 := hcell j (by omega)
      rw [add_add] at e0
      exact e0
    obtain ⟨q, hq⟩ := choose_lt each
    refine ⟨some x, l, c, (List.range l).map fun i => (q i).2, hcs, ⟨(List.range l).map fun i => (q i).1, ⟨by simp, by omega, fun e => (by cases e), fun h0 => ?_⟩, by simp, fun j u d hu hd => ?_⟩, by omega, fun d hd => ?_⟩
    · obtain ⟨b, off, spot⟩ := x
      have hs : spot = none := by
        have := (hq 0 h0).2 0 (by omega)
        simpa [Addr.add] using World.cell?_spot this
      subst hs
      refine ⟨b, off, rfl, trivial, fun j u hj => ?_⟩
      obtain ⟨hjl, rfl⟩ := get_range _ hj
      have key := (hq j hjl).2
      have k0 := key 0 (by omega)
      have k1 := key 1 (by omega)
      have k2 := key 2 (by omega)
      have k3 := key 3 (by omega)
      rw [Addr.add_lit] at k0 k1 k2 k3
      rw [← Nat.add_assoc] at k0 k1 k2 k3
      exact ⟨k0, k1, k2, k3⟩
    · obtain ⟨hjl, rfl⟩ := get_range _ hu
      obtain ⟨_, rfl⟩ := get_range _ hd
      exact (hq j hjl).1.1
    · obtain ⟨i, hi, rfl⟩ := List.mem_map.1 hd
      exact (hq i (List.mem_range.1 hi)).1.2

/-- Slices of bytes in memory. -/
def MR (w : World) (ao : Option Addr) (n : Nat) (xs : List (Option Addr × Nat × Nat)) : Prop :=
  xs.length = n ∧ n ≤ 9223372036854775807 ∧ (0 < n → ∃ b off, ao = some ⟨b, off, none⟩ ∧ ∀ (j : Nat) x, xs[j]? = some x → w.cell? ⟨b, off + j, none⟩ = some (.slice x.1 x.2.1 x.2.2))
theorem MR.keep {w w' : World} {ao : Option Addr} {n : Nat} {xs : List (Option Addr × Nat × Nat)} (h : MR w ao n xs) (k : Kp (fun _ => True) w w') : MR w' ao n xs := by
  obtain ⟨h1, h2, h4⟩ := h
  refine ⟨h1, h2, fun h0 => ?_⟩
  obtain ⟨b, off, e, hc⟩ := h4 h0
  exact ⟨b, off, e, fun j x hj => k _ _ trivial (hc j x hj)⟩
set_option maxRecDepth 10000 in
/-- Messages that were handed in. -/
theorem trod_msgs {H : Type} {enc : TypeId × Value → H} {W : World} {held : Bool} {fuel : Nat} {cs : List Value} {y : DataW H × List MemPlace} (h : DataW.trod enc Tryd.prog W 0 (fun _ => true) held fuel 40 cs = some y) (hF : Fits 40 y.1) :
    ∃ ao n cap xs, cs = [.slice ao n cap] ∧ MR W ao n xs := by
  rcases open_slice Tryd.underlying40 h with ⟨hcs, _⟩ | ⟨x, l, c, mm, n, D, Pl, hcs, hb, hl, hm, hmm, hy, hx⟩
  · exact ⟨none, 0, 0, [], hcs, rfl, by omega, fun h => by omega⟩
  · subst hy
    simp only [if_true] at hmm
    have each : ∀ i, i < l → ∃ q : Option Addr × Nat × Nat, W.cell? (x.add (i * 1)) = some (.slice q.1 q.2.1 q.2.2) := by
      intro i hi
      obtain ⟨cs', h1, h2⟩ := hx i (by omega)
      rw [cells96] at h1
      obtain ⟨_, hlen, hcell⟩ := World.cells?_some h1
      obtain ⟨ao, n', cap, xs, rfl, hrx, _⟩ := trod_bytes h2 (hF.elem Tryd.underlying40 hi)
      refine ⟨(ao, n', cap), ?_⟩
      have e0 := hcell 0 (by omega)
      rw [add_add] at e0
      exact e0
    obtain ⟨q, hq⟩ := choose_lt each
    refine ⟨some x, l, c, (List.range l).map q, hcs, by simp, by unfold maxLen at hm; omega, fun h0 => ?_⟩
    obtain ⟨b, off, spot⟩ := x
    have hs : spot = none := by
      have := hq 0 h0
      simpa [Addr.add] using World.cell?_spot this
    subst hs
    refine ⟨b, off, rfl, fun j u hj => ?_⟩
    obtain ⟨hjl, rfl⟩ := get_range _ hj
    have := hq j hjl
    rw [Addr.add_lit, Nat.mul_one] at this
    exact this

theorem frame43 : ∃ f0 f1 f2 f3 f4 f5 f6 f7 f8 f9 f10 f11 : Field, Tryd.prog.underlying 43 = some (.struct #[f0, f1, f2, f3, f4, f5, f6, f7, f8, f9, f10, f11]) ∧
    (f0.offset = 0 ∧ f1.offset = 1 ∧ f2.offset = 2 ∧ f3.offset = 4 ∧ f4.offset = 5 ∧ f5.offset = 7 ∧ f6.offset = 9 ∧ f7.offset = 10 ∧ f8.offset = 11 ∧ f9.offset = 12 ∧ f10.offset = 13 ∧ f11.offset = 14) ∧
    (f0.type = 5 ∧ f1.type = 3 ∧ f2.type = 31 ∧ f3.type = 32 ∧ f4.type = 31 ∧ f5.type = 31 ∧ f6.type = 36 ∧ f7.type = 29 ∧ f8.type = 40 ∧ f9.type = 41 ∧ f10.type = 29 ∧ f11.type = 29) :=
  ⟨_, _, _, _, _, _, _, _, _, _, _, _, Tryd.underlying43, ⟨rfl, rfl, rfl, rfl, rfl, rfl, rfl, rfl, rfl, rfl, rfl, rfl⟩, ⟨rfl, rfl, rfl, rfl, rfl, rfl, rfl, rfl, rfl, rfl, rfl, rfl⟩⟩
set_option maxRecDepth 10000 in
/-- A view's number that was handed in. -/
theorem trod_vid {H : Type} {enc : TypeId × Value → H} {W : World} {held : Bool} {fuel : Nat} {v0 v1 : Value} {y : DataW H × List MemPlace} (h : DataW.trod enc Tryd.prog W 0 (fun _ => true) held fuel 31 [v0, v1] = some y) : ∃ (n : Nat) (p : Int), v0 = .int .u64 (n : Nat) ∧ v1 = .int .i64 p ∧ n < 18446744073709551616 ∧ In p := by
  obtain ⟨g0, g1, he', q0, q1, u0, u1⟩ := vid31
  obtain ⟨ys, k', hk', hyy, _, hyl, hg'⟩ := DataW.trod_struct he' h
  match ys, hyl with
  | [z0, z1], _ =>
    have c0 := hg' 0 g0 rfl
    have c1 := hg' 1 g1 rfl
    simp [q0, q1, u0, u1, cells29, cells3] at c0 c1
    obtain ⟨n0, e0, _, w0⟩ := DataW.trod_int Tryd.underlying29 c0
    obtain ⟨n1, e1, _, w1⟩ := DataW.trod_int Tryd.underlying3 c1
    simp at e0 e1
    subst e0 e1
    obtain ⟨m0, rfl, hm0⟩ := u64_of_wf w0
    exact ⟨m0, n1, rfl, rfl, hm0, in_of_wf w1⟩

/-- A frame as it was handed in. -/
structure FArg (w : World) (F : PF) (a : Fa) : Prop where
  st : Ss (fun _ => True) w a.so F.st.length F.st
  stl : F.st.length ≤ 2932031007402
  std : ∀ d ∈ F.st, d.1 < 18446744073709551616 ∧ In d.2.1 ∧ In d.2.2.1
  ms : ∃ xs, MR w a.mo F.ms.length xs
  it : Its (fun _ => True) w a.io F.it.length F.it
  kd : F.kind < 256
  fm : In F.frm
  id : F.idN < 18446744073709551616 ∧ In F.idP
  se : F.set < 65536
  cu : F.curN < 18446744073709551616 ∧ In F.curP
  pr : F.promN < 18446744073709551616 ∧ In F.promP
  ba : F.base < 18446744073709551616
  ak : F.ack < 18446744073709551616
  sf : F.safe < 18446744073709551616
theorem FArg.keep {w w' : World} {F : PF} {a : Fa} (h : FArg w F a) (k : Kp (fun _ => True) w w') : FArg w' F a :=
  ⟨h.st.keep k, h.stl, h.std, (by obtain ⟨xs, hx⟩ := h.ms; exact ⟨xs, hx.keep k⟩), h.it.keep k, h.kd, h.fm, h.id, h.se, h.cu, h.pr, h.ba, h.ak, h.sf⟩

set_option maxRecDepth 10000 in
set_option maxHeartbeats 1000000 in
theorem trod_frame {H : Type} {enc : TypeId × Value → H} {W : World} {held : Bool} {fuel : Nat} {cs : List Value} {y : DataW H × List MemPlace} (h : DataW.trod enc Tryd.prog W 0 (fun _ => true) held fuel 43 cs = some y) (hF : Fits 43 y.1) :
    ∃ (F : PF) (a : Fa), cs = (fcells F a).toList ∧ FArg W F a := by
  obtain ⟨f0, f1, f2, f3, f4, f5, f6, f7, f8, f9, f10, f11, he, ⟨p0, p1, p2, p3, p4, p5, p6, p7, p8, p9, p10, p11⟩, t0, t1, t2, t3, t4, t5, t6, t7, t8, t9, t10, t11⟩ := frame43
  obtain ⟨xs, k, hk, hxy, hcl, hxl, hg⟩ := DataW.trod_struct he h
  rw [cells43] at hcl
  subst hxy
  match xs, hxl, cs, hcl with
  | [y0, y1, y2, y3, y4, y5, y6, y7, y8, y9, y10, y11], _, [v0, v1, v2, v3, v4, v5, v6, v7, v8, v9, v10, v11, v12, v13, v14], _ =>
    have b6 := hF.part he (i := 6) (f := f6) (x := y6) rfl rfl
    have b8 := hF.part he (i := 8) (f := f8) (x := y8) rfl rfl
    have b9 := hF.part he (i := 9) (f := f9) (x := y9) rfl rfl
    rw [t6] at b6
    rw [t8] at b8
    rw [t9] at b9
    have a0 := hg 0 f0 rfl
    have a1 := hg 1 f1 rfl
    have a2 := hg 2 f2 rfl
    have a3 := hg 3 f3 rfl
    have a4 := hg 4 f4 rfl
    have a5 := hg 5 f5 rfl
    have a6 := hg 6 f6 rfl
    have a7 := hg 7 f7 rfl
    have a8 := hg 8 f8 rfl
    have a9 := hg 9 f9 rfl
    have a10 := hg 10 f10 rfl
    have a11 := hg 11 f11 rfl
    clear hg
    simp [p0, t0, cells5] at a0
    simp [p1, t1, cells3] at a1
    simp [p2, t2, cells31] at a2
    simp [p3, t3, cells32] at a3
    simp [p4, t4, cells31] at a4
    simp [p5, t5, cells31] at a5
    simp [p6, t6, cells36] at a6
    simp [p7, t7, cells29] at a7
    simp [p8, t8, cells40] at a8
    simp [p9, t9, cells41] at a9
    simp [p10, t10, cells29] at a10
    simp [p11, t11, cells29] at a11
    obtain ⟨k0, e0, _, w0⟩ := DataW.trod_int Tryd.underlying5 a0
    obtain ⟨fr, e1, _, w1⟩ := DataW.trod_int Tryd.underlying3 a1
    obtain ⟨n2, p2', rfl, rfl, hn2, hp2⟩ := trod_vid a2
    obtain ⟨se, e3, _, w3⟩ := DataW.trod_int Tryd.underlying32 a3
    obtain ⟨n4, p4', rfl, rfl, hn4, hp4⟩ := trod_vid a4
    obtain ⟨n5, p5', rfl, rfl, hn5, hp5⟩ := trod_vid a5
    obtain ⟨so, sn, sc, sd, e6, hs, hsl9, hsd⟩ := trod_states a6 b6
    obtain ⟨ba, e7, _, w7⟩ := DataW.trod_int Tryd.underlying29 a7
    obtain ⟨mo, mn, mc, md, e8, hm⟩ := trod_msgs a8 b8
    obtain ⟨io, inn, ic, idd, e9, hi, _⟩ := trod_items a9 b9
    obtain ⟨ac, e10, _, w10⟩ := DataW.trod_int Tryd.underlying29 a10
    obtain ⟨sa, e11, _, w11⟩ := DataW.trod_int Tryd.underlying29 a11
    simp at e0 e1 e3 e6 e7 e8 e9 e10 e11
    subst e0 e1 e3 e6 e7 e8 e9 e10 e11
    obtain ⟨kd, rfl, hkd⟩ := u8_of_wf w0
    obtain ⟨st, rfl, hst⟩ := u16_of_wf w3
    obtain ⟨b, rfl, hbb⟩ := u64_of_wf w7
    obtain ⟨ak, rfl, hak⟩ := u64_of_wf w10
    obtain ⟨sf, rfl, hsf⟩ := u64_of_wf w11
    have hsl : sd.length = sn := hs.len
    have hml : (List.replicate mn ([] : List UInt8)).length = mn := by simp
    have hil : idd.length = inn := hi.len
    subst hsl hil
    refine ⟨⟨kd, fr, n2, p2', st, n4, p4', n5, p5', sd, b, List.replicate mn [], idd, ak, sf⟩, ⟨so, sc, mo, mc, io, ic⟩, ?_, ⟨hs, hsl9, hsd, ⟨md, ?_⟩, hi, hkd, in_of_wf w1, ⟨hn2, hp2⟩, hst, ⟨hn4, hp4⟩, ⟨hn5, hp5⟩, hbb, hak, hsf⟩⟩
    · simp [fcells]
    · simpa using hm
set_option maxRecDepth 10000 in
/-- A frame that was handed in. -/
theorem open_frame {H : Type} {enc : TypeId × Value → H} {W : World} {base : Nat} {v : Value} {d : DataW H} {p : List MemPlace} {ts : List TypeId} {ds : List (DataW H)} {j : Nat} (hv : Value.okWide Tryd.prog W .any base 43 v)
    (h : DataW.Trod enc Tryd.prog W 0 (fun _ => true) true 43 v d p) (hsz : (DataW.weightsEach Tryd.prog ts ds).all (· ≤ reachBytes) = true) (ht : ts[j]? = some 43) (hd : ds[j]? = some d) :
    ∃ (F : PF) (a : Fa), v = fval F a ∧ FArg W F a := by
  have hF : Fits 43 d := fun n hn => by
    have := List.all_eq_true.1 hsz n (DataW.weights_mem_each ht hd n hn)
    exact of_decide_eq_true this
  obtain ⟨f0, f1, f2, f3, f4, f5, f6, f7, f8, f9, f10, f11, he, _⟩ := frame43
  obtain ⟨cs, rfl, hs⟩ := okWide_struct he hv
  obtain ⟨fuel, hf'⟩ := h
  obtain ⟨F, a, hc, hin⟩ := trod_frame hf' hF
  refine ⟨F, a, ?_, hin⟩
  have e : cs.toList = (fcells F a).toList := by simpa [Value.cells] using hc
  unfold fval
  rw [Array.toList_inj.1 e]
end Go.Proofs.YtlonbbepoamnmaaDoor
