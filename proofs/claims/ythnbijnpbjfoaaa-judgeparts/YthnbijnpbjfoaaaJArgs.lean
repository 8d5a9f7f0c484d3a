/-
  Bytes, items, and lists of lists as they are handed in.
-/
import Derived.Test.YthnbijnpbjfoaaaJAll1
import Derived.Test.YthnbijnpbjfoaaaRows
import Derived.ProofKit
import Derived.OpenShut
import Derived.ShutString
import Derived.ChangeOld
import Derived.Below
import Derived.Deep.Slices
import Derived.ChangeSame
import Derived.SizedLaws
namespace Go.Proofs.Ythnbijnpbjfoaaa
open Go.ChangeShapes Go.WideShapes Go.ChangeAt Go.RowKit Go.Deep
set_option linter.unusedVariables false

def In (a : Int) : Prop := -9223372036854775808 ≤ a ∧ a ≤ 9223372036854775807
theorem in_of_wf {a : Int} (h : (Lit.int .i64 a).wf = true) : In a := by
  unfold In
  simp [Lit.wf, IntKind.min, IntKind.max, IntKind.bits, IntKind.signed] at h
  omega
theorem u64_of_wf {a : Int} (h : (Lit.int .u64 a).wf = true) : ∃ n : Nat, a = n ∧ n < 18446744073709551616 := by
  simp [Lit.wf, IntKind.min, IntKind.max, IntKind.bits, IntKind.signed] at h
  exact ⟨a.toNat, by omega, by omega⟩
theorem u8_of_wf {a : Int} (h : (Lit.int .u8 a).wf = true) : ∃ n : Nat, a = n ∧ n < 256 := by
  simp [Lit.wf, IntKind.min, IntKind.max, IntKind.bits, IntKind.signed] at h
  exact ⟨a.toNat, by omega, by omega⟩
theorem own : ownKnob Try.prog.godebug = none := by kernel_rfl
theorem laidOut : laidOutB Try.prog = true := by kernel_rfl
theorem cells5 : Try.prog.cellsOf 5 = 1 := by kernel_rfl
theorem cells3 : Try.prog.cellsOf 3 = 1 := by kernel_rfl
theorem cells34 : Try.prog.cellsOf 34 = 2 := by kernel_rfl
theorem cells25 : Try.prog.cellsOf 25 = 1 := by kernel_rfl
theorem cells30 : Try.prog.cellsOf 30 = 1 := by kernel_rfl
theorem bytes5 : Try.prog.bytesOf 5 = 1 := by kernel_rfl
theorem bytes34 : Try.prog.bytesOf 34 = 32 := by kernel_rfl

theorem all_mem {H : Type} {P : Program} {e : TypeId} : ∀ {l : List (DataW H)} {d : DataW H}, d ∈ l → ∀ n ∈ d.weights P e, n ∈ DataW.weightsAll P e l
  | [], d, h, _, _ => by simp at h
  | a :: r, d, h, n, hn => by
    rw [List.mem_cons] at h
    rw [DataW.weightsAll, List.mem_append]
    rcases h with rfl | h
    · exact .inl hn
    · exact .inr (all_mem h n hn)
/-- No part takes more than the form's reach. -/
def Fits {H : Type} (t : TypeId) (d : DataW H) : Prop := ∀ n ∈ d.weights Try.prog t, n ≤ 140737488351232
theorem Fits.elem {H : Type} {t e : TypeId} {D : Nat → DataW H} {len m : Nat} (ht : Try.prog.underlying t = some (.slice e)) (h : Fits t (.slice ((List.range len).map D) ((List.range (m - len)).map fun j => D (len + j)))) {i : Nat} (hi : i < len) : Fits e (D i) := by
  intro n hn
  refine h n ?_
  simp only [DataW.weights, ht]
  refine List.mem_cons_of_mem _ (List.mem_append_left _ (all_mem ?_ n hn))
  exact List.mem_map.2 ⟨i, List.mem_range.2 hi, rfl⟩
theorem Fits.cap {H : Type} {t e : TypeId} {D : Nat → DataW H} {len m : Nat} (ht : Try.prog.underlying t = some (.slice e)) (h : Fits t (.slice ((List.range len).map D) ((List.range (m - len)).map fun j => D (len + j)))) : (len + (m - len)) * Try.prog.bytesOf e ≤ 140737488351232 := by
  have := h ((len + (m - len)) * Try.prog.bytesOf e) (by simp [DataW.weights, ht])
  exact this
theorem Fits.part {H : Type} {t : TypeId} {fs : Array Field} {xs : List (DataW H × List MemPlace)} (ht : Try.prog.underlying t = some (.struct fs)) (h : Fits t (.agg (xs.map (·.1)))) {i : Nat} {f : Field} {x : DataW H × List MemPlace} (hf : fs[i]? = some f) (hx : xs[i]? = some x) : Fits f.type x.1 := by
  intro n hn
  refine h n ?_
  simp only [DataW.weights, ht]
  refine DataW.weights_mem_each (j := i) (t := f.type) (d := x.1) ?_ ?_ n hn
  · rw [List.getElem?_map, Array.getElem?_toList, hf]; rfl
  · rw [List.getElem?_map, hx]; rfl

/-- Bytes that were handed in. -/
theorem trod_bytes {H : Type} {enc : TypeId × Value → H} {W : World} {held : Bool} {fuel : Nat} {cs : List Value} {y : DataW H × List MemPlace} (h : DataW.trod enc Try.prog W 0 (fun _ => true) held fuel 30 cs = some y) (hf : Fits 30 y.1) :
    ∃ ao n cap xs, cs = [.slice ao n cap] ∧ Rw (fun _ => True) W ao n xs ∧ n ≤ cap ∧ cap ≤ 9223372036854775807 ∧ (ao = none → cap = 0) := by
  rcases open_ints Try.underlying30 Try.underlying5 cells5 h with ⟨hcs, _⟩ | ⟨x, l, c, zs, hcs, _, hl, hm, hz, hx, hcell, hwz⟩
  · exact ⟨none, 0, 0, [], hcs, ⟨rfl, by omega, fun _ => rfl, fun h => by omega⟩, by omega, by omega, fun _ => rfl⟩
  · subst hx
    simp only [if_true] at hz
    have hcap : c ≤ 140737488351232 := by
      have := hf _ (by
        simp only [DataW.weights, Try.underlying30]
        exact List.mem_cons_self)
      rw [bytes5] at this
      simp only [lits, List.length_map, List.length_take, List.length_drop] at this
      omega
    refine ⟨some x, l, c, (zs.take l).map fun z => UInt8.ofNat z.toNat, hcs, ⟨by simp; omega, by omega, fun e => (by cases e), fun h0 => ?_⟩, hl, by unfold maxLen at hm; omega, fun e => (by cases e)⟩
    obtain ⟨b, off, spot⟩ := x
    have hs : spot = none := by
      have := hcell 0 (by omega)
      simpa [Addr.add] using World.cell?_spot this
    subst hs
    refine ⟨b, off, rfl, trivial, fun j u hj => ?_⟩
    obtain ⟨hj1, hj2⟩ := List.getElem?_eq_some_iff.1 hj
    simp at hj1 hj2
    have hjz : j < zs.length := by omega
    have hc := hcell j (by omega)
    rw [Addr.add_lit] at hc
    rw [hc]
    have hg : zs.getD j 0 = zs[j] := by simp [List.getD, List.getElem?_eq_getElem hjz]
    obtain ⟨m, hm1, hm2⟩ := u8_of_wf (hwz zs[j] (List.getElem_mem hjz))
    rw [hg, hm1, ← hj2, hm1, Int.toNat_natCast]
    congr 2
    simp
    omega

set_option maxRecDepth 10000 in
theorem item34 : ∃ f0 f1 : Field, Try.prog.underlying 34 = some (.struct #[f0, f1]) ∧ f0.offset = 0 ∧ f1.offset = 1 ∧ f0.type = 3 ∧ f1.type = 30 :=
  ⟨_, _, Try.underlying34, rfl, rfl, rfl, rfl⟩
set_option maxRecDepth 10000 in
/-- An item that was handed in. -/
theorem trod_item {H : Type} {enc : TypeId × Value → H} {W : World} {held : Bool} {fuel : Nat} {cs : List Value} {y : DataW H × List MemPlace} (h : DataW.trod enc Try.prog W 0 (fun _ => true) held fuel 34 cs = some y) (hf : Fits 34 y.1) :
    ∃ (x : Ix) (d : Di), cs = [.int .i64 x.1, .slice x.2.1 x.2.2.1 x.2.2.2] ∧ It (fun _ => True) W x d := by
  obtain ⟨f0, f1, he, p0, p1, t0, t1⟩ := item34
  obtain ⟨xs, k, hk, hxy, hcl, hxl, hg⟩ := DataW.trod_struct he h
  rw [cells34] at hcl
  subst hxy
  match xs, hxl, cs, hcl with
  | [y0, y1], _, [v0, v1], _ =>
    have a0 := hg 0 f0 rfl
    have a1 := hg 1 f1 rfl
    have b1 := hf.part he (i := 1) (f := f1) (x := y1) rfl rfl
    rw [t1] at b1
    simp [p0, p1, t0, t1, cells3, cells30] at a0 a1
    obtain ⟨n0, c0, _, w0⟩ := DataW.trod_int Try.underlying3 a0
    obtain ⟨ao, n, cap, ys, hcs, hrw, _⟩ := trod_bytes a1 b1
    simp at c0 hcs
    subst c0 hcs
    exact ⟨(n0, ao, n, cap), (n0, ys), rfl, rfl, hrw⟩

/-- Items that were handed in. -/
theorem trod_items {H : Type} {enc : TypeId × Value → H} {W : World} {held : Bool} {fuel : Nat} {cs : List Value} {y : DataW H × List MemPlace} (h : DataW.trod enc Try.prog W 0 (fun _ => true) held fuel 25 cs = some y) (hf : Fits 25 y.1) :
    ∃ ao n cap ds, cs = [.slice ao n cap] ∧ Its (fun _ => True) W ao n ds ∧ n ≤ cap ∧ cap ≤ 9223372036854775807 ∧ (ao = none → cap = 0) := by
  rcases open_slice Try.underlying25 h with ⟨hcs, _⟩ | ⟨x, l, c, mm, n, D, Pl, hcs, hb, hl, hm, hmm, hy, hx⟩
  · exact ⟨none, 0, 0, [], hcs, Its.nil0 _ _, by omega, by omega, fun _ => rfl⟩
  · subst hy
    simp only [if_true] at hmm
    have hcap := hf.cap Try.underlying25
    rw [bytes34] at hcap
    have each : ∀ i, i < l → ∃ q : Ix × Di, It (fun _ => True) W q.1 q.2 ∧ W.cell? (x.add (i * 2)) = some (.int .i64 q.1.1) ∧ W.cell? (x.add (i * 2 + 1)) = some (.slice q.1.2.1 q.1.2.2.1 q.1.2.2.2) := by
      intro i hi
      obtain ⟨cs', h1, h2⟩ := hx i (by omega)
      rw [cells34] at h1
      obtain ⟨_, hlen, hcell⟩ := World.cells?_some h1
      obtain ⟨q, d, rfl, hit⟩ := trod_item h2 (hf.elem Try.underlying25 hi)
      refine ⟨(q, d), hit, ?_, ?_⟩
      · have e0 := hcell 0 (by omega)
        rw [add_add] at e0
        exact e0
      · have e0 := hcell 1 (by omega)
        rw [add_add] at e0
        exact e0
    obtain ⟨q, hq⟩ := choose_lt each
    have hget : ∀ {α : Type} (f : Nat → α) j y, ((List.range l).map f)[j]? = some y → j < l ∧ y = f j := fun f j y hj => by
      obtain ⟨h1, h2⟩ := List.getElem?_eq_some_iff.1 hj
      simp at h1 h2
      exact ⟨h1, h2.symm⟩
    refine ⟨some x, l, c, (List.range l).map fun i => (q i).2, hcs, ⟨(List.range l).map fun i => (q i).1, ⟨by simp, by omega, fun e => (by cases e), fun h0 => ?_⟩, by simp, fun j u d hu hd => ?_⟩, hl, by unfold maxLen at hm; omega, fun e => (by cases e)⟩
    · obtain ⟨b, off, spot⟩ := x
      have hs : spot = none := by
        have := (hq 0 h0).2.1
        simpa [Addr.add] using World.cell?_spot this
      subst hs
      refine ⟨b, off, rfl, trivial, fun j u hj => ?_⟩
      obtain ⟨hjl, rfl⟩ := hget _ j u hj
      have := (hq j hjl).2
      rw [Addr.add_lit, Addr.add_lit, ← Nat.add_assoc] at this
      exact this
    · obtain ⟨hjl, rfl⟩ := hget _ j u hu
      obtain ⟨_, rfl⟩ := hget _ j d hd
      exact (hq j hjl).1


theorem cells32 : Try.prog.cellsOf 32 = 1 := by kernel_rfl
theorem bytes30 : Try.prog.bytesOf 30 = 24 := by kernel_rfl
theorem bytes25 : Try.prog.bytesOf 25 = 24 := by kernel_rfl
theorem bytes32 : Try.prog.bytesOf 32 = 24 := by kernel_rfl
/-- A list of lists that was handed in. -/
theorem trod_lr {H : Type} {enc : TypeId × Value → H} {W : World} {held : Bool} {α : Type} [Inhabited α] (P : World → Sr → α → Prop) {T E : TypeId} (hT : Try.prog.underlying T = some (.slice E)) (hc : Try.prog.cellsOf E = 1) (hb24 : Try.prog.bytesOf E = 24)
    (each0 : ∀ {fuel : Nat} {cs : List Value} {y : DataW H × List MemPlace}, DataW.trod enc Try.prog W 0 (fun _ => true) held fuel E cs = some y → Fits E y.1 → ∃ (r : Sr) (x : α), cs = [.slice r.1 r.2.1 r.2.2] ∧ Cp r ∧ P W r x)
    {fuel : Nat} {cs : List Value} {y : DataW H × List MemPlace} (h : DataW.trod enc Try.prog W 0 (fun _ => true) held fuel T cs = some y) (hf : Fits T y.1) :
    ∃ (r : Sr) (xs : List α), cs = [.slice r.1 r.2.1 r.2.2] ∧ Cp r ∧ Lr P W r.1 r.2.1 xs := by
  rcases open_slice hT h with ⟨hcs, _⟩ | ⟨x, l, c, mm, n, D, Pl, hcs, hb, hl, hm, hmm, hy, hx⟩
  · exact ⟨(none, 0, 0), [], hcs, Cp.nil, Lr.nil _ _⟩
  · subst hy
    simp only [if_true] at hmm
    have hcap := hf.cap hT
    rw [hb24] at hcap
    have each : ∀ i, i < l → ∃ q : Sr × α, Cp q.1 ∧ P W q.1 q.2 ∧ W.cell? (x.add i) = some (.slice q.1.1 q.1.2.1 q.1.2.2) := by
      intro i hi
      obtain ⟨cs', h1, h2⟩ := hx i (by omega)
      rw [hc] at h1
      obtain ⟨_, hlen, hcell⟩ := World.cells?_some h1
      obtain ⟨r, z, rfl, hcp, hp⟩ := each0 h2 (hf.elem hT hi)
      refine ⟨(r, z), hcp, hp, ?_⟩
      have e0 := hcell 0 (by omega)
      rw [add_add] at e0
      simpa using e0
    obtain ⟨q, hq⟩ := choose_lt each
    have hget : ∀ {β : Type} (f : Nat → β) j y, ((List.range l).map f)[j]? = some y → j < l ∧ y = f j := fun f j y hj => by
      obtain ⟨h1, h2⟩ := List.getElem?_eq_some_iff.1 hj
      simp at h1 h2
      exact ⟨h1, h2.symm⟩
    refine ⟨(some x, l, c), (List.range l).map fun i => (q i).2, hcs, ⟨hl, by unfold maxLen at hm; simp only; omega, fun e => (by cases e)⟩, (List.range l).map fun i => (q i).1, ⟨by simp, by show l ≤ 140737488355328; omega, fun e => (by cases e), fun h0 => ?_⟩, by simp, fun r hr => ?_, fun j u d hu hd => ?_⟩
    · obtain ⟨b, off, spot⟩ := x
      have hs : spot = none := by
        have := (hq 0 h0).2.2
        simpa [Addr.add] using World.cell?_spot this
      subst hs
      refine ⟨b, off, rfl, trivial, fun j u hj => ?_⟩
      obtain ⟨hjl, rfl⟩ := hget _ j u hj
      have := (hq j hjl).2.2
      rw [Addr.add_lit] at this
      exact this
    · obtain ⟨i, hi, rfl⟩ := List.mem_map.1 hr
      exact (hq i (by simpa using hi)).1
    · obtain ⟨hjl, rfl⟩ := hget _ j u hu
      obtain ⟨_, rfl⟩ := hget _ j d hd
      exact (hq j hjl).2.1
theorem trod_by {H : Type} {enc : TypeId × Value → H} {W : World} {held : Bool} {fuel : Nat} {cs : List Value} {y : DataW H × List MemPlace} (h : DataW.trod enc Try.prog W 0 (fun _ => true) held fuel 30 cs = some y) (hf : Fits 30 y.1) :
    ∃ (r : Sr) (x : By), cs = [.slice r.1 r.2.1 r.2.2] ∧ Cp r ∧ Rw (fun _ => True) W r.1 r.2.1 x := by
  obtain ⟨ao, n, cap, xs, h1, h2, h3, h4, h5⟩ := trod_bytes h hf
  exact ⟨(ao, n, cap), xs, h1, ⟨h3, h4, h5⟩, h2⟩
theorem trod_its {H : Type} {enc : TypeId × Value → H} {W : World} {held : Bool} {fuel : Nat} {cs : List Value} {y : DataW H × List MemPlace} (h : DataW.trod enc Try.prog W 0 (fun _ => true) held fuel 25 cs = some y) (hf : Fits 25 y.1) :
    ∃ (r : Sr) (x : List Di), cs = [.slice r.1 r.2.1 r.2.2] ∧ Cp r ∧ Its (fun _ => True) W r.1 r.2.1 x := by
  obtain ⟨ao, n, cap, xs, h1, h2, h3, h4, h5⟩ := trod_items h hf
  exact ⟨(ao, n, cap), xs, h1, ⟨h3, h4, h5⟩, h2⟩
theorem trod_bs {H : Type} {enc : TypeId × Value → H} {W : World} {held : Bool} {fuel : Nat} {cs : List Value} {y : DataW H × List MemPlace} (h : DataW.trod enc Try.prog W 0 (fun _ => true) held fuel 32 cs = some y) (hf : Fits 32 y.1) :
    ∃ (r : Sr) (x : List By), cs = [.slice r.1 r.2.1 r.2.2] ∧ Cp r ∧ Bs W r.1 r.2.1 x :=
  trod_lr _ Try.underlying32 cells30 bytes30 (fun h hf => trod_by h hf) h hf
/-- What fits is what the form lets in. -/
theorem fits_of {H : Type} {t : TypeId} {d : DataW H} {ts : List TypeId} {ds : List (DataW H)} {j : Nat} (hsz : (DataW.weightsEach Try.prog ts ds).all (· ≤ reachBytes) = true) (ht : ts[j]? = some t) (hd : ds[j]? = some d) : Fits t d := fun n hn => by
  have := List.all_eq_true.1 hsz n (DataW.weights_mem_each ht hd n hn)
  exact of_decide_eq_true this
theorem sl_eq {a : Option Addr} {len cap : Nat} {r : Sr} (h : Value.cells (.slice a len cap) = #[.slice r.1 r.2.1 r.2.2] ∨ (Value.cells (.slice a len cap)).toList = [.slice r.1 r.2.1 r.2.2]) : r = (a, len, cap) := by
  obtain ⟨ra, rn, rc⟩ := r
  rcases h with h | h <;> simp [Value.cells] at h <;> simp [h]
theorem open_bss {H : Type} {enc : TypeId × Value → H} {W : World} {a : Option Addr} {len cap : Nat} {d : DataW H} {p : List MemPlace} (h : DataW.Trod enc Try.prog W 0 (fun _ => true) true 22 (.slice a len cap) d p) (hf : Fits 22 d) : ∃ xs, Bss W a len xs ∧ Cp (a, len, cap) := by
  obtain ⟨fuel, h⟩ := h
  obtain ⟨r, xs, h1, h2, h3⟩ := trod_lr (y := (d, p)) (fun w r x => Bs w r.1 r.2.1 x) Try.underlying22 cells32 bytes32 (fun h hf => trod_bs h hf) h hf
  obtain rfl := sl_eq (.inr h1)
  exact ⟨xs, h3, h2⟩
theorem open_iss {H : Type} {enc : TypeId × Value → H} {W : World} {a : Option Addr} {len cap : Nat} {d : DataW H} {p : List MemPlace} (h : DataW.Trod enc Try.prog W 0 (fun _ => true) true 23 (.slice a len cap) d p) (hf : Fits 23 d) : ∃ xs, Iss W a len xs ∧ Cp (a, len, cap) := by
  obtain ⟨fuel, h⟩ := h
  obtain ⟨r, xs, h1, h2, h3⟩ := trod_lr (y := (d, p)) (fun w r x => Its (fun _ => True) w r.1 r.2.1 x) Try.underlying23 cells25 bytes25 (fun h hf => trod_its h hf) h hf
  obtain rfl := sl_eq (.inr h1)
  exact ⟨xs, h3, h2⟩
theorem open_bs {H : Type} {enc : TypeId × Value → H} {W : World} {a : Option Addr} {len cap : Nat} {d : DataW H} {p : List MemPlace} (h : DataW.Trod enc Try.prog W 0 (fun _ => true) true 32 (.slice a len cap) d p) (hf : Fits 32 d) : ∃ xs, Bs W a len xs ∧ Cp (a, len, cap) := by
  obtain ⟨fuel, h⟩ := h
  obtain ⟨r, xs, h1, h2, h3⟩ := trod_bs (y := (d, p)) h hf
  obtain rfl := sl_eq (.inr h1)
  exact ⟨xs, h3, h2⟩
theorem open_by {H : Type} {enc : TypeId × Value → H} {W : World} {a : Option Addr} {len cap : Nat} {d : DataW H} {p : List MemPlace} (h : DataW.Trod enc Try.prog W 0 (fun _ => true) true 30 (.slice a len cap) d p) (hf : Fits 30 d) : ∃ xs, Rw (fun _ => True) W a len xs ∧ Cp (a, len, cap) := by
  obtain ⟨fuel, h⟩ := h
  obtain ⟨r, xs, h1, h2, h3⟩ := trod_by (y := (d, p)) h hf
  obtain rfl := sl_eq (.inr h1)
  exact ⟨xs, h3, h2⟩
end Go.Proofs.Ythnbijnpbjfoaaa
