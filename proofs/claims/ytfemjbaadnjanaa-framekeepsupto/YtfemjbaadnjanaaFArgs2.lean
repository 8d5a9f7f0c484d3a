/-
  Frames as they are handed in, and how much they hold.
  A frame as it is handed in.
-/
import Derived.Test.YtfemjbaadnjanaaFArgs0
import Derived.Test.YtfemjbaadnjanaaFGreat
import Derived.JoinedCond
import Derived.Deep.CondSized
namespace Go.Proofs.Ytfemjbaadnjanaa
open Go.ChangeShapes Go.WideShapes Go.ChangeAt Go.RowKit Go.Deep
set_option linter.unusedVariables false
set_option linter.unusedSimpArgs false

theorem cells5 : Try.prog.cellsOf 5 = 1 := by kernel_rfl
theorem cells3 : Try.prog.cellsOf 3 = 1 := by kernel_rfl
theorem cells22 : Try.prog.cellsOf 22 = 1 := by kernel_rfl
theorem cells25 : Try.prog.cellsOf 25 = 1 := by kernel_rfl
theorem cells26 : Try.prog.cellsOf 26 = 1 := by kernel_rfl
theorem cells27 : Try.prog.cellsOf 27 = 1 := by kernel_rfl
theorem cells30 : Try.prog.cellsOf 30 = 15 := by kernel_rfl
theorem cells52 : Try.prog.cellsOf 52 = 4 := by kernel_rfl
theorem cells49 : Try.prog.cellsOf 49 = 2 := by kernel_rfl
theorem cells28' : Try.prog.cellsOf 28 = 1 := by kernel_rfl
theorem cells33 : Try.prog.cellsOf 33 = 1 := by kernel_rfl

theorem one_le {H : Type} (d : DataW H) : 1 ≤ Rows.uptoBulk d := by
  cases d with
  | lit l => cases l <;> simp [Rows.uptoBulk]
  | nil => simp [Rows.uptoBulk]
  | ptr d => simp [Rows.uptoBulk]
  | slice elems spare => simp [Rows.uptoBulk]
  | agg parts => simp [Rows.uptoBulk]
  | iface t d => simp [Rows.uptoBulk]
  | map entries => simp [Rows.uptoBulk]
  | held h => simp [Rows.uptoBulk]
theorem part_le {H : Type} {d : DataW H} {l : List (DataW H)} (h : d ∈ l) : Rows.uptoBulk d ≤ Rows.uptoBulkAll l := by
  induction l with
  | nil => cases h
  | cons x r ih =>
    simp only [Rows.uptoBulkAll]
    cases List.mem_cons.1 h with
    | inl e => subst e; omega
    | inr e => have := ih e; omega
theorem length_le' {H : Type} (l : List (DataW H)) : l.length ≤ Rows.uptoBulkAll l := by
  induction l with
  | nil => simp [Rows.uptoBulkAll]
  | cons x r ih => have := one_le x; simp only [Rows.uptoBulkAll, List.length_cons]; omega
/-- Parts of a row of so many, each of at least such a bulk. -/
theorem bulk_map {H : Type} {D : Nat → DataW H} {f : Nat → Nat} : ∀ (L : List Nat), (∀ i ∈ L, f i ≤ Rows.uptoBulk (D i)) → (L.map f).sum ≤ Rows.uptoBulkAll (L.map D)
  | [], _ => by simp [Rows.uptoBulkAll]
  | i :: L, h => by
    have h1 := h i (by simp)
    have h2 := bulk_map L (fun j hj => h j (by simp [hj]))
    simp only [List.map_cons, List.sum_cons, Rows.uptoBulkAll]
    omega
theorem bulk_slice {H : Type} {D : Nat → DataW H} {l m : Nat} {f : Nat → Nat} {N : Nat} (hb : Rows.uptoBulk (.slice ((List.range l).map D) ((List.range (m - l)).map fun j => D (l + j))) ≤ N) (h : ∀ i, i < l → f i ≤ Rows.uptoBulk (D i)) : ((List.range l).map f).sum + 1 ≤ N := by
  have h1 := bulk_map (D := D) (f := f) (List.range l) (fun i hi => h i (List.mem_range.1 hi))
  simp only [Rows.uptoBulk] at hb
  omega
theorem sum_range_one : ∀ l : Nat, ((List.range l).map fun _ => 1).sum = l
  | 0 => rfl
  | l + 1 => by rw [List.range_succ, List.map_append, List.sum_append, sum_range_one l]; simp
theorem sum_range_add (f g : Nat → Nat) : ∀ l : Nat, ((List.range l).map fun i => f i + g i).sum = ((List.range l).map f).sum + ((List.range l).map g).sum
  | 0 => rfl
  | l + 1 => by simp only [List.range_succ, List.map_append, List.sum_append, sum_range_add f g l, List.map_cons, List.map_nil, List.sum_cons, List.sum_nil]; omega
theorem get_range {α : Type} {l : Nat} (f : Nat → α) {j : Nat} {y : α} (hj : ((List.range l).map f)[j]? = some y) : j < l ∧ y = f j := by
  obtain ⟨h1, h2⟩ := List.getElem?_eq_some_iff.1 hj
  simp at h1 h2
  exact ⟨h1, h2.symm⟩

set_option maxRecDepth 10000 in
/-- Bytes that were handed in. -/
theorem trod_bytes {H : Type} {enc : TypeId × Value → H} {W : World} {held : Bool} {fuel : Nat} {cs : List Value} {y : DataW H × List MemPlace} (h : DataW.trod enc Try.prog W 0 (fun _ => true) held fuel 33 cs = some y) (hf : Rows.uptoBulk y.1 ≤ 1048576) :
    ∃ ao n cap xs, cs = [.slice ao n cap] ∧ Rx (fun _ => True) W ao n cap xs ∧ n + 1 ≤ Rows.uptoBulk y.1 := by
  rcases open_ints Try.underlying33 Try.underlying5 cells5 h with ⟨hcs, hy⟩ | ⟨x, l, c, zs, hcs, _, hl, hm, hz, hx, hcell, hwz⟩
  · exact ⟨none, 0, 0, [], hcs, Rx.nil, one_le _⟩
  · subst hx
    simp only [if_true] at hz
    have hb : l + 1 ≤ Rows.uptoBulk (DataW.slice (H := H) (lits .u8 (zs.take l)) (lits .u8 (zs.drop l))) := by
      have h1 := length_le' (H := H) (lits .u8 (zs.take l))
      simp only [lits, List.length_map, List.length_take] at h1
      simp only [Rows.uptoBulk, lits]
      omega
    have hl9 : l ≤ 1048576 := by
      have h2 : Rows.uptoBulk (DataW.slice (H := H) (lits .u8 (zs.take l)) (lits .u8 (zs.drop l))) ≤ 1048576 := hf
      omega
    refine ⟨some x, l, c, (zs.take l).map fun z => UInt8.ofNat z.toNat, hcs, ⟨⟨by simp; omega, by omega, fun e => (by cases e), fun h0 => ?_⟩, hl, by unfold maxLen at hm; omega, fun e => (by cases e)⟩, hb⟩
    obtain ⟨b, off, spot⟩ := x
    have hs : spot = none := by
      have := hcell 0 (by omega)
      simpa [Addr.add] using World.cell?_spot this
    subst hs
    refine ⟨b, off, rfl, trivial, fun j u hj => ?_⟩
    obtain ⟨hj1, hj2⟩ := List.getElem?_eq_some_iff.1 hj
    simp at hj1 hj2
    have hjz : j < zs.length := by omega
    have hc := hcell j (by omega)
    rw [Addr.add_lit] at hc
    rw [hc]
    have hg : zs.getD j 0 = zs[j] := by simp [List.getD, List.getElem?_eq_getElem hjz]
    obtain ⟨m, hm1, hm2⟩ := u8_of_wf (hwz zs[j] (List.getElem_mem hjz))
    rw [hg, hm1, ← hj2, hm1, Int.toNat_natCast]
    congr 2
    simp
    omega

theorem item49 : ∃ f0 f1 : Field, Try.prog.underlying 49 = some (.struct #[f0, f1]) ∧ f0.offset = 0 ∧ f1.offset = 1 ∧ f0.type = 3 ∧ f1.type = 33 :=
  ⟨_, _, Try.underlying49, rfl, rfl, rfl, rfl⟩
theorem vid24 : ∃ f0 f1 : Field, Try.prog.underlying 24 = some (.struct #[f0, f1]) ∧ f0.offset = 0 ∧ f1.offset = 1 ∧ f0.type = 22 ∧ f1.type = 3 :=
  ⟨_, _, Try.underlying24, rfl, rfl, rfl, rfl⟩
theorem stat52 : ∃ f0 f1 f2 : Field, Try.prog.underlying 52 = some (.struct #[f0, f1, f2]) ∧ f0.offset = 0 ∧ f1.offset = 2 ∧ f2.offset = 3 ∧ f0.type = 24 ∧ f1.type = 3 ∧ f2.type = 28 :=
  ⟨_, _, _, Try.underlying52, rfl, rfl, rfl, rfl, rfl, rfl⟩

set_option maxRecDepth 10000 in
/-- An item that was handed in. -/
theorem trod_item {H : Type} {enc : TypeId × Value → H} {W : World} {held : Bool} {fuel : Nat} {cs : List Value} {y : DataW H × List MemPlace} (h : DataW.trod enc Try.prog W 0 (fun _ => true) held fuel 49 cs = some y) (hf : Rows.uptoBulk y.1 ≤ 1048576) :
    ∃ (x : Ix) (d : Di), cs = [.int .i64 x.1, .slice x.2.1 x.2.2.1 x.2.2.2] ∧ ItX (fun _ => True) W x d ∧ d.2.length + 1 ≤ Rows.uptoBulk y.1 := by
  obtain ⟨f0, f1, he, p0, p1, t0, t1⟩ := item49
  obtain ⟨xs, k, hk, hxy, hcl, hxl, hg⟩ := DataW.trod_struct he h
  rw [cells49] at hcl
  subst hxy
  match xs, hxl, cs, hcl with
  | [y0, y1], _, [v0, v1], _ =>
    have a0 := hg 0 f0 rfl
    have a1 := hg 1 f1 rfl
    simp [p0, p1, t0, t1, cells3, cells33] at a0 a1
    have hb : Rows.uptoBulk y1.1 ≤ Rows.uptoBulk (DataW.agg ([y0, y1].map (·.1))) := by simp only [Rows.uptoBulk, List.map_cons, List.map_nil, Rows.uptoBulkAll]; omega
    obtain ⟨n0, c0, _, w0⟩ := DataW.trod_int Try.underlying3 a0
    obtain ⟨ao, n, cap, ys, hcs, hrx, hn⟩ := trod_bytes a1 (Nat.le_trans hb hf)
    simp at c0 hcs
    subst c0 hcs
    have hyl := hrx.1.1
    exact ⟨(n0, ao, n, cap), (n0, ys), rfl, ⟨rfl, hrx⟩, Nat.le_trans (show ys.length + 1 ≤ Rows.uptoBulk y1.1 by omega) hb⟩

set_option maxRecDepth 10000 in
/-- Items that were handed in. -/
theorem trod_items {H : Type} {enc : TypeId × Value → H} {W : World} {held : Bool} {fuel : Nat} {cs : List Value} {y : DataW H × List MemPlace} (h : DataW.trod enc Try.prog W 0 (fun _ => true) held fuel 28 cs = some y) (hf : Rows.uptoBulk y.1 ≤ 1048576) :
    ∃ ao n cap ds, cs = [.slice ao n cap] ∧ ItsX (fun _ => True) W ao n ds ∧ n + itot ds + 1 ≤ Rows.uptoBulk y.1 := by
  rcases open_slice Try.underlying28 h with ⟨hcs, _⟩ | ⟨x, l, c, mm, n, D, Pl, hcs, hb, hl, hm, hmm, hy, hx⟩
  · exact ⟨none, 0, 0, [], hcs, ItsX.nil _ _, by have := one_le y.1; simp [itot]; omega⟩
  · subst hy
    simp only [if_true] at hmm
    have hbi : ∀ i, i < l → Rows.uptoBulk (D i) ≤ 1048576 := fun i hi => by
      have h1 : Rows.uptoBulk (D i) ≤ Rows.uptoBulkAll ((List.range l).map D) := part_le (List.mem_map.2 ⟨i, List.mem_range.2 hi, rfl⟩)
      have h2 : Rows.uptoBulk (DataW.slice ((List.range l).map D) ((List.range (mm - l)).map fun j => D (l + j))) ≤ 1048576 := hf
      simp only [Rows.uptoBulk] at h2
      omega
    have each : ∀ i, i < l → ∃ q : Ix × Di, (ItX (fun _ => True) W q.1 q.2 ∧ q.2.2.length + 1 ≤ Rows.uptoBulk (D i)) ∧ W.cell? (x.add (i * 2)) = some (.int .i64 q.1.1) ∧ W.cell? (x.add (i * 2 + 1)) = some (.slice q.1.2.1 q.1.2.2.1 q.1.2.2.2) := by
      intro i hi
      obtain ⟨cs', h1, h2⟩ := hx i (by omega)
      rw [cells49] at h1
      obtain ⟨_, hlen, hcell⟩ := World.cells?_some h1
      obtain ⟨q, d, rfl, hit, hbl⟩ := trod_item h2 (hbi i hi)
      refine ⟨(q, d), ⟨hit, hbl⟩, ?_, ?_⟩
      · have e0 := hcell 0 (by omega)
        rw [add_add] at e0
        exact e0
      · have e0 := hcell 1 (by omega)
        rw [add_add] at e0
        exact e0
    obtain ⟨q, hq⟩ := choose_lt each
    have hsum := bulk_slice (D := D) (l := l) (m := mm) (f := fun i => (q i).2.2.length + 1) (Nat.le_refl _) (fun i hi => (hq i hi).1.2)
    rw [sum_range_add (fun i => (q i).2.2.length) (fun _ => 1), sum_range_one] at hsum
    have hit : itot ((List.range l).map fun i => (q i).2) = ((List.range l).map fun i => (q i).2.2.length).sum := by unfold itot; rw [List.map_map]; rfl
    have hl9 : l ≤ 1048576 := by
      have h2 : Rows.uptoBulk (DataW.slice ((List.range l).map D) ((List.range (mm - l)).map fun j => D (l + j))) ≤ 1048576 := hf
      omega
    refine ⟨some x, l, c, (List.range l).map fun i => (q i).2, hcs, ⟨(List.range l).map fun i => (q i).1, ⟨by simp, by omega, fun e => (by cases e), fun h0 => ?_⟩, by simp, fun j u d hu hd => ?_⟩, by rw [hit]; exact Nat.le_trans (by omega) hsum⟩
    · obtain ⟨b, off, spot⟩ := x
      have hs : spot = none := by
        have := (hq 0 h0).2.1
        simpa [Addr.add] using World.cell?_spot this
      subst hs
      refine ⟨b, off, rfl, trivial, fun j u hj => ?_⟩
      obtain ⟨hjl, rfl⟩ := get_range _ hj
      have := (hq j hjl).2
      rw [Addr.add_lit, Addr.add_lit, ← Nat.add_assoc] at this
      exact this
    · obtain ⟨hjl, rfl⟩ := get_range _ hu
      obtain ⟨_, rfl⟩ := get_range _ hd
      exact (hq j hjl).1.1

set_option maxRecDepth 10000 in
/-- Messages that were handed in. -/
theorem trod_msgs {H : Type} {enc : TypeId × Value → H} {W : World} {held : Bool} {fuel : Nat} {cs : List Value} {y : DataW H × List MemPlace} (h : DataW.trod enc Try.prog W 0 (fun _ => true) held fuel 27 cs = some y) (hf : Rows.uptoBulk y.1 ≤ 1048576) :
    ∃ ao n cap ds, cs = [.slice ao n cap] ∧ MsX (fun _ => True) W ao n ds ∧ n + mtot ds + 1 ≤ Rows.uptoBulk y.1 := by
  rcases open_slice Try.underlying27 h with ⟨hcs, _⟩ | ⟨x, l, c, mm, n, D, Pl, hcs, hb, hl, hm, hmm, hy, hx⟩
  · exact ⟨none, 0, 0, [], hcs, MsX.nil _ _, by have := one_le y.1; simp [mtot]; omega⟩
  · subst hy
    simp only [if_true] at hmm
    have hbi : ∀ i, i < l → Rows.uptoBulk (D i) ≤ 1048576 := fun i hi => by
      have h1 : Rows.uptoBulk (D i) ≤ Rows.uptoBulkAll ((List.range l).map D) := part_le (List.mem_map.2 ⟨i, List.mem_range.2 hi, rfl⟩)
      have h2 : Rows.uptoBulk (DataW.slice ((List.range l).map D) ((List.range (mm - l)).map fun j => D (l + j))) ≤ 1048576 := hf
      simp only [Rows.uptoBulk] at h2
      omega
    have each : ∀ i, i < l → ∃ q : (Option Addr × Nat × Nat) × List UInt8, (Rx (fun _ => True) W q.1.1 q.1.2.1 q.1.2.2 q.2 ∧ q.2.length + 1 ≤ Rows.uptoBulk (D i)) ∧ W.cell? (x.add (i * 1)) = some (.slice q.1.1 q.1.2.1 q.1.2.2) := by
      intro i hi
      obtain ⟨cs', h1, h2⟩ := hx i (by omega)
      rw [cells33] at h1
      obtain ⟨_, hlen, hcell⟩ := World.cells?_some h1
      obtain ⟨ao, n', cap, xs, rfl, hrx, hbl⟩ := trod_bytes h2 (hbi i hi)
      have hxl := hrx.1.1
      refine ⟨((ao, n', cap), xs), ⟨hrx, by show xs.length + 1 ≤ _; rw [hxl]; exact hbl⟩, ?_⟩
      have e0 := hcell 0 (by omega)
      rw [add_add] at e0
      exact e0
    obtain ⟨q, hq⟩ := choose_lt each
    have hsum := bulk_slice (D := D) (l := l) (m := mm) (f := fun i => (q i).2.length + 1) (Nat.le_refl _) (fun i hi => (hq i hi).1.2)
    rw [sum_range_add (fun i => (q i).2.length) (fun _ => 1), sum_range_one] at hsum
    have hit : mtot ((List.range l).map fun i => (q i).2) = ((List.range l).map fun i => (q i).2.length).sum := by unfold mtot; rw [List.map_map]; rfl
    have hl9 : l ≤ 1048576 := by
      have h2 : Rows.uptoBulk (DataW.slice ((List.range l).map D) ((List.range (mm - l)).map fun j => D (l + j))) ≤ 1048576 := hf
      omega
    refine ⟨some x, l, c, (List.range l).map fun i => (q i).2, hcs, ⟨(List.range l).map fun i => (q i).1, ⟨by simp, by omega, fun e => (by cases e), fun h0 => ?_⟩, by simp, fun j u d hu hd => ?_⟩, by rw [hit]; exact Nat.le_trans (by omega) hsum⟩
    · obtain ⟨b, off, spot⟩ := x
      have hs : spot = none := by
        have := (hq 0 h0).2
        simpa [Addr.add] using World.cell?_spot this
      subst hs
      refine ⟨b, off, rfl, trivial, fun j u hj => ?_⟩
      obtain ⟨hjl, rfl⟩ := get_range _ hj
      have := (hq j hjl).2
      rw [Addr.add_lit, Nat.mul_one] at this
      exact this
    · obtain ⟨hjl, rfl⟩ := get_range _ hu
      obtain ⟨_, rfl⟩ := get_range _ hd
      exact (hq j hjl).1.1

set_option maxRecDepth 10000 in
/-- A state that was handed in. -/
theorem trod_state {H : Type} {enc : TypeId × Value → H} {W : World} {held : Bool} {fuel : Nat} {cs : List Value} {y : DataW H × List MemPlace} (h : DataW.trod enc Try.prog W 0 (fun _ => true) held fuel 52 cs = some y) (hf : Rows.uptoBulk y.1 ≤ 1048576) :
    ∃ (x : Sx) (d : Sd), cs = cellsS x ∧ SiX (fun _ => True) W x d ∧ (d.1 < 18446744073709551616 ∧ In64 d.2.1 ∧ In64 d.2.2.1) ∧ d.2.2.2.length + itot d.2.2.2 + 1 ≤ Rows.uptoBulk y.1 := by
  obtain ⟨f0, f1, f2, he, p0, p1, p2, t0, t1, t2⟩ := stat52
  obtain ⟨g0, g1, he', q0, q1, u0, u1⟩ := vid24
  obtain ⟨xs, k, hk, hxy, hcl, hxl, hg⟩ := DataW.trod_struct he h
  rw [cells52] at hcl
  subst hxy
  match xs, hxl, cs, hcl with
  | [y0, y1, y2], _, [v0, v1, v2, v3], _ =>
    have a0 := hg 0 f0 rfl
    have a1 := hg 1 f1 rfl
    have a2 := hg 2 f2 rfl
    simp [p0, p1, p2, t0, t1, t2, cells28, cells3, cells28'] at a0 a1 a2
    have hb : Rows.uptoBulk y2.1 ≤ Rows.uptoBulk (DataW.agg ([y0, y1, y2].map (·.1))) := by simp only [Rows.uptoBulk, List.map_cons, List.map_nil, Rows.uptoBulkAll]; omega
    obtain ⟨ys, k', hk', hyy, _, hyl, hg'⟩ := DataW.trod_struct he' a0
    match ys, hyl with
    | [z0, z1], _ =>
      have c0 := hg' 0 g0 rfl
      have c1 := hg' 1 g1 rfl
      simp [q0, q1, u0, u1, cells22, cells3] at c0 c1
      obtain ⟨n0, e0, _, w0⟩ := DataW.trod_int Try.underlying22 c0
      obtain ⟨n1, e1, _, w1⟩ := DataW.trod_int Try.underlying3 c1
      obtain ⟨n2, e2, _, w2⟩ := DataW.trod_int Try.underlying3 a1
      obtain ⟨ao, n, cap, ds, hcs, hits, hbl⟩ := trod_items a2 (Nat.le_trans hb hf)
      simp at e0 e1 e2 hcs
      subst e0 e1 e2 hcs
      obtain ⟨m0, rfl, hm0⟩ := u64_of_wf w0
      have hdl := hits.len
      exact ⟨(m0, n1, n2, ao, n, cap), (m0, n1, n2, ds), rfl, ⟨rfl, rfl, rfl, hits⟩, ⟨hm0, in_of_wf w1, in_of_wf w2⟩, Nat.le_trans (show ds.length + itot ds + 1 ≤ Rows.uptoBulk y2.1 by omega) hb⟩
set_option maxRecDepth 10000 in
/-- States that were handed in. -/
theorem trod_states {H : Type} {enc : TypeId × Value → H} {W : World} {held : Bool} {fuel : Nat} {cs : List Value} {y : DataW H × List MemPlace} (h : DataW.trod enc Try.prog W 0 (fun _ => true) held fuel 26 cs = some y) (hf : Rows.uptoBulk y.1 ≤ 1048576) :
    ∃ ao n cap ds, cs = [.slice ao n cap] ∧ SsX (fun _ => True) W ao n ds ∧ (∀ d ∈ ds, d.1 < 18446744073709551616 ∧ In64 d.2.1 ∧ In64 d.2.2.1) ∧ n + stot ds + 1 ≤ Rows.uptoBulk y.1 := by
  rcases open_slice Try.underlying26 h with ⟨hcs, _⟩ | ⟨x, l, c, mm, n, D, Pl, hcs, hb, hl, hm, hmm, hy, hx⟩
  · exact ⟨none, 0, 0, [], hcs, SsX.nil _ _, by simp, by have := one_le y.1; simp [stot]; omega⟩
  · subst hy
    simp only [if_true] at hmm
    have hbi : ∀ i, i < l → Rows.uptoBulk (D i) ≤ 1048576 := fun i hi => by
      have h1 : Rows.uptoBulk (D i) ≤ Rows.uptoBulkAll ((List.range l).map D) := part_le (List.mem_map.2 ⟨i, List.mem_range.2 hi, rfl⟩)
      have h2 : Rows.uptoBulk (DataW.slice ((List.range l).map D) ((List.range (mm - l)).map fun j => D (l + j))) ≤ 1048576 := hf
      simp only [Rows.uptoBulk] at h2
      omega
    have each : ∀ i, i < l → ∃ q : Sx × Sd, (SiX (fun _ => True) W q.1 q.2 ∧ (q.2.1 < 18446744073709551616 ∧ In64 q.2.2.1 ∧ In64 q.2.2.2.1) ∧ (q.2.2.2.2.length + itot q.2.2.2.2) + 1 ≤ Rows.uptoBulk (D i)) ∧ ∀ j, j < 4 → W.cell? (x.add (i * 4 + j)) = (cellsS q.1)[j]? := by
      intro i hi
      obtain ⟨cs', h1, h2⟩ := hx i (by omega)
      rw [cells52] at h1
      obtain ⟨_, hlen, hcell⟩ := World.cells?_some h1
      obtain ⟨q, d, rfl, hsi, hin, hbl⟩ := trod_state h2 (hbi i hi)
      refine ⟨(q, d), ⟨hsi, hin, hbl⟩, fun j hj => ?_⟩
      have e0 := hcell j (by omega)
      rw [add_add] at e0
      exact e0
    obtain ⟨q, hq⟩ := choose_lt each
    have hsum := bulk_slice (D := D) (l := l) (m := mm) (f := fun i => ((q i).2.2.2.2.length + itot (q i).2.2.2.2) + 1) (Nat.le_refl _) (fun i hi => (hq i hi).1.2.2)
    rw [sum_range_add (fun i => (q i).2.2.2.2.length + itot (q i).2.2.2.2) (fun _ => 1), sum_range_one] at hsum
    have hit : stot ((List.range l).map fun i => (q i).2) = ((List.range l).map fun i => (q i).2.2.2.2.length + itot (q i).2.2.2.2).sum := by unfold stot; rw [List.map_map]; rfl
    have hl9 : l ≤ 1048576 := by
      have h2 : Rows.uptoBulk (DataW.slice ((List.range l).map D) ((List.range (mm - l)).map fun j => D (l + j))) ≤ 1048576 := hf
      omega
    refine ⟨some x, l, c, (List.range l).map fun i => (q i).2, hcs, ⟨(List.range l).map fun i => (q i).1, ⟨by simp, by omega, fun e => (by cases e), fun h0 => ?_⟩, by simp, fun j u d hu hd => ?_⟩, fun d hd => ?_, by rw [hit]; exact Nat.le_trans (by omega) hsum⟩
    · obtain ⟨b, off, spot⟩ := x
      have hs : spot = none := by
        have := (hq 0 h0).2 0 (by omega)
        simpa [Addr.add] using World.cell?_spot this
      subst hs
      refine ⟨b, off, rfl, trivial, fun j u hj => ?_⟩
      obtain ⟨hjl, rfl⟩ := get_range _ hj
      have key := (hq j hjl).2
      have k0 := key 0 (by omega)
      have k1 := key 1 (by omega)
      have k2 := key 2 (by omega)
      have k3 := key 3 (by omega)
      rw [Addr.add_lit] at k0 k1 k2 k3
      rw [← Nat.add_assoc] at k0 k1 k2 k3
      exact ⟨k0, k1, k2, k3⟩
    · obtain ⟨hjl, rfl⟩ := get_range _ hu
      obtain ⟨_, rfl⟩ := get_range _ hd
      exact (hq j hjl).1.1
    · obtain ⟨i, hi, rfl⟩ := List.mem_map.1 hd
      exact (hq i (List.mem_range.1 hi)).1.2.1
end Go.Proofs.Ytfemjbaadnjanaa
namespace Go.Proofs.Ytfemjbaadnjanaa
open Go.ChangeShapes Go.WideShapes Go.ChangeAt Go.RowKit Go.Deep
set_option linter.unusedVariables false
set_option linter.unusedSimpArgs false

theorem frame30 : ∃ f0 f1 f2 f3 f4 f5 f6 f7 f8 f9 f10 f11 : Field, Try.prog.underlying 30 = some (.struct #[f0, f1, f2, f3, f4, f5, f6, f7, f8, f9, f10, f11]) ∧
    (f0.offset = 0 ∧ f1.offset = 1 ∧ f2.offset = 2 ∧ f3.offset = 4 ∧ f4.offset = 5 ∧ f5.offset = 7 ∧ f6.offset = 9 ∧ f7.offset = 10 ∧ f8.offset = 11 ∧ f9.offset = 12 ∧ f10.offset = 13 ∧ f11.offset = 14) ∧
    (f0.type = 5 ∧ f1.type = 3 ∧ f2.type = 24 ∧ f3.type = 25 ∧ f4.type = 24 ∧ f5.type = 24 ∧ f6.type = 26 ∧ f7.type = 22 ∧ f8.type = 27 ∧ f9.type = 28 ∧ f10.type = 22 ∧ f11.type = 22) :=
  ⟨_, _, _, _, _, _, _, _, _, _, _, _, Try.underlying30, ⟨rfl, rfl, rfl, rfl, rfl, rfl, rfl, rfl, rfl, rfl, rfl, rfl⟩, ⟨rfl, rfl, rfl, rfl, rfl, rfl, rfl, rfl, rfl, rfl, rfl, rfl⟩⟩
/-- A view's number that was handed in. -/
theorem trod_vid {H : Type} {enc : TypeId × Value → H} {W : World} {held : Bool} {fuel : Nat} {v0 v1 : Value} {y : DataW H × List MemPlace} (h : DataW.trod enc Try.prog W 0 (fun _ => true) held fuel 24 [v0, v1] = some y) : ∃ (n : Nat) (p : Int), v0 = .int .u64 (n : Nat) ∧ v1 = .int .i64 p ∧ n < 18446744073709551616 ∧ In64 p := by
  obtain ⟨g0, g1, he', q0, q1, u0, u1⟩ := vid24
  obtain ⟨ys, k', hk', hyy, _, hyl, hg'⟩ := DataW.trod_struct he' h
  match ys, hyl with
  | [z0, z1], _ =>
    have c0 := hg' 0 g0 rfl
    have c1 := hg' 1 g1 rfl
    simp [q0, q1, u0, u1, cells22, cells3] at c0 c1
    obtain ⟨n0, e0, _, w0⟩ := DataW.trod_int Try.underlying22 c0
    obtain ⟨n1, e1, _, w1⟩ := DataW.trod_int Try.underlying3 c1
    simp at e0 e1
    subst e0 e1
    obtain ⟨m0, rfl, hm0⟩ := u64_of_wf w0
    exact ⟨m0, n1, rfl, rfl, hm0, in_of_wf w1⟩

set_option maxRecDepth 10000 in
set_option maxHeartbeats 1000000 in
/-- A frame that was handed in. -/
theorem trod_frame {H : Type} {enc : TypeId × Value → H} {W : World} {held : Bool} {fuel : Nat} {cs : List Value} {y : DataW H × List MemPlace} (h : DataW.trod enc Try.prog W 0 (fun _ => true) held fuel 30 cs = some y) (hf : Rows.uptoBulk y.1 ≤ 1048576) :
    ∃ (F : PF) (a : Fa), cs = (fcells F a).toList ∧ FIn (fun _ => True) W F a ∧ POk F ∧ tot F ≤ Rows.uptoBulk y.1 := by
  obtain ⟨f0, f1, f2, f3, f4, f5, f6, f7, f8, f9, f10, f11, he, ⟨p0, p1, p2, p3, p4, p5, p6, p7, p8, p9, p10, p11⟩, t0, t1, t2, t3, t4, t5, t6, t7, t8, t9, t10, t11⟩ := frame30
  obtain ⟨xs, k, hk, hxy, hcl, hxl, hg⟩ := DataW.trod_struct he h
  rw [cells30] at hcl
  subst hxy
  match xs, hxl, cs, hcl with
  | [y0, y1, y2, y3, y4, y5, y6, y7, y8, y9, y10, y11], _, [v0, v1, v2, v3, v4, v5, v6, v7, v8, v9, v10, v11, v12, v13, v14], _ =>
    have a0 := hg 0 f0 rfl
    have a1 := hg 1 f1 rfl
    have a2 := hg 2 f2 rfl
    have a3 := hg 3 f3 rfl
    have a4 := hg 4 f4 rfl
    have a5 := hg 5 f5 rfl
    have a6 := hg 6 f6 rfl
    have a7 := hg 7 f7 rfl
    have a8 := hg 8 f8 rfl
    have a9 := hg 9 f9 rfl
    have a10 := hg 10 f10 rfl
    have a11 := hg 11 f11 rfl
    clear hg
    simp [p0, t0, cells5] at a0
    simp [p1, t1, cells3] at a1
    simp [p2, t2, cells28] at a2
    simp [p3, t3, cells25] at a3
    simp [p4, t4, cells28] at a4
    simp [p5, t5, cells28] at a5
    simp [p6, t6, cells26] at a6
    simp [p7, t7, cells22] at a7
    simp [p8, t8, cells27] at a8
    simp [p9, t9, cells28'] at a9
    simp [p10, t10, cells22] at a10
    simp [p11, t11, cells22] at a11
    have hall : Rows.uptoBulk y6.1 + Rows.uptoBulk y8.1 + Rows.uptoBulk y9.1 ≤ Rows.uptoBulk (DataW.agg ([y0, y1, y2, y3, y4, y5, y6, y7, y8, y9, y10, y11].map (·.1))) := by
      simp only [Rows.uptoBulk, List.map_cons, List.map_nil, Rows.uptoBulkAll]; omega
    have hf' : Rows.uptoBulk (DataW.agg ([y0, y1, y2, y3, y4, y5, y6, y7, y8, y9, y10, y11].map (·.1))) ≤ 1048576 := hf
    obtain ⟨k0, e0, _, w0⟩ := DataW.trod_int Try.underlying5 a0
    obtain ⟨fr, e1, _, w1⟩ := DataW.trod_int Try.underlying3 a1
    obtain ⟨n2, p2', rfl, rfl, hn2, hp2⟩ := trod_vid a2
    obtain ⟨se, e3, _, w3⟩ := DataW.trod_int Try.underlying25 a3
    obtain ⟨n4, p4', rfl, rfl, hn4, hp4⟩ := trod_vid a4
    obtain ⟨n5, p5', rfl, rfl, hn5, hp5⟩ := trod_vid a5
    obtain ⟨so, sn, sc, sd, e6, hs, hsok, hsb⟩ := trod_states a6 (by omega)
    obtain ⟨ba, e7, _, w7⟩ := DataW.trod_int Try.underlying22 a7
    obtain ⟨mo, mn, mc, md, e8, hm, hmb⟩ := trod_msgs a8 (by omega)
    obtain ⟨io, inn, ic, idd, e9, hi, hib⟩ := trod_items a9 (by omega)
    obtain ⟨ac, e10, _, w10⟩ := DataW.trod_int Try.underlying22 a10
    obtain ⟨sa, e11, _, w11⟩ := DataW.trod_int Try.underlying22 a11
    simp at e0 e1 e3 e6 e7 e8 e9 e10 e11
    subst e0 e1 e3 e6 e7 e8 e9 e10 e11
    obtain ⟨kd, rfl, hkd⟩ := u8_of_wf w0
    obtain ⟨st, rfl, hst⟩ := u16_of_wf w3
    obtain ⟨b, rfl, hbb⟩ := u64_of_wf w7
    obtain ⟨ak, rfl, hak⟩ := u64_of_wf w10
    obtain ⟨sf, rfl, hsf⟩ := u64_of_wf w11
    have hsl : sd.length = sn := by obtain ⟨_, _, h2, _⟩ := hs; exact h2
    have hml : md.length = mn := by obtain ⟨_, _, h2, _⟩ := hm; exact h2
    have hil : idd.length = inn := hi.len
    subst hsl hml hil
    refine ⟨⟨kd, fr, n2, p2', st, n4, p4', n5, p5', sd, b, md, idd, ak, sf⟩, ⟨so, sc, mo, mc, io, ic⟩, rfl, ⟨hs, hm, hi⟩, ⟨hkd, in_of_wf w1, hn2, hp2, hst, hn4, hp4, hn5, hp5, hsok, hbb, hak, hsf⟩, ?_⟩
    refine Nat.le_trans ?_ hall
    show md.length + idd.length + sd.length + mtot md + itot idd + stot sd ≤ _
    omega
set_option maxRecDepth 10000 in
theorem open_frame {H : Type} {enc : TypeId × Value → H} {W : World} {base : Nat} {v : Value} {d : DataW H} {p : List MemPlace} (hv : Value.okWide Try.prog W .any base 30 v) (h : DataW.Trod enc Try.prog W 0 (fun _ => true) true 30 v d p) (hf : Rows.uptoBulk d ≤ 1048576) :
    ∃ (F : PF) (a : Fa), v = fval F a ∧ FIn (fun _ => True) W F a ∧ POk F ∧ tot F ≤ 1048576 := by
  obtain ⟨f0, f1, f2, f3, f4, f5, f6, f7, f8, f9, f10, f11, he, _⟩ := frame30
  obtain ⟨cs, rfl, hs⟩ := okWide_struct he hv
  obtain ⟨fuel, hf'⟩ := h
  obtain ⟨F, a, hc, hin, hok, ht⟩ := trod_frame hf' hf
  refine ⟨F, a, ?_, hin, hok, Nat.le_trans ht hf⟩
  have e : cs.toList = (fcells F a).toList := by simpa [Value.cells] using hc
  unfold fval
  rw [Array.toList_inj.1 e]
end Go.Proofs.Ytfemjbaadnjanaa
