/-
  What all views are, as a statement gathers them: plain facts, and how they lie beside the nodes.
-/
import Derived.Test.YtlonbbepoamnmaaDoorMGrpM
import Derived.Test.YtlonbbepoamnmaaDoorMVArgs
namespace Go.Proofs.YtlonbbepoamnmaaDoor
open Go.RowKit
set_option linter.unusedVariables false

/-- Nodes behind so many moves. -/
def MvSt (W0 : World) (B : Nat → Prop) (n gq k : Nat) (w : World) : Prop := ∃ g H, GrpOk W0 B n gq g w ∧ GInv n g H ∧ g.bag.length ≤ 16 * k ∧ ∀ i, (g.views i).length ≤ k
theorem mvst_new {W0 w : World} {B : Nat → Prop} {n gq : Nat} (h : GrpOk W0 B n gq (begG n) w) (h1 : 1 ≤ n) (h6 : n ≤ 6) : MvSt W0 B n gq 0 w := ⟨_, [], h, beg_inv n h1 h6, Nat.zero_le _, fun _ => Nat.le_refl _⟩
theorem mvst_move {W0 w : World} {B : Nat → Prop} {n gq k : Nat} (h : MvSt W0 B n gq k w) (hk : k ≤ 500000) (a : Mv) (ha : a.kind < 256 ∧ a.i < 256 ∧ a.est < 65536) : Calls Tryd.prog 25 #[.pointer (some ⟨gq, 0, none⟩), mval a] w fun e w' => e = .returned (.tuple #[]) ∧ MvSt W0 B n gq (k + 1) w' := by
  obtain ⟨g, H, h1, h2, h3, h4⟩ := h
  refine (move_any h1 h2 a ha (by omega) (fun i => by have := h4 i; omega)).mono ?_
  rintro e w' ⟨rfl, h5⟩
  obtain ⟨H', h6, _⟩ := move_inv h2 a
  have h7 := move_sz n (by have := h2.n6; omega) g a
  exact ⟨rfl, _, H', h5, h6, by omega, fun i => by have := h7.2 i; have := h4 i; omega⟩

theorem cmpV_one {n1 n2 : Nat} {p1 p2 : Int} (h : vlt (n2, p2) (n1, p1)) : cmpV n1 p1 n2 p2 = 1 := by
  have h' : n2 < n1 ∨ n2 = n1 ∧ p2 < p1 := h
  unfold cmpV sgn
  repeat' split
  all_goals (first | rfl | omega)
theorem cmpV_ge {n1 n2 : Nat} {p1 p2 : Int} (h : vle (n2, p2) (n1, p1)) : ¬ cmpV n1 p1 n2 p2 < 0 := by
  have h' : n2 < n1 ∨ n2 = n1 ∧ p2 ≤ p1 := h
  unfold cmpV sgn
  repeat' split
  all_goals omega
def lastV (vs : List (Vid × Nat)) (k : Nat) : Vid := ((vs.take k).getLastD ((0, 0), 0)).1
theorem lastV_succ {vs : List (Vid × Nat)} {k : Nat} {v : Vid × Nat} (h : vs[k]? = some v) : lastV vs (k + 1) = v.1 := by
  unfold lastV
  rw [List.take_add_one, h]
  simp
def allV (g : Gp) (i : Nat) : List (Vid × Nat) := (List.range i).flatMap g.views
theorem allV_succ (g : Gp) (i : Nat) : allV g (i + 1) = allV g i ++ g.views i := by unfold allV; rw [List.range_succ, List.flatMap_append]; simp
theorem allV_mem {g : Gp} {i : Nat} {x : Vid × Nat} (h : x ∈ allV g i) : ∃ j, j < i ∧ x ∈ g.views j := by
  unfold allV at h
  obtain ⟨j, hj, hx⟩ := List.mem_flatMap.1 h
  exact ⟨j, List.mem_range.1 hj, hx⟩
section
variable {n i : Nat} {g : Gp} {H : List (Vid × Nat)}
theorem view_in (h : GInv n g H) (hi : i < n) {v : Vid × Nat} (hv : v ∈ g.views i) : v ∈ H ∧ v.2.testBit i = true ∧ v.2 < 65536 ∧ 1 ≤ v.1.1 := by
  obtain ⟨_, h2, _⟩ := h.views i hi
  obtain ⟨a, b⟩ := h2 v hv
  obtain ⟨_, _, _, h3, _, _, h4, _⟩ := h.hok v.1 v.2 a
  have : 2 ^ n ≤ 2 ^ 6 := Nat.pow_le_pow_right (by omega) h.n6
  exact ⟨a, b, by omega, h3⟩
theorem view_rise (h : GInv n g H) (hi : i < n) {k : Nat} {v : Vid × Nat} (hv : (g.views i)[k]? = some v) : vlt (lastV (g.views i) k) v.1 := by
  obtain ⟨h1, _, _⟩ := h.views i hi
  cases k with
  | zero =>
    have := (view_in h hi (List.mem_of_getElem? hv)).2.2.2
    show vlt (0, 0) v.1
    left
    show 0 < v.1.1
    omega
  | succ k =>
    obtain ⟨hl, e⟩ := List.getElem?_eq_some_iff.1 hv
    have hk : (g.views i)[k]? = some (g.views i)[k] := List.getElem?_eq_getElem (by omega)
    rw [lastV_succ hk, ← e]
    exact List.pairwise_iff_getElem.1 h1 k (k + 1) (by omega) hl (by omega)
theorem view_uniq (h : GInv n g H) (hi : i < n) {j : Nat} (hj : j ≤ n) {x y : Vid × Nat} (hx : x ∈ allV g j ∨ x ∈ g.views i) (hy : y ∈ g.views i) (e : x.1 = y.1) : x = y := by
  have hxH : x ∈ H := by
    rcases hx with hx | hx
    · obtain ⟨k, hk, hx⟩ := allV_mem hx
      exact (view_in h (Nat.lt_of_lt_of_le hk hj) hx).1
    · exact (view_in h hi hx).1
  have hyH := (view_in h hi hy).1
  have : x.2 = y.2 := h.uniq x.1 x.2 y.2 hxH (by rw [e]; exact hyH)
  exact Prod.ext e this
theorem cur_last (h : GInv n g H) (hi : i < n) : (g.ms i).cur = lastV (g.views i) (g.views i).length := by
  obtain ⟨_, _, h3⟩ := h.views i hi
  unfold lastV
  rw [List.take_length]
  exact congrArg Prod.fst h3
end

section
variable {W0 w w' w1 : World} {col : Nat → Nat} {B : Nat → Prop} {n kl kv gq : Nat} {A : Ga} {g : Gp}
/-- Others' blocks turn. -/
theorem Gs.alien (h : Gs W0 B w col n kl kv gq A g) (e1 : w'.os = w.os) (e2 : w'.tape = w.tape) (e3 : w'.output = w.output) (hs : w.heap.size ≤ w'.heap.size) (hb : ∀ b, b < w.heap.size → (col b ≠ 0 ∨ B b) → w'.heap[b]? = w.heap[b]?) : Gs W0 B w' col n kl kv gq A g := by
  have hc : ∀ b, col b ≠ 0 → w'.heap[b]? = w.heap[b]? := fun b hb' => hb b (h.lo b hb').2 (.inl hb')
  have h0 : w'.heap[0]? = w.heap[0]? := hb 0 (h.hB 0 h.hB1) (.inr h.hB1)
  have hg := hc gq (by rw [h.cg]; decide)
  have kp : ∀ c, c ≠ 0 → Kp (fun b => col b = c) w w' := fun c hc0 ad u hz hcc => by rw [World.cell?_of_block (w := w) (hc _ (by rw [hz]; exact hc0))]; exact hcc
  obtain ⟨L, l1, l2, l3, l4⟩ := h.bag
  exact {
    bel := ⟨e1.trans h.bel.os, e2.trans h.bel.tape, e3.trans h.bel.output, Nat.le_trans h.bel.size hs, fun k hk => (hb k (h.hB k hk) (.inr hk)).trans (h.bel.block k hk)⟩
    hB := fun b hb' => Nat.lt_of_lt_of_le (h.hB b hb') hs
    hB1 := h.hB1
    tab := h.tab.keep h0
    lo := fun b hb' => ⟨(h.lo b hb').1, Nat.lt_of_lt_of_le (h.lo b hb').2 hs⟩
    n6 := h.n6
    kl6 := h.kl6
    kv6 := h.kv6
    cg := h.cg
    fz := fun k => by rw [frozen_block hg]; exact h.fz k
    c0 := by rw [cell_block hg]; exact h.c0
    c1 := by rw [cell_block hg]; exact h.c1
    c2 := by rw [cell_block hg]; exact h.c2
    c3 := by rw [cell_block hg]; exact h.c3
    l := ⟨row_block h.l.1 (fun b hb' => hc b (by rw [h.l.2 b hb']; decide)), h.l.2⟩
    bag := ⟨L, l1, row_block l2 (fun b hb' => hc b (by rw [l3 b hb']; decide)), l3, l4.keep (kp 5 (by decide))⟩
    vs := ⟨row_block h.vs.1 (fun b hb' => hc b (by rw [h.vs.2.1 b hb']; decide)), h.vs.2.1, fun i x hx => ⟨row_block (h.vs.2.2 i x hx).1 (fun b hb' => hc b (by rw [(h.vs.2.2 i x hx).2 b hb']; omega)), (h.vs.2.2 i x hx).2⟩⟩
    mb := fun i hi => (h.mb i hi).frame (fun b hb' => hc b (by rw [hb']; omega)) h0 hs (kp 5 (by decide)) (fun _ h => h) (fun b hb' hf => by rw [hb'] at hf; omega) (fun b hb' => Nat.lt_of_lt_of_le (h.lo b (by rw [hb']; decide)).2 hs) }
/-- All views gathered so far, and the last one of a node. -/
def Vw (W0 : World) (B : Nat → Prop) (n gq : Nat) (g : Gp) (av : Value) (all : List (Vid × Nat)) (lx : Option (Nat × Vid)) (w : World) : Prop :=
  ∃ col A, Gs W0 B w col n n n gq A g ∧ w.ownsRow 1 34 3 av all.length (flatV all) ∧ (∀ b, av.ownBlock = some b → col b = 0 ∧ ¬ B b) ∧
    ∀ x l, lx = some (x, l) → col x = 0 ∧ ¬ B x ∧ x < w.heap.size ∧ av.ownBlock ≠ some x ∧ w.cell? ⟨x, 0, none⟩ = some (.int .u64 (l.1 : Nat)) ∧ w.cell? ⟨x, 1, none⟩ = some (.int .i64 l.2) ∧ ∀ k, w.frozen? ⟨x, k, none⟩ = false
variable {av : Value} {all : List (Vid × Nat)} {lx : Option (Nat × Vid)}
theorem Vw.up (h : Vw W0 B n gq g av all lx w) (u : Below w.heap.size w w') : Vw W0 B n gq g av all lx w' := by
  obtain ⟨col, A, h1, h2, h3, h4⟩ := h
  refine ⟨col, A, h1.up u, row_block h2 (fun b hb => u.block b (h2.lt b hb).2), h3, fun x l hx => ?_⟩
  obtain ⟨a, b, c, d, e, f, k⟩ := h4 x l hx
  exact ⟨a, b, Nat.lt_of_lt_of_le c u.size, d, (u.cell c).trans e, (u.cell c).trans f, fun j => (u.frozen c).trans (k j)⟩
theorem Vw.drew (h : Vw W0 B n gq g av all lx w) : Vw W0 B n gq g av all lx w.drew := h.up ((Below.refl _ _).drew)
theorem Vw.first (h : Vw W0 B n gq g av all none w) : Vw W0 B n gq g av all (some (w.heap.size, (0, 0))) (w.alloc (.cells #[.int .u64 0, .int .i64 0] 31)) := by
  obtain ⟨col, A, h1, h2, h3, h4⟩ := h.up (bl1 w (.cells #[.int .u64 0, .int .i64 0] 31))
  have hb : (w.alloc (.cells #[.int .u64 0, .int .i64 0] 31)).heap[w.heap.size]? = some (.cells #[.int .u64 0, .int .i64 0] 31 (0, 0)) := heap_alloc_new _ _
  obtain ⟨col', A', k1, k2, k3, _⟩ := h
  refine ⟨col', A', k1.up (bl1 w _), row_block k2 (fun b hb => (bl1 w _).block b (k2.lt b hb).2), k3, fun x l hx => ?_⟩
  simp only [Option.some.injEq, Prod.mk.injEq] at hx
  obtain ⟨rfl, rfl⟩ := hx
  refine ⟨?_, fun h => absurd (k1.hB _ h) (Nat.lt_irrefl _), by simp, fun e => ?_, heap_cell (j := 0) hb rfl, heap_cell (j := 1) hb rfl, fun k => by unfold World.frozen?; rw [hb]; simp⟩
  · by_cases e : col' w.heap.size = 0
    · exact e
    · have := (k1.lo _ e).2; omega
  · have := (k2.lt _ e).2; omega
theorem Vw.forget (h : Vw W0 B n gq g av all lx w) : Vw W0 B n gq g av all none w := by
  obtain ⟨col, A, h1, h2, h3, _⟩ := h
  exact ⟨col, A, h1, h2, h3, fun x l hx => by cases hx⟩
theorem Vw.last {x : Nat} {l : Vid} (h : Vw W0 B n gq g av all (some (x, l)) w) (l' : Vid) : Vw W0 B n gq g av all (some (x, l')) ((w.setCell ⟨x, 0, none⟩ (.int .u64 (l'.1 : Nat))).setCell ⟨x, 1, none⟩ (.int .i64 l'.2)) := by
  obtain ⟨col, A, h1, h2, h3, h4⟩ := h
  obtain ⟨a, b, c, d, e, f, k⟩ := h4 x l rfl
  have hbk : ∀ y, y ≠ x → ((w.setCell ⟨x, 0, none⟩ (.int .u64 (l'.1 : Nat))).setCell ⟨x, 1, none⟩ (.int .i64 l'.2)).heap[y]? = w.heap[y]? := fun y hy => (Below.heap_setCell _ _ _ _ hy).trans (Below.heap_setCell _ _ _ _ hy)
  refine ⟨col, A, h1.alien rfl rfl rfl (by simp [World.size_setCell]) (fun y _ hy => hbk y (fun e => by
    rcases hy with hy | hy
    · rw [e] at hy; exact hy a
    · rw [e] at hy; exact b hy)), row_block h2 (fun y hy => hbk y (fun e => d (by rw [hy, e]))), h3, fun x' l'' hx => ?_⟩
  simp only [Option.some.injEq, Prod.mk.injEq] at hx
  obtain ⟨rfl, rfl⟩ := hx
  exact ⟨a, b, by simp [World.size_setCell]; exact c, d, by rw [set_other (by decide)]; exact set_cell e, set_cell (by rw [set_other (by decide)]; exact f), fun j => by rw [World.frozen?_setCell, World.frozen?_setCell]; exact k j⟩
theorem Vw.more {av' : Value} {v : Vid × Nat} (h : Vw W0 B n gq g av all lx w) (gr : w.grownBy w1 av.ownBlock) (hrow : w1.ownsRow 1 34 3 av' (all.length + 1) (flatV all ++ vcells v)) (hat : av'.ownBlock = av.ownBlock ∨ av'.ownBlock = some w.heap.size) : Vw W0 B n gq g av' (all ++ [v]) lx w1 := by
  obtain ⟨col, A, h1, h2, h3, h4⟩ := h
  refine ⟨col, A, h1.alien gr.os gr.tape gr.output gr.size (fun b hb hc => gr.block b hb (fun e => by
    have := h3 b e.symm
    exact hc.elim (fun h => h this.1) this.2)), by rw [flatV_app, flatV_one, List.length_append]; exact hrow, fun b hb => ?_, fun x l hx => ?_⟩
  · rcases hat with e | e
    · exact h3 b (by rw [← e]; exact hb)
    · rw [e] at hb
      have : w.heap.size = b := by simpa using hb
      subst this
      refine ⟨?_, fun h => absurd (h1.hB _ h) (Nat.lt_irrefl _)⟩
      by_cases e : col w.heap.size = 0
      · exact e
      · have := (h1.lo _ e).2; omega
  · obtain ⟨a, b, c, d, e, f, k⟩ := h4 x l hx
    have hbx : w1.heap[x]? = w.heap[x]? := gr.block x c (fun e => d e.symm)
    refine ⟨a, b, Nat.lt_of_lt_of_le c gr.size, fun e' => ?_, by rw [cell_block hbx]; exact e, by rw [cell_block hbx]; exact f, fun j => by rw [frozen_block hbx]; exact k j⟩
    rcases hat with e2 | e2
    · exact d (by rw [← e2]; exact e')
    · rw [e2] at e'
      have : w.heap.size = x := by simpa using e'
      omega
end
end Go.Proofs.YtlonbbepoamnmaaDoor
