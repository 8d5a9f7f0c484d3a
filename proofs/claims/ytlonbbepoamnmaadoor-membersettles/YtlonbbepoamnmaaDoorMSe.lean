/-
  Nodes in their rounds, and a view that a statement keeps beside them in memory.
-/
import Derived.Test.YtlonbbepoamnmaaDoorMVw0
import Derived.Test.YtlonbbepoamnmaaDoorPSet4
import Derived.Deep.CutBlock
namespace Go.Proofs.YtlonbbepoamnmaaDoor
open Go.RowKit
set_option linter.unusedVariables false

section
variable {W0 w w' : World} {col : Nat → Nat} {B : Nat → Prop} {n gq vx : Nat} {A : Ga} {g g' : Gp} {v : Vid × Nat} {H : List (Vid × Nat)}
theorem Gs.rebase (h : Gs W0 B w col n n n gq A g) : Gs w (fun b => b < w.heap.size ∧ col b = 0) w col n n n gq A g :=
  { h with
    bel := ⟨rfl, rfl, rfl, Nat.le_refl _, fun _ _ => rfl⟩
    hB := fun b hb => hb.1
    hB1 := ⟨h.hB 0 h.hB1, by
      by_cases e : col 0 = 0
      · exact e
      · exact absurd h.hB1 (h.lo 0 e).1⟩
    lo := fun b hb => ⟨fun e => hb e.2, (h.lo b hb).2⟩ }
theorem Gs.back {col' : Nat → Nat} {A' : Ga} (h : Gs W0 B w col n n n gq A g) (h' : Gs w (fun b => b < w.heap.size ∧ col b = 0) w' col' n n n gq A' g') : Gs W0 B w' col' n n n gq A' g' := by
  have hk : ∀ b, B b → b < w.heap.size ∧ col b = 0 := fun b hb => ⟨h.hB b hb, by
    by_cases e : col b = 0
    · exact e
    · exact absurd hb (h.lo b e).1⟩
  exact { h' with
    bel := ⟨h'.bel.os.trans h.bel.os, h'.bel.tape.trans h.bel.tape, h'.bel.output.trans h.bel.output, Nat.le_trans h.bel.size h'.bel.size, fun b hb => (h'.bel.block b (hk b hb)).trans (h.bel.block b hb)⟩
    hB := fun b hb => h'.hB b (hk b hb)
    hB1 := h.hB1
    lo := fun b hb => ⟨fun e => (h'.lo b hb).1 (hk b e), (h'.lo b hb).2⟩ }
/-- Nodes, and a view in a block of its own. -/
def Sw (W0 : World) (B : Nat → Prop) (n gq vx : Nat) (g : Gp) (v : Vid × Nat) (w : World) : Prop := BagSz g.bag ∧ ∃ col A, Gs W0 B w col n n n gq A g ∧ col vx = 0 ∧ ¬ B vx ∧ vx < w.heap.size ∧ w.cell? ⟨vx, 0, none⟩ = some (.int .u64 (v.1.1 : Nat)) ∧ w.cell? ⟨vx, 1, none⟩ = some (.int .i64 v.1.2) ∧ w.cell? ⟨vx, 2, none⟩ = some (.int .u16 (v.2 : Nat)) ∧ ∀ k, w.frozen? ⟨vx, k, none⟩ = false
theorem Sw.up (h : Sw W0 B n gq vx g v w) (u : Below w.heap.size w w') : Sw W0 B n gq vx g v w' := by
  obtain ⟨hs, col, A, h1, h2, h3, h4, h5, h6, h7, h8⟩ := h
  exact ⟨hs, col, A, h1.up u, h2, h3, Nat.lt_of_lt_of_le h4 u.size, (u.cell h4).trans h5, (u.cell h4).trans h6, (u.cell h4).trans h7, fun k => (u.frozen h4).trans (h8 k)⟩
theorem sw_new (h : GrpOk W0 B n gq g w) : Sw W0 B n gq w.heap.size g ((0, 0), 0) (w.alloc (.cells #[.int .u64 0, .int .i64 0, .int .u16 0] 34)) := by
  obtain ⟨hs, col, A, h1⟩ := h
  have hb : (w.alloc (.cells #[.int .u64 0, .int .i64 0, .int .u16 0] 34)).heap[w.heap.size]? = some (.cells #[.int .u64 0, .int .i64 0, .int .u16 0] 34 (0, 0)) := heap_alloc_new _ _
  refine ⟨hs, col, A, h1.up (bl1 w _), ?_, fun hb => absurd (h1.hB _ hb) (Nat.lt_irrefl _), by simp, heap_cell (j := 0) hb rfl, heap_cell (j := 1) hb rfl, heap_cell (j := 2) hb rfl, fun k => by unfold World.frozen?; rw [hb]; simp⟩
  by_cases e : col w.heap.size = 0
  · exact e
  · have := (h1.lo _ e).2; omega
theorem Sw.move (h : Sw W0 B n gq vx g v w) (hinv : GInv n g H) (a : Mv) (ha : a.kind < 256 ∧ a.i < 256 ∧ a.est < 65536) (hb : g.bag.length ≤ 9000000) (hv : ∀ i, (g.views i).length ≤ 9000000) :
    Calls Tryd.prog 25 #[.pointer (some ⟨gq, 0, none⟩), mval a] w fun e w' => e = .returned (.tuple #[]) ∧ Sw W0 B n gq vx (g.move n a) v w' := by
  obtain ⟨hs, col, A, h1, h2, h3, h4, h5, h6, h7, h8⟩ := h
  refine (move_any (W0 := w) (B := fun b => b < w.heap.size ∧ col b = 0) ⟨hs, col, A, h1.rebase⟩ hinv a ha hb hv).mono ?_
  rintro e w' ⟨rfl, hs', col', A', hG⟩
  have hbx := hG.bel.block vx ⟨h4, h2⟩
  refine ⟨rfl, hs', col', A', h1.back hG, ?_, h3, Nat.lt_of_lt_of_le h4 hG.bel.size, (cell_block hbx).trans h5, (cell_block hbx).trans h6, (cell_block hbx).trans h7, fun k => (frozen_block hbx).trans (h8 k)⟩
  by_cases e : col' vx = 0
  · exact e
  · exact absurd ⟨h4, h2⟩ (hG.lo vx e).1
theorem Sw.set (h : Sw W0 B n gq vx g v w) (v' : Vid × Nat) : Sw W0 B n gq vx g v' (((w.setCell ⟨vx, 0, none⟩ (.int .u64 (v'.1.1 : Nat))).setCell ⟨vx, 1, none⟩ (.int .i64 v'.1.2)).setCell ⟨vx, 2, none⟩ (.int .u16 (v'.2 : Nat))) := by
  obtain ⟨hs, col, A, h1, h2, h3, h4, h5, h6, h7, h8⟩ := h
  have hbk : ∀ y, y ≠ vx → (((w.setCell ⟨vx, 0, none⟩ (.int .u64 (v'.1.1 : Nat))).setCell ⟨vx, 1, none⟩ (.int .i64 v'.1.2)).setCell ⟨vx, 2, none⟩ (.int .u16 (v'.2 : Nat))).heap[y]? = w.heap[y]? := fun y hy => (Below.heap_setCell _ _ _ _ hy).trans ((Below.heap_setCell _ _ _ _ hy).trans (Below.heap_setCell _ _ _ _ hy))
  refine ⟨hs, col, A, h1.alien rfl rfl rfl (by simp [World.size_setCell]) (fun y _ hy => hbk y (fun e => by
    rcases hy with hy | hy
    · rw [e] at hy; exact hy h2
    · rw [e] at hy; exact h3 hy)), h2, h3, by simp [World.size_setCell]; exact h4, ?_, ?_, ?_, fun k => by rw [World.frozen?_setCell, World.frozen?_setCell, World.frozen?_setCell]; exact h8 k⟩
  · rw [set_other (by decide), set_other (by decide)]; exact set_cell h5
  · rw [set_other (by decide)]; exact set_cell (by rw [set_other (by decide)]; exact h6)
  · exact set_cell (by rw [set_other (by decide), set_other (by decide)]; exact h7)
/-- How much there is. -/
structure Se (n : Nat) (g : Gp) (K bb : Nat) : Prop where
  inv : ∃ H, GInv n g H
  hi : ∀ i, i < n → (g.ms i).high ≤ K
  bag : g.bag.length ≤ bb
  views : ∀ i, (g.views i).length ≤ K
theorem Se.move {K bb : Nat} (h : Se n g K bb) (a : Mv) : Se n (g.move n a) (K + 1) (bb + 6) := by
  obtain ⟨H, hinv⟩ := h.inv
  obtain ⟨H', h1, _⟩ := move_inv hinv a
  obtain ⟨h2, h3⟩ := move_more hinv a h.hi
  have h4 := (move_sz n (by have := hinv.n6; omega) g a).2
  exact ⟨⟨H', h1⟩, h2, by have := h.bag; omega, fun i => by have := h4 i; have := h.views i; omega⟩
theorem se_new (h1 : 1 ≤ n) (h6 : n ≤ 6) : Se n (begG n) 0 0 := ⟨⟨[], beg_inv n h1 h6⟩, fun i _ => Nat.le_refl _, Nat.le_refl _, fun _ => Nat.le_refl _⟩
theorem Se.more {K bb K' : Nat} (h : Se n g K bb) (hk : K ≤ K') : Se n g K' bb := ⟨h.inv, fun i hi => Nat.le_trans (h.hi i hi) hk, h.bag, fun i => Nat.le_trans (h.views i) hk⟩
/-- Where rounds stand. -/
def SeAt (W0 : World) (n gq vx : Nat) (v : Vid × Nat) (Q : Gp → Prop) (K bb : Nat) (w : World) : Prop := ∃ g, Sw W0 (Old W0) n gq vx g v w ∧ Se n g K bb ∧ Q g
theorem SeAt.up {K bb : Nat} {Q : Gp → Prop} (h : SeAt W0 n gq vx v Q K bb w) (u : Below w.heap.size w w') : SeAt W0 n gq vx v Q K bb w' := by
  obtain ⟨g, h1, h2, h3⟩ := h
  exact ⟨g, h1.up u, h2, h3⟩
/-- A move of a round. -/
theorem SeAt.move {K bb bb' : Nat} {Q Q' : Gp → Prop} (h : SeAt W0 n gq vx v Q K bb w) (a : Mv) (ha : a.kind < 256 ∧ a.i < 256 ∧ a.est < 65536) (hK : K ≤ 1000000) (hbb : bb ≤ 1000000)
    (hq : ∀ g H, GInv n g H → (g.ms 0).high ≤ K → Q g → g.bag.length ≤ bb → (g.move n a).bag.length ≤ bb + 6 → Q' (g.move n a) ∧ (g.move n a).bag.length ≤ bb') : Calls Tryd.prog 25 #[.pointer (some ⟨gq, 0, none⟩), mval a] w fun e w' => e = .returned (.tuple #[]) ∧ SeAt W0 n gq vx v Q' (K + 1) bb' w' := by
  obtain ⟨g, h1, h2, h3⟩ := h
  obtain ⟨H, hinv⟩ := h2.inv
  refine (h1.move hinv a ha (by have := h2.bag; omega) (fun i => by have := h2.views i; omega)).mono ?_
  rintro e w' ⟨rfl, h4⟩
  have h5 := h2.move a
  obtain ⟨q1, q2⟩ := hq g H hinv (h2.hi 0 (by have := hinv.n1; omega)) h3 h2.bag h5.bag
  exact ⟨rfl, _, h4, ⟨h5.inv, h5.hi, q2, h5.views⟩, q1⟩
theorem SeAt.weak {K bb K' bb' : Nat} {Q Q' : Gp → Prop} (h : SeAt W0 n gq vx v Q K bb w) (hK : K ≤ K') (hq : ∀ g H, GInv n g H → g.bag.length ≤ bb → Q g → Q' g ∧ g.bag.length ≤ bb') : SeAt W0 n gq vx v Q' K' bb' w := by
  obtain ⟨g, h1, h2, h3⟩ := h
  obtain ⟨H, hinv⟩ := h2.inv
  obtain ⟨q1, q2⟩ := hq g H hinv h2.bag h3
  have h4 := h2.more hK
  exact ⟨g, h1, ⟨h4.inv, h4.hi, q2, h4.views⟩, q1⟩
theorem SeAt.imp {K bb : Nat} {Q Q' : Gp → Prop} (h : SeAt W0 n gq vx v Q K bb w) (hq : ∀ g H, GInv n g H → g.bag.length ≤ bb → Q g → Q' g) : SeAt W0 n gq vx v Q' K bb w := by
  obtain ⟨g, h1, h2, h3⟩ := h
  obtain ⟨H, hinv⟩ := h2.inv
  exact ⟨g, h1, h2, hq g H hinv h2.bag h3⟩
end
end Go.Proofs.YtlonbbepoamnmaaDoor
