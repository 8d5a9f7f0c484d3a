/-
  A node goes on into a view.
-/
import Derived.Test.YthnbijnpbjfoaaaJStays0
namespace Go.Proofs.Ythnbijnpbjfoaaa
open Go.RowKit Go.Sort
set_option linter.unusedVariables false

def freshCells (node : Nat) (e : Ev) : Array Value := #[.int .i64 (node : Nat), .int .u64 (e.n : Nat), .int .i64 e.p, .int .u16 (e.s : Nat), .slice none 0 0, .slice none 0 0, .int .i64 0, .int .u64 0, .int .i64 0]
theorem y9_new (w : World) (node : Nat) (e : Ev) : Y9 (w.alloc (.cells (freshCells node e) 62)) w.heap.size (fresh node e) (none, 0, 0) (none, 0, 0) :=
  ⟨cell_box w _ 62 0 _ rfl, cell_box w _ 62 1 _ rfl, cell_box w _ 62 2 _ rfl, cell_box w _ 62 3 _ rfl, cell_box w _ 62 4 _ rfl, cell_box w _ 62 5 _ rfl, cell_box w _ 62 6 _ rfl, cell_box w _ 62 7 _ rfl, cell_box w _ 62 8 _ rfl⟩
theorem frozen_blk {w w' : World} {a : Addr} (e : w'.heap[a.block]? = w.heap[a.block]?) : w'.frozen? a = w.frozen? a := by
  unfold World.frozen?
  rw [e]
theorem frozen_new (w : World) (c : Array Value) (t : TypeId) (i : Nat) : (w.alloc (.cells c t)).frozen? ⟨w.heap.size, i, none⟩ = false := by
  have hb : (w.alloc (.cells c t)).heap[w.heap.size]? = some (.cells c t (0, 0)) := heap_alloc_new _ _
  unfold World.frozen?
  rw [hb]
  simp
theorem tail_snoc {α : Type} {l : List α} {a : α} (h : l ≠ []) : (l ++ [a]).tail = l.tail ++ [a] := by
  cases l with
  | nil => exact absurd rfl h
  | cons x r => rfl
theorem StI.view {pE : Nat → Prop} {w0 w2 w3 w4 w6 : World} {node : Nat} {es : List Ev} {k : Nat} {done : List Sy} {cur : Sy} {qs : List Nat} {q q' Z : Nat} {rl : Sr} {e : Ev} {v' : Value} (h : StI pE w0 w2 node es k done cur qs q Z rl) (hpE : ∀ b, pE b → b < w0.heap.size)
    (he : es[k]? = some e) (hk : e.k = 1) (hb : beforeD cur e = true) (hw3 : (w2.setCell ⟨q, 7, none⟩ (.int .u64 (e.n : Nat))).setCell ⟨q, 8, none⟩ (.int .i64 e.p) = w3) (hq' : w3.heap.size = q') (hw4 : w3.alloc (.cells (freshCells node e) 62) = w4)
    (hown : w6.ownsRow w0.heap.size 59 1 v' (done.length + 1) (((qs ++ [q]).tail).map ptr ++ [ptr q'])) (hg : w4.grownBy w6 (slv rl).ownBlock) (hat : v'.ownBlock = (slv rl).ownBlock ∨ ∃ b, v'.ownBlock = some b ∧ w4.heap.size ≤ b) (hk9 : k ≤ 9000) :
    ∃ rl', v' = slv rl' ∧ StI pE w0 w6 node es (k + 1) (done ++ [{ cur with nn := e.n, np := e.p }]) (fresh node e) (qs ++ [q]) q' w6.heap.size rl' := by
  obtain ⟨rl', rfl, hrl'⟩ := own_row1 hown
  have hown : w6.ownsRow w0.heap.size 59 1 (slv rl') (done.length + 1) (((qs ++ [q]).tail).map ptr ++ [ptr q']) := hown
  have hat : (slv rl').ownBlock = (slv rl).ownBlock ∨ ∃ b, (slv rl').ownBlock = some b ∧ w4.heap.size ≤ b := hat
  have hp := h.hp hpE
  have hqZ := h.isc.qZ
  have hz3 : w3.heap.size = w2.heap.size := by rw [← hw3]; simp [World.setCell]
  have hz4 : w4.heap.size = q' + 1 := by rw [← hw4, ← hq']; simp
  have hc3 : Cur pE Z w3 q { cur with nn := e.n, np := e.p } := by rw [← hw3]; exact h.isc.set7 hp e.n e.p
  have t23 : Tch q Z w2 w3 := by rw [← hw3]; exact (Tch.set _ _ _).trans (Tch.set _ _ _)
  have u34 : Below w3.heap.size w3 w4 := by rw [← hw4]; exact bl1 _ _
  have hsz6 := hg.size
  have hold : ∀ b, (slv rl).ownBlock = some b → w0.heap.size ≤ b ∧ b < Z ∧ b ≠ q := fun b hb' => ⟨(own_blk h.row hb').1, h.blk b hb'⟩
  have hnew : ∀ b, (slv rl').ownBlock = some b → b < w6.heap.size ∧ b ≠ q' ∧ ((slv rl).ownBlock = some b ∨ q' < b) := fun b hb' => by
    have h1 := own_blk hown hb'
    rcases hat with h2 | ⟨b', h2, h3⟩
    · rw [hb'] at h2
      have := hold b h2.symm
      exact ⟨h1.2.1, by omega, .inl h2.symm⟩
    · rw [hb'] at h2
      cases h2
      exact ⟨h1.2.1, by omega, .inr (by omega)⟩
  have kp46 : ∀ p : Nat → Prop, (∀ b, p b → (slv rl).ownBlock ≠ some b) → Kp p w4 w6 := fun p hpp ad v hpb hc => by
    rw [cell_blk (hg.block _ (World.block_lt_of_cell? w4 _ hc) (fun e => hpp _ hpb e.symm))]
    exact hc
  have hq6 : w6.heap[q']? = w4.heap[q']? := hg.block q' (by omega) (fun e => by have := hold q' e.symm; omega)
  have hbl3 : Below w0.heap.size w0 w3 := h.bl.trans (t23.below h.W0q (by have := h.W0q; omega))
  have hbl6 : Below w0.heap.size w0 w6 := bl_grown (bl_step hbl3 u34) (by have := hbl3.size; omega) hg (fun b hb' => (hold b hb').1)
  refine ⟨rl', rfl, ⟨?_, by simp [h.len], ?_, ?_, ?_, ?_, ?_, hbl6, ?_, rfl⟩⟩
  · rw [take_snoc he, runD_snoc, h.run]
    show stepD node (done, cur) e = _
    unfold stepD
    rw [if_pos hk]
    simp [hb]
  · have y9 := y9_new w3 node e
    rw [hw4, hq'] at y9
    refine ⟨(none, 0, 0), (none, 0, 0), by omega, Nat.le_refl _, ?_, fun i => ?_, OwB.nil _ _ _, OwP.nil _ _ _⟩
    · exact y9.keep (p := fun b => b = q') (kp46 _ (fun b hb' e => by have := hold b e; omega)) rfl
    · rw [frozen_blk (a := ⟨q', i, none⟩) hq6, ← hw4, ← hq']
      exact frozen_new w3 _ 62 i
  · have := hbl3.size
    omega
  · have hcf : Fin (pF pE w0.heap.size q' (slv rl)) w3 q { cur with nn := e.n, np := e.p } := by
      refine hc3.fin (fun b hb' => ⟨.inl hb', ?_, fun e => ?_⟩) ⟨.inr h.W0q, by omega, fun e => (hold q e).2.2 rfl⟩ (fun b h1 h2 => ⟨.inr ?_, by omega, fun e => ?_⟩) ?_
      · have := hp b hb'
        omega
      · have := hpE b hb'
        have := hold b e
        omega
      · have := h.W0q
        omega
      · have := hold b e
        omega
      · have := h.bd
        simp only
        omega
    have lift : ∀ y q1, Fin (pF pE w0.heap.size q' (slv rl)) w3 q1 y → Fin (pF pE w0.heap.size q' (slv rl')) w6 q1 y := fun y q1 hf => by
      refine ((hf.up u34).keep (kp46 _ (fun b hb' => hb'.2.2))).imp (fun b _ hb' => ⟨hb'.1, hb'.2.1, fun e => ?_⟩)
      rcases (hnew b e).2.2 with h1 | h1
      · exact hb'.2.2 h1
      · have := hb'.2.1
        omega
    intro j q1 y1 hq1 hy1
    by_cases hj : j < done.length
    · rw [List.getElem?_append_left (by rw [h.len]; exact hj)] at hq1
      rw [List.getElem?_append_left hj] at hy1
      refine lift _ _ (((h.fin j q1 y1 hq1 hy1).keep (t23.kp (fun b hb' => ⟨by have := hb'.2.1; omega, by have := hb'.2.1; omega⟩))).imp (fun b _ hb' => ⟨hb'.1, by have := hb'.2.1; omega, hb'.2.2⟩))
    · have hl2 := (List.getElem?_eq_some_iff.1 hy1).1
      simp at hl2
      have : j = done.length := by omega
      subst this
      rw [List.getElem?_append_right (by rw [h.len]; exact Nat.le_refl _), h.len] at hq1
      rw [List.getElem?_append_right (Nat.le_refl _)] at hy1
      simp at hq1 hy1
      subst hq1 hy1
      exact lift _ _ hcf
  · rw [tail_snoc (by simp), List.map_append]
    simpa using hown
  · exact fun b hb' => ⟨(hnew b hb').1, (hnew b hb').2.1⟩
  · simp [fresh]
end Go.Proofs.Ythnbijnpbjfoaaa
