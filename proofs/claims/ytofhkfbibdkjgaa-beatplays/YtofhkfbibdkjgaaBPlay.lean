/-
  One's beats beside a row of 16 numbers: what is left for each node.
-/
import Derived.Test.YtofhkfbibdkjgaaBMore
namespace Go.Proofs.Ytofhkfbibdkjgaa
open Go.RowKit
set_option linter.unusedVariables false

structure Pw (w3 w : World) (F : Nat → Prop) (q L s N B M K r : Nat) (left f : Nat → Nat) : Prop where
  bt : Bt w F q s N B M K r left
  nL : ¬ F L
  cell : ∀ j, j < 16 → w.cell? ⟨L, j, none⟩ = some (.int .i64 (f j : Nat))
  fr : ∀ j, w.frozen? ⟨L, j, none⟩ = false
  turned : Turned (fun _ => False) w3 w
  foot : ∀ b, F b → w3.heap.size ≤ b
  newL : w3.heap.size ≤ L

section
variable {w3 w w' : World} {F F' : Nat → Prop} {q L s N B M K K' r r' : Nat} {left left' f f' : Nat → Nat}

theorem Pw.lt (h : Pw w3 w F q L s N B M K r left f) : L < w.heap.size := World.block_lt_of_cell? w _ (h.cell 0 (by omega))
theorem Pw.go (h : Pw w3 w F q L s N B M K r left f) (g : Go2 F w F' w') (b : Bt w' F' q s N B M K' r' left') : Pw w3 w' F' q L s N B M K' r' left' f where
  bt := b
  nL := fun hf => (g.foot L hf).elim h.nL (fun hle => by have := h.lt; omega)
  cell := fun j hj => by rw [cell_block (g.turned.block L h.lt h.nL)]; exact h.cell j hj
  fr := fun j => by rw [frozen_block (g.turned.block L h.lt h.nL)]; exact h.fr j
  turned := h.turned.trans g.turned (fun i hi => .inr (h.foot i hi))
  foot := fun b hb => (g.foot b hb).elim (h.foot b) (fun hle => Nat.le_trans h.turned.size hle)
  newL := h.newL
theorem Pw.still (h : Pw w3 w F q L s N B M K r left f) (t : Turned (fun _ => False) w w') : Pw w3 w' F q L s N B M K r left f :=
  h.go (Go2.still t) (h.bt.still t)
theorem Pw.more (h : Pw w3 w F q L s N B M K r left f) (hK : K ≤ K') : Pw w3 w F q L s N B M K' r left f := { h with bt := h.bt.more hK }
theorem Pw.same (h : Pw w3 w F q L s N B M K r left f) (hf : ∀ j, j < 16 → f' j = f j) : Pw w3 w F q L s N B M K r left f' :=
  { h with cell := fun j hj => by rw [hf j hj]; exact h.cell j hj }
theorem Pw.set (h : Pw w3 w F q L s N B M K r left f) {j : Nat} (hj : j < 16) (x : Nat) : Pw w3 (w.setCell ⟨L, j, none⟩ (.int .i64 (x : Nat))) F q L s N B M K r left (put f j x) where
  bt := h.bt.frame (fun b hb => set_block_other (fun e => h.nL (e ▸ hb)))
  nL := h.nL
  cell := fun i hi => by
    by_cases e : i = j
    · subst e; rw [put_same]; exact set_cell (h.cell i hi)
    · rw [put_other _ _ e, set_cell_other (by omega)]; exact h.cell i hi
  fr := fun i => by rw [World.frozen?_setCell]; exact h.fr i
  turned := h.turned.setCell (.inr h.newL) _
  foot := h.foot
  newL := h.newL
end

/-- The row, of which the first j are one less. -/
def dn (left : Nat → Nat) (j : Nat) : Nat → Nat := fun i => if i < j then left i - 1 else left i
theorem dn_zero (left : Nat → Nat) : dn left 0 = left := by funext i; simp [dn]
theorem dn_at (left : Nat → Nat) (j : Nat) : dn left j j = left j := by simp [dn]
theorem dn_set (left : Nat → Nat) (j : Nat) : put (dn left j) j (left j - 1) = dn left (j + 1) := by
  funext i
  unfold put dn
  by_cases e : i = j
  · subst e; simp
  · simp only [e, if_false]
    by_cases h : i < j
    · rw [if_pos h, if_pos (by omega)]
    · rw [if_neg h, if_neg (by omega)]
theorem dn_skip (left : Nat → Nat) (j : Nat) (h : left j = 0) : dn left j = dn left (j + 1) := by
  funext i
  unfold dn
  by_cases e : i = j
  · subst e; simp [h]
  · by_cases h : i < j
    · rw [if_pos h, if_pos (by omega)]
    · rw [if_neg h, if_neg (by omega)]

/-- Behind k steps and t ticks. -/
def Sp (w3 w : World) (q L s N B M k t : Nat) : Prop := ∃ F left, Pw w3 w F q L s N B M (1 + k) (rOf B t) left left ∧ (∀ j, N ≤ j → left j = 0) ∧ ∀ j, left j ≤ M

theorem sp_new {w3 w4 : World} {F : Nat → Prop} {q s N B M : Nat} (b : Bt w4 F q s N B M 1 1 (fun _ => 0)) (o : Own w3 w4 F) (C : Array Value) (hC : ∀ j, j < 16 → C[j]? = some (.int .i64 0)) :
    Sp w3 (w4.alloc (.cells C 3)) q w4.heap.size s N B M 0 0 := by
  have hb : (w4.alloc (.cells C 3)).heap[w4.heap.size]? = some (.cells C 3 (0, 0)) := heap_alloc_new _ _
  have t : Turned (fun _ => False) w4 (w4.alloc (.cells C 3)) := (Turned.refl _ _).alloc _
  refine ⟨F, fun _ => 0, ?_, fun _ _ => rfl, fun _ => Nat.zero_le _⟩
  have hr : rOf B 0 = 1 := by unfold rOf; simp
  rw [hr]
  exact {
    bt := b.still t
    nL := fun hf => by have := b.lt _ hf; omega
    cell := fun j hj => by
      unfold World.cell?
      rw [hb]
      exact hC j hj
    fr := fun j => by unfold World.frozen?; rw [hb]; simp
    turned := o.turned.alloc _
    foot := o.foot
    newL := o.turned.size }

end Go.Proofs.Ytofhkfbibdkjgaa
