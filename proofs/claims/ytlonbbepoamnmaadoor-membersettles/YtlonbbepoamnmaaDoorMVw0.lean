/-
  Others' blocks beside nodes; numbers of views compared.
-/
import Derived.Test.YtlonbbepoamnmaaDoorMGrpM
import Derived.Test.YtlonbbepoamnmaaDoorMVArgs
namespace Go.Proofs.YtlonbbepoamnmaaDoor
open Go.RowKit
set_option linter.unusedVariables false

theorem cmpV_one {n1 n2 : Nat} {p1 p2 : Int} (h : vlt (n2, p2) (n1, p1)) : cmpV n1 p1 n2 p2 = 1 := by
  have h' : n2 < n1 ∨ n2 = n1 ∧ p2 < p1 := h
  unfold cmpV sgn
  repeat' split
  all_goals (first | rfl | omega)
theorem cmpV_ge {n1 n2 : Nat} {p1 p2 : Int} (h : vle (n2, p2) (n1, p1)) : ¬ cmpV n1 p1 n2 p2 < 0 := by
  have h' : n2 < n1 ∨ n2 = n1 ∧ p2 ≤ p1 := h
  unfold cmpV sgn
  repeat' split
  all_goals omega
section
variable {W0 w w' w1 : World} {col : Nat → Nat} {B : Nat → Prop} {n kl kv gq : Nat} {A : Ga} {g : Gp}
/-- Others' blocks turn. -/
theorem Gs.alien (h : Gs W0 B w col n kl kv gq A g) (e1 : w'.os = w.os) (e2 : w'.tape = w.tape) (e3 : w'.output = w.output) (hs : w.heap.size ≤ w'.heap.size) (hb : ∀ b, b < w.heap.size → (col b ≠ 0 ∨ B b) → w'.heap[b]? = w.heap[b]?) : Gs W0 B w' col n kl kv gq A g := by
  have hc : ∀ b, col b ≠ 0 → w'.heap[b]? = w.heap[b]? := fun b hb' => hb b (h.lo b hb').2 (.inl hb')
  have h0 : w'.heap[0]? = w.heap[0]? := hb 0 (h.hB 0 h.hB1) (.inr h.hB1)
  have hg := hc gq (by rw [h.cg]; decide)
  have kp : ∀ c, c ≠ 0 → Kp (fun b => col b = c) w w' := fun c hc0 ad u hz hcc => by rw [World.cell?_of_block (w := w) (hc _ (by rw [hz]; exact hc0))]; exact hcc
  obtain ⟨L, l1, l2, l3, l4⟩ := h.bag
  exact {
    bel := ⟨e1.trans h.bel.os, e2.trans h.bel.tape, e3.trans h.bel.output, Nat.le_trans h.bel.size hs, fun k hk => (hb k (h.hB k hk) (.inr hk)).trans (h.bel.block k hk)⟩
    hB := fun b hb' => Nat.lt_of_lt_of_le (h.hB b hb') hs
    hB1 := h.hB1
    tab := h.tab.keep h0
    lo := fun b hb' => ⟨(h.lo b hb').1, Nat.lt_of_lt_of_le (h.lo b hb').2 hs⟩
    n6 := h.n6
    kl6 := h.kl6
    kv6 := h.kv6
    cg := h.cg
    fz := fun k => by rw [frozen_block hg]; exact h.fz k
    c0 := by rw [cell_block hg]; exact h.c0
    c1 := by rw [cell_block hg]; exact h.c1
    c2 := by rw [cell_block hg]; exact h.c2
    c3 := by rw [cell_block hg]; exact h.c3
    l := ⟨row_block h.l.1 (fun b hb' => hc b (by rw [h.l.2 b hb']; decide)), h.l.2⟩
    bag := ⟨L, l1, row_block l2 (fun b hb' => hc b (by rw [l3 b hb']; decide)), l3, l4.keep (kp 5 (by decide))⟩
    vs := ⟨row_block h.vs.1 (fun b hb' => hc b (by rw [h.vs.2.1 b hb']; decide)), h.vs.2.1, fun i x hx => ⟨row_block (h.vs.2.2 i x hx).1 (fun b hb' => hc b (by rw [(h.vs.2.2 i x hx).2 b hb']; omega)), (h.vs.2.2 i x hx).2⟩⟩
    mb := fun i hi => (h.mb i hi).frame (fun b hb' => hc b (by rw [hb']; omega)) h0 hs (kp 5 (by decide)) (fun _ h => h) (fun b hb' hf => by rw [hb'] at hf; omega) (fun b hb' => Nat.lt_of_lt_of_le (h.lo b (by rw [hb']; decide)).2 hs) }
end
end Go.Proofs.YtlonbbepoamnmaaDoor
