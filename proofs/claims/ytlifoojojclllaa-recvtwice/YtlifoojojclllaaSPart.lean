/-
  A stretch of a list of one's own, as a slice of it tells it; a call as it lies in a box.
-/
import Derived.Test.YtlifoojojclllaaSSeg
namespace Go.Proofs.Ytlifoojojclllaa
open Go.RowKit
set_option linter.unusedVariables false

theorem lst_part {w : World} {ao : Option Addr} {L cap : Nat} {xs : List Value} (h : Lst w (.slice ao L cap) xs) (f k : Nat) (hf : f ≤ k) (hk : k ≤ xs.length) :
    ∃ ao', (∀ W, (Instr.slice 28 (.slice ao L cap) (some (.int .i64 (f : Nat))) (some (.int .i64 (k : Nat))) none).run Try.prog W = .ok (.slice ao' (k - f) (cap - f)) W) ∧ Lst w (.slice ao' (k - f) (cap - f)) ((xs.drop f).take (k - f)) ∧ ∀ b, (Value.slice ao' (k - f) (cap - f)).ownBlock = some b → (Value.slice ao L cap).ownBlock = some b := by
  obtain ⟨h0, ao', cap', hv, hcase⟩ := h
  obtain ⟨rfl, rfl, rfl⟩ : ao = ao' ∧ L = xs.length ∧ cap = cap' := by simpa using hv
  have hkc : k ≤ cap := by
    rcases hcase with ⟨rfl, rfl, rfl⟩ | ⟨b, off, N, g, rfl, hr, h1, h2, h3⟩
    · simpa using hk
    · omega
  refine ⟨if cap = f then ao else ao.map (·.add (f * 1)), fun W => ?_, ⟨fun x hx => h0 x (List.mem_of_mem_drop (List.mem_of_mem_take hx)), (if cap = f then ao else ao.map (·.add (f * 1))), cap - f, ?_, ?_⟩, ?_⟩
  · rw [run_slice_lh W 28 ao xs.length cap und28e .i64 .i64 (f : Nat) (k : Nat) (by omega) (by omega) (by omega), size28]
    simp only [Result.andThen_ok, sliced, Int.toNat_natCast]
  · rw [List.length_take, List.length_drop, Nat.min_eq_left (by omega)]
  · rcases hcase with ⟨rfl, rfl, rfl⟩ | ⟨b, off, N, g, rfl, hr, h1, h2, h3⟩
    · simp at hk
      subst hk
      obtain rfl : f = 0 := by omega
      exact .inl ⟨by simp, by simp, rfl⟩
    · by_cases hc : cap = f
      · subst hc
        exact .inr ⟨b, off, N, g, by simp, hr, by omega, by rw [List.length_take, List.length_drop]; omega, fun j x hj => by
          have := (List.getElem?_eq_some_iff.1 hj).1
          rw [List.length_take, List.length_drop] at this
          omega⟩
      · refine .inr ⟨b, off + f, N, g, by rw [if_neg hc]; simp [add_flat], hr, by omega, by rw [List.length_take, List.length_drop]; omega, fun j x hj => ?_⟩
        rw [List.getElem?_take] at hj
        split at hj
        · rw [List.getElem?_drop] at hj
          rw [Nat.add_assoc]; exact h3 _ x hj
        · cases hj
  · intro b hb
    rcases hcase with ⟨rfl, rfl, rfl⟩ | ⟨b', off, N, g, rfl, hr, h1, h2, h3⟩
    · split at hb <;> simp [Value.ownBlock] at hb
    · split at hb
      · exact hb
      · simpa [Value.ownBlock, add_flat] using hb

theorem box3 (w : World) (a b c : Value) (t : TypeId) : (w.alloc (.cells #[a, b, c] t)).cell? ⟨w.heap.size, 0, none⟩ = some a ∧ (w.alloc (.cells #[a, b, c] t)).cell? ⟨w.heap.size, 1, none⟩ = some b ∧ (w.alloc (.cells #[a, b, c] t)).cell? ⟨w.heap.size, 2, none⟩ = some c := by
  have hb : (w.alloc (.cells #[a, b, c] t)).heap[w.heap.size]? = some (.cells #[a, b, c] t (0, 0)) := Deep.blk_alloc_new _ _
  refine ⟨?_, ?_, ?_⟩ <;> (unfold World.cell?; rw [hb]; rfl)
theorem box4 (w : World) (a b c d : Value) (t : TypeId) : (w.alloc (.cells #[a, b, c, d] t)).cell? ⟨w.heap.size, 0, none⟩ = some a ∧ (w.alloc (.cells #[a, b, c, d] t)).cell? ⟨w.heap.size, 1, none⟩ = some b ∧ (w.alloc (.cells #[a, b, c, d] t)).cell? ⟨w.heap.size, 2, none⟩ = some c ∧ (w.alloc (.cells #[a, b, c, d] t)).cell? ⟨w.heap.size, 3, none⟩ = some d := by
  have hb : (w.alloc (.cells #[a, b, c, d] t)).heap[w.heap.size]? = some (.cells #[a, b, c, d] t (0, 0)) := Deep.blk_alloc_new _ _
  refine ⟨?_, ?_, ?_, ?_⟩ <;> (unfold World.cell?; rw [hb]; rfl)
end Go.Proofs.Ytlifoojojclllaa
