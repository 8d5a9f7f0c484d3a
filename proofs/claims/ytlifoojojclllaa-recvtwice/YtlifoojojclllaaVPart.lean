/-
  Parts of a list of texts that was handed in.
-/
import Derived.Test.YtlifoojojclllaaVAwake
namespace Go.Proofs.Ytlifoojojclllaa
open Go.RowKit
set_option linter.unusedVariables false

theorem add_block (a : Addr) (n : Nat) : (a.add n).block = a.block := by unfold Addr.add; split <;> rfl
theorem tx_cut {w : World} {ao : Option Addr} {n cap : Nat} {xs : List Value} (h : Tx w (.slice ao n cap) xs) (f k : Nat) (hf : f ≤ k) (hk : k ≤ n) :
    Tx w (.slice (if cap = f then ao else ao.map (·.add (f * 1))) (k - f) (cap - f)) ((xs.drop f).take (k - f)) ∧ ∀ b, (Value.slice (if cap = f then ao else ao.map (·.add (f * 1))) (k - f) (cap - f)).ownBlock = some b → (Value.slice ao n cap).ownBlock = some b := by
  obtain ⟨hn, hc, hm⟩ := h.len
  obtain ⟨ao', cap', hv, h1, h2, h3, h4⟩ := h
  obtain ⟨rfl, -, rfl⟩ : ao = ao' ∧ n = xs.length ∧ cap = cap' := by simpa using hv
  have hl : ((xs.drop f).take (k - f)).length = k - f := by rw [List.length_take, List.length_drop]; omega
  constructor
  · refine ⟨_, cap - f, by rw [hl], by rw [hl]; omega, by omega, fun x hx => h3 x (List.mem_of_mem_drop (List.mem_of_mem_take hx)), fun h0 => ?_⟩
    rw [hl] at h0
    obtain ⟨b, off, rfl, hb, hcell⟩ := h4 (by omega)
    refine ⟨b, off + f, by rw [if_neg (by omega)]; simp [add_flat], hb, fun j x hj => ?_⟩
    rw [List.getElem?_take] at hj
    split at hj
    · rw [List.getElem?_drop] at hj
      rw [Nat.add_assoc]; exact hcell _ x hj
    · cases hj
  · intro b hb
    split at hb
    · cases ao with
      | none => simp [Value.ownBlock] at hb
      | some a => simpa [Value.ownBlock] using hb
    · cases ao with
      | none => simp [Value.ownBlock] at hb
      | some a => simpa [Value.ownBlock, add_block] using hb
/-- l[f:k] -/
theorem tx_part {w : World} {ao : Option Addr} {n cap : Nat} {xs : List Value} (h : Tx w (.slice ao n cap) xs) (f k : Nat) (hf : f ≤ k) (hk : k ≤ n) :
    ∃ ao' N C, N = k - f ∧ (∀ W, (Instr.slice 28 (.slice ao n cap) (some (.int .i64 (f : Nat))) (some (.int .i64 (k : Nat))) none).run Try.prog W = .ok (.slice ao' N C) W) ∧ Tx w (.slice ao' N C) ((xs.drop f).take (k - f)) ∧ ∀ b, (Value.slice ao' N C).ownBlock = some b → (Value.slice ao n cap).ownBlock = some b := by
  obtain ⟨h1, h2⟩ := tx_cut h f k hf hk
  obtain ⟨hn, hc, hm⟩ := h.len
  refine ⟨_, _, _, rfl, fun W => ?_, h1, h2⟩
  rw [run_slice_lh W 28 ao n cap und28e .i64 .i64 (f : Nat) (k : Nat) (by omega) (by omega) (by omega), size28]
  simp only [Result.andThen_ok, sliced, Int.toNat_natCast]
/-- l[f:] -/
theorem tx_from {w : World} {ao : Option Addr} {n cap : Nat} {xs : List Value} (h : Tx w (.slice ao n cap) xs) (f : Nat) (hf : f ≤ n) :
    ∃ ao' N C, N = n - f ∧ (∀ W, (Instr.slice 28 (.slice ao n cap) (some (.int .i64 (f : Nat))) none none).run Try.prog W = .ok (.slice ao' N C) W) ∧ Tx w (.slice ao' N C) (xs.drop f) ∧ ∀ b, (Value.slice ao' N C).ownBlock = some b → (Value.slice ao n cap).ownBlock = some b := by
  obtain ⟨h1, h2⟩ := tx_cut h f n hf (Nat.le_refl _)
  obtain ⟨hn, hc, hm⟩ := h.len
  rw [List.take_of_length_le (by rw [List.length_drop]; omega)] at h1
  refine ⟨_, _, _, rfl, fun W => ?_, h1, h2⟩
  rw [run_slice_l W 28 ao n cap und28e .i64 (f : Nat) (by omega) (by omega), size28]
  simp only [Result.andThen_ok, sliced, Int.toNat_natCast]
/-- l[:k] -/
theorem tx_upto {w : World} {ao : Option Addr} {n cap : Nat} {xs : List Value} (h : Tx w (.slice ao n cap) xs) (k : Nat) (hk : k ≤ n) :
    ∃ ao' N C, N = k ∧ (∀ W, (Instr.slice 28 (.slice ao n cap) none (some (.int .i64 (k : Nat))) none).run Try.prog W = .ok (.slice ao' N C) W) ∧ Tx w (.slice ao' N C) (xs.take k) ∧ ∀ b, (Value.slice ao' N C).ownBlock = some b → (Value.slice ao n cap).ownBlock = some b := by
  obtain ⟨h1, h2⟩ := tx_cut h 0 k (by omega) hk
  obtain ⟨hn, hc, hm⟩ := h.len
  simp only [List.drop_zero, Nat.sub_zero] at h1
  refine ⟨_, _, _, rfl, fun W => ?_, h1, h2⟩
  rw [run_slice_h W 28 ao n cap und28e .i64 (k : Nat) (by omega) (by omega), size28]
  simp only [Result.andThen_ok, sliced, Int.toNat_natCast, Nat.sub_zero]
/-- What was handed in lies apart from what is one's own. -/
theorem Tx.apart_own {w0 w : World} {F : Nat → Prop} {ao : Option Addr} {n cap : Nat} {xs : List Value} (h : Tx w0 (.slice ao n cap) xs) (o : Own w0 w F) : 0 < n → ∀ b, (Value.slice ao n cap).ownBlock = some b → ¬ F b := by
  intro h0 b hb hf
  obtain ⟨ao', cap', hv, h1, h2, h3, h4⟩ := h
  obtain ⟨rfl, rfl, rfl⟩ : ao = ao' ∧ n = xs.length ∧ cap = cap' := by simpa using hv
  obtain ⟨b', off, rfl, hb', _⟩ := h4 h0
  have : b' = b := by simpa [Value.ownBlock] using hb
  have := o.foot b hf
  omega
/-- An offer of what was handed in. -/
theorem offer_arg {w0 w : World} {F : Nat → Prop} {q most next : Nat} {xs : List Value} (h : Rcv w 9 F q most next xs) (o : Own w0 w F) (base : Nat) (hb : base ≤ next) (hnx : next < 1000000000000000000) (ao : Option Addr) (n cap : Nat) (ys : List Value) (hy : Tx w0 (.slice ao n cap) ys) (k : Nat) (hk : k = min (n - (next - base)) (most - xs.length)) :
    Calls Try.prog 30 #[.pointer (some ⟨q, 0, none⟩), .int .u64 (base : Nat), .slice ao n cap] w fun e w' => e = .returned (.tuple #[.int .i64 (k : Nat), .int .i64 0]) ∧ ∃ F', Rcv w' 9 F' q most (next + k) (xs ++ (ys.drop (next - base)).take k) ∧ Own w0 w' F' ∧ Goes2 F w F' w' :=
  (voffer_any h base hb hnx ao n cap ys (hy.turned o.turned) (hy.apart_own o) k hk).mono (by
    rintro e w' ⟨he, F', h1, h2⟩
    exact ⟨he, F', h1, o.goes h2, h2⟩)
theorem vnew256 (w : World) : Calls Try.prog 28 #[.int .i64 256] w fun e w' => ∃ q F, e = .returned (.tuple #[.pointer (some ⟨q, 0, none⟩), .int .i64 0]) ∧ Rcv w' 9 F q 256 0 [] ∧ Turned (fun _ => False) w w' ∧ ∀ b, F b → w.heap.size ≤ b := vnew_any w 256 (by omega) (by omega)
end Go.Proofs.Ytlifoojojclllaa
