/-
  The mathematics of sets of nodes, more: a set with a node, without it; the least one.
-/
import Derived.Test.YtlahdemhigcjnaaDoorIMath
namespace Go.Proofs.YtlahdemhigcjnaaDoor

theorem or_add : ∀ x y : Nat, x &&& y = 0 → x ||| y = x + y := by
  intro x
  induction x using Nat.strongRecOn with
  | _ x ih =>
    intro y h
    by_cases hx : x = 0
    · subst hx; simp
    · have h1 : x / 2 &&& y / 2 = 0 := by rw [← Nat.and_div_two, h]
      have h2 := ih (x / 2) (by omega) (y / 2) h1
      have h3 : (x ||| y) / 2 = x / 2 ||| y / 2 := Nat.or_div_two
      have e1 : (x &&& y) % 2 = (x % 2) &&& (y % 2) := by have := Nat.and_mod_two_pow (a := x) (b := y) (n := 1); simpa using this
      have e2 : (x ||| y) % 2 = (x % 2) ||| (y % 2) := by have := Nat.or_mod_two_pow (a := x) (b := y) (n := 1); simpa using this
      rw [h] at e1
      have h4 : (x ||| y) % 2 = x % 2 + y % 2 := by
        rcases Nat.mod_two_eq_zero_or_one x with a | a <;> rcases Nat.mod_two_eq_zero_or_one y with b | b <;> rw [a, b] at e1 e2 ⊢ <;> simp at e1 e2 ⊢ <;> omega
      omega
theorem or_pow (s k : Nat) : s ||| 2 ^ k = if s.testBit k then s else s + 2 ^ k := by
  by_cases h : s.testBit k
  · rw [if_pos h]
    apply Nat.eq_of_testBit_eq
    intro j
    rw [Nat.testBit_or, Nat.testBit_two_pow]
    by_cases e : k = j
    · subst e; simp [h]
    · simp [e]
  · rw [if_neg h]
    have h0 : s &&& 2 ^ k = 0 := by
      apply Nat.eq_of_testBit_eq
      intro j
      rw [Nat.testBit_and, Nat.testBit_two_pow, Nat.zero_testBit]
      by_cases e : k = j
      · subst e; simp [h]
      · simp [e]
    exact or_add s (2 ^ k) h0
theorem not_pow (s k : Nat) (hs : s < 65536) (hk : k < 16) : s &&& (65535 - 2 ^ k) = if s.testBit k then s - 2 ^ k else s := by
  have hp : 2 ^ k ≤ 32768 := by have := Nat.pow_le_pow_right (show 0 < 2 by omega) (show k ≤ 15 by omega); omega
  have e : 65535 - 2 ^ k = 2 ^ 16 - (2 ^ k + 1) := by omega
  have hb : ∀ j, (s &&& (65535 - 2 ^ k)).testBit j = (s.testBit j && !(decide (k = j))) := by
    intro j
    rw [Nat.testBit_and, e, Nat.testBit_two_pow_sub_succ (by omega), Nat.testBit_two_pow]
    by_cases hj : j < 16
    · simp [hj]
    · have : s.testBit j = false := Nat.testBit_lt_two_pow (Nat.lt_of_lt_of_le hs (by have := Nat.pow_le_pow_right (show 0 < 2 by omega) (show 16 ≤ j by omega); omega))
      simp [this]
  by_cases h : s.testBit k
  · rw [if_pos h]
    have h1 : (s &&& (65535 - 2 ^ k)) ||| 2 ^ k = s := by
      apply Nat.eq_of_testBit_eq
      intro j
      rw [Nat.testBit_or, hb, Nat.testBit_two_pow]
      by_cases ej : k = j
      · subst ej; simp [h]
      · simp [ej]
    have h2 := or_pow (s &&& (65535 - 2 ^ k)) k
    rw [hb k, h] at h2
    simp at h2
    rw [h1] at h2
    omega
  · rw [if_neg h]
    apply Nat.eq_of_testBit_eq
    intro j
    rw [hb]
    by_cases ej : k = j
    · subst ej; simp [h]
    · simp [ej]
theorem without_zero (s : Nat) (hs : s < 65536) : s &&& 65535 = s := Nat.and_two_pow_sub_one_of_lt_two_pow (n := 16) hs

/-- A number that is not 0 has a least bit. -/
theorem low_bit : ∀ s : Nat, 0 < s → ∃ k m, s = 2 ^ k * (2 * m + 1) := by
  intro s
  induction s using Nat.strongRecOn with
  | _ s ih =>
    intro hs
    rcases Nat.mod_two_eq_zero_or_one s with h | h
    · obtain ⟨k, m, e⟩ := ih (s / 2) (by omega) (by omega)
      refine ⟨k + 1, m, ?_⟩
      rw [Nat.pow_succ, Nat.mul_comm (2 ^ k) 2, Nat.mul_assoc, ← e]
      omega
    · exact ⟨0, s / 2, by omega⟩
theorem odd_bits (m t : Nat) : ((2 * m + 1).testBit t && !(2 * m).testBit t) = decide (t = 0) := by
  cases t with
  | zero => simp [Nat.testBit_zero]
  | succ t => 
    rw [Nat.testBit_succ, Nat.testBit_succ, show (2 * m + 1) / 2 = m by omega, show 2 * m / 2 = m by omega]
    simp
theorem low_and (k m : Nat) (h : 2 ^ k * (2 * m + 1) < 65536) : (2 ^ k * (2 * m + 1)) &&& (65536 - 2 ^ k * (2 * m + 1)) = 2 ^ k := by
  have hp := Nat.two_pow_pos k
  have hpos : 0 < 2 ^ k * (2 * m + 1) := Nat.mul_pos hp (by omega)
  have es : 2 ^ k * (2 * m + 1) - 1 = 2 ^ k * (2 * m) + (2 ^ k - 1) := by rw [Nat.mul_add]; omega
  have e1 : 65536 - 2 ^ k * (2 * m + 1) = 2 ^ 16 - ((2 ^ k * (2 * m + 1) - 1) + 1) := by omega
  apply Nat.eq_of_testBit_eq
  intro j
  rw [Nat.testBit_and, e1, Nat.testBit_two_pow_sub_succ (by omega), es, Nat.testBit_two_pow_mul_add _ (by omega), Nat.testBit_two_pow]
  have e2 : (2 ^ k * (2 * m + 1)).testBit j = if j < k then false else (2 * m + 1).testBit (j - k) := by
    have := Nat.testBit_two_pow_mul_add (2 * m + 1) (b := 0) (i := k) hp j
    rw [Nat.add_zero] at this
    rw [this]
    split <;> simp
  rw [e2]
  by_cases hj : j < k
  · rw [if_pos hj, if_pos hj]
    have : ¬ k = j := by omega
    simp [this]
  · rw [if_neg hj, if_neg hj]
    by_cases h16 : j < 16
    · have hd : decide (j < 16) = true := by simpa using h16
      rw [hd, Bool.true_and, odd_bits]
      by_cases e : k = j
      · subst e; simp
      · have : ¬ j - k = 0 := by omega
        simp [e, this]
    · have hk : k < 16 := by
        rcases Nat.lt_or_ge k 16 with h1 | h1
        · exact h1
        · have h2 := Nat.pow_le_pow_right (show 0 < 2 by omega) h1
          have h3 := Nat.le_mul_of_pos_right (2 ^ k) (show 0 < 2 * m + 1 by omega)
          omega
      have : ¬ k = j := by omega
      simp [h16, this]
theorem low_lt (k m : Nat) (h : 2 ^ k * (2 * m + 1) < 65536) : k < 16 := by
  rcases Nat.lt_or_ge k 16 with h1 | h1
  · exact h1
  · have h2 := Nat.pow_le_pow_right (show 0 < 2 by omega) h1
    have h3 := Nat.le_mul_of_pos_right (2 ^ k) (show 0 < 2 * m + 1 by omega)
    omega
theorem low_first (k m : Nat) (h : 2 ^ k * (2 * m + 1) < 65536) : (nodes (2 ^ k * (2 * m + 1)) 16)[0]? = some k := by
  have hk := low_lt k m h
  have hb : ∀ j, (2 ^ k * (2 * m + 1)).testBit j = if j < k then false else (2 * m + 1).testBit (j - k) := by
    intro j
    have := Nat.testBit_two_pow_mul_add (2 * m + 1) (b := 0) (i := k) (Nat.two_pow_pos k) j
    rw [Nat.add_zero] at this
    rw [this]
    split <;> simp
  rw [nodes, ← List.head?_eq_getElem?, List.head?_filter, List.find?_range_eq_some]
  refine ⟨?_, by simpa using hk, fun j hj => ?_⟩
  · rw [hb, if_neg (by omega)]; simp
  · rw [hb, if_pos hj]; rfl
end Go.Proofs.YtlahdemhigcjnaaDoor
