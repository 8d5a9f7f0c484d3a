/-
  Plain mathematics of reading numbers: the bytes that Uint writes are those that are read, and no others.
-/
import Derived.Test.YtpdgoalbknopiaaCdLeaf
namespace Go.Proofs.Ytpdgoalbknopiaa.Cd
set_option linter.unusedVariables false

/-- The number that bytes hold, seven bits each. -/
def val : List UInt8 → Nat
  | [] => 0
  | y :: t => y.toNat % 128 + 128 * val t
theorem val_snoc : ∀ (ys : List UInt8) (x : UInt8), val (ys ++ [x]) = val ys + x.toNat % 128 * 128 ^ ys.length
  | [], x => by simp [val]
  | y :: t, x => by
    simp only [List.cons_append, val, val_snoc t x, List.length_cons, Nat.pow_succ]
    rw [Nat.mul_add, Nat.mul_comm (128 ^ t.length) 128, ← Nat.mul_assoc (x.toNat % 128) 128, Nat.mul_comm (x.toNat % 128) 128, Nat.mul_assoc 128 (x.toNat % 128)]
    omega
theorem val_lt : ∀ (ys : List UInt8), val ys < 128 ^ ys.length
  | [] => by simp [val]
  | y :: t => by
    have := val_lt t
    simp only [val, List.length_cons, Nat.pow_succ]
    omega
theorem byte_back (y : UInt8) (h : 128 ≤ y.toNat) : UInt8.ofNat (y.toNat % 128 + 128) = y := by
  have := u8_lt y
  rw [show y.toNat % 128 + 128 = y.toNat by omega]
  exact UInt8.ofNat_toNat
/-- What is written shortest is what Uint writes. -/
theorem enc_val : ∀ (ys : List UInt8) (x : UInt8) (f : Nat), (∀ y ∈ ys, 128 ≤ y.toNat) → x.toNat < 128 → (x.toNat ≠ 0 ∨ ys = []) → ys.length ≤ f → encF f (val (ys ++ [x])) = ys ++ [x]
  | [], x, f, _, hx, _, _ => by
    have : val [x] = x.toNat := by simp [val]; omega
    rw [List.nil_append, this, encF_small _ _ hx, UInt8.ofNat_toNat]
  | y :: t, x, 0, _, _, _, hf => by simp at hf
  | y :: t, x, f + 1, hy, hx, h0, hf => by
    have h0' : x.toNat ≠ 0 := by
      rcases h0 with h | h
      · exact h
      · simp at h
    have ih := enc_val t x f (fun z hz => hy z (by simp [hz])) hx (.inl h0') (by simpa using hf)
    have hpos : 1 ≤ val (t ++ [x]) := by
      rw [val_snoc]
      have : 1 ≤ x.toNat % 128 * 128 ^ t.length := Nat.mul_pos (by omega) (Nat.pow_pos (by omega))
      omega
    simp only [List.cons_append, val]
    have h1 := hy y (by simp)
    rw [encF_big _ _ (by omega), show (y.toNat % 128 + 128 * val (t ++ [x])) % 128 = y.toNat % 128 by omega, show (y.toNat % 128 + 128 * val (t ++ [x])) / 128 = val (t ++ [x]) by omega, byte_back y h1, ih]
/-- What Uint writes never ends with a byte 0 behind another one. -/
theorem enc_last : ∀ (f n : Nat), 1 ≤ n → n < 2 * 128 ^ f → ∃ init last, encF f n = init ++ [last] ∧ last.toNat ≠ 0 ∧ (init.length = f → last.toNat ≤ 1)
  | 0, n, h1, h2 => ⟨[], UInt8.ofNat n, rfl, by rw [ofNat_toNat _ (by omega)]; omega, fun _ => by rw [ofNat_toNat _ (by omega)]; omega⟩
  | f + 1, n, h1, h2 => by
    by_cases hn : n < 128
    · exact ⟨[], UInt8.ofNat n, by rw [encF_small _ _ hn]; rfl, by rw [ofNat_toNat _ (by omega)]; omega, fun h => by simp at h⟩
    · obtain ⟨init, last, he, ha, hl⟩ := enc_last f (n / 128) (by omega) (by rw [Nat.pow_succ] at h2; omega)
      exact ⟨UInt8.ofNat (n % 128 + 128) :: init, last, by rw [encF_big _ _ (by omega), he]; rfl, ha, fun h => hl (by simpa using h)⟩
theorem enc_not (ys : List UInt8) (x : UInt8) (n : Nat) (hn : n < 18446744073709551616) (h : (x.toNat = 0 ∧ ys ≠ []) ∨ (ys.length = 9 ∧ 1 < x.toNat)) : enc n ≠ ys ++ [x] := by
  intro hc
  by_cases h0 : n = 0
  · subst h0
    have e : enc 0 = [0] := by decide
    rw [e] at hc
    have hl := congrArg List.length hc
    simp at hl
    rcases h with ⟨_, h2⟩ | ⟨h1, _⟩
    · exact h2 hl
    · rw [hl] at h1; simp at h1
  · obtain ⟨init, last, he, ha, hl⟩ := enc_last 9 n (by omega) (by omega)
    rw [enc, he] at hc
    have hcl := List.append_inj' hc rfl
    have h1 : init = ys := hcl.1
    have h2 : last = x := by simpa using hcl.2
    subst h1 h2
    rcases h with ⟨h3, _⟩ | ⟨h3, h4⟩
    · exact ha h3
    · have := hl h3; omega

end Go.Proofs.Ytpdgoalbknopiaa.Cd
