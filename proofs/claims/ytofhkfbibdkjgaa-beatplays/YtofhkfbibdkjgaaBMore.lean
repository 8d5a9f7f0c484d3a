/-
  When the own beats are due, by the count of ticks; calls whose answers are not asked.
-/
import Derived.Test.YtofhkfbibdkjgaaBArgs
namespace Go.Proofs.Ytofhkfbibdkjgaa
open Go.RowKit
set_option linter.unusedVariables false

theorem succ_mod {B : Nat} (hB : 1 ≤ B) (k : Nat) : (k + 1) % B = if k % B + 1 = B then 0 else k % B + 1 := by
  have hlt := Nat.mod_lt k (show 0 < B by omega)
  rw [Nat.add_mod]
  by_cases h1 : B = 1
  · subst h1; simp [Nat.mod_one]
  · rw [Nat.mod_eq_of_lt (show 1 < B by omega)]
    split
    · rename_i h; rw [h, Nat.mod_self]
    · exact Nat.mod_eq_of_lt (by omega)
theorem succ_div {B : Nat} (hB : 1 ≤ B) (k : Nat) : (k + 1) / B = if k % B + 1 = B then k / B + 1 else k / B := by
  have h1 := Nat.div_add_mod k B
  have h2 := Nat.div_add_mod (k + 1) B
  have h3 := succ_mod hB k
  split at h3
  · rename_i e
    rw [if_pos e]
    have : B * ((k + 1) / B) = B * (k / B + 1) := by rw [Nat.mul_add]; omega
    exact Nat.eq_of_mul_eq_mul_left (by omega) this
  · rename_i e
    rw [if_neg e]
    have : B * ((k + 1) / B) = B * (k / B) := by omega
    exact Nat.eq_of_mul_eq_mul_left (by omega) this

/-- Behind k ticks: behind how many the own beat is due. -/
def rOf (B k : Nat) : Nat := if k % B = 0 then 1 else 1 + (B - k % B)
theorem rOf_due {B k : Nat} (hB : 1 ≤ B) (h : k % B = 0) : rOf B k = 1 ∧ rOf B (k + 1) = B := by
  unfold rOf
  rw [if_pos h, succ_mod hB, h]
  refine ⟨rfl, ?_⟩
  by_cases e : 0 + 1 = B
  · rw [if_pos e, if_pos rfl]; omega
  · rw [if_neg e, if_neg (by omega)]; omega
theorem rOf_on {B k : Nat} (hB : 1 ≤ B) (h : k % B ≠ 0) : rOf B k ≠ 1 ∧ rOf B (k + 1) = rOf B k - 1 := by
  have hlt := Nat.mod_lt k (show 0 < B by omega)
  unfold rOf
  rw [if_neg h, succ_mod hB]
  refine ⟨by omega, ?_⟩
  by_cases e : k % B + 1 = B
  · rw [if_pos e, if_pos rfl]; omega
  · rw [if_neg e, if_neg (by omega)]; omega
/-- How many own beats were due in k ticks. -/
def cntOf (B k : Nat) : Nat := if k % B = 0 then k / B else k / B + 1
theorem cntOf_succ {B : Nat} (hB : 1 ≤ B) (k : Nat) : cntOf B (k + 1) = if k % B = 0 then cntOf B k + 1 else cntOf B k := by
  have hlt := Nat.mod_lt k (show 0 < B by omega)
  unfold cntOf
  rw [succ_mod hB, succ_div hB]
  by_cases e : k % B + 1 = B
  · rw [if_pos e, if_pos e, if_pos rfl]
    split <;> omega
  · rw [if_neg e, if_neg e, if_neg (by omega)]
    split <;> omega
theorem cntOf_zero (B : Nat) : cntOf B 0 = 0 := by unfold cntOf; simp
theorem cntOf_le {B : Nat} (hB : 1 ≤ B) : ∀ k, cntOf B k ≤ k
  | 0 => by rw [cntOf_zero]; omega
  | k + 1 => by
    have := cntOf_le hB k
    rw [cntOf_succ hB]
    split <;> omega
theorem cntOf_div {B : Nat} (hB : 1 ≤ B) (k : Nat) : (k + B - 1) / B = cntOf B k := by
  have h1 := Nat.div_add_mod k B
  have hlt := Nat.mod_lt k (show 0 < B by omega)
  unfold cntOf
  by_cases h : k % B = 0
  · rw [if_pos h]
    rw [show k + B - 1 = B - 1 + B * (k / B) by omega, Nat.add_mul_div_left _ _ (by omega), Nat.div_eq_of_lt (by omega)]
    omega
  · rw [if_neg h]
    rw [show k + B - 1 = (k % B - 1) + B * (k / B + 1) by rw [Nat.mul_add]; omega, Nat.add_mul_div_left _ _ (by omega), Nat.div_eq_of_lt (by omega)]
    omega

theorem heard_some {w : World} {F : Nat → Prop} {q s N B M K r : Nat} {left : Nat → Nat} (h : Bt w F q s N B M K r left) (hK : K < 1000000) (j : Nat) :
    Calls Try.prog 15 #[.pointer (some ⟨q, 0, none⟩), .int .i64 (j : Nat)] w fun e w' => ∃ x F' left', e = .returned (.int .i64 x) ∧ Bt w' F' q s N B M (K + 1) r left' ∧ Go2 F w F' w' := by
  by_cases hj : j < N ∧ j ≠ s
  · refine (heard_any h hK j hj.1 hj.2).mono ?_
    rintro e w' ⟨he, F', hb, hg⟩
    exact ⟨_, F', _, he, hb, hg⟩
  · refine (heard_err h (j : Int) (by omega)).mono ?_
    rintro e w' ⟨he, rfl⟩
    exact ⟨_, F, left, he, h.more (by omega), Go2.still (Turned.refl _ _)⟩
theorem tick_some {w : World} {F : Nat → Prop} {q s N B M K r : Nat} {left : Nat → Nat} (h : Bt w F q s N B M K r left) (hK : K < 1000000) :
    Calls Try.prog 14 #[.pointer (some ⟨q, 0, none⟩)] w fun e w' => ∃ b F' r', e = .returned (.bool b) ∧ Bt w' F' q s N B M (K + 1) r' (fun j => left j - 1) ∧ Go2 F w F' w' := by
  by_cases hr : r = 1
  · subst hr
    refine (tick0_due h hK).mono ?_
    rintro e w' ⟨he, F', hb, hg⟩
    exact ⟨_, F', _, he, hb, hg⟩
  · refine (tick0_not h hr hK).mono ?_
    rintro e w' ⟨he, F', hb, hg⟩
    exact ⟨_, F', _, he, hb, hg⟩

end Go.Proofs.Ytofhkfbibdkjgaa
