/-
  Plain mathematics of the wheel: at which level, and in which slot of it, a tick stands seen from another one, and when a slot is reached. No program is named here.
-/
import Derived.Laws.BitsAllLaws
namespace Go.Proofs.Ytofhkfbibdkjgaa
set_option linter.unusedVariables false

/-- The digit of a tick at a level. -/
def dig (t l : Nat) : Nat := t / 16 ^ l % 16
theorem dig_lt (t l : Nat) : dig t l < 16 := Nat.mod_lt _ (by omega)
/-- From level l on: the first at which two ticks are one above. -/
def lvlF : Nat → Nat → Nat → Nat → Nat
  | 0, l, _, _ => l
  | f + 1, l, a, b => if a / 16 ^ (l + 1) = b / 16 ^ (l + 1) then l else lvlF f (l + 1) a b
def lvl (a b : Nat) : Nat := lvlF 15 0 a b

theorem lvlF_le : ∀ (f l a b : Nat), lvlF f l a b ≤ l + f
  | 0, l, a, b => by simp [lvlF]
  | f + 1, l, a, b => by
    rw [lvlF]
    split
    · omega
    · have := lvlF_le f (l + 1) a b; omega
theorem lvl_lt (a b : Nat) : lvl a b < 16 := by have := lvlF_le 15 0 a b; unfold lvl; omega
theorem lvlF_spec : ∀ (f l a b : Nat), a / 16 ^ (l + f + 1) = b / 16 ^ (l + f + 1) → a / 16 ^ (lvlF f l a b + 1) = b / 16 ^ (lvlF f l a b + 1)
  | 0, l, a, b, h => by simpa [lvlF] using h
  | f + 1, l, a, b, h => by
    rw [lvlF]
    split
    · assumption
    · exact lvlF_spec f (l + 1) a b (by rw [show l + 1 + f + 1 = l + (f + 1) + 1 by omega]; exact h)
theorem lvlF_min : ∀ (f l a b j : Nat), l ≤ j → j < lvlF f l a b → a / 16 ^ (j + 1) ≠ b / 16 ^ (j + 1)
  | 0, l, a, b, j, h1, h2 => by simp [lvlF] at h2; omega
  | f + 1, l, a, b, j, h1, h2 => by
    rw [lvlF] at h2
    split at h2
    · omega
    · rename_i hne
      by_cases e : j = l
      · subst e; exact hne
      · exact lvlF_min f (l + 1) a b j (by omega) h2
theorem div_zero {a : Nat} (h : a < 18446744073709551616) : a / 16 ^ 16 = 0 := Nat.div_eq_of_lt (by simpa using h)
/-- Above the level the two ticks are one. -/
theorem lvl_spec (a b : Nat) (ha : a < 18446744073709551616) (hb : b < 18446744073709551616) : a / 16 ^ (lvl a b + 1) = b / 16 ^ (lvl a b + 1) :=
  lvlF_spec 15 0 a b (by rw [show 0 + 15 + 1 = 16 from rfl, div_zero ha, div_zero hb])
theorem lvl_min (a b j : Nat) (h : j < lvl a b) : a / 16 ^ (j + 1) ≠ b / 16 ^ (j + 1) := lvlF_min 15 0 a b j (Nat.zero_le _) h
theorem lvl_eq (a b l : Nat) (hl : l ≤ 15) (h1 : a / 16 ^ (l + 1) = b / 16 ^ (l + 1)) (h2 : ∀ j, j < l → a / 16 ^ (j + 1) ≠ b / 16 ^ (j + 1)) : lvl a b = l := by
  rcases Nat.lt_trichotomy (lvl a b) l with h | h | h
  · by_cases e : lvl a b = 15
    · omega
    · exfalso
      refine h2 _ h ?_
      -- the level is below 15, so it was found by its own test
      have key : ∀ (f k : Nat), lvlF f k a b < k + f → a / 16 ^ (lvlF f k a b + 1) = b / 16 ^ (lvlF f k a b + 1) := by
        intro f
        induction f with
        | zero => intro k hk; simp [lvlF] at hk
        | succ f ih =>
          intro k hk
          rw [lvlF] at hk ⊢
          split
          · assumption
          · rename_i hne
            rw [if_neg hne] at hk
            exact ih (k + 1) (by omega)
      exact key 15 0 (by have := lvl_lt a b; unfold lvl at e this; omega)
  · exact h
  · exact absurd h1 (lvl_min a b l h)

theorem pow_pos16 (l : Nat) : 0 < 16 ^ l := Nat.pow_pos (by omega)
theorem div_mono {a b : Nat} (h : a ≤ b) (l : Nat) : a / 16 ^ l ≤ b / 16 ^ l := Nat.div_le_div_right h
theorem div_succ16 (a l : Nat) : a / 16 ^ (l + 1) = a / 16 ^ l / 16 := by rw [Nat.pow_succ, Nat.div_div_eq_div_mul]
theorem div_split (a l : Nat) : a / 16 ^ l = 16 * (a / 16 ^ (l + 1)) + dig a l := by
  rw [div_succ16]; unfold dig; omega
/-- A tick on: above a level the quotient stays, or the tick has come to a multiple. -/
theorem step_div (now l : Nat) : now / 16 ^ l = (now + 1) / 16 ^ l ∨ (now + 1) % 16 ^ l = 0 := by
  have hp := pow_pos16 l
  by_cases h : (now + 1) % 16 ^ l = 0
  · exact .inr h
  · left
    have := Nat.succ_div (a := now) (b := 16 ^ l)
    rw [this]
    have hd : ¬ (16 ^ l ∣ now + 1) := fun hd => h (Nat.mod_eq_zero_of_dvd hd)
    simp [hd]

/-- The slots that are reached at a tick: at each level whose lower digits are all 0. -/
def hit (m l : Nat) : Prop := m % 16 ^ l = 0
/-- A timer whose slot is not reached stays where it is. -/
theorem lvl_stays (now due : Nat) (hlt : now < due) (hd : due < 18446744073709551616) (hn : ¬ (hit (now + 1) (lvl now due) ∧ dig (now + 1) (lvl now due) = dig due (lvl now due))) : lvl (now + 1) due = lvl now due := by
  have hs := lvl_spec now due (by omega) hd
  have hle := lvl_lt now due
  generalize hL : lvl now due = l at *
  have h1 : (now + 1) / 16 ^ (l + 1) = due / 16 ^ (l + 1) := by
    have a1 := div_mono (show now ≤ now + 1 by omega) (l + 1)
    have a2 := div_mono (show now + 1 ≤ due by omega) (l + 1)
    omega
  refine lvl_eq _ _ _ (by omega) h1 ?_
  intro j hj he
  have hm := lvl_min now due j (by omega)
  -- at level j + 1 ≤ l the new tick and due are one, the old one was not
  rcases step_div now (j + 1) with h | h
  · exact hm (h.trans he)
  · -- so they are one at l, too
    apply hn
    have hjl : j + 1 ≤ l := hj
    have e2 : (now + 1) / 16 ^ l = due / 16 ^ l := by
      obtain ⟨k, hk⟩ : ∃ k, l = j + 1 + k := ⟨l - (j + 1), by omega⟩
      rw [hk, Nat.pow_add, ← Nat.div_div_eq_div_mul, ← Nat.div_div_eq_div_mul, he]
    have hmin : now / 16 ^ l ≠ due / 16 ^ l := by
      have := lvl_min now due (l - 1) (by omega)
      rw [show l - 1 + 1 = l by omega] at this
      exact this
    refine ⟨?_, ?_⟩
    · rcases step_div now l with h' | h'
      · exact absurd (h'.trans e2) hmin
      · exact h'
    · unfold dig; rw [e2]
/-- A timer whose slot is reached is not overdue. -/
theorem hit_due (now due : Nat) (hlt : now < due) : now + 1 ≤ due := hlt

theorem xor_div (a b k : Nat) : (a ^^^ b) / 2 ^ k = 0 ↔ a / 2 ^ k = b / 2 ^ k := by
  have h : (a ^^^ b) / 2 ^ k = a / 2 ^ k ^^^ b / 2 ^ k := by
    rw [← Nat.shiftRight_eq_div_pow, ← Nat.shiftRight_eq_div_pow, ← Nat.shiftRight_eq_div_pow, Nat.shiftRight_xor_distrib]
  rw [h]
  constructor
  · intro h0
    have := congrArg (· ^^^ b / 2 ^ k) h0
    simp only [Nat.xor_assoc, Nat.xor_self, Nat.xor_zero, Nat.zero_xor] at this
    exact this
  · intro h0; rw [h0, Nat.xor_self]
theorem pow16 (l : Nat) : (16 : Nat) ^ l = 2 ^ (4 * l) := by rw [show (16 : Nat) = 2 ^ 4 from rfl, ← Nat.pow_mul]

end Go.Proofs.Ytofhkfbibdkjgaa
