/-
  Contracts of the leaves of package wheel: digit, level: what each call answers, for every tick below 2^64.
-/
import Derived.Test.YtofhkfbibdkjgaaProg
import Derived.Test.YtofhkfbibdkjgaaWMath
import Derived.WalkKit
import Derived.WalkSpells
import Derived.WalkLawsBesides
import Derived.Outline
namespace Go.Proofs.Ytofhkfbibdkjgaa
open Go.RowKit
set_option linter.unusedVariables false

theorem ret_int {k : IntKind} {a b : Int} (h : a = b) : Ending.returned (.int k a) = .returned (.int k b) := by rw [h]

theorem digit_num (t l : Nat) (ht : t < 18446744073709551616) : (t : Int) / 2 ^ (4 * l) % 16 = ((dig t l : Nat) : Int) := by
  unfold dig
  rw [pow16]
  have : (2 : Int) ^ (4 * l) = ((2 ^ (4 * l) : Nat) : Int) := by simp
  rw [this]
  omega

set_option maxRecDepth 10000 in
set_option maxHeartbeats 400000 in
theorem digit_any (w : World) (t l : Nat) (ht : t < 18446744073709551616) (hl : l ≤ 15) : Calls Try.prog 32 #[.int .u64 (t : Nat), .int .i64 (l : Nat)] w fun e w' => e = .returned (.int .i64 (dig t l : Nat)) ∧ w = w' := by
  have hdl := dig_lt t l
  have hd := digit_num t l ht
  have HD : Hid ((t : Int) / 2 ^ (4 * l) % 16 = ((dig t l : Nat) : Int)) := hd
  clear hd
  go_enter Try.func32, Try.ntmps32
  go_wp2
  go_ret
  refine ⟨ret_int ?_, rfl⟩
  have hn : ((t : Int) / 2 ^ (4 * l)).tmod 16 = ((dig t l : Nat) : Int) := by
    rw [Int.tmod_eq_emod_of_nonneg (by
      have : (2 : Int) ^ (4 * l) = ((2 ^ (4 * l) : Nat) : Int) := by simp
      rw [this]; exact Int.ediv_nonneg (Int.natCast_nonneg _) (Int.natCast_nonneg _))]
    exact HD.out
  rw [hn]
  unfold wrap64
  omega

/-- What the walk's test says: the two ticks are one above a level. -/
theorem level_test (a b j : Nat) (ha : a < 18446744073709551616) (hb : b < 18446744073709551616) : (bits .xor .u64 (a : Int) (b : Int) / 2 ^ (4 * (j + 1)) = 0) ↔ a / 16 ^ (j + 1) = b / 16 ^ (j + 1) := by
  have h := u64_xor_nat a b ha hb
  rw [h]
  have : (2 : Int) ^ (4 * (j + 1)) = ((2 ^ (4 * (j + 1)) : Nat) : Int) := by simp
  rw [this, pow16, ← xor_div]
  omega

set_option maxRecDepth 10000 in
set_option maxHeartbeats 1000000 in
theorem level_any (w : World) (a b : Nat) (ha : a < 18446744073709551616) (hb : b < 18446744073709551616) : Calls Try.prog 36 #[.int .u64 (a : Nat), .int .u64 (b : Nat)] w fun e w' => e = .returned (.int .i64 (lvl a b : Nat)) ∧ w = w' := by
  go_enter Try.func36, Try.ntmps36
  go_wp2
  go_loop [6] (fun i => ∃ k : Nat, k ≤ 15 ∧ i = .int .i64 k ∧ lvlF (15 - k) k a b = lvl a b) (fun i => 16 - (intOf i).toNat)
  case atStart => exact ⟨0, by omega, rfl, rfl⟩
  case round =>
    obtain ⟨k, hk, rfl, hl⟩ := hrel
    have HL : Hid (lvlF (15 - k) k a b = lvl a b) := hl
    have HT : Hid (bits .xor .u64 (a : Int) (b : Int) / 2 ^ (4 * (k + 1)) = 0 ↔ a / 16 ^ (k + 1) = b / 16 ^ (k + 1)) := level_test a b k ha hb
    clear hl
    by_cases he : a / 16 ^ (k + 1) = b / 16 ^ (k + 1)
    · have h0 := HT.out.2 he
      have hl : lvl a b = k := by
        rw [← HL.out]
        by_cases h15 : k = 15
        · subst h15; rfl
        · rw [show 15 - k = (14 - k) + 1 by omega, lvlF, if_pos he]
      have HK : Hid (lvl a b = k) := hl
      clear hl HL HT he
      go_wp2
      go_ret
      exact ⟨ret_int (by rw [HK.out]), rfl⟩
    · have h15 : k ≠ 15 := by
        rintro rfl
        exact he (by rw [div_zero ha, div_zero hb])
      have h0 : ¬ (bits .xor .u64 (a : Int) (b : Int) / 2 ^ (4 * (k + 1)) = 0) := fun h => he (HT.out.1 h)
      have hl : lvlF (15 - (k + 1)) (k + 1) a b = lvl a b := by
        have := HL.out
        rw [show 15 - k = (15 - (k + 1)) + 1 by omega, lvlF, if_neg he] at this
        exact this
      have HN : Hid (lvlF (15 - (k + 1)) (k + 1) a b = lvl a b) := hl
      have h0' : (bits .xor .u64 (a : Int) (b : Int) / 2 ^ (4 * (k + 1)) == 0) = false := by simpa using h0
      clear hl HL HT he h0
      go_wp2
      go_round
      case rel => exact ⟨k + 1, by omega, by go_num, HN.out⟩
      case measure => simp [intOf]; omega

end Go.Proofs.Ytofhkfbibdkjgaa
