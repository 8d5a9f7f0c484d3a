/-
  Sets with a node and without it, the document's answers, and the least node.
-/
import Derived.Test.YtlahdemhigcjnaaDoorIAwake
import Derived.Test.YtlahdemhigcjnaaDoorDMath
namespace Go.Proofs.YtlahdemhigcjnaaDoor
open Go.RowKit
set_option linter.unusedVariables false

/-- A set with a node, without it. -/
def withN (s : Nat) (i : Int) : Nat := s ||| onlyN i
def withoutN (s : Nat) (i : Int) : Nat := s &&& (65535 - onlyN i)
theorem withN_lt (s : Nat) (hs : s < 65536) (i : Int) : withN s i < 65536 := Nat.or_lt_two_pow (n := 16) hs (onlyN_lt i)
theorem withoutN_lt (s : Nat) (hs : s < 65536) (i : Int) : withoutN s i < 65536 := Nat.and_lt_two_pow (n := 16) s (by have := onlyN_lt i; omega)
theorem withN_eq (s : Nat) (i : Int) : withN s i = if 0 ≤ i ∧ i < 16 ∧ hasN s i = false then s + 2 ^ i.toNat else s := by
  unfold withN onlyN hasN
  by_cases h : 0 ≤ i ∧ i < 16
  · rw [if_pos h, or_pow]
    simp only [h.1, h.2, decide_true, Bool.true_and, true_and]
    cases s.testBit i.toNat <;> simp
  · rw [if_neg h, if_neg (by omega)]; simp
theorem withoutN_eq (s : Nat) (hs : s < 65536) (i : Int) : withoutN s i = if hasN s i = true then s - 2 ^ i.toNat else s := by
  unfold withoutN onlyN hasN
  by_cases h : 0 ≤ i ∧ i < 16
  · rw [if_pos h, not_pow s i.toNat hs (by omega)]
    simp only [h.1, h.2, decide_true, Bool.true_and]
  · rw [if_neg h, Nat.sub_zero, without_zero s hs]
    by_cases h0 : 0 ≤ i
    · simp [h0, show ¬ i < 16 by omega]
    · simp [h0]

theorem with_any (w : World) (s : Nat) (hs : s < 65536) (i : Int) : Calls Tryd.prog 11 #[.int .u16 (s : Nat), .int .i64 i] w fun e w' => e = .returned (.int .u16 (withN s i : Nat)) ∧ w = w' := by
  have ho := only_any w i
  have e := u16_or_nat s (onlyN i) hs (onlyN_lt i)
  unfold withN
  generalize onlyN i = o at *
  generalize s ||| o = r at *
  go_enter Tryd.func11, Tryd.ntmps11
  go_wp2_with fail
  refine ho.mono ?_
  rintro e w1 ⟨rfl, rfl⟩
  go_wp2
  go_ret
  exact ⟨rfl, rfl⟩
theorem without_any (w : World) (s : Nat) (hs : s < 65536) (i : Int) : Calls Tryd.prog 13 #[.int .u16 (s : Nat), .int .i64 i] w fun e w' => e = .returned (.int .u16 (withoutN s i : Nat)) ∧ w = w' := by
  have ho := only_any w i
  have e := u16_andNot_nat s (onlyN i) hs (onlyN_lt i)
  unfold withoutN
  generalize onlyN i = o at *
  generalize s &&& (65535 - o) = r at *
  go_enter Tryd.func13, Tryd.ntmps13
  go_wp2_with fail
  refine ho.mono ?_
  rintro e w1 ⟨rfl, rfl⟩
  go_wp2
  go_ret
  exact ⟨rfl, rfl⟩

theorem pow_step (k : Nat) (h : k < 15) : IntKind.u16.wrap (((2 ^ k : Nat) : Int) * 2) = ((2 ^ (k + 1) : Nat) : Int) := by
  have hp := Nat.pow_le_pow_right (show 0 < 2 by omega) (show k ≤ 14 by omega)
  rw [Nat.pow_succ]
  have : ∀ m : Nat, m ≤ 2 ^ 14 → IntKind.u16.wrap ((m : Int) * 2) = ((m * 2 : Nat) : Int) := fun m hm => by rw [IntWalk.u16_in _ (by omega)]; simp
  exact this _ hp

set_option maxRecDepth 10000 in
theorem bit_any (w : World) (n : Nat) (hn : n < 16) : Calls Tryd.prog 19 #[.int .i64 (n : Nat)] w fun e w' => e = .returned (.int .u16 (2 ^ n : Nat)) ∧ w = w' := by
  go_enter Tryd.func19, Tryd.ntmps19
  go_wp2
  go_loop [3, 4] (fun b i => ∃ k : Nat, k ≤ n ∧ i = .int .i64 k ∧ b = .int .u16 (2 ^ k : Nat)) (fun _ i => n - (intOf i).toNat)
  case atStart => exact ⟨0, by omega, rfl, rfl⟩
  case round =>
    obtain ⟨k, hk, rfl, rfl⟩ := hrel
    by_cases hlt : k < n
    · have hltI : (k : Int) < n := by omega
      have hs := pow_step k (by omega)
      obtain ⟨m, HM⟩ : ∃ m : Nat, Hid (2 ^ k = m) := ⟨_, rfl⟩
      have hm := Nat.pow_le_pow_right (show 0 < 2 by omega) (show k ≤ 14 by omega)
      rw [HM.out] at hs hm ⊢
      have HS : Hid (IntKind.u16.wrap ((m : Int) * 2) = ((2 ^ (k + 1) : Nat) : Int)) := hs
      clear hs
      go_wp2
      go_round
      case rel => exact ⟨k + 1, by omega, by go_num, by rw [← HS.out, IntWalk.u16_in _ (by omega)]⟩
      case measure => simp [intOf]; omega
    · obtain rfl : k = n := by omega
      go_wp2
      go_ret
      exact ⟨rfl, rfl⟩

theorem ref_has_num (s n : Nat) : decide (((s : Int) / ((2 ^ n : Nat) : Int)) % 2 = 1) = s.testBit n := by
  rw [Nat.testBit_eq_decide_div_mod_eq]
  have : ((s : Int) / ((2 ^ n : Nat) : Int)) % 2 = ((s / 2 ^ n % 2 : Nat) : Int) := by simp
  rw [this]
  exact decide_eq_decide.2 (by omega)
theorem ref_num (s m : Nat) (hs : s < 65536) (b : Bool) (h : decide (((s : Int) / (m : Int)) % 2 = 1) = b) : ((IntKind.u16.wrap ((s : Int) / (m : Int))).tmod 2 == 1) = b := by
  have e : (s : Int) / (m : Int) = ((s / m : Nat) : Int) := by simp
  have hle := Nat.div_le_self s m
  rw [e] at h ⊢
  clear e
  generalize s / m = d at *
  rw [IntWalk.u16_in _ (by omega), Int.tmod_eq_emod_of_nonneg (by omega), ← h]
  rfl
set_option maxRecDepth 10000 in
theorem refHas_any (w : World) (s : Nat) (hs : s < 65536) (i : Int) : Calls Tryd.prog 10 #[.int .u16 (s : Nat), .int .i64 i] w fun e w' => e = .returned (.bool (hasN s i)) ∧ w = w' := by
  unfold hasN
  by_cases h0 : 0 ≤ i
  · by_cases h1 : i < 16
    · obtain ⟨n, rfl⟩ : ∃ n : Nat, i = n := ⟨i.toNat, by omega⟩
      have hb := bit_any w n (by omega)
      have HR : Hid (decide (((s : Int) / ((2 ^ n : Nat) : Int)) % 2 = 1) = s.testBit n) := ref_has_num s n
      have hp := Nat.two_pow_pos n
      have hp2 := Nat.pow_le_pow_right (show 0 < 2 by omega) (show n ≤ 15 by omega)
      rw [Int.toNat_natCast, show decide (0 ≤ (n : Int)) = true by simp, show decide ((n : Int) < 16) = true by simpa using h1]
      generalize 2 ^ n = m at *
      go_enter Tryd.func10, Tryd.ntmps10
      go_wp2_with fail
      refine hb.mono ?_
      rintro e w1 ⟨rfl, rfl⟩
      go_wp2
      go_ret
      exact ⟨ret_bool (by rw [ref_num s m hs _ HR.out]; simp), rfl⟩
    · rw [show decide (i < 16) = false by simpa using h1]
      go_enter Tryd.func10, Tryd.ntmps10
      go_wp2
      go_ret
      exact ⟨ret_bool (by simp), rfl⟩
  · rw [show decide (0 ≤ i) = false by simpa using h0]
    go_enter Tryd.func10, Tryd.ntmps10
    go_wp2
    go_ret
    exact ⟨ret_bool (by simp), rfl⟩

set_option maxRecDepth 10000 in
theorem refWith_any (w : World) (s : Nat) (hs : s < 65536) (i : Int) : Calls Tryd.prog 12 #[.int .u16 (s : Nat), .int .i64 i] w fun e w' => e = .returned (.int .u16 (withN s i : Nat)) ∧ w = w' := by
  have hh := refHas_any w s hs i
  have hlt := withN_lt s hs i
  rw [withN_eq] at hlt ⊢
  by_cases h0 : i < 0
  · rw [if_neg (by omega)]
    go_enter Tryd.func12, Tryd.ntmps12
    go_wp2
    go_ret
    exact ⟨rfl, rfl⟩
  · by_cases h1 : 15 < i
    · rw [if_neg (by omega)]
      go_enter Tryd.func12, Tryd.ntmps12
      go_wp2
      go_ret
      exact ⟨rfl, rfl⟩
    · obtain ⟨n, rfl⟩ : ∃ n : Nat, i = n := ⟨i.toNat, by omega⟩
      have hb := bit_any w n (by omega)
      rw [Int.toNat_natCast] at hlt ⊢
      generalize 2 ^ n = m at *
      cases hc : hasN s n with
      | true =>
        rw [hc] at hh
        rw [if_neg (by simp)]
        go_enter Tryd.func12, Tryd.ntmps12
        go_wp2_with fail
        refine hh.mono ?_
        rintro e w1 ⟨rfl, rfl⟩
        go_wp2
        go_ret
        exact ⟨rfl, rfl⟩
      | false =>
        rw [hc] at hh hlt
        rw [if_pos ⟨by omega, by omega, rfl⟩] at hlt ⊢
        go_enter Tryd.func12, Tryd.ntmps12
        go_wp2_with fail
        refine hh.mono ?_
        rintro e w1 ⟨rfl, rfl⟩
        go_wp2_with fail
        refine hb.mono ?_
        rintro e w1 ⟨rfl, rfl⟩
        go_wp2
        go_ret
        exact ⟨ret_int (by go_num), rfl⟩

theorem has_le (s n : Nat) (h : s.testBit n = true) : 2 ^ n ≤ s := Nat.ge_two_pow_of_testBit h

set_option maxRecDepth 10000 in
theorem refWithout_any (w : World) (s : Nat) (hs : s < 65536) (i : Int) : Calls Tryd.prog 14 #[.int .u16 (s : Nat), .int .i64 i] w fun e w' => e = .returned (.int .u16 (withoutN s i : Nat)) ∧ w = w' := by
  have hh := refHas_any w s hs i
  rw [withoutN_eq s hs]
  cases hc : hasN s i with
  | false =>
    rw [hc] at hh
    rw [if_neg (by simp)]
    go_enter Tryd.func14, Tryd.ntmps14
    go_wp2_with fail
    refine hh.mono ?_
    rintro e w1 ⟨rfl, rfl⟩
    go_wp2
    go_ret
    exact ⟨rfl, rfl⟩
  | true =>
    rw [hc] at hh
    rw [if_pos rfl]
    simp only [hasN, Bool.and_eq_true, decide_eq_true_eq] at hc
    obtain ⟨⟨h0, h1⟩, h2⟩ := hc
    obtain ⟨n, rfl⟩ : ∃ n : Nat, i = n := ⟨i.toNat, by omega⟩
    rw [Int.toNat_natCast] at h2 ⊢
    have hle := has_le s n h2
    have hb := bit_any w n (by omega)
    clear h2
    generalize 2 ^ n = m at *
    go_enter Tryd.func14, Tryd.ntmps14
    go_wp2_with fail
    refine hh.mono ?_
    rintro e w1 ⟨rfl, rfl⟩
    go_wp2_with fail
    refine hb.mono ?_
    rintro e w1 ⟨rfl, rfl⟩
    go_wp2
    go_ret
    exact ⟨ret_int (by go_num), rfl⟩

end Go.Proofs.YtlahdemhigcjnaaDoor
