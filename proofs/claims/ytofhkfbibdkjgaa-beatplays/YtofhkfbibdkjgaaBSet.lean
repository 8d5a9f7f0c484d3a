/-
  Sets of nodes as bits: the set with a node, by package ident and by the document's answer.
-/
import Derived.Test.YtofhkfbibdkjgaaWSlot
import Derived.Laws.BitsAllLaws
namespace Go.Proofs.Ytofhkfbibdkjgaa
open Go.RowKit
set_option linter.unusedVariables false

theorem ret_bool {a b : Bool} (h : a = b) : Ending.returned (.bool a) = .returned (.bool b) := by rw [h]
/-- The set of one node. -/
def onlyN (i : Int) : Nat := if 0 ≤ i ∧ i < 16 then 2 ^ i.toNat else 0
theorem onlyN_lt (i : Int) : onlyN i < 65536 := by
  unfold onlyN
  split
  · have h := Nat.pow_le_pow_right (show 0 < 2 by omega) (show i.toNat ≤ 15 by omega)
    omega
  · omega
theorem wrap_pow (n : Nat) (h : n < 16) : IntKind.u16.wrap ((2 : Int) ^ n) = ((2 ^ n : Nat) : Int) := by
  have h2 := Nat.pow_le_pow_right (show 0 < 2 by omega) (show n ≤ 15 by omega)
  have e : ((2 ^ n : Nat) : Int) = (2 : Int) ^ n := by simp
  rw [← e]
  have hp : ∀ m : Nat, m ≤ 2 ^ 15 → IntKind.u16.wrap (m : Int) = m := fun m hm => IntWalk.u16_in _ (by omega)
  exact hp _ h2
set_option maxRecDepth 10000 in
theorem only_any (w : World) (i : Int) : Calls Try.prog 26 #[.int .i64 i] w fun e w' => e = .returned (.int .u16 (onlyN i : Nat)) ∧ w = w' := by
  by_cases h0 : i < 0
  · have HO : Hid (onlyN i = 0) := by unfold Hid onlyN; rw [if_neg (by omega)]
    go_enter Try.func26, Try.ntmps26
    go_wp2
    go_ret
    exact ⟨ret_int (by rw [HO.out]; rfl), rfl⟩
  · by_cases h1 : i < 16
    · have HO : Hid (onlyN i = 2 ^ i.toNat) := by unfold Hid onlyN; rw [if_pos (by omega)]
      have h2 := Nat.pow_le_pow_right (show 0 < 2 by omega) (show i.toNat ≤ 15 by omega)
      obtain ⟨n, rfl⟩ : ∃ n : Nat, i = n := ⟨i.toNat, by omega⟩
      rw [Int.toNat_natCast] at HO h2
      go_enter Try.func26, Try.ntmps26
      go_wp2
      go_ret
      exact ⟨ret_int (by rw [HO.out]; exact wrap_pow n (by omega)), rfl⟩
    · have HO : Hid (onlyN i = 0) := by unfold Hid onlyN; rw [if_neg (by omega)]
      go_enter Try.func26, Try.ntmps26
      go_wp2
      go_ret
      exact ⟨ret_int (by rw [HO.out]; rfl), rfl⟩
theorem and_pow (s k : Nat) : s &&& 2 ^ k = if s.testBit k then 2 ^ k else 0 := by
  apply Nat.eq_of_testBit_eq
  intro j
  rw [Nat.testBit_and, Nat.testBit_two_pow]
  by_cases h : k = j
  · subst h
    cases hb : s.testBit k <;> simp [Nat.testBit_two_pow_self]
  · have h1 : decide (k = j) = false := by simpa using h
    rw [h1, Bool.and_false]
    split
    · rw [Nat.testBit_two_pow, h1]
    · simp
/-- Is a node in a set? -/
def hasN (s : Nat) (i : Int) : Bool := decide (0 ≤ i) && decide (i < 16) && s.testBit i.toNat
/-- A set with a node, without it. -/
def withN (s : Nat) (i : Int) : Nat := s ||| onlyN i
theorem withN_lt (s : Nat) (hs : s < 65536) (i : Int) : withN s i < 65536 := Nat.or_lt_two_pow (n := 16) hs (onlyN_lt i)
theorem with_any (w : World) (s : Nat) (hs : s < 65536) (i : Int) : Calls Try.prog 20 #[.int .u16 (s : Nat), .int .i64 i] w fun e w' => e = .returned (.int .u16 (withN s i : Nat)) ∧ w = w' := by
  have ho := only_any w i
  have e := u16_or_nat s (onlyN i) hs (onlyN_lt i)
  unfold withN
  generalize onlyN i = o at *
  generalize s ||| o = r at *
  go_enter Try.func20, Try.ntmps20
  go_wp2_with fail
  refine ho.mono ?_
  rintro e w1 ⟨rfl, rfl⟩
  go_wp2
  go_ret
  exact ⟨rfl, rfl⟩
theorem pow_step (k : Nat) (h : k < 15) : IntKind.u16.wrap (((2 ^ k : Nat) : Int) * 2) = ((2 ^ (k + 1) : Nat) : Int) := by
  have hp := Nat.pow_le_pow_right (show 0 < 2 by omega) (show k ≤ 14 by omega)
  rw [Nat.pow_succ]
  have : ∀ m : Nat, m ≤ 2 ^ 14 → IntKind.u16.wrap ((m : Int) * 2) = ((m * 2 : Nat) : Int) := fun m hm => by rw [IntWalk.u16_in _ (by omega)]; simp
  exact this _ hp
set_option maxRecDepth 10000 in
theorem bit_any (w : World) (n : Nat) (hn : n < 16) : Calls Try.prog 22 #[.int .i64 (n : Nat)] w fun e w' => e = .returned (.int .u16 (2 ^ n : Nat)) ∧ w = w' := by
  go_enter Try.func22, Try.ntmps22
  go_wp2
  go_loop [3, 4] (fun b i => ∃ k : Nat, k ≤ n ∧ i = .int .i64 k ∧ b = .int .u16 (2 ^ k : Nat)) (fun _ i => n - (intOf i).toNat)
  case atStart => exact ⟨0, by omega, rfl, rfl⟩
  case round =>
    obtain ⟨k, hk, rfl, rfl⟩ := hrel
    by_cases hlt : k < n
    · have hltI : (k : Int) < n := by omega
      have hs := pow_step k (by omega)
      obtain ⟨m, HM⟩ : ∃ m : Nat, Hid (2 ^ k = m) := ⟨_, rfl⟩
      have hm := Nat.pow_le_pow_right (show 0 < 2 by omega) (show k ≤ 14 by omega)
      rw [HM.out] at hs hm ⊢
      have HS : Hid (IntKind.u16.wrap ((m : Int) * 2) = ((2 ^ (k + 1) : Nat) : Int)) := hs
      clear hs
      go_wp2
      go_round
      case rel => exact ⟨k + 1, by omega, by go_num, by rw [← HS.out, IntWalk.u16_in _ (by omega)]⟩
      case measure => simp [intOf]; omega
    · obtain rfl : k = n := by omega
      go_wp2
      go_ret
      exact ⟨rfl, rfl⟩
theorem ref_has_num (s n : Nat) : decide (((s : Int) / ((2 ^ n : Nat) : Int)) % 2 = 1) = s.testBit n := by
  rw [Nat.testBit_eq_decide_div_mod_eq]
  have : ((s : Int) / ((2 ^ n : Nat) : Int)) % 2 = ((s / 2 ^ n % 2 : Nat) : Int) := by simp
  rw [this]
  exact decide_eq_decide.2 (by omega)
theorem ref_num (s m : Nat) (hs : s < 65536) (b : Bool) (h : decide (((s : Int) / (m : Int)) % 2 = 1) = b) : ((IntKind.u16.wrap ((s : Int) / (m : Int))).tmod 2 == 1) = b := by
  have e : (s : Int) / (m : Int) = ((s / m : Nat) : Int) := by simp
  have hle := Nat.div_le_self s m
  rw [e] at h ⊢
  clear e
  generalize s / m = d at *
  rw [IntWalk.u16_in _ (by omega), Int.tmod_eq_emod_of_nonneg (by omega), ← h]
  rfl
set_option maxRecDepth 10000 in
theorem refHas_any (w : World) (s : Nat) (hs : s < 65536) (i : Int) : Calls Try.prog 21 #[.int .u16 (s : Nat), .int .i64 i] w fun e w' => e = .returned (.bool (hasN s i)) ∧ w = w' := by
  unfold hasN
  by_cases h0 : 0 ≤ i
  · by_cases h1 : i < 16
    · obtain ⟨n, rfl⟩ : ∃ n : Nat, i = n := ⟨i.toNat, by omega⟩
      have hb := bit_any w n (by omega)
      have HR : Hid (decide (((s : Int) / ((2 ^ n : Nat) : Int)) % 2 = 1) = s.testBit n) := ref_has_num s n
      have hp := Nat.two_pow_pos n
      have hp2 := Nat.pow_le_pow_right (show 0 < 2 by omega) (show n ≤ 15 by omega)
      rw [Int.toNat_natCast, show decide (0 ≤ (n : Int)) = true by simp, show decide ((n : Int) < 16) = true by simpa using h1]
      generalize 2 ^ n = m at *
      go_enter Try.func21, Try.ntmps21
      go_wp2_with fail
      refine hb.mono ?_
      rintro e w1 ⟨rfl, rfl⟩
      go_wp2
      go_ret
      exact ⟨ret_bool (by rw [ref_num s m hs _ HR.out]; simp), rfl⟩
    · rw [show decide (i < 16) = false by simpa using h1]
      go_enter Try.func21, Try.ntmps21
      go_wp2
      go_ret
      exact ⟨ret_bool (by simp), rfl⟩
  · rw [show decide (0 ≤ i) = false by simpa using h0]
    go_enter Try.func21, Try.ntmps21
    go_wp2
    go_ret
    exact ⟨ret_bool (by simp), rfl⟩
theorem or_add : ∀ x y : Nat, x &&& y = 0 → x ||| y = x + y := by
  intro x
  induction x using Nat.strongRecOn with
  | _ x ih =>
    intro y h
    by_cases hx : x = 0
    · subst hx; simp
    · have h1 : x / 2 &&& y / 2 = 0 := by rw [← Nat.and_div_two, h]
      have h2 := ih (x / 2) (by omega) (y / 2) h1
      have h3 : (x ||| y) / 2 = x / 2 ||| y / 2 := Nat.or_div_two
      have e1 : (x &&& y) % 2 = (x % 2) &&& (y % 2) := by have := Nat.and_mod_two_pow (a := x) (b := y) (n := 1); simpa using this
      have e2 : (x ||| y) % 2 = (x % 2) ||| (y % 2) := by have := Nat.or_mod_two_pow (a := x) (b := y) (n := 1); simpa using this
      rw [h] at e1
      have h4 : (x ||| y) % 2 = x % 2 + y % 2 := by
        rcases Nat.mod_two_eq_zero_or_one x with a | a <;> rcases Nat.mod_two_eq_zero_or_one y with b | b <;> rw [a, b] at e1 e2 ⊢ <;> simp at e1 e2 ⊢ <;> omega
      omega
theorem or_pow (s k : Nat) : s ||| 2 ^ k = if s.testBit k then s else s + 2 ^ k := by
  by_cases h : s.testBit k
  · rw [if_pos h]
    apply Nat.eq_of_testBit_eq
    intro j
    rw [Nat.testBit_or, Nat.testBit_two_pow]
    by_cases e : k = j
    · subst e; simp [h]
    · simp [e]
  · rw [if_neg h]
    have h0 : s &&& 2 ^ k = 0 := by
      apply Nat.eq_of_testBit_eq
      intro j
      rw [Nat.testBit_and, Nat.testBit_two_pow, Nat.zero_testBit]
      by_cases e : k = j
      · subst e; simp [h]
      · simp [e]
    exact or_add s (2 ^ k) h0
theorem withN_eq (s : Nat) (i : Int) : withN s i = if 0 ≤ i ∧ i < 16 ∧ hasN s i = false then s + 2 ^ i.toNat else s := by
  unfold withN onlyN hasN
  by_cases h : 0 ≤ i ∧ i < 16
  · rw [if_pos h, or_pow]
    simp only [h.1, h.2, decide_true, Bool.true_and, true_and]
    cases s.testBit i.toNat <;> simp
  · rw [if_neg h, if_neg (by omega)]; simp
set_option maxRecDepth 10000 in
theorem refWith_any (w : World) (s : Nat) (hs : s < 65536) (i : Int) : Calls Try.prog 12 #[.int .u16 (s : Nat), .int .i64 i] w fun e w' => e = .returned (.int .u16 (withN s i : Nat)) ∧ w = w' := by
  have hh := refHas_any w s hs i
  have hlt := withN_lt s hs i
  rw [withN_eq] at hlt ⊢
  by_cases h0 : i < 0
  · rw [if_neg (by omega)]
    go_enter Try.func12, Try.ntmps12
    go_wp2
    go_ret
    exact ⟨rfl, rfl⟩
  · by_cases h1 : 15 < i
    · rw [if_neg (by omega)]
      go_enter Try.func12, Try.ntmps12
      go_wp2
      go_ret
      exact ⟨rfl, rfl⟩
    · obtain ⟨n, rfl⟩ : ∃ n : Nat, i = n := ⟨i.toNat, by omega⟩
      have hb := bit_any w n (by omega)
      rw [Int.toNat_natCast] at hlt ⊢
      generalize 2 ^ n = m at *
      cases hc : hasN s n with
      | true =>
        rw [hc] at hh
        rw [if_neg (by simp)]
        go_enter Try.func12, Try.ntmps12
        go_wp2_with fail
        refine hh.mono ?_
        rintro e w1 ⟨rfl, rfl⟩
        go_wp2
        go_ret
        exact ⟨rfl, rfl⟩
      | false =>
        rw [hc] at hh hlt
        rw [if_pos ⟨by omega, by omega, rfl⟩] at hlt ⊢
        go_enter Try.func12, Try.ntmps12
        go_wp2_with fail
        refine hh.mono ?_
        rintro e w1 ⟨rfl, rfl⟩
        go_wp2_with fail
        refine hb.mono ?_
        rintro e w1 ⟨rfl, rfl⟩
        go_wp2
        go_ret
        exact ⟨ret_int (by go_num), rfl⟩

end Go.Proofs.Ytofhkfbibdkjgaa
