/-
  Sets of nodes (package ident), and the document's.
-/
import Derived.Test.YtlaihgdfedalmaaGreatEBase
import Derived.Laws.BitsAllLaws
namespace Go.Proofs.YtlaihgdfedalmaaGreat
open Go.RowKit
set_option linter.unusedVariables false

/-- How many of the first f bits are 1. -/
def cntF : Nat → Nat → Nat
  | 0, _ => 0
  | f + 1, n => n % 2 + cntF f (n / 2)

theorem cntF_add : ∀ a b n, cntF (a + b) n = cntF a n + cntF b (n / 2 ^ a)
  | 0, b, n => by simp [cntF]
  | a + 1, b, n => by
    rw [Nat.add_right_comm, cntF, cntF, cntF_add a b (n / 2), Nat.div_div_eq_div_mul, Nat.pow_succ, Nat.mul_comm 2]
    omega
theorem cntF_mod : ∀ a n, cntF a (n % 2 ^ a) = cntF a n
  | 0, n => rfl
  | a + 1, n => by
    have h1 : n % 2 ^ (a + 1) % 2 = n % 2 := by rw [Nat.pow_succ, Nat.mul_comm]; exact Nat.mod_mul_right_mod n 2 (2 ^ a)
    have h2 : n % 2 ^ (a + 1) / 2 = n / 2 % 2 ^ a := by rw [Nat.pow_succ, Nat.mul_comm]; exact Nat.mod_mul_right_div_self n 2 (2 ^ a)
    rw [cntF, cntF, h1, h2, cntF_mod a (n / 2)]
theorem cntF_split (n : Nat) : cntF 16 n = cntF 8 (n / 256) + cntF 8 (n % 256) := by
  have h1 : cntF 16 n = cntF 8 n + cntF 8 (n / 256) := cntF_add 8 8 n
  have h2 : cntF 8 (n % 256) = cntF 8 n := cntF_mod 8 n
  omega
theorem cntF_le : ∀ f n, cntF f n ≤ f
  | 0, n => Nat.le_refl _
  | f + 1, n => by have := cntF_le f (n / 2); rw [cntF]; omega
/-- The nodes of a set below k, rising. -/
def nodes (s : Nat) (k : Nat) : List Nat := (List.range k).filter (fun i => s.testBit i)
/-- How many bits each byte has. -/
def tab : ByteArray := ⟨((List.range 256).map (fun k => UInt8.ofNat (cntF 8 k))).toArray⟩
theorem tab_all : ∀ i : Fin 256, (tab.data[i.val]?).map UInt8.toNat = some (cntF 8 i.val) := by decide +kernel
theorem tab_at {T : ByteArray} (hT : T = tab) {i : Nat} (h : i < T.size) (k : Nat) (e : i = k) (hk : k < 256) : T[i].toNat = cntF 8 k := by
  subst hT
  subst e
  have ha := tab_all ⟨i, hk⟩
  have hs : i < tab.data.size := h
  simp only [Array.getElem?_eq_getElem hs, Option.map_some, Option.some.injEq] at ha
  exact ha

set_option maxRecDepth 10000 in
theorem ones_any (w : World) (s : Nat) (hs : s < 65536) : Calls Tryz.prog 145 #[.int .u16 (s : Nat)] w fun e w' => e = .returned (.int .i64 (cntF 16 s : Nat)) ∧ ∃ q, w' = w.drewN q := by
  have ha : bits .and .u16 (s : Int) 255 = ((s % 256 : Nat) : Int) := by
    have := u16_and_nat s 255 hs (by omega)
    rw [show s &&& 255 = s % 256 by exact Nat.and_two_pow_sub_one_eq_mod s 8] at this
    exact this
  have hl1 := cntF_le 8 (s / 256)
  have hl2 := cntF_le 8 (s % 256)
  have HS : Hid (cntF 16 s = cntF 8 (s / 256) + cntF 8 (s % 256)) := cntF_split s
  go_enter Tryz.func145, Tryz.ntmps145
  go_wp2_with fail
  refine wp_region_noPanic ?_
  refine wp_region_held_drew (S := fun wx => True) (by kernel_rfl) trivial (fun hHeld => ?_)
  refine take_first 0 (v := ?_) rfl (by kernel_rfl) (by kernel_rfl) (by kernel_rfl) (fun _ _ _ h => h) (Or.inl ⟨by rfl, by intro wx hSw; go_simp; try with_reducible rfl⟩) trivial ?_
  (try simp only [Act.put, List.setIfInBounds_toArray, List.set_cons_zero, List.set_cons_succ])
  refine take_first 1 (v := .int .u16 ((s / 256 : Nat) : Int)) rfl (by kernel_rfl) (by kernel_rfl) (by kernel_rfl) (fun _ _ _ h => h) (Or.inl ⟨by rfl, by intro wx hSw; go_simp⟩) trivial ?_
  (try simp only [Act.put, List.setIfInBounds_toArray, List.set_cons_zero, List.set_cons_succ])
  refine take_first 2 (v := .int .u8 ((cntF 8 (s / 256) : Nat) : Int)) rfl (by kernel_rfl) (by kernel_rfl) (by kernel_rfl) (fun _ _ _ h => h) (Or.inl ⟨by rfl, by
    intro wx hSw
    go_simp
    rw [dif_pos (by omega), Result.andThen_ok, tab_at (by kernel_rfl) _ (s / 256) (by omega) (by omega)]⟩) trivial ?_
  (try simp only [Act.put, List.setIfInBounds_toArray, List.set_cons_zero, List.set_cons_succ])
  refine take_first 3 (v := ?_) rfl (by kernel_rfl) (by kernel_rfl) (by kernel_rfl) (fun _ _ _ h => h) (Or.inl ⟨by rfl, by intro wx hSw; go_simp; try with_reducible rfl⟩) trivial ?_
  (try simp only [Act.put, List.setIfInBounds_toArray, List.set_cons_zero, List.set_cons_succ])
  refine take_first 4 (v := .int .u16 ((s % 256 : Nat) : Int)) rfl (by kernel_rfl) (by kernel_rfl) (by kernel_rfl) (fun _ _ _ h => h) (Or.inl ⟨by rfl, by intro wx hSw; go_simp⟩) trivial ?_
  (try simp only [Act.put, List.setIfInBounds_toArray, List.set_cons_zero, List.set_cons_succ])
  refine take_first 5 (v := .int .u8 ((cntF 8 (s % 256) : Nat) : Int)) rfl (by kernel_rfl) (by kernel_rfl) (by kernel_rfl) (fun _ _ _ h => h) (Or.inl ⟨by rfl, by
    intro wx hSw
    go_simp
    rw [dif_pos (by omega), Result.andThen_ok, tab_at (by kernel_rfl) _ (s % 256) (by omega) (by omega)]⟩) trivial ?_
  (try simp only [Act.put, List.setIfInBounds_toArray, List.set_cons_zero, List.set_cons_succ])
  generalize cntF 8 (s / 256) = c1 at *
  generalize cntF 8 (s % 256) = c2 at *
  refine take_first 6 (v := .int .u8 ((c1 : Int) + c2)) rfl (by kernel_rfl) (by kernel_rfl) (by kernel_rfl) (fun _ _ _ h => h) (Or.inl ⟨by rfl, by intro wx hSw; go_simp; exact IntWalk.u8_in _ (by omega)⟩) trivial ?_
  (try simp only [Act.put, List.setIfInBounds_toArray, List.set_cons_zero, List.set_cons_succ])
  refine take_first 7 (v := .int .i64 ((c1 : Int) + c2)) rfl (by kernel_rfl) (by kernel_rfl) (by kernel_rfl) (fun _ _ _ h => h) (Or.inl ⟨by rfl, by intro wx hSw; go_simp; exact IntWalk.i64_in _ (by omega)⟩) trivial ?_
  (try simp only [Act.put, List.setIfInBounds_toArray, List.set_cons_zero, List.set_cons_succ])
  refine take_first 8 (v := ?_) rfl (by kernel_rfl) (by kernel_rfl) (by kernel_rfl) (fun _ _ _ h => h) (Or.inl ⟨by rfl, by intro wx hSw; go_simp; try with_reducible rfl⟩) trivial ?_
  (try simp only [Act.put, List.setIfInBounds_toArray, List.set_cons_zero, List.set_cons_succ])
  refine wpAnyH_done (by kernel_rfl) ?_ _
  refine NoPanic.normal ?_
  go_wp2
  go_ret
  exact ⟨ret_int (by rw [HS.out]; rfl), 1, rfl⟩

theorem count_any (w : World) (s : Nat) (hs : s < 65536) : Calls Tryz.prog 112 #[.int .u16 (s : Nat)] w fun e w' => e = .returned (.int .i64 (cntF 16 s : Nat)) ∧ ∃ q, w' = w.drewN q := by
  go_enter Tryz.func112, Tryz.ntmps112
  go_wp2_with fail
  refine (ones_any w s hs).mono ?_
  rintro e w1 ⟨rfl, q, rfl⟩
  go_wp2
  go_ret
  exact ⟨rfl, q, rfl⟩

/-- The set of one node. -/
def onlyN (i : Int) : Nat := if 0 ≤ i ∧ i < 16 then 2 ^ i.toNat else 0
theorem onlyN_lt (i : Int) : onlyN i < 65536 := by
  unfold onlyN
  split
  · have h := Nat.pow_le_pow_right (show 0 < 2 by omega) (show i.toNat ≤ 15 by omega)
    omega
  · omega

theorem wrap_pow (n : Nat) (h : n < 16) : IntKind.u16.wrap ((2 : Int) ^ n) = ((2 ^ n : Nat) : Int) := by
  have h2 := Nat.pow_le_pow_right (show 0 < 2 by omega) (show n ≤ 15 by omega)
  have e : ((2 ^ n : Nat) : Int) = (2 : Int) ^ n := by simp
  rw [← e]
  have hp : ∀ m : Nat, m ≤ 2 ^ 15 → IntKind.u16.wrap (m : Int) = m := fun m hm => IntWalk.u16_in _ (by omega)
  exact hp _ h2

set_option maxRecDepth 10000 in
theorem only_any (w : World) (i : Int) : Calls Tryz.prog 91 #[.int .i64 i] w fun e w' => e = .returned (.int .u16 (onlyN i : Nat)) ∧ w = w' := by
  by_cases h0 : i < 0
  · have HO : Hid (onlyN i = 0) := by unfold Hid onlyN; rw [if_neg (by omega)]
    go_enter Tryz.func91, Tryz.ntmps91
    go_wp2
    go_ret
    exact ⟨ret_int (by rw [HO.out]; rfl), rfl⟩
  · by_cases h1 : i < 16
    · have HO : Hid (onlyN i = 2 ^ i.toNat) := by unfold Hid onlyN; rw [if_pos (by omega)]
      have h2 := Nat.pow_le_pow_right (show 0 < 2 by omega) (show i.toNat ≤ 15 by omega)
      obtain ⟨n, rfl⟩ : ∃ n : Nat, i = n := ⟨i.toNat, by omega⟩
      rw [Int.toNat_natCast] at HO h2
      go_enter Tryz.func91, Tryz.ntmps91
      go_wp2
      go_ret
      exact ⟨ret_int (by rw [HO.out]; exact wrap_pow n (by omega)), rfl⟩
    · have HO : Hid (onlyN i = 0) := by unfold Hid onlyN; rw [if_neg (by omega)]
      go_enter Tryz.func91, Tryz.ntmps91
      go_wp2
      go_ret
      exact ⟨ret_int (by rw [HO.out]; rfl), rfl⟩

theorem and_pow (s k : Nat) : s &&& 2 ^ k = if s.testBit k then 2 ^ k else 0 := by
  apply Nat.eq_of_testBit_eq
  intro j
  rw [Nat.testBit_and, Nat.testBit_two_pow]
  by_cases h : k = j
  · subst h
    cases hb : s.testBit k <;> simp [Nat.testBit_two_pow_self]
  · have h1 : decide (k = j) = false := by simpa using h
    rw [h1, Bool.and_false]
    split
    · rw [Nat.testBit_two_pow, h1]
    · simp

/-- Is a node in a set? -/
def hasN (s : Nat) (i : Int) : Bool := decide (0 ≤ i) && decide (i < 16) && s.testBit i.toNat
theorem has_num (s : Nat) (hs : s < 65536) (i : Int) : (bits .and .u16 (s : Int) (onlyN i : Nat) != 0) = hasN s i := by
  rw [u16_and_nat s (onlyN i) hs (onlyN_lt i)]
  unfold hasN onlyN
  by_cases h : 0 ≤ i ∧ i < 16
  · rw [if_pos h]
    simp only [h.1, h.2, decide_true, Bool.true_and]
    rw [and_pow]
    have h2 := Nat.two_pow_pos i.toNat
    generalize 2 ^ i.toNat = m at *
    cases s.testBit i.toNat
    · simp
    · simp; omega
  · rw [if_neg h]
    by_cases h0 : 0 ≤ i
    · simp [h0, show ¬ i < 16 by omega]
    · simp [h0]

theorem has_any (w : World) (s : Nat) (hs : s < 65536) (i : Int) : Calls Tryz.prog 51 #[.int .u16 (s : Nat), .int .i64 i] w fun e w' => e = .returned (.bool (hasN s i)) ∧ w = w' := by
  have HH : Hid ((bits .and .u16 (s : Int) (onlyN i : Nat) != 0) = hasN s i) := has_num s hs i
  have ho := only_any w i
  generalize onlyN i = o at *
  go_enter Tryz.func51, Tryz.ntmps51
  go_wp2_with fail
  refine ho.mono ?_
  rintro e w1 ⟨rfl, rfl⟩
  go_wp2
  go_ret
  exact ⟨ret_bool (by rw [← HH.out]), rfl⟩

def withN (s : Nat) (i : Int) : Nat := s ||| onlyN i
theorem with_any (w : World) (s : Nat) (hs : s < 65536) (i : Int) : Calls Tryz.prog 108 #[.int .u16 (s : Nat), .int .i64 i] w fun e w' => e = .returned (.int .u16 (withN s i : Nat)) ∧ w = w' := by
  have ho := only_any w i
  have e := u16_or_nat s (onlyN i) hs (onlyN_lt i)
  unfold withN
  generalize onlyN i = o at *
  generalize s ||| o = r at *
  go_enter Tryz.func108, Tryz.ntmps108
  go_wp2_with fail
  refine ho.mono ?_
  rintro e w1 ⟨rfl, rfl⟩
  go_wp2
  go_ret
  exact ⟨rfl, rfl⟩
end Go.Proofs.YtlaihgdfedalmaaGreat
