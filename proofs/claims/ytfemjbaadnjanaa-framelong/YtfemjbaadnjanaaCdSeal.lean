/-
  Contracts of what seals bytes with their sum: Sum of the document's answer; sum and Seal of package code; Seal of the document's answer.
-/
import Derived.Test.YtfemjbaadnjanaaCdStr
import Derived.Test.YtfemjbaadnjanaaCdRegion
import Derived.RegionTactic
import Derived.Deep.RegionLawGrows
namespace Go.Proofs.Ytfemjbaadnjanaa.Cd
open Go.RowKit
set_option linter.unusedVariables false
set_option linter.unusedSimpArgs false

/-! ### Sum of the document's answer -/
theorem xor_mod2 (a b : Nat) : (a ^^^ b) % 2 = (a % 2 + b % 2) % 2 := by
  have := @Nat.xor_mod_two_pow a b 1
  simp only [Nat.pow_one] at this
  rw [this]
  rcases (show a % 2 = 0 ∨ a % 2 = 1 by omega) with h | h <;> rcases (show b % 2 = 0 ∨ b % 2 = 1 by omega) with k | k <;> rw [h, k] <;> decide
def refBits (j c : Nat) (x : UInt8) : Nat := crcBits j (c ^^^ x.toNat) ^^^ (x.toNat / 2 ^ j)
theorem refBits_lt (j c : Nat) (x : UInt8) (h : c < 4294967296) : refBits j c x < 4294967296 := by
  have hx := u8_lt x
  have h1 := Nat.div_le_self x.toNat (2 ^ j)
  exact Nat.xor_lt_two_pow (n := 32) (crcBits_lt j _ (Nat.xor_lt_two_pow (n := 32) (by omega) (by omega))) (by omega)
theorem refBits_zero (c : Nat) (x : UInt8) : refBits 0 c x = c := by
  simp [refBits, crcBits, Nat.xor_assoc]
theorem refBits_eight (c : Nat) (x : UInt8) : refBits 8 c x = crcByte c x := by
  have hx := u8_lt x
  have : x.toNat / 2 ^ 8 = 0 := by omega
  simp [refBits, crcByte, this]
theorem refBits_low (j c : Nat) (x : UInt8) : (refBits j c x % 2 + x.toNat / 2 ^ j % 2) % 2 = crcBits j (c ^^^ x.toNat) % 2 := by
  unfold refBits
  rw [xor_mod2]
  omega
theorem refBits_succ (j c : Nat) (x : UInt8) : refBits (j + 1) c x = refBits j c x / 2 ^^^ 3988292384 * (crcBits j (c ^^^ x.toNat) % 2) := by
  unfold refBits
  rw [Nat.xor_div_two, crcBits, crcBit, Nat.pow_succ, ← Nat.div_div_eq_div_mul]
  simp only [Nat.xor_assoc]
  congr 1
  rw [Nat.xor_comm]
theorem sub_xor (c : Nat) (h : c < 4294967296) : 4294967295 - c = 4294967295 ^^^ c := by
  have e : (BitVec.allOnes 32 ^^^ BitVec.ofNat 32 c) = ~~~ (BitVec.ofNat 32 c) := BitVec.allOnes_xor
  have := congrArg BitVec.toNat e
  rw [BitVec.toNat_xor, BitVec.toNat_allOnes, BitVec.toNat_not, BitVec.toNat_ofNat, Nat.mod_eq_of_lt (by omega)] at this
  exact this.symm
theorem low_val (C X S : Nat) (hC : C < 4294967296) (hX : X < 256) (h : (C % 2 + X % 2) % 2 = S) : bits .xor .u32 (bits .and .u32 (C : Int) 1) (bits .and .u32 (X : Int) 1) = (S : Int) := by
  have h1 := u32_and_nat C 1 hC (by omega)
  have h2 := u32_and_nat X 1 (by omega) (by omega)
  rw [Nat.and_one_is_mod] at h1 h2
  have h1' : bits .and .u32 (C : Int) 1 = ((C % 2 : Nat) : Int) := h1
  have h2' : bits .and .u32 (X : Int) 1 = ((X % 2 : Nat) : Int) := h2
  rw [h1', h2', u32_xor_nat _ _ (by omega) (by omega), ← h]
  rcases (show C % 2 = 0 ∨ C % 2 = 1 by omega) with a | a <;> rcases (show X % 2 = 0 ∨ X % 2 = 1 by omega) with b | b <;> rw [a, b] <;> rfl

set_option maxRecDepth 10000 in
set_option maxHeartbeats 1000000 in
theorem refSum_any (w : World) (ao : Option Addr) (n cap : Nat) (xs : List UInt8) (h : Row w ao n cap xs) :
    Calls Try.prog 37 #[.slice ao n cap] w fun e w' => e = .returned (.int .u32 (crcSum xs : Nat)) ∧ w = w' := by
  have hop := h.open
  obtain ⟨hlen, hle, hm, _, _⟩ := h
  unfold maxLen at hm
  go_enter Try.func37, Try.ntmps37
  go_wp2
  go_loop [3, 4] (fun s i => ∃ k : Nat, k ≤ n ∧ i = .int .i64 k ∧ s = .int .u32 (crcAll 4294967295 (xs.take k) : Nat)) (fun _ i => n - (intOf i).toNat)
  case atStart => exact ⟨0, by omega, rfl, rfl⟩
  case round =>
    obtain ⟨k, hk, rfl, rfl⟩ := hrel
    have hcl := crcAll_lt (xs.take k) 4294967295 (by omega)
    by_cases hlt : k < n
    · obtain ⟨b, off, rfl, hcell⟩ := hop (by omega)
      have hck := hcell k hlt
      have HT : Hid (crcAll 4294967295 (xs.take (k + 1)) = crcByte (crcAll 4294967295 (xs.take k)) (xs.getD k 0)) := crcAll_take _ _ _ (by omega)
      obtain ⟨c, hc⟩ : ∃ c, c = crcAll 4294967295 (xs.take k) := ⟨_, rfl⟩
      obtain ⟨x, hx⟩ : ∃ x, x = xs.getD k 0 := ⟨_, rfl⟩
      rw [← hc, ← hx] at HT
      rw [← hc] at hcl ⊢
      rw [← hx] at hck
      have hxl := u8_lt x
      clear hc hx hcell hop
      go_wp2
      go_loop [3, 5] (fun s i => ∃ j : Nat, j ≤ 8 ∧ i = .int .i64 j ∧ s = .int .u32 (refBits j c x : Nat)) (fun _ i => 8 - (intOf i).toNat)
      case atStart => exact ⟨0, by omega, rfl, by rw [refBits_zero]⟩
      case round =>
        obtain ⟨j, hj, rfl, rfl⟩ := hrel
        have hbl := refBits_lt j c x hcl
        by_cases hlt8 : j < 8
        · obtain ⟨X, hX⟩ : ∃ X, X = x.toNat / 2 ^ j := ⟨_, rfl⟩
          have hXl : X < 256 := by have := Nat.div_le_self x.toNat (2 ^ j); omega
          have hXi : (x.toNat : Int) / 2 ^ j = (X : Int) := by rw [hX]; simp
          have hlow := refBits_low j c x
          rw [← hX] at hlow
          have HSU : Hid (refBits (j + 1) c x = refBits j c x / 2 ^^^ 3988292384 * (crcBits j (c ^^^ x.toNat) % 2)) := refBits_succ j c x
          clear hX
          generalize crcBits j (c ^^^ x.toNat) % 2 = S at HSU hlow
          have HLO : Hid ((refBits j c x % 2 + X % 2) % 2 = S) := hlow
          clear hlow
          go_wp2
          · have hb : (bits .xor .u32 (bits .and .u32 ((refBits j c x : Nat) : Int) 1) (bits .and .u32 (X : Int) 1) == 1) = true := by assumption
            rw [low_val _ _ S hbl hXl HLO.out, beq_iff_eq] at hb
            have HN : bits .xor .u32 ((refBits j c x : Nat) / 2 : Int) 3988292384 = ((refBits (j + 1) c x : Nat) : Int) := by
              have := HLO.out
              rw [HSU.out, show S = 1 by omega, show (((refBits j c x : Nat) : Int) / 2) = ((refBits j c x / 2 : Nat) : Int) by omega]
              exact u32_xor_nat _ 3988292384 (by omega) (by omega)
            go_round
            case rel => exact ⟨j + 1, by omega, by go_num, by rw [HN]⟩
            case measure => simp [intOf]; omega
          · have hb : (bits .xor .u32 (bits .and .u32 ((refBits j c x : Nat) : Int) 1) (bits .and .u32 (X : Int) 1) == 1) = false := by assumption
            rw [low_val _ _ S hbl hXl HLO.out, beq_eq_false_iff_ne] at hb
            have HN : ((refBits j c x : Nat) / 2 : Int) = ((refBits (j + 1) c x : Nat) : Int) := by
              have := HLO.out
              rw [HSU.out, show S = 0 by omega]
              simp
            go_round
            case rel => exact ⟨j + 1, by omega, by go_num, by rw [HN]⟩
            case measure => simp [intOf]; omega
        · have h8 : j = 8 := by omega
          subst h8
          go_wp2
          go_round
          case rel => exact ⟨k + 1, by omega, by go_num, by rw [HT.out, ← refBits_eight]⟩
          case measure => simp [intOf]; omega
    · have hkn : k = n := by omega
      subst hkn
      have HSB : Hid (4294967295 - crcAll 4294967295 (xs.take k) = crcSum xs) := by
        show 4294967295 - crcAll 4294967295 (xs.take k) = crcSum xs
        rw [sub_xor _ hcl, List.take_of_length_le (by omega)]
        rfl
      go_wp2
      go_ret
      exact ⟨ret_int (by have := HSB.out; omega), rfl⟩

end Go.Proofs.Ytfemjbaadnjanaa.Cd
