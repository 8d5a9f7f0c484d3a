/-
  Plain mathematics of CRC-32: it is linear, it loses nothing, and what is sealed comes to one number; so bits turned within 32 are seen.
-/
import Derived.Test.YtlnphniokaclcaaSeal2
namespace Go.Proofs.Ytlnphniokaclcaa
set_option linter.unusedVariables false

theorem mul01_xor (a b : Nat) (ha : a < 2) (hb : b < 2) (p : Nat) : p * ((a + b) % 2) = p * a ^^^ p * b := by
  rcases (show a = 0 ∨ a = 1 by omega) with rfl | rfl <;> rcases (show b = 0 ∨ b = 1 by omega) with rfl | rfl <;> simp
theorem crcBit_xor (a b : Nat) : crcBit (a ^^^ b) = crcBit a ^^^ crcBit b := by
  unfold crcBit
  rw [Nat.xor_div_two, xor_mod2, mul01_xor _ _ (by omega) (by omega)]
  simp only [Nat.xor_assoc]
  congr 1
  rw [← Nat.xor_assoc (b / 2), Nat.xor_comm (b / 2), Nat.xor_assoc]
theorem crcBits_xor (k a b : Nat) : crcBits k (a ^^^ b) = crcBits k a ^^^ crcBits k b := by
  induction k with
  | zero => rfl
  | succ k ih => rw [crcBits, ih, crcBit_xor]; rfl
theorem crcBits_add (j k c : Nat) : crcBits (j + k) c = crcBits j (crcBits k c) := by
  induction j with
  | zero => rw [Nat.zero_add]; rfl
  | succ j ih => rw [show j + 1 + k = (j + k) + 1 by omega, crcBits, ih]; rfl
theorem crcBit_even (y : Nat) : crcBit (2 * y) = y := by
  unfold crcBit
  rw [show 2 * y / 2 = y by omega, show 2 * y % 2 = 0 by omega]
  simp
theorem crcBits_pow (k y : Nat) : crcBits k (2 ^ k * y) = y := by
  induction k with
  | zero => simp [crcBits]
  | succ k ih =>
    rw [show k + 1 = k + 1 from rfl, crcBits_add k 1, Nat.pow_succ, show 2 ^ k * 2 * y = 2 * (2 ^ k * y) by rw [Nat.mul_comm (2 ^ k) 2, Nat.mul_assoc]]
    show crcBits k (crcBit (2 * (2 ^ k * y))) = y
    rw [crcBit_even, ih]
theorem crcBit_zero (z : Nat) (hz : z < 4294967296) (h : crcBit z = 0) : z = 0 := by
  unfold crcBit at h
  have h2 : z / 2 = 3988292384 * (z % 2) := by
    have := congrArg (· ^^^ (3988292384 * (z % 2))) h
    simp only [Nat.xor_assoc, Nat.xor_self, Nat.xor_zero, Nat.zero_xor] at this
    exact this
  omega
theorem crcBits_zero : ∀ (k z : Nat), z < 4294967296 → crcBits k z = 0 → z = 0
  | 0, z, _, h => h
  | k + 1, z, hz, h => crcBits_zero k z hz (crcBit_zero _ (crcBits_lt k z hz) h)

/-- A byte of which one bit is turned. -/
theorem crcByte_turn (c x b : Nat) (hb : b < 8) : crcBits 8 (c ^^^ (x ^^^ 2 ^ b)) = crcBits 8 (c ^^^ x) ^^^ crcBits (8 - b) 1 := by
  rw [← Nat.xor_assoc, crcBits_xor]
  congr 1
  have := crcBits_add (8 - b) b (2 ^ b)
  rw [show 8 - b + b = 8 by omega] at this
  rw [this]
  have h2 := crcBits_pow b 1
  rw [Nat.mul_one] at h2
  rw [h2]
theorem crcAll_xor (ys : List UInt8) : ∀ (c d : Nat), crcAll (c ^^^ d) ys = crcAll c ys ^^^ crcBits (8 * ys.length) d := by
  induction ys with
  | nil => intro c d; rfl
  | cons y t ih =>
    intro c d
    show crcAll (crcByte (c ^^^ d) y) t = crcAll (crcByte c y) t ^^^ crcBits (8 * (t.length + 1)) d
    have h1 : crcByte (c ^^^ d) y = crcByte c y ^^^ crcBits 8 d := by
      unfold crcByte
      rw [show c ^^^ d ^^^ y.toNat = c ^^^ y.toNat ^^^ d by rw [Nat.xor_assoc, Nat.xor_comm d, ← Nat.xor_assoc], crcBits_xor]
    rw [h1, ih, show 8 * (t.length + 1) = 8 * t.length + 8 by omega, crcBits_add]
/-- One bit of many bytes is turned. -/
theorem crcAll_turn (ys : List UInt8) (q b c : Nat) (hq : q < ys.length) (hb : b < 8) (z : UInt8) (hz : z.toNat = (ys.getD q 0).toNat ^^^ 2 ^ b) :
    crcAll c (ys.set q z) = crcAll c ys ^^^ crcBits (8 * ys.length - (8 * q + b)) 1 := by
  have e : ys = ys.take q ++ (ys.getD q 0 :: ys.drop (q + 1)) := by
    rw [← drop_cons hq, List.take_append_drop]
  have e2 : ys.set q z = ys.take q ++ (z :: ys.drop (q + 1)) := by
    rw [List.set_eq_take_append_cons_drop, if_pos hq]
  have hl : (ys.drop (q + 1)).length = ys.length - (q + 1) := List.length_drop
  rw [e2]
  conv => rhs; rw [show crcAll c ys = crcAll c (ys.take q ++ (ys.getD q 0 :: ys.drop (q + 1))) by rw [← e]]
  rw [crcAll_append, crcAll_append]
  generalize crcAll c (ys.take q) = d
  show crcAll (crcByte d z) _ = crcAll (crcByte d (ys.getD q 0)) _ ^^^ _
  have h1 : crcByte d z = crcByte d (ys.getD q 0) ^^^ crcBits (8 - b) 1 := by
    unfold crcByte
    rw [hz, crcByte_turn _ _ _ hb]
  rw [h1, crcAll_xor, hl, ← crcBits_add]
  congr 2
  omega

/-- What is sealed comes to one number. -/
theorem crc_le4 (c T : Nat) (hT : T < 4294967296) : crcAll c (le4 T) = crcBits 32 (c ^^^ T) := by
  have step : ∀ (c x y : Nat), x < 256 → crcBits 8 (c ^^^ (256 * y + x)) = crcBits 8 (c ^^^ x) ^^^ y := by
    intro c x y hx
    have h1 : 256 * y + x = 256 * y ^^^ x := by
      have := Nat.two_pow_add_eq_or_of_lt (i := 8) (b := x) (by omega) y
      have hx2 : 2 ^ 8 * y ||| x = 2 ^ 8 * y ^^^ x := by
        have h0 : (2 ^ 8 * y) &&& x = 0 := by
          apply Nat.eq_of_testBit_eq
          intro i
          rw [Nat.testBit_and, Nat.zero_testBit, Nat.testBit_two_pow_mul]
          by_cases hi : 8 ≤ i
          · have : x.testBit i = false := Nat.testBit_lt_two_pow (Nat.lt_of_lt_of_le hx (Nat.pow_le_pow_right (n := 2) (by omega) hi))
            simp [this]
          · simp [hi]
        apply Nat.eq_of_testBit_eq
        intro i
        have hb := congrArg (fun m => m.testBit i) h0
        simp only [Nat.testBit_and, Nat.zero_testBit] at hb
        rw [Nat.testBit_or, Nat.testBit_xor]
        revert hb
        cases (2 ^ 8 * y).testBit i <;> cases x.testBit i <;> simp
      rw [show (256 : Nat) = 2 ^ 8 from rfl, this, hx2]
    rw [h1, Nat.xor_comm (256 * y), ← Nat.xor_assoc, crcBits_xor, crcBits_pow 8 y]
  have h0 : T = 256 * (256 * (256 * (T / 16777216) + T / 65536 % 256) + T / 256 % 256) + T % 256 := by omega
  have b0 := ofNat_toNat (T % 256) (by omega)
  have b1 := ofNat_toNat (T / 256 % 256) (by omega)
  have b2 := ofNat_toNat (T / 65536 % 256) (by omega)
  have b3 := ofNat_toNat (T / 16777216 % 256) (by omega)
  rw [show (32 : Nat) = 8 + (8 + (8 + 8)) from rfl, crcBits_add, crcBits_add, crcBits_add]
  conv => rhs; rw [h0]
  rw [step _ _ _ (by omega), step _ _ _ (by omega), step _ _ _ (by omega)]
  show crcByte (crcByte (crcByte (crcByte c _) _) _) _ = _
  unfold crcByte
  rw [b0, b1, b2, b3, show T / 16777216 % 256 = T / 16777216 by omega]
def residue : Nat := crcBits 32 4294967295
theorem crc_sealed (xs : List UInt8) : crcAll 4294967295 (xs ++ le4 (crcSum xs)) = residue := by
  rw [crcAll_append, crc_le4 _ _ (crcSum_lt xs)]
  unfold residue crcSum
  congr 1
  rw [Nat.xor_comm 4294967295, ← Nat.xor_assoc, Nat.xor_self, Nat.zero_xor]

theorem pow_ne_zero_shift (N i : Nat) (h : i ≤ N) : crcBits (N - i) 1 = crcBits N (2 ^ i) := by
  have := crcBits_add (N - i) i (2 ^ i)
  rw [show N - i + i = N by omega] at this
  have h2 := crcBits_pow i 1
  rw [Nat.mul_one] at h2
  rw [this, h2]
theorem mod_succ_one (pat i : Nat) (h : pat / 2 ^ i % 2 = 1) : pat % 2 ^ (i + 1) = pat % 2 ^ i ^^^ 2 ^ i := by
  have h1 : pat % 2 ^ (i + 1) = pat % 2 ^ i + 2 ^ i * (pat / 2 ^ i % 2) := by rw [Nat.pow_succ, Nat.mod_mul]
  have hlt : pat % 2 ^ i < 2 ^ i := Nat.mod_lt _ (Nat.pow_pos (by omega))
  rw [h1, h]
  apply Nat.eq_of_testBit_eq
  intro j
  rw [Nat.mul_one, Nat.testBit_xor, Nat.add_comm, Nat.testBit_two_pow]
  by_cases hj : i = j
  · subst hj
    rw [Nat.testBit_two_pow_add_eq, Nat.testBit_lt_two_pow hlt]
    simp
  · rcases Nat.lt_or_ge j i with hl | hl
    · rw [Nat.testBit_two_pow_add_gt hl]
      simp [hj]
    · have hgt : i < j := by omega
      have hz1 : (2 ^ i + pat % 2 ^ i).testBit j = false := Nat.testBit_lt_two_pow (by
        have : 2 ^ (i + 1) ≤ 2 ^ j := Nat.pow_le_pow_right (by omega) (by omega)
        rw [Nat.pow_succ] at this
        omega)
      have hz2 : (pat % 2 ^ i).testBit j = false := Nat.testBit_lt_two_pow (by
        have : 2 ^ i ≤ 2 ^ j := Nat.pow_le_pow_right (by omega) (by omega)
        omega)
      rw [hz1, hz2]
      simp [hj]
theorem mod_succ_zero (pat i : Nat) (h : pat / 2 ^ i % 2 = 0) : pat % 2 ^ (i + 1) = pat % 2 ^ i := by
  have h1 : pat % 2 ^ (i + 1) = pat % 2 ^ i + 2 ^ i * (pat / 2 ^ i % 2) := by rw [Nat.pow_succ, Nat.mod_mul]
  rw [h1, h]
  simp

end Go.Proofs.Ytlnphniokaclcaa
