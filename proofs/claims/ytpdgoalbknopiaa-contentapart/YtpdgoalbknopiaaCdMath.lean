/-
  Plain mathematics for the code layer: CRC-32 bit by bit over numbers, and numbers as bytes of seven bits each, written and read. No program is named here.
-/
import Derived.Laws.BitsAllLaws
namespace Go.Proofs.Ytpdgoalbknopiaa.Cd
set_option linter.unusedVariables false

/-! ### CRC-32 -/
def crcBit (c : Nat) : Nat := c / 2 ^^^ 3988292384 * (c % 2)
def crcBits : Nat → Nat → Nat
  | 0, c => c
  | k + 1, c => crcBit (crcBits k c)
def crcByte (c : Nat) (x : UInt8) : Nat := crcBits 8 (c ^^^ x.toNat)
def crcAll (c : Nat) (xs : List UInt8) : Nat := xs.foldl crcByte c
def crcSum (xs : List UInt8) : Nat := 4294967295 ^^^ crcAll 4294967295 xs

theorem crcBit_lt (c : Nat) (h : c < 4294967296) : crcBit c < 4294967296 := by
  unfold crcBit
  exact Nat.xor_lt_two_pow (n := 32) (by omega) (by omega)
theorem crcBits_lt : ∀ (k c : Nat), c < 4294967296 → crcBits k c < 4294967296
  | 0, _, h => h
  | k + 1, c, h => crcBit_lt _ (crcBits_lt k c h)
theorem u8_lt (x : UInt8) : x.toNat < 256 := x.toNat_lt
theorem crcByte_lt (c : Nat) (x : UInt8) (h : c < 4294967296) : crcByte c x < 4294967296 :=
  crcBits_lt 8 _ (Nat.xor_lt_two_pow (n := 32) (by omega) (by have := u8_lt x; omega))
theorem crcAll_lt : ∀ (xs : List UInt8) (c : Nat), c < 4294967296 → crcAll c xs < 4294967296
  | [], c, h => h
  | x :: t, c, h => crcAll_lt t _ (crcByte_lt c x h)
theorem crcSum_lt (xs : List UInt8) : crcSum xs < 4294967296 :=
  Nat.xor_lt_two_pow (n := 32) (by omega) (crcAll_lt xs _ (by omega))
theorem crcAll_take (c : Nat) (xs : List UInt8) (k : Nat) (h : k < xs.length) : crcAll c (xs.take (k + 1)) = crcByte (crcAll c (xs.take k)) (xs.getD k 0) := by
  rw [List.take_succ_eq_append_getElem h, crcAll, List.foldl_append]
  simp [crcAll, List.getD, List.getElem?_eq_getElem h]
theorem crcAll_append (c : Nat) (xs ys : List UInt8) : crcAll c (xs ++ ys) = crcAll (crcAll c xs) ys := List.foldl_append ..

theorem walk_xor (c x : Nat) (h : c < 4294967296) (hx : x < 256) : bits .xor .u32 (c : Int) ((x : Int) % 4294967296) = ((c ^^^ x : Nat) : Int) := by
  rw [show ((x : Int) % 4294967296) = ((x : Nat) : Int) by omega]
  exact u32_xor_nat c x h (by omega)
theorem walk_bit (c : Nat) (h : c < 4294967296) : bits .xor .u32 ((c : Int) / 2) (3988292384 * bits .and .u32 (c : Int) 1 % 4294967296) = ((crcBit c : Nat) : Int) := by
  have h1 : bits .and .u32 (c : Int) 1 = ((c % 2 : Nat) : Int) := by
    have := u32_and_nat c 1 h (by omega)
    rw [Nat.and_one_is_mod] at this
    exact this
  rw [h1, show (3988292384 * ((c % 2 : Nat) : Int) % 4294967296) = ((3988292384 * (c % 2) : Nat) : Int) by omega, show ((c : Int) / 2) = ((c / 2 : Nat) : Int) by omega]
  rw [u32_xor_nat _ _ (by omega) (by omega)]
  rfl
theorem walk_not (c : Nat) (h : c < 4294967296) : bits .xor .u32 IntKind.u32.max (c : Int) = ((4294967295 ^^^ c : Nat) : Int) := by
  have : IntKind.u32.max = ((4294967295 : Nat) : Int) := by decide
  rw [this]
  exact u32_xor_nat _ _ (by omega) h

/-! ### Numbers as bytes -/
def encF : Nat → Nat → List UInt8
  | 0, n => [UInt8.ofNat n]
  | f + 1, n => if n < 128 then [UInt8.ofNat n] else UInt8.ofNat (n % 128 + 128) :: encF f (n / 128)
def enc (n : Nat) : List UInt8 := encF 9 n

theorem encF_small (f n : Nat) (h : n < 128) : encF f n = [UInt8.ofNat n] := by cases f <;> simp [encF, h]
theorem encF_big (f n : Nat) (h : 128 ≤ n) : encF (f + 1) n = UInt8.ofNat (n % 128 + 128) :: encF f (n / 128) := by
  rw [encF, if_neg (by omega)]
theorem encF_length : ∀ (f n : Nat), (encF f n).length ≤ f + 1
  | 0, _ => by simp [encF]
  | f + 1, n => by
    rw [encF]
    split
    · simp
    · have := encF_length f (n / 128); simp; omega
theorem encF_ne (f n : Nat) : encF f n ≠ [] := by
  cases f with
  | zero => simp [encF]
  | succ f => rw [encF]; split <;> simp
theorem enc_length (n : Nat) : (enc n).length ≤ 10 := encF_length 9 n
theorem enc_pos (n : Nat) : 1 ≤ (enc n).length := by
  have := encF_ne 9 n
  unfold enc
  cases h : encF 9 n with
  | nil => exact absurd h this
  | cons a t => simp

/-- What reading comes to: from place i on, with what has been read so far. -/
def rdF : Nat → Nat → List UInt8 → Option (Nat × Nat)
  | _, _, [] => none
  | i, acc, x :: t =>
    if i = 9 ∧ 1 < x.toNat then none
    else if 128 ≤ x.toNat then rdF (i + 1) (acc + x.toNat % 128 * 128 ^ i) t
    else if x.toNat = 0 ∧ 0 < i then none
    else some (acc + x.toNat % 128 * 128 ^ i, i + 1)
def rd (xs : List UInt8) : Option (Nat × Nat) := rdF 0 0 xs

theorem ofNat_toNat (n : Nat) (h : n < 256) : (UInt8.ofNat n).toNat = n := by simp; omega

/-- What was written is read, whatever follows. -/
theorem rdF_encF : ∀ (f i acc n : Nat) (t : List UInt8), f + i = 9 → n < 2 * 128 ^ f → (0 < i → 0 < n) → rdF i acc (encF f n ++ t) = some (acc + n * 128 ^ i, i + (encF f n).length)
  | 0, i, acc, n, t, hf, hn, h0 => by
    simp at hn
    have hi : i = 9 := by omega
    have h1 := ofNat_toNat n (by omega)
    simp only [encF, List.cons_append, List.nil_append, rdF, h1]
    rw [if_neg (by omega), if_neg (by omega), if_neg (by intro h; have := h0 h.2; omega)]
    simp [Nat.mod_eq_of_lt (show n < 128 by omega)]
  | f + 1, i, acc, n, t, hf, hn, h0 => by
    by_cases h : n < 128
    · have h1 := ofNat_toNat n (by omega)
      rw [encF_small _ _ h]
      simp only [List.cons_append, List.nil_append, rdF, h1]
      rw [if_neg (by omega), if_neg (by omega), if_neg (by intro h; have := h0 h.2; omega)]
      simp [Nat.mod_eq_of_lt h]
    · have h1 := ofNat_toNat (n % 128 + 128) (by omega)
      rw [encF_big _ _ (by omega)]
      simp only [List.cons_append, rdF, h1]
      rw [if_neg (by omega), if_pos (by omega)]
      have hd : n / 128 < 2 * 128 ^ f := by
        rw [Nat.pow_succ] at hn
        omega
      rw [rdF_encF f (i + 1) _ (n / 128) t (by omega) hd (by omega)]
      have e : (n % 128 + 128) % 128 = n % 128 := by omega
      rw [e]
      have e2 : n % 128 * 128 ^ i + n / 128 * 128 ^ (i + 1) = n * 128 ^ i := by
        rw [Nat.pow_succ, ← Nat.mul_assoc, Nat.mul_right_comm, ← Nat.add_mul]
        congr 1
        omega
      simp only [List.length_cons, Option.some.injEq, Prod.mk.injEq]
      constructor <;> omega
theorem rd_enc (n : Nat) (t : List UInt8) (h : n < 18446744073709551616) : rd (enc n ++ t) = some (n, (enc n).length) := by
  have := rdF_encF 9 0 0 n t (by omega) (by omega) (by omega)
  simpa [rd, enc] using this

/-- Cut short, it is none. -/
theorem rdF_cut : ∀ (f i acc n k : Nat), k < (encF f n).length → rdF i acc ((encF f n).take k) = none
  | 0, i, acc, n, k, h => by
    simp [encF] at h
    subst h
    simp [rdF]
  | f + 1, i, acc, n, k, h => by
    cases k with
    | zero => simp [rdF]
    | succ k =>
      by_cases hn : n < 128
      · rw [encF_small _ _ hn] at h
        simp at h
      · rw [encF_big _ _ (by omega)] at h ⊢
        simp at h
        have h1 := ofNat_toNat (n % 128 + 128) (by omega)
        simp only [List.take_succ_cons, rdF, h1]
        split
        · rfl
        · rw [if_pos (by omega)]
          exact rdF_cut f _ _ _ k (by omega)

theorem rdF_size : ∀ (xs : List UInt8) (i acc n s : Nat), rdF i acc xs = some (n, s) → i < s ∧ s ≤ i + xs.length
  | [], i, acc, n, s, h => by simp [rdF] at h
  | x :: t, i, acc, n, s, h => by
    rw [rdF] at h
    split at h
    · cases h
    · split at h
      · have := rdF_size t _ _ _ _ h
        simp
        omega
      · split at h
        · cases h
        · simp at h
          simp
          omega
theorem rd_size {xs : List UInt8} {n s : Nat} (h : rd xs = some (n, s)) : 0 < s ∧ s ≤ xs.length := by
  have := rdF_size xs 0 0 n s h
  omega
theorem pow_le9 {i : Nat} (h : i ≤ 9) : (128 : Nat) ^ i ≤ 9223372036854775808 := by
  have : (128 : Nat) ^ i ≤ 128 ^ 9 := Nat.pow_le_pow_right (by omega) h
  simpa using this
theorem rdF_lt : ∀ (xs : List UInt8) (i acc n s : Nat), i ≤ 9 → acc < 128 ^ i → rdF i acc xs = some (n, s) → n < 18446744073709551616
  | [], i, acc, n, s, _, _, h => by simp [rdF] at h
  | x :: t, i, acc, n, s, hi, ha, h => by
    rw [rdF] at h
    have hm : x.toNat % 128 ≤ 127 := by omega
    split at h
    · cases h
    · split at h
      · by_cases h9 : i = 9
        · omega
        · refine rdF_lt t (i + 1) _ n s (by omega) ?_ h
          have := Nat.mul_le_mul_right (128 ^ i) hm
          rw [Nat.pow_succ]
          omega
      · split at h
        · cases h
        · simp at h
          obtain ⟨rfl, _⟩ := h
          by_cases h9 : i = 9
          · subst h9
            have : x.toNat % 128 ≤ 1 := by omega
            have := Nat.mul_le_mul_right (128 ^ 9) this
            simp at this ha ⊢
            omega
          · have h8 : (128 : Nat) ^ (i + 1) ≤ 9223372036854775808 := pow_le9 (by omega)
            have := Nat.mul_le_mul_right (128 ^ i) hm
            rw [Nat.pow_succ] at h8
            omega
theorem rd_lt {xs : List UInt8} {n s : Nat} (h : rd xs = some (n, s)) : n < 18446744073709551616 := rdF_lt xs 0 0 n s (by omega) (by omega) h

/-- The walk's word for 'n |= uint64(b%128) << (7*i)'. -/
theorem walk_or (i acc d : Nat) (hi : i ≤ 9) (ha : acc < 128 ^ i) (hd : d < 128) (h9 : i = 9 → d ≤ 1) : bits .or .u64 (acc : Int) ((d * 128 ^ i : Nat) : Int) = ((acc + d * 128 ^ i : Nat) : Int) := by
  have hp := pow_le9 hi
  have hb : d * 128 ^ i < 18446744073709551616 := by
    by_cases e : i = 9
    · subst e
      have := Nat.mul_le_mul_right (128 ^ 9) (h9 rfl)
      simp at this ⊢
      omega
    · have h8 : (128 : Nat) ^ (i + 1) ≤ 9223372036854775808 := pow_le9 (by omega)
      have := Nat.mul_le_mul_right (128 ^ i) (show d ≤ 127 by omega)
      rw [Nat.pow_succ] at h8
      omega
  rw [u64_or_nat _ _ (by omega) hb]
  have e : (128 : Nat) ^ i = 2 ^ (7 * i) := by rw [Nat.pow_mul]
  rw [e] at ha ⊢
  have := Nat.two_pow_add_eq_or_of_lt ha d
  rw [Nat.or_comm, Nat.mul_comm d, ← this, Nat.add_comm]

end Go.Proofs.Ytpdgoalbknopiaa.Cd
