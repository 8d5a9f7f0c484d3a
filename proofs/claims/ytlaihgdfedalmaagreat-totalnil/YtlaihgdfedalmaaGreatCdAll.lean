/-
  Plain mathematics for the code layer: CRC-32 bit by bit over numbers, and numbers as bytes of seven bits each, written and read. No program is named here.
  Contracts of the leaves of package code: full, Sum, number: what each call answers, for every slice of bytes.
  Contracts of what writes numbers as bytes: Uint of package code, Uint of the document's answer: each answers the bytes that came, and the number's bytes behind them, in new memory.
  Contracts of the reader of package code: NewReader, Bad, Left, fail, Uint, Int, Bytes: what each call answers, and what the reader holds behind it.
  Contracts of the reader of package code, more: NewReader, Int, Bytes.
  Plain mathematics of reading numbers: the bytes that Uint writes are those that are read, and no others.
  Contract of the document's answer for numbers: Uint of package folkmootref02 answers the number's bytes, in new memory.
  The document's examples hold: 'awake' of the statements' package answers true, and leaves what was there as it was.
  Strings of bytes in the walk, and a reader in a world that has grown.
  Two laws on regions that draw their order, over the kit's own: the operation is handed over as it is written in the list.
  One law more on regions that draw their order: what is held may be said more of, from some operation on.
  Contracts of the reader of the document's answer: Uint: what it answers, and where it stands behind it.
  Contracts of the reader of the document's answer, more: Int, Bytes, Left; and how it keeps step with the reader of package code.
  Contracts: Bytes of package code, and Bytes of the document's answer: how many bytes there are, and the bytes, behind what came, in new memory.
-/
import Derived.Laws.BitsAllLaws
import Derived.Test.YtlaihgdfedalmaaGreatProg
import Derived.WalkKit
import Derived.WalkSpells
import Derived.WalkLawsBesides
import Derived.Outline
import Derived.Laws.AppendOwnNone
import Derived.Lib.SlBytesConst
import Derived.Laws.BytesArg
import Derived.Laws.Concat
import Derived.Deep.RegionHeld3
import Derived.RegionTactic
import Derived.BigRegion
import Derived.Deep.DeepAppendWide
namespace Go.Proofs.YtlaihgdfedalmaaGreat.Cd
set_option linter.unusedVariables false

/-! ### CRC-32 -/
theorem u8_lt (x : UInt8) : x.toNat < 256 := x.toNat_lt
/-! ### Numbers as bytes -/
def encF : Nat → Nat → List UInt8
  | 0, n => [UInt8.ofNat n]
  | f + 1, n => if n < 128 then [UInt8.ofNat n] else UInt8.ofNat (n % 128 + 128) :: encF f (n / 128)
def enc (n : Nat) : List UInt8 := encF 9 n

theorem encF_small (f n : Nat) (h : n < 128) : encF f n = [UInt8.ofNat n] := by cases f <;> simp [encF, h]
theorem encF_big (f n : Nat) (h : 128 ≤ n) : encF (f + 1) n = UInt8.ofNat (n % 128 + 128) :: encF f (n / 128) := by
  rw [encF, if_neg (by omega)]
theorem encF_length : ∀ (f n : Nat), (encF f n).length ≤ f + 1
  | 0, _ => by simp [encF]
  | f + 1, n => by
    rw [encF]
    split
    · simp
    · have := encF_length f (n / 128); simp; omega
theorem encF_ne (f n : Nat) : encF f n ≠ [] := by
  cases f with
  | zero => simp [encF]
  | succ f => rw [encF]; split <;> simp
theorem enc_length (n : Nat) : (enc n).length ≤ 10 := encF_length 9 n
theorem enc_pos (n : Nat) : 1 ≤ (enc n).length := by
  have := encF_ne 9 n
  unfold enc
  cases h : encF 9 n with
  | nil => exact absurd h this
  | cons a t => simp

/-- What reading comes to: from place i on, with what has been read so far. -/
def rdF : Nat → Nat → List UInt8 → Option (Nat × Nat)
  | _, _, [] => none
  | i, acc, x :: t =>
    if i = 9 ∧ 1 < x.toNat then none
    else if 128 ≤ x.toNat then rdF (i + 1) (acc + x.toNat % 128 * 128 ^ i) t
    else if x.toNat = 0 ∧ 0 < i then none
    else some (acc + x.toNat % 128 * 128 ^ i, i + 1)
def rd (xs : List UInt8) : Option (Nat × Nat) := rdF 0 0 xs

theorem ofNat_toNat (n : Nat) (h : n < 256) : (UInt8.ofNat n).toNat = n := by simp; omega

/-- What was written is read, whatever follows. -/
theorem rdF_encF : ∀ (f i acc n : Nat) (t : List UInt8), f + i = 9 → n < 2 * 128 ^ f → (0 < i → 0 < n) → rdF i acc (encF f n ++ t) = some (acc + n * 128 ^ i, i + (encF f n).length)
  | 0, i, acc, n, t, hf, hn, h0 => by
    simp at hn
    have hi : i = 9 := by omega
    have h1 := ofNat_toNat n (by omega)
    simp only [encF, List.cons_append, List.nil_append, rdF, h1]
    rw [if_neg (by omega), if_neg (by omega), if_neg (by intro h; have := h0 h.2; omega)]
    simp [Nat.mod_eq_of_lt (show n < 128 by omega)]
  | f + 1, i, acc, n, t, hf, hn, h0 => by
    by_cases h : n < 128
    · have h1 := ofNat_toNat n (by omega)
      rw [encF_small _ _ h]
      simp only [List.cons_append, List.nil_append, rdF, h1]
      rw [if_neg (by omega), if_neg (by omega), if_neg (by intro h; have := h0 h.2; omega)]
      simp [Nat.mod_eq_of_lt h]
    · have h1 := ofNat_toNat (n % 128 + 128) (by omega)
      rw [encF_big _ _ (by omega)]
      simp only [List.cons_append, rdF, h1]
      rw [if_neg (by omega), if_pos (by omega)]
      have hd : n / 128 < 2 * 128 ^ f := by
        rw [Nat.pow_succ] at hn
        omega
      rw [rdF_encF f (i + 1) _ (n / 128) t (by omega) hd (by omega)]
      have e : (n % 128 + 128) % 128 = n % 128 := by omega
      rw [e]
      have e2 : n % 128 * 128 ^ i + n / 128 * 128 ^ (i + 1) = n * 128 ^ i := by
        rw [Nat.pow_succ, ← Nat.mul_assoc, Nat.mul_right_comm, ← Nat.add_mul]
        congr 1
        omega
      simp only [List.length_cons, Option.some.injEq, Prod.mk.injEq]
      constructor <;> omega
theorem rd_enc (n : Nat) (t : List UInt8) (h : n < 18446744073709551616) : rd (enc n ++ t) = some (n, (enc n).length) := by
  have := rdF_encF 9 0 0 n t (by omega) (by omega) (by omega)
  simpa [rd, enc] using this

theorem rdF_size : ∀ (xs : List UInt8) (i acc n s : Nat), rdF i acc xs = some (n, s) → i < s ∧ s ≤ i + xs.length
  | [], i, acc, n, s, h => by simp [rdF] at h
  | x :: t, i, acc, n, s, h => by
    rw [rdF] at h
    split at h
    · cases h
    · split at h
      · have := rdF_size t _ _ _ _ h
        simp
        omega
      · split at h
        · cases h
        · simp at h
          simp
          omega
theorem rd_size {xs : List UInt8} {n s : Nat} (h : rd xs = some (n, s)) : 0 < s ∧ s ≤ xs.length := by
  have := rdF_size xs 0 0 n s h
  omega
theorem pow_le9 {i : Nat} (h : i ≤ 9) : (128 : Nat) ^ i ≤ 9223372036854775808 := by
  have : (128 : Nat) ^ i ≤ 128 ^ 9 := Nat.pow_le_pow_right (by omega) h
  simpa using this
theorem rdF_lt : ∀ (xs : List UInt8) (i acc n s : Nat), i ≤ 9 → acc < 128 ^ i → rdF i acc xs = some (n, s) → n < 18446744073709551616
  | [], i, acc, n, s, _, _, h => by simp [rdF] at h
  | x :: t, i, acc, n, s, hi, ha, h => by
    rw [rdF] at h
    have hm : x.toNat % 128 ≤ 127 := by omega
    split at h
    · cases h
    · split at h
      · by_cases h9 : i = 9
        · omega
        · refine rdF_lt t (i + 1) _ n s (by omega) ?_ h
          have := Nat.mul_le_mul_right (128 ^ i) hm
          rw [Nat.pow_succ]
          omega
      · split at h
        · cases h
        · simp at h
          obtain ⟨rfl, _⟩ := h
          by_cases h9 : i = 9
          · subst h9
            have : x.toNat % 128 ≤ 1 := by omega
            have := Nat.mul_le_mul_right (128 ^ 9) this
            simp at this ha ⊢
            omega
          · have h8 : (128 : Nat) ^ (i + 1) ≤ 9223372036854775808 := pow_le9 (by omega)
            have := Nat.mul_le_mul_right (128 ^ i) hm
            rw [Nat.pow_succ] at h8
            omega
theorem rd_lt {xs : List UInt8} {n s : Nat} (h : rd xs = some (n, s)) : n < 18446744073709551616 := rdF_lt xs 0 0 n s (by omega) (by omega) h

/-- The walk's word for 'n |= uint64(b%128) << (7*i)'. -/
theorem walk_or (i acc d : Nat) (hi : i ≤ 9) (ha : acc < 128 ^ i) (hd : d < 128) (h9 : i = 9 → d ≤ 1) : bits .or .u64 (acc : Int) ((d * 128 ^ i : Nat) : Int) = ((acc + d * 128 ^ i : Nat) : Int) := by
  have hp := pow_le9 hi
  have hb : d * 128 ^ i < 18446744073709551616 := by
    by_cases e : i = 9
    · subst e
      have := Nat.mul_le_mul_right (128 ^ 9) (h9 rfl)
      simp at this ⊢
      omega
    · have h8 : (128 : Nat) ^ (i + 1) ≤ 9223372036854775808 := pow_le9 (by omega)
      have := Nat.mul_le_mul_right (128 ^ i) (show d ≤ 127 by omega)
      rw [Nat.pow_succ] at h8
      omega
  rw [u64_or_nat _ _ (by omega) hb]
  have e : (128 : Nat) ^ i = 2 ^ (7 * i) := by rw [Nat.pow_mul]
  rw [e] at ha ⊢
  have := Nat.two_pow_add_eq_or_of_lt ha d
  rw [Nat.or_comm, Nat.mul_comm d, ← this, Nat.add_comm]

end Go.Proofs.YtlaihgdfedalmaaGreat.Cd
namespace Go.Proofs.YtlaihgdfedalmaaGreat.Cd
open Go.RowKit
set_option linter.unusedVariables false

/-- A slice of bytes that is there: its length, its room, its bytes. -/
def Row (w : World) (ao : Option Addr) (n cap : Nat) (xs : List UInt8) : Prop :=
  xs.length = n ∧ n ≤ cap ∧ cap ≤ maxLen ∧ (ao = none → n = 0 ∧ cap = 0) ∧ ∀ a, ao = some a → ∀ i, i < n → w.cell? (a.add i) = some (.int .u8 ((xs.getD i 0).toNat : Int))

theorem Row.open {w : World} {ao : Option Addr} {n cap : Nat} {xs : List UInt8} (h : Row w ao n cap xs) (hn : 0 < n) :
    ∃ b off, ao = some ⟨b, off, none⟩ ∧ ∀ i, i < n → w.cell? ⟨b, off + i, none⟩ = some (.int .u8 ((xs.getD i 0).toNat : Int)) := by
  obtain ⟨h1, h2, h3, h4, h5⟩ := h
  cases ao with
  | none => have := (h4 rfl).1; omega
  | some a =>
    obtain ⟨b, off, spot⟩ := a
    have hc := h5 _ rfl 0 hn
    have hs : spot = none := by simpa [Addr.add] using World.cell?_spot hc
    subst hs
    exact ⟨b, off, rfl, fun i hi => by rw [← Addr.add_lit]; exact h5 _ rfl i hi⟩

set_option maxHeartbeats 400000 in
theorem full_any (w : World) (ao : Option Addr) (n cap : Nat) (h : n ≤ cap) (hm : cap ≤ maxLen) : Calls Tryz.prog 152 #[.slice ao n cap] w fun e w' => e = .returned (.slice ao n n) ∧ w = w' := by
  unfold maxLen at hm
  go_enter Tryz.func152, Tryz.ntmps152
  go_wp2
  go_ret
  exact ⟨rfl, rfl⟩

theorem ret_int {k : IntKind} {a b : Int} (h : a = b) : Ending.returned (.int k a) = .returned (.int k b) := by rw [h]

theorem rdF_end {i acc : Nat} {xs : List UInt8} (h : xs.length ≤ i) : rdF i acc (xs.drop i) = none := by
  rw [List.drop_of_length_le h]; rfl
theorem drop_cons {xs : List UInt8} {k : Nat} (h : k < xs.length) : xs.drop k = xs.getD k 0 :: xs.drop (k + 1) := by
  rw [List.drop_eq_getElem_cons h]
  simp [List.getD, List.getElem?_eq_getElem h]

theorem shift_lt {k d : Nat} (hk : k ≤ 9) (hd : d < 128) (h9 : k = 9 → d ≤ 1) : d * 128 ^ k < 18446744073709551616 := by
  by_cases e : k = 9
  · subst e
    have := Nat.mul_le_mul_right (128 ^ 9) (h9 rfl)
    simp at this ⊢
    omega
  · have h8 : (128 : Nat) ^ (k + 1) ≤ 9223372036854775808 := pow_le9 (by omega)
    have := Nat.mul_le_mul_right (128 ^ k) (show d ≤ 127 by omega)
    rw [Nat.pow_succ] at h8
    omega
theorem shift_or {k d acc : Nat} (hk : k ≤ 9) (ha : acc < 128 ^ k) (hd : d < 128) (h9 : k = 9 → d ≤ 1) : bits .or .u64 (acc : Int) (IntKind.u64.wrap ((d : Int) * 2 ^ (7 * k))) = ((acc + d * 128 ^ k : Nat) : Int) := by
  have h2 : (2 : Int) ^ (7 * k) = ((128 ^ k : Nat) : Int) := by
    rw [show (128 : Nat) = 2 ^ 7 from rfl, ← Nat.pow_mul]
    simp
  have h3 := shift_lt hk hd h9
  have h4 : IntKind.u64.wrap ((d : Int) * 2 ^ (7 * k)) = ((d * 128 ^ k : Nat) : Int) := by
    rw [IntKind.wrap_u64, h2, ← Int.natCast_mul]
    omega
  rw [h4]
  exact walk_or k acc d hk ha hd h9

def rdNum (r : Option (Nat × Nat)) : Nat := match r with | some (n, _) => n | none => 0
def rdSize (r : Option (Nat × Nat)) : Nat := match r with | some (_, s) => s | none => 0

set_option maxRecDepth 10000 in
set_option maxHeartbeats 1000000 in
theorem number_any (w : World) (ao : Option Addr) (n cap : Nat) (xs : List UInt8) (h : Row w ao n cap xs) :
    Calls Tryz.prog 173 #[.slice ao n cap] w fun e w' => e = .returned (.tuple #[.int .u64 (rdNum (rd xs) : Nat), .int .i64 (rdSize (rd xs) : Nat)]) ∧ w = w' := by
  have hop := h.open
  obtain ⟨hlen, hle, hm, _, _⟩ := h
  unfold maxLen at hm
  go_enter Tryz.func173, Tryz.ntmps173
  go_wp2
  go_loop [2, 8] (fun s i => ∃ k acc : Nat, k ≤ n ∧ k ≤ 9 ∧ acc < 128 ^ k ∧ i = .int .i64 k ∧ s = .int .u64 (acc : Nat) ∧ rdF k acc (xs.drop k) = rd xs) (fun _ i => n - (intOf i).toNat)
  case atStart => exact ⟨0, 0, by omega, by omega, by omega, rfl, rfl, rfl⟩
  case round =>
    obtain ⟨k, acc, hk, hk9, hacc, rfl, rfl, hrd⟩ := hrel
    have HR : Hid (rdF k acc (xs.drop k) = rd xs) := hrd
    clear hrd
    by_cases hlt : k < n
    · obtain ⟨b, off, rfl, hcell⟩ := hop (by omega)
      have hck := hcell k hlt
      have hd := drop_cons (show k < xs.length by omega)
      obtain ⟨x, hx⟩ : ∃ x, x = xs.getD k 0 := ⟨_, rfl⟩
      rw [← hx] at hck hd
      rw [hd] at HR
      have hxl := u8_lt x
      clear hx hcell hop hd
      have HA : Hid (acc < 128 ^ k) := hacc
      clear hacc
      by_cases h9 : k = 9 ∧ 1 < x.toNat
      · obtain ⟨rfl, h1⟩ := h9
        have hrd : rd xs = none := by rw [← HR.out, rdF, if_pos ⟨rfl, h1⟩]
        go_wp2
        go_ret2
        exact ⟨by simp [rdNum, rdSize], rfl⟩
      · obtain ⟨d, hd⟩ : ∃ d : Nat, d = x.toNat % 128 := ⟨_, rfl⟩
        have hd1 : d < 128 := by omega
        have hd9 : k = 9 → d ≤ 1 := by omega
        have hdx : (x.toNat : Int) % 128 = (d : Int) := by omega
        have hor := shift_or hk9 HA.out hd1 hd9
        have HS : Hid (acc + d * 128 ^ k < 128 ^ (k + 1)) := by
          have := Nat.mul_le_mul_right (128 ^ k) (show d ≤ 127 by omega)
          have := HA.out
          show acc + d * 128 ^ k < 128 ^ (k + 1)
          rw [Nat.pow_succ]
          omega
        have HO : Hid (bits .or .u64 (acc : Int) (IntKind.u64.wrap ((d : Int) * 2 ^ (7 * k))) = ((acc + d * 128 ^ k : Nat) : Int)) := hor
        have HD : Hid (d = x.toNat % 128) := hd
        clear HA hd9 hor hd
        by_cases h128 : 128 ≤ x.toNat
        · have h99 : ((k : Int) == 9) = false := by simp; omega
          have hd8 : Hid (rdF (k + 1) (acc + d * 128 ^ k) (xs.drop (k + 1)) = rd xs) := by
            have := HR.out
            rw [rdF, if_neg h9, if_pos h128, ← HD.out] at this
            exact this
          go_wp2
          go_round
          case rel => exact ⟨k + 1, _, by omega, by omega, HS.out, by go_num, by rw [HO.out], hd8.out⟩
          case measure => simp [intOf]; omega
        · by_cases h0 : x.toNat = 0 ∧ 0 < k
          · have hrd : rd xs = none := by
              have := HR.out
              rw [rdF, if_neg h9, if_neg h128, if_pos h0] at this
              exact this.symm
            have HN : Hid (rd xs = none) := hrd
            clear hrd
            have h00 : ((x.toNat : Int) == 0) = true := by simp [h0.1]
            have h0k : (0 : Int) < k := by omega
            have hx1 : ¬ (1 : Int) < x.toNat := by omega
            clear h0
            by_cases e9 : k = 9
            · have h99 : ((k : Int) == 9) = true := by simp; omega
              clear e9 h9
              go_wp2
              go_ret2
              exact ⟨by simp [HN.out, rdNum, rdSize], rfl⟩
            · have h99 : ((k : Int) == 9) = false := by simp; omega
              go_wp2
              go_ret2
              exact ⟨by simp [HN.out, rdNum, rdSize], rfl⟩
          · have hrd : rd xs = some (acc + d * 128 ^ k, k + 1) := by
              have := HR.out
              rw [rdF, if_neg h9, if_neg h128, if_neg h0, ← HD.out] at this
              exact this.symm
            have HN : Hid (rd xs = some (acc + d * 128 ^ k, k + 1)) := hrd
            clear hrd
            by_cases e9 : k = 9
            · have h99 : ((k : Int) == 9) = true := by simp; omega
              have hx1 : ¬ (1 : Int) < x.toNat := by omega
              have h00 : ((x.toNat : Int) == 0) = false := by simp; omega
              clear e9 h9 h0
              go_wp2
              go_ret2
              exact ⟨by rw [HN.out]; simp only [rdNum, rdSize]; rw [← HO.out]; rfl, rfl⟩
            · have h99 : ((k : Int) == 9) = false := by simp; omega
              by_cases e0 : x.toNat = 0
              · have h00 : ((x.toNat : Int) == 0) = true := by simp [e0]
                have hk0 : ¬ (0 : Int) < k := by omega
                clear e0 h0
                go_wp2
                go_ret2
                exact ⟨by rw [HN.out]; simp only [rdNum, rdSize]; rw [← HO.out]; rfl, rfl⟩
              · have h00 : ((x.toNat : Int) == 0) = false := by simp; omega
                go_wp2
                go_ret2
                exact ⟨by rw [HN.out]; simp only [rdNum, rdSize]; rw [← HO.out]; rfl, rfl⟩
    · go_wp2
      go_ret2
      have hrd : rd xs = none := by rw [← HR.out, rdF_end (by omega)]
      exact ⟨by simp [hrd, rdNum, rdSize], rfl⟩

end Go.Proofs.YtlaihgdfedalmaaGreat.Cd
namespace Go.Proofs.YtlaihgdfedalmaaGreat.Cd
open Go.RowKit
set_option linter.unusedVariables false

def by8 (x : UInt8) : Value := .int .u8 (x.toNat : Int)
theorem by8_one (ys : List UInt8) : ∀ u ∈ ys.map by8, u.oneCell' = true := by
  intro u hu
  simp only [List.mem_map] at hu
  obtain ⟨y, _, rfl⟩ := hu
  rfl
theorem Tryz.info5 : (Tryz.prog.info? 5).map (fun i => (i.zero, i.size, i.bytes)) = some (some (.int .u8 0), 1, 1) := by kernel_rfl

theorem Row.below {B : Nat} {w w' : World} {ao : Option Addr} {n cap : Nat} {xs : List UInt8} (h : Row w ao n cap xs) (hb : Below B w w') (hB : w.heap.size ≤ B) : Row w' ao n cap xs := by
  obtain ⟨h1, h2, h3, h4, h5⟩ := h
  refine ⟨h1, h2, h3, h4, fun a ha i hi => ?_⟩
  have hc := h5 a ha i hi
  have := World.block_lt_of_cell? w _ hc
  rw [hb.cell (by omega)]
  exact hc
theorem Row.olds {w : World} {ao : Option Addr} {n cap : Nat} {xs : List UInt8} (h : Row w ao n cap xs) : ∀ b, ao = some b → ∀ (j : Nat) u, (xs.map by8)[j]? = some u → w.cell? (b.add j) = some u := by
  intro b hb j u hu
  have hj : j < xs.length := by
    rcases Nat.lt_or_ge j xs.length with h | h
    · exact h
    · simp [List.getElem?_eq_none (show (xs.map by8).length ≤ j by simpa using h)] at hu
  rw [h.2.2.2.2 b hb j (by have := h.1; omega)]
  simp [List.getElem?_eq_getElem hj] at hu
  simp [by8, List.getElem?_eq_getElem hj] at hu ⊢
  exact hu

theorem or_128 (m : Nat) : bits .or .u8 ((m : Int) % 256) 128 = (((UInt8.ofNat (m % 128 + 128)).toNat : Nat) : Int) := by
  rw [ofNat_toNat _ (by omega)]
  have h := u8_or_nat (m % 256) 128 (by omega) (by omega)
  rw [show ((m : Int) % 256) = ((m % 256 : Nat) : Int) by omega]
  rw [show (128 : Int) = ((128 : Nat) : Int) from rfl, h]
  have h2 : m % 256 ||| 128 = m % 128 + 128 := by
    have e : m % 256 = 2 ^ 7 * (m / 128 % 2) + m % 128 := by omega
    have l := Nat.two_pow_add_eq_or_of_lt (show m % 128 < 2 ^ 7 by omega) (m / 128 % 2)
    have l1 := Nat.two_pow_add_eq_or_of_lt (show m % 128 < 2 ^ 7 by omega) 1
    rw [e, l]
    have hm : m / 128 % 2 = 0 ∨ m / 128 % 2 = 1 := by omega
    rcases hm with h0 | h0
    · rw [h0]
      simp only [Nat.mul_zero, Nat.zero_or]
      rw [show m % 128 + 128 = 2 ^ 7 * 1 + m % 128 by omega, l1, Nat.or_comm]
    · rw [h0, Nat.or_assoc, Nat.or_comm (m % 128) 128, ← Nat.or_assoc]
      rw [show m % 128 + 128 = 2 ^ 7 * 1 + m % 128 by omega, l1]
      rfl
  rw [h2]

theorem owns_mono {w : World} {B B' : Nat} {e : TypeId} {size : Nat} {v : Value} {n : Nat} {xs : List Value} (h : w.ownsRow B e size v n xs) (hB : B' ≤ B) : w.ownsRow B' e size v n xs := by
  refine ⟨h.1, ?_⟩
  rcases h.2 with hn | ⟨g, cap, cur, hv, hb, r⟩
  · exact .inl hn
  · exact .inr ⟨g, cap, cur, hv, by omega, r⟩
theorem arg_step {w wr w1 : World} {o : Obj} {n : Nat} {xs : List UInt8} {y : UInt8} {v' : Value} (hbel : Below w.heap.size w wr)
    (hown : w1.ownsRow (wr.heap.size + 1) 5 1 v' (n + 1) (xs.map by8 ++ [by8 y])) (hgrow : (wr.alloc o).grownBy w1 none) :
    w1.ownsRow w.heap.size 5 1 v' (n + [y].length) ((xs ++ [y]).map by8) ∧ Below w.heap.size w w1 := by
  have hs := hbel.size
  refine ⟨by simpa using owns_mono hown (by omega), (hbel.alloc hs o).grown hgrow (by simp; omega) (by simp)⟩
theorem own_step {w wr w1 : World} {o : Obj} {L : Nat} {zs : List UInt8} {y : UInt8} {v v' : Value} (hbel : Below w.heap.size w wr) (h0 : wr.ownsRow w.heap.size 5 1 v L (zs.map by8))
    (hown : w1.ownsRow w.heap.size 5 1 v' (L + 1) (zs.map by8 ++ [by8 y])) (hgrow : (wr.alloc o).grownBy w1 v.ownBlock) :
    w1.ownsRow w.heap.size 5 1 v' (L + 1) ((zs ++ [y]).map by8) ∧ Below w.heap.size w w1 := by
  have hs := hbel.size
  refine ⟨by simpa using hown, (hbel.alloc hs o).grown hgrow (by simp; omega) (fun k hk => (h0.lt k hk).1)⟩

/-- What the walk holds in its slots: as it came, or a row of the call's own. -/
def UintAt (w wr : World) (ao : Option Addr) (n : Nat) (xs acc : List UInt8) (v : Value) : Prop :=
  Below w.heap.size w wr ∧ ((v = .slice ao n n ∧ acc = []) ∨ (wr.ownsRow w.heap.size 5 1 v (n + acc.length) ((xs ++ acc).map by8)))

set_option maxRecDepth 10000 in
set_option maxHeartbeats 1000000 in
theorem uint_any (w : World) (ao : Option Addr) (n cap : Nat) (xs : List UInt8) (h : Row w ao n cap xs) (N : Nat) (hN : N < 18446744073709551616) (hr : n + 10 ≤ 140737488355328) :
    Calls Tryz.prog 119 #[.slice ao n cap, .int .u64 (N : Nat)] w fun e w' => ∃ v, e = .returned v ∧ w'.ownsRow w.heap.size 5 1 v (n + (enc N).length) ((xs ++ enc N).map by8) ∧ Below w.heap.size w w' := by
  have hrow : Row w ao n n xs := ⟨h.1, Nat.le_refl _, by have := h.2.1; have := h.2.2.1; omega, fun e => ⟨(h.2.2.2.1 e).1, (h.2.2.2.1 e).1⟩, h.2.2.2.2⟩
  obtain ⟨hlen, hle, hm, _, _⟩ := h
  obtain ⟨i0, hi, hz0, hz1, hz2⟩ := info_parts Tryz.info5
  go_enter Tryz.func119, Tryz.ntmps119
  go_wp2_with (first | (go_at_call 152; refine (full_any _ _ _ _ hle hm).mono ?_; rintro e w' ⟨rfl, rfl⟩))
  go_loopw [0, 1] (fun v m wr => ∃ (k c : Nat) (acc : List UInt8), k ≤ 9 ∧ c < 2 * 128 ^ (9 - k) ∧ m = .int .u64 (c : Nat) ∧ acc.length = k ∧ acc ++ encF (9 - k) c = enc N ∧ UintAt w wr ao n xs acc v) (fun _ m _ => (intOf m).toNat)
  case atStart => exact ⟨0, N, [], by omega, by omega, rfl, rfl, by simp [enc], Below.refl _ _, .inl ⟨rfl, rfl⟩⟩
  case round => 
    obtain ⟨k, c, acc, hk, hc, rfl, hacc, henc, hbel, hv⟩ := hrel
    have HE : Hid (acc ++ encF (9 - k) c = enc N) := henc
    have HC : Hid (c < 2 * 128 ^ (9 - k)) := hc
    have HL : Hid (acc.length = k) := hacc
    have hsz := hbel.size
    have hkb : acc.length ≤ 9 := by omega
    clear henc hc hacc
    by_cases hlt : c < 128
    · have HEN : Hid (enc N = acc ++ [UInt8.ofNat c]) := by have := HE.out; rw [encF_small _ _ hlt] at this; exact this.symm
      obtain ⟨y, hy⟩ : ∃ y, y = UInt8.ofNat c := ⟨_, rfl⟩
      have hy8 : Hid (by8 y = .int .u8 (c : Int)) := by show by8 y = _; rw [hy, by8, ofNat_toNat _ (by omega)]
      rw [← hy] at HEN
      clear hy
      rcases hv with ⟨rfl, rfl⟩ | hown
      · go_wp2_with (first | (at_builtin; refine wpList_append_grows _ rfl _ _ 37 rfl 5 i0 (.int .u8 0) 1 1 Tryz.underlying37 hi hz0 hz1 hz2 rfl (by decide) ao n n (xs.map by8) rfl ?c0 ?c1 ?c2 ⟨wr.heap.size, 0, none⟩ 1 1 [by8 y] rfl rfl ?c3 ?c4 ?c5 ?c6 ?c7 ?_))
        case c0 => exact hrow.2.2.2.1
        case c1 => simp [hlen]
        case c2 => exact ((hrow.below hbel (Nat.le_refl _)).below ((Below.refl _ _).alloc (Nat.le_refl _) _) (Nat.le_refl _)).olds
        case c3 => rw [hy8.out]; exact cell_one_new _ _ _
        case c4 => exact by8_one [y]
        case c5 => omega
        case c6 => unfold maxLen; omega
        case c7 => omega
        · intro v' w1 hown1 hgrow1
          have R := arg_step hbel hown1 hgrow1
          clear hown1 hgrow1
          go_wp2
          go_ret
          exact ⟨v', rfl, by rw [HEN.out]; exact R.1, R.2⟩
      · go_wp2_with (first | (at_builtin; refine wpList_append_own _ rfl _ _ 37 rfl w.heap.size 5 i0 (.int .u8 0) 1 1 Tryz.underlying37 hi hz0 hz1 hz2 rfl (by decide) u0 _ _ rfl (hown.alloc _) ⟨wr.heap.size, 0, none⟩ 1 1 [by8 y] rfl rfl ?d3 ?d4 ?d6 ?d7 ?d8 ?_))
        case d3 => rw [hy8.out]; exact cell_one_new _ _ _
        case d4 => exact by8_one [y]
        case d6 => unfold maxLen; omega
        case d7 => omega
        case d8 => simp; omega
        · intro v' w1 hown1 hgrow1 _
          have R := own_step (y := y) hbel hown (by simpa using hown1) hgrow1
          clear hown1 hgrow1
          go_wp2
          go_ret
          exact ⟨v', rfl, by rw [HEN.out]; simpa [Nat.add_assoc] using R.1, R.2⟩
    · obtain ⟨y, hy⟩ : ∃ y, y = UInt8.ofNat (c % 128 + 128) := ⟨_, rfl⟩
      have hk9 : k < 9 := by
        rcases Nat.lt_or_ge k 9 with h | h
        · exact h
        · have := HC.out
          have e : k = 9 := by omega
          subst e
          simp at this
          omega
      obtain ⟨j, hj⟩ : ∃ j, 9 - k = j + 1 := ⟨8 - k, by omega⟩
      have HEN : Hid ((acc ++ [y]) ++ encF (9 - (k + 1)) (c / 128) = enc N) := by
        have := HE.out
        rw [hj, encF_big _ _ (by omega), ← hy] at this
        show (acc ++ [y]) ++ encF (9 - (k + 1)) (c / 128) = enc N
        rw [show 9 - (k + 1) = j by omega, List.append_assoc]
        exact this
      have HCN : Hid (c / 128 < 2 * 128 ^ (9 - (k + 1))) := by
        have := HC.out
        rw [hj, Nat.pow_succ] at this
        show c / 128 < 2 * 128 ^ (9 - (k + 1))
        rw [show 9 - (k + 1) = j by omega]
        omega
      have hyv : bits .or .u8 ((c : Int) % 256) 128 = (y.toNat : Int) := by rw [hy]; exact or_128 c
      have HLN : Hid ((acc ++ [y]).length = k + 1) := by have := HL.out; show (acc ++ [y]).length = k + 1; simp [this]
      have hcd : ((c / 128 : Nat) : Int) = (c : Int) / 128 := by omega
      have HCD : Hid (((c / 128 : Nat) : Int) = (c : Int) / 128) := hcd
      clear hy hj hcd
      rcases hv with ⟨rfl, rfl⟩ | hown
      · go_wp2_with (first | (at_builtin; refine wpList_append_grows _ rfl _ _ 37 rfl 5 i0 (.int .u8 0) 1 1 Tryz.underlying37 hi hz0 hz1 hz2 rfl (by decide) ao n n (xs.map by8) rfl ?e0 ?e1 ?e2 ⟨wr.heap.size, 0, none⟩ 1 1 [by8 y] rfl rfl ?e3 ?e4 ?e5 ?e6 ?e7 ?_))
        case e0 => exact hrow.2.2.2.1
        case e1 => simp [hlen]
        case e2 => exact ((hrow.below hbel (Nat.le_refl _)).below ((Below.refl _ _).alloc (Nat.le_refl _) _) (Nat.le_refl _)).olds
        case e3 => exact cell_one_new _ _ _
        case e4 => exact by8_one [y]
        case e5 => omega
        case e6 => unfold maxLen; omega
        case e7 => omega
        · intro v' w1 hown1 hgrow1
          have R := arg_step hbel hown1 hgrow1
          clear hown1 hgrow1
          go_wp2
          go_roundw
          case rel => exact ⟨k + 1, c / 128, [y], by omega, HCN.out, by rw [HCD.out], HLN.out, HEN.out, R.2, .inr R.1⟩
          case measure => simp [intOf]; omega
      · go_wp2_with (first | (at_builtin; refine wpList_append_own _ rfl _ _ 37 rfl w.heap.size 5 i0 (.int .u8 0) 1 1 Tryz.underlying37 hi hz0 hz1 hz2 rfl (by decide) u0 _ _ rfl (hown.alloc _) ⟨wr.heap.size, 0, none⟩ 1 1 [by8 y] rfl rfl ?f3 ?f4 ?f6 ?f7 ?f8 ?_))
        case f3 => exact cell_one_new _ _ _
        case f4 => exact by8_one [y]
        case f6 => unfold maxLen; omega
        case f7 => omega
        case f8 => simp; omega
        · intro v' w1 hown1 hgrow1 _
          have R := own_step (y := y) hbel hown (by simpa using hown1) hgrow1
          clear hown1 hgrow1
          go_wp2
          go_roundw
          case rel => exact ⟨k + 1, c / 128, acc ++ [y], by omega, HCN.out, by rw [HCD.out], HLN.out, HEN.out, R.2, .inr (by simpa [Nat.add_assoc] using R.1)⟩
          case measure => simp [intOf]; omega

end Go.Proofs.YtlaihgdfedalmaaGreat.Cd
namespace Go.Proofs.YtlaihgdfedalmaaGreat.Cd
open Go.RowKit
set_option linter.unusedVariables false

set_option maxHeartbeats 400000 in
theorem bad_any (w : World) (r : Nat) (b : Bool) (h : w.cell? ⟨r, 1, none⟩ = some (.bool b)) : Calls Tryz.prog 127 #[.pointer (some ⟨r, 0, none⟩)] w fun e w' => e = .returned (.bool b) ∧ w = w' := by
  go_enter Tryz.func127, Tryz.ntmps127
  go_wp2
  go_ret
  exact ⟨rfl, rfl⟩

/-- The world behind a fault. -/
def failed (w : World) (r : Nat) : World := (w.setCell ⟨r, 0, none⟩ (.slice none 0 0)).setCell ⟨r, 1, none⟩ (.bool true)
set_option maxHeartbeats 400000 in
theorem fail_any (w : World) (r : Nat) (c0 c1 : Value) (h0 : w.cell? ⟨r, 0, none⟩ = some c0) (h1 : w.cell? ⟨r, 1, none⟩ = some c1) (f0 : w.frozen? ⟨r, 0, none⟩ = false) (f1 : w.frozen? ⟨r, 1, none⟩ = false) :
    Calls Tryz.prog 154 #[.pointer (some ⟨r, 0, none⟩)] w fun e w' => e = .returned (.tuple #[]) ∧ failed w r = w' := by
  go_enter Tryz.func154, Tryz.ntmps154
  go_wp2
  go_end0
  exact ⟨rfl, rfl⟩
set_option maxHeartbeats 400000 in
theorem left_bad (w : World) (r : Nat) (h : w.cell? ⟨r, 1, none⟩ = some (.bool true)) : Calls Tryz.prog 128 #[.pointer (some ⟨r, 0, none⟩)] w fun e w' => e = .returned (.int .i64 0) ∧ w = w' := by
  go_enter Tryz.func128, Tryz.ntmps128
  go_wp2_with (first | (go_at_call 127; refine (bad_any _ _ true h).mono ?_; rintro e w' ⟨rfl, rfl⟩))
  go_ret
  exact ⟨rfl, rfl⟩
set_option maxHeartbeats 400000 in
theorem left_good (w : World) (r : Nat) (ao : Option Addr) (n cap : Nat) (h : w.cell? ⟨r, 1, none⟩ = some (.bool false)) (h0 : w.cell? ⟨r, 0, none⟩ = some (.slice ao n cap)) :
    Calls Tryz.prog 128 #[.pointer (some ⟨r, 0, none⟩)] w fun e w' => e = .returned (.int .i64 n) ∧ w = w' := by
  go_enter Tryz.func128, Tryz.ntmps128
  go_wp2_with (first | (go_at_call 127; refine (bad_any _ _ false h).mono ?_; rintro e w' ⟨rfl, rfl⟩))
  go_ret
  exact ⟨rfl, rfl⟩
set_option maxHeartbeats 400000 in
theorem ruint_bad (w : World) (r : Nat) (h : w.cell? ⟨r, 1, none⟩ = some (.bool true)) : Calls Tryz.prog 153 #[.pointer (some ⟨r, 0, none⟩)] w fun e w' => e = .returned (.int .u64 0) ∧ w = w' := by
  go_enter Tryz.func153, Tryz.ntmps153
  go_wp2_with (first | (go_at_call 127; refine (bad_any _ _ true h).mono ?_; rintro e w' ⟨rfl, rfl⟩))
  go_ret
  exact ⟨rfl, rfl⟩
set_option maxHeartbeats 400000 in
theorem ruint_none (w : World) (r : Nat) (ao : Option Addr) (n cap : Nat) (xs : List UInt8) (h : w.cell? ⟨r, 1, none⟩ = some (.bool false)) (h0 : w.cell? ⟨r, 0, none⟩ = some (.slice ao n cap))
    (f0 : w.frozen? ⟨r, 0, none⟩ = false) (f1 : w.frozen? ⟨r, 1, none⟩ = false) (hrow : Row w ao n cap xs) (hrd : rd xs = none) :
    Calls Tryz.prog 153 #[.pointer (some ⟨r, 0, none⟩)] w fun e w' => e = .returned (.int .u64 0) ∧ failed w r = w' := by
  have hnum := number_any w ao n cap xs hrow
  simp only [hrd, rdNum, rdSize] at hnum
  go_enter Tryz.func153, Tryz.ntmps153
  go_wp2_with (first | (go_at_call 127; refine (bad_any _ _ false h).mono ?_; rintro e w' ⟨rfl, rfl⟩) | (go_at_call 173; refine hnum.mono ?_; rintro e w' ⟨rfl, rfl⟩) | (go_at_call 154; refine (fail_any _ _ _ _ h0 h f0 f1).mono ?_; rintro e w' ⟨rfl, rfl⟩))
  go_ret
  exact ⟨rfl, rfl⟩
set_option maxHeartbeats 400000 in
theorem ruint_some (w : World) (r : Nat) (ao : Option Addr) (n cap : Nat) (xs : List UInt8) (h : w.cell? ⟨r, 1, none⟩ = some (.bool false)) (h0 : w.cell? ⟨r, 0, none⟩ = some (.slice ao n cap))
    (f0 : w.frozen? ⟨r, 0, none⟩ = false) (f1 : w.frozen? ⟨r, 1, none⟩ = false) (hrow : Row w ao n cap xs) (N s : Nat) (hrd : rd xs = some (N, s)) :
    Calls Tryz.prog 153 #[.pointer (some ⟨r, 0, none⟩)] w fun e w' => e = .returned (.int .u64 N) ∧ ∃ ao' cap', w.setCell ⟨r, 0, none⟩ (.slice ao' (n - s) cap') = w' ∧ Row w ao' (n - s) cap' (xs.drop s) ∧ ∀ a', ao' = some a' → ∃ a, ao = some a ∧ a'.block = a.block := by
  have hnum := number_any w ao n cap xs hrow
  simp only [hrd, rdNum, rdSize] at hnum
  have hsz := rd_size hrd
  have hlen := hrow.1
  have hle := hrow.2.1
  have hm := hrow.2.2.1
  unfold maxLen at hm
  have hs0 : ((s : Int) == 0) = false := by simp; omega
  have hsn : s ≤ n := by omega
  have HR : Hid (Row w ao n cap xs) := hrow
  obtain ⟨b, off, rfl, _⟩ := hrow.open (by omega)
  clear hrd hrow
  by_cases hcs : cap = s
  · subst hcs
    go_enter Tryz.func153, Tryz.ntmps153
    go_wp2_with (first | (go_at_call 127; refine (bad_any _ _ false h).mono ?_; rintro e w' ⟨rfl, rfl⟩) | (go_at_call 173; refine hnum.mono ?_; rintro e w' ⟨rfl, rfl⟩))
    go_ret
    have hn0 : n - cap = 0 := by omega
    rw [hn0]
    refine ⟨rfl, _, _, rfl, ?_, fun a' e => by cases e; exact ⟨_, rfl, rfl⟩⟩
    exact ⟨by simp; omega, Nat.le_refl _, by omega, fun e => (by cases e), fun a _ i hi => absurd hi (by omega)⟩
  · have hlt : s < cap := by omega
    go_enter Tryz.func153, Tryz.ntmps153
    go_wp2_with (first | (go_at_call 127; refine (bad_any _ _ false h).mono ?_; rintro e w' ⟨rfl, rfl⟩) | (go_at_call 173; refine hnum.mono ?_; rintro e w' ⟨rfl, rfl⟩))
    go_ret
    refine ⟨rfl, _, _, rfl, ?_, fun a' e => by cases e; exact ⟨_, rfl, rfl⟩⟩
    obtain ⟨g1, g2, g3, g4, g5⟩ := HR.out
    refine ⟨by simp; omega, by omega, by unfold maxLen at g3 ⊢; omega, fun e => (by cases e), fun a ha i hi => ?_⟩
    cases ha
    have := g5 _ rfl (s + i) (by omega)
    rw [Addr.add_lit] at this ⊢
    rw [show off + s + i = off + (s + i) by omega, this]
    simp [List.getElem?_drop]

/-- What a reader holds: behind a fault nothing; else what is left. -/
def Rd (w : World) (r : Nat) : Option (List UInt8) → Prop
  | none => w.heap[r]? = some (.cells #[.slice none 0 0, .bool true] 199 (0, 0))
  | some xs => ∃ ao n cap, w.heap[r]? = some (.cells #[.slice ao n cap, .bool false] 199 (0, 0)) ∧ Row w ao n cap xs ∧ ∀ a, ao = some a → a.block < r

def rUint : Option (List UInt8) → Nat × Option (List UInt8)
  | none => (0, none)
  | some xs => match rd xs with | none => (0, none) | some (n, s) => (n, some (xs.drop s))
def rInt (st : Option (List UInt8)) (most : Int) : Nat × Option (List UInt8) :=
  match (rUint st).2 with
  | none => (0, none)
  | some ys => if most < 0 ∨ most < ((rUint st).1 : Int) then (0, none) else ((rUint st).1, some ys)
def rBytes (st : Option (List UInt8)) (most : Int) : List UInt8 × Option (List UInt8) :=
  match (rInt st most).2 with
  | none => ([], none)
  | some ys => if ys.length < (rInt st most).1 then ([], none) else (ys.take (rInt st most).1, some (ys.drop (rInt st most).1))
def rLeft : Option (List UInt8) → Nat
  | none => 0
  | some xs => xs.length

theorem Row.kept {w w' : World} {ao : Option Addr} {n cap r : Nat} {xs : List UInt8} {s : Option Addr} {m c : Nat} {b : Bool} (h : Row w ao n cap xs) (hr : w.heap[r]? = some (.cells #[.slice s m c, .bool b] 199 (0, 0)))
    (hg : w.grownBy w' (some r)) : Row w' ao n cap xs := by
  obtain ⟨h1, h2, h3, h4, h5⟩ := h
  refine ⟨h1, h2, h3, h4, fun a ha i hi => ?_⟩
  have hc := h5 a ha i hi
  have hne : (a.add i).block ≠ r := by
    intro he
    generalize a.add i = p at *
    obtain ⟨pb, po, ps⟩ := p
    have hs : ps = none := World.cell?_spot hc
    subst hs
    simp only at he
    subst he
    rw [cell_of_row w _ po _ 199 (0, 0) hr] at hc
    match po, hc with
    | 0, hc => simp at hc
    | 1, hc => simp at hc
    | k + 2, hc => simp at hc
  exact hg.cell hc (by simpa using hne)

theorem set_grown {w : World} {r i : Nat} (v : Value) : w.grownBy (w.setCell ⟨r, i, none⟩ v) (some r) :=
  ⟨rfl, rfl, rfl, by simp [World.setCell], fun k hk hne => heap_setCell_other _ _ _ _ (by simpa using hne)⟩
theorem grown_trans {a b c : World} {r : Option Nat} (h : a.grownBy b r) (k : b.grownBy c r) : a.grownBy c r :=
  ⟨k.os.trans h.os, k.tape.trans h.tape, k.output.trans h.output, Nat.le_trans h.size k.size, fun i hi hne => (k.block i (Nat.lt_of_lt_of_le hi h.size) hne).trans (h.block i hi hne)⟩
theorem grown_refl (a : World) (r : Option Nat) : a.grownBy a r := ⟨rfl, rfl, rfl, Nat.le_refl _, fun _ _ _ => rfl⟩

theorem failed_rd {w : World} {r : Nat} {s : Option Addr} {m c : Nat} {b : Bool} (hr : w.heap[r]? = some (.cells #[.slice s m c, .bool b] 199 (0, 0))) : Rd (failed w r) r none ∧ w.grownBy (failed w r) (some r) := by
  constructor
  · have h1 := heap_setCell_same w r 0 _ 199 (.slice none 0 0) hr
    have h2 := heap_setCell_same _ r 1 _ 199 (.bool true) h1
    show (failed w r).heap[r]? = _
    unfold failed
    rw [h2]
    rfl
  · exact grown_trans (set_grown _) (set_grown _)

theorem rd_cell0 {w : World} {r : Nat} {c0 c1 : Value} (hr : w.heap[r]? = some (.cells #[c0, c1] 199 (0, 0))) : w.cell? ⟨r, 0, none⟩ = some c0 ∧ w.cell? ⟨r, 1, none⟩ = some c1 ∧ w.frozen? ⟨r, 0, none⟩ = false ∧ w.frozen? ⟨r, 1, none⟩ = false := by
  refine ⟨by rw [cell_of_row w r 0 _ 199 (0, 0) hr]; rfl, by rw [cell_of_row w r 1 _ 199 (0, 0) hr]; rfl, frozen_of_row w r 0 _ 199 hr, frozen_of_row w r 1 _ 199 hr⟩

theorem Rd.bad {w : World} {r : Nat} {st : Option (List UInt8)} (h : Rd w r st) : w.cell? ⟨r, 1, none⟩ = some (.bool st.isNone) := by
  cases st with
  | none => exact (rd_cell0 h).2.1
  | some xs => obtain ⟨ao, n, cap, hr, _⟩ := h; exact (rd_cell0 hr).2.1

theorem bad_rd (w : World) (r : Nat) (st : Option (List UInt8)) (h : Rd w r st) : Calls Tryz.prog 127 #[.pointer (some ⟨r, 0, none⟩)] w fun e w' => e = .returned (.bool st.isNone) ∧ w = w' := bad_any w r _ h.bad
theorem left_rd (w : World) (r : Nat) (st : Option (List UInt8)) (h : Rd w r st) : Calls Tryz.prog 128 #[.pointer (some ⟨r, 0, none⟩)] w fun e w' => e = .returned (.int .i64 (rLeft st : Nat)) ∧ w = w' := by
  cases st with
  | none => exact left_bad w r h.bad
  | some xs =>
    obtain ⟨ao, n, cap, hr, hrow, hbl⟩ := h
    have := left_good w r ao n cap (rd_cell0 hr).2.1 (rd_cell0 hr).1
    rw [← hrow.1] at this
    rw [← hrow.1] at *
    exact this
theorem uint_rd (w : World) (r : Nat) (st : Option (List UInt8)) (h : Rd w r st) :
    Calls Tryz.prog 153 #[.pointer (some ⟨r, 0, none⟩)] w fun e w' => e = .returned (.int .u64 ((rUint st).1 : Nat)) ∧ Rd w' r (rUint st).2 ∧ w.grownBy w' (some r) := by
  cases st with
  | none =>
    refine (ruint_bad w r h.bad).mono ?_
    rintro e w' ⟨rfl, rfl⟩
    exact ⟨rfl, h, grown_refl _ _⟩
  | some xs =>
    obtain ⟨ao, n, cap, hr, hrow, hbl⟩ := h
    obtain ⟨c0, c1, f0, f1⟩ := rd_cell0 hr
    cases hrd : rd xs with
    | none =>
      refine (ruint_none w r ao n cap xs c1 c0 f0 f1 hrow hrd).mono ?_
      rintro e w' ⟨rfl, rfl⟩
      have e1 : rUint (some xs) = (0, none) := by simp only [rUint, hrd]
      rw [e1]
      exact ⟨rfl, failed_rd hr⟩
    | some p =>
      obtain ⟨N, s⟩ := p
      refine (ruint_some w r ao n cap xs c1 c0 f0 f1 hrow N s hrd).mono ?_
      rintro e w' ⟨rfl, ao', cap', rfl, hrow', hbl'⟩
      have e1 : rUint (some xs) = (N, some (xs.drop s)) := by simp only [rUint, hrd]
      rw [e1]
      refine ⟨rfl, ⟨ao', _, cap', ?_, hrow'.kept hr (set_grown _), fun a' e => by obtain ⟨a, ha, hb⟩ := hbl' a' e; rw [hb]; exact hbl a ha⟩, set_grown _⟩
      rw [heap_setCell_same w r 0 _ 199 _ hr]
      rfl

end Go.Proofs.YtlaihgdfedalmaaGreat.Cd
namespace Go.Proofs.YtlaihgdfedalmaaGreat.Cd
open Go.RowKit
set_option linter.unusedVariables false

theorem owns_row {w : World} {B : Nat} {v : Value} {n : Nat} {xs : List UInt8} (h : w.ownsRow B 5 1 v n (xs.map by8)) : ∃ ao cap, v = .slice ao n cap ∧ Row w ao n cap xs ∧ ∀ a, ao = some a → B ≤ a.block := by
  have hl : xs.length = n := by simpa using h.1
  rcases h.2 with ⟨rfl, rfl⟩ | ⟨g, cap, cur, rfl, hb, hg, hn, hc, hs, ht⟩
  · exact ⟨none, 0, rfl, ⟨hl, Nat.le_refl _, by unfold maxLen; omega, fun _ => ⟨rfl, rfl⟩, fun a ha => (by cases ha)⟩, fun a ha => (by cases ha)⟩
  · refine ⟨_, cap, rfl, ⟨hl, hn, hc, fun e => (by cases e), fun a ha i hi => ?_⟩, fun a ha => (by cases ha; exact hb)⟩
    cases ha
    have := World.ownsRow.cells h (g := g) rfl i (by8 (xs.getD i 0)) (by simp [List.getElem?_eq_getElem (show i < xs.length by omega)])
    exact this

theorem owns_lt {w : World} {B n cap : Nat} {ao : Option Addr} {xs : List Value} (h : w.ownsRow B 5 1 (.slice ao n cap) n xs) : ∀ a, ao = some a → a.block < w.heap.size := by
  intro a ha
  rcases h.2 with ⟨h0, _⟩ | ⟨g, cap', cur, h0, hb, hg, _⟩
  · cases h0; cases ha
  · subst ha
    simp only [Value.slice.injEq, Option.some.injEq] at h0
    rw [h0.1]
    exact (Array.getElem?_eq_some_iff.1 hg).1
theorem reader_at {w w1 : World} {B : Nat} {v : Value} {n : Nat} {xs : List UInt8} (hb : Below B w w1) (hs : w.heap.size ≤ w1.heap.size) (hB : B ≤ w1.heap.size) (hown : w1.ownsRow B 5 1 v n (xs.map by8)) :
    Rd (w1.alloc (.cells #[v, .bool false] 199)) w1.heap.size (some xs) ∧ Below B w (w1.alloc (.cells #[v, .bool false] 199)) := by
  obtain ⟨ao, cap, rfl, hrow, _⟩ := owns_row hown
  exact ⟨⟨ao, n, cap, heap_alloc_new _ _, hrow.below ((Below.refl _ _).alloc (Nat.le_refl _) _) (Nat.le_refl _), owns_lt hown⟩, hb.alloc hB _⟩

set_option maxHeartbeats 400000 in
theorem newReader_any (w : World) (ao : Option Addr) (n cap : Nat) (xs : List UInt8) (h : Row w ao n cap xs) (hr : n ≤ 140737488355328) :
    Calls Tryz.prog 123 #[.slice ao n cap] w fun e w' => ∃ r, e = .returned (.pointer (some ⟨r, 0, none⟩)) ∧ w.heap.size ≤ r ∧ Rd w' r (some xs) ∧ Below w.heap.size w w' := by
  obtain ⟨i0, hi, hz0, hz1, hz2⟩ := info_parts Tryz.info5
  have HR : Hid (Row w ao n cap xs) := h
  obtain ⟨hlen, hle, hm, hnone, _⟩ := h
  cases ao with
  | none =>
    obtain ⟨rfl, rfl⟩ := hnone rfl
    go_enter Tryz.func123, Tryz.ntmps123
    go_wp2
    go_ret
    have hx : xs = [] := List.eq_nil_of_length_eq_zero hlen
    subst hx
    exact ⟨_, rfl, Nat.le_refl _, reader_at (Below.refl _ _) (Nat.le_refl _) (Nat.le_refl _) (World.ownsRow_nil _ _ _ _)⟩
  | some a =>
    go_enter Tryz.func123, Tryz.ntmps123
    go_wp2_with (first | (at_builtin; refine wpList_append_own _ rfl _ _ 37 rfl w.heap.size 5 i0 (.int .u8 0) 1 1 Tryz.underlying37 hi hz0 hz1 hz2 rfl (by decide) (.slice none 0 0) 0 [] rfl (World.ownsRow_nil _ _ _ _) a n cap (xs.map by8) rfl ?f2 ?f3 ?f4 ?f6 ?f7 ?f8 ?_))
    case f2 => simp [hlen]
    case f3 => exact HR.out.olds a rfl
    case f4 => exact by8_one xs
    case f6 => unfold maxLen; omega
    case f7 => omega
    case f8 => omega
    · intro v' w1 hown1 hgrow1 _
      have hb : Below w.heap.size w w1 := (Below.refl _ _).grown hgrow1 (Nat.le_refl _) (fun k hk => by simp [Value.ownBlock] at hk)
      have hs := hb.size
      have R := reader_at hb hs hs hown1
      obtain ⟨ao', cap', hv, _, _⟩ := owns_row hown1
      rw [hv] at R ⊢
      clear hown1 hgrow1 hv
      go_wp2
      go_ret
      exact ⟨_, rfl, hs, R⟩

theorem fail_rd (w : World) (r : Nat) (ys : List UInt8) (h : Rd w r (some ys)) : Calls Tryz.prog 154 #[.pointer (some ⟨r, 0, none⟩)] w fun e w' => e = .returned (.tuple #[]) ∧ Rd w' r none ∧ w.grownBy w' (some r) := by
  obtain ⟨ao, n, cap, hr, hrow, hbl⟩ := h
  obtain ⟨c0, c1, f0, f1⟩ := rd_cell0 hr
  refine (fail_any w r _ _ c0 c1 f0 f1).mono ?_
  rintro e w' ⟨rfl, rfl⟩
  exact ⟨rfl, failed_rd hr⟩

theorem rUint_lt (st : Option (List UInt8)) : (rUint st).1 < 18446744073709551616 := by
  cases st with
  | none => simp [rUint]
  | some xs =>
    cases hrd : rd xs with
    | none => simp [rUint, hrd]
    | some p => obtain ⟨n, s⟩ := p; simpa [rUint, hrd] using rd_lt hrd

set_option maxHeartbeats 1000000 in
theorem int_rd (w : World) (r : Nat) (st : Option (List UInt8)) (h : Rd w r st) (m : Int) (hm1 : -9223372036854775808 ≤ m) (hm2 : m ≤ 9223372036854775807) :
    Calls Tryz.prog 124 #[.pointer (some ⟨r, 0, none⟩), .int .i64 m] w fun e w' => e = .returned (.int .i64 ((rInt st m).1 : Nat)) ∧ Rd w' r (rInt st m).2 ∧ w.grownBy w' (some r) := by
  have hu := uint_rd w r st h
  have hlt := rUint_lt st
  generalize hN : (rUint st).1 = N at *
  cases hst : (rUint st).2 with
  | none =>
    rw [hst] at hu
    have e1 : rInt st m = (0, none) := by simp [rInt, hst]
    rw [e1]
    clear e1 hst hN
    go_enter Tryz.func124, Tryz.ntmps124
    go_wp2_with (first | (go_at_call 153; refine hu.mono ?_; rintro e w' ⟨rfl, hrd, hg⟩) | (go_at_call 127; refine (bad_rd _ _ _ hrd).mono ?_; rintro e w' ⟨rfl, rfl⟩))
    go_ret
    exact ⟨rfl, hrd, hg⟩
  | some ys =>
    rw [hst] at hu
    by_cases hb : m < 0 ∨ m < (N : Int)
    · have e1 : rInt st m = (0, none) := by simp only [rInt, hst, hN]; rw [if_pos hb]
      rw [e1]
      clear e1 hst hN
      by_cases hm0 : m < 0
      · go_enter Tryz.func124, Tryz.ntmps124
        go_wp2_with (first | (go_at_call 153; refine hu.mono ?_; rintro e w' ⟨rfl, hrd, hg⟩) | (go_at_call 127; refine (bad_rd _ _ _ hrd).mono ?_; rintro e w' ⟨rfl, rfl⟩) | (go_at_call 154; refine (fail_rd _ _ _ hrd).mono ?_; rintro e w'' ⟨rfl, hrd2, hg2⟩))
        go_ret
        exact ⟨rfl, hrd2, grown_trans hg hg2⟩
      · have hm3 : m < (N : Int) := by omega
        have hm4 : 0 ≤ m := by omega
        go_enter Tryz.func124, Tryz.ntmps124
        go_wp2_with (first | (go_at_call 153; refine hu.mono ?_; rintro e w' ⟨rfl, hrd, hg⟩) | (go_at_call 127; refine (bad_rd _ _ _ hrd).mono ?_; rintro e w' ⟨rfl, rfl⟩) | (go_at_call 154; refine (fail_rd _ _ _ hrd).mono ?_; rintro e w'' ⟨rfl, hrd2, hg2⟩))
        go_ret
        exact ⟨rfl, hrd2, grown_trans hg hg2⟩
    · have e1 : rInt st m = (N, some ys) := by simp only [rInt, hst, hN]; rw [if_neg hb]
      rw [e1]
      clear e1 hst hN
      have hm0 : 0 ≤ m := by omega
      have hNm : (N : Int) ≤ m := by omega
      go_enter Tryz.func124, Tryz.ntmps124
      go_wp2_with (first | (go_at_call 153; refine hu.mono ?_; rintro e w' ⟨rfl, hrd, hg⟩) | (go_at_call 127; refine (bad_rd _ _ _ hrd).mono ?_; rintro e w' ⟨rfl, rfl⟩))
      go_ret
      exact ⟨rfl, hrd, hg⟩

theorem rInt_le (st : Option (List UInt8)) (m : Int) (ys : List UInt8) (h : (rInt st m).2 = some ys) : 0 ≤ m ∧ ((rInt st m).1 : Int) ≤ m := by
  unfold rInt at h ⊢
  cases hst : (rUint st).2 with
  | none => simp [hst] at h
  | some zs =>
    simp only [hst] at h ⊢
    split at h
    · simp at h
    · rename_i hn
      rw [if_neg hn]
      simp only
      omega

theorem rUint_len (st : Option (List UInt8)) (ys : List UInt8) (h : (rUint st).2 = some ys) : ∃ xs, st = some xs ∧ ys.length ≤ xs.length := by
  cases st with
  | none => simp [rUint] at h
  | some xs =>
    refine ⟨xs, rfl, ?_⟩
    unfold rUint at h
    cases hrd : rd xs with
    | none => simp [hrd] at h
    | some p => obtain ⟨n, s⟩ := p; simp [hrd] at h; subst h; simp
theorem rInt_len (st : Option (List UInt8)) (m : Int) (ys : List UInt8) (h : (rInt st m).2 = some ys) : ∃ xs, st = some xs ∧ ys.length ≤ xs.length := by
  unfold rInt at h
  cases hst : (rUint st).2 with
  | none => simp [hst] at h
  | some zs =>
    simp only [hst] at h
    split at h
    · simp at h
    · simp at h; subst h; exact rUint_len st _ hst
theorem Row.take {w : World} {ao : Option Addr} {n cap : Nat} {xs : List UInt8} (h : Row w ao n cap xs) (k : Nat) (hk : k ≤ n) : Row w ao k k (xs.take k) := by
  obtain ⟨h1, h2, h3, h4, h5⟩ := h
  refine ⟨by simp; omega, Nat.le_refl _, by omega, fun e => by have := (h4 e).1; omega, fun a ha i hi => ?_⟩
  rw [h5 a ha i (by omega)]
  simp [hi]

theorem row_empty {w : World} (a : Addr) {n : Nat} {xs : List UInt8} (h : xs.length = n) (hn : n = 0) : Row w (some a) n 0 xs := by
  subst hn
  exact ⟨h, Nat.le_refl _, by unfold maxLen; omega, fun e => (by cases e), fun a _ i hi => absurd hi (by omega)⟩
theorem Row.drop_at {w : World} {b off n cap : Nat} {xs : List UInt8} (h : Row w (some ⟨b, off, none⟩) n cap xs) (s : Nat) (hs : s ≤ n) : Row w (some ⟨b, off + s, none⟩) (n - s) (cap - s) (xs.drop s) := by
  obtain ⟨g1, g2, g3, g4, g5⟩ := h
  refine ⟨by simp; omega, by omega, by unfold maxLen at g3 ⊢; omega, fun e => (by cases e), fun a ha i hi => ?_⟩
  cases ha
  have := g5 _ rfl (s + i) (by omega)
  rw [Addr.add_lit] at this ⊢
  rw [show off + s + i = off + (s + i) by omega, this]
  simp [List.getElem?_drop]

theorem grown_none {a b : World} (r : Option Nat) (h : a.grownBy b none) : a.grownBy b r := ⟨h.os, h.tape, h.output, h.size, fun k hk _ => h.block k hk (by simp)⟩
theorem bytes_step {w w' w1 : World} {r n cap N : Nat} {ao : Option Addr} {ys : List UInt8} (hr : w'.heap[r]? = some (.cells #[.slice ao n cap, .bool false] 199 (0, 0))) (hrow : Row w' ao n cap ys) (hN : N ≤ n) (hg : w.grownBy w' (some r))
    {ao2 : Option Addr} {cap2 : Nat} (hbl2 : ∀ a, ao2 = some a → a.block < r) (hrow2 : Row w' ao2 (n - N) cap2 (ys.drop N)) {v' : Value} (hown1 : w1.ownsRow w.heap.size 5 1 v' N ((ys.take N).map by8))
    (hgrow1 : (w'.setCell ⟨r, 0, none⟩ (.slice ao2 (n - N) cap2)).grownBy w1 none) :
    w1.ownsRow w.heap.size 5 1 v' (ys.take N).length ((ys.take N).map by8) ∧ Rd w1 r (some (ys.drop N)) ∧ w.grownBy w1 (some r) := by
  have hs := heap_setCell_same w' r 0 _ 199 (.slice ao2 (n - N) cap2) hr
  have hlt : r < (w'.setCell ⟨r, 0, none⟩ (.slice ao2 (n - N) cap2)).heap.size := (Array.getElem?_eq_some_iff.1 hs).1
  refine ⟨?_, ⟨ao2, n - N, cap2, ?_, ?_, hbl2⟩, grown_trans hg (grown_trans (set_grown _) (grown_none _ hgrow1))⟩
  · rw [show (ys.take N).length = N by have := hrow.1; simp; omega]
    exact hown1
  · rw [hgrow1.block r hlt (by simp), hs]
    rfl
  · exact hrow2.kept hr (grown_trans (set_grown _) (grown_none _ hgrow1))

set_option maxHeartbeats 1000000 in
set_option maxRecDepth 10000 in
theorem bytes_rd (w : World) (r : Nat) (st : Option (List UInt8)) (h : Rd w r st) (m : Int) (hm1 : -9223372036854775808 ≤ m) (hm2 : m ≤ 9223372036854775807) (hl : ∀ xs, st = some xs → xs.length ≤ 140737488355328) :
    Calls Tryz.prog 156 #[.pointer (some ⟨r, 0, none⟩), .int .i64 m] w fun e w' => ∃ v, e = .returned v ∧ w'.ownsRow w.heap.size 5 1 v (rBytes st m).1.length ((rBytes st m).1.map by8) ∧ Rd w' r (rBytes st m).2 ∧ w.grownBy w' (some r) := by
  have hi := int_rd w r st h m hm1 hm2
  have hil := rInt_le st m
  generalize hN : (rInt st m).1 = N at *
  cases hst : (rInt st m).2 with
  | none =>
    rw [hst] at hi
    have e1 : rBytes st m = ([], none) := by simp [rBytes, hst]
    rw [e1]
    clear e1 hst hN hil
    go_enter Tryz.func156, Tryz.ntmps156
    go_wp2_with (first | (go_at_call 124; refine hi.mono ?_; rintro e w' ⟨rfl, hrd, hg⟩) | (go_at_call 127; refine (bad_rd _ _ _ hrd).mono ?_; rintro e w' ⟨rfl, rfl⟩))
    go_ret
    exact ⟨_, rfl, World.ownsRow_nil _ _ _ _, hrd, hg⟩
  | some ys =>
    rw [hst] at hi
    have hNm := hil ys hst
    have hyl : ys.length ≤ 140737488355328 := by obtain ⟨xs, e, h1⟩ := rInt_len st m ys hst; have := hl xs e; omega
    by_cases hb : ys.length < N
    · have e1 : rBytes st m = ([], none) := by simp only [rBytes, hst, hN]; rw [if_pos hb]
      rw [e1]
      clear e1 hst hN hil
      go_enter Tryz.func156, Tryz.ntmps156
      go_wp2_with (first | (go_at_call 124; refine hi.mono ?_; rintro e w' ⟨rfl, hrd, hg⟩) | (go_at_call 127; refine (bad_rd _ _ _ hrd).mono ?_; rintro e w' ⟨rfl, rfl⟩; obtain ⟨ao, n, cap, hr, hrow, hbl⟩ := id hrd; obtain ⟨c0, c1, f0, f1⟩ := rd_cell0 hr; have hyn := hrow.1; have hcm := hrow.2.1; have hcx := hrow.2.2.1) | (go_at_call 154; refine (fail_rd _ _ _ hrd).mono ?_; rintro e w'' ⟨rfl, hrd2, hg2⟩))
      go_ret
      exact ⟨_, rfl, World.ownsRow_nil _ _ _ _, hrd2, grown_trans hg hg2⟩
    · have e1 : rBytes st m = (ys.take N, some (ys.drop N)) := by simp only [rBytes, hst, hN]; rw [if_neg hb]
      rw [e1]
      clear e1 hst hN hil
      obtain ⟨i0, hi0, hz0, hz1, hz2⟩ := info_parts Tryz.info5
      go_enter Tryz.func156, Tryz.ntmps156
      go_wp2_with (first | (go_at_call 124; refine hi.mono ?_; rintro e w' ⟨rfl, hrd, hg⟩))
      obtain ⟨ao, n, cap, hr, hrow, hbl⟩ := id hrd
      obtain ⟨c0, c1, f0, f1⟩ := rd_cell0 hr
      have hyn := hrow.1
      have hcm := hrow.2.1
      have hcx := hrow.2.2.1
      unfold maxLen at hcx
      have hgs := hg.size
      cases ao with
      | none =>
        obtain ⟨rfl, rfl⟩ := hrow.2.2.2.1 rfl
        have hN0 : N = 0 := by omega
        subst hN0
        go_wp2_with (first | (go_at_call 127; refine (bad_rd _ _ _ hrd).mono ?_; rintro e w' ⟨rfl, rfl⟩))
        go_ret
        refine ⟨_, rfl, World.ownsRow_nil _ _ _ _, ⟨none, 0, 0, ?_, by simpa using hrow.kept hr (set_grown _), fun a e => by cases e⟩, grown_trans hg (set_grown _)⟩
        rw [heap_setCell_same w' r 0 _ 199 _ hr]
        rfl
      | some a =>
        by_cases hn0 : n = 0
        · subst hn0
          have hN0 : N = 0 := by omega
          subst hN0
          go_wp2_with (first | (go_at_call 127; refine (bad_rd _ _ _ hrd).mono ?_; rintro e w' ⟨rfl, rfl⟩) | (at_builtin; refine wpList_append_own _ rfl _ _ 37 rfl w.heap.size 5 i0 (.int .u8 0) 1 1 Tryz.underlying37 hi0 hz0 hz1 hz2 rfl (by decide) (.slice none 0 0) 0 [] rfl (World.ownsRow_nil _ _ _ _) a 0 0 ((ys.take 0).map by8) rfl ?a2 ?a3 ?a4 ?a6 ?a7 ?a8 ?_))
          case a2 => first | (simp; done) | (simp; omega)
          case a3 => exact ((hrow.take 0 (by omega)).kept hr (set_grown _)).olds _ rfl
          case a4 => exact by8_one _
          case a6 => unfold maxLen; omega
          case a7 => omega
          case a8 => simp; omega
          · intro v' w1 hown1 hgrow1 _
            have R := bytes_step (hbl2 := fun a' e => by cases e; have hb9 := hbl _ rfl; exact hb9) (N := 0) hr hrow (by omega) hg (ao2 := some a) (cap2 := cap) (by simpa using hrow) (by simpa using hown1) hgrow1
            clear hown1 hgrow1
            go_wp2
            go_ret
            exact ⟨_, rfl, R⟩
        · obtain ⟨b, off, hab, _⟩ := hrow.open (by omega)
          cases hab
          by_cases hN0 : N = 0
          · subst hN0
            go_wp2_with (first | (go_at_call 127; refine (bad_rd _ _ _ hrd).mono ?_; rintro e w' ⟨rfl, rfl⟩) | (at_builtin; refine wpList_append_own _ rfl _ _ 37 rfl w.heap.size 5 i0 (.int .u8 0) 1 1 Tryz.underlying37 hi0 hz0 hz1 hz2 rfl (by decide) (.slice none 0 0) 0 [] rfl (World.ownsRow_nil _ _ _ _) ⟨b, off, none⟩ 0 0 ((ys.take 0).map by8) rfl ?b2 ?b3 ?b4 ?b6 ?b7 ?b8 ?_))
            case b2 => first | (simp; done) | (simp; omega)
            case b3 => exact ((hrow.take 0 (by omega)).kept hr (set_grown _)).olds _ rfl
            case b4 => exact by8_one _
            case b6 => unfold maxLen; omega
            case b7 => omega
            case b8 => simp; omega
            · intro v' w1 hown1 hgrow1 _
              have R := bytes_step (hbl2 := fun a' e => by cases e; have hb9 := hbl _ rfl; exact hb9) (N := 0) hr hrow (by omega) hg (ao2 := some ⟨b, off, none⟩) (cap2 := cap) (by simpa using hrow) (by simpa using hown1) hgrow1
              clear hown1 hgrow1
              go_wp2
              go_ret
              exact ⟨_, rfl, R⟩
          · by_cases hcN : cap = N
            · subst hcN
              go_wp2_with (first | (go_at_call 127; refine (bad_rd _ _ _ hrd).mono ?_; rintro e w' ⟨rfl, rfl⟩) | (at_builtin; refine wpList_append_own _ rfl _ _ 37 rfl w.heap.size 5 i0 (.int .u8 0) 1 1 Tryz.underlying37 hi0 hz0 hz1 hz2 rfl (by decide) (.slice none 0 0) 0 [] rfl (World.ownsRow_nil _ _ _ _) ⟨b, off, none⟩ cap cap ((ys.take cap).map by8) rfl ?c2 ?c3 ?c4 ?c6 ?c7 ?c8 ?_))
              case c2 => first | (simp; done) | (simp; omega)
              case c3 => exact ((hrow.take cap (by omega)).kept hr (set_grown _)).olds _ rfl
              case c4 => exact by8_one _
              case c6 => unfold maxLen; omega
              case c7 => omega
              case c8 => simp; omega
              · intro v' w1 hown1 hgrow1 _
                have R := bytes_step (hbl2 := fun a' e => by cases e; have hb9 := hbl _ rfl; exact hb9) (N := cap) hr hrow (by omega) hg (ao2 := some ⟨b, off, none⟩) (cap2 := 0) (row_empty _ (by simp; omega) (by omega)) (by simpa using hown1) (by rw [show n - cap = 0 by omega]; exact hgrow1)
                clear hown1 hgrow1
                go_wp2
                go_ret
                exact ⟨_, rfl, R⟩
            · have hNc : N < cap := by omega
              go_wp2_with (first | (go_at_call 127; refine (bad_rd _ _ _ hrd).mono ?_; rintro e w' ⟨rfl, rfl⟩) | (at_builtin; refine wpList_append_own _ rfl _ _ 37 rfl w.heap.size 5 i0 (.int .u8 0) 1 1 Tryz.underlying37 hi0 hz0 hz1 hz2 rfl (by decide) (.slice none 0 0) 0 [] rfl (World.ownsRow_nil _ _ _ _) ⟨b, off, none⟩ N N ((ys.take N).map by8) rfl ?d2 ?d3 ?d4 ?d6 ?d7 ?d8 ?_))
              case d2 => first | (simp; done) | (simp; omega)
              case d3 => exact ((hrow.take N (by omega)).kept hr (set_grown _)).olds _ rfl
              case d4 => exact by8_one _
              case d6 => unfold maxLen; omega
              case d7 => omega
              case d8 => simp; omega
              · intro v' w1 hown1 hgrow1 _
                have R := bytes_step (hbl2 := fun a' e => by cases e; have hb9 := hbl _ rfl; exact hb9) (N := N) hr hrow (by omega) hg (hrow.drop_at N (by omega)) (by simpa using hown1) hgrow1
                clear hown1 hgrow1
                go_wp2
                go_ret
                exact ⟨_, rfl, R⟩

end Go.Proofs.YtlaihgdfedalmaaGreat.Cd
namespace Go.Proofs.YtlaihgdfedalmaaGreat.Cd
set_option linter.unusedVariables false

/-- The number that bytes hold, seven bits each. -/
def val : List UInt8 → Nat
  | [] => 0
  | y :: t => y.toNat % 128 + 128 * val t
end Go.Proofs.YtlaihgdfedalmaaGreat.Cd
namespace Go.Proofs.YtlaihgdfedalmaaGreat.Cd
open Go.RowKit
set_option linter.unusedVariables false

end Go.Proofs.YtlaihgdfedalmaaGreat.Cd
namespace Go.Proofs.YtlaihgdfedalmaaGreat.Cd
open Go.RowKit
set_option linter.unusedVariables false

def str (xs : List UInt8) : ByteArray := ⟨xs.toArray⟩
theorem str_of (xs : List UInt8) : (xs.map fun x => (x.toNat : Int)).foldl (fun r n => r.push (UInt8.ofNat n.toNat)) ByteArray.empty = str xs := by
  rw [foldl_push_bytes]
  simp [str, ByteArray.empty, ByteArray.emptyWithCapacity, Function.comp_def]
  try rfl
theorem conv_row {w : World} {ao : Option Addr} {n cap : Nat} {xs : List UInt8} (h : Row w ao n cap xs) : (convert 37 9 (.slice ao n cap)).run Tryz.prog w = .ok (.string (str xs)) w := by
  cases ao with
  | none =>
    have hx : xs = [] := List.eq_nil_of_length_eq_zero (by have := h.1; have := (h.2.2.2.1 rfl).1; omega)
    subst hx
    exact run_convert_bytes_nil w 37 5 Tryz.underlying37 Tryz.underlying5 _ _ 9 Tryz.underlying9
  | some a =>
    have hl : (loadCells a n).run Tryz.prog w = .ok (((xs.map fun x => (x.toNat : Int))).map (Value.int .u8)).toArray w := by
      have := run_loadCells_list (P := Tryz.prog) w a ((xs.map fun x => (x.toNat : Int)).map (Value.int .u8)) (fun j v hj => h.olds a rfl j v (by simpa [by8, Function.comp_def] using hj))
      simpa [h.1] using this
    rw [run_convert_bytes_string w 37 9 5 _ n cap Tryz.underlying37 Tryz.underlying5 Tryz.underlying9, run_bytesToString w a n cap _ hl, str_of]

end Go.Proofs.YtlaihgdfedalmaaGreat.Cd
namespace Go.Proofs.YtlaihgdfedalmaaGreat.Cd
open Go.RowKit
theorem rd_below {w w' : World} {r : Nat} {st : Option (List UInt8)} (h : Rd w r st) (hb : Below w.heap.size w w') : Rd w' r st := by
  cases st with
  | none =>
    show w'.heap[r]? = _
    rw [hb.block r (Array.getElem?_eq_some_iff.1 h).1]
    exact h
  | some xs =>
    obtain ⟨ao, n, cap, hr, hrow, hbl⟩ := h
    exact ⟨ao, n, cap, by rw [hb.block r (Array.getElem?_eq_some_iff.1 hr).1]; exact hr, hrow.below hb (Nat.le_refl _), hbl⟩
theorem Rd.lt {w : World} {r : Nat} {st : Option (List UInt8)} (h : Rd w r st) : r < w.heap.size := by
  cases st with
  | none => exact (Array.getElem?_eq_some_iff.1 h).1
  | some xs => obtain ⟨ao, n, cap, hr, _⟩ := h; exact (Array.getElem?_eq_some_iff.1 hr).1
theorem str_beq (a b : List UInt8) : ((str a).toList == (str b).toList) = decide (a = b) := by
  have h : ∀ l, (str l).toList = l := fun l => ByteArray.toList_mk l
  rw [h, h, Bool.eq_iff_iff]
  simp
end Go.Proofs.YtlaihgdfedalmaaGreat.Cd
namespace Go.Proofs.YtlaihgdfedalmaaGreat.Cd
theorem take_first {P : Program} {md : Region.Mode} {l : List Oper} {Q : Exit → Act → World → Prop} {S : World → Prop} (i : Nat) {oi : Oper} {v : Value} {fuel : Nat} {listed : Array Bool} {a : Act} {w : World} (hi : l[i]? = some oi)
    (hs : Region.noSelect l.toArray = true) (hf : Region.free md l.toArray listed i = true) (hr : (Region.ready md l.toArray listed).contains i = true)
    (hQ : ∀ c a w, Q (.panic c) (a.put oi.dst v) w → Q (.panic c) a w) (hy : YieldsIf P l.toArray S oi v a) (hS : S w)
    (h : wpAnyH P md l.toArray Q S fuel (listed.setIfInBounds i true) (a.put oi.dst v) w) : wpAnyH P md l.toArray Q S (fuel + 1) listed a w :=
  wpAnyH_take (by simpa using hi) hs hf hr hQ hy hS h
theorem comes_up {P : Program} {md : Region.Mode} {l : List Oper} {Q : Exit → Act → World → Prop} {S : World → Prop} (i : Nat) {o : Oper} {fuel : Nat} {listed : Array Bool} {a : Act} {w : World} (hi : l[i]? = some o) (hr : Region.ready md l.toArray listed = [i])
    (h : ∀ K' : Act → World → Prop, Shut (∀ a w, S w → (S w → wpAnyH P md l.toArray Q S fuel (listed.setIfInBounds i true) a w) → K' a w) → if Region.wanted o (yielded l.toArray a.tmps) = true then Oper.wp P o a w K' Q else K' (a.put o.dst undef) w) :
    wpAnyH P md l.toArray Q S (fuel + 1) listed a w :=
  wpAnyH_ready (rs := [i]) hr (by simp) (AllReadyH.cons (by simpa using hi) h AllReadyH.nil)
end Go.Proofs.YtlaihgdfedalmaaGreat.Cd
namespace Go.Proofs.YtlaihgdfedalmaaGreat.Cd
end Go.Proofs.YtlaihgdfedalmaaGreat.Cd
namespace Go.Proofs.YtlaihgdfedalmaaGreat.Cd
open Go.RowKit
set_option linter.unusedVariables false
set_option linter.unusedSimpArgs false

/-- Where the document's reader stands; none: behind a fault. -/
def atOf : Option Nat → Int
  | none => -1
  | some k => k
/-- The document's reader over bytes that came. -/
def RR (w : World) (m : Nat) (ao : Option Addr) (n cap : Nat) (o : Option Nat) : Prop :=
  w.heap[m]? = some (.cells #[.slice ao n cap, .int .i64 (atOf o)] 182 (0, 0))
theorem RR.cells {w : World} {m : Nat} {ao : Option Addr} {n cap : Nat} {o : Option Nat} (h : RR w m ao n cap o) :
    w.cell? ⟨m, 0, none⟩ = some (.slice ao n cap) ∧ w.cell? ⟨m, 1, none⟩ = some (.int .i64 (atOf o)) ∧ w.frozen? ⟨m, 0, none⟩ = false ∧ w.frozen? ⟨m, 1, none⟩ = false :=
  ⟨by rw [cell_of_row w m 0 _ 182 (0, 0) h]; rfl, by rw [cell_of_row w m 1 _ 182 (0, 0) h]; rfl, frozen_of_row w m 0 _ 182 h, frozen_of_row w m 1 _ 182 h⟩
theorem RR.set {w : World} {m : Nat} {ao : Option Addr} {n cap : Nat} {o : Option Nat} (h : RR w m ao n cap o) (o' : Option Nat) : RR (w.setCell ⟨m, 1, none⟩ (.int .i64 (atOf o'))) m ao n cap o' := by
  unfold RR
  rw [heap_setCell_same w m 1 _ 182 _ h]
  rfl
theorem RR.below {w w' : World} {m : Nat} {ao : Option Addr} {n cap : Nat} {o : Option Nat} (h : RR w m ao n cap o) (hb : Below w.heap.size w w') : RR w' m ao n cap o := by
  unfold RR
  rw [hb.block m (Array.getElem?_eq_some_iff.1 h).1]
  exact h
theorem RR.lt {w : World} {m : Nat} {ao : Option Addr} {n cap : Nat} {o : Option Nat} (h : RR w m ao n cap o) : m < w.heap.size := (Array.getElem?_eq_some_iff.1 h).1
/-- The bytes stay while the document's reader's object is written. -/
theorem row_RR {w w' : World} {m : Nat} {ao bo : Option Addr} {n cap n' cap' : Nat} {o : Option Nat} {xs : List UInt8} (h : Row w bo n' cap' xs) (hr : RR w m ao n cap o) (hg : w.grownBy w' (some m)) : Row w' bo n' cap' xs := by
  obtain ⟨h1, h2, h3, h4, h5⟩ := h
  refine ⟨h1, h2, h3, h4, fun a ha i hi => ?_⟩
  have hc := h5 a ha i hi
  have hne : (a.add i).block ≠ m := by
    intro he
    generalize a.add i = p at *
    obtain ⟨pb, po, ps⟩ := p
    have hs : ps = none := World.cell?_spot hc
    subst hs
    simp only at he
    subst he
    rw [cell_of_row w _ po _ 182 (0, 0) hr] at hc
    match po, hc with
    | 0, hc => simp at hc
    | 1, hc => simp at hc
    | k + 2, hc => simp at hc
  exact hg.cell hc (by simpa using hne)

theorem grown_of_below {w w' : World} (h : Below w.heap.size w w') (r : Option Nat) : w.grownBy w' r := ⟨h.os, h.tape, h.output, h.size, fun k hk _ => h.block k hk⟩
end Go.Proofs.YtlaihgdfedalmaaGreat.Cd
namespace Go.Proofs.YtlaihgdfedalmaaGreat.Cd
open Go.RowKit
set_option linter.unusedVariables false
set_option linter.unusedSimpArgs false

/-- The two readers stand at one place: what is left is what lies behind the place. -/
def same (xs : List UInt8) (o : Option Nat) (st : Option (List UInt8)) : Prop :=
  match o, st with
  | none, none => True
  | some k, some ys => k ≤ xs.length ∧ ys = xs.drop k
  | _, _ => False

end Go.Proofs.YtlaihgdfedalmaaGreat.Cd
namespace Go.Proofs.YtlaihgdfedalmaaGreat.Cd
open Go.RowKit
set_option linter.unusedVariables false

theorem cat_step {w wr w1 : World} {B L : Nat} {zs ys : List UInt8} {v v' : Value} (hbel : Below B w wr) (hB : B ≤ wr.heap.size) (h0 : wr.ownsRow B 5 1 v L (zs.map by8))
    (hown : w1.ownsRow B 5 1 v' (L + ys.length) (zs.map by8 ++ ys.map by8)) (hgrow : wr.grownBy w1 v.ownBlock) :
    w1.ownsRow B 5 1 v' (L + ys.length) ((zs ++ ys).map by8) ∧ Below B w w1 :=
  ⟨by simpa using hown, hbel.grown hgrow hB (fun k hk => (h0.lt k hk).1)⟩

set_option maxHeartbeats 400000 in
theorem bytes_any (w : World) (ao : Option Addr) (n cap : Nat) (xs : List UInt8) (h : Row w ao n cap xs) (bo : Option Addr) (m bcap : Nat) (ys : List UInt8) (hy : Row w bo m bcap ys) (hr : n + 10 ≤ 140737488355328) (hm : m ≤ 2000000) :
    Calls Tryz.prog 120 #[.slice ao n cap, .slice bo m bcap] w fun e w' => ∃ v, e = .returned v ∧ w'.ownsRow w.heap.size 5 1 v (n + (enc m).length + ys.length) ((xs ++ enc m ++ ys).map by8) ∧ Below w.heap.size w w' := by
  obtain ⟨i0, hi, hz0, hz1, hz2⟩ := info_parts Tryz.info5
  have hel := enc_length m
  have hyl := hy.1
  go_enter Tryz.func120, Tryz.ntmps120
  go_wp2_with fail
  refine (uint_any _ _ _ _ _ h m (by omega) hr).mono ?_
  rintro e w1 ⟨v, rfl, hown, hb⟩
  have hs := hb.size
  have hy1 := hy.below hb (Nat.le_refl _)
  cases bo with
  | none =>
    obtain ⟨rfl, rfl⟩ := hy.2.2.2.1 rfl
    have hy0 : ys = [] := List.eq_nil_of_length_eq_zero hyl
    subst hy0
    go_wp2_with (first | (at_builtin; refine wpList_append_own_none rfl _ _ 37 rfl w.heap.size 5 i0 1 Tryz.underlying37 hi v _ _ rfl hown rfl ?_))
    go_ret
    exact ⟨v, rfl, by simpa using hown, hb⟩
  | some b =>
    go_wp2_with (first | (at_builtin; refine wpList_append_own_wide _ rfl _ _ 37 rfl w.heap.size 5 i0 (.int .u8 0) 1 1 Tryz.underlying37 hi hz0 hz1 hz2 rfl (by decide) v _ _ rfl hown b m bcap (ys.map by8) rfl ?f2 ?f3 ?f4 ?f6 ?f7 ?f8 ?_))
    case f2 => simp [hyl]
    case f3 => exact hy1.olds b rfl
    case f4 => exact by8_one ys
    case f6 => unfold maxLen; omega
    case f7 => omega
    case f8 => omega
    · intro v' w2 hown2 hgrow2 _
      have R := cat_step (ys := ys) hb hs hown (by rw [hyl]; simpa using hown2) hgrow2
      clear hown2 hgrow2
      go_wp2
      go_ret
      exact ⟨v', rfl, R⟩

end Go.Proofs.YtlaihgdfedalmaaGreat.Cd
