/-
  Contracts of the leaves of package code: full, Sum, number: what each call answers, for every slice of bytes.
-/
import Derived.Test.YtpdgoalbknopiaaProg
import Derived.Test.YtpdgoalbknopiaaCdMath
import Derived.WalkKit
import Derived.WalkSpells
import Derived.WalkLawsBesides
import Derived.Outline
namespace Go.Proofs.Ytpdgoalbknopiaa.Cd
open Go.RowKit
set_option linter.unusedVariables false

/-- A slice of bytes that is there: its length, its room, its bytes. -/
def Row (w : World) (ao : Option Addr) (n cap : Nat) (xs : List UInt8) : Prop :=
  xs.length = n ∧ n ≤ cap ∧ cap ≤ maxLen ∧ (ao = none → n = 0 ∧ cap = 0) ∧ ∀ a, ao = some a → ∀ i, i < n → w.cell? (a.add i) = some (.int .u8 ((xs.getD i 0).toNat : Int))

theorem Row.open {w : World} {ao : Option Addr} {n cap : Nat} {xs : List UInt8} (h : Row w ao n cap xs) (hn : 0 < n) :
    ∃ b off, ao = some ⟨b, off, none⟩ ∧ ∀ i, i < n → w.cell? ⟨b, off + i, none⟩ = some (.int .u8 ((xs.getD i 0).toNat : Int)) := by
  obtain ⟨h1, h2, h3, h4, h5⟩ := h
  cases ao with
  | none => have := (h4 rfl).1; omega
  | some a =>
    obtain ⟨b, off, spot⟩ := a
    have hc := h5 _ rfl 0 hn
    have hs : spot = none := by simpa [Addr.add] using World.cell?_spot hc
    subst hs
    exact ⟨b, off, rfl, fun i hi => by rw [← Addr.add_lit]; exact h5 _ rfl i hi⟩

set_option maxHeartbeats 400000 in
theorem full_any (w : World) (ao : Option Addr) (n cap : Nat) (h : n ≤ cap) (hm : cap ≤ maxLen) : Calls Try.prog 73 #[.slice ao n cap] w fun e w' => e = .returned (.slice ao n n) ∧ w = w' := by
  unfold maxLen at hm
  go_enter Try.func73, Try.ntmps73
  go_wp2
  go_ret
  exact ⟨rfl, rfl⟩

theorem ret_int {k : IntKind} {a b : Int} (h : a = b) : Ending.returned (.int k a) = .returned (.int k b) := by rw [h]

theorem rdF_end {i acc : Nat} {xs : List UInt8} (h : xs.length ≤ i) : rdF i acc (xs.drop i) = none := by
  rw [List.drop_of_length_le h]; rfl
theorem drop_cons {xs : List UInt8} {k : Nat} (h : k < xs.length) : xs.drop k = xs.getD k 0 :: xs.drop (k + 1) := by
  rw [List.drop_eq_getElem_cons h]
  simp [List.getD, List.getElem?_eq_getElem h]

theorem shift_lt {k d : Nat} (hk : k ≤ 9) (hd : d < 128) (h9 : k = 9 → d ≤ 1) : d * 128 ^ k < 18446744073709551616 := by
  by_cases e : k = 9
  · subst e
    have := Nat.mul_le_mul_right (128 ^ 9) (h9 rfl)
    simp at this ⊢
    omega
  · have h8 : (128 : Nat) ^ (k + 1) ≤ 9223372036854775808 := pow_le9 (by omega)
    have := Nat.mul_le_mul_right (128 ^ k) (show d ≤ 127 by omega)
    rw [Nat.pow_succ] at h8
    omega
theorem shift_or {k d acc : Nat} (hk : k ≤ 9) (ha : acc < 128 ^ k) (hd : d < 128) (h9 : k = 9 → d ≤ 1) : bits .or .u64 (acc : Int) (IntKind.u64.wrap ((d : Int) * 2 ^ (7 * k))) = ((acc + d * 128 ^ k : Nat) : Int) := by
  have h2 : (2 : Int) ^ (7 * k) = ((128 ^ k : Nat) : Int) := by
    rw [show (128 : Nat) = 2 ^ 7 from rfl, ← Nat.pow_mul]
    simp
  have h3 := shift_lt hk hd h9
  have h4 : IntKind.u64.wrap ((d : Int) * 2 ^ (7 * k)) = ((d * 128 ^ k : Nat) : Int) := by
    rw [IntKind.wrap_u64, h2, ← Int.natCast_mul]
    omega
  rw [h4]
  exact walk_or k acc d hk ha hd h9

def rdNum (r : Option (Nat × Nat)) : Nat := match r with | some (n, _) => n | none => 0
def rdSize (r : Option (Nat × Nat)) : Nat := match r with | some (_, s) => s | none => 0

set_option maxRecDepth 10000 in
set_option maxHeartbeats 1000000 in
theorem number_any (w : World) (ao : Option Addr) (n cap : Nat) (xs : List UInt8) (h : Row w ao n cap xs) :
    Calls Try.prog 66 #[.slice ao n cap] w fun e w' => e = .returned (.tuple #[.int .u64 (rdNum (rd xs) : Nat), .int .i64 (rdSize (rd xs) : Nat)]) ∧ w = w' := by
  have hop := h.open
  obtain ⟨hlen, hle, hm, _, _⟩ := h
  unfold maxLen at hm
  go_enter Try.func66, Try.ntmps66
  go_wp2
  go_loop [2, 8] (fun s i => ∃ k acc : Nat, k ≤ n ∧ k ≤ 9 ∧ acc < 128 ^ k ∧ i = .int .i64 k ∧ s = .int .u64 (acc : Nat) ∧ rdF k acc (xs.drop k) = rd xs) (fun _ i => n - (intOf i).toNat)
  case atStart => exact ⟨0, 0, by omega, by omega, by omega, rfl, rfl, rfl⟩
  case round =>
    obtain ⟨k, acc, hk, hk9, hacc, rfl, rfl, hrd⟩ := hrel
    have HR : Hid (rdF k acc (xs.drop k) = rd xs) := hrd
    clear hrd
    by_cases hlt : k < n
    · obtain ⟨b, off, rfl, hcell⟩ := hop (by omega)
      have hck := hcell k hlt
      have hd := drop_cons (show k < xs.length by omega)
      obtain ⟨x, hx⟩ : ∃ x, x = xs.getD k 0 := ⟨_, rfl⟩
      rw [← hx] at hck hd
      rw [hd] at HR
      have hxl := u8_lt x
      clear hx hcell hop hd
      have HA : Hid (acc < 128 ^ k) := hacc
      clear hacc
      by_cases h9 : k = 9 ∧ 1 < x.toNat
      · obtain ⟨rfl, h1⟩ := h9
        have hrd : rd xs = none := by rw [← HR.out, rdF, if_pos ⟨rfl, h1⟩]
        go_wp2
        go_ret2
        exact ⟨by simp [rdNum, rdSize], rfl⟩
      · obtain ⟨d, hd⟩ : ∃ d : Nat, d = x.toNat % 128 := ⟨_, rfl⟩
        have hd1 : d < 128 := by omega
        have hd9 : k = 9 → d ≤ 1 := by omega
        have hdx : (x.toNat : Int) % 128 = (d : Int) := by omega
        have hor := shift_or hk9 HA.out hd1 hd9
        have HS : Hid (acc + d * 128 ^ k < 128 ^ (k + 1)) := by
          have := Nat.mul_le_mul_right (128 ^ k) (show d ≤ 127 by omega)
          have := HA.out
          show acc + d * 128 ^ k < 128 ^ (k + 1)
          rw [Nat.pow_succ]
          omega
        have HO : Hid (bits .or .u64 (acc : Int) (IntKind.u64.wrap ((d : Int) * 2 ^ (7 * k))) = ((acc + d * 128 ^ k : Nat) : Int)) := hor
        have HD : Hid (d = x.toNat % 128) := hd
        clear HA hd9 hor hd
        by_cases h128 : 128 ≤ x.toNat
        · have h99 : ((k : Int) == 9) = false := by simp; omega
          have hd8 : Hid (rdF (k + 1) (acc + d * 128 ^ k) (xs.drop (k + 1)) = rd xs) := by
            have := HR.out
            rw [rdF, if_neg h9, if_pos h128, ← HD.out] at this
            exact this
          go_wp2
          go_round
          case rel => exact ⟨k + 1, _, by omega, by omega, HS.out, by go_num, by rw [HO.out], hd8.out⟩
          case measure => simp [intOf]; omega
        · by_cases h0 : x.toNat = 0 ∧ 0 < k
          · have hrd : rd xs = none := by
              have := HR.out
              rw [rdF, if_neg h9, if_neg h128, if_pos h0] at this
              exact this.symm
            have HN : Hid (rd xs = none) := hrd
            clear hrd
            have h00 : ((x.toNat : Int) == 0) = true := by simp [h0.1]
            have h0k : (0 : Int) < k := by omega
            have hx1 : ¬ (1 : Int) < x.toNat := by omega
            clear h0
            by_cases e9 : k = 9
            · have h99 : ((k : Int) == 9) = true := by simp; omega
              clear e9 h9
              go_wp2
              go_ret2
              exact ⟨by simp [HN.out, rdNum, rdSize], rfl⟩
            · have h99 : ((k : Int) == 9) = false := by simp; omega
              go_wp2
              go_ret2
              exact ⟨by simp [HN.out, rdNum, rdSize], rfl⟩
          · have hrd : rd xs = some (acc + d * 128 ^ k, k + 1) := by
              have := HR.out
              rw [rdF, if_neg h9, if_neg h128, if_neg h0, ← HD.out] at this
              exact this.symm
            have HN : Hid (rd xs = some (acc + d * 128 ^ k, k + 1)) := hrd
            clear hrd
            by_cases e9 : k = 9
            · have h99 : ((k : Int) == 9) = true := by simp; omega
              have hx1 : ¬ (1 : Int) < x.toNat := by omega
              have h00 : ((x.toNat : Int) == 0) = false := by simp; omega
              clear e9 h9 h0
              go_wp2
              go_ret2
              exact ⟨by rw [HN.out]; simp only [rdNum, rdSize]; rw [← HO.out]; rfl, rfl⟩
            · have h99 : ((k : Int) == 9) = false := by simp; omega
              by_cases e0 : x.toNat = 0
              · have h00 : ((x.toNat : Int) == 0) = true := by simp [e0]
                have hk0 : ¬ (0 : Int) < k := by omega
                clear e0 h0
                go_wp2
                go_ret2
                exact ⟨by rw [HN.out]; simp only [rdNum, rdSize]; rw [← HO.out]; rfl, rfl⟩
              · have h00 : ((x.toNat : Int) == 0) = false := by simp; omega
                go_wp2
                go_ret2
                exact ⟨by rw [HN.out]; simp only [rdNum, rdSize]; rw [← HO.out]; rfl, rfl⟩
    · go_wp2
      go_ret2
      have hrd : rd xs = none := by rw [← HR.out, rdF_end (by omega)]
      exact ⟨by simp [hrd, rdNum, rdSize], rfl⟩

end Go.Proofs.Ytpdgoalbknopiaa.Cd
