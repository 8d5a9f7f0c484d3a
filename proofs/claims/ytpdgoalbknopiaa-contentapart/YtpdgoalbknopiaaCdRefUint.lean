/-
  Contract of the document's answer for numbers: Uint of package folkmootref02 answers the number's bytes, in new memory.
-/
import Derived.Test.YtpdgoalbknopiaaCdRead2
namespace Go.Proofs.Ytpdgoalbknopiaa.Cd
open Go.RowKit
set_option linter.unusedVariables false

set_option maxRecDepth 10000 in
set_option maxHeartbeats 1000000 in
theorem refUint_any (w : World) (N : Nat) (hN : N < 18446744073709551616) :
    Calls Try.prog 40 #[.int .u64 (N : Nat)] w fun e w' => ∃ v, e = .returned v ∧ w'.ownsRow w.heap.size 5 1 v (enc N).length ((enc N).map by8) ∧ Below w.heap.size w w' := by
  obtain ⟨i0, hi, hz0, hz1, hz2⟩ := info_parts Try.info5
  go_enter Try.func40, Try.ntmps40
  go_wp2
  go_loopw [0, 3] (fun m v wr => ∃ (k c : Nat) (acc : List UInt8), k ≤ 9 ∧ c < 2 * 128 ^ (9 - k) ∧ m = .int .u64 (c : Nat) ∧ acc.length = k ∧ acc ++ encF (9 - k) c = enc N ∧ wr.ownsRow w.heap.size 5 1 v acc.length (acc.map by8) ∧ Below w.heap.size w wr) (fun m _ _ => (intOf m).toNat)
  case atStart => exact ⟨0, N, [], by omega, by omega, rfl, rfl, by simp [enc], World.ownsRow_nil _ _ _ _, Below.refl _ _⟩
  case round => 
    obtain ⟨k, c, acc, hk, hc, rfl, hacc, henc, hown, hbel⟩ := hrel
    have HE : Hid (acc ++ encF (9 - k) c = enc N) := henc
    have HC : Hid (c < 2 * 128 ^ (9 - k)) := hc
    have HL : Hid (acc.length = k) := hacc
    have hsz := hbel.size
    have hkb : acc.length ≤ 9 := by omega
    have hcb : c < 18446744073709551616 := by have := pow_le9 (show 9 - k ≤ 9 by omega); omega
    clear henc hc hacc
    by_cases hlt : c < 128
    · have HEN : Hid (enc N = acc ++ [UInt8.ofNat c]) := by have := HE.out; rw [encF_small _ _ hlt] at this; exact this.symm
      obtain ⟨y, hy⟩ : ∃ y, y = UInt8.ofNat c := ⟨_, rfl⟩
      have hy8 : Hid (by8 y = .int .u8 (c : Int)) := by show by8 y = _; rw [hy, by8, ofNat_toNat _ (by omega)]
      rw [← hy] at HEN
      clear hy
      go_wp2_with (first | (at_builtin; refine wpList_append_own _ rfl _ _ 27 rfl w.heap.size 5 i0 (.int .u8 0) 1 1 Try.underlying27 hi hz0 hz1 hz2 rfl (by decide) u3 _ _ rfl (hown.alloc _) ⟨wr.heap.size, 0, none⟩ 1 1 [by8 y] rfl rfl ?d3 ?d4 ?d6 ?d7 ?d8 ?_))
      case d3 => rw [hy8.out]; exact cell_one_new _ _ _
      case d4 => exact by8_one [y]
      case d6 => unfold maxLen; omega
      case d7 => omega
      case d8 => simp; omega
      · intro v' w1 hown1 hgrow1 _
        have R := own_step (y := y) hbel hown (by simpa using hown1) hgrow1
        clear hown1 hgrow1
        go_wp2
        go_ret
        exact ⟨v', rfl, by rw [HEN.out]; simpa [Nat.add_assoc] using R.1, R.2⟩
    · obtain ⟨y, hy⟩ : ∃ y, y = UInt8.ofNat (c % 128 + 128) := ⟨_, rfl⟩
      have hk9 : k < 9 := by
        rcases Nat.lt_or_ge k 9 with h | h
        · exact h
        · have := HC.out
          have e : k = 9 := by omega
          subst e
          simp at this
          omega
      obtain ⟨j, hj⟩ : ∃ j, 9 - k = j + 1 := ⟨8 - k, by omega⟩
      have HEN : Hid ((acc ++ [y]) ++ encF (9 - (k + 1)) (c / 128) = enc N) := by
        have := HE.out
        rw [hj, encF_big _ _ (by omega), ← hy] at this
        show (acc ++ [y]) ++ encF (9 - (k + 1)) (c / 128) = enc N
        rw [show 9 - (k + 1) = j by omega, List.append_assoc]
        exact this
      have HCN : Hid (c / 128 < 2 * 128 ^ (9 - (k + 1))) := by
        have := HC.out
        rw [hj, Nat.pow_succ] at this
        show c / 128 < 2 * 128 ^ (9 - (k + 1))
        rw [show 9 - (k + 1) = j by omega]
        omega
      have HY8 : Hid (by8 y = .int .u8 ((c : Int) % 128 + 128)) := by
        show by8 y = _
        rw [hy, by8, ofNat_toNat _ (by omega)]
        congr 1
      have HLN : Hid ((acc ++ [y]).length = k + 1) := by have := HL.out; show (acc ++ [y]).length = k + 1; simp [this]
      have HCD : Hid (((c / 128 : Nat) : Int) = (c : Int) / 128) := by show ((c / 128 : Nat) : Int) = (c : Int) / 128; omega
      clear hy hj
      go_wp2_with (first | (at_builtin; refine wpList_append_own _ rfl _ _ 27 rfl w.heap.size 5 i0 (.int .u8 0) 1 1 Try.underlying27 hi hz0 hz1 hz2 rfl (by decide) u3 _ _ rfl (hown.alloc _) ⟨wr.heap.size, 0, none⟩ 1 1 [by8 y] rfl rfl ?f3 ?f4 ?f6 ?f7 ?f8 ?_))
      case f3 => rw [HY8.out]; exact cell_one_new _ _ _
      case f4 => exact by8_one [y]
      case f6 => unfold maxLen; omega
      case f7 => omega
      case f8 => simp; omega
      · intro v' w1 hown1 hgrow1 _
        have R := own_step (y := y) hbel hown (by simpa using hown1) hgrow1
        clear hown1 hgrow1
        go_wp2
        go_roundw
        case rel => exact ⟨k + 1, c / 128, acc ++ [y], by omega, HCN.out, by rw [HCD.out], HLN.out, HEN.out, by simpa using R.1, R.2⟩
        case measure => simp [intOf]; omega

end Go.Proofs.Ytpdgoalbknopiaa.Cd
