/-
  Numbers as they are handed in.
-/
import Derived.Test.YtlahdemhigcjnaaIAwake
import Derived.ProofKit
import Derived.OpenShut
import Derived.ShutString
import Derived.ChangeOld
import Derived.Below
namespace Go.Proofs.Ytlahdemhigcjnaa
open Go.ChangeShapes Go.WideShapes Go.ChangeAt Go.RowKit
set_option linter.unusedVariables false
def In (a : Int) : Prop := -9223372036854775808 ≤ a ∧ a ≤ 9223372036854775807
theorem in_of_wf {a : Int} (h : (Lit.int .i64 a).wf = true) : In a := by
  unfold In
  simp [Lit.wf, IntKind.min, IntKind.max, IntKind.bits, IntKind.signed] at h
  omega
theorem u64_of_wf {a : Int} (h : (Lit.int .u64 a).wf = true) : ∃ n : Nat, a = n ∧ n < 18446744073709551616 := by
  simp [Lit.wf, IntKind.min, IntKind.max, IntKind.bits, IntKind.signed] at h
  exact ⟨a.toNat, by omega, by omega⟩
theorem u32_of_wf {a : Int} (h : (Lit.int .u32 a).wf = true) : ∃ n : Nat, a = n ∧ n < 4294967296 := by
  simp [Lit.wf, IntKind.min, IntKind.max, IntKind.bits, IntKind.signed] at h
  exact ⟨a.toNat, by omega, by omega⟩
theorem u16_of_wf {a : Int} (h : (Lit.int .u16 a).wf = true) : ∃ n : Nat, a = n ∧ n < 65536 := by
  simp [Lit.wf, IntKind.min, IntKind.max, IntKind.bits, IntKind.signed] at h
  exact ⟨a.toNat, by omega, by omega⟩
theorem u8_of_wf {a : Int} (h : (Lit.int .u8 a).wf = true) : ∃ n : Nat, a = n ∧ n < 256 := by
  simp [Lit.wf, IntKind.min, IntKind.max, IntKind.bits, IntKind.signed] at h
  exact ⟨a.toNat, by omega, by omega⟩

theorem own : ownKnob Try.prog.godebug = none := by kernel_rfl
theorem laidOut : laidOutB Try.prog = true := by kernel_rfl


/-- The first k bits, as the law reckons them. -/
theorem all_bits : ∀ k : Fin 17, 1 ≤ k.val → IntKind.u16.wrap (IntKind.u16.wrap ((2 : Int) ^ k.val) - 1) = ((2 ^ k.val - 1 : Nat) : Int) := by decide +kernel
theorem all_lt (k : Nat) (hk : k ≤ 16) : 2 ^ k - 1 < 65536 := by
  have := Nat.pow_le_pow_right (show 0 < 2 by omega) hk
  omega

theorem not_bits (s k : Nat) (hs : s < 65536) (hk : k ≤ 16) : (s &&& (2 ^ k - 1)) &&& ((2 ^ k - 1) &&& (65535 - s)) = 0 ∧ (s &&& (2 ^ k - 1)) ||| ((2 ^ k - 1) &&& (65535 - s)) = 2 ^ k - 1 := by
  have e : 65535 - s = 2 ^ 16 - (s + 1) := by omega
  have ht : ∀ j, (65535 - s).testBit j = (decide (j < 16) && !s.testBit j) := fun j => by rw [e, Nat.testBit_two_pow_sub_succ (by omega)]
  constructor
  · apply Nat.eq_of_testBit_eq
    intro j
    simp only [Nat.testBit_and, Nat.testBit_two_pow_sub_one, ht, Nat.zero_testBit]
    cases s.testBit j <;> simp
  · apply Nat.eq_of_testBit_eq
    intro j
    simp only [Nat.testBit_and, Nat.testBit_or, Nat.testBit_two_pow_sub_one, ht]
    by_cases hj : j < k
    · have : j < 16 := by omega
      cases s.testBit j <;> simp [hj, this]
    · simp [hj]
end Go.Proofs.Ytlahdemhigcjnaa
