/-
  Class of the document's net, where both nets say the same of who hears whom.
-/
import Derived.Test.YtagabmhgcmnldaaMRep
namespace Go.Proofs.Ytagabmhgcmnldaa
open Go.RowKit
set_option linter.unusedVariables false
set_option linter.unusedSimpArgs false

/-- Both say the same. -/
def Rel (N : Nat) (H : Nat → Nat) (D : Nat → Bool) : Prop := ∀ a, a < N → H a < 2 ^ N ∧ ∀ b, b < N → (H a).testBit b = !D (a * 16 + b)
theorem Rel.hears {N : Nat} {H : Nat → Nat} {D : Nat → Bool} (h : Rel N H D) (h16 : N ≤ 16) (a b : Int) : rhears N D a b = hears N H a b := by
  unfold rhears Go.Proofs.Ytagabmhgcmnldaa.hears
  by_cases h1 : 0 ≤ a ∧ a < N
  · have e1 : isNode N a = true := by unfold isNode; simpa using h1
    rw [e1, Bool.true_and, Bool.true_and]
    obtain ⟨x, rfl⟩ : ∃ x : Nat, a = x := ⟨a.toNat, by omega⟩
    obtain ⟨hx, hbit⟩ := h x (by omega)
    unfold hasN
    by_cases h2 : 0 ≤ b ∧ b < N
    · have e2 : isNode N b = true := by unfold isNode; simpa using h2
      obtain ⟨y, rfl⟩ : ∃ y : Nat, b = y := ⟨b.toNat, by omega⟩
      rw [e2, Bool.true_and]
      simp only [Int.toNat_natCast]
      rw [hbit y (by omega)]
      simp; omega
    · have e2 : isNode N b = false := by unfold isNode; simpa using h2
      rw [e2, Bool.false_and]
      by_cases h3 : 0 ≤ b
      · have : (H x).testBit b.toNat = false := Nat.testBit_lt_two_pow (Nat.lt_of_lt_of_le hx (Nat.pow_le_pow_right (by omega) (by omega)))
        simp [this]
      · simp [h3]
  · have e1 : isNode N a = false := by unfold isNode; simpa using h1
    rw [e1]; simp
theorem bits_eq {x y N : Nat} (hx : x < 2 ^ N) (hy : y < 2 ^ N) (h : ∀ j, j < N → x.testBit j = y.testBit j) : x = y := by
  apply Nat.eq_of_testBit_eq
  intro j
  by_cases hj : j < N
  · exact h j hj
  · rw [Nat.testBit_lt_two_pow (Nat.lt_of_lt_of_le hx (Nat.pow_le_pow_right (by omega) (by omega))), Nat.testBit_lt_two_pow (Nat.lt_of_lt_of_le hy (Nat.pow_le_pow_right (by omega) (by omega)))]
theorem wrap_dbl : ∀ k : Fin 16, IntKind.u16.wrap (((2 ^ k.val % 65536 : Nat) : Int) * 2) = ((2 ^ (k.val + 1) % 65536 : Nat) : Int) := by decide +kernel
theorem nat_hears {N : Nat} {H : Nat → Nat} (h16 : N ≤ 16) {a b : Nat} (ha : a < N) (hb : b < N) : hears N H (a : Int) (b : Int) = (H a).testBit b := by
  unfold hears hasN
  rw [show isNode N (a : Int) = true by unfold isNode; simp; omega, show decide (0 ≤ (b : Int)) = true by simp, show decide ((b : Int) < 16) = true by simp; omega]
  simp
theorem mod_succ (x k : Nat) : x % 2 ^ (k + 1) = x % 2 ^ k + 2 ^ k * (x.testBit k).toNat := by
  rw [Nat.pow_succ, Nat.mod_mul, Nat.testBit_eq_decide_div_mod_eq]
  have : x / 2 ^ k % 2 = 0 ∨ x / 2 ^ k % 2 = 1 := by omega
  rcases this with h | h <;> simp [h]

section
variable {w : World} {p N : Nat} {lv bv : Value} {D : Nat → Bool} {lost : Nat} {L : List Mx} {A : List Pa}
set_option maxRecDepth 10000 in
set_option maxHeartbeats 1000000 in
theorem refClass_any (h : MIs w p N lv bv D lost L A) (H : Nat → Nat) (hr : Rel N H D) (i : Int) : Calls Try.prog 19 #[.pointer (some ⟨p, 0, none⟩), .int .i64 i] w fun e w' => e = .returned (.int .u16 (classN N H i : Nat)) ∧ w = w' := by
  have hn := refNode_any h i
  have h16 := h.n16
  have hhe : ∀ a b : Int, Calls Try.prog 17 #[.pointer (some ⟨p, 0, none⟩), .int .i64 a, .int .i64 b] w fun e w' => e = .returned (.bool (hears N H a b)) ∧ w = w' := fun a b => by
    have := refHear_any h a b
    rw [hr.hears h16] at this
    exact this
  have c0 := h.c0
  have HR : Hid (Rel N H D) := hr
  clear h hr
  by_cases hN : 0 ≤ i ∧ i < N
  · obtain ⟨m, rfl⟩ : ∃ m : Nat, i = m := ⟨i.toNat, by omega⟩
    have hm : m < N := by omega
    have e1 : isNode N (m : Int) = true := by unfold isNode; simpa using hN
    have HC : Hid (classN N H (m : Int) = classS H (H m)) := by unfold Hid classN; rw [if_pos e1]; simp
    rw [e1] at hn
    have HB : Hid (H m < 2 ^ N) := (HR.out m hm).1
    clear e1
    go_enter Try.func19, Try.ntmps19
    go_wp2_with fail
    refine hn.mono ?_
    rintro e w1 ⟨rfl, rfl⟩
    go_wp2_with fail
    go_loop [5, 6, 7, 8] (fun sv bv kv _ => ∃ k : Nat, k ≤ N ∧ kv = .int .i64 (k : Nat) ∧ sv = .int .u16 ((H m % 2 ^ k : Nat) : Int) ∧ bv = .int .u16 ((2 ^ k % 65536 : Nat) : Int) ∧ ∀ x, x < k → (H m).testBit x = true → H x = H m) (fun _ _ kv _ => N - (intOf kv).toNat)
    case atStart => exact ⟨0, by omega, rfl, by simp [Nat.mod_one], rfl, by omega⟩
    case round =>
      obtain ⟨k, hk, rfl, rfl, rfl, hall⟩ := hrel
      have HA : Hid (∀ x, x < k → (H m).testBit x = true → H x = H m) := hall
      clear hall
      by_cases hlt : k < N
      · have hltI : (k : Int) < N := by omega
        have hhk := hhe (m : Int) (k : Int)
        rw [nat_hears h16 hm hlt] at hhk
        have HM : Hid (H m % 2 ^ (k + 1) = H m % 2 ^ k + 2 ^ k * ((H m).testBit k).toNat) := mod_succ _ _
        have HW : Hid (IntKind.u16.wrap (((2 ^ k % 65536 : Nat) : Int) * 2) = ((2 ^ (k + 1) % 65536 : Nat) : Int)) := wrap_dbl ⟨k, by omega⟩
        have hp16 : 2 ^ k ≤ 2 ^ 15 := Nat.pow_le_pow_right (by omega) (by omega)
        have hpk : 2 ^ k % 65536 = 2 ^ k := Nat.mod_eq_of_lt (by omega)
        have hmod : H m % 2 ^ k < 2 ^ k := Nat.mod_lt _ (Nat.two_pow_pos k)
        obtain ⟨s0, HS0⟩ : ∃ s0, Hid (H m % 2 ^ k = s0) := ⟨H m % 2 ^ k, Eq.refl (H m % 2 ^ k)⟩
        obtain ⟨b0, HB0⟩ : ∃ b0, Hid (2 ^ k % 65536 = b0) := ⟨2 ^ k % 65536, Eq.refl (2 ^ k % 65536)⟩
        rw [HS0.out] at HM hmod
        rw [hpk] at HB0
        have hb0 := HB0.out
        rw [hb0] at HM hmod hp16
        have HPK : Hid (2 ^ k % 65536 = b0) := by show _ = _; rw [hpk, hb0]
        rw [HPK.out] at HW
        have hs0 := HS0.out
        rw [hs0, HPK.out]
        clear hpk hb0 hs0
        cases hbit : (H m).testBit k with
        | false =>
          rw [hbit] at hhk HM
          have HE : Hid (∀ x, x < k + 1 → (H m).testBit x = true → H x = H m) := fun x hx hb => by
            by_cases e : x = k
            · rw [e, hbit] at hb; cases hb
            · exact HA.out x (by omega) hb
          have HM2 : Hid (H m % 2 ^ (k + 1) = s0) := by show _ = _; rw [HM.out]; simp
          clear hbit HA HM
          go_wp2_with fail
          refine hhk.mono ?_
          rintro e w1 ⟨rfl, rfl⟩
          go_wp2
          go_round
          case rel => exact ⟨k + 1, by omega, by go_num, by rw [HM2.out], by rw [← HW.out], HE.out⟩
          case measure => simp [intOf]; omega
        | true =>
          rw [hbit] at hhk HM
          have HM2 : Hid (H m % 2 ^ (k + 1) = s0 + b0) := by show _ = _; rw [HM.out]; simp
          have HBIT : Hid ((H m).testBit k = true) := hbit
          have hadd : (s0 : Int) + (b0 : Int) < 65536 := by omega
          clear hbit HM
          go_wp2_with fail
          refine hhk.mono ?_
          rintro e w1 ⟨rfl, rfl⟩
          go_wp2_with fail
          go_loop [8] (fun jv => ∃ j : Nat, j ≤ N ∧ jv = .int .i64 (j : Nat) ∧ ∀ x, x < j → (H m).testBit x = (H k).testBit x) (fun jv => N - (intOf jv).toNat)
          case atStart => exact ⟨0, by omega, rfl, by omega⟩
          case round =>
            obtain ⟨j, hj, rfl, hsame⟩ := hrel
            have HSA : Hid (∀ x, x < j → (H m).testBit x = (H k).testBit x) := hsame
            clear hsame
            by_cases hlt2 : j < N
            · have hlt2I : (j : Int) < N := by omega
              have hh1 := hhe (m : Int) (j : Int)
              have hh2 := hhe (k : Int) (j : Int)
              rw [nat_hears h16 hm hlt2] at hh1
              rw [nat_hears h16 hlt hlt2] at hh2
              obtain ⟨x1, HX1⟩ : ∃ x1, Hid ((H m).testBit j = x1) := ⟨_, Eq.refl _⟩
              obtain ⟨x2, HX2⟩ : ∃ x2, Hid ((H k).testBit j = x2) := ⟨_, Eq.refl _⟩
              rw [HX1.out] at hh1
              rw [HX2.out] at hh2
              by_cases he : x1 = x2
              · subst he
                have HE : Hid (∀ x, x < j + 1 → (H m).testBit x = (H k).testBit x) := fun x hx => by
                  by_cases e : x = j
                  · rw [e, HX1.out, HX2.out]
                  · exact HSA.out x (by omega)
                cases x1
                all_goals
                  go_wp2_with fail
                  refine hh1.mono ?_
                  rintro e w1 ⟨rfl, rfl⟩
                  go_wp2_with fail
                  refine hh2.mono ?_
                  rintro e w1 ⟨rfl, rfl⟩
                  go_wp2
                  go_round
                  case rel => exact ⟨j + 1, by omega, by go_num, HE.out⟩
                  case measure => simp [intOf]; omega
              · have HZ : Hid (classS H (H m) = 0) := by
                  unfold Hid classS
                  rw [if_neg]
                  intro hall
                  have hk' : k ∈ nodes (H m) 16 := by
                    unfold nodes
                    simp
                    exact ⟨by omega, HBIT.out⟩
                  have := hall k hk'
                  exact he (by rw [← HX1.out, ← HX2.out, this])
                have hcs : (x1 = true ∧ x2 = false) ∨ (x1 = false ∧ x2 = true) := by cases x1 <;> cases x2 <;> simp_all
                clear he
                rcases hcs with ⟨rfl, rfl⟩ | ⟨rfl, rfl⟩
                all_goals
                  go_wp2_with fail
                  refine hh1.mono ?_
                  rintro e w1 ⟨rfl, rfl⟩
                  go_wp2_with fail
                  refine hh2.mono ?_
                  rintro e w1 ⟨rfl, rfl⟩
                  go_wp2
                  go_ret
                  exact ⟨ret_int (by rw [HC.out, HZ.out]; rfl), rfl⟩
            · obtain rfl : j = N := by omega
              have hkm : H k = H m := bits_eq ((HR.out k hlt).1) HB.out (fun x hx => (HSA.out x hx).symm)
              have HE : Hid (∀ x, x < k + 1 → (H m).testBit x = true → H x = H m) := fun x hx hb => by
                by_cases e : x = k
                · rw [e]; exact hkm
                · exact HA.out x (by omega) hb
              clear hkm
              go_wp2
              go_round
              case rel => exact ⟨k + 1, by omega, by go_num, by rw [HM2.out]; simp, by rw [← HW.out], HE.out⟩
              case measure => simp [intOf]; omega
      · obtain rfl : k = N := by omega
        have HZ : Hid ((H m : Int) % 2 ^ k = (H m : Int)) := by
          show _ = _
          have e2 : ((2 : Int) ^ k) = ((2 ^ k : Nat) : Int) := by simp
          have := HB.out
          rw [e2]
          exact Int.emod_eq_of_lt (by omega) (by omega)
        have HCS : Hid (classS H (H m) = H m) := by
          unfold Hid classS
          rw [if_pos]
          intro x hx
          unfold nodes at hx
          simp at hx
          by_cases hxk : x < k
          · exact HA.out x hxk hx.2
          · have := Nat.testBit_lt_two_pow (i := x) (Nat.lt_of_lt_of_le HB.out (Nat.pow_le_pow_right (by omega) (by omega)))
            rw [this] at hx
            cases hx.2
        go_wp2
        go_ret
        exact ⟨ret_int (by rw [HC.out, HCS.out, HZ.out]), rfl⟩
  · have e1 : isNode N i = false := by unfold isNode; simpa using hN
    have HC : Hid (classN N H i = 0) := by unfold Hid classN; rw [e1]; rfl
    rw [e1] at hn
    clear e1
    go_enter Try.func19, Try.ntmps19
    go_wp2_with fail
    refine hn.mono ?_
    rintro e w1 ⟨rfl, rfl⟩
    go_wp2
    go_ret
    exact ⟨ret_int (by rw [HC.out]; rfl), rfl⟩
end
end Go.Proofs.Ytagabmhgcmnldaa
