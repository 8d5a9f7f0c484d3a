/-
  The walk of IdentBuilt: a set built up of its list, and taken away.
-/
import Derived.Test.YtlahdemhigcjnaaDoorDWalks
namespace Go.Proofs.YtlahdemhigcjnaaDoor
open Go.RowKit
set_option linter.unusedVariables false

/-- Was a node met in the first i rounds? -/
def met (l : List Nat) (t : Nat) : Nat → Nat → Bool
  | 0, _ => false
  | i + 1, x => met l t i x || decide (l[(i + t) % l.length]? = some x)
theorem met_iff (l : List Nat) (t x : Nat) : ∀ i, met l t i x = true ↔ ∃ j, j < i ∧ l[(j + t) % l.length]? = some x
  | 0 => by simp [met]
  | i + 1 => by
    rw [met, Bool.or_eq_true, met_iff l t x i, decide_eq_true_eq]
    constructor
    · rintro (⟨j, hj, h⟩ | h)
      · exact ⟨j, by omega, h⟩
      · exact ⟨i, by omega, h⟩
    · rintro ⟨j, hj, h⟩
      by_cases e : j = i
      · subst e; exact .inr h
      · exact .inl ⟨j, by omega, h⟩
theorem met_all (s t x : Nat) (hs : s < 65536) : met (nodes s 16) t (nodes s 16).length x = s.testBit x := by
  have hmem : x ∈ nodes s 16 ↔ s.testBit x = true := by
    unfold nodes
    rw [List.mem_filter, List.mem_range]
    constructor
    · exact fun h => h.2
    · intro h
      refine ⟨?_, h⟩
      rcases Nat.lt_or_ge x 16 with h1 | h1
      · exact h1
      · have h2 := Nat.ge_two_pow_of_testBit h
        have h3 := Nat.pow_le_pow_right (show 0 < 2 by omega) h1
        omega
  rw [Bool.eq_iff_iff, met_iff, ← hmem]
  constructor
  · rintro ⟨j, hj, h⟩
    exact List.mem_of_getElem? h
  · intro h
    obtain ⟨m, hm, he⟩ := List.getElem_of_mem h
    have hc : 0 < (nodes s 16).length := by omega
    refine ⟨(m + ((nodes s 16).length - t % (nodes s 16).length)) % (nodes s 16).length, Nat.mod_lt _ hc, ?_⟩
    have hmod : ((m + ((nodes s 16).length - t % (nodes s 16).length)) % (nodes s 16).length + t) % (nodes s 16).length = m := by
      rw [Nat.mod_add_mod]
      have h1 := Nat.mod_lt t hc
      have h2 := Nat.mod_add_div t (nodes s 16).length
      rw [show m + ((nodes s 16).length - t % (nodes s 16).length) + t = m + (nodes s 16).length * (t / (nodes s 16).length + 1) by rw [Nat.mul_add]; omega, Nat.add_mul_mod_self_left, Nat.mod_eq_of_lt hm]
    rw [hmod, List.getElem?_eq_getElem hm, he]

theorem with_bit (a k x : Nat) (hk : k < 16) : (withN a (k : Int)).testBit x = (a.testBit x || decide (k = x)) := by
  unfold withN onlyN
  rw [if_pos (by omega), Int.toNat_natCast, Nat.testBit_or, Nat.testBit_two_pow]
theorem without_bit (a k x : Nat) (ha : a < 65536) (hk : k < 16) : (withoutN a (k : Int)).testBit x = (a.testBit x && !decide (k = x)) := by
  have hp : 2 ^ k ≤ 32768 := by have := Nat.pow_le_pow_right (show 0 < 2 by omega) (show k ≤ 15 by omega); omega
  unfold withoutN onlyN
  rw [if_pos (by omega), Int.toNat_natCast, Nat.testBit_and, show 65535 - 2 ^ k = 2 ^ 16 - (2 ^ k + 1) by omega, Nat.testBit_two_pow_sub_succ (by omega), Nat.testBit_two_pow]
  by_cases hx : x < 16
  · simp [hx]
  · have : a.testBit x = false := Nat.testBit_lt_two_pow (Nat.lt_of_lt_of_le ha (by have := Nat.pow_le_pow_right (show 0 < 2 by omega) (show 16 ≤ x by omega); omega))
    simp [this]
theorem nodes_lt (s j x : Nat) (h : (nodes s 16)[j]? = some x) : x < 16 := by
  have := List.mem_of_getElem? h
  unfold nodes at this
  rw [List.mem_filter, List.mem_range] at this
  exact this.1

set_option maxRecDepth 10000 in
set_option maxHeartbeats 4000000 in
theorem built_walk (w : World) (s : Nat) (hs : s < 65536) (t : Nat) (ht : t < 256) :
    Calls Tryd.prog 4 #[.int .u16 (s : Nat), .int .u8 (t : Nat)] w fun e w' => e = .returned (.bool true) ∧ Below w.heap.size w w' := by
  have hcl := cntF_le 16 s
  go_enter Tryd.func4, Tryd.ntmps4
  go_wp2_with fail
  refine (awake_any _).mono ?_
  rintro e w1 ⟨rfl, hb1⟩
  go_wp2_with fail
  refine (list_any _ s hs).mono ?_
  rintro e w2 ⟨v1, rfl, hr1, hb2⟩
  have l1 := lc_of_row hr1
  have bl2 := bl_step hb1 hb2
  clear hr1 hb1 hb2
  obtain ⟨c, Hc⟩ : ∃ c, Hid (cntF 16 s = c) := ⟨_, rfl⟩
  have ec := Hc.out
  simp only [ec] at l1 hcl
  clear ec
  obtain ⟨hlen, ao1, cap1, rfl, hc1⟩ := l1
  have H1 : Hid (∀ j x, (nodes s 16)[j]? = some x → ∃ g, ao1 = some ⟨g, 0, none⟩ ∧ w2.cell? ⟨g, j, none⟩ = some (.int .i64 (x : Nat))) := hc1
  have HLEN : Hid ((nodes s 16).length = c) := hlen
  clear hc1 hlen
  go_wp2_with fail
  go_loop [6, 7, 8] (fun av bv iv => ∃ k a b : Nat, k ≤ c ∧ a < 65536 ∧ b < 65536 ∧ iv = .int .i64 k ∧ av = .int .u16 (a : Nat) ∧ bv = .int .u16 (b : Nat) ∧ (∀ x, a.testBit x = met (nodes s 16) t k x) ∧ (∀ x, b.testBit x = (s.testBit x && !met (nodes s 16) t k x))) (fun _ _ iv => c - (intOf iv).toNat)
  case atStart => exact ⟨0, 0, s, by omega, by omega, hs, rfl, rfl, rfl, fun x => by simp [met], fun x => by simp [met]⟩
  case round =>
    obtain ⟨k, a, b, hk, ha, hb, rfl, rfl, rfl, hta, htb⟩ := hrel
    have HA : Hid (∀ x, a.testBit x = met (nodes s 16) t k x) := hta
    have HB : Hid (∀ x, b.testBit x = (s.testBit x && !met (nodes s 16) t k x)) := htb
    clear hta htb
    by_cases hlt : k < c
    · have hltI : (k : Int) < c := by omega
      have hml := Nat.mod_lt (k + t) (show 0 < c by omega)
      obtain ⟨x, hx⟩ : ∃ x, (nodes s 16)[(k + t) % c]? = some x := ⟨_, List.getElem?_eq_getElem (by rw [HLEN.out]; exact hml)⟩
      obtain ⟨g1, rfl, d1⟩ := H1.out _ x hx
      have hx16 := nodes_lt s _ x hx
      have hei : ((k : Int) + (t : Int)) % (c : Int) = (((k + t) % c : Nat) : Int) := by simp
      have HX : Hid ((nodes s 16)[(k + t) % c]? = some x) := hx
      clear hx
      obtain ⟨ix, HI⟩ : ∃ ix, Hid ((k + t) % c = ix) := ⟨_, rfl⟩
      have ei := HI.out
      simp only [ei] at hml d1 hei
      clear ei
      have m1 := fun W => with_any W a ha (x : Int)
      have m2 := fun W => with_any W (withN a x) (withN_lt a ha x) (x : Int)
      have m3 := fun W => without_any W b hb (x : Int)
      have m4 := fun W => without_any W (withoutN b x) (withoutN_lt b hb x) (x : Int)
      have HE : Hid (withN (withN a x) x < 65536 ∧ withoutN (withoutN b x) x < 65536 ∧ (∀ y, (withN (withN a x) x).testBit y = met (nodes s 16) t (k + 1) y) ∧ (∀ y, (withoutN (withoutN b x) x).testBit y = (s.testBit y && !met (nodes s 16) t (k + 1) y))) := by
        refine ⟨withN_lt _ (withN_lt a ha x) x, withoutN_lt _ (withoutN_lt b hb x) x, fun y => ?_, fun y => ?_⟩
        · rw [with_bit _ _ _ hx16, with_bit _ _ _ hx16, HA.out y, met, HLEN.out, HX.out]
          by_cases e : x = y
          · simp [e]
          · simp [e]
        · rw [without_bit _ _ _ (withoutN_lt b hb x) hx16, without_bit _ _ _ hb hx16, HB.out y, met, HLEN.out, HX.out]
          by_cases e : x = y
          · simp [e]
          · simp [e]
      generalize withN a x = a1 at *
      generalize withN a1 x = a2 at *
      generalize withoutN b x = b1 at *
      generalize withoutN b1 x = b2 at *
      go_wp2_with fail
      refine (m1 _).mono ?_
      rintro e w5 ⟨rfl, rfl⟩
      go_wp2_with fail
      refine (m2 _).mono ?_
      rintro e w5 ⟨rfl, rfl⟩
      go_wp2_with fail
      refine (m3 _).mono ?_
      rintro e w5 ⟨rfl, rfl⟩
      go_wp2_with fail
      refine (m4 _).mono ?_
      rintro e w5 ⟨rfl, rfl⟩
      go_wp2
      go_round
      case rel => exact ⟨k + 1, a2, b2, by omega, HE.out.1, HE.out.2.1, by go_num, rfl, rfl, HE.out.2.2.1, HE.out.2.2.2⟩
      case measure => simp [intOf]; omega
    · have hkc : k = (nodes s 16).length := by rw [HLEN.out]; omega
      have ea : a = s := Nat.eq_of_testBit_eq fun x => by rw [HA.out, hkc, met_all s t x hs]
      have eb : b = 0 := Nat.eq_of_testBit_eq fun x => by rw [HB.out, hkc, met_all s t x hs]; simp
      clear hkc HA HB H1 HLEN
      subst ea eb
      have hcnt := fun W => count_any W a hs
      simp only [Hc.out] at hcnt
      clear Hc
      go_wp2_with fail
      refine (hcnt _).mono ?_
      rintro e w5 ⟨rfl, q5, rfl⟩
      go_wp2_with fail
      refine (least_zero _).mono ?_
      rintro e w6 ⟨rfl, rfl⟩
      have bl3 := bl_drewN bl2 q5
      clear bl2 hcnt
      go_wp2
      go_ret
      exact ⟨rfl, bl3⟩
end Go.Proofs.YtlahdemhigcjnaaDoor
