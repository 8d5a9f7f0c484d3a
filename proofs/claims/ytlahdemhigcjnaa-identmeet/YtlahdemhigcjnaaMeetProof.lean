/-
  Proved: for all sets a and b and every number n, IdentMeet(a, b, n) returns true: two sets of which each has most of the nodes have one together; the document's examples hold. No condition.
-/
import Derived.Test.YtlahdemhigcjnaaRows
import Derived.Test.YtlahdemhigcjnaaIArgs
namespace Go.Proofs.Ytlahdemhigcjnaa.identMeet
open Go.ChangeShapes Go.WideShapes Go.ChangeAt Go.RowKit
open Go.ChangeMaps (open_string shut_string)
set_option linter.unusedVariables false

theorem meet (a b k : Nat) (hk : k ≤ 16) (h1 : mostN (a &&& (2 ^ k - 1)) k = true) (h2 : mostN (b &&& (2 ^ k - 1)) k = true) : 0 < cntF 16 ((a &&& b) &&& (2 ^ k - 1)) := by
  simp only [mostN, Bool.and_eq_true, decide_eq_true_eq] at h1 h2
  have h := cntF_and_or 16 (a &&& (2 ^ k - 1)) (b &&& (2 ^ k - 1))
  have hp : 2 ^ k - 1 < 2 ^ k := by have := Nat.two_pow_pos k; omega
  have hs := cntF_small 16 k ((a &&& (2 ^ k - 1)) ||| (b &&& (2 ^ k - 1))) (Nat.or_lt_two_pow (Nat.and_lt_two_pow a hp) (Nat.and_lt_two_pow b hp))
  have e : (a &&& (2 ^ k - 1)) &&& (b &&& (2 ^ k - 1)) = (a &&& b) &&& (2 ^ k - 1) := by
    apply Nat.eq_of_testBit_eq
    intro j
    simp only [Nat.testBit_and]
    cases a.testBit j <;> cases b.testBit j <;> cases (2 ^ k - 1).testBit j <;> rfl
  rw [e] at h
  omega

set_option maxRecDepth 10000 in
set_option maxHeartbeats 1000000 in
theorem walk (w : World) (a : Nat) (ha : a < 65536) (b : Nat) (hb : b < 65536) (n : Nat) (hn : n < 256) :
    Calls Try.prog 3 #[.int .u16 (a : Nat), .int .u16 (b : Nat), .int .u8 (n : Nat)] w fun e w' => e = .returned (.bool true) ∧ Below w.heap.size w w' := by
  obtain ⟨k, HK⟩ : ∃ k : Nat, Hid (k = 1 + n % 16) := ⟨_, rfl⟩
  have hk1 : 1 ≤ k := by have := HK.out; omega
  have hk2 : k ≤ 16 := by have := HK.out; omega
  have ek : (1 : Int) + (n : Int) % 16 = (k : Int) := by have := HK.out; omega
  have eall := all_bits ⟨k, by omega⟩ hk1
  simp only at eall
  have hA := all_lt k hk2
  have hmeet := meet a b k hk2
  obtain ⟨A, HA⟩ : ∃ A : Nat, Hid (2 ^ k - 1 = A) := ⟨_, rfl⟩
  rw [HA.out] at eall hA hmeet
  have e1 := u16_and_nat a A ha hA
  have e2 := u16_and_nat b A hb hA
  have e3 := u16_and_nat a b ha hb
  have hab : a &&& b < 65536 := Nat.and_lt_two_pow (n := 16) a hb
  have e4 := u16_and_nat (a &&& b) A hab hA
  have m1 := fun W => most_any W (a &&& A) (Nat.and_lt_two_pow (n := 16) a hA) (k : Int)
  have m2 := fun W => most_any W (b &&& A) (Nat.and_lt_two_pow (n := 16) b hA) (k : Int)
  have m3 := fun W => count_any W ((a &&& b) &&& A) (Nat.and_lt_two_pow (n := 16) _ hA)
  have HM : Hid (mostN (a &&& A) k = true → mostN (b &&& A) k = true → 0 < cntF 16 ((a &&& b) &&& A)) := hmeet
  have hl := cntF_le 16 ((a &&& b) &&& A)
  generalize a &&& A = x at *
  generalize b &&& A = y at *
  generalize a &&& b = ab at *
  generalize ab &&& A = z at *
  clear hmeet HK HA
  cases h1 : mostN x k with
  | false =>
    rw [h1] at m1
    go_enter Try.func3, Try.ntmps3
    go_wp2_with fail
    refine (m1 _).mono ?_
    rintro e w1 ⟨rfl, q1, rfl⟩
    go_wp2_with fail
    refine (awake_any _).mono ?_
    rintro e w2 ⟨rfl, hb2⟩
    go_wp2
    go_ret
    exact ⟨rfl, hb2.os, hb2.tape, hb2.output, hb2.size, hb2.block⟩
  | true =>
    rw [h1] at m1
    cases h2 : mostN y k with
    | false =>
      rw [h2] at m2
      go_enter Try.func3, Try.ntmps3
      go_wp2_with fail
      refine (m1 _).mono ?_
      rintro e w1 ⟨rfl, q1, rfl⟩
      go_wp2_with fail
      refine (m2 _).mono ?_
      rintro e w1 ⟨rfl, q2, rfl⟩
      go_wp2_with fail
      refine (awake_any _).mono ?_
      rintro e w2 ⟨rfl, hb2⟩
      go_wp2
      go_ret
      exact ⟨rfl, hb2.os, hb2.tape, hb2.output, hb2.size, hb2.block⟩
    | true =>
      rw [h2] at m2
      have hz := HM.out h1 h2
      generalize cntF 16 z = c at *
      have hzI : (0 : Int) < c := by omega
      clear HM h1 h2
      go_enter Try.func3, Try.ntmps3
      go_wp2_with fail
      refine (m1 _).mono ?_
      rintro e w1 ⟨rfl, q1, rfl⟩
      go_wp2_with fail
      refine (m2 _).mono ?_
      rintro e w1 ⟨rfl, q2, rfl⟩
      go_wp2_with fail
      refine (awake_any _).mono ?_
      rintro e w2 ⟨rfl, hb2⟩
      go_wp2_with fail
      refine (m3 _).mono ?_
      rintro e w3 ⟨rfl, q3, rfl⟩
      go_wp2
      go_ret
      exact ⟨ret_bool (by simp), hb2.os, hb2.tape, hb2.output, hb2.size, hb2.block⟩

set_option maxRecDepth 100000 in
theorem lifted (os : Os) (started : os.Started) (H : Type) (enc : TypeId × Value → H) :
    ReturnsInHanded {} Try.checked os 3 .any (Rows.identMeetSpec.pre6 enc Try.prog Try.f3 Rows.identMeetRow.domain false) (Rows.identMeetSpec.post enc Try.prog Try.f3 false true false false) := by
  refine returnsInHanded_of_change (C := Try.checked) own started (by kernel_rfl) Try.func3
    (ChangeSpec.witness6 (enc := enc) (C := Try.checked) false ⟨#[], #[.int .u16 0, .int .u16 0, .int .u8 0], []⟩ 3 (by kernel_rfl) (by kernel_rfl) (by kernel_rfl) (by kernel_rfl)) ?_
  intro W base args ds gs before hval0 hW hcnd _
  have hval : ∀ (j : Nat) t v, Try.f3.params[j]? = some t → args[j]? = some v → Value.okWide Try.prog W .any base t v := hval0
  have hW' := hW
  obtain ⟨p, q, hA0, hV, rfl, hfz, hnd⟩ := hW
  have hA : DataW.TrodAll enc Try.prog W 0 (fun _ => true) true Try.f3.params.toList args.toList ds p := hA0
  rw [Try.params3] at hA hval
  obtain ⟨v0, vs0, d0, ds0, p0, q0, hargs0, rfl, rfl, h0, r0⟩ := trodAll_cons hA
  obtain ⟨v1, vs1, d1, ds1, p1, q1, hargs1, rfl, rfl, h1, r1⟩ := trodAll_cons r0
  obtain ⟨v2, vs2, d2, ds2, p2, q2, hargs2, rfl, rfl, h2, r2⟩ := trodAll_cons r1
  obtain ⟨rfl, rfl, rfl⟩ := trodAll_nil r2
  obtain rfl : args = #[v0, v1, v2] := by cases args; simp_all
  obtain ⟨rfl, rfl⟩ := trodVars_none hV
  obtain ⟨a0, rfl, rfl, rfl, w0⟩ := open_int Try.underlying22 (hval 0 22 v0 rfl rfl) h0
  obtain ⟨a1, rfl, rfl, rfl, w1⟩ := open_int Try.underlying22 (hval 1 22 v1 rfl rfl) h1
  obtain ⟨a2, rfl, rfl, rfl, w2⟩ := open_int Try.underlying5 (hval 2 5 v2 rfl rfl) h2
  clear hA0 hval0
  obtain ⟨n0, rfl, hn0⟩ := u16_of_wf w0
  obtain ⟨n1, rfl, hn1⟩ := u16_of_wf w1
  obtain ⟨n2, rfl, hn2⟩ := u8_of_wf w2
  refine (walk W n0 hn0 n1 hn1 n2 hn2).mono fun e W' ⟨he, bel⟩ => ?_
  subst he
  exact ⟨_, rfl, _, _, _, [], _, [], hW', trodAll_mk1 (shut_bool Try.underlying4 _), (trodAll_cons_mk (shut_int Try.underlying22 w0) (trodAll_cons_mk (shut_int Try.underlying22 w1) (trodAll_cons_mk (shut_int Try.underlying5 w2) trodAll_mk0))), rfl, bel.frame _, fun h => by cases h⟩

theorem over : Rows.identMeetRow.holds Try.pinned (OpenSpec.ofChange Rows.identMeetSpec) :=
  OpenClaim.holds_of_wide 3 Try.f3 rfl rfl rfl rfl rfl rfl rfl ⟨rfl, rfl, rfl, rfl, rfl⟩ rfl rfl rfl rfl rfl (by kernel_rfl) Try.func3 (by kernel_rfl)
    (of_decide_eq_true (by kernel_rfl)) (by unfold Func.isWrapper; first | (rw [if_pos (by decide +kernel)]; kernel_rfl) | (rw [if_neg (by decide +kernel)]; exact ⟨rfl, rfl⟩))
    (fun os started H enc _ => lifted os started H enc)

end Go.Proofs.Ytlahdemhigcjnaa.identMeet
namespace Go.Proofs.Ytlahdemhigcjnaa
theorem identMeet_holds : Rows.IdentMeetSaid := identMeet.over
#print axioms identMeet_holds
end Go.Proofs.Ytlahdemhigcjnaa
