/-
  Proved: for every set s and every number n, IdentHalves(s, n) returns true: of a set and all that isn't in it at most one has most of the nodes; the document's examples hold. No condition.
-/
import Derived.Test.YtlahdemhigcjnaaRows
import Derived.Test.YtlahdemhigcjnaaIArgs
namespace Go.Proofs.Ytlahdemhigcjnaa.identHalves
open Go.ChangeShapes Go.WideShapes Go.ChangeAt Go.RowKit
open Go.ChangeMaps (open_string shut_string)
set_option linter.unusedVariables false

theorem halves (s k : Nat) (hs : s < 65536) (hk : k ≤ 16) : cntF 16 (s &&& (2 ^ k - 1)) + cntF 16 ((2 ^ k - 1) &&& (65535 - s)) = k := by
  obtain ⟨h1, h2⟩ := not_bits s k hs hk
  have := cntF_disj 16 _ _ h1
  rw [h2, cntF_ones 16 k hk] at this
  omega

set_option maxRecDepth 10000 in
set_option maxHeartbeats 1000000 in
theorem walk (w : World) (s : Nat) (hs : s < 65536) (n : Nat) (hn : n < 256) :
    Calls Try.prog 6 #[.int .u16 (s : Nat), .int .u8 (n : Nat)] w fun e w' => e = .returned (.bool true) ∧ Below w.heap.size w w' := by
  obtain ⟨k, HK⟩ : ∃ k : Nat, Hid (k = 1 + n % 16) := ⟨_, rfl⟩
  have hk1 : 1 ≤ k := by have := HK.out; omega
  have hk2 : k ≤ 16 := by have := HK.out; omega
  have ek : (1 : Int) + (n : Int) % 16 = (k : Int) := by have := HK.out; omega
  have eall := all_bits ⟨k, by omega⟩ hk1
  simp only at eall
  have hA := all_lt k hk2
  have hhalf := halves s k hs hk2
  obtain ⟨A, HA⟩ : ∃ A : Nat, Hid (2 ^ k - 1 = A) := ⟨_, rfl⟩
  rw [HA.out] at eall hA hhalf
  have e1 := u16_and_nat s A hs hA
  have e2 := u16_andNot_nat A s hA hs
  have m1 := fun W => most_any W (s &&& A) (Nat.and_lt_two_pow (n := 16) s hA) (k : Int)
  have m2 := fun W => most_any W (A &&& (65535 - s)) (Nat.and_lt_two_pow (n := 16) _ (by omega)) (k : Int)
  have m3 := fun W => count_any W (s &&& A) (Nat.and_lt_two_pow (n := 16) s hA)
  have m4 := fun W => count_any W (A &&& (65535 - s)) (Nat.and_lt_two_pow (n := 16) _ (by omega))
  have b1 : mostN (s &&& A) k = decide ((k : Int) < 2 * (cntF 16 (s &&& A) : Nat)) := by
    unfold mostN; rw [show decide (1 ≤ (k : Int)) = true by simp; omega, show decide ((k : Int) ≤ 16) = true by simp; omega]; simp
  have b2 : mostN (A &&& (65535 - s)) k = decide ((k : Int) < 2 * (cntF 16 (A &&& (65535 - s)) : Nat)) := by
    unfold mostN; rw [show decide (1 ≤ (k : Int)) = true by simp; omega, show decide ((k : Int) ≤ 16) = true by simp; omega]; simp
  simp only [b1] at m1
  simp only [b2] at m2
  clear b1 b2 HK HA
  generalize s &&& A = x at *
  generalize A &&& (65535 - s) = y at *
  generalize cntF 16 x = c1 at *
  generalize cntF 16 y = c2 at *
  have hcase : ((k : Int) < 2 * c1 ∧ ¬ ((k : Int) < 2 * c2)) ∨ (¬ ((k : Int) < 2 * c1) ∧ ((k : Int) < 2 * c2)) ∨ (¬ ((k : Int) < 2 * c1) ∧ ¬ ((k : Int) < 2 * c2) ∧ (k : Int) % 2 = 0) := by omega
  have hsum : (((c1 : Int) + c2) == (k : Int)) = true := by simp; omega
  have hc1 : c1 ≤ 16 := by omega
  have hc2 : c2 ≤ 16 := by omega
  clear hhalf
  rcases hcase with ⟨h1, h2⟩ | ⟨h1, h2⟩ | ⟨h1, h2, h3⟩
  all_goals
    simp only [h1, h2, decide_true, decide_false] at m1 m2
    clear h1 h2
    go_enter Try.func6, Try.ntmps6
    go_wp2_with fail
    refine (awake_any _).mono ?_
    rintro e w2 ⟨rfl, hb2⟩
    go_wp2_with fail
    refine (m1 _).mono ?_
    rintro e w1 ⟨rfl, q1, rfl⟩
    go_wp2_with fail
    refine (m2 _).mono ?_
    rintro e w1 ⟨rfl, q2, rfl⟩
    go_wp2_with fail
    refine (m3 _).mono ?_
    rintro e w1 ⟨rfl, q3, rfl⟩
    go_wp2_with fail
    refine (m4 _).mono ?_
    rintro e w1 ⟨rfl, q4, rfl⟩
    go_wp2
    go_ret
    exact ⟨rfl, hb2.os, hb2.tape, hb2.output, hb2.size, hb2.block⟩

set_option maxRecDepth 100000 in
theorem lifted (os : Os) (started : os.Started) (H : Type) (enc : TypeId × Value → H) :
    ReturnsInHanded {} Try.checked os 6 .any (Rows.identHalvesSpec.pre6 enc Try.prog Try.f6 Rows.identHalvesRow.domain false) (Rows.identHalvesSpec.post enc Try.prog Try.f6 false true false false) := by
  refine returnsInHanded_of_change (C := Try.checked) own started (by kernel_rfl) Try.func6
    (ChangeSpec.witness6 (enc := enc) (C := Try.checked) false ⟨#[], #[.int .u16 0, .int .u8 0], []⟩ 6 (by kernel_rfl) (by kernel_rfl) (by kernel_rfl) (by kernel_rfl)) ?_
  intro W base args ds gs before hval0 hW hcnd _
  have hval : ∀ (j : Nat) t v, Try.f6.params[j]? = some t → args[j]? = some v → Value.okWide Try.prog W .any base t v := hval0
  have hW' := hW
  obtain ⟨p, q, hA0, hV, rfl, hfz, hnd⟩ := hW
  have hA : DataW.TrodAll enc Try.prog W 0 (fun _ => true) true Try.f6.params.toList args.toList ds p := hA0
  rw [Try.params6] at hA hval
  obtain ⟨v0, vs0, d0, ds0, p0, q0, hargs0, rfl, rfl, h0, r0⟩ := trodAll_cons hA
  obtain ⟨v1, vs1, d1, ds1, p1, q1, hargs1, rfl, rfl, h1, r1⟩ := trodAll_cons r0
  obtain ⟨rfl, rfl, rfl⟩ := trodAll_nil r1
  obtain rfl : args = #[v0, v1] := by cases args; simp_all
  obtain ⟨rfl, rfl⟩ := trodVars_none hV
  obtain ⟨a0, rfl, rfl, rfl, w0⟩ := open_int Try.underlying22 (hval 0 22 v0 rfl rfl) h0
  obtain ⟨a1, rfl, rfl, rfl, w1⟩ := open_int Try.underlying5 (hval 1 5 v1 rfl rfl) h1
  clear hA0 hval0
  obtain ⟨n0, rfl, hn0⟩ := u16_of_wf w0
  obtain ⟨n1, rfl, hn1⟩ := u8_of_wf w1
  refine (walk W n0 hn0 n1 hn1).mono fun e W' ⟨he, bel⟩ => ?_
  subst he
  exact ⟨_, rfl, _, _, _, [], _, [], hW', trodAll_mk1 (shut_bool Try.underlying4 _), (trodAll_cons_mk (shut_int Try.underlying22 w0) (trodAll_cons_mk (shut_int Try.underlying5 w1) trodAll_mk0)), rfl, bel.frame _, fun h => by cases h⟩

theorem over : Rows.identHalvesRow.holds Try.pinned (OpenSpec.ofChange Rows.identHalvesSpec) :=
  OpenClaim.holds_of_wide 6 Try.f6 rfl rfl rfl rfl rfl rfl rfl ⟨rfl, rfl, rfl, rfl, rfl⟩ rfl rfl rfl rfl rfl (by kernel_rfl) Try.func6 (by kernel_rfl)
    (of_decide_eq_true (by kernel_rfl)) (by unfold Func.isWrapper; first | (rw [if_pos (by decide +kernel)]; kernel_rfl) | (rw [if_neg (by decide +kernel)]; exact ⟨rfl, rfl⟩))
    (fun os started H enc _ => lifted os started H enc)

end Go.Proofs.Ytlahdemhigcjnaa.identHalves
namespace Go.Proofs.Ytlahdemhigcjnaa
theorem identHalves_holds : Rows.IdentHalvesSaid := identHalves.over
#print axioms identHalves_holds
end Go.Proofs.Ytlahdemhigcjnaa
