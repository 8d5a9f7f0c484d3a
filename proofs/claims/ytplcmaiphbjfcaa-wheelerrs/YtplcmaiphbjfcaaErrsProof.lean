/-
  Proved: for every number id and every number in, WheelErrs(id, in) returns true: a nil wheel has no timer and no tick; at the last tick no timer is armed and no tick comes; the document's example holds. No condition.
-/
import Derived.Test.YtplcmaiphbjfcaaRows
import Derived.Test.YtplcmaiphbjfcaaWArgs
import Derived.ProofKit
import Derived.OpenShut
import Derived.ShutString
import Derived.ChangeOld
import Derived.Below
namespace Go.Proofs.Ytplcmaiphbjfcaa.wheelErrs
open Go.ChangeShapes Go.WideShapes Go.ChangeAt Go.RowKit
open Go.ChangeMaps (open_string shut_string)
set_option linter.unusedVariables false

theorem own : ownKnob Try.prog.godebug = none := by kernel_rfl

theorem new_last (w : World) : Calls Try.prog 11 #[.int .u64 1152921504606846976] w fun e w' => ∃ p m V, e = .returned (.tuple #[.pointer (some ⟨p, 0, none⟩), .int .i64 0]) ∧ Wh w' p m V 1152921504606846976 0 [] ∧ Fresh w w' p m V :=
  (new_any w 1152921504606846976 (by omega)).mono fun e w' ⟨p, m, V, he, h1, h2, h3⟩ => ⟨p, m, V, he, h1, h2, h3⟩
theorem now_last {w : World} {p m : Nat} {V : Nat → Value} {arms : Nat} {A : List (Int × Nat)} (h : Wh w p m V 1152921504606846976 arms A) : Calls Try.prog 21 #[.pointer (some ⟨p, 0, none⟩)] w fun e w' => e = .returned (.int .u64 1152921504606846976) ∧ w = w' :=
  now_any w p m V _ arms A h

set_option maxRecDepth 20000 in
set_option maxHeartbeats 1000000 in
theorem walk (a0 : Int) (h0 : In a0) (a1 : Nat) (h1 : a1 < 18446744073709551616) (w : World) :
    Calls Try.prog 6 #[.int .i64 a0, .int .u64 (a1 : Nat)] w fun e w' => e = .returned (.bool true) ∧ Below w.heap.size w w' := by
  go_enter Try.func6, Try.ntmps6
  go_wp2_with fail
  refine (awake_any _).mono ?_
  rintro e w1 ⟨rfl, t1⟩
  go_wp2_with fail
  refine (due_nil _ _).mono ?_
  rintro e w' ⟨rfl, rfl⟩
  go_wp2_with fail
  refine (tick_nil _).mono ?_
  rintro e w' ⟨rfl, o2, rfl⟩
  go_wp2_with fail
  refine (arm_nil _ _ _).mono ?_
  rintro e w' ⟨rfl, rfl⟩
  go_wp2_with fail
  refine (cancel_nil _ _).mono ?_
  rintro e w' ⟨rfl, rfl⟩
  go_wp2_with fail
  refine (now_nil _).mono ?_
  rintro e w' ⟨rfl, rfl⟩
  go_wp2_with fail
  refine (len_nil _).mono ?_
  rintro e w' ⟨rfl, rfl⟩
  go_wp2_with fail
  refine (new_last _).mono ?_
  rintro e w3 ⟨p, m, V3, rfl, k3, f3⟩
  go_wp2_with fail
  refine (tick_last_wh _ p m V3 0 [] k3).mono ?_
  rintro e w' ⟨rfl, o4, rfl⟩
  have k4 := k3.alloc o4
  go_wp2_with fail
  refine (arm_err _ p m V3 1152921504606846976 0 [] k4 a0 a1 h1 (by omega)).mono ?_
  rintro e w' ⟨rfl, rfl⟩
  go_wp2_with fail
  refine (cancel_any _ p m V3 1152921504606846976 0 [] k4 (by omega) a0 h0).mono ?_
  rintro e w5 ⟨rfl, V5, k5, g5⟩
  simp only [List.lookup, errOf]
  go_wp2_with fail
  refine (now_last k5).mono ?_
  rintro e w' ⟨rfl, rfl⟩
  have HT : Hid (Below w.heap.size w w5) := by
    have f5 := (f3.goes (Goes.alloc p m V3 w3 o4)).goes g5
    exact ((t1.alloc o2).trans f5.turned (fun i hi => .inl hi)).below (Nat.le_refl _) (fun i hi => hi.elim)
  clear k5 k4 k3 f3 g5
  go_wp2_with fail
  go_ret
  exact ⟨rfl, HT.out⟩

set_option maxRecDepth 100000 in
theorem lifted (os : Os) (started : os.Started) (H : Type) (enc : TypeId × Value → H) :
    ReturnsInHanded {} Try.checked os 6 .any (Rows.wheelErrsSpec.pre6 enc Try.prog Try.f6 Rows.wheelErrsRow.domain false) (Rows.wheelErrsSpec.post enc Try.prog Try.f6 false true false false) := by
  refine returnsInHanded_of_change (C := Try.checked) own started (by kernel_rfl) Try.func6
    (ChangeSpec.witness6 (enc := enc) (C := Try.checked) false ⟨#[], #[.int .i64 0, .int .u64 0], []⟩ 6 (by kernel_rfl) (by kernel_rfl) (by kernel_rfl) (by kernel_rfl)) ?_
  intro W base args ds gs before hval0 hW hcnd _
  have hval : ∀ (j : Nat) t v, Try.f6.params[j]? = some t → args[j]? = some v → Value.okWide Try.prog W .any base t v := hval0
  have hW' := hW
  obtain ⟨p, q, hA0, hV, rfl, hfz, hnd⟩ := hW
  have hA : DataW.TrodAll enc Try.prog W 0 (fun _ => true) true Try.f6.params.toList args.toList ds p := hA0
  rw [Try.params6] at hA hval
  obtain ⟨v0, vs0, d0, ds0, p0, q0, hargs, rfl, rfl, h0, r0⟩ := trodAll_cons hA
  obtain ⟨v1, vs1, d1, ds1, p1, q1, hargs1, rfl, rfl, h1, r1⟩ := trodAll_cons r0
  obtain ⟨rfl, rfl, rfl⟩ := trodAll_nil r1
  obtain rfl : args = #[v0, v1] := by cases args; simp_all
  obtain ⟨rfl, rfl⟩ := trodVars_none hV
  obtain ⟨a0, rfl, rfl, rfl, w0⟩ := open_int Try.underlying3 (hval 0 3 v0 rfl rfl) h0
  obtain ⟨a1, rfl, rfl, rfl, w1⟩ := open_int Try.underlying22 (hval 1 22 v1 rfl rfl) h1
  clear hA0 hval0
  have hin : In a0 := in_of_wf w0
  obtain ⟨n1, rfl, hn1⟩ := u64_of_wf w1
  refine (walk a0 hin n1 hn1 W).mono fun e W' ⟨he, bel⟩ => ?_
  subst he
  exact ⟨_, rfl, _, _, _, [], _, [], hW', trodAll_mk1 (shut_bool Try.underlying4 _), (trodAll_cons_mk (shut_int Try.underlying3 w0) (trodAll_cons_mk (shut_int Try.underlying22 w1) trodAll_mk0)), rfl, bel.frame _, fun h => by cases h⟩

theorem over : Rows.wheelErrsRow.holds Try.pinned (OpenSpec.ofChange Rows.wheelErrsSpec) :=
  OpenClaim.holds_of_wide 6 Try.f6 rfl rfl rfl rfl rfl rfl rfl ⟨rfl, rfl, rfl, rfl, rfl⟩ rfl rfl rfl rfl rfl (by kernel_rfl) Try.func6 (by kernel_rfl)
    (of_decide_eq_true (by kernel_rfl)) (by unfold Func.isWrapper; first | (rw [if_pos (by decide +kernel)]; kernel_rfl) | (rw [if_neg (by decide +kernel)]; exact ⟨rfl, rfl⟩))
    (fun os started H enc _ => lifted os started H enc)

end Go.Proofs.Ytplcmaiphbjfcaa.wheelErrs
namespace Go.Proofs.Ytplcmaiphbjfcaa
theorem wheelErrs_holds : Rows.WheelErrsSaid := wheelErrs.over
#print axioms wheelErrs_holds
end Go.Proofs.Ytplcmaiphbjfcaa
