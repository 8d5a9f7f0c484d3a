/-
  Proved: for every tick now and all numbers in and more, WheelFar(now, in, more) returns true: a timer that is armed for any time not too far is due just then, and once; the document's example holds. No condition.
-/
import Derived.Test.YtplcmaiphbjfcaaRows
import Derived.Test.YtplcmaiphbjfcaaWArgs
import Derived.ProofKit
import Derived.OpenShut
import Derived.ShutString
import Derived.ChangeOld
import Derived.Below
namespace Go.Proofs.Ytplcmaiphbjfcaa.wheelFar
open Go.ChangeShapes Go.WideShapes Go.ChangeAt Go.RowKit
open Go.ChangeMaps (open_string shut_string)
set_option linter.unusedVariables false

theorem own : ownKnob Try.prog.godebug = none := by kernel_rfl

def far (now n k : Nat) : List (Int × Nat) := if k ≤ n then [(7, now + n)] else []
theorem far_due (now n k : Nat) (hk : 1 ≤ k) : dueAt (far now n k) (now + k) = if k = n then [7] else [] := by
  unfold far dueAt
  by_cases h : k ≤ n
  · rw [if_pos h]
    by_cases e : k = n
    · subst e; simp
    · rw [if_neg e, List.filter_cons_of_neg (by simp; omega)]; rfl
  · rw [if_neg h, if_neg (by omega)]; rfl
theorem far_left (now n k : Nat) (hk : 1 ≤ k) : leftAt (far now n k) (now + k) = far now n (k + 1) := by
  unfold far leftAt
  by_cases h : k ≤ n
  · rw [if_pos h]
    by_cases e : k = n
    · subst e; simp
    · rw [if_pos (by omega), List.filter_cons_of_pos (by simp; omega)]; rfl
  · rw [if_neg h, if_neg (by omega)]; rfl

set_option maxRecDepth 20000 in
set_option maxHeartbeats 1000000 in
theorem walk (now : Nat) (h0 : now < 18446744073709551616) (inn : Nat) (h1 : inn < 65536) (more : Nat) (h2 : more < 256) (w : World) :
    Calls Try.prog 4 #[.int .u64 (now : Nat), .int .u16 (inn : Nat), .int .u8 (more : Nat)] w fun e w' => e = .returned (.bool true) ∧ Below w.heap.size w w' := by
  by_cases hbig : 576460752303423488 < now
  · go_enter Try.func4, Try.ntmps4
    go_wp2_with fail
    refine (awake_any _).mono ?_
    rintro e w1 ⟨rfl, t1⟩
    go_wp2_with fail
    refine (awake_any _).mono ?_
    rintro e w2 ⟨rfl, t2⟩
    go_wp2_with fail
    go_ret
    exact ⟨rfl, (t1.trans t2 (fun i hi => .inl hi)).below (Nat.le_refl _) (fun i hi => hi.elim)⟩
  · have hnb : ¬ ((576460752303423488 : Int) < now) := by omega
    go_enter Try.func4, Try.ntmps4
    go_wp2_with fail
    refine (awake_any _).mono ?_
    rintro e w1 ⟨rfl, t1⟩
    go_wp2_with fail
    refine (new_any _ now (by omega)).mono ?_
    rintro e w2 ⟨p, m, V2, rfl, k2, t2, f2⟩
    go_wp2_with fail
    obtain ⟨n, hn⟩ : ∃ n : Nat, (1 + (inn : Int) % 5000) = n := ⟨1 + inn % 5000, by omega⟩
    have hn1 : 1 ≤ n := by omega
    have hn2 : n ≤ 5000 := by omega
    rw [hn]
    clear hn
    have fr2 : Fresh w1 w2 p m V2 := ⟨t2, f2⟩
    refine (arm_any w2 p m V2 now 0 [] k2 (by omega) 7 (In_small (by omega)) n (by omega) (by omega)).mono ?_
    rintro e w3 ⟨rfl, V3, k3, g3⟩
    have fr3 := fr2.goes g3
    have HK : Hid (∃ V', Wh w3 p m V' now 1 (far now n 1) ∧ Fresh w1 w3 p m V') := ⟨V3, by unfold far; rw [if_pos hn1]; exact k3, fr3⟩
    clear k2 k3 g3 fr2 fr3 t2 f2
    go_wp2_with fail
    go_loopw [10] (fun i wr => ∃ k V', 1 ≤ k ∧ k ≤ n + more + 1 ∧ i = .int .u64 (k : Nat) ∧ Wh wr p m V' (now + (k - 1)) 1 (far now n k) ∧ Fresh w1 wr p m V') (fun i _ => n + more + 1 - (intOf i).toNat)
    case atStart =>
      obtain ⟨V', a, b⟩ := HK.out
      exact ⟨1, V', by omega, by omega, rfl, a, b⟩
    case round =>
      obtain ⟨k, V', hk1, hk2, rfl, kk, ff⟩ := hrel
      by_cases hend : k = n + more + 1
      · have hl := len_any wr p m V' _ _ _ kk
        rw [show far now n k = [] by unfold far; rw [if_neg (by omega)]] at hl
        have HB : Hid (Below w.heap.size w wr) := (t1.trans ff.turned (fun i hi => .inl hi)).below (Nat.le_refl _) (fun i hi => hi.elim)
        clear kk ff
        go_wp2_with fail
        refine hl.mono ?_
        rintro e w' ⟨rfl, rfl⟩
        go_wp2_with fail
        go_ret
        exact ⟨rfl, HB.out⟩
      · have ht := tick_wh wr p m V' _ _ _ kk (by omega) (by omega)
        rw [show now + (k - 1) + 1 = now + k by omega, far_due _ _ _ hk1, far_left _ _ _ hk1] at ht
        have FF : Hid (Fresh w1 wr p m V') := ff
        clear kk ff
        by_cases hkn : k = n
        · rw [if_pos hkn] at ht
          go_wp2_with fail
          refine ht.mono ?_
          rintro e w4 ⟨v, V4, rfl, hrow, k4, g4, _⟩
          obtain ⟨ao, cap, rfl, hcap, hmax⟩ := row_shape hrow
          obtain ⟨g, rfl, hc⟩ := Ints.cell (row_base hrow (Nat.zero_le _)) (show 0 < [7].length by simp)
          have hc7 := hc 0 7 rfl
          have HE : Hid (Wh w4 p m V4 (now + k) 1 (far now n (k + 1)) ∧ Fresh w1 w4 p m V4) := ⟨k4, FF.out.goes g4⟩
          clear hrow k4 g4 hc
          simp only [List.length_cons, List.length_nil, Nat.zero_add] at hcap ⊢
          go_wp2_with fail
          go_roundw
          case rel => exact ⟨k + 1, V4, by omega, by omega, by go_num, HE.out.1, HE.out.2⟩
          case measure => simp [intOf]; omega
        · rw [if_neg hkn] at ht
          go_wp2_with fail
          refine ht.mono ?_
          rintro e w4 ⟨v, V4, rfl, hrow, k4, g4, _⟩
          obtain ⟨ao, cap, rfl, hcap, hmax⟩ := row_shape hrow
          have HE : Hid (Wh w4 p m V4 (now + k) 1 (far now n (k + 1)) ∧ Fresh w1 w4 p m V4) := ⟨k4, FF.out.goes g4⟩
          clear hrow k4 g4
          simp only [List.length_nil] at hcap ⊢
          go_wp2_with fail
          go_roundw
          case rel => exact ⟨k + 1, V4, by omega, by omega, by go_num, HE.out.1, HE.out.2⟩
          case measure => simp [intOf]; omega

set_option maxRecDepth 100000 in
theorem lifted (os : Os) (started : os.Started) (H : Type) (enc : TypeId × Value → H) :
    ReturnsInHanded {} Try.checked os 4 .any (Rows.wheelFarSpec.pre6 enc Try.prog Try.f4 Rows.wheelFarRow.domain false) (Rows.wheelFarSpec.post enc Try.prog Try.f4 false true false false) := by
  refine returnsInHanded_of_change (C := Try.checked) own started (by kernel_rfl) Try.func4
    (ChangeSpec.witness6 (enc := enc) (C := Try.checked) false ⟨#[], #[.int .u64 0, .int .u16 0, .int .u8 0], []⟩ 4 (by kernel_rfl) (by kernel_rfl) (by kernel_rfl) (by kernel_rfl)) ?_
  intro W base args ds gs before hval0 hW hcnd _
  have hval : ∀ (j : Nat) t v, Try.f4.params[j]? = some t → args[j]? = some v → Value.okWide Try.prog W .any base t v := hval0
  have hW' := hW
  obtain ⟨p, q, hA0, hV, rfl, hfz, hnd⟩ := hW
  have hA : DataW.TrodAll enc Try.prog W 0 (fun _ => true) true Try.f4.params.toList args.toList ds p := hA0
  rw [Try.params4] at hA hval
  obtain ⟨v0, vs0, d0, ds0, p0, q0, hargs0, rfl, rfl, h0, r0⟩ := trodAll_cons hA
  obtain ⟨v1, vs1, d1, ds1, p1, q1, hargs1, rfl, rfl, h1, r1⟩ := trodAll_cons r0
  obtain ⟨v2, vs2, d2, ds2, p2, q2, hargs2, rfl, rfl, h2, r2⟩ := trodAll_cons r1
  obtain ⟨rfl, rfl, rfl⟩ := trodAll_nil r2
  obtain rfl : args = #[v0, v1, v2] := by cases args; simp_all
  obtain ⟨rfl, rfl⟩ := trodVars_none hV
  obtain ⟨a0, rfl, rfl, rfl, w0⟩ := open_int Try.underlying22 (hval 0 22 v0 rfl rfl) h0
  obtain ⟨a1, rfl, rfl, rfl, w1⟩ := open_int Try.underlying52 (hval 1 52 v1 rfl rfl) h1
  obtain ⟨a2, rfl, rfl, rfl, w2⟩ := open_int Try.underlying5 (hval 2 5 v2 rfl rfl) h2
  clear hA0 hval0
  obtain ⟨n0, rfl, hn0⟩ := u64_of_wf w0
  obtain ⟨n1, rfl, hn1⟩ := u16_of_wf w1
  obtain ⟨n2, rfl, hn2⟩ := u8_of_wf w2
  refine (walk n0 hn0 n1 hn1 n2 hn2 W).mono fun e W' ⟨he, bel⟩ => ?_
  subst he
  exact ⟨_, rfl, _, _, _, [], _, [], hW', trodAll_mk1 (shut_bool Try.underlying4 _), (trodAll_cons_mk (shut_int Try.underlying22 w0) (trodAll_cons_mk (shut_int Try.underlying52 w1) (trodAll_cons_mk (shut_int Try.underlying5 w2) trodAll_mk0))), rfl, bel.frame _, fun h => by cases h⟩

theorem over : Rows.wheelFarRow.holds Try.pinned (OpenSpec.ofChange Rows.wheelFarSpec) :=
  OpenClaim.holds_of_wide 4 Try.f4 rfl rfl rfl rfl rfl rfl rfl ⟨rfl, rfl, rfl, rfl, rfl⟩ rfl rfl rfl rfl rfl (by kernel_rfl) Try.func4 (by kernel_rfl)
    (of_decide_eq_true (by kernel_rfl)) (by unfold Func.isWrapper; first | (rw [if_pos (by decide +kernel)]; kernel_rfl) | (rw [if_neg (by decide +kernel)]; exact ⟨rfl, rfl⟩))
    (fun os started H enc _ => lifted os started H enc)

end Go.Proofs.Ytplcmaiphbjfcaa.wheelFar
namespace Go.Proofs.Ytplcmaiphbjfcaa
theorem wheelFar_holds : Rows.WheelFarSaid := wheelFar.over
#print axioms wheelFar_holds
end Go.Proofs.Ytplcmaiphbjfcaa
