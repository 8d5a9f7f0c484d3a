/-
  ContentOrder: entries merged in any two orders have the same labels; merged twice they are the same. For all lists of entries; no condition but the form's reach.
-/
import Derived.Test.YtooeemhlpmiceaaFLaw
import Derived.Test.YtooeemhlpmiceaaFLabels
import Derived.Test.YtooeemhlpmiceaaTMerge
import Derived.Test.YtooeemhlpmiceaaFPlain2
import Derived.Test.YtooeemhlpmiceaaESame
import Derived.Test.YtooeemhlpmiceaaEOne
namespace Go.Proofs.Ytooeemhlpmiceaa.contentOrder
open Go.ChangeShapes Go.WideShapes Go.ChangeAt Go.RowKit Go.Deep
set_option linter.unusedVariables false
set_option linter.unusedSimpArgs false

set_option maxRecDepth 20000 in
set_option maxHeartbeats 4000000 in
theorem walk (w : World) (ao : Option Addr) (n cap : Nat) (es : List En) (h : ER (fun _ => True) w ao n es) (hok : ∀ e ∈ es, OkE e) (hz : ao = none → n = 0 ∧ cap = 0) (_ : n ≤ cap) (hcap : cap ≤ 140737488355328)
    (bo : Option Addr) (m cbp : Nat) (ms : List En) (hm : ER (fun _ => True) w bo m ms) (hokm : ∀ e ∈ ms, OkE e) (hzm : bo = none → m = 0 ∧ cbp = 0) (_ : m ≤ cbp) (hcbp : cbp ≤ 140737488355328) :
    Calls Try.prog 5 #[.slice ao n cap, .slice bo m cbp] w fun e w' => e = .returned (.bool true) ∧ Below w.heap.size w w' := by
  have haw := fun W => awake_any W
  have hw1 : wrap64 ((n : Int) + m) = (n : Int) + m := IntWalk.wrap64_in _ (by omega)
  have hl1 := h.1
  have hl2 := hm.1
  go_enter Try.func5, Try.ntmps5
  go_wp2_with fail
  refine (haw _).mono ?_
  rintro e w1 ⟨rfl, u1⟩
  by_cases hbig : 100 < (n : Int) + m
  · go_wp2_with fail
    refine (haw _).mono ?_
    rintro e wz ⟨rfl, uz⟩
    have uf := bl_step u1 uz
    go_wp2
    go_ret
    exact ⟨rfl, uf⟩
  clear haw
  have e0 : Asc ([] : List En) := by unfold Asc; simp
  have HA : Hid (Asc (mergeE [] es) ∧ Asc (mergeE [] ms) ∧ Asc (mergeE (mergeE [] es) ms) ∧ Asc (mergeE (mergeE [] ms) es)) := ⟨mergeE_asc _ _ e0, mergeE_asc _ _ e0, mergeE_asc _ _ (mergeE_asc _ _ e0), mergeE_asc _ _ (mergeE_asc _ _ e0)⟩
  have HX : Hid (mergeE [] (mergeE [] es ++ ms) = mergeE (mergeE [] es) ms) := mergeE_two HA.out.1 ms
  have HY : Hid (mergeE [] (mergeE [] ms ++ es) = mergeE (mergeE [] ms) es) := mergeE_two HA.out.2.1 es
  have HXB : Hid (mergeE [] (mergeE (mergeE [] es) ms ++ ms) = mergeE (mergeE [] es) ms) := by show _ = _; rw [mergeE_two HA.out.2.2.1, order_b]
  have HXY : Hid (mergeE [] (mergeE (mergeE [] es) ms ++ mergeE (mergeE [] ms) es) = mergeE (mergeE [] es) ms) := by show _ = _; rw [mergeE_two HA.out.2.2.1, order_y]
  have HLB : Hid ((mergeE (mergeE [] es) ms).map (·.1) = (mergeE (mergeE [] ms) es).map (·.1)) := order_labs es ms
  have HOE : Hid (∀ e ∈ es, e.2.length ≤ 140737488355328) := fun e he => (hok e he).2
  have HOM : Hid (∀ e ∈ ms, e.2.length ≤ 140737488355328) := fun e he => (hokm e he).2
  have HOA : Hid (∀ e ∈ mergeE [] es, e.2.length ≤ 140737488355328) := fun e he => by
    rcases mergeE_mem es [] e he with h | h
    · simp at h
    · exact HOE.out e h
  have HOB : Hid (∀ e ∈ mergeE [] ms, e.2.length ≤ 140737488355328) := fun e he => by
    rcases mergeE_mem ms [] e he with h | h
    · simp at h
    · exact HOM.out e h
  have HOX : Hid (∀ e ∈ mergeE (mergeE [] es) ms, e.2.length ≤ 140737488355328) := fun e he => by
    rcases mergeE_mem _ _ e he with h | h
    · exact HOA.out e h
    · exact HOM.out e h
  have HOY : Hid (∀ e ∈ mergeE (mergeE [] ms) es, e.2.length ≤ 140737488355328) := fun e he => by
    rcases mergeE_mem _ _ e he with h | h
    · exact HOB.out e h
    · exact HOE.out e h
  have both : ∀ {p q : List En}, (∀ e ∈ p, e.2.length ≤ 140737488355328) → (∀ e ∈ q, e.2.length ≤ 140737488355328) → ∀ e ∈ p ++ q, e.2.length ≤ 140737488355328 := fun hp hq e he => by
    rcases List.mem_append.1 he with h | h
    · exact hp e h
    · exact hq e h
  have hAl := mergeE_len es []
  have hBl := mergeE_len ms []
  have hXl := mergeE_len ms (mergeE [] es)
  have hYl := mergeE_len es (mergeE [] ms)
  have r1 := fun W (u : Below w.heap.size w W) => merge_any W none 0 0 [] (ER.nil _ _ _) (fun _ => ⟨rfl, rfl⟩) ao n cap es (h.bl u) hz (by omega) (fun e he => HOE.out e (by simpa using he))
  have r2 := fun W (u : Below w.heap.size w W) => merge_any W none 0 0 [] (ER.nil _ _ _) (fun _ => ⟨rfl, rfl⟩) bo m cbp ms (hm.bl u) hzm (by omega) (fun e he => HOM.out e (by simpa using he))
  simp only [List.nil_append] at r1 r2
  simp only [List.length_nil, Nat.zero_add] at hAl hBl
  clear hok hokm e0 HA
  generalize hX : mergeE (mergeE [] es) ms = X at *
  generalize hY : mergeE (mergeE [] ms) es = Y at *
  clear hX hY
  generalize mergeE [] es = P at *
  generalize mergeE [] ms = Q at *
  go_wp2_with fail
  refine (r1 w1 u1).mono ?_
  rintro e w2 ⟨v2, rfl, hO2, u2⟩
  obtain ⟨a2, c2, rfl, hz2, hE2⟩ := hO2.er2
  have u02 := bl_step u1 u2
  have k1 := merge_any w2 a2 P.length c2 P hE2 hz2 bo m cbp ms (hm.bl u02) hzm (by omega) (both HOA.out HOM.out)
  rw [HX.out] at k1
  clear r1 hO2 hz2 HX
  go_wp2_with fail
  refine k1.mono ?_
  rintro e w3 ⟨v3, rfl, hO3, u3⟩
  obtain ⟨ax, cx, rfl, hzx, hEx⟩ := hO3.er2
  have u03 := bl_step u02 u3
  clear k1 hO3 hE2 u02 u2 u3
  go_wp2_with fail
  refine (r2 w3 u03).mono ?_
  rintro e w4 ⟨v4, rfl, hO4, u4⟩
  obtain ⟨a4, c4, rfl, hz4, hE4⟩ := hO4.er2
  have u04 := bl_step u03 u4
  have k2 := merge_any w4 a4 Q.length c4 Q hE4 hz4 ao n cap es (h.bl u04) hz (by omega) (both HOB.out HOE.out)
  rw [HY.out] at k2
  clear r2 hO4 hz4 HY
  go_wp2_with fail
  refine k2.mono ?_
  rintro e w5 ⟨v5, rfl, hO5, u5⟩
  obtain ⟨ay, cy, rfl, hzy, hEy⟩ := hO5.er2
  have u05 := bl_step u04 u5
  have hEx5 := (hEx.bl u4).bl u5
  have k3 := labels_any _ w5 ax X.length cx X hEx5 (by omega)
  clear k2 hO5 hE4 hEx u04 u4 u5 u03
  go_wp2_with fail
  refine k3.mono ?_
  rintro e w6 ⟨v6, rfl, hO6, u6⟩
  obtain ⟨a6, c6, rfl, hL6⟩ := LR.own hO6
  have u06 := bl_step u05 u6
  have hEx6 := hEx5.bl u6
  have hEy6 := hEy.bl u6
  have k4 := labels_any _ w6 ay Y.length cy Y hEy6 (by omega)
  clear k3 hO6 hEx5 hEy u05
  go_wp2_with fail
  refine k4.mono ?_
  rintro e w7 ⟨v7, rfl, hO7, u7⟩
  obtain ⟨a7, c7, rfl, hL7⟩ := LR.own hO7
  have u07 := bl_step u06 u7
  have hEx7 := hEx6.bl u7
  have hEy7 := hEy6.bl u7
  have k5 := same_any w7 a6 X.length c6 _ (hL6.up u7) a7 Y.length c7 _ hL7
  rw [HLB.out] at k5
  simp only [decide_true] at k5
  clear k4 hO7 hEx6 hEy6 u06 u6 u7 hL6 hL7
  go_wp2_with fail
  refine k5.mono ?_
  rintro e w8 ⟨rfl, u8⟩
  have u08 := bl_step u07 u8.bl
  have hEx8 := hEx7.bl u8.bl
  have hEy8 := hEy7.bl u8.bl
  have k6 := merge_any w8 ax X.length cx X hEx8 hzx bo m cbp ms (hm.bl u08) hzm (by omega) (both HOX.out HOM.out)
  rw [HXB.out] at k6
  clear k5 hEx7 hEy7 u07 u8
  go_wp2_with fail
  refine k6.mono ?_
  rintro e w9 ⟨v9, rfl, hO9, u9⟩
  obtain ⟨a9, c9, rfl, -, hE9⟩ := hO9.er2
  have u09 := bl_step u08 u9
  have hEx9 := hEx8.bl u9
  have hEy9 := hEy8.bl u9
  have k7 := sameE_any _ _ w9 a9 X.length c9 X hE9 ax X.length cx X hEx9
  simp only [decide_true] at k7
  clear k6 hO9 hEx8 hEy8 u08 u9
  go_wp2_with fail
  refine k7.mono ?_
  rintro e w10 ⟨rfl, u10⟩
  have u010 := bl_step u09 u10.bl
  have hEx10 := hEx9.bl u10.bl
  have hEy10 := hEy9.bl u10.bl
  have k8 := merge_any w10 ax X.length cx X hEx10 hzx ay Y.length cy Y hEy10 hzy (by omega) (both HOX.out HOY.out)
  rw [HXY.out] at k8
  clear k7 hEx9 hEy9 u09 u10 hE9
  go_wp2_with fail
  refine k8.mono ?_
  rintro e w11 ⟨v11, rfl, hO11, u11⟩
  obtain ⟨a11, c11, rfl, -, hE11⟩ := hO11.er2
  have u011 := bl_step u010 u11
  have k9 := sameE_any _ _ w11 a11 X.length c11 X hE11 ax X.length cx X (hEx10.bl u11)
  simp only [decide_true] at k9
  clear k8 hO11 hEx10 hEy10 u010 u11
  go_wp2_with fail
  refine k9.mono ?_
  rintro e w12 ⟨rfl, u12⟩
  have uf := bl_step u011 u12.bl
  clear k9
  go_wp2
  go_ret
  exact ⟨rfl, uf⟩
set_option maxRecDepth 100000 in
theorem lifted (os : Os) (started : os.Started) (H : Type) (enc : TypeId × Value → H) :
    ReturnsInHanded {} Try.checked os 5 .any (Rows.contentOrderSpec.pre6 enc Try.prog Try.f5 Rows.contentOrderRow.domain false) (Rows.contentOrderSpec.post enc Try.prog Try.f5 false true false false) := by
  refine returnsInHanded_of_change_sized (C := Try.checked) own started (by kernel_rfl) Try.func5
    (ChangeSpec.witness6 (enc := enc) (C := Try.checked) false ⟨#[], #[.slice none 0 0, .slice none 0 0], []⟩ 12 (by kernel_rfl) (by kernel_rfl) (by kernel_rfl) (by kernel_rfl)) ?_
  intro W base args ds gs before hval0 hW hcnd hsz0 _
  have hsz : (DataW.weightsEach Try.prog (Try.f5.params.toList ++ Rows.contentOrderSpec.plain.varTypes Try.prog) (ds ++ gs)).all (· ≤ reachBytes) = true := hsz0
  have hval : ∀ (j : Nat) t v, Try.f5.params[j]? = some t → args[j]? = some v → Value.okWide Try.prog W .any base t v := hval0
  have hW' := hW
  obtain ⟨p, q, hA0, hV, rfl, hfz, hnd⟩ := hW
  have hA : DataW.TrodAll enc Try.prog W 0 (fun _ => true) true Try.f5.params.toList args.toList ds p := hA0
  rw [Try.params5] at hA hval hsz
  obtain ⟨v0, vs0, d0, ds0, p0, q0, hargs0, rfl, rfl, h0, r0⟩ := trodAll_cons hA
  obtain ⟨v1, vs1, d1, ds1, p1, q1, hargs1, rfl, rfl, h1, r1⟩ := trodAll_cons r0
  obtain ⟨rfl, rfl, rfl⟩ := trodAll_nil r1
  obtain rfl : args = #[v0, v1] := by cases args; simp_all
  obtain ⟨rfl, rfl⟩ := trodVars_none hV
  obtain ⟨a0, len0, cap0, rfl⟩ := okWide_slice Try.underlying22 (hval 0 22 v0 rfl rfl)
  have k0 := h0
  have lt0 : ∀ x ∈ p0, x.block < W.heap.size := by obtain ⟨m, hm⟩ := k0; exact DataW.trod_lt m _ _ _ hm
  obtain ⟨xs0, hx0, ho0, hz0, hc0, hd0⟩ := open_ents h0 (fits_of hsz (j := 0) rfl rfl)
  obtain ⟨a1, len1, cap1, rfl⟩ := okWide_slice Try.underlying22 (hval 1 22 v1 rfl rfl)
  have k1 := h1
  have lt1 : ∀ x ∈ p1, x.block < W.heap.size := by obtain ⟨m, hm⟩ := k1; exact DataW.trod_lt m _ _ _ hm
  obtain ⟨xs1, hx1, ho1, hz1, hc1, hd1⟩ := open_ents h1 (fits_of hsz (j := 1) rfl rfl)
  clear hA0 hval0 hsz hsz0
  refine (walk W a0 len0 cap0 xs0 hx0 ho0 hz0 hc0 hd0 a1 len1 cap1 xs1 hx1 ho1 hz1 hc1 hd1).mono fun e W' ⟨he, bel⟩ => ?_
  subst he
  exact ⟨_, rfl, _, _, _, [], _, [], hW', trodAll_mk1 (shut_bool Try.underlying4 _), (trodAll_cons_mk (Below.trod laidOut (by kernel_rfl) (of_decide_eq_true (by kernel_rfl)) k0 bel lt0) (trodAll_cons_mk (Below.trod laidOut (by kernel_rfl) (of_decide_eq_true (by kernel_rfl)) k1 bel lt1) trodAll_mk0)), rfl, bel.frame _, fun h => by cases h⟩

theorem over : Rows.contentOrderRow.holds Try.pinned (OpenSpec.ofChange Rows.contentOrderSpec) :=
  OpenClaim.holds_of_wide 5 Try.f5 rfl rfl rfl rfl rfl rfl rfl ⟨rfl, rfl, rfl, rfl, rfl⟩ rfl rfl rfl rfl rfl (by kernel_rfl) Try.func5 (by kernel_rfl)
    (of_decide_eq_true (by kernel_rfl)) (by unfold Func.isWrapper; first | (rw [if_pos (by decide +kernel)]; kernel_rfl) | (rw [if_neg (by decide +kernel)]; exact ⟨rfl, rfl⟩))
    (fun os started H enc _ => lifted os started H enc)

end Go.Proofs.Ytooeemhlpmiceaa.contentOrder
namespace Go.Proofs.Ytooeemhlpmiceaa
theorem contentOrder_holds : Rows.ContentOrderSaid := contentOrder.over
#print axioms contentOrder_holds
end Go.Proofs.Ytooeemhlpmiceaa
