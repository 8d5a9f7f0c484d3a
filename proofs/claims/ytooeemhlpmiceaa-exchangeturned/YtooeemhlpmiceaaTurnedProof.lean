/-
  ExchangeTurned: in whatever order nodes told, the orders are the same. For all lists of summaries and both turns; no condition but the form's reach.
-/
import Derived.Test.YtooeemhlpmiceaaXTurn
namespace Go.Proofs.Ytooeemhlpmiceaa.exchangeTurned
open Go.ChangeShapes Go.WideShapes Go.ChangeAt Go.RowKit Go.Deep
set_option linter.unusedVariables false
set_option linter.unusedSimpArgs false

set_option maxRecDepth 20000 in
set_option maxHeartbeats 4000000 in
theorem walk (w : World) (ao : Option Addr) (n cap : Nat) (ss : List Pt) (h : SL (fun _ => True) w ao n ss) (hok : ∀ t ∈ ss, OkP t) (ma : Nat) (hma : ma < 256) (mb : Nat) (hmb : mb < 256) :
    Calls Try.prog 8 #[.slice ao n cap, .int .u8 (ma : Nat), .int .u8 (mb : Nat)] w fun e w' => e = .returned (.bool true) ∧ Below w.heap.size w w' := by
  have haw := fun W => awakeX_any W
  have hl := h.1
  go_enter Try.func8, Try.ntmps8
  go_wp2_with fail
  refine (haw _).mono ?_
  rintro e w1 ⟨rfl, u1⟩
  have kf := few_any w1 ao n cap ss (h.bl u1) (fun t ht => by have := (hok t ht).2.2.1; have := (hok t ht).2.2.2.1; unfold szP; omega)
  go_wp2_with fail
  refine kf.mono ?_
  rintro e w2 ⟨⟨r, rfl, hr⟩, u2⟩
  have u02 := bl_step u1 u2
  clear kf
  cases r with
  | false =>
    go_wp2_with fail
    refine (haw _).mono ?_
    rintro e wz ⟨rfl, uz⟩
    have uf := bl_step u02 uz
    go_wp2
    go_ret
    exact ⟨rfl, uf⟩
  | true =>
  obtain ⟨hn, hsum⟩ := hr rfl
  clear haw hr
  have HLE : Hid (∀ t ∈ ss, t.es.length ≤ 10000) := fun t ht => by have := sum_mem ht; unfold szP at this; omega
  have k1 := told_any w2 ao n cap ss (h.bl u02) (by omega) HLE.out ma hma
  go_wp2_with fail
  refine k1.mono ?_
  rintro e w3 hP
  obtain ⟨ta, tc, vn, vs, rfl, hT, u3⟩ := told_tl hP
  have u03 := bl_step u02 u3
  have k2 := told_any w3 ao n cap ss (h.bl u03) (by omega) HLE.out mb hmb
  rw [hl] at hT
  rw [hl]
  clear k1 hP
  go_wp2_with fail
  refine k2.mono ?_
  rintro e w4 hP
  obtain ⟨tb, td, vn2, vs2, rfl, hU, u4⟩ := told_tl hP
  have u04 := bl_step u03 u4
  rw [hl] at hU
  rw [hl]
  have hT4 := hT.bl u4
  have HSM : Hid (Sm2 (toldL ss ma) (toldL ss mb)) := told_same ss ma mb
  have HA : Hid ((allT (toldL ss ma)).length ≤ 1000 ∧ (∀ e ∈ allT (toldL ss ma), e.2.length ≤ 140737488355328) ∧ (∀ e ∈ allT (toldL ss ma), OkL e.1) ∧ (∀ t ∈ toldL ss ma, t.ls.length ≤ 1000) ∧ ∀ t ∈ toldL ss ma, ∀ x ∈ t.ls, OkL x) :=
    ⟨by have := told_all_le ss ma; omega, fun e he => (told_eok hok e he).2, fun e he => (told_eok hok e he).1, fun t ht => by have := told_ls ht; omega, told_lok hok⟩
  have HB : Hid ((allT (toldL ss mb)).length ≤ 1000 ∧ (∀ e ∈ allT (toldL ss mb), e.2.length ≤ 140737488355328) ∧ (∀ e ∈ allT (toldL ss mb), OkL e.1) ∧ (∀ t ∈ toldL ss mb, t.ls.length ≤ 1000) ∧ ∀ t ∈ toldL ss mb, ∀ x ∈ t.ls, OkL x) :=
    ⟨by have := told_all_le ss mb; omega, fun e he => (told_eok hok e he).2, fun e he => (told_eok hok e he).1, fun t ht => by have := told_ls ht; omega, told_lok hok⟩
  have HES : Hid (shortT (toldL ss ma) = shortT (toldL ss mb)) := short_same HSM.out
  have HEF : Hid (fullT (toldL ss ma) = fullT (toldL ss mb)) := full_same HSM.out
  have HEH : Hid (highT (toldL ss ma) = highT (toldL ss mb)) := high_same HSM.out.1
  have HEC : Hid (chT (toldL ss ma) = chT (toldL ss mb)) := ch_same HSM.out.1
  have HEN : Hid (nxT (toldL ss ma) = nxT (toldL ss mb)) := nx_same HSM.out.1
  generalize toldL ss ma = A at *
  generalize toldL ss mb = B at *
  clear k2 hP hT hok HLE u1 u2 u3 u4 u02 u03 h hl HSM
  have k3 := short_any _ w4 ta n tc A hT4 HA.out.2.2.2.1
  rw [HES.out] at k3
  go_wp2_with fail
  refine k3.mono ?_
  rintro e w5 ⟨v5, rfl, ho5, u5⟩
  obtain ⟨a5, c5', rfl, hL5⟩ := LR.own ho5
  have hT5 := hT4.bl u5
  have hU5 := hU.bl u5
  have u05 := bl_step u04 u5
  have k4 := short_any _ w5 tb n td B hU5 HB.out.2.2.2.1
  clear k3 ho5 hT4 hU u04
  go_wp2_with fail
  refine k4.mono ?_
  rintro e w6 ⟨v6, rfl, ho6, u6⟩
  obtain ⟨a6, c6', rfl, hL6⟩ := LR.own ho6
  have hT6 := hT5.bl u6
  have hU6 := hU5.bl u6
  have u06 := bl_step u05 u6
  have k5 := same_any w6 a5 (shortT B).length c5' (shortT B) (hL5.up u6) a6 (shortT B).length c6' (shortT B) hL6
  simp only [decide_true] at k5
  clear k4 ho6 hT5 hU5 u05 hL5 hL6
  go_wp2_with fail
  refine k5.mono ?_
  rintro e w7 ⟨rfl, u7⟩
  have hT7 := hT6.bl u7.bl
  have hU7 := hU6.bl u7.bl
  have u07 := bl_step u06 u7.bl
  have k6 := full_any _ w7 ta n tc A hT7 HA.out.1 HA.out.2.1 HA.out.2.2.1 HA.out.2.2.2.1 HA.out.2.2.2.2
  rw [HEF.out] at k6
  clear k5 hT6 hU6 u06
  go_wp2_with fail
  refine k6.mono ?_
  rintro e w8 ⟨v8, rfl, ho8, u8⟩
  obtain ⟨a8, c8, rfl, hL8⟩ := LR.own ho8
  have hT8 := hT7.bl u8
  have hU8 := hU7.bl u8
  have u08 := bl_step u07 u8
  have k7 := full_any _ w8 tb n td B hU8 HB.out.1 HB.out.2.1 HB.out.2.2.1 HB.out.2.2.2.1 HB.out.2.2.2.2
  clear k6 ho8 hT7 hU7 u07
  go_wp2_with fail
  refine k7.mono ?_
  rintro e w9 ⟨v9, rfl, ho9, u9⟩
  obtain ⟨a9, c9, rfl, hL9⟩ := LR.own ho9
  have hT9 := hT8.bl u9
  have hU9 := hU8.bl u9
  have u09 := bl_step u08 u9
  have k8 := same_any w9 a8 (fullT B).length c8 (fullT B) (hL8.up u9) a9 (fullT B).length c9 (fullT B) hL9
  simp only [decide_true] at k8
  clear k7 ho9 hT8 hU8 u08 hL8 hL9
  go_wp2_with fail
  refine k8.mono ?_
  rintro e w10 ⟨rfl, u10⟩
  have hT10 := hT9.bl u10.bl
  have hU10 := hU9.bl u10.bl
  have u010 := bl_step u09 u10.bl
  have k9 := high_any _ w10 ta n tc A hT10
  rw [HEH.out] at k9
  unfold vid at k9
  clear k8 hT9 hU9 u09
  go_wp2_with fail
  refine k9.mono ?_
  rintro e w11 ⟨rfl, u11⟩
  have hT11 := hT10.bl u11
  have hU11 := hU10.bl u11
  have u011 := bl_step u010 u11
  have k10 := high_any _ w11 tb n td B hU11
  unfold vid at k10
  clear k9 hT10 hU10 u010
  go_wp2_with fail
  refine k10.mono ?_
  rintro e w12 ⟨rfl, u12⟩
  have hT12 := hT11.bl u12
  have hU12 := hU11.bl u12
  have u012 := bl_step u011 u12
  have k11 := chosen_any _ w12 ta n tc A hT12
  rw [HEC.out] at k11
  have heq := fun W => vid_equal (highT B).1 (highT B).2 (highT B).1 (highT B).2 W
  simp only [decide_true, Bool.and_self] at heq
  clear k10 hT11 hU11 u011
  go_wp2_with fail
  refine k11.mono ?_
  rintro e w13 ⟨rfl, u13⟩
  have hT13 := hT12.bl u13
  have hU13 := hU12.bl u13
  have u013 := bl_step u012 u13
  have k12 := chosen_any _ w13 tb n td B hU13
  clear k11 hT12 hU12 u012 heq
  go_wp2_with fail
  refine k12.mono ?_
  rintro e w14 ⟨rfl, u14⟩
  have hT14 := hT13.bl u14
  have hU14 := hU13.bl u14
  have u014 := bl_step u013 u14
  have k13 := next_any _ w14 ta n tc A hT14
  rw [HEN.out] at k13
  clear k12 hT13 hU13 u013
  go_wp2_with fail
  refine k13.mono ?_
  rintro e w15 ⟨rfl, u15⟩
  have hU15 := hU14.bl u15
  have u015 := bl_step u014 u15
  have k14 := next_any _ w15 tb n td B hU15
  clear k13 hT14 hU14 u014
  go_wp2_with fail
  refine k14.mono ?_
  rintro e w16 ⟨rfl, u16⟩
  have uf := bl_step u015 u16
  clear k14
  go_wp2
  go_ret
  exact ⟨rfl, uf⟩
set_option maxRecDepth 100000 in
theorem lifted (os : Os) (started : os.Started) (H : Type) (enc : TypeId × Value → H) :
    ReturnsInHanded {} Try.checked os 8 .any (Rows.exchangeTurnedSpec.pre6 enc Try.prog Try.f8 Rows.exchangeTurnedRow.domain false) (Rows.exchangeTurnedSpec.post enc Try.prog Try.f8 false true false false) := by
  refine returnsInHanded_of_change_sized (C := Try.checked) own started (by kernel_rfl) Try.func8
    (ChangeSpec.witness6 (enc := enc) (C := Try.checked) false ⟨#[], #[.slice none 0 0, .int .u8 0, .int .u8 0], []⟩ 12 (by kernel_rfl) (by kernel_rfl) (by kernel_rfl) (by kernel_rfl)) ?_
  intro W base args ds gs before hval0 hW hcnd hsz0 _
  have hsz : (DataW.weightsEach Try.prog (Try.f8.params.toList ++ Rows.exchangeTurnedSpec.plain.varTypes Try.prog) (ds ++ gs)).all (· ≤ reachBytes) = true := hsz0
  have hval : ∀ (j : Nat) t v, Try.f8.params[j]? = some t → args[j]? = some v → Value.okWide Try.prog W .any base t v := hval0
  have hW' := hW
  obtain ⟨p, q, hA0, hV, rfl, hfz, hnd⟩ := hW
  have hA : DataW.TrodAll enc Try.prog W 0 (fun _ => true) true Try.f8.params.toList args.toList ds p := hA0
  rw [Try.params8] at hA hval hsz
  obtain ⟨v0, vs0, d0, ds0, p0, q0, hargs0, rfl, rfl, h0, r0⟩ := trodAll_cons hA
  obtain ⟨v1, vs1, d1, ds1, p1, q1, hargs1, rfl, rfl, h1, r1⟩ := trodAll_cons r0
  obtain ⟨v2, vs2, d2, ds2, p2, q2, hargs2, rfl, rfl, h2, r2⟩ := trodAll_cons r1
  obtain ⟨rfl, rfl, rfl⟩ := trodAll_nil r2
  obtain rfl : args = #[v0, v1, v2] := by cases args; simp_all
  obtain ⟨rfl, rfl⟩ := trodVars_none hV
  obtain ⟨a0, len0, cap0, rfl⟩ := okWide_slice Try.underlying43 (hval 0 43 v0 rfl rfl)
  have k0 := h0
  have lt0 : ∀ x ∈ p0, x.block < W.heap.size := by obtain ⟨m, hm⟩ := k0; exact DataW.trod_lt m _ _ _ hm
  obtain ⟨xs0, hx0, ho0, hl0⟩ := open_sums h0 (fits_of hsz (j := 0) rfl rfl)
  obtain ⟨a1, rfl, rfl, rfl, w1⟩ := open_int Try.underlying5 (hval 1 5 v1 rfl rfl) h1
  obtain ⟨a2, rfl, rfl, rfl, w2⟩ := open_int Try.underlying5 (hval 2 5 v2 rfl rfl) h2
  clear hA0 hval0 hsz hsz0
  obtain ⟨n1, rfl, hn1⟩ := u8_of_wf w1
  obtain ⟨n2, rfl, hn2⟩ := u8_of_wf w2
  refine (walk W a0 len0 cap0 xs0 hx0 ho0 n1 hn1 n2 hn2).mono fun e W' ⟨he, bel⟩ => ?_
  subst he
  exact ⟨_, rfl, _, _, _, [], _, [], hW', trodAll_mk1 (shut_bool Try.underlying4 _), (trodAll_cons_mk (Below.trod laidOut (by kernel_rfl) (of_decide_eq_true (by kernel_rfl)) k0 bel lt0) (trodAll_cons_mk (shut_int Try.underlying5 w1) (trodAll_cons_mk (shut_int Try.underlying5 w2) trodAll_mk0))), rfl, bel.frame _, fun h => by cases h⟩

theorem over : Rows.exchangeTurnedRow.holds Try.pinned (OpenSpec.ofChange Rows.exchangeTurnedSpec) :=
  OpenClaim.holds_of_wide 8 Try.f8 rfl rfl rfl rfl rfl rfl rfl ⟨rfl, rfl, rfl, rfl, rfl⟩ rfl rfl rfl rfl rfl (by kernel_rfl) Try.func8 (by kernel_rfl)
    (of_decide_eq_true (by kernel_rfl)) (by unfold Func.isWrapper; first | (rw [if_pos (by decide +kernel)]; kernel_rfl) | (rw [if_neg (by decide +kernel)]; exact ⟨rfl, rfl⟩))
    (fun os started H enc _ => lifted os started H enc)

end Go.Proofs.Ytooeemhlpmiceaa.exchangeTurned
namespace Go.Proofs.Ytooeemhlpmiceaa
theorem exchangeTurned_holds : Rows.ExchangeTurnedSaid := exchangeTurned.over
#print axioms exchangeTurned_holds
end Go.Proofs.Ytooeemhlpmiceaa
