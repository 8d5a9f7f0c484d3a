/-
  JudgeViews: of any traces judge.Views tells what the document's Views tells. For any traces; no condition.
-/
import Derived.Test.YthnbijnpbjfoaaaJEq
import Derived.Test.YthnbijnpbjfoaaaJAwake
namespace Go.Proofs.Ythnbijnpbjfoaaa.judgeViews
open Go.ChangeShapes Go.WideShapes Go.ChangeAt Go.RowKit Go.Deep
set_option linter.unusedVariables false

set_option maxRecDepth 10000 in
set_option maxHeartbeats 4000000 in
theorem walk (w : World) (ao : Option Addr) (n cap : Nat) (ess : List (List Ev)) (h : Lr (fun w r es => EvR (fun _ => True) w r.1 r.2.1 es ∧ ∀ e ∈ es, EvOk e) w ao n ess) (hc : Cp (ao, n, cap)) :
    Calls Try.prog 5 #[.slice ao n cap] w fun e w' => e = .returned (.bool true) ∧ Below w.heap.size w w' := by
  have hl : ess.length = n := Lr.len h
  have HI : Hid (Evs (fun _ => True) w ao n ess ∧ ∀ es ∈ ess, ∀ e ∈ es, EvOk e) := evs_args h
  clear h hc
  go_enter Try.func5, Try.ntmps5
  go_wp2_with fail
  refine (awake_any _).mono ?_
  rintro e w1 ⟨rfl, b1⟩
  have HB : Hid (Below w.heap.size w w1) := b1
  clear b1
  go_wp2_with fail
  refine (great_any _ (fun _ => True) ao n cap ess (HI.out.1.keep HB.out (Kp.up HB.out))).mono ?_
  rintro e w2 ⟨⟨b, rfl, hb⟩, b2⟩
  have HG : Hid ((b = true ↔ GreatP ess) ∧ Below w.heap.size w w2) := ⟨hb, HB.out.trans (b2.mono HB.out.size)⟩
  clear hb b2 HB
  cases b with
  | true =>
    go_wp2_with fail
    refine (awake_any _).mono ?_
    rintro e w3 ⟨rfl, b3⟩
    have HE : Hid (Below w.heap.size w w3) := HG.out.2.trans (b3.mono HG.out.2.size)
    clear b3
    go_wp2
    go_ret
    exact ⟨rfl, HE.out⟩
  | false =>
    obtain ⟨g1, g2, g3⟩ := great_no (ess := ess) (fun h => by have := HG.out.1.2 h; cases this)
    have HE2 : Hid (Evs (fun _ => True) w2 ao n ess) := HI.out.1.keep HG.out.2 (Kp.up HG.out.2)
    have hv := views_any w2 ao n cap ess HE2.out.lt HI.out.2 g1
    have hd := fun W (u : Below w2.heap.size w2 W) => refViews19_any W (fun _ => True) ao n cap ess (HE2.out.keep u (Kp.up u)) HI.out.2 g2 (by omega)
    clear g1 g2 g3
    go_wp2_with fail
    refine hv.mono ?_
    rintro e w3 ⟨a, rfl, ha, b3⟩
    have HA : Hid (ViewsR ess a ∧ Below w2.heap.size w2 w3) := ⟨ha, b3⟩
    clear ha b3 hv
    go_wp2_with fail
    refine (hd _ HA.out.2).mono ?_
    rintro e w4 ⟨⟨c, rfl, hc⟩, b4⟩
    obtain rfl := views_same HI.out.2 HA.out.1 hc
    have HE : Hid (Below w.heap.size w w4) := HG.out.2.trans ((HA.out.2.trans (b4.mono HA.out.2.size)).mono HG.out.2.size)
    clear hc b4 hd
    go_wp2
    go_ret
    exact ⟨by simp, HE.out⟩

set_option maxRecDepth 100000 in
theorem lifted (os : Os) (started : os.Started) (H : Type) (enc : TypeId × Value → H) :
    ReturnsInHanded {} Try.checked os 5 .any (Rows.judgeViewsSpec.pre6 enc Try.prog Try.f5 Rows.judgeViewsRow.domain false) (Rows.judgeViewsSpec.post enc Try.prog Try.f5 false true false false) := by
  refine returnsInHanded_of_change_sized (C := Try.checked) own started (by kernel_rfl) Try.func5
    (ChangeSpec.witness6 (enc := enc) (C := Try.checked) false ⟨#[], #[.slice none 0 0], []⟩ 12 (by kernel_rfl) (by kernel_rfl) (by kernel_rfl) (by kernel_rfl)) ?_
  intro W base args ds gs before hval0 hW hcnd hsz0 _
  have hsz : (DataW.weightsEach Try.prog (Try.f5.params.toList ++ Rows.judgeViewsSpec.plain.varTypes Try.prog) (ds ++ gs)).all (· ≤ reachBytes) = true := hsz0
  have hval : ∀ (j : Nat) t v, Try.f5.params[j]? = some t → args[j]? = some v → Value.okWide Try.prog W .any base t v := hval0
  have hW' := hW
  obtain ⟨p, q, hA0, hV, rfl, hfz, hnd⟩ := hW
  have hA : DataW.TrodAll enc Try.prog W 0 (fun _ => true) true Try.f5.params.toList args.toList ds p := hA0
  rw [Try.params5] at hA hval hsz
  obtain ⟨v0, vs0, d0, ds0, p0, q0, hargs0, rfl, rfl, h0, r0⟩ := trodAll_cons hA
  obtain ⟨rfl, rfl, rfl⟩ := trodAll_nil r0
  obtain rfl : args = #[v0] := by cases args; simp_all
  obtain ⟨rfl, rfl⟩ := trodVars_none hV
  obtain ⟨a0, len0, cap0, rfl⟩ := okWide_slice Try.underlying36 (hval 0 36 v0 rfl rfl)
  have k0 := h0
  have lt0 : ∀ x ∈ p0, x.block < W.heap.size := by obtain ⟨m, hm⟩ := k0; exact DataW.trod_lt m _ _ _ hm
  obtain ⟨xs0, hx0, hc0⟩ := open_evss h0 (fits_of hsz (j := 0) rfl rfl)
  clear hA0 hval0 hsz hsz0
  refine (walk W a0 len0 cap0 xs0 hx0 hc0).mono fun e W' ⟨he, bel⟩ => ?_
  subst he
  exact ⟨_, rfl, _, _, _, [], _, [], hW', trodAll_mk1 (shut_bool Try.underlying4 _), (trodAll_cons_mk (Below.trod laidOut (by kernel_rfl) (of_decide_eq_true (by kernel_rfl)) k0 bel lt0) trodAll_mk0), rfl, bel.frame _, fun h => by cases h⟩

theorem over : Rows.judgeViewsRow.holds Try.pinned (OpenSpec.ofChange Rows.judgeViewsSpec) :=
  OpenClaim.holds_of_wide 5 Try.f5 rfl rfl rfl rfl rfl rfl rfl ⟨rfl, rfl, rfl, rfl, rfl⟩ rfl rfl rfl rfl rfl (by kernel_rfl) Try.func5 (by kernel_rfl)
    (of_decide_eq_true (by kernel_rfl)) (by unfold Func.isWrapper; first | (rw [if_pos (by decide +kernel)]; kernel_rfl) | (rw [if_neg (by decide +kernel)]; exact ⟨rfl, rfl⟩))
    (fun os started H enc _ => lifted os started H enc)

end Go.Proofs.Ythnbijnpbjfoaaa.judgeViews
namespace Go.Proofs.Ythnbijnpbjfoaaa
theorem judgeViews_holds : Rows.JudgeViewsSaid := judgeViews.over
#print axioms judgeViews_holds
end Go.Proofs.Ythnbijnpbjfoaaa
