/-
  JudgeGood: the traces of a group that is as it should be are told so by judge.Views. For any group of the statements' making; no condition.
-/
import Derived.Test.YthnbijnpbjfoaaaJTrA
import Derived.Test.YthnbijnpbjfoaaaJTrOk
import Derived.Test.YthnbijnpbjfoaaaJAwake
namespace Go.Proofs.Ythnbijnpbjfoaaa.judgeGood
open Go.ChangeShapes Go.WideShapes Go.ChangeAt Go.RowKit Go.Deep
set_option linter.unusedVariables false

set_option maxRecDepth 10000 in
set_option maxHeartbeats 4000000 in
theorem walk (w : World) (nb : Nat) (hnb : nb < 256) (ao : Option Addr) (N cap : Nat) (runs : List Rn) (h : RunsR w ao N runs) (hc : Cp (ao, N, cap)) :
    Calls Try.prog 6 #[.int .u8 (nb : Nat), .slice ao N cap] w fun e w' => e = .returned (.bool true) ∧ Below w.heap.size w w' := by
  have HI : Hid (RunsR w ao N runs) := h
  have hN42 : N ≤ 4398046511104 := h.2.1
  have hNr : runs.length = N := h.1
  clear h hc
  go_enter Try.func6, Try.ntmps6
  go_wp2_with fail
  refine (awake_any _).mono ?_
  rintro e w1 ⟨rfl, b1⟩
  have HB : Hid (Below w.heap.size w w1) := b1
  clear b1
  by_cases hn : N ≤ 6
  case neg =>
    have hnI : (N : Int) > 6 := by omega
    go_wp2_with fail
    refine (awake_any _).mono ?_
    rintro e w2 ⟨rfl, b2⟩
    have HE : Hid (Below w.heap.size w w2) := HB.out.trans (b2.mono HB.out.size)
    clear b2
    go_wp2
    go_ret
    exact ⟨rfl, HE.out⟩
  have hnI : ¬ ((N : Int) > 6) := by omega
  obtain ⟨n, hn0⟩ : ∃ n, 1 + nb % 6 = n := ⟨_, rfl⟩
  have hn1 : 1 ≤ n := by omega
  have hn6 : n ≤ 6 := by omega
  have hnn : 1 + (nb : Int) % 6 = (n : Int) := by omega
  have htr := traces_any w1 ao N cap runs (HI.out.keep HB.out) n hn1 hn6
  have HN : Hid (n ≤ 6 ∧ 1 ≤ n) := ⟨hn6, hn1⟩
  clear hn0 hn1 hn6
  go_wp2_with fail
  refine htr.mono ?_
  rintro e w2 ⟨g, R, rfl, htl, b2⟩
  have hlen : ∀ i, i < n → (traceX n runs (min N 6) i).length ≤ 200 := fun i _ => by
    have := traceX_len n runs (min N 6) i
    omega
  have hev := htl.evs (by have := HN.out; omega) (fun i hi => by have := hlen i hi; omega)
  have hess : (List.range n).map (traceX n runs (min N 6)) = tracesD n runs := by unfold tracesD; rw [hNr]
  rw [hess] at hev
  have hok := traces_ok (runs := runs) HN.out.2 HN.out.1
  have hsum := traces_sum (runs := runs) HN.out.1
  have hvw := views_any w2 (some ⟨g, 0, none⟩) n n (tracesD n runs) hev.lt hok hsum
  have HD : Hid (DocViews (tracesD n runs) ∧ (∀ es ∈ tracesD n runs, ∀ e ∈ es, EvOk e) ∧ Below w.heap.size w w2) := ⟨good_doc n runs HN.out.2 HN.out.1, hok, HB.out.trans (b2.mono HB.out.size)⟩
  clear htl hev hess hok hsum hlen b2 htr
  go_wp2_with fail
  refine hvw.mono ?_
  rintro e w3 ⟨b, rfl, hb, b3⟩
  have hbt : b = true := views_same HD.out.2.1 hb (by simp [HD.out.1])
  subst hbt
  have HE : Hid (Below w.heap.size w w3) := HD.out.2.2.trans (b3.mono HD.out.2.2.size)
  clear hvw hb b3
  go_wp2
  go_ret
  exact ⟨rfl, HE.out⟩

set_option maxRecDepth 100000 in
theorem lifted (os : Os) (started : os.Started) (H : Type) (enc : TypeId × Value → H) :
    ReturnsInHanded {} Try.checked os 6 .any (Rows.judgeGoodSpec.pre6 enc Try.prog Try.f6 Rows.judgeGoodRow.domain false) (Rows.judgeGoodSpec.post enc Try.prog Try.f6 false true false false) := by
  refine returnsInHanded_of_change_sized (C := Try.checked) own started (by kernel_rfl) Try.func6
    (ChangeSpec.witness6 (enc := enc) (C := Try.checked) false ⟨#[], #[.int .u8 0, .slice none 0 0], []⟩ 12 (by kernel_rfl) (by kernel_rfl) (by kernel_rfl) (by kernel_rfl)) ?_
  intro W base args ds gs before hval0 hW hcnd hsz0 _
  have hsz : (DataW.weightsEach Try.prog (Try.f6.params.toList ++ Rows.judgeGoodSpec.plain.varTypes Try.prog) (ds ++ gs)).all (· ≤ reachBytes) = true := hsz0
  have hval : ∀ (j : Nat) t v, Try.f6.params[j]? = some t → args[j]? = some v → Value.okWide Try.prog W .any base t v := hval0
  have hW' := hW
  obtain ⟨p, q, hA0, hV, rfl, hfz, hnd⟩ := hW
  have hA : DataW.TrodAll enc Try.prog W 0 (fun _ => true) true Try.f6.params.toList args.toList ds p := hA0
  rw [Try.params6] at hA hval hsz
  obtain ⟨v0, vs0, d0, ds0, p0, q0, hargs0, rfl, rfl, h0, r0⟩ := trodAll_cons hA
  obtain ⟨v1, vs1, d1, ds1, p1, q1, hargs1, rfl, rfl, h1, r1⟩ := trodAll_cons r0
  obtain ⟨rfl, rfl, rfl⟩ := trodAll_nil r1
  obtain rfl : args = #[v0, v1] := by cases args; simp_all
  obtain ⟨rfl, rfl⟩ := trodVars_none hV
  obtain ⟨a0, rfl, rfl, rfl, w0⟩ := open_int Try.underlying5 (hval 0 5 v0 rfl rfl) h0
  obtain ⟨a1, len1, cap1, rfl⟩ := okWide_slice Try.underlying38 (hval 1 38 v1 rfl rfl)
  have k1 := h1
  have lt1 : ∀ x ∈ p1, x.block < W.heap.size := by obtain ⟨m, hm⟩ := k1; exact DataW.trod_lt m _ _ _ hm
  obtain ⟨xs1, hx1, hc1⟩ := open_runs h1 (fits_of hsz (j := 1) rfl rfl)
  clear hA0 hval0 hsz hsz0
  obtain ⟨n0, rfl, hn0⟩ := u8_of_wf w0
  refine (walk W n0 hn0 a1 len1 cap1 xs1 hx1 hc1).mono fun e W' ⟨he, bel⟩ => ?_
  subst he
  exact ⟨_, rfl, _, _, _, [], _, [], hW', trodAll_mk1 (shut_bool Try.underlying4 _), (trodAll_cons_mk (shut_int Try.underlying5 w0) (trodAll_cons_mk (Below.trod laidOut (by kernel_rfl) (of_decide_eq_true (by kernel_rfl)) k1 bel lt1) trodAll_mk0)), rfl, bel.frame _, fun h => by cases h⟩

theorem over : Rows.judgeGoodRow.holds Try.pinned (OpenSpec.ofChange Rows.judgeGoodSpec) :=
  OpenClaim.holds_of_wide 6 Try.f6 rfl rfl rfl rfl rfl rfl rfl ⟨rfl, rfl, rfl, rfl, rfl⟩ rfl rfl rfl rfl rfl (by kernel_rfl) Try.func6 (by kernel_rfl)
    (of_decide_eq_true (by kernel_rfl)) (by unfold Func.isWrapper; first | (rw [if_pos (by decide +kernel)]; kernel_rfl) | (rw [if_neg (by decide +kernel)]; exact ⟨rfl, rfl⟩))
    (fun os started H enc _ => lifted os started H enc)

end Go.Proofs.Ythnbijnpbjfoaaa.judgeGood
namespace Go.Proofs.Ythnbijnpbjfoaaa
theorem judgeGood_holds : Rows.JudgeGoodSaid := judgeGood.over
#print axioms judgeGood_holds
end Go.Proofs.Ythnbijnpbjfoaaa
