/-
  ContentMerges: of any entries by their labels, with any others: all of them, by their labels; the first of a label stays. For all lists of entries; no condition but the form's reach.
-/
import Derived.Test.YtooeemhlpmiceaaFLaw
import Derived.Test.YtooeemhlpmiceaaFLabels
import Derived.Test.YtooeemhlpmiceaaTMerge
import Derived.Test.YtooeemhlpmiceaaERis
import Derived.Test.YtooeemhlpmiceaaESame
import Derived.Test.YtooeemhlpmiceaaEOne
namespace Go.Proofs.Ytooeemhlpmiceaa.contentMerges
open Go.ChangeShapes Go.WideShapes Go.ChangeAt Go.RowKit Go.Deep
set_option linter.unusedVariables false
set_option linter.unusedSimpArgs false

set_option maxRecDepth 20000 in
set_option maxHeartbeats 4000000 in
theorem walk (w : World) (ao : Option Addr) (n cap : Nat) (es : List En) (h : ER (fun _ => True) w ao n es) (hok : ∀ e ∈ es, OkE e) (hz : ao = none → n = 0 ∧ cap = 0) (_ : n ≤ cap) (hcap : cap ≤ 140737488355328)
    (bo : Option Addr) (m cbp : Nat) (ms : List En) (hm : ER (fun _ => True) w bo m ms) (hokm : ∀ e ∈ ms, OkE e) (hzm : bo = none → m = 0 ∧ cbp = 0) (_ : m ≤ cbp) (hcbp : cbp ≤ 140737488355328) :
    Calls Try.prog 3 #[.slice ao n cap, .slice bo m cbp] w fun e w' => e = .returned (.bool true) ∧ Below w.heap.size w w' := by
  have haw := fun W => awake_any W
  have hw1 : wrap64 ((n : Int) + m) = (n : Int) + m := IntWalk.wrap64_in _ (by omega)
  have hl1 := h.1
  have hl2 := hm.1
  go_enter Try.func3, Try.ntmps3
  go_wp2_with fail
  refine (haw _).mono ?_
  rintro e w1 ⟨rfl, u1⟩
  by_cases hbig : 150 < (n : Int) + m
  · go_wp2_with fail
    refine (haw _).mono ?_
    rintro e wz ⟨rfl, uz⟩
    have uf := bl_step u1 uz
    go_wp2
    go_ret
    exact ⟨rfl, uf⟩
  clear haw
  have HA : Hid (Asc (mergeE [] es)) := mergeE_asc es [] (by unfold Asc; simp)
  have hA := HA.out
  have hAl := mergeE_len es []
  have HOA : Hid (∀ e ∈ mergeE [] es, e.2.length ≤ 140737488355328) := fun e he => by
    rcases mergeE_mem es [] e he with h | h
    · simp at h
    · exact (hok e h).2
  have HC : Hid (mergeE [] (mergeE [] es ++ ms) = mergeE (mergeE [] es) ms) := mergeE_two hA ms
  have HAC : Hid (Asc (mergeE (mergeE [] es) ms)) := mergeE_asc ms _ hA
  have hCl := mergeE_len ms (mergeE [] es)
  have r1 := refMerge_any (fun _ => True) w1 (fun _ _ => trivial) none 0 0 [] (ER.nil _ _ _) ao n cap es (h.bl u1) (by omega)
  have r2 := fun W (u : Below w.heap.size w W) => merge_any W none 0 0 [] (ER.nil _ _ _) (fun _ => ⟨rfl, rfl⟩) ao n cap es (h.bl u) hz (by omega) (fun e he => (hok e (by simpa using he)).2)
  simp only [List.nil_append] at r2
  have HOM : Hid (∀ e ∈ mergeE [] es ++ ms, e.2.length ≤ 140737488355328) := fun e he => by
    rcases List.mem_append.1 he with h | h
    · exact HOA.out e h
    · exact (hokm e h).2
  clear HOA hok hokm hA
  generalize mergeE [] es = A at *
  generalize hCC : mergeE A ms = C at *
  simp only [List.length_nil, Nat.zero_add] at hAl
  go_wp2_with fail
  refine r1.mono ?_
  rintro e w2 ⟨a1, c1, rfl, hE1, u2⟩
  have u02 := bl_step u1 u2
  have r2' := r2 w2 u02
  clear r1 r2
  go_wp2_with fail
  refine r2'.mono ?_
  rintro e w3 ⟨v2, rfl, hO2, u3⟩
  obtain ⟨a2, c2, rfl, hz2, hE2⟩ := hO2.er2
  have u03 := bl_step u02 u3
  have r3 := merge_any w3 a2 A.length c2 A hE2 hz2 bo m cbp ms (hm.bl u03) hzm (by omega) HOM.out
  rw [HC.out] at r3
  clear r2' hO2 hz2
  go_wp2_with fail
  refine r3.mono ?_
  rintro e w4 ⟨v4, rfl, hO4, u4⟩
  obtain ⟨a3, c3, rfl, -, hE3⟩ := hO4.er2
  have u04 := bl_step u03 u4
  have u24 := bl_step u3 u4
  have r4 := refMerge_any (fun _ => True) w4 (fun _ _ => trivial) a1 A.length c1 A (hE1.bl u24) bo m cbp ms (hm.bl u04) (by omega)
  rw [hCC] at r4
  clear r3 hO4 HC hCC
  go_wp2_with fail
  refine r4.mono ?_
  rintro e w5 ⟨a4, c4, rfl, hE4, u5⟩
  have u05 := bl_step u04 u5
  have k1 := sameE_any _ _ w5 a1 A.length c1 A ((hE1.bl u24).bl u5) a2 A.length c2 A ((hE2.bl u4).bl u5)
  have hE3' := hE3.bl u5
  simp only [decide_true] at k1
  clear r4 hE1 hE2 hE3 u24 u2 u3 u4 u5 u02 u03 u04
  go_wp2_with fail
  refine k1.mono ?_
  rintro e w6 ⟨rfl, u6⟩
  have hE3 := hE3'.bl u6.bl
  have hE4' := hE4.bl u6.bl
  have u06 := bl_step u05 u6.bl
  have k2 := sameE_any _ _ w6 a3 C.length c3 C hE3 a4 C.length c4 C hE4'
  simp only [decide_true] at k2
  clear k1 hE4 hE3' u05 u6
  go_wp2_with fail
  refine k2.mono ?_
  rintro e w7 ⟨rfl, u7⟩
  have hE5 := hE3.bl u7.bl
  have hE6 := hE4'.bl u7.bl
  have u07 := bl_step u06 u7.bl
  have k3 := rising_any _ w7 a3 C.length c3 C hE5
  clear k2 hE3 hE4' u06 u7
  go_wp2_with fail
  refine k3.mono ?_
  rintro e w8 ⟨rr, rfl, hrr, u8⟩
  have hrt : rr = true := hrr.2 (asc_ris HAC.out)
  subst hrt
  have hE7 := hE5.bl u8.bl
  have hE8 := hE6.bl u8.bl
  have u08 := bl_step u07 u8.bl
  have k4 := labels_any _ w8 a3 C.length c3 C hE7 (by omega)
  clear k3 hE5 hE6 u07 u8 hrr HAC
  go_wp2_with fail
  refine k4.mono ?_
  rintro e w9 ⟨v9, rfl, hO9, u9⟩
  obtain ⟨a9, c9, rfl, hL9⟩ := LR.own hO9
  have hE9 := hE8.bl u9
  have u09 := bl_step u08 u9
  have k5 := refLabels_any _ w9 a4 C.length c4 C hE9 (by omega)
  clear k4 hE7 hE8 u08 u9 hO9
  go_wp2_with fail
  refine k5.mono ?_
  rintro e w10 ⟨v10, rfl, hO10, u10⟩
  obtain ⟨a10, c10, rfl, hL10⟩ := LR.own hO10
  have u010 := bl_step u09 u10
  have k6 := same_any w10 a9 C.length c9 _ (hL9.up u10) a10 C.length c10 _ hL10
  simp only [decide_true] at k6
  clear k5 hE9 u09 u10 hO10 hL9 hL10
  go_wp2_with fail
  refine k6.mono ?_
  rintro e w11 ⟨rfl, u11⟩
  have uf := bl_step u010 u11.bl
  clear k6
  go_wp2
  go_ret
  exact ⟨rfl, uf⟩
set_option maxRecDepth 100000 in
theorem lifted (os : Os) (started : os.Started) (H : Type) (enc : TypeId × Value → H) :
    ReturnsInHanded {} Try.checked os 3 .any (Rows.contentMergesSpec.pre6 enc Try.prog Try.f3 Rows.contentMergesRow.domain false) (Rows.contentMergesSpec.post enc Try.prog Try.f3 false true false false) := by
  refine returnsInHanded_of_change_sized (C := Try.checked) own started (by kernel_rfl) Try.func3
    (ChangeSpec.witness6 (enc := enc) (C := Try.checked) false ⟨#[], #[.slice none 0 0, .slice none 0 0], []⟩ 12 (by kernel_rfl) (by kernel_rfl) (by kernel_rfl) (by kernel_rfl)) ?_
  intro W base args ds gs before hval0 hW hcnd hsz0 _
  have hsz : (DataW.weightsEach Try.prog (Try.f3.params.toList ++ Rows.contentMergesSpec.plain.varTypes Try.prog) (ds ++ gs)).all (· ≤ reachBytes) = true := hsz0
  have hval : ∀ (j : Nat) t v, Try.f3.params[j]? = some t → args[j]? = some v → Value.okWide Try.prog W .any base t v := hval0
  have hW' := hW
  obtain ⟨p, q, hA0, hV, rfl, hfz, hnd⟩ := hW
  have hA : DataW.TrodAll enc Try.prog W 0 (fun _ => true) true Try.f3.params.toList args.toList ds p := hA0
  rw [Try.params3] at hA hval hsz
  obtain ⟨v0, vs0, d0, ds0, p0, q0, hargs0, rfl, rfl, h0, r0⟩ := trodAll_cons hA
  obtain ⟨v1, vs1, d1, ds1, p1, q1, hargs1, rfl, rfl, h1, r1⟩ := trodAll_cons r0
  obtain ⟨rfl, rfl, rfl⟩ := trodAll_nil r1
  obtain rfl : args = #[v0, v1] := by cases args; simp_all
  obtain ⟨rfl, rfl⟩ := trodVars_none hV
  obtain ⟨a0, len0, cap0, rfl⟩ := okWide_slice Try.underlying22 (hval 0 22 v0 rfl rfl)
  have k0 := h0
  have lt0 : ∀ x ∈ p0, x.block < W.heap.size := by obtain ⟨m, hm⟩ := k0; exact DataW.trod_lt m _ _ _ hm
  obtain ⟨xs0, hx0, ho0, hz0, hc0, hd0⟩ := open_ents h0 (fits_of hsz (j := 0) rfl rfl)
  obtain ⟨a1, len1, cap1, rfl⟩ := okWide_slice Try.underlying22 (hval 1 22 v1 rfl rfl)
  have k1 := h1
  have lt1 : ∀ x ∈ p1, x.block < W.heap.size := by obtain ⟨m, hm⟩ := k1; exact DataW.trod_lt m _ _ _ hm
  obtain ⟨xs1, hx1, ho1, hz1, hc1, hd1⟩ := open_ents h1 (fits_of hsz (j := 1) rfl rfl)
  clear hA0 hval0 hsz hsz0
  refine (walk W a0 len0 cap0 xs0 hx0 ho0 hz0 hc0 hd0 a1 len1 cap1 xs1 hx1 ho1 hz1 hc1 hd1).mono fun e W' ⟨he, bel⟩ => ?_
  subst he
  exact ⟨_, rfl, _, _, _, [], _, [], hW', trodAll_mk1 (shut_bool Try.underlying4 _), (trodAll_cons_mk (Below.trod laidOut (by kernel_rfl) (of_decide_eq_true (by kernel_rfl)) k0 bel lt0) (trodAll_cons_mk (Below.trod laidOut (by kernel_rfl) (of_decide_eq_true (by kernel_rfl)) k1 bel lt1) trodAll_mk0)), rfl, bel.frame _, fun h => by cases h⟩

theorem over : Rows.contentMergesRow.holds Try.pinned (OpenSpec.ofChange Rows.contentMergesSpec) :=
  OpenClaim.holds_of_wide 3 Try.f3 rfl rfl rfl rfl rfl rfl rfl ⟨rfl, rfl, rfl, rfl, rfl⟩ rfl rfl rfl rfl rfl (by kernel_rfl) Try.func3 (by kernel_rfl)
    (of_decide_eq_true (by kernel_rfl)) (by unfold Func.isWrapper; first | (rw [if_pos (by decide +kernel)]; kernel_rfl) | (rw [if_neg (by decide +kernel)]; exact ⟨rfl, rfl⟩))
    (fun os started H enc _ => lifted os started H enc)

end Go.Proofs.Ytooeemhlpmiceaa.contentMerges
namespace Go.Proofs.Ytooeemhlpmiceaa
theorem contentMerges_holds : Rows.ContentMergesSaid := contentMerges.over
#print axioms contentMerges_holds
end Go.Proofs.Ytooeemhlpmiceaa
