/-
  ContentFinds: what stands at any label, of entries by their labels. For every list of entries, label and byte; no condition but the form's reach.
-/
import Derived.Test.YtooeemhlpmiceaaFLaw
import Derived.Test.YtooeemhlpmiceaaEOne
namespace Go.Proofs.Ytooeemhlpmiceaa.contentFinds
open Go.ChangeShapes Go.WideShapes Go.ChangeAt Go.RowKit Go.Deep
set_option linter.unusedVariables false
set_option linter.unusedSimpArgs false

set_option maxRecDepth 20000 in
set_option maxHeartbeats 4000000 in
theorem walk (w : World) (ao : Option Addr) (n cap : Nat) (es : List En) (h : ER (fun _ => True) w ao n es) (hok : ∀ e ∈ es, OkE e) (_ : ao = none → n = 0) (_ : n ≤ cap) (_ : cap ≤ 140737488355328) (y : Lb) (_ : OkL y) (m : Nat) (hm : m < 256) :
    Calls Try.prog 4 #[.slice ao n cap, lab y, .int .u8 (m : Nat)] w fun e w' => e = .returned (.bool true) ∧ Below w.heap.size w w' := by
  have HOK : Hid (∀ e ∈ mergeE [] es, e.2.length ≤ 140737488355328) := fun e he => by
    rcases mergeE_mem es [] e he with h | h
    · simp at h
    · exact (hok e h).2
  have HASC : Hid (Asc (mergeE [] es)) := mergeE_asc es [] (by unfold Asc; simp)
  have hlen := mergeE_len es []
  have hmax := h.2.1
  have hel := h.1
  have b0 : Below w.heap.size w (w.alloc (.cells #[.int .u64 (y.1 : Nat), .int .i64 y.2.1, .int .u64 (y.2.2.1 : Nat), .int .i64 y.2.2.2] 34)) := bl1 _ _
  have c0 := LB.new w y
  have H0 := h.here.bl b0
  have haw := fun W => awake_any W
  obtain ⟨W0, hW0⟩ : ∃ W, Hid (w.alloc (.cells #[.int .u64 (y.1 : Nat), .int .i64 y.2.1, .int .u64 (y.2.2.1 : Nat), .int .i64 y.2.2.2] 34) = W) := ⟨_, rfl⟩
  rw [hW0.out] at b0 c0 H0
  obtain ⟨g, hg⟩ : ∃ g, Hid (w.heap.size = g) := ⟨_, rfl⟩
  rw [hg.out] at c0 H0
  have HG : Hid (g < W0.heap.size) := c0.lt
  clear hok h
  unfold lab
  go_enter Try.func4, Try.ntmps4
  go_wp2_with fail
  rw [hW0.out, hg.out]
  refine (haw _).mono ?_
  rintro e w1 ⟨rfl, u1⟩
  by_cases hbig : 150 < (n : Int)
  · go_wp2_with fail
    refine (haw _).mono ?_
    rintro e wz ⟨rfl, uz⟩
    have uf := bl_step b0 (bl_step u1 uz)
    go_wp2
    go_ret
    exact ⟨rfl, uf⟩
  have hme := refMerge_any (fun k => k ≠ g) w1 (fun k hk e => by have := HG.out; have := u1.size; omega) none 0 0 [] (ER.nil _ _ _) ao n cap es ((H0.bl u1).mono (fun k hk e => by have := hk.2; omega)) (by omega)
  have c1 := c0.bl u1
  obtain ⟨E, HE⟩ : ∃ E, Hid (mergeE [] es = E) := ⟨_, rfl⟩
  rw [HE.out] at hme HOK HASC hlen
  simp only [List.length_nil, Nat.zero_add] at hlen
  clear c0 haw
  go_wp2_with fail
  refine hme.mono ?_
  rintro e w2 ⟨bo, bc, rfl, hER, u2⟩
  have c2 := c1.bl u2
  have u12 := bl_step u1 u2
  have hb2 := bl_step b0 u12
  clear hme u2 c1 u1
  have TAIL : Hid (∀ (W : World) (z : Lb), LB g z W → ER (fun k => k ≠ g) W bo E.length E → (∀ W', Below W.heap.size W W' → LB g z W' ∧ ER (fun k => k ≠ g) W' bo E.length E ∧ True) ∧ Calls Try.prog 21 #[.slice bo E.length bc, lab z] W (fun e w' => FindIs W w' E z e ∧ Below W.heap.size W w') ∧ ∀ W', Below W.heap.size W W' → Calls Try.prog 22 #[.slice bo E.length bc, lab z] W' (fun e w' => FindIs W' w' E z e ∧ Up W' w')) := fun W z hz hE =>
    ⟨fun W' u => ⟨hz.bl u, hE.bl u, trivial⟩, find_any _ W bo E.length bc E hE HASC.out (by omega) HOK.out z, fun W' u => refFind_any _ W' bo E.length bc E (hE.bl u) z⟩
  clear HOK HASC
  by_cases h0 : n = 0
  · have h0I : ¬ (0 < (n : Int)) := by omega
    have TT := TAIL.out w2 y c2 hER
    obtain ⟨-, T2, T3⟩ := TT
    unfold lab at T2 T3
    obtain ⟨q0, q1, q2, q3⟩ := c2.bx
    go_wp2_with fail
    refine T2.mono ?_
    rintro e w4 ⟨hF, u4⟩
    obtain ⟨so1, sn1, sc1, rfl, hr1⟩ := hF.open
    obtain ⟨r0, r1, r2, r3⟩ := (c2.bl u4).bx
    have T4 := T3 w4 u4
    clear q0 q1 q2 q3 T2 T3 hF
    go_wp2_with fail
    refine T4.mono ?_
    rintro e w5 ⟨hF2, u5⟩
    obtain ⟨so2, sn2, sc2, rfl, hr2⟩ := hF2.open
    have k8 := Cd.conv_row (hr1.below u5.bl (Nat.le_refl _))
    have k9 := Cd.conv_row hr2
    have uf := bl_step hb2 (bl_step u4 u5.bl)
    clear r0 r1 r2 r3 T4 hF2 hr1 hr2
    generalize (findE E y).isSome = fb at *
    generalize (findE E y).getD [] = fp at *
    go_wp2
    go_ret
    exact ⟨ret_bool (by simp), uf⟩
  · have h0I : 0 < (n : Int) := by omega
    by_cases hev : m % 2 = 0
    · have hevI : ((m : Int) % 2) = 0 := by omega
      obtain ⟨i, hi⟩ : ∃ i : Nat, m % n = i := ⟨_, rfl⟩
      have hiI : ((m : Int) % (n : Int)) = (i : Int) := by rw [← hi]; exact (Int.natCast_emod m n).symm
      have hin : i < n := by rw [← hi]; exact Nat.mod_lt _ (by omega)
      have hinI : (i : Int) < (n : Int) := by omega
      have hi0 : ¬ ((i : Int) < 0) := by omega
      obtain ⟨x, hx⟩ : ∃ z, es[i]? = some z := ⟨es[i]'(by omega), List.getElem?_eq_getElem (by omega)⟩
      obtain ⟨b, off, hao, hpb, hc⟩ := (H0.bl u12).2.2 (by omega)
      obtain ⟨so, sn, sc, k0, k1, k2, k3, k4, _, _⟩ := hc i x hx
      subst hao
      obtain ⟨x, xm⟩ := x
      simp only at k0 k1 k2 k3 k4
      clear hc hx hi hev
      have c3 := LB.set c2 x
      have hE3 := hER.kp (kp_setRow w2 g #[.int .u64 (x.1 : Nat), .int .i64 x.2.1, .int .u64 (x.2.2.1 : Nat), .int .i64 x.2.2.2])
      have hb3 := bl_setRow hb2 g (Nat.le_of_eq hg.out) #[.int .u64 (x.1 : Nat), .int .i64 x.2.1, .int .u64 (x.2.2.1 : Nat), .int .i64 x.2.2.2]
      obtain ⟨W3, hW3⟩ : ∃ W, Hid (w2.setRow g #[.int .u64 (x.1 : Nat), .int .i64 x.2.1, .int .u64 (x.2.2.1 : Nat), .int .i64 x.2.2.2] = W) := ⟨_, rfl⟩
      rw [hW3.out] at c3 hE3 hb3
      have TT := TAIL.out W3 x c3 hE3
      obtain ⟨-, T2, T3⟩ := TT
      unfold lab at T2 T3
      obtain ⟨q0, q1, q2, q3⟩ := c3.bx
      go_wp2_with (refine wpList_store_row rfl 34 (.tmp 4) (.tmp 38) rfl g #[.int .u64 (x.1 : Nat), .int .i64 x.2.1, .int .u64 (x.2.2.1 : Nat), .int .i64 x.2.2.2] rfl rfl 34 _ c2 info34 rfl (by simp [Value.oneCell']) ?_; rw [hW3.out])
      refine T2.mono ?_
      rintro e w4 ⟨hF, u4⟩
      obtain ⟨so1, sn1, sc1, rfl, hr1⟩ := hF.open
      obtain ⟨r0, r1, r2, r3⟩ := (c3.bl u4).bx
      have T4 := T3 w4 u4
      clear q0 q1 q2 q3 T2 T3 hF
      go_wp2_with fail
      refine T4.mono ?_
      rintro e w5 ⟨hF2, u5⟩
      obtain ⟨so2, sn2, sc2, rfl, hr2⟩ := hF2.open
      have k8 := Cd.conv_row (hr1.below u5.bl (Nat.le_refl _))
      have k9 := Cd.conv_row hr2
      have uf := bl_step hb3 (bl_step u4 u5.bl)
      clear r0 r1 r2 r3 T4 hF2 hr1 hr2
      generalize (findE E x).isSome = fb at *
      generalize (findE E x).getD [] = fp at *
      go_wp2
      go_ret
      exact ⟨ret_bool (by simp), uf⟩
    · have hevI : ¬ (((m : Int) % 2) = 0) := by omega
      have TT := TAIL.out w2 y c2 hER
      obtain ⟨-, T2, T3⟩ := TT
      unfold lab at T2 T3
      obtain ⟨q0, q1, q2, q3⟩ := c2.bx
      go_wp2_with fail
      refine T2.mono ?_
      rintro e w4 ⟨hF, u4⟩
      obtain ⟨so1, sn1, sc1, rfl, hr1⟩ := hF.open
      obtain ⟨r0, r1, r2, r3⟩ := (c2.bl u4).bx
      have T4 := T3 w4 u4
      clear q0 q1 q2 q3 T2 T3 hF
      go_wp2_with fail
      refine T4.mono ?_
      rintro e w5 ⟨hF2, u5⟩
      obtain ⟨so2, sn2, sc2, rfl, hr2⟩ := hF2.open
      have k8 := Cd.conv_row (hr1.below u5.bl (Nat.le_refl _))
      have k9 := Cd.conv_row hr2
      have uf := bl_step hb2 (bl_step u4 u5.bl)
      clear r0 r1 r2 r3 T4 hF2 hr1 hr2
      generalize (findE E y).isSome = fb at *
      generalize (findE E y).getD [] = fp at *
      go_wp2
      go_ret
      exact ⟨ret_bool (by simp), uf⟩
set_option maxRecDepth 100000 in
theorem lifted (os : Os) (started : os.Started) (H : Type) (enc : TypeId × Value → H) :
    ReturnsInHanded {} Try.checked os 4 .any (Rows.contentFindsSpec.pre6 enc Try.prog Try.f4 Rows.contentFindsRow.domain false) (Rows.contentFindsSpec.post enc Try.prog Try.f4 false true false false) := by
  refine returnsInHanded_of_change_sized (C := Try.checked) own started (by kernel_rfl) Try.func4
    (ChangeSpec.witness6 (enc := enc) (C := Try.checked) false ⟨#[], #[.slice none 0 0, .agg #[.int .u64 0, .int .i64 0, .int .u64 0, .int .i64 0], .int .u8 0], []⟩ 12 (by kernel_rfl) (by kernel_rfl) (by kernel_rfl) (by kernel_rfl)) ?_
  intro W base args ds gs before hval0 hW hcnd hsz0 _
  have hsz : (DataW.weightsEach Try.prog (Try.f4.params.toList ++ Rows.contentFindsSpec.plain.varTypes Try.prog) (ds ++ gs)).all (· ≤ reachBytes) = true := hsz0
  have hval : ∀ (j : Nat) t v, Try.f4.params[j]? = some t → args[j]? = some v → Value.okWide Try.prog W .any base t v := hval0
  have hW' := hW
  obtain ⟨p, q, hA0, hV, rfl, hfz, hnd⟩ := hW
  have hA : DataW.TrodAll enc Try.prog W 0 (fun _ => true) true Try.f4.params.toList args.toList ds p := hA0
  rw [Try.params4] at hA hval hsz
  obtain ⟨v0, vs0, d0, ds0, p0, q0, hargs0, rfl, rfl, h0, r0⟩ := trodAll_cons hA
  obtain ⟨v1, vs1, d1, ds1, p1, q1, hargs1, rfl, rfl, h1, r1⟩ := trodAll_cons r0
  obtain ⟨v2, vs2, d2, ds2, p2, q2, hargs2, rfl, rfl, h2, r2⟩ := trodAll_cons r1
  obtain ⟨rfl, rfl, rfl⟩ := trodAll_nil r2
  obtain rfl : args = #[v0, v1, v2] := by cases args; simp_all
  obtain ⟨rfl, rfl⟩ := trodVars_none hV
  obtain ⟨a0, len0, cap0, rfl⟩ := okWide_slice Try.underlying22 (hval 0 22 v0 rfl rfl)
  have k0 := h0
  have lt0 : ∀ x ∈ p0, x.block < W.heap.size := by obtain ⟨m, hm⟩ := k0; exact DataW.trod_lt m _ _ _ hm
  obtain ⟨xs0, hx0, ho0, hz0, hc0, hd0⟩ := open_ents h0 (fits_of hsz (j := 0) rfl rfl)
  have k1 := h1
  have lt1 : ∀ x ∈ p1, x.block < W.heap.size := by obtain ⟨m, hm⟩ := k1; exact DataW.trod_lt m _ _ _ hm
  obtain ⟨x1, hx1, rfl⟩ := open_lab2 (hval 1 34 v1 rfl rfl) h1
  obtain ⟨a2, rfl, rfl, rfl, w2⟩ := open_int Try.underlying5 (hval 2 5 v2 rfl rfl) h2
  clear hA0 hval0 hsz hsz0
  obtain ⟨n2, rfl, hn2⟩ := u8_of_wf w2
  refine (walk W a0 len0 cap0 xs0 hx0 ho0 hz0 hc0 hd0 x1 hx1 n2 hn2).mono fun e W' ⟨he, bel⟩ => ?_
  subst he
  exact ⟨_, rfl, _, _, _, [], _, [], hW', trodAll_mk1 (shut_bool Try.underlying4 _), (trodAll_cons_mk (Below.trod laidOut (by kernel_rfl) (of_decide_eq_true (by kernel_rfl)) k0 bel lt0) (trodAll_cons_mk (Below.trod laidOut (by kernel_rfl) (of_decide_eq_true (by kernel_rfl)) k1 bel lt1) (trodAll_cons_mk (shut_int Try.underlying5 w2) trodAll_mk0))), rfl, bel.frame _, fun h => by cases h⟩

theorem over : Rows.contentFindsRow.holds Try.pinned (OpenSpec.ofChange Rows.contentFindsSpec) :=
  OpenClaim.holds_of_wide 4 Try.f4 rfl rfl rfl rfl rfl rfl rfl ⟨rfl, rfl, rfl, rfl, rfl⟩ rfl rfl rfl rfl rfl (by kernel_rfl) Try.func4 (by kernel_rfl)
    (of_decide_eq_true (by kernel_rfl)) (by unfold Func.isWrapper; first | (rw [if_pos (by decide +kernel)]; kernel_rfl) | (rw [if_neg (by decide +kernel)]; exact ⟨rfl, rfl⟩))
    (fun os started H enc _ => lifted os started H enc)

end Go.Proofs.Ytooeemhlpmiceaa.contentFinds
namespace Go.Proofs.Ytooeemhlpmiceaa
theorem contentFinds_holds : Rows.ContentFindsSaid := contentFinds.over
#print axioms contentFinds_holds
end Go.Proofs.Ytooeemhlpmiceaa
