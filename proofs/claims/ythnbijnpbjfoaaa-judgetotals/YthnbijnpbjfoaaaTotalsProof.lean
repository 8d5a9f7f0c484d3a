/-
  JudgeTotals: for any lists of accepted and delivered messages judge.Total answers as the document's Total does: whether there is one sequence, and which. No condition but the form's reach.
-/
import Derived.Test.YthnbijnpbjfoaaaJRef
import Derived.Test.YthnbijnpbjfoaaaJAwake
import Derived.Test.YthnbijnpbjfoaaaJArgs
namespace Go.Proofs.Ythnbijnpbjfoaaa.judgeTotals
open Go.ChangeShapes Go.WideShapes Go.ChangeAt Go.RowKit Go.Deep
set_option linter.unusedVariables false

set_option maxRecDepth 10000 in
set_option maxHeartbeats 4000000 in
theorem walk (w : World) (ao : Option Addr) (n cap : Nat) (acc : List (List By)) (h : Bss w ao n acc) (hc : Cp (ao, n, cap)) (bo : Option Addr) (m c2 : Nat) (del : List (List Di)) (g : Iss w bo m del) (gc : Cp (bo, m, c2)) :
    Calls Try.prog 3 #[.slice ao n cap, .slice bo m c2] w fun e w' => e = .returned (.bool true) ∧ Below w.heap.size w w' := by
  have hl := h.len
  have hl2 := g.len
  have hm := h.le
  have hm2 := g.le
  have HI : Hid (Bss w ao n acc ∧ Iss w bo m del ∧ ∀ l ∈ del, l.length ≤ 4398046511104) := ⟨h, g, g.lens⟩
  clear h g hc gc
  go_enter Try.func3, Try.ntmps3
  go_wp2_with fail
  refine (awake_any _).mono ?_
  rintro e w1 ⟨rfl, b1⟩
  have HB : Hid (Below w.heap.size w w1) := b1
  clear b1
  by_cases hn : n ≤ 20
  · have hnI : ¬ ((n : Int) > 20) := by omega
    by_cases hmm : m ≤ 20
    · have hmI : ¬ ((m : Int) > 20) := by omega
      go_wp2_with fail
      go_loopw [5, 6] (fun sv iv wr => ∃ i s : Nat, i ≤ m ∧ iv = .int .i64 (i : Nat) ∧ sv = .int .i64 (s : Nat) ∧ s = sumL del i ∧ Below w.heap.size w wr) (fun _ iv _ => m - (intOf iv).toNat)
      case atStart => exact ⟨0, 0, by omega, rfl, rfl, (sumL_zero _).symm, HB.out⟩
      case round =>
        obtain ⟨i, s, hi, rfl, rfl, hs, hbl⟩ := hrel
        have HS : Hid (s = sumL del i) := hs
        clear hs
        by_cases hlt : i < m
        · have hltI : (i : Int) < (m : Int) := by omega
          have hi0 : ¬ ((i : Int) < 0) := by omega
          obtain ⟨l, hdl⟩ : ∃ l, del[i]? = some l := ⟨del[i]'(by omega), List.getElem?_eq_getElem (by omega)⟩
          obtain ⟨b, off, q, rfl, q0, _, hqi⟩ := (Iss.up HI.out.2.1 hbl).at hdl
          have hql := hqi.len
          have HN : Hid (s + q.2.1 = sumL del (i + 1)) := by
            show _ = _
            rw [sumL_step hdl, ← HS.out, hql]
          have hsb : s + q.2.1 ≤ (i + 1) * 4398046511104 := by rw [HN.out]; exact sumL_le _ _ HI.out.2.2
          have hsb2 : s + q.2.1 ≤ 100000000000000 := by omega
          obtain ⟨qa, qn, qc⟩ := q
          simp only at q0 HN hsb2
          clear hdl hqi hql hsb
          go_wp2
          go_roundw
          case rel => first | exact ⟨i + 1, s + qn, by omega, by go_num, by go_num, HN.out, hbl⟩ | ((repeat apply Exists.intro); exact ⟨⟨i + 1, s + qn, by omega, by go_num, by go_num, HN.out, hbl⟩, rfl⟩)
          case measure => simp [intOf]; omega
        · obtain rfl : i = m := by omega
          by_cases hs2 : s ≤ 2000
          · have hsI : ¬ ((s : Int) > 2000) := by omega
            have h9 : ∀ l ∈ del, l.length ≤ 9000 := fun l hlm => by
              have := sumL_mem hlm (Nat.le_of_eq hl2)
              have := HS.out
              omega
            have ht := total_any wr ao n cap acc (Bss.up HI.out.1 hbl) (by omega) bo i c2 del (Iss.up HI.out.2.1 hbl)
            go_wp2_with fail
            refine ht.mono ?_
            rintro e w2 ⟨hp, b2⟩
            have hbl2 := hbl.trans (b2.mono hbl.size)
            have hr := refTotal_any w2 ao n cap acc (Bss.up HI.out.1 hbl2) bo i c2 del (Iss.up HI.out.2.1 hbl2) h9
            clear ht
            rcases hp with ⟨r, S, rfl, h1, h2⟩ | ⟨r, rfl, h1, h2⟩
            · have HH : Hid (Its (fun _ => True) w2 r.1 r.2.1 S ∧ SeqOk acc del S) := ⟨h1, h2⟩
              clear h1 h2 b2
              go_wp2_with fail
              refine hr.mono ?_
              rintro e w3 ⟨hp, b3⟩
              obtain ⟨s', rfl, hi'⟩ : ∃ s' : Sr, e = .returned (.tuple #[.slice s'.1 s'.2.1 s'.2.2, .bool true]) ∧ Its (fun _ => True) w3 s'.1 s'.2.1 S := by
                rcases hp with ⟨r', S', e1, h1, h2⟩ | ⟨r', _, _, h2⟩
                · have := h2.unique HH.out.2
                  subst this
                  exact ⟨r', e1, h1⟩
                · exact absurd ⟨_, HH.out.2⟩ h2
              have hit := fun c1 c2 => items_any (fun _ => True) (fun _ => True) w3 r.1 s'.1 r.2.1 s'.2.1 c1 c2 S S (HH.out.1.up b3) hi'
              have HE : Hid (Below w.heap.size w w3) := hbl2.trans (b3.mono hbl2.size)
              simp only [decide_true] at hit
              clear hp b3 hr hi' hbl2
              go_wp2_with fail
              refine (hit _ _).mono ?_
              rintro e w4 ⟨rfl, u4⟩
              have HE2 : Hid (Below w.heap.size w w4) := bl_step HE.out u4.bl
              clear hit u4
              go_wp2
              go_ret
              exact ⟨rfl, HE2.out⟩
            · have HH : Hid (Its (fun _ => True) w2 r.1 r.2.1 [] ∧ ¬ ∃ S, SeqOk acc del S) := ⟨h1, h2⟩
              clear h1 h2 b2
              go_wp2_with fail
              refine hr.mono ?_
              rintro e w3 ⟨hp, b3⟩
              obtain ⟨s', rfl, hi'⟩ : ∃ s' : Sr, e = .returned (.tuple #[.slice s'.1 s'.2.1 s'.2.2, .bool false]) ∧ Its (fun _ => True) w3 s'.1 s'.2.1 [] := by
                rcases hp with ⟨r', S', e1, h1, h2⟩ | ⟨r', e1, h1, h2⟩
                · exact absurd ⟨_, h2⟩ HH.out.2
                · exact ⟨r', e1, h1⟩
              have hit := fun c1 c2 => items_any (fun _ => True) (fun _ => True) w3 r.1 s'.1 r.2.1 s'.2.1 c1 c2 [] [] (HH.out.1.up b3) hi'
              have HE : Hid (Below w.heap.size w w3) := hbl2.trans (b3.mono hbl2.size)
              simp only [decide_true] at hit
              clear hp b3 hr hi' hbl2
              go_wp2_with fail
              refine (hit _ _).mono ?_
              rintro e w4 ⟨rfl, u4⟩
              have HE2 : Hid (Below w.heap.size w w4) := bl_step HE.out u4.bl
              clear hit u4
              go_wp2
              go_ret
              exact ⟨rfl, HE2.out⟩
          · have hsI : (s : Int) > 2000 := by omega
            go_wp2
            go_ret
            exact ⟨rfl, hbl⟩
    · have hmI : (m : Int) > 20 := by omega
      go_wp2_with fail
      refine (awake_any _).mono ?_
      rintro e w2 ⟨rfl, b2⟩
      have HE : Hid (Below w.heap.size w w2) := HB.out.trans (b2.mono HB.out.size)
      clear b2
      go_wp2
      go_ret
      exact ⟨rfl, HE.out⟩
  · have hnI : (n : Int) > 20 := by omega
    go_wp2_with fail
    refine (awake_any _).mono ?_
    rintro e w2 ⟨rfl, b2⟩
    have HE : Hid (Below w.heap.size w w2) := HB.out.trans (b2.mono HB.out.size)
    clear b2
    go_wp2
    go_ret
    exact ⟨rfl, HE.out⟩

set_option maxRecDepth 100000 in
theorem lifted (os : Os) (started : os.Started) (H : Type) (enc : TypeId × Value → H) :
    ReturnsInHanded {} Try.checked os 3 .any (Rows.judgeTotalsSpec.pre6 enc Try.prog Try.f3 Rows.judgeTotalsRow.domain false) (Rows.judgeTotalsSpec.post enc Try.prog Try.f3 false true false false) := by
  refine returnsInHanded_of_change_sized (C := Try.checked) own started (by kernel_rfl) Try.func3
    (ChangeSpec.witness6 (enc := enc) (C := Try.checked) false ⟨#[], #[.slice none 0 0, .slice none 0 0], []⟩ 12 (by kernel_rfl) (by kernel_rfl) (by kernel_rfl) (by kernel_rfl)) ?_
  intro W base args ds gs before hval0 hW hcnd hsz0 _
  have hsz : (DataW.weightsEach Try.prog (Try.f3.params.toList ++ Rows.judgeTotalsSpec.plain.varTypes Try.prog) (ds ++ gs)).all (· ≤ reachBytes) = true := hsz0
  have hval : ∀ (j : Nat) t v, Try.f3.params[j]? = some t → args[j]? = some v → Value.okWide Try.prog W .any base t v := hval0
  have hW' := hW
  obtain ⟨p, q, hA0, hV, rfl, hfz, hnd⟩ := hW
  have hA : DataW.TrodAll enc Try.prog W 0 (fun _ => true) true Try.f3.params.toList args.toList ds p := hA0
  rw [Try.params3] at hA hval hsz
  obtain ⟨v0, vs0, d0, ds0, p0, q0, hargs0, rfl, rfl, h0, r0⟩ := trodAll_cons hA
  obtain ⟨v1, vs1, d1, ds1, p1, q1, hargs1, rfl, rfl, h1, r1⟩ := trodAll_cons r0
  obtain ⟨rfl, rfl, rfl⟩ := trodAll_nil r1
  obtain rfl : args = #[v0, v1] := by cases args; simp_all
  obtain ⟨rfl, rfl⟩ := trodVars_none hV
  obtain ⟨a0, len0, cap0, rfl⟩ := okWide_slice Try.underlying22 (hval 0 22 v0 rfl rfl)
  have k0 := h0
  have lt0 : ∀ x ∈ p0, x.block < W.heap.size := by obtain ⟨m, hm⟩ := k0; exact DataW.trod_lt m _ _ _ hm
  obtain ⟨xs0, hx0, hc0⟩ := open_bss h0 (fits_of hsz (j := 0) rfl rfl)
  obtain ⟨a1, len1, cap1, rfl⟩ := okWide_slice Try.underlying23 (hval 1 23 v1 rfl rfl)
  have k1 := h1
  have lt1 : ∀ x ∈ p1, x.block < W.heap.size := by obtain ⟨m, hm⟩ := k1; exact DataW.trod_lt m _ _ _ hm
  obtain ⟨xs1, hx1, hc1⟩ := open_iss h1 (fits_of hsz (j := 1) rfl rfl)
  clear hA0 hval0 hsz hsz0
  refine (walk W a0 len0 cap0 xs0 hx0 hc0 a1 len1 cap1 xs1 hx1 hc1).mono fun e W' ⟨he, bel⟩ => ?_
  subst he
  exact ⟨_, rfl, _, _, _, [], _, [], hW', trodAll_mk1 (shut_bool Try.underlying4 _), (trodAll_cons_mk (Below.trod laidOut (by kernel_rfl) (of_decide_eq_true (by kernel_rfl)) k0 bel lt0) (trodAll_cons_mk (Below.trod laidOut (by kernel_rfl) (of_decide_eq_true (by kernel_rfl)) k1 bel lt1) trodAll_mk0)), rfl, bel.frame _, fun h => by cases h⟩

theorem over : Rows.judgeTotalsRow.holds Try.pinned (OpenSpec.ofChange Rows.judgeTotalsSpec) :=
  OpenClaim.holds_of_wide 3 Try.f3 rfl rfl rfl rfl rfl rfl rfl ⟨rfl, rfl, rfl, rfl, rfl⟩ rfl rfl rfl rfl rfl (by kernel_rfl) Try.func3 (by kernel_rfl)
    (of_decide_eq_true (by kernel_rfl)) (by unfold Func.isWrapper; first | (rw [if_pos (by decide +kernel)]; kernel_rfl) | (rw [if_neg (by decide +kernel)]; exact ⟨rfl, rfl⟩))
    (fun os started H enc _ => lifted os started H enc)

end Go.Proofs.Ythnbijnpbjfoaaa.judgeTotals
namespace Go.Proofs.Ythnbijnpbjfoaaa
theorem judgeTotals_holds : Rows.JudgeTotalsSaid := judgeTotals.over
#print axioms judgeTotals_holds
end Go.Proofs.Ythnbijnpbjfoaaa
