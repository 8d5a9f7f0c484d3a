/-
  The document's Merge: entries by their labels, with others.
-/
import Derived.Test.YtooeemhlpmiceaaFMergeA
namespace Go.Proofs.Ytooeemhlpmiceaa
open Go.RowKit
set_option linter.unusedVariables false
set_option linter.unusedSimpArgs false

set_option maxRecDepth 20000 in
set_option maxHeartbeats 4000000 in
theorem refMerge_any (p : Nat → Prop) (w : World) (hp : ∀ k, w.heap.size ≤ k → p k) (lo0 : Option Addr) (ln0 lc0 : Nat) (l0 : List En) (h0 : ER p w lo0 ln0 l0) (hz0 : lo0 = none → lc0 = 0) (mo : Option Addr) (mn mc : Nat) (more : List En) (hm : ER p w mo mn more) (hlen : ln0 + mn ≤ 100000) :
    Calls Try.prog 14 #[.slice lo0 ln0 lc0, .slice mo mn mc] w fun e w' => ∃ ao cap, e = .returned (.slice ao (mergeE l0 more).length cap) ∧ ER p w' ao (mergeE l0 more).length (mergeE l0 more) ∧ Below w.heap.size w w' ∧ (ao = none → cap = 0) := by
  have HP : Hid (∀ k, w.heap.size ≤ k → p k) := hp
  clear hp
  have hml := hm.1
  have hll := h0.1
  go_enter Try.func14, Try.ntmps14
  go_wp2_with fail
  go_loopw [0, 5] (fun lv kv wr => ∃ (k : Nat) (l : List En) (lo : Option Addr) (lc : Nat), k ≤ mn ∧ kv = .int .i64 k ∧ lv = .slice lo l.length lc ∧ l = mergeE l0 (more.take k) ∧ l.length ≤ ln0 + k ∧ ER p wr lo l.length l ∧ Below w.heap.size w wr ∧ Hid (lo = none → lc = 0)) (fun _ kv _ => mn - (intOf kv).toNat)
  case atStart => exact ⟨0, l0, lo0, lc0, by omega, rfl, by rw [hll], by simp [mergeE], by omega, by rw [hll]; exact h0, Below.refl _ _, hz0⟩
  case round =>
    obtain ⟨k, l, lo, lc, hk, rfl, rfl, hl, hll2, hEl, hb, HZ⟩ := hrel
    have HL : Hid (l = mergeE l0 (more.take k)) := hl
    clear hl h0 hz0
    have hMr := hm.bl hb
    by_cases hlt : k < mn
    · have hltI : (k : Int) < (mn : Int) := by omega
      have hk0 : ¬ ((k : Int) < 0) := by omega
      obtain ⟨e, he⟩ : ∃ z, more[k]? = some z := ⟨more[k]'(by omega), List.getElem?_eq_getElem (by omega)⟩
      have HE : Hid (more[k]? = some e) := he
      obtain ⟨b, off, hmo, _, hc⟩ := hMr.2.2 (by omega)
      obtain ⟨so, sn, sc, c0, c1, c2, c3, c4, hrow, hps⟩ := hc k e he
      have HPS : Hid (∀ a, so = some a → 0 < sn → p a.block) := hps
      clear hps
      have hfi := refFind_any p wr lo l.length lc l hEl e.1
      subst hmo
      unfold lab at hfi
      clear hc he
      go_wp2_with fail
      refine hfi.mono ?_
      rintro ee w1 ⟨⟨v1, bb, rfl, hbb, so1, sn1, sc1, rfl, _⟩, hu1⟩
      have hb1 := bl_step hb hu1.bl
      have hEl1 := hEl.bl hu1.bl
      have HM1 : Hid (ER p w1 (some ⟨b, off, none⟩) mn more) := hMr.bl hu1.bl
      have d0 := bl_cell hu1.bl c0
      have d1 := bl_cell hu1.bl c1
      have d2 := bl_cell hu1.bl c2
      have d3 := bl_cell hu1.bl c3
      have d4 := bl_cell hu1.bl c4
      have hrow1 := hrow.below hu1.bl (Nat.le_refl _)
      have HMS : Hid (mergeE l0 (more.take (k + 1)) = mstep l e) := by show _ = _; rw [mergeE_take HE.out, ← HL.out]
      clear hfi c0 c1 c2 c3 c4 hrow hMr hEl hu1 HL
      cases bb with
      | true =>
        have HF : Hid (l = mergeE l0 (more.take (k + 1))) := by
          show l = _
          rw [HMS.out]
          unfold mstep
          rw [← hbb, if_pos rfl]
        clear HMS hbb
        go_wp2
        go_roundw
        case rel => first | exact ⟨k + 1, l, lo, lc, by omega, by go_num, rfl, HF.out, by omega, hEl1, hb1, HZ⟩ | ((repeat apply Exists.intro); exact ⟨⟨k + 1, l, lo, lc, by omega, by go_num, rfl, HF.out, by omega, hEl1, hb1, HZ⟩, rfl⟩)
        case measure => simp [intOf]; omega
      | false =>
        have HF : Hid (insR e l = mergeE l0 (more.take (k + 1)) ∧ (insR e l).length = l.length + 1) := by
          refine ⟨?_, insR_len e l⟩
          rw [HMS.out]
          unfold mstep
          rw [← hbb, if_neg (by simp)]
        clear HMS hbb
        go_wp2_with fail
        go_loopw [8, 9, 10] (fun ov dv iv wr => ∃ (i : Nat) (d : Bool) (out : List En), i ≤ l.length ∧ iv = .int .i64 i ∧ dv = .bool d ∧ (∃ oo oc, ov = .slice oo out.length oc) ∧ out.length ≤ i + 1 ∧ OB p w1 wr ov out ∧ LaidE e l out d i) (fun _ _ iv _ => l.length - (intOf iv).toNat)
        case atStart => exact ⟨0, false, [], by omega, rfl, rfl, ⟨_, _, rfl⟩, by simp, OB.nil p w1, .inl ⟨rfl, by simp, fun j z hj => by omega⟩⟩
        case round =>
          obtain ⟨i, d, out, hi, rfl, rfl, ⟨oo, oc, rfl⟩, hol, hOB, hLd⟩ := hrel
          have HLD : Hid (LaidE e l out d i) := hLd
          have hb2 : Below w1.heap.size w1 wr := by obtain ⟨_, _, _, _, hq⟩ := hOB; exact hq
          have f0 := bl_cell hb2 d0
          have f1 := bl_cell hb2 d1
          have f2 := bl_cell hb2 d2
          have f3 := bl_cell hb2 d3
          have f4 := bl_cell hb2 d4
          have hln2 : l.length ≤ 100000 := by omega
          have hle1 : out.length ≤ 1000000 := by omega
          clear hLd
          by_cases hlti : i < l.length
          · have hltJ : (i : Int) < (l.length : Int) := by omega
            have hi0 : ¬ ((i : Int) < 0) := by omega
            obtain ⟨y, hy⟩ : ∃ z, l[i]? = some z := ⟨l[i]'hlti, List.getElem?_eq_getElem hlti⟩
            obtain ⟨c, off2, hlo, _, hc⟩ := (hEl1.bl hb2).2.2 (by omega)
            obtain ⟨to, tn, tc, g0, g1, g2, g3, g4, hrowy, _⟩ := hc i y hy
            obtain ⟨c', off2', hlo', _, hc'⟩ := hEl1.2.2 (by omega)
            obtain ⟨to', tn', tc', k0, k1, k2, k3, k4, hrowy1, hpt⟩ := hc' i y hy
            have HPT0 : Hid (∀ a, to' = some a → 0 < tn' → p a.block) := hpt
            clear hpt
            rw [hlo] at hlo'
            simp only [Option.some.injEq, Addr.mk.injEq] at hlo'
            obtain ⟨rfl, rfl, _⟩ := hlo'
            have e4 := bl_cell hb2 k4
            rw [g4] at e4
            simp only [Option.some.injEq, Value.slice.injEq] at e4
            obtain ⟨rfl, rfl, rfl⟩ := e4
            have HPT : Hid (∀ a, to = some a → 0 < tn → p a.block) := HPT0.out
            clear HPT0
            have HY : Hid (l[i]? = some y) := hy
            have HCY0 : Hid (∀ W, Below w1.heap.size w1 W → ∃ to' tn' tc', W.cell? ⟨c, off2 + i * 5, none⟩ = some (.int .u64 (y.1.1 : Nat)) ∧ W.cell? ⟨c, off2 + i * 5 + 1, none⟩ = some (.int .i64 y.1.2.1) ∧ W.cell? ⟨c, off2 + i * 5 + 2, none⟩ = some (.int .u64 (y.1.2.2.1 : Nat)) ∧ W.cell? ⟨c, off2 + i * 5 + 3, none⟩ = some (.int .i64 y.1.2.2.2) ∧ W.cell? ⟨c, off2 + i * 5 + 4, none⟩ = some (.slice to tn tc) ∧ to' = to ∧ tn' = tn ∧ tc' = tc) := fun W u => ⟨to, tn, tc, bl_cell u k0, bl_cell u k1, bl_cell u k2, bl_cell u k3, bl_cell u k4, rfl, rfl, rfl⟩
            subst hlo
            clear hc hc' hy hrowy k0 k1 k2 k3 k4
            obtain ⟨ex, em⟩ := e
            obtain ⟨yx, ym⟩ := y
            simp only at f0 f1 f2 f3 f4 g0 g1 g2 g3 g4 hrow1 hrowy1
            have u0 : Below wr.heap.size wr wr.drew := (Below.refl _ _).drew
            have HS : Hid (∀ W : World, Below wr.heap.size wr W → S11 b (off + k * 5) ex c (off2 + i * 5) yx W) := fun W u => ⟨bl_cell u f0, bl_cell u f1, bl_cell u f2, bl_cell u f3, bl_cell u g0, bl_cell u g1, bl_cell u g2, bl_cell u g3⟩
            have s0 := HS.out _ u0
            unfold S11 at s0
            cases d with
            | true =>
              have HLN : Hid (LaidE (ex, em) l (out ++ [(yx, ym)]) true (i + 1)) := HLD.out.behind HY.out
              obtain ⟨a0, a1, a2, a3, a4⟩ : _ ∧ _ ∧ _ ∧ _ ∧ _ := ⟨bl_cell u0 g0, bl_cell u0 g1, bl_cell u0 g2, bl_cell u0 g3, bl_cell u0 g4⟩
              have hOBd := hOB.bl u0
              obtain ⟨Wd, hWd⟩ : ∃ W, Hid (wr.drew = W) := ⟨_, rfl⟩
              rw [hWd.out] at hOBd a0 a1 a2 a3 a4
              clear HLD HY f0 f1 f2 f3 f4 g0 g1 g2 g3 g4
              go_wp2_with fail
              refine wp_region_noPanic ?_
              refine wp_region_held_drew (S := S11 b (off + k * 5) ex c (off2 + i * 5) yx) (by kernel_rfl) s0 (fun hHeld => ?_)
              unfold S11 at hHeld
              refine tq 0 ?_
              refine tq 1 ?_
              refine tq 2 ?_
              refine tqS 3 ?_
              refine tqS 4 ?_
              refine tqS 5 ?_
              refine tqS 6 ?_
              refine tqS 7 ?_
              refine tqS 8 ?_
              refine tqS 9 ?_
              refine tqS 10 ?_
              refine tqS 11 ?_
              refine tqS 12 ?_
              refine tqS 13 ?_
              refine tq 14 ?_
              refine wpAnyH_done (by kernel_rfl) ?_ _
              refine NoPanic.normal ?_
              clear hHeld s0
              rw [hWd.out]
              clear hWd
              go_wp2_with (at_builtin; refine dbg_stop (.tmp 56) (.tmp 61) rfl ?_)
              unfold Hid
              refine wpList_append_OB (w1 := w1) rfl (.tmp 56) (.tmp 61) rfl _ out rfl ?e1 yx ym to tn tc ?e2 HPT.out Wd.heap.size rfl rfl ?e3 ?_
              case e1 => exact hOBd
              case e2 => exact hrowy1
              case e3 => exact hle1
              intro v5 w5 hOB5
              obtain ⟨o5, q5, rfl⟩ := hOB5.shape
              clear hOBd hOB a0 a1 a2 a3 a4
              simp only [List.length_append, List.length_cons, List.length_nil, Nat.zero_add] at *
              go_wp2
              go_roundw
              case rel => first | exact ⟨i + 1, true, out ++ [(yx, ym)], by omega, by go_num, rfl, ⟨o5, q5, by simp⟩, by simp; omega, by simpa using hOB5, HLN.out⟩ | ((repeat apply Exists.intro); exact ⟨⟨i + 1, true, out ++ [(yx, ym)], by omega, by go_num, rfl, ⟨o5, q5, by simp⟩, by simp; omega, by simpa using hOB5, HLN.out⟩, rfl⟩)
              case measure => simp [intOf]; omega
            | false =>
              have hls := fun W => less_any W ex yx
              unfold lab at hls
              have HCL := cmpL_lt ex yx
              obtain ⟨dd, hdd⟩ : ∃ dd, decide (cmpL ex yx < 0) = dd := ⟨_, rfl⟩
              rw [hdd] at hls
              have HCY : Hid (∀ W, Below w1.heap.size w1 W → ∃ to' tn' tc', W.cell? ⟨c, off2 + i * 5, none⟩ = some (.int .u64 (yx.1 : Nat)) ∧ W.cell? ⟨c, off2 + i * 5 + 1, none⟩ = some (.int .i64 yx.2.1) ∧ W.cell? ⟨c, off2 + i * 5 + 2, none⟩ = some (.int .u64 (yx.2.2.1 : Nat)) ∧ W.cell? ⟨c, off2 + i * 5 + 3, none⟩ = some (.int .i64 yx.2.2.2) ∧ W.cell? ⟨c, off2 + i * 5 + 4, none⟩ = some (.slice to tn tc) ∧ to' = to ∧ tn' = tn ∧ tc' = tc) := HCY0
              cases dd with
              | false =>
                have HLN : Hid (LaidE (ex, em) l (out ++ [(yx, ym)]) false (i + 1)) := HLD.out.not HY.out (fun hh => by have := HCL.2 hh; simp at hdd; omega)
                clear HLD HY HCL hdd HCY
                go_wp2_with fail
                refine wp_region_noPanic ?_
                refine wp_region_held_drew (S := S11 b (off + k * 5) ex c (off2 + i * 5) yx) (by kernel_rfl) s0 (fun hHeld => ?_)
                unfold S11 at hHeld
                refine tq 0 ?_
                refine tq 1 ?_
                refine tq 2 ?_
                refine tq 3 ?_
                refine tq 4 ?_
                refine tq 5 ?_
                refine tq 6 ?_
                refine tq 7 ?_
                refine tq 8 ?_
                refine tq 9 ?_
                refine tq 10 ?_
                refine tq 11 ?_
                refine tq 12 ?_
                refine comes_up 13 rfl (by kernel_rfl) (fun K hK => ?_)
                go_simp
                refine (hls _).mono ?_
                rintro eo w2 ⟨rfl, hu2⟩
                have u2 := bl_step u0 hu2.bl
                have hOB2 := hOB.bl u2
                obtain ⟨a0, a1, a2, a3, a4⟩ : _ ∧ _ ∧ _ ∧ _ ∧ _ := ⟨bl_cell u2 g0, bl_cell u2 g1, bl_cell u2 g2, bl_cell u2 g3, bl_cell u2 g4⟩
                obtain ⟨b0, b1, b2, b3, b4⟩ : _ ∧ _ ∧ _ ∧ _ ∧ _ := ⟨bl_cell u2 f0, bl_cell u2 f1, bl_cell u2 f2, bl_cell u2 f3, bl_cell u2 f4⟩
                clear hls hu2 s0 f0 f1 f2 f3 f4 g0 g1 g2 g3 g4
                go_wp2_with fail
                refine hK.out _ _ (HS.out _ u2) (fun hHeld => ?_)
                clear hK K
                (try simp only [Act.put, List.setIfInBounds_toArray, List.set_cons_zero, List.set_cons_succ])
                refine tq 14 ?_
                refine wpAnyH_done (by kernel_rfl) ?_ _
                refine NoPanic.normal ?_
                clear hHeld
                go_wp2_with (at_builtin; refine dbg_stop (.tmp 56) (.tmp 61) rfl ?_)
                unfold Hid
                refine wpList_append_OB (w1 := w1) rfl (.tmp 56) (.tmp 61) rfl _ out rfl ?e1 yx ym to tn tc ?e2 HPT.out w2.heap.size rfl rfl ?e3 ?_
                case e1 => exact hOB2
                case e2 => exact hrowy1
                case e3 => exact hle1
                intro v5 w5 hOB5
                obtain ⟨o5, q5, rfl⟩ := hOB5.shape
                clear hOB2 hOB a0 a1 a2 a3 a4 b0 b1 b2 b3 b4
                simp only [List.length_append, List.length_cons, List.length_nil, Nat.zero_add] at *
                go_wp2
                go_roundw
                case rel => first | exact ⟨i + 1, false, out ++ [(yx, ym)], by omega, by go_num, rfl, ⟨o5, q5, by simp⟩, by simp; omega, by simpa using hOB5, HLN.out⟩ | ((repeat apply Exists.intro); exact ⟨⟨i + 1, false, out ++ [(yx, ym)], by omega, by go_num, rfl, ⟨o5, q5, by simp⟩, by simp; omega, by simpa using hOB5, HLN.out⟩, rfl⟩)
                case measure => simp [intOf]; omega

              | true =>
                have hol2 : out.length ≤ i := by
                  rcases HLD.out with ⟨_, h, _⟩ | ⟨h, _⟩
                  · rw [h, List.length_take]; omega
                  · cases h
                have HLN : Hid (LaidE (ex, em) l (out ++ [(ex, em)] ++ [(yx, ym)]) true (i + 1)) := HLD.out.now HY.out (HCL.1 (by simpa using hdd))
                clear HLD HY HCL hdd
                go_wp2_with fail
                refine wp_region_noPanic ?_
                refine wp_region_held_drew (S := S11 b (off + k * 5) ex c (off2 + i * 5) yx) (by kernel_rfl) s0 (fun hHeld => ?_)
                unfold S11 at hHeld
                refine tq 0 ?_
                refine tq 1 ?_
                refine tq 2 ?_
                refine tq 3 ?_
                refine tq 4 ?_
                refine tq 5 ?_
                refine tq 6 ?_
                refine tq 7 ?_
                refine tq 8 ?_
                refine tq 9 ?_
                refine tq 10 ?_
                refine tq 11 ?_
                refine tq 12 ?_
                refine comes_up 13 rfl (by kernel_rfl) (fun K hK => ?_)
                go_simp
                refine (hls _).mono ?_
                rintro eo w2 ⟨rfl, hu2⟩
                have u2 := bl_step u0 hu2.bl
                have hOB2 := hOB.bl u2
                obtain ⟨a0, a1, a2, a3, a4⟩ : _ ∧ _ ∧ _ ∧ _ ∧ _ := ⟨bl_cell u2 g0, bl_cell u2 g1, bl_cell u2 g2, bl_cell u2 g3, bl_cell u2 g4⟩
                obtain ⟨b0, b1, b2, b3, b4⟩ : _ ∧ _ ∧ _ ∧ _ ∧ _ := ⟨bl_cell u2 f0, bl_cell u2 f1, bl_cell u2 f2, bl_cell u2 f3, bl_cell u2 f4⟩
                clear hls hu2 s0 f0 f1 f2 f3 f4 g0 g1 g2 g3 g4
                go_wp2_with fail
                refine hK.out _ _ (HS.out _ u2) (fun hHeld => ?_)
                clear hK K
                (try simp only [Act.put, List.setIfInBounds_toArray, List.set_cons_zero, List.set_cons_succ])
                refine tq 14 ?_
                refine wpAnyH_done (by kernel_rfl) ?_ _
                refine NoPanic.normal ?_
                clear hHeld
                go_wp2_with (at_builtin; refine dbg_stop (.tmp 49) (.tmp 54) rfl ?_)
                unfold Hid
                refine wpList_append_OB (w1 := w1) rfl (.tmp 49) (.tmp 54) rfl _ out rfl ?e1 ex em so sn sc ?e2 HPS.out w2.heap.size rfl rfl ?e3 ?_
                case e1 => exact hOB2
                case e2 => exact hrow1
                case e3 => exact hle1
                intro v4 w4 hOB4
                have hb4 : Below w1.heap.size w1 w4 := by obtain ⟨_, _, _, _, hq⟩ := hOB4; exact hq
                obtain ⟨to', tn', tc', k0, k1, k2, k3, k4, _⟩ := HCY.out w4 hb4
                obtain ⟨o4, q4, rfl⟩ := hOB4.shape
                have ho4 : (out ++ [(ex, em)]).length = out.length + 1 := by simp
                have hle2 : (out ++ [(ex, em)]).length ≤ 1000000 := by simp; omega
                rw [ho4] at hOB4
                clear hOB2 hOB a0 a1 a2 a3 a4 b0 b1 b2 b3 b4
                go_wp2_with (at_builtin; refine dbg_stop (.tmp 56) (.tmp 61) rfl ?_)
                unfold Hid
                refine wpList_append_OB (w1 := w1) rfl (.tmp 56) (.tmp 61) rfl _ (out ++ [(ex, em)]) rfl ?e1 yx ym to tn tc ?e2 HPT.out w4.heap.size rfl rfl ?e3 ?_
                case e1 => exact hOB4
                case e2 => exact hrowy1
                case e3 => exact hle2
                intro v5 w5 hOB5
                obtain ⟨o5, q5, rfl⟩ := hOB5.shape
                clear hOB4 k0 k1 k2 k3 k4
                simp only [List.length_append, List.length_cons, List.length_nil, Nat.zero_add] at *
                go_wp2
                go_roundw
                case rel => first | exact ⟨i + 1, true, out ++ [(ex, em)] ++ [(yx, ym)], by omega, by go_num, rfl, ⟨o5, q5, by simp⟩, by simp; omega, by simpa using hOB5, HLN.out⟩ | ((repeat apply Exists.intro); exact ⟨⟨i + 1, true, out ++ [(ex, em)] ++ [(yx, ym)], by omega, by go_num, rfl, ⟨o5, q5, by simp⟩, by simp; omega, by simpa using hOB5, HLN.out⟩, rfl⟩)
                case measure => simp [intOf]; omega

          · obtain rfl : l.length = i := by omega
            have hltJ : ¬ ((l.length : Int) < (l.length : Int)) := by omega
            have HEND := HLD.out.end_
            clear HLD
            cases d with
            | true =>
              simp only [if_true] at HEND
              obtain ⟨o5, q5, hv5, hER5, hq5⟩ := hOB.er (fun k hk => HP.out k (Nat.le_trans hb1.size hk))
              simp only [Value.slice.injEq] at hv5
              obtain ⟨rfl, _, rfl⟩ := hv5
              have HQ5 : Hid (oo = none → oc = 0) := hq5
              clear hq5
              have HFI : Hid (out = insR e l) := HEND
              have hbf := hb1.trans (hb2.mono hb1.size)
              have hlo5 : out.length ≤ ln0 + (k + 1) := by rw [HFI.out, HF.out.2]; omega
              clear hOB HEND f0 f1 f2 f3 f4
              go_wp2
              go_roundw
              case rel => first | exact ⟨k + 1, out, oo, oc, by omega, by go_num, rfl, by rw [← HF.out.1]; exact HFI.out, hlo5, hER5, hbf, HQ5⟩ | ((repeat apply Exists.intro); exact ⟨⟨k + 1, out, oo, oc, by omega, by go_num, rfl, by rw [← HF.out.1]; exact HFI.out, hlo5, hER5, hbf, HQ5⟩, rfl⟩)
              case measure => simp [intOf]; omega
            | false =>
              simp only [Bool.false_eq_true, if_false] at HEND
              have HFI : Hid (out ++ [e] = insR e l) := HEND
              obtain ⟨ex, em⟩ := e
              simp only at f0 f1 f2 f3 f4 hrow1
              clear HEND
              go_wp2_with (at_builtin; refine dbg_stop (.tmp 65) (.tmp 70) rfl ?_)
              unfold Hid
              refine wpList_append_OB (w1 := w1) rfl (.tmp 65) (.tmp 70) rfl _ out rfl ?e1 ex em so sn sc ?e2 HPS.out wr.heap.size rfl rfl ?e3 ?_
              case e1 => exact hOB
              case e2 => exact hrow1
              case e3 => exact hle1
              intro v5 w5 hOB5
              obtain ⟨o5, q5, hv5, hER5, hq5⟩ := hOB5.er (fun k hk => HP.out k (Nat.le_trans hb1.size hk))
              subst hv5
              have HQ5 : Hid (o5 = none → q5 = 0) := hq5
              clear hq5
              have hb5 : Below w1.heap.size w1 w5 := by obtain ⟨_, _, _, _, hq⟩ := hOB5; exact hq
              have hbf := hb1.trans (hb5.mono hb1.size)
              have hlo5 : (out ++ [(ex, em)]).length ≤ ln0 + (k + 1) := by rw [HFI.out, HF.out.2]; omega
              clear hOB hOB5 f0 f1 f2 f3 f4
              generalize out ++ [(ex, em)] = out2 at *
              go_wp2
              go_roundw
              case rel => first | exact ⟨k + 1, out2, o5, q5, by omega, by go_num, rfl, by rw [← HF.out.1]; exact HFI.out, hlo5, hER5, hbf, HQ5⟩ | ((repeat apply Exists.intro); exact ⟨⟨k + 1, out2, o5, q5, by omega, by go_num, rfl, by rw [← HF.out.1]; exact HFI.out, hlo5, hER5, hbf, HQ5⟩, rfl⟩)
              case measure => simp [intOf]; omega
    · obtain rfl : mn = k := by omega
      have hltI : ¬ ((mn : Int) < (mn : Int)) := by omega
      have HF : Hid (mergeE l0 more = l) := by
        have := HL.out
        rw [List.take_of_length_le (by omega)] at this
        exact this.symm
      clear HL
      go_wp2
      go_ret
      rw [HF.out]
      first | exact ⟨lo, lc, rfl, hEl, hb, HZ.out⟩ | exact ⟨lo, ⟨lc, rfl⟩, hEl, hb, HZ.out⟩
end Go.Proofs.Ytooeemhlpmiceaa
