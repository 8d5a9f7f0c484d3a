/-
  judge's Views.
-/
import Derived.Test.YthnbijnpbjfoaaaJViews1
namespace Go.Proofs.Ythnbijnpbjfoaaa
open Go.RowKit Go.Sort
set_option linter.unusedVariables false

def lenOf (v : Value) : Nat := match v with | .slice _ n _ => n | _ => 0
set_option maxRecDepth 10000 in
set_option maxHeartbeats 4000000 in
/-- The groups, one behind the other. -/
theorem Evs.keep {pE : Nat → Prop} {w w' : World} {ao : Option Addr} {n : Nat} {ess : List (List Ev)} (h : Evs pE w ao n ess) (u : Below w.heap.size w w') (k : Kp pE w w') : Evs pE w' ao n ess := Lr.keep h u (fun r x e => e.keep k)
theorem sum_take_le (ess : List (List Ev)) (k : Nat) : ((ess.take k).map List.length).sum ≤ (ess.map List.length).sum := by
  have : (ess.map List.length).sum = ((ess.take k).map List.length).sum + ((ess.drop k).map List.length).sum := by
    rw [← List.sum_append, ← List.map_append, List.take_append_drop]
  omega
theorem len_le_sum {ess : List (List Ev)} {es : List Ev} (h : es ∈ ess) : es.length ≤ (ess.map List.length).sum := by
  induction ess with
  | nil => simp at h
  | cons a r ih =>
    simp only [List.map_cons, List.sum_cons]
    rcases List.mem_cons.1 h with rfl | h
    · omega
    · have := ih h; omega
set_option maxRecDepth 10000 in
set_option maxHeartbeats 4000000 in
theorem views_any (w : World) (ao : Option Addr) (n cap : Nat) (ess : List (List Ev)) (h : Evs (fun b => b < w.heap.size) w ao n ess) (hok : ∀ es ∈ ess, ∀ e ∈ es, EvOk e) (hsum : (ess.map List.length).sum ≤ 9000) :
    Calls Try.prog 15 #[.slice ao n cap] w fun e w' => ∃ b : Bool, e = .returned (.bool b) ∧ ViewsR ess b ∧ RowKit.Below w.heap.size w w' := by
  have hl : ess.length = n := Lr.len h
  have hn : n ≤ 140737488355328 := Lr.le h
  have HI : Hid (Evs (fun b => b < w.heap.size) w ao n ess ∧ ∀ es ∈ ess, ∀ e ∈ es, EvOk e) := ⟨h, hok⟩
  clear h hok
  go_enter Try.func15, Try.ntmps15
  go_wp2_with fail
  go_loopw [3, 4, 5, 6, 7, 11] (fun lv _ _ _ _ iv wr => ∃ (k : Nat) (all : List Sy) (qs : List Nat) (r : Sr), k ≤ n ∧ iv = .int .i64 (k : Nat) ∧ lv = .slice r.1 r.2.1 r.2.2 ∧ VI w wr ess k all qs r) (fun _ _ _ _ _ iv _ => n - (intOf iv).toNat)
  case atStart => exact ⟨0, [], [], (none, 0, 0), by omega, rfl, rfl, VI.start w _ ess (Below.refl _ _)⟩
  case round =>
    obtain ⟨k, all, qs, r, hk, rfl, rfl, hvi⟩ := hrel
    have HV : Hid (VI w wr ess k all qs r) := hvi
    clear hvi
    by_cases hlt : k < n
    · have hltI : (k : Int) < (n : Int) := by omega
      have hk0 : ¬ ((k : Int) < 0) := by omega
      obtain ⟨es, hes⟩ : ∃ es, ess[k]? = some es := ⟨ess[k]'(by omega), List.getElem?_eq_getElem (by omega)⟩
      have hokk := HI.out.2 es (List.mem_of_getElem? hes)
      have h9 : es.length ≤ 9000 := Nat.le_trans (len_le_sum (List.mem_of_getElem? hes)) hsum
      have hev := HI.out.1.keep HV.out.bl (Kp.below HV.out.bl (fun b hb => hb))
      obtain ⟨b, off, x, hao, c0, hcp, hx⟩ := Lr.at hev hes
      have hx1 := hx.1
      have hst := stays_any (fun b => b < w.heap.size) wr k x.1 x.2.1 x.2.2 es hx hokk (fun b hb => Nat.lt_of_lt_of_le hb HV.out.bl.size) (by omega)
      have HE : Hid (ess[k]? = some es ∧ (∀ e ∈ es, EvOk e) ∧ es.length ≤ 9000) := ⟨hes, hokk, h9⟩
      subst hao
      clear hes hokk h9 hev hcp hx hx1
      go_wp2_with fail
      refine hst.mono ?_
      rintro e w3 ⟨hp, hb3⟩
      rcases hp with ⟨ys, qs2, r2, hsd, rfl, hown2, hql2, hfin2⟩ | ⟨hno, rfl⟩
      · have hown3 : w3.ownsRow w.heap.size 59 1 (.slice r.1 r.2.1 r.2.2) all.length (qs.map ptr) := own_keep HV.out.row hb3
        have hown2' : w3.ownsRow wr.heap.size 59 1 (.slice r2.1 r2.2.1 r2.2.2) ys.length (qs2.map ptr) := hown2
        have hbd : all.length + ys.length ≤ 100000 := by
          have h1 := HV.out.bd
          have h2 := sum_take_le ess k
          have h3 := (staysD_P HE.out.2.1 hsd).1
          have h4 := HE.out.2.2
          omega
        have hsz : w.heap.size ≤ w3.heap.size := Nat.le_trans HV.out.bl.size hb3.size
        have HF : Hid (staysD k es = some ys ∧ Below wr.heap.size wr w3 ∧ w3.ownsRow wr.heap.size 59 1 (slv r2) ys.length (qs2.map ptr) ∧ qs2.length = ys.length ∧ ∀ (j : Nat) q y, qs2[j]? = some q → ys[j]? = some y → Fin (fun b => (b < w.heap.size ∨ wr.heap.size ≤ b) ∧ (slv r2).ownBlock ≠ some b) w3 q y) := ⟨hsd, hb3, hown2, hql2, hfin2⟩
        clear hst hsd hb3 hown2 hql2 hfin2
        go_wp2_with (refine wpList_append_ptrs rfl (.tmp 24) (.tmp 25) rfl w.heap.size _ all.length (qs.map ptr) rfl ?d1 wr.heap.size _ ys.length qs2 rfl ?d2 ?d3 ?d4 ?_)
        case d1 => exact hown3
        case d2 => exact hown2'
        case d3 => exact hbd
        case d4 => exact hsz
        intro v' w4 hown4 hg4 hnil4 hat4
        obtain ⟨r', rfl, hvi⟩ := HV.out.step HE.out.1 HE.out.2.1 HE.out.2.2 HF.out.1 HF.out.2.1 HF.out.2.2.1 HF.out.2.2.2.1 HF.out.2.2.2.2 hown4 hg4 (by simpa [slv] using hnil4) hat4
        have HN : Hid (VI w w4 ess (k + 1) (all ++ ys) (qs ++ qs2) r') := hvi
        unfold slv
        clear hown3 hown2' hsz hown4 hg4 hnil4 hat4 hvi c0
        go_wp2
        go_roundw
        case rel => exact ⟨k + 1, all ++ ys, qs ++ qs2, r', by omega, by go_num, rfl, HN.out⟩
        case measure => simp [intOf]; omega
      · have HN : Hid (ViewsR ess false ∧ Below w.heap.size w w3) := ⟨.inl ⟨rfl, k, es, HE.out.1, hno⟩, bl_step HV.out.bl hb3⟩
        clear hst hno hb3
        go_wp2
        go_ret
        exact ⟨false, rfl, HN.out⟩
    · obtain rfl : k = n := by omega
      have hN9 : all.length ≤ 9000 := by
        have h1 := HV.out.bd
        have h2 := sum_take_le ess k
        omega
      obtain ⟨N, hN⟩ : ∃ N, all.length = N := ⟨_, rfl⟩
      have HNN : Hid (all.length = N ∧ ess.length = k) := ⟨hN, hl⟩
      by_cases h0 : N = 0
      · have hr := HV.out.nil (by omega)
        subst hr
        have hall : all = [] := List.length_eq_zero_iff.1 (by omega)
        have HX : Hid (ViewsR ess true ∧ Below w.heap.size w wr) := by
          refine ⟨.inr ⟨all, all, by rw [HNN.out.2]; exact HV.out.isAll, .refl _, ?_, ?_⟩, HV.out.bl⟩
          · rw [hall]; exact .nil
          · refine ⟨fun _ => ?_, fun _ => rfl⟩
            rw [hall]
            intro j hj
            simp at hj
        go_wp2_with fail
        refine (sort_none _ _).mono ?_
        rintro e w1 ⟨rfl, rfl⟩
        go_wp2
        refine wp_loop_rounds 1 ?_
        rw [rounds_succ]
        go_wp2
        go_ret
        exact ⟨true, rfl, HX.out⟩
      · obtain ⟨g, hrg⟩ : ∃ g, (slv r).ownBlock = some g := by
          rcases own_shape HV.out.row with ⟨_, e⟩ | ⟨g, c, e, _⟩
          · omega
          · exact ⟨g, by rw [e]; rfl⟩
        obtain ⟨c, hrc⟩ : ∃ c, r = (some ⟨g, 0, none⟩, N, c) := by
          rcases own_shape HV.out.row with ⟨_, e⟩ | ⟨g', c, e, _⟩
          · omega
          · rw [e] at hrg
            simp only [Value.ownBlock, Option.some.injEq] at hrg
            subst hrg
            obtain ⟨ra, rn, rc⟩ := r
            simp only [slv, Value.slice.injEq] at e
            obtain ⟨rfl, rfl, rfl⟩ := e
            exact ⟨_, by rw [hN]⟩
        have hown : wr.ownsRow w.heap.size 59 1 (.slice (some ⟨g, 0, none⟩) N c) N (qs.map ptr) := by
          have := HV.out.row
          rw [hN, hrc] at this
          exact this
        have hNc : N ≤ c := by
          rcases hown.2 with ⟨h1, _⟩ | ⟨g', cap', cur, h1, _, _, h2, _⟩
          · simp at h1
          · simp only [Value.slice.injEq] at h1
            obtain ⟨_, _, rfl⟩ := h1
            exact h2
        obtain ⟨k1, k2, k3⟩ := HV.out.keys hrg
        rw [hN] at k2
        have hso := sort_any wr g c N w.heap.size _ k1 k2 (by rw [k3]; exact hown) (by omega) (by omega)
        have HR : Hid ((slv r).ownBlock = some g ∧ w.heap.size ≤ g) := ⟨hrg, by have := (own_blk HV.out.row hrg).1; exact this⟩
        subst hrc
        clear k1 k2 k3 hown hrg
        go_wp2_with fail
        refine hso.mono ?_
        rintro e w5 ⟨rfl, xs', hp, hpw, hown5, hg5⟩
        obtain ⟨srt, hs1, hs2, hgr⟩ := HV.out.srt HR.out.1 (by omega) (cap := c) hp hpw (by rw [hN]; exact hown5) hg5
        rw [hN] at hgr
        have hsl : srt.length = N := by rw [hs1.length_eq, hN]
        have HS : Hid (srt.Perm all ∧ srt.Pairwise (fun x y => ¬ ltV y.n y.p x.n x.p) ∧ Gr w5 (some ⟨g, 0, none⟩) N srt ∧ Below w.heap.size w w5 ∧ srt.length = N) := ⟨hs1, hs2, hgr, bl_grown HV.out.bl HV.out.bl.size hg5 (fun b e => by cases e; exact HR.out.2), hsl⟩
        have HFA : Hid (∀ y ∈ srt, y.node < 16 ∧ y.s < 65536 ∧ y.safe ≤ 9000) := fun y hy => HV.out.fact y (hs1.mem_iff.1 hy)
        clear hso hp hpw hown5 hg5 hs1 hs2 hgr hsl
        go_wp2_with fail
        go_loopw [3, 8] (fun lv _ wr => ∃ (i l cc : Nat) (ad : Addr), i + l = N ∧ l ≤ cc ∧ lv = .slice (some ad) l cc ∧ (0 < l → ad = ⟨g, i, none⟩) ∧ Bnd srt i ∧ DoneTo srt i ∧ Below w5.heap.size w5 wr) (fun lv _ _ => lenOf lv)
        case atStart => exact ⟨0, N, c, ⟨g, 0, none⟩, by omega, hNc, rfl, fun _ => rfl, fun a b h => absurd h (Nat.lt_irrefl 0), fun j hj => absurd hj (Nat.not_lt_zero j), Below.refl _ _⟩
        case round =>
          obtain ⟨i, l, cc, ad, hil, hlc, rfl, had, hbn, hdn, hu⟩ := hrel
          have HD : Hid (Bnd srt i ∧ DoneTo srt i ∧ Below w5.heap.size w5 wr) := ⟨hbn, hdn, hu⟩
          clear hbn hdn hu
          by_cases hl0 : 0 < l
          · obtain rfl := had hl0
            have hl0I : (0 : Int) < (l : Int) := by omega
            have hgr : Gr wr (some ⟨g, i, none⟩) l (srt.drop i) := by
              have := (HS.out.2.2.1.up HD.out.2.2).drop (m := i) (by omega)
              rw [Nat.zero_add, show N - i = l by omega] at this
              exact this
            obtain ⟨y0, hy0⟩ : ∃ y0, srt[i]? = some y0 := ⟨srt[i]'(by have := HS.out.2.2.2.2; omega), List.getElem?_eq_getElem (by have := HS.out.2.2.2.2; omega)⟩
            have hfi := first_any wr (some ⟨g, i, none⟩) l cc (srt.drop i) hgr y0 (by rw [List.getElem?_drop]; exact hy0)
            have HG : Hid (Gr wr (some ⟨g, i, none⟩) l (srt.drop i) ∧ srt[i]? = some y0) := ⟨hgr, hy0⟩
            clear hgr hy0 had
            go_wp2_with fail
            refine hfi.mono ?_
            rintro e w6 ⟨⟨m, hml, rfl, hfn⟩, u6⟩
            have hst := fun W => slice_to55 W g i l cc m (by omega)
            have hsf := fun W => slice_from55 W g i l cc m hml hlc
            have hag := agree_any w6 (some ⟨g, i, none⟩) m cc ((srt.drop i).take m) ((HG.out.1.up u6.bl).take hml) (fun y hy => HFA.out y (List.mem_of_mem_drop (List.mem_of_mem_take hy))) hfn.1 (by omega) (by omega)
            have HM : Hid (FirstN (srt.drop i) y0 m ∧ Below wr.heap.size wr w6) := ⟨hfn, u6.bl⟩
            have hm0 := hfn.1
            obtain ⟨ad', had'⟩ : ∃ ad' : Addr, (if cc = m then (⟨g, i, none⟩ : Addr) else ⟨g, i + m, none⟩) = ad' := ⟨_, rfl⟩
            rw [had'] at hsf
            have HA : Hid (0 < l - m → ad' = ⟨g, i + m, none⟩) := fun h => by rw [← had', if_neg (by omega)]
            clear hfi hfn u6 had'
            go_wp2_with fail
            refine hag.mono ?_
            rintro e w7 ⟨⟨b, rfl, hb⟩, u7⟩
            have HB : Hid ((b = true ↔ AgreeOk ((srt.drop i).take m)) ∧ Below w.heap.size w w7 ∧ Below w5.heap.size w5 w7) := ⟨hb, bl_step HS.out.2.2.2.1 (bl_step (bl_step HD.out.2.2 HM.out.2) u7), bl_step (bl_step HD.out.2.2 HM.out.2) u7⟩
            clear hag hb u7
            cases b with
            | true =>
              have hgn := grp_next HG.out.2 HM.out.1 HD.out.2.1 (HB.out.1.1 (by simp))
              have HN : Hid (Bnd srt (i + m) ∧ DoneTo srt (i + m)) := hgn
              clear hgn
              go_wp2
              go_roundw
              case rel => exact ⟨i + m, l - m, cc - m, ad', by omega, by omega, rfl, HA.out, HN.out.1, HN.out.2, HB.out.2.2⟩
              case measure => simp [lenOf]; omega
            | false =>
              have HX : Hid (ViewsR ess false) := by
                refine .inr ⟨all, srt, by rw [HNN.out.2]; exact HV.out.isAll, HS.out.1, HS.out.2.1, fun h => (by cases h), fun h => ?_⟩
                have := h i (by have := HS.out.2.2.2.2; omega) m y0 HG.out.2 HD.out.1 HM.out.1
                exact (by simpa using HB.out.1.2 this)
              go_wp2
              go_ret
              exact ⟨false, rfl, HX.out, HB.out.2.1⟩
          · obtain rfl : l = 0 := by omega
            have HX : Hid (ViewsR ess true) := by
              refine .inr ⟨all, srt, by rw [HNN.out.2]; exact HV.out.isAll, HS.out.1, HS.out.2.1, fun _ => ?_, fun _ => rfl⟩
              unfold GrpsOk
              rw [HS.out.2.2.2.2, ← hil]
              exact HD.out.2.1
            have HB : Hid (Below w.heap.size w wr) := bl_step HS.out.2.2.2.1 HD.out.2.2
            go_wp2
            go_ret
            exact ⟨true, rfl, HX.out, HB.out⟩
end Go.Proofs.Ythnbijnpbjfoaaa
