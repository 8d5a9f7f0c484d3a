/-
  slices' symMerge of states, where the right part is one state.
-/
import Derived.Test.YtooeemhlpmiceaaTSym1
namespace Go.Proofs.Ytooeemhlpmiceaa.T
open Go.RowKit Go.Sort
set_option linter.unusedVariables false
set_option linter.unusedSimpArgs false

set_option maxRecDepth 10000 in
set_option maxHeartbeats 2000000 in
theorem sm_right (w : World) (g cap n : Nat) (A L Z : List Tg) (y : Tg) (ia im ib : Int) (hb : BlkT w g cap (A ++ L ++ [y] ++ Z)) (hn : (A ++ L ++ [y] ++ Z).length = n) (hmax : n ≤ 1000000) (hL : Asc L) (hL2 : 2 ≤ L.length) (htag : ∀ x ∈ L, x.2 < y.2) (hoky : OkS y.1) (hok : OkT L)
    (h1 : ia = (A.length : Nat)) (h2 : im = ((A.length + L.length : Nat) : Nat)) (h3 : ib = ((A.length + L.length + 1 : Nat) : Nat)) :
    Calls Try.prog 71 #[.slice (some ⟨g, 0, none⟩) n cap, .int .i64 ia, .int .i64 im, .int .i64 ib, .func (.func 44) #[] #[]] w fun e w' => e = .returned (.tuple #[]) ∧ ∃ M, M.Perm (L ++ [y]) ∧ Asc M ∧ BlkT w' g cap (A ++ M ++ Z) ∧ w.grownBy w' (some g) := by
  obtain ⟨a, HA⟩ : ∃ a : Nat, Hid (A.length = a) := ⟨_, rfl⟩
  obtain ⟨m, HM⟩ : ∃ m : Nat, Hid (A.length + L.length = m) := ⟨_, rfl⟩
  obtain ⟨b, HB⟩ : ∃ b : Nat, Hid (A.length + L.length + 1 = b) := ⟨_, rfl⟩
  rw [HA.out] at h1
  rw [HM.out] at h2
  rw [HB.out] at h3
  subst h1 h2 h3
  have hbn : b ≤ n := by have := HB.out; rw [← hn]; simp; omega
  have hm1 : m + 1 ≤ b := by have := HM.out; have := HB.out; omega
  have hm2 : b ≤ m + 1 := by have := HM.out; have := HB.out; omega
  have hab : a + 2 ≤ m := by have := HA.out; have := HM.out; omega
  have hsub : (b : Int) - (m : Int) = 1 := by omega
  have hsub0 : ((m : Int) - (a : Int) == 1) = false := by simp; omega
  have HR : Hid (Asc L ∧ (∀ x ∈ L, x.2 < y.2) ∧ OkS y.1 ∧ OkT L) := ⟨hL, htag, hoky, hok⟩
  have hDj : ∀ j, a ≤ j → j < m → ∃ x, L[j - a]? = some x ∧ x ∈ L ∧ (A ++ L ++ [y] ++ Z)[j]? = some x := fun j h1 h2 => by
    have e1 := HM.out
    have e2 := HA.out
    have hl : j - a < L.length := by omega
    refine ⟨L[j - a], List.getElem?_eq_getElem hl, List.getElem_mem hl, ?_⟩
    rw [List.append_assoc, List.append_assoc, List.getElem?_append_right (by omega), List.getElem?_append_left (by omega)]
    rw [show j - A.length = j - a by omega]
    exact List.getElem?_eq_getElem hl
  have hDm : (A ++ L ++ [y] ++ Z)[m]? = some y := by
    have e1 := HM.out
    rw [List.append_assoc (A ++ L)]
    exact mid_get (A ++ L) y Z (by simpa using e1)
  obtain ⟨D, HDD⟩ : ∃ D, Hid (A ++ L ++ [y] ++ Z = D) := ⟨_, rfl⟩
  rw [HDD.out] at hb hDm hDj
  have HD : Hid (∀ j, a ≤ j → j < m → ∃ x, L[j - a]? = some x ∧ x ∈ L ∧ D[j]? = some x) := hDj
  have HDm : Hid (D[m]? = some y) := hDm
  have HB0 : Hid (BlkT w g cap D) := hb
  clear hb hn hL hL2 htag hoky hok hDm hDj
  go_enter Try.func71, Try.ntmps71
  go_wp2_with fail
  go_loopw [14, 15, 16] (fun iv jv _ wr => ∃ (i j : Nat), iv = .int .i64 (i : Nat) ∧ jv = .int .i64 (j : Nat) ∧ a ≤ i ∧ i ≤ j ∧ j ≤ m ∧ (i = a ∨ a < i ∧ ∃ x, L[i - 1 - a]? = some x ∧ ltT x y) ∧ (j = m ∨ ∃ x, L[j - a]? = some x ∧ ltT y x) ∧ BlkT wr g cap D ∧ w.grownBy wr (some g)) (fun iv jv _ _ => (intOf jv).toNat - (intOf iv).toNat)
  case atStart => exact ⟨a, m, rfl, rfl, by omega, by omega, by omega, .inl rfl, .inl rfl, HB0.out, gr_refl _ _⟩
  case round =>
    clear HB0
    obtain ⟨i, j, rfl, rfl, hi, hij, hj, hlo, hhi, hblk, hgr⟩ := hrel
    by_cases hlt : i < j
    · have hltI : (i : Int) < (j : Int) := by omega
      obtain ⟨h, hh⟩ : ∃ h : Nat, (i + j) / 2 = h := ⟨_, rfl⟩
      have hhI : ((i : Int) + (j : Int)) / 2 = (h : Int) := by omega
      have hih : i ≤ h := by omega
      have hhj : h < j := by omega
      clear hh
      obtain ⟨x, hxL, hxm, hxD⟩ := HD.out h (by omega) (by omega)
      have two : Two g m h y x wr := hblk.two HDm.out hxD
      have hc := fun W => cmpS_any W y.1 x.1 HR.out.2.2.1 (HR.out.2.2.2 x hxm)
      have hltT := ltT_of (HR.out.2.1 x hxm)
      have htri : ¬ ltT y x → ltT x y := ltT_tri (by have := HR.out.2.1 x hxm; omega)
      generalize cmpS y.1 x.1 = d at hc hltT
      have hhn : (h : Int) < (n : Int) := by omega
      have han : (m : Int) < (n : Int) := by omega
      have HBK1 : Hid (BlkT wr g cap D ∧ w.grownBy wr (some g)) := ⟨hblk, hgr⟩
      have HLO : Hid ((i = a ∨ a < i ∧ ∃ x, L[i - 1 - a]? = some x ∧ ltT x y) ∧ (j = m ∨ ∃ x, L[j - a]? = some x ∧ ltT y x) ∧ L[h - a]? = some x) := ⟨hlo, hhi, hxL⟩
      unfold sta at hc
      clear hblk hgr hlo hhi hxL hxD hxm
      go_wp2_with fail
      refine wp_region_noPanic ?_
      refine wp_region_held_drew (S := fun wx => Two g m h y x wx) (by kernel_rfl) two (fun hHeld => ?_)
      refine tq 0 ?_
      refine tq 1 ?_
      refine tq 2 ?_
      refine tq 3 ?_
      refine tq 4 ?_
      refine tq 5 ?_
      refine tq 6 ?_
      refine tq 7 ?_
      refine tq 8 ?_
      refine comes_up 9 rfl (by kernel_rfl) (fun K hK => ?_)
      go_simp
      refine (hc _).mono ?_
      rintro e w1 ⟨rfl, hup⟩
      have two1 := Two.up hHeld hup
      have HB1 : Hid (BlkT w1 g cap D ∧ w.grownBy w1 (some g)) := ⟨HBK1.out.1.drew.up hup, gr_trans (gr_drew HBK1.out.2) (gr_below hup.bl _)⟩
      clear two hHeld hup HBK1
      go_wp2_with fail
      refine hK.out _ _ two1 (fun hHeld => ?_)
      clear hK K
      (try simp only [Act.put, List.setIfInBounds_toArray, List.set_cons_zero, List.set_cons_succ])
      by_cases hd : d < 0
      · skip
        have hdd : decide (d < 0) = true := by simpa using hd
        have hnd : (!decide (d < 0)) = false := by simp [hd]
        refine tq 10 ?_
        refine tq 11 ?_
        refine wpAnyH_done (by kernel_rfl) ?_ _
        refine NoPanic.normal ?_
        have hyx := hltT.1 hd
        clear hltT htri hHeld two1
        go_wp2
        go_roundw
        case rel =>
          have key : ∃ (i' j' : Nat), (Value.int .i64 (i : Int)) = .int .i64 (i' : Nat) ∧ (Value.int .i64 (h : Int)) = .int .i64 (j' : Nat) ∧ a ≤ i' ∧ i' ≤ j' ∧ j' ≤ m ∧ (i' = a ∨ a < i' ∧ ∃ x, L[i' - 1 - a]? = some x ∧ ltT x y) ∧ (j' = m ∨ ∃ x, L[j' - a]? = some x ∧ ltT y x) ∧ BlkT w1 g cap D ∧ w.grownBy w1 (some g) :=
            ⟨i, h, rfl, rfl, by omega, by omega, by omega, HLO.out.1, .inr ⟨x, HLO.out.2.2, hyx⟩, HB1.out.1, HB1.out.2⟩
          first | exact key | ((repeat apply Exists.intro); exact ⟨key, rfl⟩)
        case measure => simp [intOf]; omega
      · skip
        have hdd : decide (d < 0) = false := by simpa using hd
        have hnd : (!decide (d < 0)) = true := by simp [hd]
        refine tq 10 ?_
        refine tq 11 ?_
        refine wpAnyH_done (by kernel_rfl) ?_ _
        refine NoPanic.normal ?_
        have hxy := htri (fun h => hd (hltT.2 h))
        clear hltT htri hHeld two1
        go_wp2
        go_roundw
        case rel =>
          have key : ∃ (i' j' : Nat), (Value.int .i64 ((h : Int) + 1)) = .int .i64 (i' : Nat) ∧ (Value.int .i64 (j : Int)) = .int .i64 (j' : Nat) ∧ a ≤ i' ∧ i' ≤ j' ∧ j' ≤ m ∧ (i' = a ∨ a < i' ∧ ∃ x, L[i' - 1 - a]? = some x ∧ ltT x y) ∧ (j' = m ∨ ∃ x, L[j' - a]? = some x ∧ ltT y x) ∧ BlkT w1 g cap D ∧ w.grownBy w1 (some g) :=
            ⟨h + 1, j, by push_cast; rfl, rfl, by omega, by omega, hj, .inr ⟨by omega, x, HLO.out.2.2, hxy⟩, HLO.out.2.1, HB1.out.1, HB1.out.2⟩
          first | exact key | ((repeat apply Exists.intro); exact ⟨key, rfl⟩)
        case measure => simp [intOf]; omega
    · have hltI : ¬ ((i : Int) < (j : Int)) := by omega
      have hijE : i = j := by omega
      subst hijE
      obtain ⟨t, ht⟩ : ∃ t, i = a + t := ⟨i - a, by omega⟩
      have hbR : a + L.length = m := by have := HM.out; have := HA.out; omega
      have hasc : Asc (L.take t ++ y :: L.drop t) := asc_put HR.out.1 t
        (by rcases hlo with h | ⟨h0, x, h1, h2⟩
            · exact .inl (by omega)
            · exact .inr ⟨x, by rw [show i - 1 - a = t - 1 by omega] at h1; exact h1, h2⟩)
        (by rcases hhi with h | ⟨x, h1, h2⟩
            · exact .inl (by omega)
            · exact .inr ⟨x, by rw [show i - a = t by omega] at h1; exact h1, h2⟩)
      have hpm : (L.take t ++ y :: L.drop t).Perm (L ++ [y]) := by
        have h1 := List.perm_middle (a := y) (l₁ := L.take t) (l₂ := L.drop t)
        rw [List.take_append_drop] at h1
        exact h1.trans (List.perm_append_singleton y L).symm
      obtain ⟨F, HF0⟩ : ∃ F, Hid (L.take t ++ y :: L.drop t = F) := ⟨_, rfl⟩
      have hbk0 : BlkT wr g cap (A ++ L ++ y :: ([] ++ Z)) := by rw [← HDD.out] at hblk; simpa using hblk
      have HE : Hid (F.Perm (L ++ [y]) ∧ Asc F ∧ BlkT wr g cap (A ++ L ++ y :: ([] ++ Z)) ∧ w.grownBy wr (some g)) := ⟨by rw [← HF0.out]; exact hpm, by rw [← HF0.out]; exact hasc, hbk0, hgr⟩
      have hti1 : a + t ≤ i := by omega
      have hti2 : i ≤ a + t := by omega
      clear ht hblk hgr hlo hhi hpm hasc hbk0 HDm HD
      go_wp2_with fail
      go_loopw [17] (fun kv wq => ∃ (k : Nat) (La Lb : List Tg), kv = .int .i64 (k : Nat) ∧ a + La.length = k ∧ t ≤ La.length ∧ L = La ++ Lb ∧ BlkT wq g cap (A ++ La ++ y :: (Lb ++ Z)) ∧ w.grownBy wq (some g)) (fun kv _ => (intOf kv).toNat)
      case atStart => exact ⟨m, L, [], rfl, hbR, by omega, by simp, HE.out.2.2.1, HE.out.2.2.2⟩
      case round =>
        obtain ⟨k, La, Lb, rfl, hk, htl, hLL, hblk, hgr⟩ := hrel
        have hab2 : La.length + Lb.length = L.length := by rw [hLL]; simp
        by_cases hend : La.length = t
        · have hkI : ¬ ((i : Int) < (k : Int)) := by omega
          have HF : Hid (F.Perm (L ++ [y]) ∧ Asc F ∧ BlkT wr g cap (A ++ F ++ Z) ∧ w.grownBy wr (some g)) := by
            refine ⟨HE.out.1, HE.out.2.1, ?_, hgr⟩
            have e1 : L.take t = La := by rw [hLL, ← hend]; simp
            have e2 : L.drop t = Lb := by rw [hLL, ← hend]; simp
            rw [← HF0.out, e1, e2]
            simpa using hblk
          clear hblk hgr hLL HE HF0
          go_wp2
          (try simp only [Exit.inBlock, Exit.then])
          refine bodyPost_ret (results_none rfl _ _ _) rfl ?_
          exact ⟨rfl, F, HF.out.1, HF.out.2.1, (by first | exact HF.out.2.2.1 | (rw [← List.append_assoc]; exact HF.out.2.2.1)), HF.out.2.2.2⟩
        · have hkI : (i : Int) < (k : Int) := by omega
          rcases List.eq_nil_or_concat La with hLa | ⟨La', u, hLa⟩
          · exfalso; subst hLa; simp at htl hend; omega
          have hLac : La = La' ++ [u] := by rw [hLa]; simp
          clear hLa
          subst hLac
          obtain ⟨q, rfl⟩ : ∃ q, k = q + 1 := ⟨a + La'.length, by simp at hk; omega⟩
          have hq : (A ++ La').length = q := by have := HA.out; simp at hk ⊢; omega
          have hq1 : (A ++ La' ++ [u]).length = q + 1 := by rw [List.length_append, hq]; rfl
          have el1 : A ++ (La' ++ [u]) ++ y :: (Lb ++ Z) = (A ++ La' ++ [u]) ++ y :: (Lb ++ Z) := by simp
          have el1b : A ++ (La' ++ [u]) ++ y :: (Lb ++ Z) = (A ++ La') ++ u :: (y :: (Lb ++ Z)) := by simp
          have el2 : (A ++ La' ++ [u]) ++ u :: (Lb ++ Z) = (A ++ La') ++ u :: (u :: (Lb ++ Z)) := by simp
          have el3 : (A ++ La') ++ y :: (u :: (Lb ++ Z)) = A ++ La' ++ y :: ((u :: Lb) ++ Z) := by simp
          obtain ⟨c0, c1, c2, c3, c4⟩ := BlkT.get (by rw [el1] at hblk; exact hblk) hq1
          obtain ⟨d0, d1, d2, d3, d4⟩ := BlkT.get (by rw [el1b] at hblk; exact hblk) hq
          have p1 := BlkT.put (by rw [el1] at hblk; exact hblk) hq1 u
          rw [el2] at p1
          have p2 := BlkT.put p1.1 hq y
          rw [el3] at p2
          have HP : Hid _ := And.intro p2.1 (gr_trans hgr (gr_trans p1.2 p2.2))
          have hfz := fun j => Blk.free hblk j
          have HRR : Hid (L = La' ++ (u :: Lb) ∧ a + La'.length = q ∧ t ≤ La'.length) := ⟨by rw [hLL]; simp, by simp at hk; omega, by simp at htl hend; omega⟩
          have hkn : (q : Int) + 1 < (n : Int) := by simp at hab2 hk; omega
          have hkn' : (q : Int) < (n : Int) := by omega
          have hk0 : ¬ ((q : Int) + 1 < 0) := by omega
          have hkI' : (i : Int) < (q : Int) + 1 := by omega
          have hwq : IntKind.i64.wrap (q : Int) = (q : Int) := by rw [IntWalk.i64_left, IntWalk.wrap64_in _ (by omega)]
          clear p1 p2 el1 el1b el2 el3 hblk hgr hq hq1 hLL hab2 hk hend htl hkI
          go_wp2_with fail
          go_big_region
          all_goals go_wp2
          go_roundw
          case rel => first | exact ⟨q, La', u :: Lb, by go_num, HRR.out.2.1, HRR.out.2.2, HRR.out.1, HP.out.1.drew, gr_drew HP.out.2⟩ | ((repeat apply Exists.intro); exact ⟨⟨q, La', u :: Lb, by go_num, HRR.out.2.1, HRR.out.2.2, HRR.out.1, HP.out.1.drew, gr_drew HP.out.2⟩, rfl⟩)
          case measure => simp [intOf]
end Go.Proofs.Ytooeemhlpmiceaa.T
