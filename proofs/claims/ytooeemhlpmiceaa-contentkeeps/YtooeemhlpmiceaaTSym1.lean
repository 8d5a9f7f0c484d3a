/-
  slices' symMerge of states, where the left part is one state.
-/
import Derived.Test.YtooeemhlpmiceaaTIns
namespace Go.Proofs.Ytooeemhlpmiceaa.T
open Go.RowKit Go.Sort
set_option linter.unusedVariables false
set_option linter.unusedSimpArgs false

set_option maxRecDepth 10000 in
set_option maxHeartbeats 2000000 in
theorem sm_left (w : World) (g cap n : Nat) (A R Z : List Tg) (x : Tg) (ia im ib : Int) (hb : BlkT w g cap (A ++ [x] ++ R ++ Z)) (hn : (A ++ [x] ++ R ++ Z).length = n) (hmax : n ≤ 1000000) (hR : Asc R) (htag : ∀ y ∈ R, x.2 < y.2) (hokx : OkS x.1) (hok : OkT R)
    (h1 : ia = (A.length : Nat)) (h2 : im = ((A.length + 1 : Nat) : Nat)) (h3 : ib = ((A.length + 1 + R.length : Nat) : Nat)) :
    Calls Try.prog 71 #[.slice (some ⟨g, 0, none⟩) n cap, .int .i64 ia, .int .i64 im, .int .i64 ib, .func (.func 44) #[] #[]] w fun e w' => e = .returned (.tuple #[]) ∧ ∃ M, M.Perm ([x] ++ R) ∧ Asc M ∧ BlkT w' g cap (A ++ M ++ Z) ∧ w.grownBy w' (some g) := by
  obtain ⟨a, HA⟩ : ∃ a : Nat, Hid (A.length = a) := ⟨_, rfl⟩
  obtain ⟨m, HM⟩ : ∃ m : Nat, Hid (A.length + 1 = m) := ⟨_, rfl⟩
  obtain ⟨b, HB⟩ : ∃ b : Nat, Hid (A.length + 1 + R.length = b) := ⟨_, rfl⟩
  rw [HA.out] at h1
  rw [HM.out] at h2
  rw [HB.out] at h3
  subst h1 h2 h3
  have hbn : b ≤ n := by have := HB.out; rw [← hn]; simp; omega
  have hm1 : a + 1 ≤ m := by have := HM.out; have := HA.out; omega
  have hm2 : m ≤ a + 1 := by have := HM.out; have := HA.out; omega
  have hab : m ≤ b := by have := HB.out; have := HM.out; omega
  have hsub : (m : Int) - (a : Int) = 1 := by omega
  have HR : Hid (Asc R ∧ (∀ y ∈ R, x.2 < y.2) ∧ OkS x.1 ∧ OkT R) := ⟨hR, htag, hokx, hok⟩
  have hDj : ∀ j, m ≤ j → j < b → ∃ y, R[j - m]? = some y ∧ y ∈ R ∧ (A ++ [x] ++ R ++ Z)[j]? = some y := fun j h1 h2 => by
    have e1 := HM.out
    have e2 := HB.out
    have hl : j - m < R.length := by omega
    refine ⟨R[j - m], List.getElem?_eq_getElem hl, List.getElem_mem hl, ?_⟩
    rw [List.append_assoc, List.getElem?_append_right (by simp; omega), List.getElem?_append_left (by simp; omega)]
    rw [show j - (A ++ [x]).length = j - m by simp; omega]
    exact List.getElem?_eq_getElem hl
  have hDa : (A ++ [x] ++ R ++ Z)[a]? = some x := by
    have e1 := HA.out
    rw [List.append_assoc, List.append_assoc]
    exact mid_get A x (R ++ Z) e1
  obtain ⟨D, HDD⟩ : ∃ D, Hid (A ++ [x] ++ R ++ Z = D) := ⟨_, rfl⟩
  rw [HDD.out] at hb hDa hDj
  have HD : Hid (∀ j, m ≤ j → j < b → ∃ y, R[j - m]? = some y ∧ y ∈ R ∧ D[j]? = some y) := hDj
  have HDa : Hid (D[a]? = some x) := hDa
  have HB0 : Hid (BlkT w g cap D) := hb
  clear hb hn hR htag hokx hok hDa hDj
  go_enter Try.func71, Try.ntmps71
  go_wp2_with fail
  go_loopw [10, 11, 12] (fun iv jv _ wr => ∃ (i j : Nat), iv = .int .i64 (i : Nat) ∧ jv = .int .i64 (j : Nat) ∧ m ≤ i ∧ i ≤ j ∧ j ≤ b ∧ (i = m ∨ ∃ y, R[i - 1 - m]? = some y ∧ ltT y x) ∧ (j = b ∨ ∃ y, R[j - m]? = some y ∧ ltT x y) ∧ BlkT wr g cap D ∧ w.grownBy wr (some g)) (fun iv jv _ _ => (intOf jv).toNat - (intOf iv).toNat)
  case atStart => exact ⟨m, b, rfl, rfl, by omega, by omega, by omega, .inl rfl, .inl rfl, HB0.out, gr_refl _ _⟩
  case round =>
    clear HB0
    obtain ⟨i, j, rfl, rfl, hi, hij, hj, hlo, hhi, hblk, hgr⟩ := hrel
    by_cases hlt : i < j
    · have hltI : (i : Int) < (j : Int) := by omega
      obtain ⟨h, hh⟩ : ∃ h : Nat, (i + j) / 2 = h := ⟨_, rfl⟩
      have hhI : ((i : Int) + (j : Int)) / 2 = (h : Int) := by omega
      have hih : i ≤ h := by omega
      have hhj : h < j := by omega
      clear hh
      obtain ⟨y, hyR, hym, hyD⟩ := HD.out h (by omega) (by omega)
      have two : Two g h a y x wr := hblk.two hyD HDa.out
      have hc := fun W => cmpS_any W y.1 x.1 (HR.out.2.2.2 y hym) HR.out.2.2.1
      have hltT := ltT_of (HR.out.2.1 y hym)
      have htri : ¬ ltT y x → ltT x y := ltT_tri (by have := HR.out.2.1 y hym; omega)
      generalize cmpS y.1 x.1 = d at hc hltT
      have hhn : (h : Int) < (n : Int) := by omega
      have han : (a : Int) < (n : Int) := by omega
      have HBK1 : Hid (BlkT wr g cap D ∧ w.grownBy wr (some g)) := ⟨hblk, hgr⟩
      have HLO : Hid ((i = m ∨ ∃ y, R[i - 1 - m]? = some y ∧ ltT y x) ∧ (j = b ∨ ∃ y, R[j - m]? = some y ∧ ltT x y) ∧ R[h - m]? = some y) := ⟨hlo, hhi, hyR⟩
      unfold sta at hc
      clear hblk hgr hlo hhi hyR hyD hym
      go_wp2_with fail
      refine wp_region_noPanic ?_
      refine wp_region_held_drew (S := fun wx => Two g h a y x wx) (by kernel_rfl) two (fun hHeld => ?_)
      refine tq 0 ?_
      refine tq 1 ?_
      refine tq 2 ?_
      refine tq 3 ?_
      refine tq 4 ?_
      refine tq 5 ?_
      refine tq 6 ?_
      refine tq 7 ?_
      refine tq 8 ?_
      refine comes_up 9 rfl (by kernel_rfl) (fun K hK => ?_)
      go_simp
      refine (hc _).mono ?_
      rintro e w1 ⟨rfl, hup⟩
      have two1 := Two.up hHeld hup
      have HB1 : Hid (BlkT w1 g cap D ∧ w.grownBy w1 (some g)) := ⟨HBK1.out.1.drew.up hup, gr_trans (gr_drew HBK1.out.2) (gr_below hup.bl _)⟩
      clear two hHeld hup HBK1
      go_wp2_with fail
      refine hK.out _ _ two1 (fun hHeld => ?_)
      clear hK K
      (try simp only [Act.put, List.setIfInBounds_toArray, List.set_cons_zero, List.set_cons_succ])
      by_cases hd : d < 0
      · skip
        refine tq 10 ?_
        refine wpAnyH_done (by kernel_rfl) ?_ _
        refine NoPanic.normal ?_
        have hyx := hltT.1 hd
        clear hltT htri hHeld two1
        go_wp2
        go_roundw
        case rel =>
          have key : ∃ (i' j' : Nat), (Value.int .i64 ((h : Int) + 1)) = .int .i64 (i' : Nat) ∧ (Value.int .i64 (j : Int)) = .int .i64 (j' : Nat) ∧ m ≤ i' ∧ i' ≤ j' ∧ j' ≤ b ∧ (i' = m ∨ ∃ y, R[i' - 1 - m]? = some y ∧ ltT y x) ∧ (j' = b ∨ ∃ y, R[j' - m]? = some y ∧ ltT x y) ∧ BlkT w1 g cap D ∧ w.grownBy w1 (some g) :=
            ⟨h + 1, j, by push_cast; rfl, rfl, by omega, by omega, hj, .inr ⟨y, HLO.out.2.2, hyx⟩, HLO.out.2.1, HB1.out.1, HB1.out.2⟩
          first | exact key | ((repeat apply Exists.intro); exact ⟨key, rfl⟩)
        case measure => simp [intOf]; omega
      · skip
        refine tq 10 ?_
        refine wpAnyH_done (by kernel_rfl) ?_ _
        refine NoPanic.normal ?_
        have hxy := htri (fun h => hd (hltT.2 h))
        clear hltT htri hHeld two1
        go_wp2
        go_roundw
        case rel =>
          have key : ∃ (i' j' : Nat), (Value.int .i64 (i : Int)) = .int .i64 (i' : Nat) ∧ (Value.int .i64 (h : Int)) = .int .i64 (j' : Nat) ∧ m ≤ i' ∧ i' ≤ j' ∧ j' ≤ b ∧ (i' = m ∨ ∃ y, R[i' - 1 - m]? = some y ∧ ltT y x) ∧ (j' = b ∨ ∃ y, R[j' - m]? = some y ∧ ltT x y) ∧ BlkT w1 g cap D ∧ w.grownBy w1 (some g) :=
            ⟨i, h, rfl, rfl, by omega, by omega, by omega, HLO.out.1, .inr ⟨y, HLO.out.2.2, hxy⟩, HB1.out.1, HB1.out.2⟩
          first | exact key | ((repeat apply Exists.intro); exact ⟨key, rfl⟩)
        case measure => simp [intOf]; omega
    · have hltI : ¬ ((i : Int) < (j : Int)) := by omega
      have hijE : i = j := by omega
      subst hijE
      obtain ⟨t, ht⟩ : ∃ t, i = m + t := ⟨i - m, by omega⟩
      have hbR : m + R.length = b := by have := HM.out; have := HB.out; omega
      have hasc : Asc (R.take t ++ x :: R.drop t) := asc_put HR.out.1 t
        (by rcases hlo with h | ⟨y, h1, h2⟩
            · exact .inl (by omega)
            · by_cases ht0 : t = 0
              · exact .inl ht0
              · exact .inr ⟨y, by rw [show i - 1 - m = t - 1 by omega] at h1; exact h1, h2⟩)
        (by rcases hhi with h | ⟨y, h1, h2⟩
            · exact .inl (by omega)
            · exact .inr ⟨y, by rw [show i - m = t by omega] at h1; exact h1, h2⟩)
      have hlt : (R.take t).length = t := by rw [List.length_take]; omega
      have hpm : (R.take t ++ x :: R.drop t).Perm ([x] ++ R) := by
        have := List.perm_middle (a := x) (l₁ := R.take t) (l₂ := R.drop t)
        rw [List.take_append_drop] at this
        exact this
      have hbk0 : BlkT wr g cap (A ++ [] ++ x :: (R.take t ++ (R.drop t ++ Z))) := by
        rw [← List.append_assoc (R.take t), List.take_append_drop]; rw [← HDD.out] at hblk; simpa using hblk
      generalize R.take t = R1 at *
      generalize R.drop t = R2 at *
      have HE : Hid ((R1 ++ x :: R2).Perm ([x] ++ R) ∧ Asc (R1 ++ x :: R2) ∧ BlkT wr g cap (A ++ [] ++ x :: (R1 ++ (R2 ++ Z))) ∧ w.grownBy wr (some g)) := ⟨hpm, hasc, hbk0, hgr⟩
      obtain ⟨F, HF0⟩ : ∃ F, Hid (R1 ++ x :: R2 = F) := ⟨_, rfl⟩
      have hti1 : m + t ≤ i := by omega
      have hti2 : i ≤ m + t := by omega
      clear ht hblk hgr hlo hhi hpm hasc hbk0 HDa HD
      go_wp2_with fail
      go_loopw [13] (fun kv wq => ∃ (k : Nat) (Ra Rb : List Tg), kv = .int .i64 (k : Nat) ∧ a + Ra.length = k ∧ R1 = Ra ++ Rb ∧ BlkT wq g cap (A ++ Ra ++ x :: (Rb ++ (R2 ++ Z))) ∧ w.grownBy wq (some g)) (fun kv _ => a + t - (intOf kv).toNat)
      case atStart => exact ⟨a, [], R1, rfl, rfl, rfl, HE.out.2.2.1, HE.out.2.2.2⟩
      case round =>
        obtain ⟨k, Ra, Rb, rfl, hk, hRR, hblk, hgr⟩ := hrel
        have hab2 : Ra.length + Rb.length = t := by rw [← hlt, hRR]; simp
        cases Rb with
        | nil =>
          have hkI : ¬ ((k : Int) < (i : Int) - 1) := by simp at hab2; omega
          have HF : Hid (F.Perm ([x] ++ R) ∧ Asc F ∧ BlkT wr g cap (A ++ F ++ Z) ∧ w.grownBy wr (some g)) := ⟨by rw [← HF0.out]; exact HE.out.1, by rw [← HF0.out]; exact HE.out.2.1, by rw [← HF0.out, hRR]; simpa using hblk, hgr⟩
          clear hblk hgr hRR HE HF0
          go_wp2
          (try simp only [Exit.inBlock, Exit.then])
          refine bodyPost_ret (results_none rfl _ _ _) rfl ?_
          exact ⟨rfl, F, HF.out.1, HF.out.2.1, (by first | exact HF.out.2.2.1 | (rw [← List.append_assoc]; exact HF.out.2.2.1)), HF.out.2.2.2⟩
        | cons y Rb' =>
          have hkI : (k : Int) < (i : Int) - 1 := by simp at hab2; omega
          have el1 : A ++ Ra ++ x :: (y :: Rb' ++ (R2 ++ Z)) = (A ++ Ra) ++ x :: (y :: Rb' ++ (R2 ++ Z)) := by simp
          have el1b : A ++ Ra ++ x :: (y :: Rb' ++ (R2 ++ Z)) = (A ++ Ra ++ [x]) ++ y :: (Rb' ++ (R2 ++ Z)) := by simp
          have el2 : (A ++ Ra) ++ y :: (y :: Rb' ++ (R2 ++ Z)) = (A ++ Ra ++ [y]) ++ y :: (Rb' ++ (R2 ++ Z)) := by simp
          have el3 : (A ++ Ra ++ [y]) ++ x :: (Rb' ++ (R2 ++ Z)) = A ++ (Ra ++ [y]) ++ x :: (Rb' ++ (R2 ++ Z)) := by simp
          have hq : (A ++ Ra).length = k := by have := HA.out; simp; omega
          have hq1 : (A ++ Ra ++ [y]).length = k + 1 := by rw [List.length_append, hq]; rfl
          have hq1x : (A ++ Ra ++ [x]).length = k + 1 := by rw [List.length_append, hq]; rfl
          obtain ⟨c0, c1, c2, c3, c4⟩ := BlkT.get (by rw [el1] at hblk; exact hblk) hq
          obtain ⟨d0, d1, d2, d3, d4⟩ := BlkT.get (by rw [el1b] at hblk; exact hblk) hq1x
          have p1 := BlkT.put (by rw [el1] at hblk; exact hblk) hq y
          rw [el2] at p1
          have p2 := BlkT.put p1.1 hq1 x
          rw [el3] at p2
          have HP : Hid _ := And.intro p2.1 (gr_trans hgr (gr_trans p1.2 p2.2))
          have hfz := fun j => Blk.free hblk j
          have HRR : Hid (R1 = (Ra ++ [y]) ++ Rb' ∧ a + (Ra ++ [y]).length = k + 1) := ⟨by rw [hRR]; simp, by simp; omega⟩
          have hkn : (k : Int) + 1 < (n : Int) := by omega
          have hkn' : (k : Int) < (n : Int) := by omega
          have hk0 : ¬ ((k : Int) + 1 < 0) := by omega
          clear p1 p2 el1 el1b el2 el3 hblk hgr hq hq1 hq1x hRR hab2 hk
          go_wp2_with fail
          go_big_region
          all_goals go_wp2
          go_roundw
          case rel => first | exact ⟨k + 1, Ra ++ [y], Rb', by go_num, HRR.out.2, HRR.out.1, HP.out.1.drew, gr_drew HP.out.2⟩ | ((repeat apply Exists.intro); exact ⟨⟨k + 1, Ra ++ [y], Rb', by go_num, HRR.out.2, HRR.out.1, HP.out.1.drew, gr_drew HP.out.2⟩, rfl⟩)
          case measure => simp [intOf]; omega
end Go.Proofs.Ytooeemhlpmiceaa.T
