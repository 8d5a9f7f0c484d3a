/-
  slices' insertion sort of states: those that were told first stay ahead of their like.
-/
import Derived.Test.YtooeemhlpmiceaaTMath
namespace Go.Proofs.Ytooeemhlpmiceaa.T
open Go.RowKit Go.Sort
set_option linter.unusedVariables false
set_option linter.unusedSimpArgs false

set_option maxRecDepth 10000 in
set_option maxHeartbeats 2000000 in
theorem insertion_any (w : World) (g cap n : Nat) (A L Z : List Tg) (ia ib : Int) (hb : BlkT w g cap (A ++ L ++ Z)) (hn : (A ++ L ++ Z).length = n) (hmax : n ≤ 1000000) (htag : Tags L) (hok : OkT L) (h1 : ia = (A.length : Nat)) (h2 : ib = ((A.length + L.length : Nat) : Nat)) :
    Calls Try.prog 70 #[.slice (some ⟨g, 0, none⟩) n cap, .int .i64 ia, .int .i64 ib, .func (.func 44) #[] #[]] w fun e w' => e = .returned (.tuple #[]) ∧ ∃ L', L'.Perm L ∧ Asc L' ∧ BlkT w' g cap (A ++ L' ++ Z) ∧ w.grownBy w' (some g) := by
  obtain ⟨a, HA⟩ : ∃ a : Nat, Hid (A.length = a) := ⟨_, rfl⟩
  obtain ⟨b, HB⟩ : ∃ b : Nat, Hid (A.length + L.length = b) := ⟨_, rfl⟩
  rw [HA.out] at h1
  rw [HB.out] at h2
  subst h1 h2
  have hbn : b ≤ n := by have := HB.out; rw [← hn]; simp; omega
  have hab : a ≤ b := by have := HB.out; have := HA.out; omega
  cases L with
  | nil =>
    have hba : b = a := by have := HB.out; have := HA.out; simp at *; omega
    have hlt : ¬ ((a : Int) + 1 < (b : Int)) := by omega
    have hb' : BlkT w g cap (A ++ Z) := by simpa using hb
    have HE : Hid _ := hb'
    clear hb'
    clear hb hn
    go_enter Try.func70, Try.ntmps70
    go_wp2
    refine wp_loop_rounds 1 ?_
    rw [rounds_succ]
    go_wp2
    go_end0
    exact ⟨rfl, [], by simp, by unfold Asc; simp, by rw [List.append_nil]; exact HE.out, gr_refl _ _⟩
  | cons l0 L0 =>
    have hL : L0.length + 1 + a = b := by have := HB.out; have := HA.out; simp at *; omega
    have HTAG : Hid (Tags (l0 :: L0) ∧ OkT (l0 :: L0)) := ⟨htag, hok⟩
    have hb' : BlkT w g cap (A ++ [l0] ++ L0 ++ Z) := by simpa using hb
    have HB0 : Hid _ := hb'
    clear hb'
    have HNL : Hid ((A ++ (l0 :: L0) ++ Z).length = n) := hn
    clear hb hn htag hok
    go_enter Try.func70, Try.ntmps70
    go_wp2_with fail
    go_loopw [8, 9] (fun iv _ wr => ∃ (P R L1 : List Tg), iv = .int .i64 ((a : Int) + (P.length : Nat)) ∧ l0 :: L0 = L1 ++ R ∧ P.Perm L1 ∧ Asc P ∧ 0 < P.length ∧ BlkT wr g cap (A ++ P ++ R ++ Z) ∧ w.grownBy wr (some g)) (fun iv _ _ => b - (intOf iv).toNat)
    case atStart => exact ⟨[l0], L0, [l0], rfl, rfl, List.Perm.refl _, by unfold Asc; simp, by simp, HB0.out, gr_refl _ _⟩
    case round =>
      obtain ⟨P, R, L1, rfl, hLR, hperm, hasc, hP0, hblk, hgr⟩ := hrel
      have hPl : P.length = L1.length := hperm.length_eq
      have hlen : P.length + R.length + a = b := by have := congrArg List.length hLR; simp at this; omega
      cases R with
      | nil =>
        have hlt : ¬ ((a : Int) + (P.length : Int) < (b : Int)) := by simp at hlen; omega
        have HE : Hid (P.Perm (l0 :: L0) ∧ Asc P ∧ BlkT wr g cap (A ++ P ++ Z)) := ⟨by rw [hLR]; simpa using hperm, hasc, by simpa using hblk⟩
        clear hblk hLR hperm hasc hlen
        go_wp2
        go_end0
        exact ⟨rfl, P, HE.out.1, HE.out.2.1, (by first | exact HE.out.2.2 | (rw [← List.append_assoc]; exact HE.out.2.2)), hgr⟩
      | cons x R' =>
        have hlt : (a : Int) + (P.length : Int) < (b : Int) := by simp at hlen; omega
        have htags : (∀ y ∈ P, y.2 < x.2) ∧ OkS x.1 ∧ ∀ y ∈ P, OkS y.1 := by
          obtain ⟨ht, ho⟩ := HTAG.out
          rw [hLR] at ht ho
          unfold Tags at ht
          rw [List.pairwise_append] at ht
          refine ⟨fun y hy => ht.2.2 y (hperm.mem_iff.1 hy) x (by simp), ho x (by simp), fun y hy => ho y (by simp [hperm.mem_iff.1 hy])⟩
        have HT : Hid ((∀ y ∈ P, y.2 < x.2) ∧ OkS x.1 ∧ ∀ y ∈ P, OkS y.1) := htags
        have HLR : Hid (l0 :: L0 = (L1 ++ [x]) ++ R' ∧ P.Perm L1 ∧ Asc P) := ⟨by rw [hLR]; simp, hperm, hasc⟩
        have hbk : BlkT wr g cap (A ++ P ++ x :: ([] ++ R' ++ Z)) := by simpa using hblk
        have HBK : Hid _ := hbk
        have HG : Hid (w.grownBy wr (some g)) := hgr
        have hnP : a + P.length + 1 ≤ n := by simp at hlen; omega
        have HLA : Hid (A.length = a) := HA.out
        clear htags hLR hperm hasc hblk hbk hPl hgr HA HB HB0 HNL HTAG hL
        obtain ⟨pl, hpl⟩ : ∃ pl : Nat, P.length = pl := ⟨_, rfl⟩
        rw [hpl] at hnP hlt ⊢
        clear hlen hP0
        go_wp2_with fail
        go_loopw [9] (fun jv wq => ∃ (j : Nat) (P1 P2 : List Tg), jv = .int .i64 (j : Nat) ∧ a + P1.length = j ∧ P = P1 ++ P2 ∧ (∀ y ∈ P2, ltT x y) ∧ BlkT wq g cap (A ++ P1 ++ x :: (P2 ++ R' ++ Z)) ∧ w.grownBy wq (some g)) (fun jv _ => (intOf jv).toNat)
        case atStart => exact ⟨a + pl, P, [], by push_cast; rfl, by omega, by simp, by simp, HBK.out, HG.out⟩
        case round =>
          clear HBK HG
          obtain ⟨j, P1, P2, rfl, hj, hPP, hgt, hblk, hgr1⟩ := hrel
          have hp12 : P1.length + P2.length = pl := by rw [← hpl, hPP]; simp
          rcases List.eq_nil_or_concat P1 with hP1 | ⟨P1', y, hP1⟩
          · subst hP1
            have hja : j = a := by simp at hj; omega
            subst hja
            have hng : ¬ ((j : Int) < (j : Int)) := by omega
            have HE : Hid (Asc (x :: P) ∧ BlkT wr g cap (A ++ (x :: P) ++ R' ++ Z)) := by
              have e : P2 = P := by simpa using hPP.symm
              subst e
              exact ⟨asc_ins (P1 := []) (by simpa using HLR.out.2.2) hgt (by simp), by simpa using hblk⟩
            have HE2 : Hid (l0 :: L0 = (L1 ++ [x]) ++ R' ∧ (x :: P).Perm (L1 ++ [x])) := ⟨HLR.out.1, (List.Perm.cons x HLR.out.2.1).trans (List.perm_append_singleton x L1).symm⟩
            have HG1 : Hid _ := hgr1
            have t0 : True := trivial
            clear hblk hPP hgt hgr1
            go_wp2_with fail
            refine wp_region_noPanic ?_
            refine wp_region_held_drew (S := fun _ => True) (by kernel_rfl) t0 (fun hHeld => ?_)
            refine tq 0 ?_
            refine tq 1 ?_
            refine tq 2 ?_
            refine tq 3 ?_
            refine tqS 4 ?_
            refine tqS 5 ?_
            refine tqS 6 ?_
            refine tqS 7 ?_
            refine tqS 8 ?_
            refine tqS 9 ?_
            refine tqS 10 ?_
            refine tqS 11 ?_
            refine tqS 12 ?_
            refine tqS 13 ?_
            refine tqS 14 ?_
            refine tqS 15 ?_
            refine tq 16 ?_
            refine wpAnyH_done (by kernel_rfl) ?_ _
            refine NoPanic.normal ?_
            clear t0 hHeld
            go_wp2
            go_roundw
            case rel => exact ⟨x :: P, R', L1 ++ [x], by simp only [List.length_cons, hpl]; push_cast; rw [Int.add_assoc], HE2.out.1, HE2.out.2, HE.out.1, by simp, HE.out.2.drew, gr_drew HG1.out⟩
            case measure => simp [intOf]; omega
          · have hP1c : P1 = P1' ++ [y] := by rw [hP1]; simp
            clear hP1
            subst hP1c
            obtain ⟨q, rfl⟩ : ∃ q, j = q + 1 := ⟨a + P1'.length, by simp at hj; omega⟩
            have hq : (A ++ P1').length = q := by have := HLA.out; simp at hj ⊢; omega
            have hq1 : (A ++ P1' ++ [y]).length = q + 1 := by rw [List.length_append, hq]; rfl
            have hyP : y ∈ P := by rw [hPP]; simp
            have el1 : A ++ (P1' ++ [y]) ++ x :: (P2 ++ R' ++ Z) = (A ++ P1' ++ [y]) ++ x :: (P2 ++ R' ++ Z) := by simp
            have el2 : A ++ (P1' ++ [y]) ++ x :: (P2 ++ R' ++ Z) = (A ++ P1') ++ y :: (x :: (P2 ++ R' ++ Z)) := by simp
            have two : Two g (q + 1) q x y wr := ⟨BlkT.get (by rw [el1] at hblk; exact hblk) hq1, BlkT.get (by rw [el2] at hblk; exact hblk) hq⟩
            have hgtI : (a : Int) < (q : Int) + 1 := by simp at hj; omega
            have hqn : q + 1 < n := by simp at hj hp12; omega
            have hqi : (q : Int) + 1 < (n : Int) := by omega
            have hq0 : ¬ ((q : Int) + 1 < 0) := by omega
            have hqi' : (q : Int) < (n : Int) := by omega
            have hwq : IntKind.i64.wrap (q : Int) = (q : Int) := by rw [IntWalk.i64_left, IntWalk.wrap64_in _ (by omega)]
            have hc := fun W => cmpS_any W x.1 y.1 HT.out.2.1 (HT.out.2.2 y hyP)
            have hltT := ltT_of (HT.out.1 y hyP)
            generalize cmpS x.1 y.1 = d at hc hltT
            have HBK1 : Hid (BlkT wr g cap (A ++ (P1' ++ [y]) ++ x :: (P2 ++ R' ++ Z)) ∧ w.grownBy wr (some g)) := ⟨hblk, hgr1⟩
            have HQ : Hid ((A ++ P1').length = q ∧ (A ++ P1' ++ [y]).length = q + 1) := ⟨hq, hq1⟩
            have HPP : Hid (P = P1' ++ [y] ++ P2 ∧ ∀ z ∈ P2, ltT x z) := ⟨hPP, hgt⟩
            unfold sta at hc
            clear el1 el2 hblk hgr1 hPP hgt hq hq1 hp12
            go_wp2_with fail
            refine wp_region_noPanic ?_
            refine wp_region_held_drew (S := fun wx => Two g (q + 1) q x y wx) (by kernel_rfl) two (fun hHeld => ?_)
            refine tq 0 ?_
            refine tq 1 ?_
            refine tq 2 ?_
            refine tq 3 ?_
            refine tq 4 ?_
            refine tq 5 ?_
            refine tq 6 ?_
            refine tq 7 ?_
            refine tq 8 ?_
            refine tq 9 ?_
            refine tq 10 ?_
            refine tq 11 ?_
            refine tq 12 ?_
            refine tq 13 ?_
            refine comes_up 14 rfl (by kernel_rfl) (fun K hK => ?_)
            go_simp
            refine (hc _).mono ?_
            rintro e w1 ⟨rfl, hup⟩
            have two1 := Two.up hHeld hup
            have HB1 : Hid (BlkT w1 g cap (A ++ (P1' ++ [y]) ++ x :: (P2 ++ R' ++ Z)) ∧ w.grownBy w1 (some g)) := ⟨HBK1.out.1.drew.up hup, gr_trans (gr_drew HBK1.out.2) (gr_below hup.bl _)⟩
            clear two hHeld hup HBK1
            go_wp2_with fail
            refine hK.out _ _ two1 (fun hHeld => ?_)
            clear hK K
            (try simp only [Act.put, List.setIfInBounds_toArray, List.set_cons_zero, List.set_cons_succ])
            by_cases hd : d < 0
            · skip
              refine tq 15 ?_
              refine tq 16 ?_
              refine wpAnyH_done (by kernel_rfl) ?_ _
              refine NoPanic.normal ?_
              have hxy := hltT.1 hd
              obtain ⟨hblk, hgr1⟩ := HB1.out
              obtain ⟨hq, hq1⟩ := HQ.out
              have el1 : A ++ (P1' ++ [y]) ++ x :: (P2 ++ R' ++ Z) = (A ++ P1' ++ [y]) ++ x :: (P2 ++ R' ++ Z) := by simp
              have el2 : (A ++ P1' ++ [y]) ++ y :: (P2 ++ R' ++ Z) = (A ++ P1') ++ y :: (y :: (P2 ++ R' ++ Z)) := by simp
              have el3 : (A ++ P1') ++ x :: (y :: (P2 ++ R' ++ Z)) = A ++ P1' ++ x :: ((y :: P2) ++ R' ++ Z) := by simp
              have p1 := BlkT.put (by rw [el1] at hblk; exact hblk) hq1 y
              rw [el2] at p1
              have p2 := BlkT.put p1.1 hq x
              rw [el3] at p2
              have HP : Hid _ := And.intro p2.1 (gr_trans hgr1 (gr_trans p1.2 p2.2))
              have hfz := fun j => Blk.free hblk j
              obtain ⟨⟨c0, c1, c2, c3, c4⟩, d0, d1, d2, d3, d4⟩ := two1
              have HPP' : Hid (P = P1' ++ (y :: P2) ∧ ∀ z ∈ y :: P2, ltT x z) := ⟨by rw [HPP.out.1]; simp, fun z hz => by rw [List.mem_cons] at hz; rcases hz with rfl | hz; exact hxy; exact HPP.out.2 z hz⟩
              clear p1 p2 el1 el2 el3 hblk hgr1 hq hq1 hltT hxy HB1 HPP hHeld
              go_wp2_with fail
              go_big_region
              all_goals go_wp2
              go_roundw
              case rel => first | exact ⟨q, P1', y :: P2, by go_num, by have := HQ.out.1; have := HLA.out; simp at *; omega, HPP'.out.1, HPP'.out.2, HP.out.1.drew, gr_drew HP.out.2⟩ | ((repeat apply Exists.intro); exact ⟨⟨q, P1', y :: P2, by go_num, by have := HQ.out.1; have := HLA.out; simp at *; omega, HPP'.out.1, HPP'.out.2, HP.out.1.drew, gr_drew HP.out.2⟩, rfl⟩)
              case measure => simp [intOf]
            · skip
              refine tq 15 ?_
              refine tq 16 ?_
              refine wpAnyH_done (by kernel_rfl) ?_ _
              refine NoPanic.normal ?_
              have hyx : ltT y x := ltT_tri (by have := HT.out.1 y hyP; omega) (fun h => hd (hltT.2 h))
              have HE : Hid (Asc ((P1' ++ [y]) ++ x :: P2) ∧ BlkT w1 g cap (A ++ ((P1' ++ [y]) ++ x :: P2) ++ R' ++ Z)) := by
                refine ⟨asc_ins (by rw [← HPP.out.1]; exact HLR.out.2.2) HPP.out.2 (fun z hz => ?_), by have := HB1.out.1; simpa using this⟩
                have hA := HLR.out.2.2
                rw [HPP.out.1] at hA
                have hA1 := (List.pairwise_append.1 hA).1
                rw [List.mem_append] at hz
                rcases hz with hz | hz
                · exact ltT_trans ((List.pairwise_append.1 hA1).2.2 z hz y (by simp)) hyx
                · rw [List.mem_singleton] at hz; subst hz; exact hyx
              have HE2 : Hid (l0 :: L0 = (L1 ++ [x]) ++ R' ∧ ((P1' ++ [y]) ++ x :: P2).Perm (L1 ++ [x])) := by
                refine ⟨HLR.out.1, ?_⟩
                have hp := HLR.out.2.1
                rw [HPP.out.1] at hp
                exact (List.perm_middle.trans (List.Perm.cons x hp)).trans (List.perm_append_singleton x L1).symm
              have hpl' : ((P1' ++ [y]) ++ x :: P2).length = pl + 1 := by rw [← hpl, HPP.out.1]; simp; omega
              have HG1 : Hid (w.grownBy w1 (some g)) := HB1.out.2
              clear hltT hyx HB1 HPP hHeld two1
              go_wp2
              go_roundw
              case rel => exact ⟨(P1' ++ [y]) ++ x :: P2, R', L1 ++ [x], by rw [hpl']; push_cast; rw [Int.add_assoc], HE2.out.1, HE2.out.2, HE.out.1, by rw [hpl']; omega, HE.out.2, HG1.out⟩
              case measure => simp [intOf]; omega
end Go.Proofs.Ytooeemhlpmiceaa.T
