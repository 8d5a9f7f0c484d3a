/-
  slices' insertion sort of states: those that were told first stay ahead of their like.
  slices' symMerge of states, where the left part is one state.
  slices' symMerge of states, where the right part is one state.
  slices' symMerge of states: two sorted stretches become one.
  slices.SortStableFunc of states.
  slices.Clone and slices.DeleteFunc of states: those of a view.
  slices.CompactFunc of states: of neighbours of one view the first.
  cut.Join: of each view the state that has the most, with copies of its items.
  Joined states, joined again, with one of those that were joined: the same.
-/
import Derived.Test.YtlonbbepoamnmaaDoorSAll1
import Derived.Deep.Cut
import Derived.Deep.CutRange
namespace Go.Proofs.YtlonbbepoamnmaaDoor
open Go.RowKit Go.Sort
set_option linter.unusedVariables false
set_option linter.unusedSimpArgs false

set_option maxRecDepth 10000 in
set_option maxHeartbeats 2000000 in
theorem insertion_any (w : World) (g cap n : Nat) (A L Z : List Tg) (ia ib : Int) (hb : BlkT w g cap (A ++ L ++ Z)) (hn : (A ++ L ++ Z).length = n) (hmax : n ≤ 1000000) (htag : Tags L) (hok : OkT L) (h1 : ia = (A.length : Nat)) (h2 : ib = ((A.length + L.length : Nat) : Nat)) :
    Calls Tryd.prog 107 #[.slice (some ⟨g, 0, none⟩) n cap, .int .i64 ia, .int .i64 ib, .func (.func 92) #[] #[]] w fun e w' => e = .returned (.tuple #[]) ∧ ∃ L', L'.Perm L ∧ Asc L' ∧ BlkT w' g cap (A ++ L' ++ Z) ∧ w.grownBy w' (some g) := by
  obtain ⟨a, HA⟩ : ∃ a : Nat, Hid (A.length = a) := ⟨_, rfl⟩
  obtain ⟨b, HB⟩ : ∃ b : Nat, Hid (A.length + L.length = b) := ⟨_, rfl⟩
  rw [HA.out] at h1
  rw [HB.out] at h2
  subst h1 h2
  have hbn : b ≤ n := by have := HB.out; rw [← hn]; simp; omega
  have hab : a ≤ b := by have := HB.out; have := HA.out; omega
  cases L with
  | nil =>
    have hba : b = a := by have := HB.out; have := HA.out; simp at *; omega
    have hlt : ¬ ((a : Int) + 1 < (b : Int)) := by omega
    have hb' : BlkT w g cap (A ++ Z) := by simpa using hb
    have HE : Hid _ := hb'
    clear hb'
    clear hb hn
    go_enter Tryd.func107, Tryd.ntmps107
    go_wp2
    refine wp_loop_rounds 1 ?_
    rw [rounds_succ]
    go_wp2
    go_end0
    exact ⟨rfl, [], by simp, by unfold Asc; simp, by rw [List.append_nil]; exact HE.out, gr_refl _ _⟩
  | cons l0 L0 =>
    have hL : L0.length + 1 + a = b := by have := HB.out; have := HA.out; simp at *; omega
    have HTAG : Hid (Tags (l0 :: L0) ∧ OkT (l0 :: L0)) := ⟨htag, hok⟩
    have hb' : BlkT w g cap (A ++ [l0] ++ L0 ++ Z) := by simpa using hb
    have HB0 : Hid _ := hb'
    clear hb'
    have HNL : Hid ((A ++ (l0 :: L0) ++ Z).length = n) := hn
    clear hb hn htag hok
    go_enter Tryd.func107, Tryd.ntmps107
    go_wp2_with fail
    go_loopw [8, 9] (fun iv _ wr => ∃ (P R L1 : List Tg), iv = .int .i64 ((a : Int) + (P.length : Nat)) ∧ l0 :: L0 = L1 ++ R ∧ P.Perm L1 ∧ Asc P ∧ 0 < P.length ∧ BlkT wr g cap (A ++ P ++ R ++ Z) ∧ w.grownBy wr (some g)) (fun iv _ _ => b - (intOf iv).toNat)
    case atStart => exact ⟨[l0], L0, [l0], rfl, rfl, List.Perm.refl _, by unfold Asc; simp, by simp, HB0.out, gr_refl _ _⟩
    case round =>
      obtain ⟨P, R, L1, rfl, hLR, hperm, hasc, hP0, hblk, hgr⟩ := hrel
      have hPl : P.length = L1.length := hperm.length_eq
      have hlen : P.length + R.length + a = b := by have := congrArg List.length hLR; simp at this; omega
      cases R with
      | nil =>
        have hlt : ¬ ((a : Int) + (P.length : Int) < (b : Int)) := by simp at hlen; omega
        have HE : Hid (P.Perm (l0 :: L0) ∧ Asc P ∧ BlkT wr g cap (A ++ P ++ Z)) := ⟨by rw [hLR]; simpa using hperm, hasc, by simpa using hblk⟩
        clear hblk hLR hperm hasc hlen
        go_wp2
        go_end0
        exact ⟨rfl, P, HE.out.1, HE.out.2.1, (by first | exact HE.out.2.2 | (rw [← List.append_assoc]; exact HE.out.2.2)), hgr⟩
      | cons x R' =>
        have hlt : (a : Int) + (P.length : Int) < (b : Int) := by simp at hlen; omega
        have htags : (∀ y ∈ P, y.2 < x.2) ∧ OkS x.1 ∧ ∀ y ∈ P, OkS y.1 := by
          obtain ⟨ht, ho⟩ := HTAG.out
          rw [hLR] at ht ho
          unfold Tags at ht
          rw [List.pairwise_append] at ht
          refine ⟨fun y hy => ht.2.2 y (hperm.mem_iff.1 hy) x (by simp), ho x (by simp), fun y hy => ho y (by simp [hperm.mem_iff.1 hy])⟩
        have HT : Hid ((∀ y ∈ P, y.2 < x.2) ∧ OkS x.1 ∧ ∀ y ∈ P, OkS y.1) := htags
        have HLR : Hid (l0 :: L0 = (L1 ++ [x]) ++ R' ∧ P.Perm L1 ∧ Asc P) := ⟨by rw [hLR]; simp, hperm, hasc⟩
        have hbk : BlkT wr g cap (A ++ P ++ x :: ([] ++ R' ++ Z)) := by simpa using hblk
        have HBK : Hid _ := hbk
        have HG : Hid (w.grownBy wr (some g)) := hgr
        have hnP : a + P.length + 1 ≤ n := by simp at hlen; omega
        have HLA : Hid (A.length = a) := HA.out
        clear htags hLR hperm hasc hblk hbk hPl hgr HA HB HB0 HNL HTAG hL
        obtain ⟨pl, hpl⟩ : ∃ pl : Nat, P.length = pl := ⟨_, rfl⟩
        rw [hpl] at hnP hlt ⊢
        clear hlen hP0
        go_wp2_with fail
        go_loopw [9] (fun jv wq => ∃ (j : Nat) (P1 P2 : List Tg), jv = .int .i64 (j : Nat) ∧ a + P1.length = j ∧ P = P1 ++ P2 ∧ (∀ y ∈ P2, ltT x y) ∧ BlkT wq g cap (A ++ P1 ++ x :: (P2 ++ R' ++ Z)) ∧ w.grownBy wq (some g)) (fun jv _ => (intOf jv).toNat)
        case atStart => exact ⟨a + pl, P, [], by push_cast; rfl, by omega, by simp, by simp, HBK.out, HG.out⟩
        case round =>
          clear HBK HG
          obtain ⟨j, P1, P2, rfl, hj, hPP, hgt, hblk, hgr1⟩ := hrel
          have hp12 : P1.length + P2.length = pl := by rw [← hpl, hPP]; simp
          rcases List.eq_nil_or_concat P1 with hP1 | ⟨P1', y, hP1⟩
          · subst hP1
            have hja : j = a := by simp at hj; omega
            subst hja
            have hng : ¬ ((j : Int) < (j : Int)) := by omega
            have HE : Hid (Asc (x :: P) ∧ BlkT wr g cap (A ++ (x :: P) ++ R' ++ Z)) := by
              have e : P2 = P := by simpa using hPP.symm
              subst e
              exact ⟨asc_ins (P1 := []) (by simpa using HLR.out.2.2) hgt (by simp), by simpa using hblk⟩
            have HE2 : Hid (l0 :: L0 = (L1 ++ [x]) ++ R' ∧ (x :: P).Perm (L1 ++ [x])) := ⟨HLR.out.1, (List.Perm.cons x HLR.out.2.1).trans (List.perm_append_singleton x L1).symm⟩
            have HG1 : Hid _ := hgr1
            have t0 : True := trivial
            clear hblk hPP hgt hgr1
            go_wp2_with fail
            refine wp_region_noPanic ?_
            refine wp_region_held_drew (S := fun _ => True) (by kernel_rfl) t0 (fun hHeld => ?_)
            refine take_first 0 (v := ?_) rfl (by kernel_rfl) (by kernel_rfl) (by kernel_rfl) (fun _ _ _ h => h) (Or.inl ⟨by rfl, by intro wx hSw; obtain ⟨hSw⟩ := hSw; go_simp; try with_reducible rfl⟩) (by assumption) ?_
            (try simp only [Act.put, List.setIfInBounds_toArray, List.set_cons_zero, List.set_cons_succ])
            refine take_first 1 (v := ?_) rfl (by kernel_rfl) (by kernel_rfl) (by kernel_rfl) (fun _ _ _ h => h) (Or.inl ⟨by rfl, by intro wx hSw; obtain ⟨hSw⟩ := hSw; go_simp; try with_reducible rfl⟩) (by assumption) ?_
            (try simp only [Act.put, List.setIfInBounds_toArray, List.set_cons_zero, List.set_cons_succ])
            refine take_first 2 (v := ?_) rfl (by kernel_rfl) (by kernel_rfl) (by kernel_rfl) (fun _ _ _ h => h) (Or.inl ⟨by rfl, by intro wx hSw; obtain ⟨hSw⟩ := hSw; go_simp; try with_reducible rfl⟩) (by assumption) ?_
            (try simp only [Act.put, List.setIfInBounds_toArray, List.set_cons_zero, List.set_cons_succ])
            refine take_first 3 (v := ?_) rfl (by kernel_rfl) (by kernel_rfl) (by kernel_rfl) (fun _ _ _ h => h) (Or.inl ⟨by rfl, by intro wx hSw; obtain ⟨hSw⟩ := hSw; go_simp; try with_reducible rfl⟩) (by assumption) ?_
            (try simp only [Act.put, List.setIfInBounds_toArray, List.set_cons_zero, List.set_cons_succ])
            refine take_first 4 (v := undef) rfl (by kernel_rfl) (by kernel_rfl) (by kernel_rfl) (fun _ _ _ h => h) (Or.inr ⟨by rfl, rfl⟩) (by assumption) ?_
            (try simp only [Act.put, List.setIfInBounds_toArray, List.set_cons_zero, List.set_cons_succ])
            refine take_first 5 (v := undef) rfl (by kernel_rfl) (by kernel_rfl) (by kernel_rfl) (fun _ _ _ h => h) (Or.inr ⟨by rfl, rfl⟩) (by assumption) ?_
            (try simp only [Act.put, List.setIfInBounds_toArray, List.set_cons_zero, List.set_cons_succ])
            refine take_first 6 (v := undef) rfl (by kernel_rfl) (by kernel_rfl) (by kernel_rfl) (fun _ _ _ h => h) (Or.inr ⟨by rfl, rfl⟩) (by assumption) ?_
            (try simp only [Act.put, List.setIfInBounds_toArray, List.set_cons_zero, List.set_cons_succ])
            refine take_first 7 (v := undef) rfl (by kernel_rfl) (by kernel_rfl) (by kernel_rfl) (fun _ _ _ h => h) (Or.inr ⟨by rfl, rfl⟩) (by assumption) ?_
            (try simp only [Act.put, List.setIfInBounds_toArray, List.set_cons_zero, List.set_cons_succ])
            refine take_first 8 (v := undef) rfl (by kernel_rfl) (by kernel_rfl) (by kernel_rfl) (fun _ _ _ h => h) (Or.inr ⟨by rfl, rfl⟩) (by assumption) ?_
            (try simp only [Act.put, List.setIfInBounds_toArray, List.set_cons_zero, List.set_cons_succ])
            refine take_first 9 (v := undef) rfl (by kernel_rfl) (by kernel_rfl) (by kernel_rfl) (fun _ _ _ h => h) (Or.inr ⟨by rfl, rfl⟩) (by assumption) ?_
            (try simp only [Act.put, List.setIfInBounds_toArray, List.set_cons_zero, List.set_cons_succ])
            refine take_first 10 (v := undef) rfl (by kernel_rfl) (by kernel_rfl) (by kernel_rfl) (fun _ _ _ h => h) (Or.inr ⟨by rfl, rfl⟩) (by assumption) ?_
            (try simp only [Act.put, List.setIfInBounds_toArray, List.set_cons_zero, List.set_cons_succ])
            refine take_first 11 (v := undef) rfl (by kernel_rfl) (by kernel_rfl) (by kernel_rfl) (fun _ _ _ h => h) (Or.inr ⟨by rfl, rfl⟩) (by assumption) ?_
            (try simp only [Act.put, List.setIfInBounds_toArray, List.set_cons_zero, List.set_cons_succ])
            refine take_first 12 (v := undef) rfl (by kernel_rfl) (by kernel_rfl) (by kernel_rfl) (fun _ _ _ h => h) (Or.inr ⟨by rfl, rfl⟩) (by assumption) ?_
            (try simp only [Act.put, List.setIfInBounds_toArray, List.set_cons_zero, List.set_cons_succ])
            refine take_first 13 (v := undef) rfl (by kernel_rfl) (by kernel_rfl) (by kernel_rfl) (fun _ _ _ h => h) (Or.inr ⟨by rfl, rfl⟩) (by assumption) ?_
            (try simp only [Act.put, List.setIfInBounds_toArray, List.set_cons_zero, List.set_cons_succ])
            refine take_first 14 (v := undef) rfl (by kernel_rfl) (by kernel_rfl) (by kernel_rfl) (fun _ _ _ h => h) (Or.inr ⟨by rfl, rfl⟩) (by assumption) ?_
            (try simp only [Act.put, List.setIfInBounds_toArray, List.set_cons_zero, List.set_cons_succ])
            refine take_first 15 (v := undef) rfl (by kernel_rfl) (by kernel_rfl) (by kernel_rfl) (fun _ _ _ h => h) (Or.inr ⟨by rfl, rfl⟩) (by assumption) ?_
            (try simp only [Act.put, List.setIfInBounds_toArray, List.set_cons_zero, List.set_cons_succ])
            refine take_first 16 (v := ?_) rfl (by kernel_rfl) (by kernel_rfl) (by kernel_rfl) (fun _ _ _ h => h) (Or.inl ⟨by rfl, by intro wx hSw; obtain ⟨hSw⟩ := hSw; go_simp; try with_reducible rfl⟩) (by assumption) ?_
            (try simp only [Act.put, List.setIfInBounds_toArray, List.set_cons_zero, List.set_cons_succ])
            refine wpAnyH_done (by kernel_rfl) ?_ _
            refine NoPanic.normal ?_
            clear t0 hHeld
            go_wp2
            go_roundw
            case rel => exact ⟨x :: P, R', L1 ++ [x], by simp only [List.length_cons, hpl]; push_cast; rw [Int.add_assoc], HE2.out.1, HE2.out.2, HE.out.1, by simp, HE.out.2.drew, gr_drew HG1.out⟩
            case measure => simp [intOf]; omega
          · have hP1c : P1 = P1' ++ [y] := by rw [hP1]; simp
            clear hP1
            subst hP1c
            obtain ⟨q, rfl⟩ : ∃ q, j = q + 1 := ⟨a + P1'.length, by simp at hj; omega⟩
            have hq : (A ++ P1').length = q := by have := HLA.out; simp at hj ⊢; omega
            have hq1 : (A ++ P1' ++ [y]).length = q + 1 := by rw [List.length_append, hq]; rfl
            have hyP : y ∈ P := by rw [hPP]; simp
            have el1 : A ++ (P1' ++ [y]) ++ x :: (P2 ++ R' ++ Z) = (A ++ P1' ++ [y]) ++ x :: (P2 ++ R' ++ Z) := by simp
            have el2 : A ++ (P1' ++ [y]) ++ x :: (P2 ++ R' ++ Z) = (A ++ P1') ++ y :: (x :: (P2 ++ R' ++ Z)) := by simp
            have two : Two g (q + 1) q x y wr := ⟨BlkT.get (by rw [el1] at hblk; exact hblk) hq1, BlkT.get (by rw [el2] at hblk; exact hblk) hq⟩
            have hgtI : (a : Int) < (q : Int) + 1 := by simp at hj; omega
            have hqn : q + 1 < n := by simp at hj hp12; omega
            have hqi : (q : Int) + 1 < (n : Int) := by omega
            have hq0 : ¬ ((q : Int) + 1 < 0) := by omega
            have hqi' : (q : Int) < (n : Int) := by omega
            have hwq : IntKind.i64.wrap (q : Int) = (q : Int) := by rw [IntWalk.i64_left, IntWalk.wrap64_in _ (by omega)]
            have hc := fun W => cmpS_any W x.1 y.1 HT.out.2.1 (HT.out.2.2 y hyP)
            have hltT := ltT_of (HT.out.1 y hyP)
            generalize cmpS x.1 y.1 = d at hc hltT
            have HBK1 : Hid (BlkT wr g cap (A ++ (P1' ++ [y]) ++ x :: (P2 ++ R' ++ Z)) ∧ w.grownBy wr (some g)) := ⟨hblk, hgr1⟩
            have HQ : Hid ((A ++ P1').length = q ∧ (A ++ P1' ++ [y]).length = q + 1) := ⟨hq, hq1⟩
            have HPP : Hid (P = P1' ++ [y] ++ P2 ∧ ∀ z ∈ P2, ltT x z) := ⟨hPP, hgt⟩
            unfold sta at hc
            clear el1 el2 hblk hgr1 hPP hgt hq hq1 hp12
            go_wp2_with fail
            refine wp_region_noPanic ?_
            refine wp_region_held_drew (S := fun wx => Two g (q + 1) q x y wx) (by kernel_rfl) two (fun hHeld => ?_)
            refine take_first 0 (v := ?_) rfl (by kernel_rfl) (by kernel_rfl) (by kernel_rfl) (fun _ _ _ h => h) (Or.inl ⟨by rfl, by intro wx hSw; obtain ⟨⟨hSw1, hSw2, hSw3, hSw4⟩, hSw5, hSw6, hSw7, hSw8⟩ := hSw; go_simp; try with_reducible rfl⟩) (by assumption) ?_
            (try simp only [Act.put, List.setIfInBounds_toArray, List.set_cons_zero, List.set_cons_succ])
            refine take_first 1 (v := ?_) rfl (by kernel_rfl) (by kernel_rfl) (by kernel_rfl) (fun _ _ _ h => h) (Or.inl ⟨by rfl, by intro wx hSw; obtain ⟨⟨hSw1, hSw2, hSw3, hSw4⟩, hSw5, hSw6, hSw7, hSw8⟩ := hSw; go_simp; try with_reducible rfl⟩) (by assumption) ?_
            (try simp only [Act.put, List.setIfInBounds_toArray, List.set_cons_zero, List.set_cons_succ])
            refine take_first 2 (v := ?_) rfl (by kernel_rfl) (by kernel_rfl) (by kernel_rfl) (fun _ _ _ h => h) (Or.inl ⟨by rfl, by intro wx hSw; obtain ⟨⟨hSw1, hSw2, hSw3, hSw4⟩, hSw5, hSw6, hSw7, hSw8⟩ := hSw; go_simp; try with_reducible rfl⟩) (by assumption) ?_
            (try simp only [Act.put, List.setIfInBounds_toArray, List.set_cons_zero, List.set_cons_succ])
            refine take_first 3 (v := ?_) rfl (by kernel_rfl) (by kernel_rfl) (by kernel_rfl) (fun _ _ _ h => h) (Or.inl ⟨by rfl, by intro wx hSw; obtain ⟨⟨hSw1, hSw2, hSw3, hSw4⟩, hSw5, hSw6, hSw7, hSw8⟩ := hSw; go_simp; try with_reducible rfl⟩) (by assumption) ?_
            (try simp only [Act.put, List.setIfInBounds_toArray, List.set_cons_zero, List.set_cons_succ])
            refine take_first 4 (v := ?_) rfl (by kernel_rfl) (by kernel_rfl) (by kernel_rfl) (fun _ _ _ h => h) (Or.inl ⟨by rfl, by intro wx hSw; obtain ⟨⟨hSw1, hSw2, hSw3, hSw4⟩, hSw5, hSw6, hSw7, hSw8⟩ := hSw; go_simp; try with_reducible rfl⟩) (by assumption) ?_
            (try simp only [Act.put, List.setIfInBounds_toArray, List.set_cons_zero, List.set_cons_succ])
            refine take_first 5 (v := ?_) rfl (by kernel_rfl) (by kernel_rfl) (by kernel_rfl) (fun _ _ _ h => h) (Or.inl ⟨by rfl, by intro wx hSw; obtain ⟨⟨hSw1, hSw2, hSw3, hSw4⟩, hSw5, hSw6, hSw7, hSw8⟩ := hSw; go_simp; try with_reducible rfl⟩) (by assumption) ?_
            (try simp only [Act.put, List.setIfInBounds_toArray, List.set_cons_zero, List.set_cons_succ])
            refine take_first 6 (v := ?_) rfl (by kernel_rfl) (by kernel_rfl) (by kernel_rfl) (fun _ _ _ h => h) (Or.inl ⟨by rfl, by intro wx hSw; obtain ⟨⟨hSw1, hSw2, hSw3, hSw4⟩, hSw5, hSw6, hSw7, hSw8⟩ := hSw; go_simp; try with_reducible rfl⟩) (by assumption) ?_
            (try simp only [Act.put, List.setIfInBounds_toArray, List.set_cons_zero, List.set_cons_succ])
            refine take_first 7 (v := ?_) rfl (by kernel_rfl) (by kernel_rfl) (by kernel_rfl) (fun _ _ _ h => h) (Or.inl ⟨by rfl, by intro wx hSw; obtain ⟨⟨hSw1, hSw2, hSw3, hSw4⟩, hSw5, hSw6, hSw7, hSw8⟩ := hSw; go_simp; try with_reducible rfl⟩) (by assumption) ?_
            (try simp only [Act.put, List.setIfInBounds_toArray, List.set_cons_zero, List.set_cons_succ])
            refine take_first 8 (v := ?_) rfl (by kernel_rfl) (by kernel_rfl) (by kernel_rfl) (fun _ _ _ h => h) (Or.inl ⟨by rfl, by intro wx hSw; obtain ⟨⟨hSw1, hSw2, hSw3, hSw4⟩, hSw5, hSw6, hSw7, hSw8⟩ := hSw; go_simp; try with_reducible rfl⟩) (by assumption) ?_
            (try simp only [Act.put, List.setIfInBounds_toArray, List.set_cons_zero, List.set_cons_succ])
            refine take_first 9 (v := ?_) rfl (by kernel_rfl) (by kernel_rfl) (by kernel_rfl) (fun _ _ _ h => h) (Or.inl ⟨by rfl, by intro wx hSw; obtain ⟨⟨hSw1, hSw2, hSw3, hSw4⟩, hSw5, hSw6, hSw7, hSw8⟩ := hSw; go_simp; try with_reducible rfl⟩) (by assumption) ?_
            (try simp only [Act.put, List.setIfInBounds_toArray, List.set_cons_zero, List.set_cons_succ])
            refine take_first 10 (v := ?_) rfl (by kernel_rfl) (by kernel_rfl) (by kernel_rfl) (fun _ _ _ h => h) (Or.inl ⟨by rfl, by intro wx hSw; obtain ⟨⟨hSw1, hSw2, hSw3, hSw4⟩, hSw5, hSw6, hSw7, hSw8⟩ := hSw; go_simp; try with_reducible rfl⟩) (by assumption) ?_
            (try simp only [Act.put, List.setIfInBounds_toArray, List.set_cons_zero, List.set_cons_succ])
            refine take_first 11 (v := ?_) rfl (by kernel_rfl) (by kernel_rfl) (by kernel_rfl) (fun _ _ _ h => h) (Or.inl ⟨by rfl, by intro wx hSw; obtain ⟨⟨hSw1, hSw2, hSw3, hSw4⟩, hSw5, hSw6, hSw7, hSw8⟩ := hSw; go_simp; try with_reducible rfl⟩) (by assumption) ?_
            (try simp only [Act.put, List.setIfInBounds_toArray, List.set_cons_zero, List.set_cons_succ])
            refine take_first 12 (v := ?_) rfl (by kernel_rfl) (by kernel_rfl) (by kernel_rfl) (fun _ _ _ h => h) (Or.inl ⟨by rfl, by intro wx hSw; obtain ⟨⟨hSw1, hSw2, hSw3, hSw4⟩, hSw5, hSw6, hSw7, hSw8⟩ := hSw; go_simp; try with_reducible rfl⟩) (by assumption) ?_
            (try simp only [Act.put, List.setIfInBounds_toArray, List.set_cons_zero, List.set_cons_succ])
            refine take_first 13 (v := ?_) rfl (by kernel_rfl) (by kernel_rfl) (by kernel_rfl) (fun _ _ _ h => h) (Or.inl ⟨by rfl, by intro wx hSw; obtain ⟨⟨hSw1, hSw2, hSw3, hSw4⟩, hSw5, hSw6, hSw7, hSw8⟩ := hSw; go_simp; try with_reducible rfl⟩) (by assumption) ?_
            (try simp only [Act.put, List.setIfInBounds_toArray, List.set_cons_zero, List.set_cons_succ])
            refine comes_up 14 rfl (by kernel_rfl) (fun K hK => ?_)
            go_simp
            refine (hc _).mono ?_
            rintro e w1 ⟨rfl, hup⟩
            have two1 := Two.up hHeld hup
            have HB1 : Hid (BlkT w1 g cap (A ++ (P1' ++ [y]) ++ x :: (P2 ++ R' ++ Z)) ∧ w.grownBy w1 (some g)) := ⟨HBK1.out.1.drew.up hup, gr_trans (gr_drew HBK1.out.2) (gr_below hup.bl _)⟩
            clear two hHeld hup HBK1
            go_wp2_with fail
            refine hK.out _ _ two1 (fun hHeld => ?_)
            clear hK K
            (try simp only [Act.put, List.setIfInBounds_toArray, List.set_cons_zero, List.set_cons_succ])
            by_cases hd : d < 0
            · skip
              refine take_first 15 (v := ?_) rfl (by kernel_rfl) (by kernel_rfl) (by kernel_rfl) (fun _ _ _ h => h) (Or.inl ⟨by rfl, by intro wx hSw; obtain ⟨⟨hSw1, hSw2, hSw3, hSw4⟩, hSw5, hSw6, hSw7, hSw8⟩ := hSw; go_simp; try with_reducible rfl⟩) (by assumption) ?_
              (try simp only [Act.put, List.setIfInBounds_toArray, List.set_cons_zero, List.set_cons_succ])
              refine take_first 16 (v := ?_) rfl (by kernel_rfl) (by kernel_rfl) (by kernel_rfl) (fun _ _ _ h => h) (Or.inl ⟨by rfl, by intro wx hSw; obtain ⟨⟨hSw1, hSw2, hSw3, hSw4⟩, hSw5, hSw6, hSw7, hSw8⟩ := hSw; go_simp; try with_reducible rfl⟩) (by assumption) ?_
              (try simp only [Act.put, List.setIfInBounds_toArray, List.set_cons_zero, List.set_cons_succ])
              refine wpAnyH_done (by kernel_rfl) ?_ _
              refine NoPanic.normal ?_
              have hxy := hltT.1 hd
              obtain ⟨hblk, hgr1⟩ := HB1.out
              obtain ⟨hq, hq1⟩ := HQ.out
              have el1 : A ++ (P1' ++ [y]) ++ x :: (P2 ++ R' ++ Z) = (A ++ P1' ++ [y]) ++ x :: (P2 ++ R' ++ Z) := by simp
              have el2 : (A ++ P1' ++ [y]) ++ y :: (P2 ++ R' ++ Z) = (A ++ P1') ++ y :: (y :: (P2 ++ R' ++ Z)) := by simp
              have el3 : (A ++ P1') ++ x :: (y :: (P2 ++ R' ++ Z)) = A ++ P1' ++ x :: ((y :: P2) ++ R' ++ Z) := by simp
              have p1 := BlkT.put (by rw [el1] at hblk; exact hblk) hq1 y
              rw [el2] at p1
              have p2 := BlkT.put p1.1 hq x
              rw [el3] at p2
              have HP : Hid _ := And.intro p2.1 (gr_trans hgr1 (gr_trans p1.2 p2.2))
              have hfz := fun j => Blk.free hblk j
              obtain ⟨⟨c0, c1, c2, c3⟩, d0, d1, d2, d3⟩ := two1
              have HPP' : Hid (P = P1' ++ (y :: P2) ∧ ∀ z ∈ y :: P2, ltT x z) := ⟨by rw [HPP.out.1]; simp, fun z hz => by rw [List.mem_cons] at hz; rcases hz with rfl | hz; exact hxy; exact HPP.out.2 z hz⟩
              clear p1 p2 el1 el2 el3 hblk hgr1 hq hq1 hltT hxy HB1 HPP hHeld
              go_wp2_with fail
              go_big_region
              all_goals go_wp2
              go_roundw
              case rel => first | exact ⟨q, P1', y :: P2, by go_num, by have := HQ.out.1; have := HLA.out; simp at *; omega, HPP'.out.1, HPP'.out.2, HP.out.1.drew, gr_drew HP.out.2⟩ | ((repeat apply Exists.intro); exact ⟨⟨q, P1', y :: P2, by go_num, by have := HQ.out.1; have := HLA.out; simp at *; omega, HPP'.out.1, HPP'.out.2, HP.out.1.drew, gr_drew HP.out.2⟩, rfl⟩)
              case measure => simp [intOf]
            · skip
              refine take_first 15 (v := ?_) rfl (by kernel_rfl) (by kernel_rfl) (by kernel_rfl) (fun _ _ _ h => h) (Or.inl ⟨by rfl, by intro wx hSw; obtain ⟨⟨hSw1, hSw2, hSw3, hSw4⟩, hSw5, hSw6, hSw7, hSw8⟩ := hSw; go_simp; try with_reducible rfl⟩) (by assumption) ?_
              (try simp only [Act.put, List.setIfInBounds_toArray, List.set_cons_zero, List.set_cons_succ])
              refine take_first 16 (v := ?_) rfl (by kernel_rfl) (by kernel_rfl) (by kernel_rfl) (fun _ _ _ h => h) (Or.inl ⟨by rfl, by intro wx hSw; obtain ⟨⟨hSw1, hSw2, hSw3, hSw4⟩, hSw5, hSw6, hSw7, hSw8⟩ := hSw; go_simp; try with_reducible rfl⟩) (by assumption) ?_
              (try simp only [Act.put, List.setIfInBounds_toArray, List.set_cons_zero, List.set_cons_succ])
              refine wpAnyH_done (by kernel_rfl) ?_ _
              refine NoPanic.normal ?_
              have hyx : ltT y x := ltT_tri (by have := HT.out.1 y hyP; omega) (fun h => hd (hltT.2 h))
              have HE : Hid (Asc ((P1' ++ [y]) ++ x :: P2) ∧ BlkT w1 g cap (A ++ ((P1' ++ [y]) ++ x :: P2) ++ R' ++ Z)) := by
                refine ⟨asc_ins (by rw [← HPP.out.1]; exact HLR.out.2.2) HPP.out.2 (fun z hz => ?_), by have := HB1.out.1; simpa using this⟩
                have hA := HLR.out.2.2
                rw [HPP.out.1] at hA
                have hA1 := (List.pairwise_append.1 hA).1
                rw [List.mem_append] at hz
                rcases hz with hz | hz
                · exact ltT_trans ((List.pairwise_append.1 hA1).2.2 z hz y (by simp)) hyx
                · rw [List.mem_singleton] at hz; subst hz; exact hyx
              have HE2 : Hid (l0 :: L0 = (L1 ++ [x]) ++ R' ∧ ((P1' ++ [y]) ++ x :: P2).Perm (L1 ++ [x])) := by
                refine ⟨HLR.out.1, ?_⟩
                have hp := HLR.out.2.1
                rw [HPP.out.1] at hp
                exact (List.perm_middle.trans (List.Perm.cons x hp)).trans (List.perm_append_singleton x L1).symm
              have hpl' : ((P1' ++ [y]) ++ x :: P2).length = pl + 1 := by rw [← hpl, HPP.out.1]; simp; omega
              have HG1 : Hid (w.grownBy w1 (some g)) := HB1.out.2
              clear hltT hyx HB1 HPP hHeld two1
              go_wp2
              go_roundw
              case rel => exact ⟨(P1' ++ [y]) ++ x :: P2, R', L1 ++ [x], by rw [hpl']; push_cast; rw [Int.add_assoc], HE2.out.1, HE2.out.2, HE.out.1, by rw [hpl']; omega, HE.out.2, HG1.out⟩
              case measure => simp [intOf]; omega
end Go.Proofs.YtlonbbepoamnmaaDoor
namespace Go.Proofs.YtlonbbepoamnmaaDoor
open Go.RowKit Go.Sort
set_option linter.unusedVariables false
set_option linter.unusedSimpArgs false

set_option maxRecDepth 10000 in
set_option maxHeartbeats 2000000 in
theorem sm_left (w : World) (g cap n : Nat) (A R Z : List Tg) (x : Tg) (ia im ib : Int) (hb : BlkT w g cap (A ++ [x] ++ R ++ Z)) (hn : (A ++ [x] ++ R ++ Z).length = n) (hmax : n ≤ 1000000) (hR : Asc R) (htag : ∀ y ∈ R, x.2 < y.2) (hokx : OkS x.1) (hok : OkT R)
    (h1 : ia = (A.length : Nat)) (h2 : im = ((A.length + 1 : Nat) : Nat)) (h3 : ib = ((A.length + 1 + R.length : Nat) : Nat)) :
    Calls Tryd.prog 108 #[.slice (some ⟨g, 0, none⟩) n cap, .int .i64 ia, .int .i64 im, .int .i64 ib, .func (.func 92) #[] #[]] w fun e w' => e = .returned (.tuple #[]) ∧ ∃ M, M.Perm ([x] ++ R) ∧ Asc M ∧ BlkT w' g cap (A ++ M ++ Z) ∧ w.grownBy w' (some g) := by
  obtain ⟨a, HA⟩ : ∃ a : Nat, Hid (A.length = a) := ⟨_, rfl⟩
  obtain ⟨m, HM⟩ : ∃ m : Nat, Hid (A.length + 1 = m) := ⟨_, rfl⟩
  obtain ⟨b, HB⟩ : ∃ b : Nat, Hid (A.length + 1 + R.length = b) := ⟨_, rfl⟩
  rw [HA.out] at h1
  rw [HM.out] at h2
  rw [HB.out] at h3
  subst h1 h2 h3
  have hbn : b ≤ n := by have := HB.out; rw [← hn]; simp; omega
  have hm1 : a + 1 ≤ m := by have := HM.out; have := HA.out; omega
  have hm2 : m ≤ a + 1 := by have := HM.out; have := HA.out; omega
  have hab : m ≤ b := by have := HB.out; have := HM.out; omega
  have hsub : (m : Int) - (a : Int) = 1 := by omega
  have HR : Hid (Asc R ∧ (∀ y ∈ R, x.2 < y.2) ∧ OkS x.1 ∧ OkT R) := ⟨hR, htag, hokx, hok⟩
  have hDj : ∀ j, m ≤ j → j < b → ∃ y, R[j - m]? = some y ∧ y ∈ R ∧ (A ++ [x] ++ R ++ Z)[j]? = some y := fun j h1 h2 => by
    have e1 := HM.out
    have e2 := HB.out
    have hl : j - m < R.length := by omega
    refine ⟨R[j - m], List.getElem?_eq_getElem hl, List.getElem_mem hl, ?_⟩
    rw [List.append_assoc, List.getElem?_append_right (by simp; omega), List.getElem?_append_left (by simp; omega)]
    rw [show j - (A ++ [x]).length = j - m by simp; omega]
    exact List.getElem?_eq_getElem hl
  have hDa : (A ++ [x] ++ R ++ Z)[a]? = some x := by
    have e1 := HA.out
    rw [List.append_assoc, List.append_assoc]
    exact mid_get A x (R ++ Z) e1
  obtain ⟨D, HDD⟩ : ∃ D, Hid (A ++ [x] ++ R ++ Z = D) := ⟨_, rfl⟩
  rw [HDD.out] at hb hDa hDj
  have HD : Hid (∀ j, m ≤ j → j < b → ∃ y, R[j - m]? = some y ∧ y ∈ R ∧ D[j]? = some y) := hDj
  have HDa : Hid (D[a]? = some x) := hDa
  have HB0 : Hid (BlkT w g cap D) := hb
  clear hb hn hR htag hokx hok hDa hDj
  go_enter Tryd.func108, Tryd.ntmps108
  go_wp2_with fail
  go_loopw [10, 11, 12] (fun iv jv _ wr => ∃ (i j : Nat), iv = .int .i64 (i : Nat) ∧ jv = .int .i64 (j : Nat) ∧ m ≤ i ∧ i ≤ j ∧ j ≤ b ∧ (i = m ∨ ∃ y, R[i - 1 - m]? = some y ∧ ltT y x) ∧ (j = b ∨ ∃ y, R[j - m]? = some y ∧ ltT x y) ∧ BlkT wr g cap D ∧ w.grownBy wr (some g)) (fun iv jv _ _ => (intOf jv).toNat - (intOf iv).toNat)
  case atStart => exact ⟨m, b, rfl, rfl, by omega, by omega, by omega, .inl rfl, .inl rfl, HB0.out, gr_refl _ _⟩
  case round =>
    clear HB0
    obtain ⟨i, j, rfl, rfl, hi, hij, hj, hlo, hhi, hblk, hgr⟩ := hrel
    by_cases hlt : i < j
    · have hltI : (i : Int) < (j : Int) := by omega
      obtain ⟨h, hh⟩ : ∃ h : Nat, (i + j) / 2 = h := ⟨_, rfl⟩
      have hhI : ((i : Int) + (j : Int)) / 2 = (h : Int) := by omega
      have hih : i ≤ h := by omega
      have hhj : h < j := by omega
      clear hh
      obtain ⟨y, hyR, hym, hyD⟩ := HD.out h (by omega) (by omega)
      have two : Two g h a y x wr := hblk.two hyD HDa.out
      have hc := fun W => cmpS_any W y.1 x.1 (HR.out.2.2.2 y hym) HR.out.2.2.1
      have hltT := ltT_of (HR.out.2.1 y hym)
      have htri : ¬ ltT y x → ltT x y := ltT_tri (by have := HR.out.2.1 y hym; omega)
      generalize cmpS y.1 x.1 = d at hc hltT
      have hhn : (h : Int) < (n : Int) := by omega
      have han : (a : Int) < (n : Int) := by omega
      have HBK1 : Hid (BlkT wr g cap D ∧ w.grownBy wr (some g)) := ⟨hblk, hgr⟩
      have HLO : Hid ((i = m ∨ ∃ y, R[i - 1 - m]? = some y ∧ ltT y x) ∧ (j = b ∨ ∃ y, R[j - m]? = some y ∧ ltT x y) ∧ R[h - m]? = some y) := ⟨hlo, hhi, hyR⟩
      unfold sta at hc
      clear hblk hgr hlo hhi hyR hyD hym
      go_wp2_with fail
      refine wp_region_noPanic ?_
      refine wp_region_held_drew (S := fun wx => Two g h a y x wx) (by kernel_rfl) two (fun hHeld => ?_)
      refine take_first 0 (v := ?_) rfl (by kernel_rfl) (by kernel_rfl) (by kernel_rfl) (fun _ _ _ h => h) (Or.inl ⟨by rfl, by intro wx hSw; obtain ⟨⟨hSw1, hSw2, hSw3, hSw4⟩, hSw5, hSw6, hSw7, hSw8⟩ := hSw; go_simp; try with_reducible rfl⟩) (by assumption) ?_
      (try simp only [Act.put, List.setIfInBounds_toArray, List.set_cons_zero, List.set_cons_succ])
      refine take_first 1 (v := ?_) rfl (by kernel_rfl) (by kernel_rfl) (by kernel_rfl) (fun _ _ _ h => h) (Or.inl ⟨by rfl, by intro wx hSw; obtain ⟨⟨hSw1, hSw2, hSw3, hSw4⟩, hSw5, hSw6, hSw7, hSw8⟩ := hSw; go_simp; try with_reducible rfl⟩) (by assumption) ?_
      (try simp only [Act.put, List.setIfInBounds_toArray, List.set_cons_zero, List.set_cons_succ])
      refine take_first 2 (v := ?_) rfl (by kernel_rfl) (by kernel_rfl) (by kernel_rfl) (fun _ _ _ h => h) (Or.inl ⟨by rfl, by intro wx hSw; obtain ⟨⟨hSw1, hSw2, hSw3, hSw4⟩, hSw5, hSw6, hSw7, hSw8⟩ := hSw; go_simp; try with_reducible rfl⟩) (by assumption) ?_
      (try simp only [Act.put, List.setIfInBounds_toArray, List.set_cons_zero, List.set_cons_succ])
      refine take_first 3 (v := ?_) rfl (by kernel_rfl) (by kernel_rfl) (by kernel_rfl) (fun _ _ _ h => h) (Or.inl ⟨by rfl, by intro wx hSw; obtain ⟨⟨hSw1, hSw2, hSw3, hSw4⟩, hSw5, hSw6, hSw7, hSw8⟩ := hSw; go_simp; try with_reducible rfl⟩) (by assumption) ?_
      (try simp only [Act.put, List.setIfInBounds_toArray, List.set_cons_zero, List.set_cons_succ])
      refine take_first 4 (v := ?_) rfl (by kernel_rfl) (by kernel_rfl) (by kernel_rfl) (fun _ _ _ h => h) (Or.inl ⟨by rfl, by intro wx hSw; obtain ⟨⟨hSw1, hSw2, hSw3, hSw4⟩, hSw5, hSw6, hSw7, hSw8⟩ := hSw; go_simp; try with_reducible rfl⟩) (by assumption) ?_
      (try simp only [Act.put, List.setIfInBounds_toArray, List.set_cons_zero, List.set_cons_succ])
      refine take_first 5 (v := ?_) rfl (by kernel_rfl) (by kernel_rfl) (by kernel_rfl) (fun _ _ _ h => h) (Or.inl ⟨by rfl, by intro wx hSw; obtain ⟨⟨hSw1, hSw2, hSw3, hSw4⟩, hSw5, hSw6, hSw7, hSw8⟩ := hSw; go_simp; try with_reducible rfl⟩) (by assumption) ?_
      (try simp only [Act.put, List.setIfInBounds_toArray, List.set_cons_zero, List.set_cons_succ])
      refine take_first 6 (v := ?_) rfl (by kernel_rfl) (by kernel_rfl) (by kernel_rfl) (fun _ _ _ h => h) (Or.inl ⟨by rfl, by intro wx hSw; obtain ⟨⟨hSw1, hSw2, hSw3, hSw4⟩, hSw5, hSw6, hSw7, hSw8⟩ := hSw; go_simp; try with_reducible rfl⟩) (by assumption) ?_
      (try simp only [Act.put, List.setIfInBounds_toArray, List.set_cons_zero, List.set_cons_succ])
      refine take_first 7 (v := ?_) rfl (by kernel_rfl) (by kernel_rfl) (by kernel_rfl) (fun _ _ _ h => h) (Or.inl ⟨by rfl, by intro wx hSw; obtain ⟨⟨hSw1, hSw2, hSw3, hSw4⟩, hSw5, hSw6, hSw7, hSw8⟩ := hSw; go_simp; try with_reducible rfl⟩) (by assumption) ?_
      (try simp only [Act.put, List.setIfInBounds_toArray, List.set_cons_zero, List.set_cons_succ])
      refine take_first 8 (v := ?_) rfl (by kernel_rfl) (by kernel_rfl) (by kernel_rfl) (fun _ _ _ h => h) (Or.inl ⟨by rfl, by intro wx hSw; obtain ⟨⟨hSw1, hSw2, hSw3, hSw4⟩, hSw5, hSw6, hSw7, hSw8⟩ := hSw; go_simp; try with_reducible rfl⟩) (by assumption) ?_
      (try simp only [Act.put, List.setIfInBounds_toArray, List.set_cons_zero, List.set_cons_succ])
      refine comes_up 9 rfl (by kernel_rfl) (fun K hK => ?_)
      go_simp
      refine (hc _).mono ?_
      rintro e w1 ⟨rfl, hup⟩
      have two1 := Two.up hHeld hup
      have HB1 : Hid (BlkT w1 g cap D ∧ w.grownBy w1 (some g)) := ⟨HBK1.out.1.drew.up hup, gr_trans (gr_drew HBK1.out.2) (gr_below hup.bl _)⟩
      clear two hHeld hup HBK1
      go_wp2_with fail
      refine hK.out _ _ two1 (fun hHeld => ?_)
      clear hK K
      (try simp only [Act.put, List.setIfInBounds_toArray, List.set_cons_zero, List.set_cons_succ])
      by_cases hd : d < 0
      · skip
        refine take_first 10 (v := ?_) rfl (by kernel_rfl) (by kernel_rfl) (by kernel_rfl) (fun _ _ _ h => h) (Or.inl ⟨by rfl, by intro wx hSw; obtain ⟨⟨hSw1, hSw2, hSw3, hSw4⟩, hSw5, hSw6, hSw7, hSw8⟩ := hSw; go_simp; try with_reducible rfl⟩) (by assumption) ?_
        (try simp only [Act.put, List.setIfInBounds_toArray, List.set_cons_zero, List.set_cons_succ])
        refine wpAnyH_done (by kernel_rfl) ?_ _
        refine NoPanic.normal ?_
        have hyx := hltT.1 hd
        clear hltT htri hHeld two1
        go_wp2
        go_roundw
        case rel =>
          have key : ∃ (i' j' : Nat), (Value.int .i64 ((h : Int) + 1)) = .int .i64 (i' : Nat) ∧ (Value.int .i64 (j : Int)) = .int .i64 (j' : Nat) ∧ m ≤ i' ∧ i' ≤ j' ∧ j' ≤ b ∧ (i' = m ∨ ∃ y, R[i' - 1 - m]? = some y ∧ ltT y x) ∧ (j' = b ∨ ∃ y, R[j' - m]? = some y ∧ ltT x y) ∧ BlkT w1 g cap D ∧ w.grownBy w1 (some g) :=
            ⟨h + 1, j, by push_cast; rfl, rfl, by omega, by omega, hj, .inr ⟨y, HLO.out.2.2, hyx⟩, HLO.out.2.1, HB1.out.1, HB1.out.2⟩
          first | exact key | ((repeat apply Exists.intro); exact ⟨key, rfl⟩)
        case measure => simp [intOf]; omega
      · skip
        refine take_first 10 (v := ?_) rfl (by kernel_rfl) (by kernel_rfl) (by kernel_rfl) (fun _ _ _ h => h) (Or.inl ⟨by rfl, by intro wx hSw; obtain ⟨⟨hSw1, hSw2, hSw3, hSw4⟩, hSw5, hSw6, hSw7, hSw8⟩ := hSw; go_simp; try with_reducible rfl⟩) (by assumption) ?_
        (try simp only [Act.put, List.setIfInBounds_toArray, List.set_cons_zero, List.set_cons_succ])
        refine wpAnyH_done (by kernel_rfl) ?_ _
        refine NoPanic.normal ?_
        have hxy := htri (fun h => hd (hltT.2 h))
        clear hltT htri hHeld two1
        go_wp2
        go_roundw
        case rel =>
          have key : ∃ (i' j' : Nat), (Value.int .i64 (i : Int)) = .int .i64 (i' : Nat) ∧ (Value.int .i64 (h : Int)) = .int .i64 (j' : Nat) ∧ m ≤ i' ∧ i' ≤ j' ∧ j' ≤ b ∧ (i' = m ∨ ∃ y, R[i' - 1 - m]? = some y ∧ ltT y x) ∧ (j' = b ∨ ∃ y, R[j' - m]? = some y ∧ ltT x y) ∧ BlkT w1 g cap D ∧ w.grownBy w1 (some g) :=
            ⟨i, h, rfl, rfl, by omega, by omega, by omega, HLO.out.1, .inr ⟨y, HLO.out.2.2, hxy⟩, HB1.out.1, HB1.out.2⟩
          first | exact key | ((repeat apply Exists.intro); exact ⟨key, rfl⟩)
        case measure => simp [intOf]; omega
    · have hltI : ¬ ((i : Int) < (j : Int)) := by omega
      have hijE : i = j := by omega
      subst hijE
      obtain ⟨t, ht⟩ : ∃ t, i = m + t := ⟨i - m, by omega⟩
      have hbR : m + R.length = b := by have := HM.out; have := HB.out; omega
      have hasc : Asc (R.take t ++ x :: R.drop t) := asc_put HR.out.1 t
        (by rcases hlo with h | ⟨y, h1, h2⟩
            · exact .inl (by omega)
            · by_cases ht0 : t = 0
              · exact .inl ht0
              · exact .inr ⟨y, by rw [show i - 1 - m = t - 1 by omega] at h1; exact h1, h2⟩)
        (by rcases hhi with h | ⟨y, h1, h2⟩
            · exact .inl (by omega)
            · exact .inr ⟨y, by rw [show i - m = t by omega] at h1; exact h1, h2⟩)
      have hlt : (R.take t).length = t := by rw [List.length_take]; omega
      have hpm : (R.take t ++ x :: R.drop t).Perm ([x] ++ R) := by
        have := List.perm_middle (a := x) (l₁ := R.take t) (l₂ := R.drop t)
        rw [List.take_append_drop] at this
        exact this
      have hbk0 : BlkT wr g cap (A ++ [] ++ x :: (R.take t ++ (R.drop t ++ Z))) := by
        rw [← List.append_assoc (R.take t), List.take_append_drop]; rw [← HDD.out] at hblk; simpa using hblk
      generalize R.take t = R1 at *
      generalize R.drop t = R2 at *
      have HE : Hid ((R1 ++ x :: R2).Perm ([x] ++ R) ∧ Asc (R1 ++ x :: R2) ∧ BlkT wr g cap (A ++ [] ++ x :: (R1 ++ (R2 ++ Z))) ∧ w.grownBy wr (some g)) := ⟨hpm, hasc, hbk0, hgr⟩
      obtain ⟨F, HF0⟩ : ∃ F, Hid (R1 ++ x :: R2 = F) := ⟨_, rfl⟩
      have hti1 : m + t ≤ i := by omega
      have hti2 : i ≤ m + t := by omega
      clear ht hblk hgr hlo hhi hpm hasc hbk0 HDa HD
      go_wp2_with fail
      go_loopw [13] (fun kv wq => ∃ (k : Nat) (Ra Rb : List Tg), kv = .int .i64 (k : Nat) ∧ a + Ra.length = k ∧ R1 = Ra ++ Rb ∧ BlkT wq g cap (A ++ Ra ++ x :: (Rb ++ (R2 ++ Z))) ∧ w.grownBy wq (some g)) (fun kv _ => a + t - (intOf kv).toNat)
      case atStart => exact ⟨a, [], R1, rfl, rfl, rfl, HE.out.2.2.1, HE.out.2.2.2⟩
      case round =>
        obtain ⟨k, Ra, Rb, rfl, hk, hRR, hblk, hgr⟩ := hrel
        have hab2 : Ra.length + Rb.length = t := by rw [← hlt, hRR]; simp
        cases Rb with
        | nil =>
          have hkI : ¬ ((k : Int) < (i : Int) - 1) := by simp at hab2; omega
          have HF : Hid (F.Perm ([x] ++ R) ∧ Asc F ∧ BlkT wr g cap (A ++ F ++ Z) ∧ w.grownBy wr (some g)) := ⟨by rw [← HF0.out]; exact HE.out.1, by rw [← HF0.out]; exact HE.out.2.1, by rw [← HF0.out, hRR]; simpa using hblk, hgr⟩
          clear hblk hgr hRR HE HF0
          go_wp2
          (try simp only [Exit.inBlock, Exit.then])
          refine bodyPost_ret (results_none rfl _ _ _) rfl ?_
          exact ⟨rfl, F, HF.out.1, HF.out.2.1, (by first | exact HF.out.2.2.1 | (rw [← List.append_assoc]; exact HF.out.2.2.1)), HF.out.2.2.2⟩
        | cons y Rb' =>
          have hkI : (k : Int) < (i : Int) - 1 := by simp at hab2; omega
          have el1 : A ++ Ra ++ x :: (y :: Rb' ++ (R2 ++ Z)) = (A ++ Ra) ++ x :: (y :: Rb' ++ (R2 ++ Z)) := by simp
          have el1b : A ++ Ra ++ x :: (y :: Rb' ++ (R2 ++ Z)) = (A ++ Ra ++ [x]) ++ y :: (Rb' ++ (R2 ++ Z)) := by simp
          have el2 : (A ++ Ra) ++ y :: (y :: Rb' ++ (R2 ++ Z)) = (A ++ Ra ++ [y]) ++ y :: (Rb' ++ (R2 ++ Z)) := by simp
          have el3 : (A ++ Ra ++ [y]) ++ x :: (Rb' ++ (R2 ++ Z)) = A ++ (Ra ++ [y]) ++ x :: (Rb' ++ (R2 ++ Z)) := by simp
          have hq : (A ++ Ra).length = k := by have := HA.out; simp; omega
          have hq1 : (A ++ Ra ++ [y]).length = k + 1 := by rw [List.length_append, hq]; rfl
          have hq1x : (A ++ Ra ++ [x]).length = k + 1 := by rw [List.length_append, hq]; rfl
          obtain ⟨c0, c1, c2, c3⟩ := BlkT.get (by rw [el1] at hblk; exact hblk) hq
          obtain ⟨d0, d1, d2, d3⟩ := BlkT.get (by rw [el1b] at hblk; exact hblk) hq1x
          have p1 := BlkT.put (by rw [el1] at hblk; exact hblk) hq y
          rw [el2] at p1
          have p2 := BlkT.put p1.1 hq1 x
          rw [el3] at p2
          have HP : Hid _ := And.intro p2.1 (gr_trans hgr (gr_trans p1.2 p2.2))
          have hfz := fun j => Blk.free hblk j
          have HRR : Hid (R1 = (Ra ++ [y]) ++ Rb' ∧ a + (Ra ++ [y]).length = k + 1) := ⟨by rw [hRR]; simp, by simp; omega⟩
          have hkn : (k : Int) + 1 < (n : Int) := by omega
          have hkn' : (k : Int) < (n : Int) := by omega
          have hk0 : ¬ ((k : Int) + 1 < 0) := by omega
          clear p1 p2 el1 el1b el2 el3 hblk hgr hq hq1 hq1x hRR hab2 hk
          go_wp2_with fail
          go_big_region
          all_goals go_wp2
          go_roundw
          case rel => first | exact ⟨k + 1, Ra ++ [y], Rb', by go_num, HRR.out.2, HRR.out.1, HP.out.1.drew, gr_drew HP.out.2⟩ | ((repeat apply Exists.intro); exact ⟨⟨k + 1, Ra ++ [y], Rb', by go_num, HRR.out.2, HRR.out.1, HP.out.1.drew, gr_drew HP.out.2⟩, rfl⟩)
          case measure => simp [intOf]; omega
end Go.Proofs.YtlonbbepoamnmaaDoor
namespace Go.Proofs.YtlonbbepoamnmaaDoor
open Go.RowKit Go.Sort
set_option linter.unusedVariables false
set_option linter.unusedSimpArgs false

set_option maxRecDepth 10000 in
set_option maxHeartbeats 2000000 in
theorem sm_right (w : World) (g cap n : Nat) (A L Z : List Tg) (y : Tg) (ia im ib : Int) (hb : BlkT w g cap (A ++ L ++ [y] ++ Z)) (hn : (A ++ L ++ [y] ++ Z).length = n) (hmax : n ≤ 1000000) (hL : Asc L) (hL2 : 2 ≤ L.length) (htag : ∀ x ∈ L, x.2 < y.2) (hoky : OkS y.1) (hok : OkT L)
    (h1 : ia = (A.length : Nat)) (h2 : im = ((A.length + L.length : Nat) : Nat)) (h3 : ib = ((A.length + L.length + 1 : Nat) : Nat)) :
    Calls Tryd.prog 108 #[.slice (some ⟨g, 0, none⟩) n cap, .int .i64 ia, .int .i64 im, .int .i64 ib, .func (.func 92) #[] #[]] w fun e w' => e = .returned (.tuple #[]) ∧ ∃ M, M.Perm (L ++ [y]) ∧ Asc M ∧ BlkT w' g cap (A ++ M ++ Z) ∧ w.grownBy w' (some g) := by
  obtain ⟨a, HA⟩ : ∃ a : Nat, Hid (A.length = a) := ⟨_, rfl⟩
  obtain ⟨m, HM⟩ : ∃ m : Nat, Hid (A.length + L.length = m) := ⟨_, rfl⟩
  obtain ⟨b, HB⟩ : ∃ b : Nat, Hid (A.length + L.length + 1 = b) := ⟨_, rfl⟩
  rw [HA.out] at h1
  rw [HM.out] at h2
  rw [HB.out] at h3
  subst h1 h2 h3
  have hbn : b ≤ n := by have := HB.out; rw [← hn]; simp; omega
  have hm1 : m + 1 ≤ b := by have := HM.out; have := HB.out; omega
  have hm2 : b ≤ m + 1 := by have := HM.out; have := HB.out; omega
  have hab : a + 2 ≤ m := by have := HA.out; have := HM.out; omega
  have hsub : (b : Int) - (m : Int) = 1 := by omega
  have hsub0 : ((m : Int) - (a : Int) == 1) = false := by simp; omega
  have HR : Hid (Asc L ∧ (∀ x ∈ L, x.2 < y.2) ∧ OkS y.1 ∧ OkT L) := ⟨hL, htag, hoky, hok⟩
  have hDj : ∀ j, a ≤ j → j < m → ∃ x, L[j - a]? = some x ∧ x ∈ L ∧ (A ++ L ++ [y] ++ Z)[j]? = some x := fun j h1 h2 => by
    have e1 := HM.out
    have e2 := HA.out
    have hl : j - a < L.length := by omega
    refine ⟨L[j - a], List.getElem?_eq_getElem hl, List.getElem_mem hl, ?_⟩
    rw [List.append_assoc, List.append_assoc, List.getElem?_append_right (by omega), List.getElem?_append_left (by omega)]
    rw [show j - A.length = j - a by omega]
    exact List.getElem?_eq_getElem hl
  have hDm : (A ++ L ++ [y] ++ Z)[m]? = some y := by
    have e1 := HM.out
    rw [List.append_assoc (A ++ L)]
    exact mid_get (A ++ L) y Z (by simpa using e1)
  obtain ⟨D, HDD⟩ : ∃ D, Hid (A ++ L ++ [y] ++ Z = D) := ⟨_, rfl⟩
  rw [HDD.out] at hb hDm hDj
  have HD : Hid (∀ j, a ≤ j → j < m → ∃ x, L[j - a]? = some x ∧ x ∈ L ∧ D[j]? = some x) := hDj
  have HDm : Hid (D[m]? = some y) := hDm
  have HB0 : Hid (BlkT w g cap D) := hb
  clear hb hn hL hL2 htag hoky hok hDm hDj
  go_enter Tryd.func108, Tryd.ntmps108
  go_wp2_with fail
  go_loopw [14, 15, 16] (fun iv jv _ wr => ∃ (i j : Nat), iv = .int .i64 (i : Nat) ∧ jv = .int .i64 (j : Nat) ∧ a ≤ i ∧ i ≤ j ∧ j ≤ m ∧ (i = a ∨ a < i ∧ ∃ x, L[i - 1 - a]? = some x ∧ ltT x y) ∧ (j = m ∨ ∃ x, L[j - a]? = some x ∧ ltT y x) ∧ BlkT wr g cap D ∧ w.grownBy wr (some g)) (fun iv jv _ _ => (intOf jv).toNat - (intOf iv).toNat)
  case atStart => exact ⟨a, m, rfl, rfl, by omega, by omega, by omega, .inl rfl, .inl rfl, HB0.out, gr_refl _ _⟩
  case round =>
    clear HB0
    obtain ⟨i, j, rfl, rfl, hi, hij, hj, hlo, hhi, hblk, hgr⟩ := hrel
    by_cases hlt : i < j
    · have hltI : (i : Int) < (j : Int) := by omega
      obtain ⟨h, hh⟩ : ∃ h : Nat, (i + j) / 2 = h := ⟨_, rfl⟩
      have hhI : ((i : Int) + (j : Int)) / 2 = (h : Int) := by omega
      have hih : i ≤ h := by omega
      have hhj : h < j := by omega
      clear hh
      obtain ⟨x, hxL, hxm, hxD⟩ := HD.out h (by omega) (by omega)
      have two : Two g m h y x wr := hblk.two HDm.out hxD
      have hc := fun W => cmpS_any W y.1 x.1 HR.out.2.2.1 (HR.out.2.2.2 x hxm)
      have hltT := ltT_of (HR.out.2.1 x hxm)
      have htri : ¬ ltT y x → ltT x y := ltT_tri (by have := HR.out.2.1 x hxm; omega)
      generalize cmpS y.1 x.1 = d at hc hltT
      have hhn : (h : Int) < (n : Int) := by omega
      have han : (m : Int) < (n : Int) := by omega
      have HBK1 : Hid (BlkT wr g cap D ∧ w.grownBy wr (some g)) := ⟨hblk, hgr⟩
      have HLO : Hid ((i = a ∨ a < i ∧ ∃ x, L[i - 1 - a]? = some x ∧ ltT x y) ∧ (j = m ∨ ∃ x, L[j - a]? = some x ∧ ltT y x) ∧ L[h - a]? = some x) := ⟨hlo, hhi, hxL⟩
      unfold sta at hc
      clear hblk hgr hlo hhi hxL hxD hxm
      go_wp2_with fail
      refine wp_region_noPanic ?_
      refine wp_region_held_drew (S := fun wx => Two g m h y x wx) (by kernel_rfl) two (fun hHeld => ?_)
      refine take_first 0 (v := ?_) rfl (by kernel_rfl) (by kernel_rfl) (by kernel_rfl) (fun _ _ _ h => h) (Or.inl ⟨by rfl, by intro wx hSw; obtain ⟨⟨hSw1, hSw2, hSw3, hSw4⟩, hSw5, hSw6, hSw7, hSw8⟩ := hSw; go_simp; try with_reducible rfl⟩) (by assumption) ?_
      (try simp only [Act.put, List.setIfInBounds_toArray, List.set_cons_zero, List.set_cons_succ])
      refine take_first 1 (v := ?_) rfl (by kernel_rfl) (by kernel_rfl) (by kernel_rfl) (fun _ _ _ h => h) (Or.inl ⟨by rfl, by intro wx hSw; obtain ⟨⟨hSw1, hSw2, hSw3, hSw4⟩, hSw5, hSw6, hSw7, hSw8⟩ := hSw; go_simp; try with_reducible rfl⟩) (by assumption) ?_
      (try simp only [Act.put, List.setIfInBounds_toArray, List.set_cons_zero, List.set_cons_succ])
      refine take_first 2 (v := ?_) rfl (by kernel_rfl) (by kernel_rfl) (by kernel_rfl) (fun _ _ _ h => h) (Or.inl ⟨by rfl, by intro wx hSw; obtain ⟨⟨hSw1, hSw2, hSw3, hSw4⟩, hSw5, hSw6, hSw7, hSw8⟩ := hSw; go_simp; try with_reducible rfl⟩) (by assumption) ?_
      (try simp only [Act.put, List.setIfInBounds_toArray, List.set_cons_zero, List.set_cons_succ])
      refine take_first 3 (v := ?_) rfl (by kernel_rfl) (by kernel_rfl) (by kernel_rfl) (fun _ _ _ h => h) (Or.inl ⟨by rfl, by intro wx hSw; obtain ⟨⟨hSw1, hSw2, hSw3, hSw4⟩, hSw5, hSw6, hSw7, hSw8⟩ := hSw; go_simp; try with_reducible rfl⟩) (by assumption) ?_
      (try simp only [Act.put, List.setIfInBounds_toArray, List.set_cons_zero, List.set_cons_succ])
      refine take_first 4 (v := ?_) rfl (by kernel_rfl) (by kernel_rfl) (by kernel_rfl) (fun _ _ _ h => h) (Or.inl ⟨by rfl, by intro wx hSw; obtain ⟨⟨hSw1, hSw2, hSw3, hSw4⟩, hSw5, hSw6, hSw7, hSw8⟩ := hSw; go_simp; try with_reducible rfl⟩) (by assumption) ?_
      (try simp only [Act.put, List.setIfInBounds_toArray, List.set_cons_zero, List.set_cons_succ])
      refine take_first 5 (v := ?_) rfl (by kernel_rfl) (by kernel_rfl) (by kernel_rfl) (fun _ _ _ h => h) (Or.inl ⟨by rfl, by intro wx hSw; obtain ⟨⟨hSw1, hSw2, hSw3, hSw4⟩, hSw5, hSw6, hSw7, hSw8⟩ := hSw; go_simp; try with_reducible rfl⟩) (by assumption) ?_
      (try simp only [Act.put, List.setIfInBounds_toArray, List.set_cons_zero, List.set_cons_succ])
      refine take_first 6 (v := ?_) rfl (by kernel_rfl) (by kernel_rfl) (by kernel_rfl) (fun _ _ _ h => h) (Or.inl ⟨by rfl, by intro wx hSw; obtain ⟨⟨hSw1, hSw2, hSw3, hSw4⟩, hSw5, hSw6, hSw7, hSw8⟩ := hSw; go_simp; try with_reducible rfl⟩) (by assumption) ?_
      (try simp only [Act.put, List.setIfInBounds_toArray, List.set_cons_zero, List.set_cons_succ])
      refine take_first 7 (v := ?_) rfl (by kernel_rfl) (by kernel_rfl) (by kernel_rfl) (fun _ _ _ h => h) (Or.inl ⟨by rfl, by intro wx hSw; obtain ⟨⟨hSw1, hSw2, hSw3, hSw4⟩, hSw5, hSw6, hSw7, hSw8⟩ := hSw; go_simp; try with_reducible rfl⟩) (by assumption) ?_
      (try simp only [Act.put, List.setIfInBounds_toArray, List.set_cons_zero, List.set_cons_succ])
      refine take_first 8 (v := ?_) rfl (by kernel_rfl) (by kernel_rfl) (by kernel_rfl) (fun _ _ _ h => h) (Or.inl ⟨by rfl, by intro wx hSw; obtain ⟨⟨hSw1, hSw2, hSw3, hSw4⟩, hSw5, hSw6, hSw7, hSw8⟩ := hSw; go_simp; try with_reducible rfl⟩) (by assumption) ?_
      (try simp only [Act.put, List.setIfInBounds_toArray, List.set_cons_zero, List.set_cons_succ])
      refine comes_up 9 rfl (by kernel_rfl) (fun K hK => ?_)
      go_simp
      refine (hc _).mono ?_
      rintro e w1 ⟨rfl, hup⟩
      have two1 := Two.up hHeld hup
      have HB1 : Hid (BlkT w1 g cap D ∧ w.grownBy w1 (some g)) := ⟨HBK1.out.1.drew.up hup, gr_trans (gr_drew HBK1.out.2) (gr_below hup.bl _)⟩
      clear two hHeld hup HBK1
      go_wp2_with fail
      refine hK.out _ _ two1 (fun hHeld => ?_)
      clear hK K
      (try simp only [Act.put, List.setIfInBounds_toArray, List.set_cons_zero, List.set_cons_succ])
      by_cases hd : d < 0
      · skip
        have hdd : decide (d < 0) = true := by simpa using hd
        have hnd : (!decide (d < 0)) = false := by simp [hd]
        refine take_first 10 (v := ?_) rfl (by kernel_rfl) (by kernel_rfl) (by kernel_rfl) (fun _ _ _ h => h) (Or.inl ⟨by rfl, by intro wx hSw; obtain ⟨⟨hSw1, hSw2, hSw3, hSw4⟩, hSw5, hSw6, hSw7, hSw8⟩ := hSw; go_simp; try with_reducible rfl⟩) (by assumption) ?_
        (try simp only [Act.put, List.setIfInBounds_toArray, List.set_cons_zero, List.set_cons_succ])
        refine take_first 11 (v := ?_) rfl (by kernel_rfl) (by kernel_rfl) (by kernel_rfl) (fun _ _ _ h => h) (Or.inl ⟨by rfl, by intro wx hSw; obtain ⟨⟨hSw1, hSw2, hSw3, hSw4⟩, hSw5, hSw6, hSw7, hSw8⟩ := hSw; go_simp; try with_reducible rfl⟩) (by assumption) ?_
        (try simp only [Act.put, List.setIfInBounds_toArray, List.set_cons_zero, List.set_cons_succ])
        refine wpAnyH_done (by kernel_rfl) ?_ _
        refine NoPanic.normal ?_
        have hyx := hltT.1 hd
        clear hltT htri hHeld two1
        go_wp2
        go_roundw
        case rel =>
          have key : ∃ (i' j' : Nat), (Value.int .i64 (i : Int)) = .int .i64 (i' : Nat) ∧ (Value.int .i64 (h : Int)) = .int .i64 (j' : Nat) ∧ a ≤ i' ∧ i' ≤ j' ∧ j' ≤ m ∧ (i' = a ∨ a < i' ∧ ∃ x, L[i' - 1 - a]? = some x ∧ ltT x y) ∧ (j' = m ∨ ∃ x, L[j' - a]? = some x ∧ ltT y x) ∧ BlkT w1 g cap D ∧ w.grownBy w1 (some g) :=
            ⟨i, h, rfl, rfl, by omega, by omega, by omega, HLO.out.1, .inr ⟨x, HLO.out.2.2, hyx⟩, HB1.out.1, HB1.out.2⟩
          first | exact key | ((repeat apply Exists.intro); exact ⟨key, rfl⟩)
        case measure => simp [intOf]; omega
      · skip
        have hdd : decide (d < 0) = false := by simpa using hd
        have hnd : (!decide (d < 0)) = true := by simp [hd]
        refine take_first 10 (v := ?_) rfl (by kernel_rfl) (by kernel_rfl) (by kernel_rfl) (fun _ _ _ h => h) (Or.inl ⟨by rfl, by intro wx hSw; obtain ⟨⟨hSw1, hSw2, hSw3, hSw4⟩, hSw5, hSw6, hSw7, hSw8⟩ := hSw; go_simp; try with_reducible rfl⟩) (by assumption) ?_
        (try simp only [Act.put, List.setIfInBounds_toArray, List.set_cons_zero, List.set_cons_succ])
        refine take_first 11 (v := ?_) rfl (by kernel_rfl) (by kernel_rfl) (by kernel_rfl) (fun _ _ _ h => h) (Or.inl ⟨by rfl, by intro wx hSw; obtain ⟨⟨hSw1, hSw2, hSw3, hSw4⟩, hSw5, hSw6, hSw7, hSw8⟩ := hSw; go_simp; try with_reducible rfl⟩) (by assumption) ?_
        (try simp only [Act.put, List.setIfInBounds_toArray, List.set_cons_zero, List.set_cons_succ])
        refine wpAnyH_done (by kernel_rfl) ?_ _
        refine NoPanic.normal ?_
        have hxy := htri (fun h => hd (hltT.2 h))
        clear hltT htri hHeld two1
        go_wp2
        go_roundw
        case rel =>
          have key : ∃ (i' j' : Nat), (Value.int .i64 ((h : Int) + 1)) = .int .i64 (i' : Nat) ∧ (Value.int .i64 (j : Int)) = .int .i64 (j' : Nat) ∧ a ≤ i' ∧ i' ≤ j' ∧ j' ≤ m ∧ (i' = a ∨ a < i' ∧ ∃ x, L[i' - 1 - a]? = some x ∧ ltT x y) ∧ (j' = m ∨ ∃ x, L[j' - a]? = some x ∧ ltT y x) ∧ BlkT w1 g cap D ∧ w.grownBy w1 (some g) :=
            ⟨h + 1, j, by push_cast; rfl, rfl, by omega, by omega, hj, .inr ⟨by omega, x, HLO.out.2.2, hxy⟩, HLO.out.2.1, HB1.out.1, HB1.out.2⟩
          first | exact key | ((repeat apply Exists.intro); exact ⟨key, rfl⟩)
        case measure => simp [intOf]; omega
    · have hltI : ¬ ((i : Int) < (j : Int)) := by omega
      have hijE : i = j := by omega
      subst hijE
      obtain ⟨t, ht⟩ : ∃ t, i = a + t := ⟨i - a, by omega⟩
      have hbR : a + L.length = m := by have := HM.out; have := HA.out; omega
      have hasc : Asc (L.take t ++ y :: L.drop t) := asc_put HR.out.1 t
        (by rcases hlo with h | ⟨h0, x, h1, h2⟩
            · exact .inl (by omega)
            · exact .inr ⟨x, by rw [show i - 1 - a = t - 1 by omega] at h1; exact h1, h2⟩)
        (by rcases hhi with h | ⟨x, h1, h2⟩
            · exact .inl (by omega)
            · exact .inr ⟨x, by rw [show i - a = t by omega] at h1; exact h1, h2⟩)
      have hpm : (L.take t ++ y :: L.drop t).Perm (L ++ [y]) := by
        have h1 := List.perm_middle (a := y) (l₁ := L.take t) (l₂ := L.drop t)
        rw [List.take_append_drop] at h1
        exact h1.trans (List.perm_append_singleton y L).symm
      obtain ⟨F, HF0⟩ : ∃ F, Hid (L.take t ++ y :: L.drop t = F) := ⟨_, rfl⟩
      have hbk0 : BlkT wr g cap (A ++ L ++ y :: ([] ++ Z)) := by rw [← HDD.out] at hblk; simpa using hblk
      have HE : Hid (F.Perm (L ++ [y]) ∧ Asc F ∧ BlkT wr g cap (A ++ L ++ y :: ([] ++ Z)) ∧ w.grownBy wr (some g)) := ⟨by rw [← HF0.out]; exact hpm, by rw [← HF0.out]; exact hasc, hbk0, hgr⟩
      have hti1 : a + t ≤ i := by omega
      have hti2 : i ≤ a + t := by omega
      clear ht hblk hgr hlo hhi hpm hasc hbk0 HDm HD
      go_wp2_with fail
      go_loopw [17] (fun kv wq => ∃ (k : Nat) (La Lb : List Tg), kv = .int .i64 (k : Nat) ∧ a + La.length = k ∧ t ≤ La.length ∧ L = La ++ Lb ∧ BlkT wq g cap (A ++ La ++ y :: (Lb ++ Z)) ∧ w.grownBy wq (some g)) (fun kv _ => (intOf kv).toNat)
      case atStart => exact ⟨m, L, [], rfl, hbR, by omega, by simp, HE.out.2.2.1, HE.out.2.2.2⟩
      case round =>
        obtain ⟨k, La, Lb, rfl, hk, htl, hLL, hblk, hgr⟩ := hrel
        have hab2 : La.length + Lb.length = L.length := by rw [hLL]; simp
        by_cases hend : La.length = t
        · have hkI : ¬ ((i : Int) < (k : Int)) := by omega
          have HF : Hid (F.Perm (L ++ [y]) ∧ Asc F ∧ BlkT wr g cap (A ++ F ++ Z) ∧ w.grownBy wr (some g)) := by
            refine ⟨HE.out.1, HE.out.2.1, ?_, hgr⟩
            have e1 : L.take t = La := by rw [hLL, ← hend]; simp
            have e2 : L.drop t = Lb := by rw [hLL, ← hend]; simp
            rw [← HF0.out, e1, e2]
            simpa using hblk
          clear hblk hgr hLL HE HF0
          go_wp2
          (try simp only [Exit.inBlock, Exit.then])
          refine bodyPost_ret (results_none rfl _ _ _) rfl ?_
          exact ⟨rfl, F, HF.out.1, HF.out.2.1, (by first | exact HF.out.2.2.1 | (rw [← List.append_assoc]; exact HF.out.2.2.1)), HF.out.2.2.2⟩
        · have hkI : (i : Int) < (k : Int) := by omega
          rcases List.eq_nil_or_concat La with hLa | ⟨La', u, hLa⟩
          · exfalso; subst hLa; simp at htl hend; omega
          have hLac : La = La' ++ [u] := by rw [hLa]; simp
          clear hLa
          subst hLac
          obtain ⟨q, rfl⟩ : ∃ q, k = q + 1 := ⟨a + La'.length, by simp at hk; omega⟩
          have hq : (A ++ La').length = q := by have := HA.out; simp at hk ⊢; omega
          have hq1 : (A ++ La' ++ [u]).length = q + 1 := by rw [List.length_append, hq]; rfl
          have el1 : A ++ (La' ++ [u]) ++ y :: (Lb ++ Z) = (A ++ La' ++ [u]) ++ y :: (Lb ++ Z) := by simp
          have el1b : A ++ (La' ++ [u]) ++ y :: (Lb ++ Z) = (A ++ La') ++ u :: (y :: (Lb ++ Z)) := by simp
          have el2 : (A ++ La' ++ [u]) ++ u :: (Lb ++ Z) = (A ++ La') ++ u :: (u :: (Lb ++ Z)) := by simp
          have el3 : (A ++ La') ++ y :: (u :: (Lb ++ Z)) = A ++ La' ++ y :: ((u :: Lb) ++ Z) := by simp
          obtain ⟨c0, c1, c2, c3⟩ := BlkT.get (by rw [el1] at hblk; exact hblk) hq1
          obtain ⟨d0, d1, d2, d3⟩ := BlkT.get (by rw [el1b] at hblk; exact hblk) hq
          have p1 := BlkT.put (by rw [el1] at hblk; exact hblk) hq1 u
          rw [el2] at p1
          have p2 := BlkT.put p1.1 hq y
          rw [el3] at p2
          have HP : Hid _ := And.intro p2.1 (gr_trans hgr (gr_trans p1.2 p2.2))
          have hfz := fun j => Blk.free hblk j
          have HRR : Hid (L = La' ++ (u :: Lb) ∧ a + La'.length = q ∧ t ≤ La'.length) := ⟨by rw [hLL]; simp, by simp at hk; omega, by simp at htl hend; omega⟩
          have hkn : (q : Int) + 1 < (n : Int) := by simp at hab2 hk; omega
          have hkn' : (q : Int) < (n : Int) := by omega
          have hk0 : ¬ ((q : Int) + 1 < 0) := by omega
          have hkI' : (i : Int) < (q : Int) + 1 := by omega
          have hwq : IntKind.i64.wrap (q : Int) = (q : Int) := by rw [IntWalk.i64_left, IntWalk.wrap64_in _ (by omega)]
          clear p1 p2 el1 el1b el2 el3 hblk hgr hq hq1 hLL hab2 hk hend htl hkI
          go_wp2_with fail
          go_big_region
          all_goals go_wp2
          go_roundw
          case rel => first | exact ⟨q, La', u :: Lb, by go_num, HRR.out.2.1, HRR.out.2.2, HRR.out.1, HP.out.1.drew, gr_drew HP.out.2⟩ | ((repeat apply Exists.intro); exact ⟨⟨q, La', u :: Lb, by go_num, HRR.out.2.1, HRR.out.2.2, HRR.out.1, HP.out.1.drew, gr_drew HP.out.2⟩, rfl⟩)
          case measure => simp [intOf]
end Go.Proofs.YtlonbbepoamnmaaDoor
namespace Go.Proofs.YtlonbbepoamnmaaDoor
open Go.RowKit Go.Sort
set_option linter.unusedVariables false
set_option linter.unusedSimpArgs false

def SmSaid (g cap n N : Nat) : Prop := ∀ (w : World) (A L R Z : List Tg) (ia im ib : Int), L.length + R.length ≤ N → 0 < L.length → 0 < R.length → BlkT w g cap (A ++ L ++ R ++ Z) → (A ++ L ++ R ++ Z).length = n → Asc L → Asc R → (∀ x ∈ L, ∀ y ∈ R, x.2 < y.2) → OkT L → OkT R →
    ia = (A.length : Nat) → im = ((A.length + L.length : Nat) : Nat) → ib = ((A.length + L.length + R.length : Nat) : Nat) →
    Calls Tryd.prog 108 #[.slice (some ⟨g, 0, none⟩) n cap, .int .i64 ia, .int .i64 im, .int .i64 ib, .func (.func 92) #[] #[]] w fun e w' => e = .returned (.tuple #[]) ∧ ∃ M, M.Perm (L ++ R) ∧ Asc M ∧ BlkT w' g cap (A ++ M ++ Z) ∧ w.grownBy w' (some g)

/-- What the search has found. -/
def Found (L R : List Tg) (a m q st : Nat) : Prop :=
  (st = a ∨ a ≤ st ∧ q - st - m = R.length ∨ a < st ∧ ∃ x y, L[st - 1 - a]? = some x ∧ R[q - st - m]? = some y ∧ ltT x y) ∧
  (st - a = L.length ∨ q - st - m = 0 ∨ ∃ x y, L[st - a]? = some x ∧ R[q - 1 - st - m]? = some y ∧ ltT y x)

set_option maxRecDepth 10000 in
set_option maxHeartbeats 4000000 in
theorem sm_step (w : World) (g cap n N : Nat) (ih : SmSaid g cap n N) (A L R Z : List Tg) (ia im ib : Int) (hN : L.length + R.length ≤ N + 1) (hL2 : 2 ≤ L.length) (hR2 : 2 ≤ R.length) (hb : BlkT w g cap (A ++ L ++ R ++ Z)) (hn : (A ++ L ++ R ++ Z).length = n) (hmax : n ≤ 1000000)
    (hL : Asc L) (hR : Asc R) (htag : ∀ x ∈ L, ∀ y ∈ R, x.2 < y.2) (hokL : OkT L) (hokR : OkT R)
    (h1 : ia = (A.length : Nat)) (h2 : im = ((A.length + L.length : Nat) : Nat)) (h3 : ib = ((A.length + L.length + R.length : Nat) : Nat)) :
    Calls Tryd.prog 108 #[.slice (some ⟨g, 0, none⟩) n cap, .int .i64 ia, .int .i64 im, .int .i64 ib, .func (.func 92) #[] #[]] w fun e w' => e = .returned (.tuple #[]) ∧ ∃ M, M.Perm (L ++ R) ∧ Asc M ∧ BlkT w' g cap (A ++ M ++ Z) ∧ w.grownBy w' (some g) := by
  obtain ⟨a, HA⟩ : ∃ a : Nat, Hid (A.length = a) := ⟨_, rfl⟩
  obtain ⟨m, HM⟩ : ∃ m : Nat, Hid (A.length + L.length = m) := ⟨_, rfl⟩
  obtain ⟨b, HB⟩ : ∃ b : Nat, Hid (A.length + L.length + R.length = b) := ⟨_, rfl⟩
  rw [HA.out] at h1
  rw [HM.out] at h2
  rw [HB.out] at h3
  subst h1 h2 h3
  have hbn : b ≤ n := by have := HB.out; rw [← hn]; simp; omega
  have hbm : m + 2 ≤ b := by have := HM.out; have := HB.out; omega
  have hab : a + 2 ≤ m := by have := HA.out; have := HM.out; omega
  have hNb : b ≤ a + N + 1 := by have := HA.out; have := HM.out; have := HB.out; omega
  have hsub0 : ((m : Int) - (a : Int) == 1) = false := by simp; omega
  have hsub1 : ((b : Int) - (m : Int) == 1) = false := by simp; omega
  obtain ⟨mid, hmid⟩ : ∃ mid : Nat, (a + b) / 2 = mid := ⟨_, rfl⟩
  have hmidI : ((a : Int) + (b : Int)) / 2 = (mid : Int) := by omega
  have hmid1 : a + b ≤ mid + mid + 1 := by omega
  have hmid2 : mid + mid ≤ a + b := by omega
  clear hmid
  obtain ⟨q, hq⟩ : ∃ q : Nat, mid + m = q := ⟨_, rfl⟩
  have hqI : (mid : Int) + (m : Int) = (q : Int) := by omega
  have hq1 : mid + m ≤ q := by omega
  have hq2 : q ≤ mid + m := by omega
  clear hq
  obtain ⟨p, hp⟩ : ∃ p : Nat, p + 1 = q := ⟨q - 1, by omega⟩
  have hpI : (q : Int) - 1 = (p : Int) := by omega
  have hp1 : p + 1 ≤ q := by omega
  have hp2 : q ≤ p + 1 := by omega
  clear hp
  have HR : Hid (Asc L ∧ Asc R ∧ (∀ x ∈ L, ∀ y ∈ R, x.2 < y.2) ∧ OkT L ∧ OkT R) := ⟨hL, hR, htag, hokL, hokR⟩
  have HN : Hid ((A ++ L ++ R ++ Z).length = n) := hn
  have HIH : Hid (SmSaid g cap n N) := ih
  have hDl : ∀ j, a ≤ j → j < m → ∃ x, L[j - a]? = some x ∧ x ∈ L ∧ (A ++ L ++ R ++ Z)[j]? = some x := fun j h1 h2 => by
    have e1 := HM.out
    have e2 := HA.out
    have hl : j - a < L.length := by omega
    refine ⟨L[j - a], List.getElem?_eq_getElem hl, List.getElem_mem hl, ?_⟩
    rw [List.append_assoc, List.append_assoc, List.getElem?_append_right (by omega), List.getElem?_append_left (by omega)]
    rw [show j - A.length = j - a by omega]
    exact List.getElem?_eq_getElem hl
  have hDr : ∀ j, m ≤ j → j < b → ∃ y, R[j - m]? = some y ∧ y ∈ R ∧ (A ++ L ++ R ++ Z)[j]? = some y := fun j h1 h2 => by
    have e1 := HM.out
    have e2 := HB.out
    have hl : j - m < R.length := by omega
    refine ⟨R[j - m], List.getElem?_eq_getElem hl, List.getElem_mem hl, ?_⟩
    rw [List.append_assoc, List.getElem?_append_right (by simp; omega), List.getElem?_append_left (by simp; omega)]
    rw [show j - (A ++ L).length = j - m by simp; omega]
    exact List.getElem?_eq_getElem hl
  obtain ⟨D, HDD⟩ : ∃ D, Hid (A ++ L ++ R ++ Z = D) := ⟨_, rfl⟩
  rw [HDD.out] at hb hDl hDr
  have HDl : Hid (∀ j, a ≤ j → j < m → ∃ x, L[j - a]? = some x ∧ x ∈ L ∧ D[j]? = some x) := hDl
  have HDr : Hid (∀ j, m ≤ j → j < b → ∃ y, R[j - m]? = some y ∧ y ∈ R ∧ D[j]? = some y) := hDr
  have HB0 : Hid (BlkT w g cap D) := hb
  clear hb hn hL hR htag hokL hokR hDl hDr ih hL2 hR2 hN
  go_enter Tryd.func108, Tryd.ntmps108
  go_upto_if 140 with fail
  go_cut [20, 21] from 138 to 146 (fun sv rv wx => ∃ (lo hi : Nat), sv = .int .i64 (lo : Nat) ∧ rv = .int .i64 (hi : Nat) ∧ a ≤ lo ∧ hi ≤ m ∧ hi ≤ mid ∧ q ≤ lo + b ∧ lo ≤ hi ∧ (lo = a ∨ lo + b = q) ∧ (hi = m ∨ hi = mid) ∧ wx = w)
  case first =>
    by_cases hgt : mid < m
    · have hgtI : (mid : Int) < (m : Int) := by omega
      have hqb : (q : Int) - (b : Int) = ((q - b : Nat) : Int) := by omega
      go_wp2
      go_meet
      case rel => exact ⟨q - b, mid, by first | rfl | rw [hqb], rfl, by omega, by omega, by omega, by omega, by omega, .inr (by omega), .inr rfl, rfl⟩
    · have hgtI : ¬ ((mid : Int) < (m : Int)) := by omega
      go_wp2
      go_meet
      case rel => exact ⟨a, m, rfl, rfl, by omega, by omega, by omega, by omega, by omega, .inl rfl, .inl rfl, rfl⟩
  case rest =>
    obtain ⟨lo, hi, rfl, rfl, hla, hhm, hhmid, hqb, hlh, hlo0, hhi0, hwc⟩ := hcut
    obtain rfl : w = wc := hwc.symm
    have HC : Hid ((lo = a ∨ lo + b = q) ∧ (hi = m ∨ hi = mid)) := ⟨hlo0, hhi0⟩
    clear hlo0 hhi0
    go_wp2_with fail
    go_loopw [20, 21, 23] (fun iv jv _ wr => ∃ (i j : Nat), iv = .int .i64 (i : Nat) ∧ jv = .int .i64 (j : Nat) ∧ lo ≤ i ∧ i ≤ j ∧ j ≤ hi ∧ (i = lo ∨ lo < i ∧ ∃ x y, L[i - 1 - a]? = some x ∧ R[p + 1 - i - m]? = some y ∧ ltT x y) ∧ (j = hi ∨ j < hi ∧ ∃ x y, L[j - a]? = some x ∧ R[p - j - m]? = some y ∧ ltT y x) ∧ BlkT wr g cap D ∧ w.grownBy wr (some g)) (fun iv jv _ _ => (intOf jv).toNat - (intOf iv).toNat)
    case atStart => exact ⟨lo, hi, rfl, rfl, by omega, by omega, by omega, .inl rfl, .inl rfl, HB0.out, gr_refl _ _⟩
    case round =>
      clear HB0
      obtain ⟨i, j, rfl, rfl, hi', hij, hj, hlo, hhi, hblk, hgr⟩ := hrel
      by_cases hlt : i < j
      · have hltI : (i : Int) < (j : Int) := by omega
        obtain ⟨c, hc0⟩ : ∃ c : Nat, (i + j) / 2 = c := ⟨_, rfl⟩
        have hcI : ((i : Int) + (j : Int)) / 2 = (c : Int) := by omega
        have hic : i ≤ c := by omega
        have hcj : c < j := by omega
        clear hc0
        obtain ⟨e, he⟩ : ∃ e : Nat, p - c = e := ⟨_, rfl⟩
        have heI : (p : Int) - (c : Int) = (e : Int) := by omega
        have he1 : p ≤ e + c := by omega
        have he2 : e + c ≤ p := by omega
        clear he
        obtain ⟨x, hxL, hxm, hxD⟩ := HDl.out c (by omega) (by omega)
        obtain ⟨y, hyR, hym, hyD⟩ := HDr.out e (by omega) (by omega)
        have two : Two g e c y x wr := hblk.two hyD hxD
        have hc := fun W => cmpS_any W y.1 x.1 (HR.out.2.2.2.2 y hym) (HR.out.2.2.2.1 x hxm)
        have htg := HR.out.2.2.1 x hxm y hym
        have hltT := ltT_of htg
        have htri : ¬ ltT y x → ltT x y := ltT_tri (by omega)
        generalize cmpS y.1 x.1 = d at hc hltT
        have hen : (e : Int) < (n : Int) := by omega
        have hwe : IntKind.i64.wrap (e : Int) = (e : Int) := by rw [IntWalk.i64_left, IntWalk.wrap64_in _ (by omega)]
        have hcn : (c : Int) < (n : Int) := by omega
        have HBK1 : Hid (BlkT wr g cap D ∧ w.grownBy wr (some g)) := ⟨hblk, hgr⟩
        have HLO : Hid ((i = lo ∨ lo < i ∧ ∃ x y, L[i - 1 - a]? = some x ∧ R[p + 1 - i - m]? = some y ∧ ltT x y) ∧ (j = hi ∨ j < hi ∧ ∃ x y, L[j - a]? = some x ∧ R[p - j - m]? = some y ∧ ltT y x) ∧ L[c - a]? = some x ∧ R[e - m]? = some y) := ⟨hlo, hhi, hxL, hyR⟩
        unfold sta at hc
        clear hblk hgr hlo hhi hxL hxD hxm hyR hyD hym htg
        go_wp2_with fail
        refine wp_region_noPanic ?_
        refine wp_region_held_drew (S := fun wx => Two g e c y x wx) (by kernel_rfl) two (fun hHeld => ?_)
        refine take_first 0 (v := ?_) rfl (by kernel_rfl) (by kernel_rfl) (by kernel_rfl) (fun _ _ _ h => h) (Or.inl ⟨by rfl, by intro wx hSw; obtain ⟨⟨hSw1, hSw2, hSw3, hSw4⟩, hSw5, hSw6, hSw7, hSw8⟩ := hSw; go_simp; try with_reducible rfl⟩) (by assumption) ?_
        (try simp only [Act.put, List.setIfInBounds_toArray, List.set_cons_zero, List.set_cons_succ])
        refine take_first 1 (v := ?_) rfl (by kernel_rfl) (by kernel_rfl) (by kernel_rfl) (fun _ _ _ h => h) (Or.inl ⟨by rfl, by intro wx hSw; obtain ⟨⟨hSw1, hSw2, hSw3, hSw4⟩, hSw5, hSw6, hSw7, hSw8⟩ := hSw; go_simp; try with_reducible rfl⟩) (by assumption) ?_
        (try simp only [Act.put, List.setIfInBounds_toArray, List.set_cons_zero, List.set_cons_succ])
        refine take_first 2 (v := ?_) rfl (by kernel_rfl) (by kernel_rfl) (by kernel_rfl) (fun _ _ _ h => h) (Or.inl ⟨by rfl, by intro wx hSw; obtain ⟨⟨hSw1, hSw2, hSw3, hSw4⟩, hSw5, hSw6, hSw7, hSw8⟩ := hSw; go_simp; try with_reducible rfl⟩) (by assumption) ?_
        (try simp only [Act.put, List.setIfInBounds_toArray, List.set_cons_zero, List.set_cons_succ])
        refine take_first 3 (v := ?_) rfl (by kernel_rfl) (by kernel_rfl) (by kernel_rfl) (fun _ _ _ h => h) (Or.inl ⟨by rfl, by intro wx hSw; obtain ⟨⟨hSw1, hSw2, hSw3, hSw4⟩, hSw5, hSw6, hSw7, hSw8⟩ := hSw; go_simp; try with_reducible rfl⟩) (by assumption) ?_
        (try simp only [Act.put, List.setIfInBounds_toArray, List.set_cons_zero, List.set_cons_succ])
        refine take_first 4 (v := ?_) rfl (by kernel_rfl) (by kernel_rfl) (by kernel_rfl) (fun _ _ _ h => h) (Or.inl ⟨by rfl, by intro wx hSw; obtain ⟨⟨hSw1, hSw2, hSw3, hSw4⟩, hSw5, hSw6, hSw7, hSw8⟩ := hSw; go_simp; try with_reducible rfl⟩) (by assumption) ?_
        (try simp only [Act.put, List.setIfInBounds_toArray, List.set_cons_zero, List.set_cons_succ])
        refine take_first 5 (v := ?_) rfl (by kernel_rfl) (by kernel_rfl) (by kernel_rfl) (fun _ _ _ h => h) (Or.inl ⟨by rfl, by intro wx hSw; obtain ⟨⟨hSw1, hSw2, hSw3, hSw4⟩, hSw5, hSw6, hSw7, hSw8⟩ := hSw; go_simp; try with_reducible rfl⟩) (by assumption) ?_
        (try simp only [Act.put, List.setIfInBounds_toArray, List.set_cons_zero, List.set_cons_succ])
        refine take_first 6 (v := ?_) rfl (by kernel_rfl) (by kernel_rfl) (by kernel_rfl) (fun _ _ _ h => h) (Or.inl ⟨by rfl, by intro wx hSw; obtain ⟨⟨hSw1, hSw2, hSw3, hSw4⟩, hSw5, hSw6, hSw7, hSw8⟩ := hSw; go_simp; try with_reducible rfl⟩) (by assumption) ?_
        (try simp only [Act.put, List.setIfInBounds_toArray, List.set_cons_zero, List.set_cons_succ])
        refine take_first 7 (v := ?_) rfl (by kernel_rfl) (by kernel_rfl) (by kernel_rfl) (fun _ _ _ h => h) (Or.inl ⟨by rfl, by intro wx hSw; obtain ⟨⟨hSw1, hSw2, hSw3, hSw4⟩, hSw5, hSw6, hSw7, hSw8⟩ := hSw; go_simp; try with_reducible rfl⟩) (by assumption) ?_
        (try simp only [Act.put, List.setIfInBounds_toArray, List.set_cons_zero, List.set_cons_succ])
        refine take_first 8 (v := ?_) rfl (by kernel_rfl) (by kernel_rfl) (by kernel_rfl) (fun _ _ _ h => h) (Or.inl ⟨by rfl, by intro wx hSw; obtain ⟨⟨hSw1, hSw2, hSw3, hSw4⟩, hSw5, hSw6, hSw7, hSw8⟩ := hSw; go_simp; try with_reducible rfl⟩) (by assumption) ?_
        (try simp only [Act.put, List.setIfInBounds_toArray, List.set_cons_zero, List.set_cons_succ])
        refine take_first 9 (v := ?_) rfl (by kernel_rfl) (by kernel_rfl) (by kernel_rfl) (fun _ _ _ h => h) (Or.inl ⟨by rfl, by intro wx hSw; obtain ⟨⟨hSw1, hSw2, hSw3, hSw4⟩, hSw5, hSw6, hSw7, hSw8⟩ := hSw; go_simp; try with_reducible rfl⟩) (by assumption) ?_
        (try simp only [Act.put, List.setIfInBounds_toArray, List.set_cons_zero, List.set_cons_succ])
        refine take_first 10 (v := ?_) rfl (by kernel_rfl) (by kernel_rfl) (by kernel_rfl) (fun _ _ _ h => h) (Or.inl ⟨by rfl, by intro wx hSw; obtain ⟨⟨hSw1, hSw2, hSw3, hSw4⟩, hSw5, hSw6, hSw7, hSw8⟩ := hSw; go_simp; try with_reducible rfl⟩) (by assumption) ?_
        (try simp only [Act.put, List.setIfInBounds_toArray, List.set_cons_zero, List.set_cons_succ])
        refine comes_up 11 rfl (by kernel_rfl) (fun K hK => ?_)
        go_simp
        refine (hc _).mono ?_
        rintro e' w1 ⟨rfl, hup⟩
        have two1 := Two.up hHeld hup
        have HB1 : Hid (BlkT w1 g cap D ∧ w.grownBy w1 (some g)) := ⟨HBK1.out.1.drew.up hup, gr_trans (gr_drew HBK1.out.2) (gr_below hup.bl _)⟩
        clear two hHeld hup HBK1
        go_wp2_with fail
        refine hK.out _ _ two1 (fun hHeld => ?_)
        clear hK K
        (try simp only [Act.put, List.setIfInBounds_toArray, List.set_cons_zero, List.set_cons_succ])
        by_cases hd : d < 0
        · skip
          have hdd : decide (d < 0) = true := by simpa using hd
          have hnd : (!decide (d < 0)) = false := by simp [hd]
          refine take_first 12 (v := ?_) rfl (by kernel_rfl) (by kernel_rfl) (by kernel_rfl) (fun _ _ _ h => h) (Or.inl ⟨by rfl, by intro wx hSw; obtain ⟨⟨hSw1, hSw2, hSw3, hSw4⟩, hSw5, hSw6, hSw7, hSw8⟩ := hSw; go_simp; try with_reducible rfl⟩) (by assumption) ?_
          (try simp only [Act.put, List.setIfInBounds_toArray, List.set_cons_zero, List.set_cons_succ])
          refine take_first 13 (v := ?_) rfl (by kernel_rfl) (by kernel_rfl) (by kernel_rfl) (fun _ _ _ h => h) (Or.inl ⟨by rfl, by intro wx hSw; obtain ⟨⟨hSw1, hSw2, hSw3, hSw4⟩, hSw5, hSw6, hSw7, hSw8⟩ := hSw; go_simp; try with_reducible rfl⟩) (by assumption) ?_
          (try simp only [Act.put, List.setIfInBounds_toArray, List.set_cons_zero, List.set_cons_succ])
          refine wpAnyH_done (by kernel_rfl) ?_ _
          refine NoPanic.normal ?_
          have hyx := hltT.1 hd
          clear hltT htri hHeld two1
          go_wp2
          go_roundw
          case rel =>
            have key : ∃ (i' j' : Nat), (Value.int .i64 (i : Int)) = .int .i64 (i' : Nat) ∧ (Value.int .i64 (c : Int)) = .int .i64 (j' : Nat) ∧ lo ≤ i' ∧ i' ≤ j' ∧ j' ≤ hi ∧ (i' = lo ∨ lo < i' ∧ ∃ x y, L[i' - 1 - a]? = some x ∧ R[p + 1 - i' - m]? = some y ∧ ltT x y) ∧ (j' = hi ∨ j' < hi ∧ ∃ x y, L[j' - a]? = some x ∧ R[p - j' - m]? = some y ∧ ltT y x) ∧ BlkT w1 g cap D ∧ w.grownBy w1 (some g) :=
              ⟨i, c, rfl, rfl, by omega, by omega, by omega, HLO.out.1, .inr ⟨by omega, x, y, HLO.out.2.2.1, by rw [show p - c = e by omega]; exact HLO.out.2.2.2, hyx⟩, HB1.out.1, HB1.out.2⟩
            first | exact key | ((repeat apply Exists.intro); exact ⟨key, rfl⟩)
          case measure => simp [intOf]; omega
        · skip
          have hdd : decide (d < 0) = false := by simpa using hd
          have hnd : (!decide (d < 0)) = true := by simp [hd]
          refine take_first 12 (v := ?_) rfl (by kernel_rfl) (by kernel_rfl) (by kernel_rfl) (fun _ _ _ h => h) (Or.inl ⟨by rfl, by intro wx hSw; obtain ⟨⟨hSw1, hSw2, hSw3, hSw4⟩, hSw5, hSw6, hSw7, hSw8⟩ := hSw; go_simp; try with_reducible rfl⟩) (by assumption) ?_
          (try simp only [Act.put, List.setIfInBounds_toArray, List.set_cons_zero, List.set_cons_succ])
          refine take_first 13 (v := ?_) rfl (by kernel_rfl) (by kernel_rfl) (by kernel_rfl) (fun _ _ _ h => h) (Or.inl ⟨by rfl, by intro wx hSw; obtain ⟨⟨hSw1, hSw2, hSw3, hSw4⟩, hSw5, hSw6, hSw7, hSw8⟩ := hSw; go_simp; try with_reducible rfl⟩) (by assumption) ?_
          (try simp only [Act.put, List.setIfInBounds_toArray, List.set_cons_zero, List.set_cons_succ])
          refine wpAnyH_done (by kernel_rfl) ?_ _
          refine NoPanic.normal ?_
          have hxy := htri (fun h => hd (hltT.2 h))
          clear hltT htri hHeld two1
          go_wp2
          go_roundw
          case rel =>
            have key : ∃ (i' j' : Nat), (Value.int .i64 ((c : Int) + 1)) = .int .i64 (i' : Nat) ∧ (Value.int .i64 (j : Int)) = .int .i64 (j' : Nat) ∧ lo ≤ i' ∧ i' ≤ j' ∧ j' ≤ hi ∧ (i' = lo ∨ lo < i' ∧ ∃ x y, L[i' - 1 - a]? = some x ∧ R[p + 1 - i' - m]? = some y ∧ ltT x y) ∧ (j' = hi ∨ j' < hi ∧ ∃ x y, L[j' - a]? = some x ∧ R[p - j' - m]? = some y ∧ ltT y x) ∧ BlkT w1 g cap D ∧ w.grownBy w1 (some g) :=
              ⟨c + 1, j, by push_cast; rfl, rfl, by omega, by omega, hj, .inr ⟨by omega, x, y, HLO.out.2.2.1, by rw [show p + 1 - (c + 1) = e by omega]; exact HLO.out.2.2.2, hxy⟩, HLO.out.2.1, HB1.out.1, HB1.out.2⟩
            first | exact key | ((repeat apply Exists.intro); exact ⟨key, rfl⟩)
          case measure => simp [intOf]; omega
      · have hltI : ¬ ((i : Int) < (j : Int)) := by omega
        have hijE : i = j := by omega
        subst hijE
        have hlR : m + R.length = b := by have := HM.out; have := HB.out; omega
        have hlL : a + L.length = m := by have := HM.out; have := HA.out; omega
        obtain ⟨en, hen0⟩ : ∃ en : Nat, q - i = en := ⟨_, rfl⟩
        have henI : (q : Int) - (i : Int) = (en : Int) := by omega
        have hen1 : q ≤ en + i := by omega
        have hen2 : en + i ≤ q := by omega
        clear hen0
        have hspl : ∀ x ∈ L.take (i - a) ++ R.take (en - m), ∀ y ∈ L.drop (i - a) ++ R.drop (en - m), ltT x y := by
          refine sm_split HR.out.1 HR.out.2.1 (i - a) (en - m) ?_ ?_
          · rcases hlo with h | ⟨h0, x, y, e1, e2, e3⟩
            · rcases HC.out.1 with h' | h'
              · exact .inl (by omega)
              · exact .inr (.inl (by omega))
            · exact .inr (.inr ⟨x, y, by rw [show i - a - 1 = i - 1 - a by omega]; exact e1, by rw [show en - m = p + 1 - i - m by omega]; exact e2, e3⟩)
          · rcases hhi with h | ⟨h0, x, y, e1, e2, e3⟩
            · rcases HC.out.2 with h' | h'
              · exact .inl (by omega)
              · exact .inr (.inl (by omega))
            · exact .inr (.inr ⟨x, y, e1, by rw [show en - m - 1 = p - i - m by omega]; exact e2, e3⟩)
        obtain ⟨L1, L2, R1, R2, HT⟩ : ∃ L1 L2 R1 R2, Hid ((L1 ++ L2 = L ∧ R1 ++ R2 = R) ∧ (L1.length = i - a ∧ L2.length = m - i ∧ R1.length = en - m ∧ R2.length = b - en) ∧ (Asc L1 ∧ Asc L2 ∧ Asc R1 ∧ Asc R2) ∧ (∀ x ∈ L1 ++ R1, ∀ y ∈ L2 ++ R2, ltT x y)) :=
          ⟨L.take (i - a), L.drop (i - a), R.take (en - m), R.drop (en - m), ⟨List.take_append_drop _ _, List.take_append_drop _ _⟩, ⟨by rw [List.length_take]; omega, by rw [List.length_drop]; omega, by rw [List.length_take]; omega, by rw [List.length_drop]; omega⟩, ⟨asc_take HR.out.1 _, asc_drop HR.out.1 _, asc_take HR.out.2.1 _, asc_drop HR.out.2.1 _⟩, hspl⟩
        have HTG : Hid ((∀ x ∈ L1, ∀ y ∈ R1, x.2 < y.2) ∧ (∀ x ∈ L2, ∀ y ∈ R2, x.2 < y.2) ∧ OkT L1 ∧ OkT L2 ∧ OkT R1 ∧ OkT R2) := by
          obtain ⟨_, _, t, o1, o2⟩ := HR.out
          rw [← HT.out.1.1] at t o1
          rw [← HT.out.1.2] at t o2
          exact ⟨fun x hx y hy => t x (by simp [hx]) y (by simp [hy]), fun x hx y hy => t x (by simp [hx]) y (by simp [hy]), fun x hx => o1 x (by simp [hx]), fun x hx => o1 x (by simp [hx]), fun x hx => o2 x (by simp [hx]), fun x hx => o2 x (by simp [hx])⟩
        have HBK : Hid (BlkT wr g cap ((A ++ L1) ++ L2 ++ R1 ++ (R2 ++ Z)) ∧ w.grownBy wr (some g)) := by
          refine ⟨?_, hgr⟩
          have e : (A ++ L1) ++ L2 ++ R1 ++ (R2 ++ Z) = D := by rw [← HDD.out, ← HT.out.1.1, ← HT.out.1.2]; simp
          rw [e]; exact hblk
        have HNN : Hid ((A ++ L1).length = i ∧ ((A ++ L1) ++ L2 ++ R1 ++ (R2 ++ Z)).length = n ∧ (A ++ L1 ++ R1).length = mid) := by
          have e1 := HA.out
          have e2 := HN.out
          rw [← HT.out.1.1, ← HT.out.1.2] at e2
          obtain ⟨f1, f2, f3, f4⟩ := HT.out.2.1
          refine ⟨by rw [List.length_append]; omega, by rw [← e2]; simp, by rw [List.length_append, List.length_append]; omega⟩
        have him : i ≤ m := by omega
        have himid : i ≤ mid := by omega
        have hia : a ≤ i := by omega
        have hmen : m ≤ en := by omega
        have henb : en ≤ b := by omega
        have hmidb : mid < b := by omega
        have hamid : a < mid := by omega
        clear hspl hblk hgr hlo hhi HDl HDr HR HC HDD hlR hlL
        go_upto_region 39 with fail
        go_cut [185] from 178 to 185 (fun cv wx => cv = .bool (decide (i < m ∧ m < en)) ∧ wx = wr)
        case first =>
          by_cases c1 : i < m
          · have c1I : (i : Int) < (m : Int) := by omega
            by_cases c2 : m < en
            · have c2I : (m : Int) < (en : Int) := by omega
              go_wp2
              go_meet
              case rel => exact ⟨by simp [c1, c2], rfl⟩
            · have c2I : ¬ ((m : Int) < (en : Int)) := by omega
              go_wp2
              go_meet
              case rel => exact ⟨by simp [c1, c2], rfl⟩
          · have c1I : ¬ ((i : Int) < (m : Int)) := by omega
            go_wp2
            go_meet
            case rel => exact ⟨by simp [c1], rfl⟩
        case rest =>
        obtain ⟨rfl, hwc⟩ := hcut
        obtain rfl : wr = wc := hwc.symm
        go_upto_if 185 with fail
        go_cut [] from 185 to 191 (fun wx => BlkT wx g cap ((A ++ L1) ++ R1 ++ L2 ++ (R2 ++ Z)) ∧ w.grownBy wx (some g))
        case first =>
          by_cases hrot : i < m ∧ m < en
          · have hrb : decide (i < m ∧ m < en) = true := by simpa using hrot
            obtain ⟨f1, f2, f3, f4⟩ := HT.out.2.1
            have hro := rotate_any wr g cap n (.func (.func 92) #[] #[]) (A ++ L1) L2 R1 (R2 ++ Z) (i : Int) (m : Int) (en : Int) HBK.out.1 (by omega) (by omega) HNN.out.2.1 hmax (by rw [HNN.out.1]) (by rw [HNN.out.1]; omega) (by rw [HNN.out.1]; omega)
            clear f1 f2 f3 f4
            simp only [hrb]
            go_wp2_with fail
            refine hro.mono ?_
            rintro e' w1 ⟨rfl, hb1, hg1⟩
            have HB1 : Hid (BlkT w1 g cap ((A ++ L1) ++ R1 ++ L2 ++ (R2 ++ Z)) ∧ w.grownBy w1 (some g)) := ⟨hb1, gr_trans HBK.out.2 hg1⟩
            clear hro hb1 hg1
            go_wp2
            go_meet
            case rel => first | exact HB1.out | exact ⟨by have := HB1.out.1; simpa using this, HB1.out.2⟩
          · have hrb : decide (i < m ∧ m < en) = false := by simpa using hrot
            have HB1 : Hid (BlkT wr g cap ((A ++ L1) ++ R1 ++ L2 ++ (R2 ++ Z)) ∧ w.grownBy wr (some g)) := by
              refine ⟨?_, HBK.out.2⟩
              obtain ⟨f1, f2, f3, f4⟩ := HT.out.2.1
              have h0 := HBK.out.1
              by_cases c1 : i < m
              · have : R1 = [] := List.length_eq_zero_iff.1 (by omega)
                subst this; simpa using h0
              · have : L2 = [] := List.length_eq_zero_iff.1 (by omega)
                subst this; simpa using h0
            simp only [hrb]
            go_wp2
            go_meet
            case rel => first | exact HB1.out | exact ⟨by have := HB1.out.1; simpa using this, HB1.out.2⟩
        case rest =>
        rename World => w2
        clear HBK
        have HB1 : Hid (BlkT w2 g cap ((A ++ L1) ++ R1 ++ L2 ++ (R2 ++ Z)) ∧ w.grownBy w2 (some g)) := hcut
        clear hcut
        go_upto_region 41 with fail
        go_cut [199] from 192 to 199 (fun cv wx => cv = .bool (decide (a < i ∧ i < mid)) ∧ wx = w2)
        case first =>
          by_cases c1 : a < i
          · have c1I : (a : Int) < (i : Int) := by omega
            by_cases c2 : i < mid
            · have c2I : (i : Int) < (mid : Int) := by omega
              go_wp2
              go_meet
              case rel => exact ⟨by simp [c1, c2], rfl⟩
            · have c2I : ¬ ((i : Int) < (mid : Int)) := by omega
              go_wp2
              go_meet
              case rel => exact ⟨by simp [c1, c2], rfl⟩
          · have c1I : ¬ ((a : Int) < (i : Int)) := by omega
            go_wp2
            go_meet
            case rel => exact ⟨by simp [c1], rfl⟩
        case rest =>
        obtain ⟨rfl, hwc⟩ := hcut
        obtain rfl : w2 = wc := hwc.symm
        go_upto_if 199 with fail
        go_cut [] from 199 to 205 (fun wx => ∃ M1, M1.Perm (L1 ++ R1) ∧ Asc M1 ∧ BlkT wx g cap (A ++ M1 ++ L2 ++ R2 ++ Z) ∧ w.grownBy wx (some g))
        case first =>
          by_cases hfi : a < i ∧ i < mid
          · have hrb : decide (a < i ∧ i < mid) = true := by simpa using hfi
            obtain ⟨f1, f2, f3, f4⟩ := HT.out.2.1
            obtain ⟨s1, s2, s3, s4⟩ := HT.out.2.2.1
            have hal := HA.out
            have hro := HIH.out w2 A L1 R1 (L2 ++ (R2 ++ Z)) (a : Int) (i : Int) (mid : Int) (by omega) (by omega) (by omega) (by have := HB1.out.1; simpa using this) (by have := HNN.out.2.1; simp at this ⊢; omega) s1 s3 HTG.out.1 HTG.out.2.2.1 HTG.out.2.2.2.2.1 (by omega) (by omega) (by omega)
            clear f1 f2 f3 f4 s1 s2 s3 s4
            simp only [hrb]
            go_wp2_with fail
            refine hro.mono ?_
            rintro e' w3 ⟨rfl, M1, hp1, ha1, hb1, hg1⟩
            have HB3 : Hid (M1.Perm (L1 ++ R1) ∧ Asc M1 ∧ BlkT w3 g cap (A ++ M1 ++ L2 ++ R2 ++ Z) ∧ w.grownBy w3 (some g)) := ⟨hp1, ha1, by simpa using hb1, gr_trans HB1.out.2 hg1⟩
            clear hro hb1 hg1 hp1 ha1
            go_wp2
            go_meet
            case rel => exact ⟨M1, HB3.out.1, HB3.out.2.1, (by first | exact HB3.out.2.2.1 | (have := HB3.out.2.2.1; simpa using this)), HB3.out.2.2.2⟩
          · have hrb : decide (a < i ∧ i < mid) = false := by simpa using hfi
            have HB3 : Hid ((L1 ++ R1).Perm (L1 ++ R1) ∧ Asc (L1 ++ R1) ∧ BlkT w2 g cap (A ++ (L1 ++ R1) ++ L2 ++ R2 ++ Z) ∧ w.grownBy w2 (some g)) := by
              refine ⟨List.Perm.refl _, ?_, by have := HB1.out.1; simpa using this, HB1.out.2⟩
              obtain ⟨f1, f2, f3, f4⟩ := HT.out.2.1
              obtain ⟨s1, s2, s3, s4⟩ := HT.out.2.2.1
              by_cases c1 : a < i
              · have : R1 = [] := List.length_eq_zero_iff.1 (by omega)
                subst this; simpa using s1
              · have : L1 = [] := List.length_eq_zero_iff.1 (by omega)
                subst this; simpa using s3
            simp only [hrb]
            go_wp2
            go_meet
            case rel => exact ⟨L1 ++ R1, HB3.out.1, HB3.out.2.1, (by first | exact HB3.out.2.2.1 | (have := HB3.out.2.2.1; simpa using this)), HB3.out.2.2.2⟩
        case rest =>
        rename World => w3
        clear HB1
        obtain ⟨M1, hp1, ha1, hb1, hg1⟩ := hcut
        have hM1 : (A ++ M1).length = mid := by have := HNN.out.2.2; rw [← this, List.length_append, hp1.length_eq]; simp [Nat.add_assoc]
        have HB3 : Hid (M1.Perm (L1 ++ R1) ∧ Asc M1 ∧ BlkT w3 g cap ((A ++ M1) ++ L2 ++ R2 ++ Z) ∧ w.grownBy w3 (some g) ∧ (A ++ M1).length = mid ∧ ((A ++ M1) ++ L2 ++ R2 ++ Z).length = n) := ⟨hp1, ha1, hb1, hg1, hM1, by have := HNN.out.2.1; have e := hp1.length_eq; simp at this e ⊢; omega⟩
        have HFIN : Hid (∀ M2 : List Tg, M2.Perm (L2 ++ R2) → Asc M2 → (M1 ++ M2).Perm (L ++ R) ∧ Asc (M1 ++ M2)) := fun M2 hp2 ha2 => by
          refine ⟨?_, asc_app ha1 ha2 (fun x hx y hy => HT.out.2.2.2 x (hp1.mem_iff.1 hx) y (hp2.mem_iff.1 hy))⟩
          rw [← HT.out.1.1, ← HT.out.1.2]
          refine (hp1.append hp2).trans ?_
          rw [List.append_assoc, List.append_assoc]
          refine List.Perm.append_left _ ?_
          rw [← List.append_assoc, ← List.append_assoc]
          exact List.Perm.append_right _ List.perm_append_comm
        clear hp1 ha1 hb1 hg1 hM1
        go_upto_region 43 with fail
        go_cut [213] from 206 to 213 (fun cv wx => cv = .bool (decide (mid < en ∧ en < b)) ∧ wx = w3)
        case first =>
          by_cases c1 : mid < en
          · have c1I : (mid : Int) < (en : Int) := by omega
            by_cases c2 : en < b
            · have c2I : (en : Int) < (b : Int) := by omega
              go_wp2
              go_meet
              case rel => exact ⟨by simp [c1, c2], rfl⟩
            · have c2I : ¬ ((en : Int) < (b : Int)) := by omega
              go_wp2
              go_meet
              case rel => exact ⟨by simp [c1, c2], rfl⟩
          · have c1I : ¬ ((mid : Int) < (en : Int)) := by omega
            go_wp2
            go_meet
            case rel => exact ⟨by simp [c1], rfl⟩
        case rest =>
        obtain ⟨rfl, hwc⟩ := hcut
        obtain rfl : w3 = wc := hwc.symm
        go_upto_if 213 with fail
        by_cases hse : mid < en ∧ en < b
        · have hrb : decide (mid < en ∧ en < b) = true := by simpa using hse
          obtain ⟨f1, f2, f3, f4⟩ := HT.out.2.1
          obtain ⟨s1, s2, s3, s4⟩ := HT.out.2.2.1
          have hal := HB3.out.2.2.2.2.1
          have hro := HIH.out w3 (A ++ M1) L2 R2 Z (mid : Int) (en : Int) (b : Int) (by omega) (by omega) (by omega) HB3.out.2.2.1 HB3.out.2.2.2.2.2 s2 s4 HTG.out.2.1 HTG.out.2.2.2.1 HTG.out.2.2.2.2.2 (by omega) (by omega) (by omega)
          clear f1 f2 f3 f4 s1 s2 s3 s4 hal
          simp only [hrb]
          go_wp2_with fail
          refine hro.mono ?_
          rintro e' w4 ⟨rfl, M2, hp2, ha2, hb2, hg2⟩
          have HB4 : Hid ((M1 ++ M2).Perm (L ++ R) ∧ Asc (M1 ++ M2) ∧ BlkT w4 g cap (A ++ (M1 ++ M2) ++ Z) ∧ w.grownBy w4 (some g)) := ⟨(HFIN.out M2 hp2 ha2).1, (HFIN.out M2 hp2 ha2).2, by simpa using hb2, gr_trans HB3.out.2.2.2.1 hg2⟩
          clear hro hb2 hg2 hp2 ha2
          go_wp2
          go_end0
          exact ⟨rfl, M1 ++ M2, HB4.out.1, HB4.out.2.1, (by first | exact HB4.out.2.2.1 | (have := HB4.out.2.2.1; simpa using this)), HB4.out.2.2.2⟩
        · have hrb : decide (mid < en ∧ en < b) = false := by simpa using hse
          have hasc : Asc (L2 ++ R2) := by
            obtain ⟨f1, f2, f3, f4⟩ := HT.out.2.1
            obtain ⟨s1, s2, s3, s4⟩ := HT.out.2.2.1
            by_cases c1 : mid < en
            · have : R2 = [] := List.length_eq_zero_iff.1 (by omega)
              subst this; simpa using s2
            · have : L2 = [] := List.length_eq_zero_iff.1 (by omega)
              subst this; simpa using s4
          have HB4 : Hid ((M1 ++ (L2 ++ R2)).Perm (L ++ R) ∧ Asc (M1 ++ (L2 ++ R2)) ∧ BlkT w3 g cap (A ++ (M1 ++ (L2 ++ R2)) ++ Z) ∧ w.grownBy w3 (some g)) := ⟨(HFIN.out _ (List.Perm.refl _) hasc).1, (HFIN.out _ (List.Perm.refl _) hasc).2, by have := HB3.out.2.2.1; simpa using this, HB3.out.2.2.2.1⟩
          clear hasc
          simp only [hrb]
          go_wp2
          go_end0
          exact ⟨rfl, M1 ++ (L2 ++ R2), HB4.out.1, HB4.out.2.1, (by first | exact HB4.out.2.2.1 | (have := HB4.out.2.2.1; simpa using this)), HB4.out.2.2.2⟩

theorem sm_any (g cap n : Nat) (hmax : n ≤ 1000000) : ∀ N, SmSaid g cap n N
  | 0 => fun w A L R Z ia im ib h hl hr => by omega
  | N + 1 => fun w A L R Z ia im ib h hl hr hb hn hL hR htag hokL hokR h1 h2 h3 => by
    by_cases c1 : L.length = 1
    · obtain ⟨x, rfl⟩ := List.length_eq_one_iff.1 c1
      exact sm_left w g cap n A R Z x ia im ib hb hn hmax hR (fun y hy => htag x (by simp) y hy) (hokL x (by simp)) hokR h1 (by simpa using h2) (by simpa using h3)
    · by_cases c2 : R.length = 1
      · obtain ⟨y, rfl⟩ := List.length_eq_one_iff.1 c2
        exact sm_right w g cap n A L Z y ia im ib hb hn hmax hL (by omega) (fun x hx => htag x hx y (by simp)) (hokR y (by simp)) hokL h1 h2 (by simpa using h3)
      · exact sm_step w g cap n N (sm_any g cap n hmax N) A L R Z ia im ib h (by omega) (by omega) hb hn hmax hL hR htag hokL hokR h1 h2 h3
end Go.Proofs.YtlonbbepoamnmaaDoor
namespace Go.Proofs.YtlonbbepoamnmaaDoor
open Go.RowKit Go.Sort
set_option linter.unusedVariables false
set_option linter.unusedSimpArgs false

theorem tags_app {A B : List Tg} (h : Tags (A ++ B)) : Tags A ∧ Tags B ∧ ∀ x ∈ A, ∀ y ∈ B, x.2 < y.2 := List.pairwise_append.1 h
theorem perm_lt {F F0 T : List Tg} (hp : F.Perm F0) (h : ∀ x ∈ F0, ∀ y ∈ T, x.2 < y.2) : ∀ x ∈ F, ∀ y ∈ T, x.2 < y.2 := fun x hx y hy => h x (hp.mem_iff.1 hx) y hy

set_option maxRecDepth 10000 in
set_option maxHeartbeats 2000000 in
theorem stable_any (w : World) (g cap n : Nat) (D : List Tg) (hb : BlkT w g cap D) (hn : D.length = n) (hmax : n ≤ 1000000) (htag : Tags D) (hok : OkT D) :
    Calls Tryd.prog 103 #[.slice (some ⟨g, 0, none⟩) n cap, .int .i64 (n : Nat), .func (.func 92) #[] #[]] w fun e w' => e = .returned (.tuple #[]) ∧ ∃ M, M.Perm D ∧ Asc M ∧ BlkT w' g cap M ∧ w.grownBy w' (some g) := by
  have HN : Hid (D.length = n) := hn
  have HD : Hid (Tags D ∧ OkT D) := ⟨htag, hok⟩
  have HB0 : Hid (BlkT w g cap ([] ++ D)) := hb
  clear hb hn htag hok
  go_enter Tryd.func103, Tryd.ntmps103
  go_wp2_with fail
  go_loopw [7, 8] (fun av bv wr => ∃ (f : Nat) (F F0 T : List Tg), av = .int .i64 (f : Nat) ∧ bv = .int .i64 ((f : Int) + 20) ∧ F.length = f ∧ D = F0 ++ T ∧ F.Perm F0 ∧ App 20 F ∧ BlkT wr g cap (F ++ T) ∧ w.grownBy wr (some g)) (fun av _ _ => n - (intOf av).toNat)
  case atStart => exact ⟨0, [], [], D, rfl, rfl, rfl, rfl, List.Perm.refl _, App.nil _, HB0.out, gr_refl _ _⟩
  case round =>
    clear HB0
    obtain ⟨f, F, F0, T, rfl, rfl, hf, hD, hp, happ, hblk, hgr⟩ := hrel
    have hlen : f + T.length = n := by have := HN.out; rw [hD, List.length_append, ← hp.length_eq] at this; omega
    by_cases hle : f + 20 ≤ n
    · have hleI : (f : Int) + 20 ≤ (n : Int) := by omega
      obtain ⟨C, T', rfl, hC⟩ : ∃ C T', T = C ++ T' ∧ C.length = 20 := ⟨T.take 20, T.drop 20, by simp, by rw [List.length_take]; omega⟩
      have ht := HD.out.1
      rw [hD] at ht
      obtain ⟨_, ht2, ht3⟩ := tags_app ht
      obtain ⟨ht4, _, ht5⟩ := tags_app ht2
      have hins := insertion_any wr g cap n F C T' (f : Int) ((f : Int) + 20) (by simpa using hblk) (by simp at hlen ⊢; omega) hmax ht4 (fun x hx => HD.out.2 x (by rw [hD]; simp [hx])) (by rw [hf]) (by rw [hf, hC]; push_cast; rfl)
      have HF : Hid (F.length = f ∧ D = F0 ++ (C ++ T') ∧ F.Perm F0 ∧ App 20 F ∧ w.grownBy wr (some g) ∧ C.length = 20 ∧ (∀ x ∈ F, ∀ y ∈ C, x.2 < y.2)) := ⟨hf, hD, hp, happ, hgr, hC, perm_lt hp (fun x hx y hy => ht3 x hx y (by simp [hy]))⟩
      clear ht ht2 ht3 ht4 ht5 hblk hf hD hp happ hgr hlen hC
      go_wp2_with fail
      refine hins.mono ?_
      rintro e w1 ⟨rfl, C', hpc, hac, hb1, hg1⟩
      have HK : Hid ((F ++ C').length = f + 20 ∧ D = (F0 ++ C) ++ T' ∧ (F ++ C').Perm (F0 ++ C) ∧ App 20 (F ++ C') ∧ BlkT w1 g cap ((F ++ C') ++ T') ∧ w.grownBy w1 (some g)) := by
        obtain ⟨a1, a2, a3, a4, a5, a6, a7⟩ := HF.out
        refine ⟨by rw [List.length_append, hpc.length_eq]; omega, by rw [a2]; simp, a3.append hpc, a4.snoc (fun x hx y hy => a7 x hx y (hpc.mem_iff.1 hy)) hac (by rw [hpc.length_eq]; exact a6), hb1, gr_trans a5 hg1⟩
      clear hins hpc hac hb1 hg1 HF
      go_wp2
      go_roundw
      case rel =>
        have key : ∃ (f' : Nat) (F F0 T : List Tg), (Value.int .i64 ((f : Int) + 20)) = .int .i64 (f' : Nat) ∧ (Value.int .i64 ((f : Int) + 20 + 20)) = .int .i64 ((f' : Int) + 20) ∧ F.length = f' ∧ D = F0 ++ T ∧ F.Perm F0 ∧ App 20 F ∧ BlkT w1 g cap (F ++ T) ∧ w.grownBy w1 (some g) :=
          ⟨f + 20, F ++ C', F0 ++ C, T', by push_cast; rfl, by push_cast; rfl, HK.out.1, HK.out.2.1, HK.out.2.2.1, HK.out.2.2.2.1, HK.out.2.2.2.2.1, HK.out.2.2.2.2.2⟩
        first | exact key | ((repeat apply Exists.intro); exact ⟨key, rfl⟩)
      case measure => simp [intOf]; omega
    · have hleI : ¬ ((f : Int) + 20 ≤ (n : Int)) := by omega
      have ht := HD.out.1
      rw [hD] at ht
      obtain ⟨_, ht2, ht3⟩ := tags_app ht
      have hins := insertion_any wr g cap n F T [] (f : Int) (n : Int) (by simpa using hblk) (by simp; omega) hmax ht2 (fun x hx => HD.out.2 x (by rw [hD]; simp [hx])) (by rw [hf]) (by rw [hf]; omega)
      have HF : Hid (D = F0 ++ T ∧ F.Perm F0 ∧ App 20 F ∧ w.grownBy wr (some g) ∧ T.length ≤ 20 ∧ (∀ x ∈ F, ∀ y ∈ T, x.2 < y.2)) := ⟨hD, hp, happ, hgr, by omega, perm_lt hp ht3⟩
      clear ht ht2 ht3 hblk hf hD hp happ hgr hlen
      go_wp2_with fail
      refine hins.mono ?_
      rintro e w1 ⟨rfl, T', hpc, hac, hb1, hg1⟩
      have HK : Hid ((F ++ T').Perm D ∧ Ch 20 (F ++ T') ∧ BlkT w1 g cap (F ++ T') ∧ w.grownBy w1 (some g)) := by
        obtain ⟨a2, a3, a4, a5, a6, a7⟩ := HF.out
        refine ⟨by rw [a2]; exact a3.append hpc, a4 _ (fun x hx y hy => a7 x hx y (hpc.mem_iff.1 hy)) (Ch.last _ hac (by rw [hpc.length_eq]; exact a6)), by simpa using hb1, gr_trans a5 hg1⟩
      clear hins hpc hac hb1 hg1 HF hle hleI
      obtain ⟨M0, hM0⟩ : ∃ M0, F ++ T' = M0 := ⟨_, rfl⟩
      rw [hM0] at HK
      clear hM0
      go_wp2_with fail
      go_loopw [6, 7, 8, 9] (fun kv _ _ _ wr => ∃ (k : Nat) (M : List Tg), kv = .int .i64 (k : Nat) ∧ 20 ≤ k ∧ M.Perm D ∧ Ch k M ∧ BlkT wr g cap M ∧ w.grownBy wr (some g)) (fun kv _ _ _ _ => n - (intOf kv).toNat)
      case atStart => exact ⟨20, M0, rfl, by omega, HK.out.1, HK.out.2.1, HK.out.2.2.1, HK.out.2.2.2⟩
      case round =>
        clear HK
        obtain ⟨k, M, rfl, hk20, hpM, hch, hblk, hgr⟩ := hrel
        by_cases hkn : k < n
        · have hknI : (k : Int) < (n : Int) := by omega
          obtain ⟨k2, hk2⟩ : ∃ k2 : Nat, 2 * k = k2 := ⟨_, rfl⟩
          have hk2I : (2 : Int) * (k : Int) = (k2 : Int) := by omega
          have hk2J : (k : Int) * 2 = (k2 : Int) := by omega
          have hk2a : 2 * k ≤ k2 := by omega
          have hk2b : k2 ≤ 2 * k := by omega
          clear hk2
          have HK2 : Hid (M.Perm D ∧ Ch k M ∧ BlkT wr g cap ([] ++ M) ∧ w.grownBy wr (some g)) := ⟨hpM, hch, hblk, hgr⟩
          clear hpM hch hblk hgr
          go_wp2_with fail
          go_loopw [7, 8] (fun av bv wr => ∃ (f : Nat) (F T : List Tg), av = .int .i64 (f : Nat) ∧ bv = .int .i64 ((f : Int) + (k2 : Int)) ∧ F.length = f ∧ (F ++ T).Perm D ∧ App k2 F ∧ Ch k T ∧ (∀ x ∈ F, ∀ y ∈ T, x.2 < y.2) ∧ BlkT wr g cap (F ++ T) ∧ w.grownBy wr (some g)) (fun av _ _ => n - (intOf av).toNat)
          case atStart => exact ⟨0, [], M, rfl, by simp, rfl, HK2.out.1, App.nil _, HK2.out.2.1, by simp, HK2.out.2.2.1, HK2.out.2.2.2⟩
          case round =>
            clear HK2
            obtain ⟨f, F, T, rfl, rfl, hf, hp, happ, hch, hFT, hblk, hgr⟩ := hrel
            have hlen : f + T.length = n := by have := HN.out; rw [← hp.length_eq, List.length_append] at this; omega
            by_cases hle : f + k2 ≤ n
            · have hleI : (f : Int) + (k2 : Int) ≤ (n : Int) := by omega
              obtain ⟨c, r, rfl, hac, hlc, hcr, hchr⟩ := hch.first (by omega)
              obtain ⟨d, r', rfl, had, hld, hdr, hchr'⟩ := hchr.first (by rw [List.length_append] at hlen; omega)
              have hsm := sm_any g cap n hmax (c.length + d.length) wr F c d r' (f : Int) ((f : Int) + (k : Int)) ((f : Int) + (k2 : Int)) (by omega) (by omega) (by omega) (by simpa using hblk) (by simp at hlen ⊢; omega) hac had (fun x hx y hy => hcr x hx y (by simp [hy])) (fun x hx => HD.out.2 x (hp.mem_iff.1 (by simp [hx]))) (fun x hx => HD.out.2 x (hp.mem_iff.1 (by simp [hx]))) (by rw [hf]) (by rw [hf, hlc]; push_cast; rfl) (by rw [hf, hlc, hld]; push_cast; omega)
              have HF : Hid (F.length = f ∧ (F ++ (c ++ (d ++ r'))).Perm D ∧ App k2 F ∧ Ch k r' ∧ (∀ x ∈ F, ∀ y ∈ c ++ (d ++ r'), x.2 < y.2) ∧ (∀ x ∈ c, ∀ y ∈ d ++ r', x.2 < y.2) ∧ (∀ x ∈ d, ∀ y ∈ r', x.2 < y.2) ∧ w.grownBy wr (some g) ∧ c.length = k ∧ d.length = k) := ⟨hf, hp, happ, hchr', hFT, hcr, hdr, hgr, hlc, hld⟩
              clear hf hp happ hch hFT hblk hgr hlen hac hlc hcr hchr had hld hdr hchr'
              go_wp2_with fail
              refine hsm.mono ?_
              rintro e w1 ⟨rfl, C', hpc, hac, hb1, hg1⟩
              have HK : Hid ((F ++ C').length = f + k2 ∧ ((F ++ C') ++ r').Perm D ∧ App k2 (F ++ C') ∧ Ch k r' ∧ (∀ x ∈ F ++ C', ∀ y ∈ r', x.2 < y.2) ∧ BlkT w1 g cap ((F ++ C') ++ r') ∧ w.grownBy w1 (some g)) := by
                obtain ⟨a1, a2, a3, a4, a5, a6, a7, a8, a9, a10⟩ := HF.out
                have hCl : C'.length = k2 := by rw [hpc.length_eq, List.length_append]; omega
                refine ⟨by rw [List.length_append]; omega, ?_, a3.snoc (fun x hx y hy => a5 x hx y ?_) hac hCl, a4, fun x hx y hy => ?_, hb1, gr_trans a8 hg1⟩
                · refine List.Perm.trans ?_ a2
                  rw [List.append_assoc]
                  refine List.Perm.append_left _ ?_
                  rw [← List.append_assoc c]
                  exact List.Perm.append_right _ hpc
                · have := hpc.mem_iff.1 hy
                  simp at this ⊢
                  rcases this with h | h
                  · exact .inl h
                  · exact .inr (.inl h)
                · rw [List.mem_append] at hx
                  rcases hx with hx | hx
                  · exact a5 x hx y (by simp [hy])
                  · have := hpc.mem_iff.1 hx
                    rw [List.mem_append] at this
                    rcases this with h | h
                    · exact a6 x h y (by simp [hy])
                    · exact a7 x h y hy
              clear hsm hpc hac hb1 hg1 HF
              go_wp2
              go_roundw
              case rel =>
                have key : ∃ (f' : Nat) (F T : List Tg), (Value.int .i64 ((f : Int) + (k2 : Int))) = .int .i64 (f' : Nat) ∧ (Value.int .i64 ((f : Int) + (k2 : Int) + (k2 : Int))) = .int .i64 ((f' : Int) + (k2 : Int)) ∧ F.length = f' ∧ (F ++ T).Perm D ∧ App k2 F ∧ Ch k T ∧ (∀ x ∈ F, ∀ y ∈ T, x.2 < y.2) ∧ BlkT w1 g cap (F ++ T) ∧ w.grownBy w1 (some g) :=
                  ⟨f + k2, F ++ C', r', by push_cast; rfl, by push_cast; rfl, HK.out⟩
                first | exact key | ((repeat apply Exists.intro); exact ⟨key, rfl⟩)
              case measure => simp [intOf]; omega
            · have hleI : ¬ ((f : Int) + (k2 : Int) ≤ (n : Int)) := by omega
              by_cases hm : f + k < n
              · have hmI : (f : Int) + (k : Int) < (n : Int) := by omega
                obtain ⟨c, r, rfl, hac, hlc, hcr, hchr⟩ := hch.two (by omega)
                have hrl : r.length ≤ k := by rw [List.length_append] at hlen; omega
                have hsm := sm_any g cap n hmax (c.length + r.length) wr F c r [] (f : Int) ((f : Int) + (k : Int)) (n : Int) (by omega) (by omega) (by rw [List.length_append] at hlen; omega) (by simpa using hblk) (by simp at hlen ⊢; omega) hac (hchr.one hrl) hcr (fun x hx => HD.out.2 x (hp.mem_iff.1 (by simp [hx]))) (fun x hx => HD.out.2 x (hp.mem_iff.1 (by simp [hx]))) (by rw [hf]) (by rw [hf, hlc]; push_cast; rfl) (by rw [hf, hlc]; rw [List.length_append] at hlen; omega)
                have HF : Hid ((F ++ (c ++ r)).Perm D ∧ App k2 F ∧ (∀ x ∈ F, ∀ y ∈ c ++ r, x.2 < y.2) ∧ w.grownBy wr (some g) ∧ (c ++ r).length ≤ k2) := ⟨hp, happ, hFT, hgr, by rw [List.length_append]; omega⟩
                clear hf hp happ hch hFT hblk hgr hlen hac hlc hcr hchr hrl
                go_wp2_with fail
                refine hsm.mono ?_
                rintro e w1 ⟨rfl, C', hpc, hac, hb1, hg1⟩
                have HK : Hid ((F ++ C').Perm D ∧ Ch k2 (F ++ C') ∧ BlkT w1 g cap (F ++ C') ∧ w.grownBy w1 (some g)) := by
                  obtain ⟨a2, a3, a5, a8, a9⟩ := HF.out
                  exact ⟨(List.Perm.append_left _ hpc).trans a2, a3 _ (fun x hx y hy => a5 x hx y (hpc.mem_iff.1 hy)) (Ch.last _ hac (by rw [hpc.length_eq]; exact a9)), by simpa using hb1, gr_trans a8 hg1⟩
                clear hsm hpc hac hb1 hg1 HF
                go_wp2
                go_roundw
                case rel =>
                  have key : ∃ (k' : Nat) (M : List Tg), (Value.int .i64 (k2 : Int)) = .int .i64 (k' : Nat) ∧ 20 ≤ k' ∧ M.Perm D ∧ Ch k' M ∧ BlkT w1 g cap M ∧ w.grownBy w1 (some g) := ⟨k2, F ++ C', rfl, by omega, HK.out⟩
                  first | exact key | ((repeat apply Exists.intro); exact ⟨key, rfl⟩)
                case measure => simp [intOf]; omega
              · have hmI : ¬ ((f : Int) + (k : Int) < (n : Int)) := by omega
                have HK : Hid ((F ++ T).Perm D ∧ Ch k2 (F ++ T) ∧ BlkT wr g cap (F ++ T) ∧ w.grownBy wr (some g)) := ⟨hp, happ _ hFT (Ch.last _ (hch.one (by omega)) (by omega)), hblk, hgr⟩
                clear hf hp happ hch hFT hblk hgr
                go_wp2
                go_roundw
                case rel =>
                  have key : ∃ (k' : Nat) (M : List Tg), (Value.int .i64 (k2 : Int)) = .int .i64 (k' : Nat) ∧ 20 ≤ k' ∧ M.Perm D ∧ Ch k' M ∧ BlkT wr g cap M ∧ w.grownBy wr (some g) := ⟨k2, F ++ T, rfl, by omega, HK.out⟩
                  first | exact key | ((repeat apply Exists.intro); exact ⟨key, rfl⟩)
                case measure => simp [intOf]; omega
        · have hknI : ¬ ((k : Int) < (n : Int)) := by omega
          have HE : Hid (M.Perm D ∧ Asc M ∧ BlkT wr g cap M ∧ w.grownBy wr (some g)) := ⟨hpM, hch.one (by rw [hpM.length_eq, HN.out]; omega), hblk, hgr⟩
          clear hpM hch hblk hgr
          go_wp2
          go_end0
          exact ⟨rfl, M, HE.out⟩

set_option maxRecDepth 10000 in
/-- What Join sorts: the first stay ahead of their like. -/
theorem sort_any (w : World) (g cap n : Nat) (D : List Tg) (hb : BlkT w g cap D) (hn : D.length = n) (hmax : n ≤ 1000000) (htag : Tags D) (hok : OkT D) :
    Calls Tryd.prog 91 #[.slice (some ⟨g, 0, none⟩) n cap, .func (.func 92) #[] #[]] w fun e w' => e = .returned (.tuple #[]) ∧ ∃ M, M.Perm D ∧ Asc M ∧ BlkT w' g cap M ∧ w.grownBy w' (some g) := by
  have hst := stable_any w g cap n D hb hn hmax htag hok
  clear hb hn htag hok
  go_enter Tryd.func91, Tryd.ntmps91
  go_wp2_with fail
  refine hst.mono ?_
  rintro e w1 ⟨rfl, M, h1, h2, h3, h4⟩
  clear hst
  go_wp2
  go_end0
  exact ⟨rfl, M, h1, h2, h3, h4⟩
end Go.Proofs.YtlonbbepoamnmaaDoor
namespace Go.Proofs.YtlonbbepoamnmaaDoor
open Go.RowKit Go.Sort
set_option linter.unusedVariables false

/-- Those of a view. -/
def out (ls : List Sx) : List Sx := ls.filter (fun x => !decide (x.1 = 0))
theorem out_none {ls : List Sx} (h : ∀ x ∈ ls, ¬ x.1 = 0) : out ls = ls := by
  unfold out
  rw [List.filter_eq_self]
  intro x hx
  simpa using h x hx
theorem out_step {ls : List Sx} {j : Nat} {x : Sx} (h : ls[j]? = some x) : out (ls.take (j + 1)) = out (ls.take j) ++ (if decide (x.1 = 0) then [] else [x]) := by
  unfold out
  rw [List.take_add_one, h, List.filter_append]
  by_cases hx : x.1 = 0 <;> simp [hx]

set_option maxRecDepth 10000 in
set_option maxHeartbeats 1000000 in
theorem clone_any (w : World) (ao : Option Addr) (n cap : Nat) (p : Nat → Prop) (ls : List Sx) (h : SR p w ao n ls) (hn : n ≤ 1000) :
    Calls Tryd.prog 85 #[.slice ao n cap] w fun e w' => ∃ v, e = .returned v ∧ w'.ownsRow w.heap.size 45 4 v n (flat ls) ∧ Below w.heap.size w w' := by
  obtain ⟨i0, hi0, hz0, hz1, hz2⟩ := info_parts infoS
  have q22 := fun (w : World) (a : Option Addr) (n c n' c' : Nat) => Lib.run_eql_slice_nil (P := Tryd.prog) w 36 45 a n c n' c' und22
  have hl := h.1
  cases ao with
  | none =>
    obtain rfl := h.2.2.1 rfl
    obtain rfl : ls = [] := List.length_eq_zero_iff.1 hl
    go_enter Tryd.func85, Tryd.ntmps85
    go_wp2
    go_ret
    exact ⟨_, rfl, ⟨rfl, .inl ⟨rfl, rfl⟩⟩, Below.refl _ _⟩
  | some ad =>
    have hA : Hid (∀ j u, (flat ls)[j]? = some u → w.cell? (ad.add j) = some u) := h.cells
    have HF : Hid ((flat ls).length = n * 4) := by show _ = _; rw [flat_len, hl]
    clear h
    go_enter Tryd.func85, Tryd.ntmps85
    go_wp2_with (at_builtin; refine wpList_append_own_at _ rfl _ _ 36 rfl w.heap.size 45 i0 (.agg #[.int .u64 0, .int .i64 0, .int .i64 0, .slice none 0 0]) 4 48 und22 hi0 hz0 hz1 hz2 rfl (by decide) _ 0 [] rfl ?d1 ad n cap (flat ls) rfl ?d2 ?d3 ?d4 ?d6 ?d7 ?d8 ?_)
    case d1 => exact World.ownsRow_made w #[] 0 (Nat.le_refl _) (Nat.zero_le _) (by simp)
    case d2 => exact HF.out
    case d3 => exact fun j u hj => ((bl1 w _).cell (World.block_lt_of_cell? w _ (hA.out j u hj))).trans (hA.out j u hj)
    case d4 => exact fun u hu => flat_one hu
    case d6 => unfold maxLen; omega
    case d7 => omega
    case d8 => simp
    intro v' w1 hown hgrow hnil hat
    have HE : Hid (w1.ownsRow w.heap.size 45 4 v' n (flat ls) ∧ Below w.heap.size w w1) := ⟨by simpa using hown, bl_grown (bl1 w _) (by simp) hgrow (by intro k hk; simp [Value.ownBlock] at hk; omega)⟩
    clear hown hgrow hnil hat
    go_wp2
    go_ret
    exact ⟨v', rfl, HE.out⟩

set_option maxRecDepth 10000 in
set_option maxHeartbeats 2000000 in
theorem deleteFunc_some (w : World) (g n cap base : Nat) (ls : List Sx) (hown : w.ownsRow base 45 4 (.slice (some ⟨g, 0, none⟩) n cap) n (flat ls)) :
    Calls Tryd.prog 88 #[.slice (some ⟨g, 0, none⟩) n cap, .func (.func 89) #[] #[]] w fun e w' => ∃ v', e = .returned v' ∧ w'.ownsRow base 45 4 v' (out ls).length (flat (out ls)) ∧ w.grownBy w' (some g) := by
  obtain ⟨ao, cap', hv, hLR, _⟩ := SR.own hown
  simp only [Value.slice.injEq] at hv
  obtain ⟨rfl, _, rfl⟩ := hv
  have hl := hLR.1
  have hmax := hLR.2.1
  obtain ⟨hblk, hbg, hnc, hcm⟩ := Blk.ofOwn hown
  have hix := index_none _ w (some ⟨g, 0, none⟩) n cap ls hLR
  have HOWN : Hid (w.ownsRow base 45 4 (.slice (some ⟨g, 0, none⟩) n cap) n (flat ls)) := hown
  have HBLK : Hid (Blk w g cap ls) := hblk
  clear hown hblk hLR
  have hwide : cap ≤ 9223372036854775807 := by unfold maxLen at hcm; omega
  go_enter Tryd.func88, Tryd.ntmps88
  go_wp2_with fail
  refine hix.mono ?_
  rintro e w1 ⟨⟨rfl, hno⟩ | ⟨i0, y0, hi0, rfl, hno, hy0, hin0⟩, hu1⟩
  · have HE : Hid (w1.ownsRow base 45 4 (.slice (some ⟨g, 0, none⟩) n cap) (out ls).length (flat (out ls)) ∧ w.grownBy w1 (some g)) := by
      refine ⟨?_, gr_below hu1.bl _⟩
      rw [out_none hno, hl]
      exact (HBLK.out.up hu1.bl).own hbg hcm n (by omega) |> fun h => by rwa [List.take_of_length_le (by omega)] at h
    clear hix hno
    go_wp2
    go_ret
    exact ⟨_, rfl, HE.out⟩
  · have H0 : Hid (ls.take i0 = out (ls.take (i0 + 1))) := by
      show _ = _
      rw [out_step hy0, out_none hno]
      simp [hin0]
    have hnm1 : ((i0 : Int) == -1) = false := by simp
    clear hno hix hin0 hy0
    have hb1 := HBLK.out.up hu1.bl
    go_wp2_with fail
    go_loopw [5, 6, 7] (fun iv jv _ wr => ∃ (i j : Nat) (cur : List Sx), iv = .int .i64 i ∧ jv = .int .i64 j ∧ i < j ∧ j ≤ n ∧ Blk wr g cap cur ∧ cur.length = n ∧ cur.take i = out (ls.take j) ∧ cur.drop j = ls.drop j ∧ w.grownBy wr (some g)) (fun _ jv _ _ => n - (intOf jv).toNat)
    case atStart => exact ⟨i0, i0 + 1, ls, rfl, by go_num, by omega, by omega, hb1, hl, H0.out, rfl, gr_below hu1.bl _⟩
    case round =>
      obtain ⟨i, j, cur, rfl, rfl, hij, hj, hblk, hcl, htk, hdr, hgr⟩ := hrel
      have HTK : Hid (cur.take i = out (ls.take j)) := htk
      have HDR : Hid (cur.drop j = ls.drop j) := hdr
      clear htk hdr
      by_cases hlt : j < n
      · have hltI : (j : Int) < (n : Int) := by omega
        obtain ⟨x, hx⟩ : ∃ y, ls[j]? = some y := ⟨ls[j]'(by omega), List.getElem?_eq_getElem (by omega)⟩
        have hx' : cur[j]? = some x := by
          have h1 : (cur.drop j)[0]? = (ls.drop j)[0]? := by rw [HDR.out]
          simpa [hx] using h1
        obtain ⟨c0, c1, c2, c3⟩ := hblk.cell hx'
        have HX : Hid (ls[j]? = some x) := hx
        have ua : Up wr (wr.alloc (.cells #[.int .u64 (x.1 : Nat), .int .i64 x.2.1, .int .i64 x.2.2.1, .slice x.2.2.2.1 x.2.2.2.2.1 x.2.2.2.2.2] 45)) := (Up.refl _).alloc _
        have hclo := none1_any (wr.alloc (.cells #[.int .u64 (x.1 : Nat), .int .i64 x.2.1, .int .i64 x.2.2.1, .slice x.2.2.2.1 x.2.2.2.2.1 x.2.2.2.2.2] 45)) x
        unfold sta at hclo
        have HDR' : Hid (cur.drop (j + 1) = ls.drop (j + 1)) := by
          show _ = _
          rw [← List.drop_drop, ← List.drop_drop, HDR.out]
        have HST : Hid (out (ls.take (j + 1)) = out (ls.take j) ++ (if decide (x.1 = 0) then [] else [x])) := out_step hx
        clear hx hx'
        have hj0 : ¬ ((j : Int) < 0) := by omega
        have hi0' : ¬ ((i : Int) < 0) := by omega
        have hin' : (i : Int) < (n : Int) := by omega
        cases hd : decide (x.1 = 0) with
        | true =>
          rw [hd] at hclo HST
          clear hd
          go_wp2_with fail
          refine hclo.mono ?_
          rintro e w2 ⟨rfl, hu2⟩
          have hu3 := ua.trans hu2
          have hb3 := hblk.up hu3.bl
          have hg3 := gr_trans hgr (gr_below hu3.bl _)
          have HT : Hid (cur.take i = out (ls.take (j + 1))) := by
            show _ = _
            rw [HST.out, HTK.out]; simp
          clear hclo ua c0 c1 c2 c3 hu2 hu3 hblk hgr HST HTK
          go_wp2
          go_roundw
          case rel => first | exact ⟨i, j + 1, cur, rfl, by go_num, by omega, by omega, hb3, hcl, HT.out, HDR'.out, hg3⟩ | ((repeat apply Exists.intro); exact ⟨⟨i, j + 1, cur, rfl, by go_num, by omega, by omega, hb3, hcl, HT.out, HDR'.out, hg3⟩, rfl⟩)
          case measure => simp [intOf]; omega
        | false =>
          rw [hd] at hclo HST
          clear hd
          go_wp2_with fail
          refine hclo.mono ?_
          rintro e w2 ⟨rfl, hu2⟩
          have hu3 := ua.trans hu2
          have hb3 := hblk.up hu3.bl
          have hg3 := gr_trans hgr (gr_below hu3.bl _)
          obtain ⟨w4, hst, hb4, hg4⟩ := hb3.set (i := i) (by omega) x
          have hg5 := gr_trans hg3 hg4
          have hbx := (bs_new wr x 45).up hu2
          obtain ⟨d0, d1, d2, d3⟩ := hbx
          have HT : Hid ((cur.set i x).take (i + 1) = out (ls.take (j + 1))) := by
            show _ = _
            rw [HST.out, ← HTK.out, List.take_add_one]
            have : (cur.set i x)[i]? = some x := by rw [List.getElem?_set_self (by omega)]
            rw [this, List.take_set_of_le (Nat.le_refl _)]
            simp
          have HD2 : Hid ((cur.set i x).drop (j + 1) = ls.drop (j + 1)) := by
            show _ = _
            rw [List.drop_set_of_lt (by omega)]
            exact HDR'.out
          have hcl2 : (cur.set i x).length = n := by simpa using hcl
          clear hclo ua c0 c1 c2 c3 hu2 hu3 hblk hgr HST HTK hb3 hg3 hg4 HDR'
          go_wp2_with (first | (refine wpList_store_cells rfl 45 (.tmp 33) (.tmp 32) rfl ⟨g, i * 4, none⟩ #[.int .u64 (x.1 : Nat), .int .i64 x.2.1, .int .i64 x.2.2.1, .slice x.2.2.2.1 x.2.2.2.2.1 x.2.2.2.2.2] rfl rfl infoS31 w4 hst ?_))
          go_roundw
          case rel => first | exact ⟨i + 1, j + 1, cur.set i x, by go_num, by go_num, by omega, by omega, hb4, hcl2, HT.out, HD2.out, hg5⟩ | ((repeat apply Exists.intro); exact ⟨⟨i + 1, j + 1, cur.set i x, by go_num, by go_num, by omega, by omega, hb4, hcl2, HT.out, HD2.out, hg5⟩, rfl⟩)
          case measure => simp [intOf]; omega
      · obtain rfl : j = n := by omega
        have e : cur.take i = out ls := by have := HTK.out; rwa [List.take_of_length_le (l := ls) (by omega)] at this
        obtain ⟨w4, hst, hb4, hg4⟩ := hblk.clear (i := i) (n := j - i) (by omega) (by omega) (cap - i) 0
        have hi0' : ¬ ((i : Int) < 0) := by omega
        have hlen : (out ls).length = i := by rw [← e, List.length_take]; omega
        have HE : Hid (w4.ownsRow base 45 4 (.slice (some ⟨g, 0, none⟩) i cap) (out ls).length (flat (out ls)) ∧ w.grownBy w4 (some g)) := by
          refine ⟨?_, gr_trans hgr hg4⟩
          have := hb4.own hbg hcm i (by rw [List.length_take]; omega)
          rw [e, List.take_of_length_le (by omega)] at this
          rw [hlen]; exact this
        clear hblk hgr hg4 hb4 HTK HDR hlen
        go_wp2
        go_ret
        exact ⟨_, rfl, HE.out⟩

theorem deleteFunc_none (w : World) : Calls Tryd.prog 88 #[.slice none 0 0, .func (.func 89) #[] #[]] w fun e w' => e = .returned (.slice none 0 0) ∧ Up w w' := by
  have hix := index_none (fun _ => True) w none 0 0 [] ⟨rfl, by omega, fun _ => rfl, fun h => by omega⟩
  go_enter Tryd.func88, Tryd.ntmps88
  go_wp2_with fail
  refine hix.mono ?_
  rintro e w1 ⟨⟨rfl, _⟩ | ⟨i0, y0, hi0, _⟩, hu1⟩
  · clear hix
    go_wp2
    go_ret
    exact ⟨rfl, hu1⟩
  · omega
theorem insertion_none (w : World) (v fv : Value) : Calls Tryd.prog 107 #[v, .int .i64 0, .int .i64 0, fv] w fun e w' => e = .returned (.tuple #[]) ∧ w = w' := by
  go_enter Tryd.func107, Tryd.ntmps107
  go_wp2
  refine wp_loop_rounds 1 ?_
  rw [rounds_succ]
  go_wp2
  go_end0
  exact ⟨rfl, rfl⟩
theorem sort_none (w : World) : Calls Tryd.prog 91 #[.slice none 0 0, .func (.func 92) #[] #[]] w fun e w' => e = .returned (.tuple #[]) ∧ w = w' := by
  have hst : Calls Tryd.prog 103 #[.slice none 0 0, .int .i64 0, .func (.func 92) #[] #[]] w fun e w' => e = .returned (.tuple #[]) ∧ w = w' := by
    go_enter Tryd.func103, Tryd.ntmps103
    go_wp2
    refine wp_loop_rounds 1 ?_
    rw [rounds_succ]
    go_wp2_with fail
    refine (insertion_none _ _ _).mono ?_
    rintro e w1 ⟨rfl, rfl⟩
    go_wp2
    refine wp_loop_rounds 1 ?_
    rw [rounds_succ]
    go_wp2
    go_end0
    exact ⟨rfl, rfl⟩
  go_enter Tryd.func91, Tryd.ntmps91
  go_wp2_with fail
  refine hst.mono ?_
  rintro e w1 ⟨rfl, rfl⟩
  go_wp2
  go_end0
  exact ⟨rfl, rfl⟩
theorem compact_none (w : World) : Calls Tryd.prog 96 #[.slice none 0 0, .func (.func 97) #[] #[]] w fun e w' => e = .returned (.slice none 0 0) ∧ w = w' := by
  go_enter Tryd.func96, Tryd.ntmps96
  go_wp2
  go_ret
  exact ⟨rfl, rfl⟩
end Go.Proofs.YtlonbbepoamnmaaDoor
namespace Go.Proofs.YtlonbbepoamnmaaDoor
open Go.RowKit Go.Sort
set_option linter.unusedVariables false
set_option linter.unusedSimpArgs false

/-- Is what stands ahead of the same view? -/
def prevSame (M : List Tg) (k : Nat) (x : Tg) : Bool := decide (0 < k) && (match M[k - 1]? with | some y => decide (x.1.1 = y.1.1 ∧ x.1.2.1 = y.1.2.1) | none => false)
/-- Of the first k those that are not of the view of what stands ahead of them. -/
def keepT (M : List Tg) : Nat → List Tg
  | 0 => []
  | k + 1 => keepT M k ++ (match M[k]? with | some x => if prevSame M k x = true then [] else [x] | none => [])
theorem keepT_next {M : List Tg} {m : Nat} {x y : Tg} (hx : M[m + 1]? = some x) (hy : M[m]? = some y) (h : ¬ (x.1.1 = y.1.1 ∧ x.1.2.1 = y.1.2.1)) : keepT M (m + 2) = keepT M (m + 1) ++ [x] := by
  rw [keepT, hx]
  have : prevSame M (m + 1) x = false := by unfold prevSame; rw [Nat.add_sub_cancel, hy]; simp only; rw [decide_eq_false h]; simp
  simp only [this]
  rfl
theorem keepT_same {M : List Tg} {m : Nat} {x y : Tg} (hx : M[m + 1]? = some x) (hy : M[m]? = some y) (h : x.1.1 = y.1.1 ∧ x.1.2.1 = y.1.2.1) : keepT M (m + 2) = keepT M (m + 1) := by
  rw [keepT, hx]
  have : prevSame M (m + 1) x = true := by unfold prevSame; rw [Nat.add_sub_cancel, hy]; simp only; rw [decide_eq_true h]; simp
  simp only [this]
  simp
theorem keepT_one {M : List Tg} {x : Tg} (hx : M[0]? = some x) : keepT M 1 = [x] := by
  rw [keepT, hx, keepT]
  simp [prevSame]
theorem BlkT.own {w : World} {B g cap : Nat} {cur : List Tg} (h : BlkT w g cap cur) (hB : B ≤ g) (hc : cap ≤ maxLen) (i : Nat) (hi : i ≤ cur.length) : w.ownsRow B 45 4 (.slice (some ⟨g, 0, none⟩) i cap) i (fl (cur.take i)) := by
  have := Blk.own h hB hc i (by simpa using hi)
  rw [← List.map_take] at this
  exact this
theorem BlkT.setT {w : World} {g cap : Nat} {cur : List Tg} (h : BlkT w g cap cur) {i : Nat} (hi : i < cur.length) (x : Tg) :
    ∃ w', Sem.run Tryd.prog (storeCells ⟨g, i * 4, none⟩ [.int .u64 (x.1.1 : Nat), .int .i64 x.1.2.1, .int .i64 x.1.2.2.1, .slice x.1.2.2.2.1 x.1.2.2.2.2.1 x.1.2.2.2.2.2] 0) w = .ok () w' ∧ BlkT w' g cap (cur.set i x) ∧ w.grownBy w' (some g) := by
  obtain ⟨w', h1, h2, h3⟩ := Blk.set h (i := i) (by simpa using hi) x.1
  rw [← List.map_set] at h2
  exact ⟨w', h1, h2, h3⟩
theorem BlkT.clearT {w : World} {g cap : Nat} {cur : List Tg} (h : BlkT w g cap cur) {i n : Nat} (hi : i ≤ cur.length) (hn : n = cur.length - i) (c : Nat) (ty : TypeId) :
    ∃ w', Sem.run Tryd.prog (Builtin.clear_ #[36] ty #[.slice (some ⟨g, i * 4, none⟩) n c]) w = .ok (.tuple #[]) w' ∧ BlkT w' g cap (cur.take i) ∧ w.grownBy w' (some g) := by
  obtain ⟨w', h1, h2, h3⟩ := Blk.clear h (i := i) (n := n) (by simpa using hi) (by simpa using hn) c ty
  rw [← List.map_take] at h2
  exact ⟨w', h1, h2, h3⟩
theorem BlkT.c4 {w : World} {g cap j : Nat} {cur : List Tg} {x : Tg} (h : BlkT w g cap cur) (hj : cur[j]? = some x) : C4 g (j * 4) x.1 w := h.at hj

set_option maxRecDepth 10000 in
set_option maxHeartbeats 4000000 in
theorem compact_some (w : World) (g n cap base : Nat) (ls : List Tg) (hblk : BlkT w g cap ls) (hl : ls.length = n) (hbg : base ≤ g) (hcm : cap ≤ maxLen) :
    Calls Tryd.prog 96 #[.slice (some ⟨g, 0, none⟩) n cap, .func (.func 97) #[] #[]] w fun e w' => ∃ v', e = .returned v' ∧ w'.ownsRow base 45 4 v' (keepT ls n).length (fl (keepT ls n)) ∧ w.grownBy w' (some g) := by
  have hnc : n ≤ cap := by have := Blk.len hblk; simp at this; omega
  have hwide : cap ≤ 9223372036854775807 := by unfold maxLen at hcm; omega
  have HOWN : Hid (∀ w', BlkT w' g cap ls → w'.ownsRow base 45 4 (.slice (some ⟨g, 0, none⟩) n cap) n (fl ls)) := fun w' hb => by
    have := BlkT.own hb hbg hcm n (by omega)
    rwa [List.take_of_length_le (by omega)] at this
  by_cases h2 : n < 2
  · have HE : Hid (w.ownsRow base 45 4 (.slice (some ⟨g, 0, none⟩) n cap) (keepT ls n).length (fl (keepT ls n)) ∧ w.grownBy w (some g)) := by
      have e : keepT ls n = ls := by
        match n, ls, hl, h2 with
        | 0, [], _, _ => rfl
        | 1, [x], _, _ => exact keepT_one rfl
      rw [e, hl]
      exact ⟨HOWN.out w hblk, gr_refl _ _⟩
    have h2I : (n : Int) < 2 := by omega
    clear hblk HOWN
    go_enter Tryd.func96, Tryd.ntmps96
    go_wp2
    go_ret
    exact ⟨_, rfl, HE.out⟩
  · have h2I : ¬ ((n : Int) < 2) := by omega
    have H1 : Hid (keepT ls 1 = ls.take 1) := by
      have hx : ls[0]? = some (ls[0]'(by omega)) := List.getElem?_eq_getElem (by omega)
      show _ = _
      rw [keepT_one hx, List.take_add_one, hx]; simp
    go_enter Tryd.func96, Tryd.ntmps96
    go_wp2_with fail
    go_loopw [5] (fun iv wr => ∃ m : Nat, m + 1 ≤ n ∧ iv = .int .i64 ((m : Int) + 1) ∧ keepT ls (m + 1) = ls.take (m + 1) ∧ Up w wr) (fun iv _ => n - (intOf iv).toNat)
    case atStart => exact ⟨0, by omega, rfl, H1.out, Up.refl _⟩
    case round =>
      obtain ⟨m, hm, rfl, hkp, hu⟩ := hrel
      have HK : Hid (keepT ls (m + 1) = ls.take (m + 1)) := hkp
      clear hkp
      have hb := hblk.up hu
      by_cases hlt : m + 1 < n
      · have hltI : (m : Int) + 1 < (n : Int) := by omega
        obtain ⟨x, hx⟩ : ∃ y, ls[m + 1]? = some y := ⟨ls[m + 1]'(by omega), List.getElem?_eq_getElem (by omega)⟩
        obtain ⟨y, hy⟩ : ∃ y, ls[m]? = some y := ⟨ls[m]'(by omega), List.getElem?_eq_getElem (by omega)⟩
        have two : C4 g ((m + 1) * 4) x.1 wr.drew ∧ C4 g (m * 4) y.1 wr.drew := ⟨hb.drew.c4 hx, hb.drew.c4 hy⟩
        have heq := fun W => same3_any W x.1 y.1
        unfold sta at heq
        have HX : Hid (ls[m + 1]? = some x) := hx
        have HY : Hid (ls[m]? = some y) := hy
        clear hx hy
        have hm0 : ¬ ((m : Int) + 1 < 0) := by omega
        have hm1 : ¬ ((m : Int) < 0) := by omega
        have hm2 : (m : Int) < (n : Int) := by omega
        have hwm : IntKind.i64.wrap (m : Int) = (m : Int) := by rw [IntWalk.i64_left, IntWalk.wrap64_in _ (by omega)]
        have hud := hu.drew
        cases he : decide (x.1.1 = y.1.1 ∧ x.1.2.1 = y.1.2.1) with
        | false =>
          rw [he] at heq
          have HK' : Hid (keepT ls (m + 1 + 1) = ls.take (m + 1 + 1)) := by
            show _ = _
            rw [keepT_next HX.out HY.out (by simpa using he), HK.out, show ls.take (m + 1 + 1) = ls.take (m + 1) ++ ls[m + 1]?.toList from List.take_add_one, HX.out]; rfl
          clear he HK
          go_wp2_with fail
          refine wp_region_noPanic ?_
          refine wp_region_held_drew (S := fun wx => C4 g ((m + 1) * 4) x.1 wx ∧ C4 g (m * 4) y.1 wx) (by kernel_rfl) two (fun hHeld => ?_)
          refine take_first 0 (v := ?_) rfl (by kernel_rfl) (by kernel_rfl) (by kernel_rfl) (fun _ _ _ h => h) (Or.inl ⟨by rfl, by intro wx hSw; obtain ⟨⟨hSw1, hSw2, hSw3, hSw4⟩, hSw5, hSw6, hSw7, hSw8⟩ := hSw; go_simp; try with_reducible rfl⟩) (by assumption) ?_
          (try simp only [Act.put, List.setIfInBounds_toArray, List.set_cons_zero, List.set_cons_succ])
          refine take_first 1 (v := ?_) rfl (by kernel_rfl) (by kernel_rfl) (by kernel_rfl) (fun _ _ _ h => h) (Or.inl ⟨by rfl, by intro wx hSw; obtain ⟨⟨hSw1, hSw2, hSw3, hSw4⟩, hSw5, hSw6, hSw7, hSw8⟩ := hSw; go_simp; try with_reducible rfl⟩) (by assumption) ?_
          (try simp only [Act.put, List.setIfInBounds_toArray, List.set_cons_zero, List.set_cons_succ])
          refine take_first 2 (v := ?_) rfl (by kernel_rfl) (by kernel_rfl) (by kernel_rfl) (fun _ _ _ h => h) (Or.inl ⟨by rfl, by intro wx hSw; obtain ⟨⟨hSw1, hSw2, hSw3, hSw4⟩, hSw5, hSw6, hSw7, hSw8⟩ := hSw; go_simp; try with_reducible rfl⟩) (by assumption) ?_
          (try simp only [Act.put, List.setIfInBounds_toArray, List.set_cons_zero, List.set_cons_succ])
          refine take_first 3 (v := ?_) rfl (by kernel_rfl) (by kernel_rfl) (by kernel_rfl) (fun _ _ _ h => h) (Or.inl ⟨by rfl, by intro wx hSw; obtain ⟨⟨hSw1, hSw2, hSw3, hSw4⟩, hSw5, hSw6, hSw7, hSw8⟩ := hSw; go_simp; try with_reducible rfl⟩) (by assumption) ?_
          (try simp only [Act.put, List.setIfInBounds_toArray, List.set_cons_zero, List.set_cons_succ])
          refine take_first 4 (v := ?_) rfl (by kernel_rfl) (by kernel_rfl) (by kernel_rfl) (fun _ _ _ h => h) (Or.inl ⟨by rfl, by intro wx hSw; obtain ⟨⟨hSw1, hSw2, hSw3, hSw4⟩, hSw5, hSw6, hSw7, hSw8⟩ := hSw; go_simp; try with_reducible rfl⟩) (by assumption) ?_
          (try simp only [Act.put, List.setIfInBounds_toArray, List.set_cons_zero, List.set_cons_succ])
          refine take_first 5 (v := ?_) rfl (by kernel_rfl) (by kernel_rfl) (by kernel_rfl) (fun _ _ _ h => h) (Or.inl ⟨by rfl, by intro wx hSw; obtain ⟨⟨hSw1, hSw2, hSw3, hSw4⟩, hSw5, hSw6, hSw7, hSw8⟩ := hSw; go_simp; try with_reducible rfl⟩) (by assumption) ?_
          (try simp only [Act.put, List.setIfInBounds_toArray, List.set_cons_zero, List.set_cons_succ])
          refine take_first 6 (v := ?_) rfl (by kernel_rfl) (by kernel_rfl) (by kernel_rfl) (fun _ _ _ h => h) (Or.inl ⟨by rfl, by intro wx hSw; obtain ⟨⟨hSw1, hSw2, hSw3, hSw4⟩, hSw5, hSw6, hSw7, hSw8⟩ := hSw; go_simp; try with_reducible rfl⟩) (by assumption) ?_
          (try simp only [Act.put, List.setIfInBounds_toArray, List.set_cons_zero, List.set_cons_succ])
          refine take_first 7 (v := ?_) rfl (by kernel_rfl) (by kernel_rfl) (by kernel_rfl) (fun _ _ _ h => h) (Or.inl ⟨by rfl, by intro wx hSw; obtain ⟨⟨hSw1, hSw2, hSw3, hSw4⟩, hSw5, hSw6, hSw7, hSw8⟩ := hSw; go_simp; try with_reducible rfl⟩) (by assumption) ?_
          (try simp only [Act.put, List.setIfInBounds_toArray, List.set_cons_zero, List.set_cons_succ])
          refine take_first 8 (v := ?_) rfl (by kernel_rfl) (by kernel_rfl) (by kernel_rfl) (fun _ _ _ h => h) (Or.inl ⟨by rfl, by intro wx hSw; obtain ⟨⟨hSw1, hSw2, hSw3, hSw4⟩, hSw5, hSw6, hSw7, hSw8⟩ := hSw; go_simp; try with_reducible rfl⟩) (by assumption) ?_
          (try simp only [Act.put, List.setIfInBounds_toArray, List.set_cons_zero, List.set_cons_succ])
          refine take_first 9 (v := ?_) rfl (by kernel_rfl) (by kernel_rfl) (by kernel_rfl) (fun _ _ _ h => h) (Or.inl ⟨by rfl, by intro wx hSw; obtain ⟨⟨hSw1, hSw2, hSw3, hSw4⟩, hSw5, hSw6, hSw7, hSw8⟩ := hSw; go_simp; try with_reducible rfl⟩) (by assumption) ?_
          (try simp only [Act.put, List.setIfInBounds_toArray, List.set_cons_zero, List.set_cons_succ])
          refine comes_up 10 rfl (by kernel_rfl) (fun K hK => ?_)
          go_simp
          refine (heq _).mono ?_
          rintro e' w1 ⟨rfl, hup⟩
          have at1 : C4 g ((m + 1) * 4) x.1 w1 ∧ C4 g (m * 4) y.1 w1 := ⟨hHeld.1.up hup.bl, hHeld.2.up hup.bl⟩
          have hu1 := hud.trans hup
          clear hHeld hup two hud hb
          go_wp2_with fail
          refine hK.out _ _ at1 (fun hHeld => ?_)
          clear hK K
          (try simp only [Act.put, List.setIfInBounds_toArray, List.set_cons_zero, List.set_cons_succ])
          refine wpAnyH_done (by kernel_rfl) ?_ _
          refine NoPanic.normal ?_
          clear at1 hHeld heq
          go_wp2
          go_roundw
          case rel => first | exact ⟨m + 1, by omega, by go_num, HK'.out, hu1⟩ | ((repeat apply Exists.intro); exact ⟨⟨m + 1, by omega, by go_num, HK'.out, hu1⟩, rfl⟩)
          case measure => simp [intOf]; omega
        | true =>
          rw [he] at heq
          have HK' : Hid (ls.take (m + 1) = keepT ls (m + 1 + 1)) := by
            show _ = _
            rw [keepT_same HX.out HY.out (by simpa using he), HK.out]
          clear he HK
          go_wp2_with fail
          refine wp_region_noPanic ?_
          refine wp_region_held_drew (S := fun wx => C4 g ((m + 1) * 4) x.1 wx ∧ C4 g (m * 4) y.1 wx) (by kernel_rfl) two (fun hHeld => ?_)
          refine take_first 0 (v := ?_) rfl (by kernel_rfl) (by kernel_rfl) (by kernel_rfl) (fun _ _ _ h => h) (Or.inl ⟨by rfl, by intro wx hSw; obtain ⟨⟨hSw1, hSw2, hSw3, hSw4⟩, hSw5, hSw6, hSw7, hSw8⟩ := hSw; go_simp; try with_reducible rfl⟩) (by assumption) ?_
          (try simp only [Act.put, List.setIfInBounds_toArray, List.set_cons_zero, List.set_cons_succ])
          refine take_first 1 (v := ?_) rfl (by kernel_rfl) (by kernel_rfl) (by kernel_rfl) (fun _ _ _ h => h) (Or.inl ⟨by rfl, by intro wx hSw; obtain ⟨⟨hSw1, hSw2, hSw3, hSw4⟩, hSw5, hSw6, hSw7, hSw8⟩ := hSw; go_simp; try with_reducible rfl⟩) (by assumption) ?_
          (try simp only [Act.put, List.setIfInBounds_toArray, List.set_cons_zero, List.set_cons_succ])
          refine take_first 2 (v := ?_) rfl (by kernel_rfl) (by kernel_rfl) (by kernel_rfl) (fun _ _ _ h => h) (Or.inl ⟨by rfl, by intro wx hSw; obtain ⟨⟨hSw1, hSw2, hSw3, hSw4⟩, hSw5, hSw6, hSw7, hSw8⟩ := hSw; go_simp; try with_reducible rfl⟩) (by assumption) ?_
          (try simp only [Act.put, List.setIfInBounds_toArray, List.set_cons_zero, List.set_cons_succ])
          refine take_first 3 (v := ?_) rfl (by kernel_rfl) (by kernel_rfl) (by kernel_rfl) (fun _ _ _ h => h) (Or.inl ⟨by rfl, by intro wx hSw; obtain ⟨⟨hSw1, hSw2, hSw3, hSw4⟩, hSw5, hSw6, hSw7, hSw8⟩ := hSw; go_simp; try with_reducible rfl⟩) (by assumption) ?_
          (try simp only [Act.put, List.setIfInBounds_toArray, List.set_cons_zero, List.set_cons_succ])
          refine take_first 4 (v := ?_) rfl (by kernel_rfl) (by kernel_rfl) (by kernel_rfl) (fun _ _ _ h => h) (Or.inl ⟨by rfl, by intro wx hSw; obtain ⟨⟨hSw1, hSw2, hSw3, hSw4⟩, hSw5, hSw6, hSw7, hSw8⟩ := hSw; go_simp; try with_reducible rfl⟩) (by assumption) ?_
          (try simp only [Act.put, List.setIfInBounds_toArray, List.set_cons_zero, List.set_cons_succ])
          refine take_first 5 (v := ?_) rfl (by kernel_rfl) (by kernel_rfl) (by kernel_rfl) (fun _ _ _ h => h) (Or.inl ⟨by rfl, by intro wx hSw; obtain ⟨⟨hSw1, hSw2, hSw3, hSw4⟩, hSw5, hSw6, hSw7, hSw8⟩ := hSw; go_simp; try with_reducible rfl⟩) (by assumption) ?_
          (try simp only [Act.put, List.setIfInBounds_toArray, List.set_cons_zero, List.set_cons_succ])
          refine take_first 6 (v := ?_) rfl (by kernel_rfl) (by kernel_rfl) (by kernel_rfl) (fun _ _ _ h => h) (Or.inl ⟨by rfl, by intro wx hSw; obtain ⟨⟨hSw1, hSw2, hSw3, hSw4⟩, hSw5, hSw6, hSw7, hSw8⟩ := hSw; go_simp; try with_reducible rfl⟩) (by assumption) ?_
          (try simp only [Act.put, List.setIfInBounds_toArray, List.set_cons_zero, List.set_cons_succ])
          refine take_first 7 (v := ?_) rfl (by kernel_rfl) (by kernel_rfl) (by kernel_rfl) (fun _ _ _ h => h) (Or.inl ⟨by rfl, by intro wx hSw; obtain ⟨⟨hSw1, hSw2, hSw3, hSw4⟩, hSw5, hSw6, hSw7, hSw8⟩ := hSw; go_simp; try with_reducible rfl⟩) (by assumption) ?_
          (try simp only [Act.put, List.setIfInBounds_toArray, List.set_cons_zero, List.set_cons_succ])
          refine take_first 8 (v := ?_) rfl (by kernel_rfl) (by kernel_rfl) (by kernel_rfl) (fun _ _ _ h => h) (Or.inl ⟨by rfl, by intro wx hSw; obtain ⟨⟨hSw1, hSw2, hSw3, hSw4⟩, hSw5, hSw6, hSw7, hSw8⟩ := hSw; go_simp; try with_reducible rfl⟩) (by assumption) ?_
          (try simp only [Act.put, List.setIfInBounds_toArray, List.set_cons_zero, List.set_cons_succ])
          refine take_first 9 (v := ?_) rfl (by kernel_rfl) (by kernel_rfl) (by kernel_rfl) (fun _ _ _ h => h) (Or.inl ⟨by rfl, by intro wx hSw; obtain ⟨⟨hSw1, hSw2, hSw3, hSw4⟩, hSw5, hSw6, hSw7, hSw8⟩ := hSw; go_simp; try with_reducible rfl⟩) (by assumption) ?_
          (try simp only [Act.put, List.setIfInBounds_toArray, List.set_cons_zero, List.set_cons_succ])
          refine comes_up 10 rfl (by kernel_rfl) (fun K hK => ?_)
          go_simp
          refine (heq _).mono ?_
          rintro e' w1 ⟨rfl, hup⟩
          have at1 : C4 g ((m + 1) * 4) x.1 w1 ∧ C4 g (m * 4) y.1 w1 := ⟨hHeld.1.up hup.bl, hHeld.2.up hup.bl⟩
          have hu1 := hud.trans hup
          have hb1 := hblk.up hu1
          clear hHeld hup two hud hb
          go_wp2_with fail
          refine hK.out _ _ at1 (fun hHeld => ?_)
          clear hK K
          (try simp only [Act.put, List.setIfInBounds_toArray, List.set_cons_zero, List.set_cons_succ])
          refine wpAnyH_done (by kernel_rfl) ?_ _
          refine NoPanic.normal ?_
          clear at1 hHeld heq HX HY
          go_wp2_with fail
          go_loopw [5, 7] (fun kv iv wq => ∃ (k t : Nat) (cur : List Tg), kv = .int .i64 (k : Nat) ∧ iv = .int .i64 ((t : Int) + 1) ∧ k ≤ m + 1 + t ∧ m + 1 + t + 1 ≤ n ∧ BlkT wq g cap cur ∧ cur.length = n ∧ cur.take k = keepT ls (m + 1 + t + 1) ∧ cur.drop (m + 1 + t) = ls.drop (m + 1 + t) ∧ w.grownBy wq (some g)) (fun _ iv _ => n - (intOf iv).toNat)
          case atStart => exact ⟨m + 1, 0, ls, by go_num, rfl, by omega, by omega, hb1, hl, HK'.out, rfl, gr_below hu1.bl _⟩
          case round =>
            clear HK' hb1 hu1
            obtain ⟨k, t, cur, rfl, rfl, hkt, ht, hb, hcl, htk, hdr, hgr⟩ := hrel
            have HTK : Hid (cur.take k = keepT ls (m + 1 + t + 1)) := htk
            have HDR : Hid (cur.drop (m + 1 + t) = ls.drop (m + 1 + t)) := hdr
            clear htk hdr
            by_cases hlt2 : m + 1 + t + 1 < n
            · obtain ⟨x, hx⟩ : ∃ y, ls[m + 1 + t + 1]? = some y := ⟨ls[m + 1 + t + 1]'(by omega), List.getElem?_eq_getElem (by omega)⟩
              obtain ⟨y, hy⟩ : ∃ y, ls[m + 1 + t]? = some y := ⟨ls[m + 1 + t]'(by omega), List.getElem?_eq_getElem (by omega)⟩
              have hx' : cur[m + 1 + t + 1]? = some x := by
                have h1 : (cur.drop (m + 1 + t))[1]? = (ls.drop (m + 1 + t))[1]? := by rw [HDR.out]
                simpa [hx] using h1
              have hy' : cur[m + 1 + t]? = some y := by
                have h1 : (cur.drop (m + 1 + t))[0]? = (ls.drop (m + 1 + t))[0]? := by rw [HDR.out]
                simpa [hy] using h1
              have two : C4 g ((m + 1) * 4 + (t + 1) * 4) x.1 wr.drew ∧ C4 g ((m + 1) * 4 + t * 4) y.1 wr.drew := by
                have h1 := hb.drew.c4 hx'
                have h2 := hb.drew.c4 hy'
                rw [show (m + 1 + t + 1) * 4 = (m + 1) * 4 + (t + 1) * 4 by omega] at h1
                rw [show (m + 1 + t) * 4 = (m + 1) * 4 + t * 4 by omega] at h2
                exact ⟨h1, h2⟩
              have heq := fun W => same3_any W x.1 y.1
              unfold sta at heq
              have HX : Hid (ls[m + 1 + t + 1]? = some x) := hx
              have HY : Hid (ls[m + 1 + t]? = some y) := hy
              clear hx hy hx' hy'
              have e1 : (t : Int) + 1 < ((n - (m + 1) : Nat) : Int) := by omega
              have e2 : (t : Int) < ((n - (m + 1) : Nat) : Int) := by omega
              have e3 : ¬ ((t : Int) + 1 < 0) := by omega
              have e4 : ¬ ((t : Int) < 0) := by omega
              have e5 : ¬ ((k : Int) < 0) := by omega
              have e6 : (k : Int) < (n : Int) := by omega
              have hwt : IntKind.i64.wrap (t : Int) = (t : Int) := by rw [IntWalk.i64_left, IntWalk.wrap64_in _ (by omega)]
              have HD1 : Hid (cur.drop (m + 1 + (t + 1)) = ls.drop (m + 1 + (t + 1))) := by
                show _ = _
                have h1 : (cur.drop (m + 1 + t)).drop 1 = (ls.drop (m + 1 + t)).drop 1 := by rw [HDR.out]
                rw [List.drop_drop, List.drop_drop] at h1
                exact h1
              cases he : decide (x.1.1 = y.1.1 ∧ x.1.2.1 = y.1.2.1) with
              | true =>
                rw [he] at heq
                have HT : Hid (cur.take k = keepT ls (m + 1 + (t + 1) + 1)) := by
                  show _ = _
                  rw [show m + 1 + (t + 1) + 1 = m + 1 + t + 2 by omega, keepT_same HX.out HY.out (by simpa using he)]
                  exact HTK.out
                clear he HTK
                go_wp2_with fail
                refine wp_region_noPanic ?_
                refine wp_region_held_drew (S := fun wx => C4 g ((m + 1) * 4 + (t + 1) * 4) x.1 wx ∧ C4 g ((m + 1) * 4 + t * 4) y.1 wx) (by kernel_rfl) two (fun hHeld => ?_)
                refine take_first 0 (v := ?_) rfl (by kernel_rfl) (by kernel_rfl) (by kernel_rfl) (fun _ _ _ h => h) (Or.inl ⟨by rfl, by intro wx hSw; obtain ⟨⟨hSw1, hSw2, hSw3, hSw4⟩, hSw5, hSw6, hSw7, hSw8⟩ := hSw; go_simp; try with_reducible rfl⟩) (by assumption) ?_
                (try simp only [Act.put, List.setIfInBounds_toArray, List.set_cons_zero, List.set_cons_succ])
                refine take_first 1 (v := ?_) rfl (by kernel_rfl) (by kernel_rfl) (by kernel_rfl) (fun _ _ _ h => h) (Or.inl ⟨by rfl, by intro wx hSw; obtain ⟨⟨hSw1, hSw2, hSw3, hSw4⟩, hSw5, hSw6, hSw7, hSw8⟩ := hSw; go_simp; try with_reducible rfl⟩) (by assumption) ?_
                (try simp only [Act.put, List.setIfInBounds_toArray, List.set_cons_zero, List.set_cons_succ])
                refine take_first 2 (v := ?_) rfl (by kernel_rfl) (by kernel_rfl) (by kernel_rfl) (fun _ _ _ h => h) (Or.inl ⟨by rfl, by intro wx hSw; obtain ⟨⟨hSw1, hSw2, hSw3, hSw4⟩, hSw5, hSw6, hSw7, hSw8⟩ := hSw; go_simp; try with_reducible rfl⟩) (by assumption) ?_
                (try simp only [Act.put, List.setIfInBounds_toArray, List.set_cons_zero, List.set_cons_succ])
                refine take_first 3 (v := ?_) rfl (by kernel_rfl) (by kernel_rfl) (by kernel_rfl) (fun _ _ _ h => h) (Or.inl ⟨by rfl, by intro wx hSw; obtain ⟨⟨hSw1, hSw2, hSw3, hSw4⟩, hSw5, hSw6, hSw7, hSw8⟩ := hSw; go_simp; try with_reducible rfl⟩) (by assumption) ?_
                (try simp only [Act.put, List.setIfInBounds_toArray, List.set_cons_zero, List.set_cons_succ])
                refine take_first 4 (v := ?_) rfl (by kernel_rfl) (by kernel_rfl) (by kernel_rfl) (fun _ _ _ h => h) (Or.inl ⟨by rfl, by intro wx hSw; obtain ⟨⟨hSw1, hSw2, hSw3, hSw4⟩, hSw5, hSw6, hSw7, hSw8⟩ := hSw; go_simp; try with_reducible rfl⟩) (by assumption) ?_
                (try simp only [Act.put, List.setIfInBounds_toArray, List.set_cons_zero, List.set_cons_succ])
                refine take_first 5 (v := ?_) rfl (by kernel_rfl) (by kernel_rfl) (by kernel_rfl) (fun _ _ _ h => h) (Or.inl ⟨by rfl, by intro wx hSw; obtain ⟨⟨hSw1, hSw2, hSw3, hSw4⟩, hSw5, hSw6, hSw7, hSw8⟩ := hSw; go_simp; try with_reducible rfl⟩) (by assumption) ?_
                (try simp only [Act.put, List.setIfInBounds_toArray, List.set_cons_zero, List.set_cons_succ])
                refine take_first 6 (v := ?_) rfl (by kernel_rfl) (by kernel_rfl) (by kernel_rfl) (fun _ _ _ h => h) (Or.inl ⟨by rfl, by intro wx hSw; obtain ⟨⟨hSw1, hSw2, hSw3, hSw4⟩, hSw5, hSw6, hSw7, hSw8⟩ := hSw; go_simp; try with_reducible rfl⟩) (by assumption) ?_
                (try simp only [Act.put, List.setIfInBounds_toArray, List.set_cons_zero, List.set_cons_succ])
                refine take_first 7 (v := ?_) rfl (by kernel_rfl) (by kernel_rfl) (by kernel_rfl) (fun _ _ _ h => h) (Or.inl ⟨by rfl, by intro wx hSw; obtain ⟨⟨hSw1, hSw2, hSw3, hSw4⟩, hSw5, hSw6, hSw7, hSw8⟩ := hSw; go_simp; try with_reducible rfl⟩) (by assumption) ?_
                (try simp only [Act.put, List.setIfInBounds_toArray, List.set_cons_zero, List.set_cons_succ])
                refine take_first 8 (v := ?_) rfl (by kernel_rfl) (by kernel_rfl) (by kernel_rfl) (fun _ _ _ h => h) (Or.inl ⟨by rfl, by intro wx hSw; obtain ⟨⟨hSw1, hSw2, hSw3, hSw4⟩, hSw5, hSw6, hSw7, hSw8⟩ := hSw; go_simp; try with_reducible rfl⟩) (by assumption) ?_
                (try simp only [Act.put, List.setIfInBounds_toArray, List.set_cons_zero, List.set_cons_succ])
                refine take_first 9 (v := ?_) rfl (by kernel_rfl) (by kernel_rfl) (by kernel_rfl) (fun _ _ _ h => h) (Or.inl ⟨by rfl, by intro wx hSw; obtain ⟨⟨hSw1, hSw2, hSw3, hSw4⟩, hSw5, hSw6, hSw7, hSw8⟩ := hSw; go_simp; try with_reducible rfl⟩) (by assumption) ?_
                (try simp only [Act.put, List.setIfInBounds_toArray, List.set_cons_zero, List.set_cons_succ])
                refine comes_up 10 rfl (by kernel_rfl) (fun K hK => ?_)
                go_simp
                refine (heq _).mono ?_
                rintro e' w1 ⟨rfl, hup⟩
                have at1 : C4 g ((m + 1) * 4 + (t + 1) * 4) x.1 w1 ∧ C4 g ((m + 1) * 4 + t * 4) y.1 w1 := ⟨hHeld.1.up hup.bl, hHeld.2.up hup.bl⟩
                have hb1 : BlkT w1 g cap cur := hb.drew.up hup
                have hg1 : w.grownBy w1 (some g) := gr_trans (gr_drew hgr) (gr_below hup.bl _)
                clear hHeld hup two hb hgr
                go_wp2_with fail
                refine hK.out _ _ at1 (fun hHeld => ?_)
                clear hK K
                (try simp only [Act.put, List.setIfInBounds_toArray, List.set_cons_zero, List.set_cons_succ])
                refine take_first 11 (v := ?_) rfl (by kernel_rfl) (by kernel_rfl) (by kernel_rfl) (fun _ _ _ h => h) (Or.inl ⟨by rfl, by intro wx hSw; obtain ⟨⟨hSw1, hSw2, hSw3, hSw4⟩, hSw5, hSw6, hSw7, hSw8⟩ := hSw; go_simp; try with_reducible rfl⟩) (by assumption) ?_
                (try simp only [Act.put, List.setIfInBounds_toArray, List.set_cons_zero, List.set_cons_succ])
                refine wpAnyH_done (by kernel_rfl) ?_ _
                refine NoPanic.normal ?_
                clear at1 hHeld heq
                go_wp2
                go_roundw
                case rel => first | exact ⟨k, t + 1, cur, by go_num, by go_num, by omega, by omega, hb1, hcl, HT.out, HD1.out, hg1⟩ | ((repeat apply Exists.intro); exact ⟨⟨k, t + 1, cur, by go_num, by go_num, by omega, by omega, hb1, hcl, HT.out, HD1.out, hg1⟩, rfl⟩)
                case measure => simp [intOf]; omega
              | false =>
                rw [he] at heq
                have HT : Hid ((cur.set k x).take (k + 1) = keepT ls (m + 1 + (t + 1) + 1)) := by
                  show _ = _
                  rw [show m + 1 + (t + 1) + 1 = m + 1 + t + 2 by omega, keepT_next HX.out HY.out (by simpa using he), ← HTK.out, List.take_add_one]
                  have : (cur.set k x)[k]? = some x := by rw [List.getElem?_set_self (by omega)]
                  rw [this, List.take_set_of_le (Nat.le_refl _)]
                  rfl
                have HD2 : Hid ((cur.set k x).drop (m + 1 + (t + 1)) = ls.drop (m + 1 + (t + 1))) := by
                  show _ = _
                  rw [List.drop_set_of_lt (by omega)]
                  exact HD1.out
                have hcl2 : (cur.set k x).length = n := by simpa using hcl
                clear he HTK HD1
                go_wp2_with fail
                refine wp_region_noPanic ?_
                refine wp_region_held_drew (S := fun wx => C4 g ((m + 1) * 4 + (t + 1) * 4) x.1 wx ∧ C4 g ((m + 1) * 4 + t * 4) y.1 wx) (by kernel_rfl) two (fun hHeld => ?_)
                refine take_first 0 (v := ?_) rfl (by kernel_rfl) (by kernel_rfl) (by kernel_rfl) (fun _ _ _ h => h) (Or.inl ⟨by rfl, by intro wx hSw; obtain ⟨⟨hSw1, hSw2, hSw3, hSw4⟩, hSw5, hSw6, hSw7, hSw8⟩ := hSw; go_simp; try with_reducible rfl⟩) (by assumption) ?_
                (try simp only [Act.put, List.setIfInBounds_toArray, List.set_cons_zero, List.set_cons_succ])
                refine take_first 1 (v := ?_) rfl (by kernel_rfl) (by kernel_rfl) (by kernel_rfl) (fun _ _ _ h => h) (Or.inl ⟨by rfl, by intro wx hSw; obtain ⟨⟨hSw1, hSw2, hSw3, hSw4⟩, hSw5, hSw6, hSw7, hSw8⟩ := hSw; go_simp; try with_reducible rfl⟩) (by assumption) ?_
                (try simp only [Act.put, List.setIfInBounds_toArray, List.set_cons_zero, List.set_cons_succ])
                refine take_first 2 (v := ?_) rfl (by kernel_rfl) (by kernel_rfl) (by kernel_rfl) (fun _ _ _ h => h) (Or.inl ⟨by rfl, by intro wx hSw; obtain ⟨⟨hSw1, hSw2, hSw3, hSw4⟩, hSw5, hSw6, hSw7, hSw8⟩ := hSw; go_simp; try with_reducible rfl⟩) (by assumption) ?_
                (try simp only [Act.put, List.setIfInBounds_toArray, List.set_cons_zero, List.set_cons_succ])
                refine take_first 3 (v := ?_) rfl (by kernel_rfl) (by kernel_rfl) (by kernel_rfl) (fun _ _ _ h => h) (Or.inl ⟨by rfl, by intro wx hSw; obtain ⟨⟨hSw1, hSw2, hSw3, hSw4⟩, hSw5, hSw6, hSw7, hSw8⟩ := hSw; go_simp; try with_reducible rfl⟩) (by assumption) ?_
                (try simp only [Act.put, List.setIfInBounds_toArray, List.set_cons_zero, List.set_cons_succ])
                refine take_first 4 (v := ?_) rfl (by kernel_rfl) (by kernel_rfl) (by kernel_rfl) (fun _ _ _ h => h) (Or.inl ⟨by rfl, by intro wx hSw; obtain ⟨⟨hSw1, hSw2, hSw3, hSw4⟩, hSw5, hSw6, hSw7, hSw8⟩ := hSw; go_simp; try with_reducible rfl⟩) (by assumption) ?_
                (try simp only [Act.put, List.setIfInBounds_toArray, List.set_cons_zero, List.set_cons_succ])
                refine take_first 5 (v := ?_) rfl (by kernel_rfl) (by kernel_rfl) (by kernel_rfl) (fun _ _ _ h => h) (Or.inl ⟨by rfl, by intro wx hSw; obtain ⟨⟨hSw1, hSw2, hSw3, hSw4⟩, hSw5, hSw6, hSw7, hSw8⟩ := hSw; go_simp; try with_reducible rfl⟩) (by assumption) ?_
                (try simp only [Act.put, List.setIfInBounds_toArray, List.set_cons_zero, List.set_cons_succ])
                refine take_first 6 (v := ?_) rfl (by kernel_rfl) (by kernel_rfl) (by kernel_rfl) (fun _ _ _ h => h) (Or.inl ⟨by rfl, by intro wx hSw; obtain ⟨⟨hSw1, hSw2, hSw3, hSw4⟩, hSw5, hSw6, hSw7, hSw8⟩ := hSw; go_simp; try with_reducible rfl⟩) (by assumption) ?_
                (try simp only [Act.put, List.setIfInBounds_toArray, List.set_cons_zero, List.set_cons_succ])
                refine take_first 7 (v := ?_) rfl (by kernel_rfl) (by kernel_rfl) (by kernel_rfl) (fun _ _ _ h => h) (Or.inl ⟨by rfl, by intro wx hSw; obtain ⟨⟨hSw1, hSw2, hSw3, hSw4⟩, hSw5, hSw6, hSw7, hSw8⟩ := hSw; go_simp; try with_reducible rfl⟩) (by assumption) ?_
                (try simp only [Act.put, List.setIfInBounds_toArray, List.set_cons_zero, List.set_cons_succ])
                refine take_first 8 (v := ?_) rfl (by kernel_rfl) (by kernel_rfl) (by kernel_rfl) (fun _ _ _ h => h) (Or.inl ⟨by rfl, by intro wx hSw; obtain ⟨⟨hSw1, hSw2, hSw3, hSw4⟩, hSw5, hSw6, hSw7, hSw8⟩ := hSw; go_simp; try with_reducible rfl⟩) (by assumption) ?_
                (try simp only [Act.put, List.setIfInBounds_toArray, List.set_cons_zero, List.set_cons_succ])
                refine take_first 9 (v := ?_) rfl (by kernel_rfl) (by kernel_rfl) (by kernel_rfl) (fun _ _ _ h => h) (Or.inl ⟨by rfl, by intro wx hSw; obtain ⟨⟨hSw1, hSw2, hSw3, hSw4⟩, hSw5, hSw6, hSw7, hSw8⟩ := hSw; go_simp; try with_reducible rfl⟩) (by assumption) ?_
                (try simp only [Act.put, List.setIfInBounds_toArray, List.set_cons_zero, List.set_cons_succ])
                refine comes_up 10 rfl (by kernel_rfl) (fun K hK => ?_)
                go_simp
                refine (heq _).mono ?_
                rintro e' w1 ⟨rfl, hup⟩
                have at1 : C4 g ((m + 1) * 4 + (t + 1) * 4) x.1 w1 ∧ C4 g ((m + 1) * 4 + t * 4) y.1 w1 := ⟨hHeld.1.up hup.bl, hHeld.2.up hup.bl⟩
                have hb1 : BlkT w1 g cap cur := hb.drew.up hup
                have hg1 : w.grownBy w1 (some g) := gr_trans (gr_drew hgr) (gr_below hup.bl _)
                clear hHeld hup two hb hgr
                go_wp2_with fail
                refine hK.out _ _ at1 (fun hHeld => ?_)
                clear hK K
                (try simp only [Act.put, List.setIfInBounds_toArray, List.set_cons_zero, List.set_cons_succ])
                refine take_first 11 (v := ?_) rfl (by kernel_rfl) (by kernel_rfl) (by kernel_rfl) (fun _ _ _ h => h) (Or.inl ⟨by rfl, by intro wx hSw; obtain ⟨⟨hSw1, hSw2, hSw3, hSw4⟩, hSw5, hSw6, hSw7, hSw8⟩ := hSw; go_simp; try with_reducible rfl⟩) (by assumption) ?_
                (try simp only [Act.put, List.setIfInBounds_toArray, List.set_cons_zero, List.set_cons_succ])
                refine wpAnyH_done (by kernel_rfl) ?_ _
                refine NoPanic.normal ?_
                obtain ⟨w4, hst, hb4, hg4⟩ := hb1.setT (i := k) (by omega) x
                have hg5 : w.grownBy w4 (some g) := gr_trans hg1 hg4
                obtain ⟨⟨c0, c1, c2, c3⟩, _⟩ := at1
                clear hHeld heq hb1 hg1 hg4
                go_wp2_with (first | (refine wpList_store_cells rfl 45 (.tmp 56) (.tmp 55) rfl ⟨g, k * 4, none⟩ #[.int .u64 (x.1.1 : Nat), .int .i64 x.1.2.1, .int .i64 x.1.2.2.1, .slice x.1.2.2.2.1 x.1.2.2.2.2.1 x.1.2.2.2.2.2] rfl rfl infoS31 w4 hst ?_))
                go_roundw
                case rel => first | exact ⟨k + 1, t + 1, cur.set k x, by go_num, by go_num, by omega, by omega, hb4, hcl2, HT.out, HD2.out, hg5⟩ | ((repeat apply Exists.intro); exact ⟨⟨k + 1, t + 1, cur.set k x, by go_num, by go_num, by omega, by omega, hb4, hcl2, HT.out, HD2.out, hg5⟩, rfl⟩)
                case measure => simp [intOf]; omega
            · have ent : m + 1 + t + 1 = n := by omega
              have e1 : ¬ ((t : Int) + 1 < ((n - (m + 1) : Nat) : Int)) := by omega
              have e : cur.take k = keepT ls n := by rw [← ent]; exact HTK.out
              obtain ⟨w4, hst, hb4, hg4⟩ := hb.clearT (i := k) (n := n - k) (by omega) (by omega) (cap - k) 0
              have hk0 : ¬ ((k : Int) < 0) := by omega
              have hlen : (keepT ls n).length = k := by rw [← e, List.length_take]; omega
              have HE : Hid (w4.ownsRow base 45 4 (.slice (some ⟨g, 0, none⟩) k cap) (keepT ls n).length (fl (keepT ls n)) ∧ w.grownBy w4 (some g)) := by
                refine ⟨?_, gr_trans hgr hg4⟩
                have := BlkT.own hb4 hbg hcm k (by rw [List.length_take]; omega)
                rw [e, List.take_of_length_le (by omega)] at this
                rw [hlen]; exact this
              have hkn : k < n := by omega
              clear hb hgr hg4 hb4 HTK HDR hlen e HOWN hblk hu ent
              go_wp2
              go_ret
              exact ⟨_, rfl, HE.out⟩
      · have em : m + 1 = n := by omega
        have HE : Hid (wr.ownsRow base 45 4 (.slice (some ⟨g, 0, none⟩) n cap) (keepT ls n).length (fl (keepT ls n)) ∧ w.grownBy wr (some g)) := by
          have e : keepT ls n = ls := by rw [← em, HK.out, List.take_of_length_le (by omega)]
          rw [e, hl]
          exact ⟨HOWN.out wr hb, gr_below hu.bl _⟩
        have hltI : ¬ ((m : Int) + 1 < (n : Int)) := by omega
        clear hb HK HOWN hblk em hu
        go_wp2
        go_ret
        exact ⟨_, rfl, HE.out⟩
end Go.Proofs.YtlonbbepoamnmaaDoor
namespace Go.Proofs.YtlonbbepoamnmaaDoor
open Go.RowKit Go.Sort
set_option linter.unusedVariables false

theorem keepT_mem {M : List Tg} : ∀ k, k ≤ M.length → ∀ t, t ∈ keepT M k ↔ ∃ j, j < k ∧ M[j]? = some t ∧ prevSame M j t = false
  | 0, _, t => by simp [keepT]
  | k + 1, hk, t => by
    obtain ⟨x, hx⟩ : ∃ x, M[k]? = some x := ⟨M[k]'(by omega), List.getElem?_eq_getElem (by omega)⟩
    rw [keepT, hx, List.mem_append, keepT_mem k (by omega) t]
    constructor
    · rintro (⟨j, h1, h2, h3⟩ | h)
      · exact ⟨j, by omega, h2, h3⟩
      · cases hp : prevSame M k x with
        | true => simp [hp] at h
        | false => simp [hp] at h; subst h; exact ⟨k, by omega, hx, hp⟩
    · rintro ⟨j, h1, h2, h3⟩
      by_cases e : j = k
      · subst e
        rw [hx] at h2
        cases h2
        exact .inr (by simp [h3])
      · exact .inl ⟨j, by omega, h2, h3⟩
theorem ltT_ltV {a b : Tg} (h : ltT a b) : ¬ ltV b a := by unfold ltT ltK ltV at *; omega
theorem prevSame_iff {M : List Tg} (hM : Asc M) {j : Nat} {t : Tg} (hj : M[j]? = some t) : prevSame M j t = false ↔ ∀ i u, i < j → M[i]? = some u → ¬ sameV u t := by
  unfold prevSame
  by_cases h0 : 0 < j
  · obtain ⟨y, hy⟩ : ∃ y, M[j - 1]? = some y := ⟨M[j - 1]'(by have := (List.getElem?_eq_some_iff.1 hj).1; omega), List.getElem?_eq_getElem _⟩
    rw [hy, decide_eq_true h0]
    simp only [Bool.true_and, decide_eq_false_iff_not]
    constructor
    · intro h i u hi hu hs
      have h1 := asc_le hM hu hy (by omega)
      have h2 := ltT_ltV (asc_get hM hy hj (by omega))
      have h3 : ¬ ltV y u := by
        rcases h1 with rfl | h1
        · exact ltV_irr _
        · exact ltT_ltV h1
      unfold ltV sameV at *
      omega
    · intro h hs
      exact h (j - 1) y (by omega) hy ⟨hs.1.symm, hs.2.symm⟩
  · have : j = 0 := by omega
    subst this
    simp
theorem keepT_asc {M : List Tg} (hM : Asc M) : ∀ k, k ≤ M.length → (keepT M k).Pairwise ltV
  | 0, _ => by simp [keepT]
  | k + 1, hk => by
    have ih := keepT_asc hM k (by omega)
    obtain ⟨x, hx⟩ : ∃ x, M[k]? = some x := ⟨M[k]'(by omega), List.getElem?_eq_getElem (by omega)⟩
    rw [keepT, hx]
    cases hp : prevSame M k x with
    | true => simpa [hp] using ih
    | false =>
      simp only [hp]
      show (keepT M k ++ [x]).Pairwise ltV
      rw [List.pairwise_append]
      refine ⟨ih, by simp, fun a ha b hb => ?_⟩
      simp at hb
      subst hb
      obtain ⟨j, h1, h2, _⟩ := (keepT_mem k (by omega) a).1 ha
      have hn := (prevSame_iff hM hx).1 hp j a h1 h2
      have hl := ltT_ltV (asc_get hM h2 hx h1)
      exact Classical.byContradiction fun h => hn (ltV_tri h hl)
/-- Those of a view, with where they stood. -/
def viewT (ss : List Sx) : List Tg := (tagl ss).filter (fun t => !decide (t.1.1 = 0))
theorem viewT_map (ss : List Sx) : (viewT ss).map (·.1) = out ss := by
  unfold viewT out
  have h := (List.filter_map (f := (·.1)) (p := fun x : Sx => !decide (x.1 = 0)) (l := tagl ss))
  rw [tagl_map] at h
  exact h.symm
theorem keepT_join {ss : List Sx} {M : List Tg} (hM : Asc M) (hp : M.Perm (viewT ss)) : IsJoin (tagl ss) (keepT M M.length) := by
  have hm : ∀ t, t ∈ M ↔ t ∈ tagl ss ∧ t.1.1 ≠ 0 := fun t => by
    rw [hp.mem_iff]
    unfold viewT
    rw [List.mem_filter]
    simp
  refine ⟨keepT_asc hM _ (Nat.le_refl _), fun t => ?_⟩
  rw [keepT_mem _ (Nat.le_refl _) t]
  constructor
  · rintro ⟨j, _, hj, hpv⟩
    obtain ⟨h1, h2⟩ := (hm t).1 (List.mem_of_getElem? hj)
    refine ⟨h1, h2, fun u hu hs hl => ?_⟩
    have huM : u ∈ M := (hm u).2 ⟨hu, by rw [hs.1]; exact h2⟩
    obtain ⟨i, hi⟩ := List.mem_iff_getElem?.1 huM
    by_cases hij : i < j
    · exact (prevSame_iff hM hj).1 hpv i u hij hi hs
    · rcases asc_le hM hj hi (by omega) with rfl | h
      · exact ltT_irr _ hl
      · exact ltT_irr _ (ltT_trans hl h)
  · rintro ⟨h1, h2, h3⟩
    obtain ⟨j, hj⟩ := List.mem_iff_getElem?.1 ((hm t).2 ⟨h1, h2⟩)
    refine ⟨j, (List.getElem?_eq_some_iff.1 hj).1, hj, (prevSame_iff hM hj).2 (fun i u hi hu hs => ?_)⟩
    exact h3 u ((hm u).1 (List.mem_of_getElem? hu)).1 hs (asc_get hM hu hj hi)

/-- One of the states gets other items. -/
theorem flat_put (A B : List Sx) (x : Sx) (rest : List Value) (a : Option Addr) (l c : Nat) : (flat (A ++ x :: B) ++ rest).set (A.length * 4 + 3) (.slice a l c) = flat (A ++ (x.1, x.2.1, x.2.2.1, a, l, c) :: B) ++ rest := by
  rw [flat_app, flat_cons, flat_app, flat_cons, List.append_assoc, List.append_assoc, List.append_assoc, List.append_assoc, List.set_append_right _ _ (by rw [flat_len]; omega), flat_len, show A.length * 4 + 3 - A.length * 4 = 3 by omega]
  simp [cellsS]
theorem Blk.put3 {w : World} {g cap k : Nat} {cur : List Sx} {x : Sx} (h : Blk w g cap cur) (hk : cur[k]? = some x) (a : Option Addr) (l c : Nat) :
    Blk (w.setCell ⟨g, k * 4 + 3, none⟩ (.slice a l c)) g cap (cur.set k (x.1, x.2.1, x.2.2.1, a, l, c)) ∧ w.grownBy (w.setCell ⟨g, k * 4 + 3, none⟩ (.slice a l c)) (some g) := by
  obtain ⟨r, h1, h2⟩ := h
  obtain ⟨hkl, hkx⟩ := List.getElem?_eq_some_iff.1 hk
  obtain ⟨A, B, rfl, hA⟩ : ∃ A B, cur = A ++ x :: B ∧ A.length = k := ⟨cur.take k, cur.drop (k + 1), by rw [← hkx]; simp, by rw [List.length_take]; omega⟩
  have hset : (A ++ x :: B).set k (x.1, x.2.1, x.2.2.1, a, l, c) = A ++ (x.1, x.2.1, x.2.2.1, a, l, c) :: B := by rw [← hA]; simp
  refine ⟨⟨r, ?_, ?_⟩, ⟨rfl, rfl, rfl, by simp [World.setCell], fun i hi hne => ?_⟩⟩
  · rw [heap_setCell_same w g (k * 4 + 3) _ 45 _ h1, hset]
    congr 2
    rw [← flat_put A B x r a l c, hA]
    simp
  · rw [hset]
    rw [← h2]
    simp [flat_len]
  · exact Below.heap_setCell w _ _ i (fun e => hne (by rw [e]))

/-- What Join answers. -/
def JoinPost (ss : List Sx) (es : List (List Di)) (w : World) (e : Ending) (w' : World) : Prop :=
  ∃ ao cap J rs, e = .returned (.slice ao J.length cap) ∧ IsJoin (tagl ss) J ∧ w'.ownsRow w.heap.size 45 4 (.slice ao J.length cap) J.length (flat rs) ∧ Alike (J.map (·.1)) rs ∧ Sts (fun b => w.heap.size ≤ b) w' ao J.length rs (esAt es J) ∧ (∀ (j : Nat) (x : Sx) (e : List Di), rs[j]? = some x → (esAt es J)[j]? = some e → Its (fun b => w.heap.size ≤ b ∧ ∀ a, ao = some a → b ≠ a.block) w' x.2.2.2.1 x.2.2.2.2.1 e) ∧ (∀ x ∈ rs, x.2.2.2.2.1 ≤ x.2.2.2.2.2 ∧ x.2.2.2.2.2 ≤ 9223372036854775807) ∧ Below w.heap.size w w'
theorem JoinPost.nil {ss : List Sx} {es : List (List Di)} {w w' : World} (h : viewT ss = []) (hb : Below w.heap.size w w') : JoinPost ss es w (.returned (.slice none 0 0)) w' := by
  have hj := keepT_join (ss := ss) (M := []) (by unfold Asc; simp) (by rw [h])
  refine ⟨none, 0, [], [], rfl, hj, ⟨rfl, .inl ⟨rfl, rfl⟩⟩, Alike.refl _, ⟨⟨rfl, by simp, fun _ => rfl, fun h => by simp at h⟩, rfl, fun j x e hx => by simp at hx⟩, (fun j x e hx => by simp at hx), by simp, hb⟩

set_option maxRecDepth 10000 in
set_option maxHeartbeats 4000000 in
theorem join_any (p : Nat → Prop) (w : World) (ao : Option Addr) (n cap : Nat) (ss : List Sx) (es : List (List Di)) (h : Sts p w ao n ss es) (hok : ∀ x ∈ ss, OkS x) (hn : n ≤ 1000) :
    Calls Tryd.prog 79 #[.slice ao n cap] w fun e w' => JoinPost ss es w e w' := by
  have hl := h.1.1
  have hcl := clone_any w ao n cap p ss h.1 hn
  have HS : Hid (Sts p w ao n ss es ∧ ∀ x ∈ ss, OkS x) := ⟨h, hok⟩
  clear h hok
  go_enter Tryd.func79, Tryd.ntmps79
  go_wp2_with fail
  refine hcl.mono ?_
  rintro e w1 ⟨v, rfl, hown, hb1⟩
  clear hcl
  rcases own_shape hown with ⟨rfl, rfl⟩ | ⟨g, cp, rfl, hbg, _⟩
  · have hv : viewT ss = [] := by rw [List.length_eq_zero_iff.1 hl]; rfl
    clear hown
    go_wp2_with fail
    refine (deleteFunc_none _).mono ?_
    rintro e w2 ⟨rfl, hu2⟩
    have hb2 := bl_step hb1 hu2.bl
    clear hu2 hb1
    go_wp2_with fail
    refine (sort_none _).mono ?_
    rintro e w3 ⟨rfl, rfl⟩
    go_wp2_with fail
    refine (compact_none _).mono ?_
    rintro e w3 ⟨rfl, rfl⟩
    go_wp2
    refine wp_loop_rounds 1 ?_
    rw [rounds_succ]
    go_wp2
    go_ret
    exact JoinPost.nil hv hb2
  · have hdl := deleteFunc_some w1 g n cp w.heap.size ss hown
    clear hown
    go_wp2_with fail
    refine hdl.mono ?_
    rintro e w2 ⟨v2, rfl, hown2, hg2⟩
    have hb2 : Below w.heap.size w w2 := bl_grown hb1 hb1.size hg2 (fun k hk => by cases hk; exact hbg)
    clear hdl hg2 hb1 hbg
    have hvl : (viewT ss).length = (out ss).length := by rw [← viewT_map]; simp
    rcases own_shape hown2 with ⟨rfl, h0⟩ | ⟨g2, cp2, rfl, hbg2, _⟩
    · have hv : viewT ss = [] := List.length_eq_zero_iff.1 (by omega)
      clear hown2 hvl h0
      go_wp2_with fail
      refine (sort_none _).mono ?_
      rintro e w3 ⟨rfl, rfl⟩
      go_wp2_with fail
      refine (compact_none _).mono ?_
      rintro e w3 ⟨rfl, rfl⟩
      go_wp2
      refine wp_loop_rounds 1 ?_
      rw [rounds_succ]
      go_wp2
      go_ret
      exact JoinPost.nil hv hb2
    · obtain ⟨hblk, _, hnc2, hcm2⟩ := Blk.ofOwn hown2
      have hblkT : BlkT w2 g2 cp2 (viewT ss) := by unfold BlkT; rw [viewT_map]; exact hblk
      have hol : (out ss).length ≤ 1000 := by
        have := List.length_filter_le (fun x : Sx => !decide (x.1 = 0)) ss
        unfold out
        omega
      have hso := sort_any w2 g2 cp2 (out ss).length (viewT ss) hblkT hvl (by omega) (List.Pairwise.sublist List.filter_sublist (tagl_tags ss)) (fun t ht => HS.out.2 t.1 (List.mem_of_getElem? (tagl_mem (List.mem_filter.1 ht).1)))
      obtain ⟨n2, hn2⟩ : ∃ n2, (out ss).length = n2 := ⟨_, rfl⟩
      simp only [hn2] at *
      clear hown2 hblk hblkT hnc2
      go_wp2_with fail
      refine hso.mono ?_
      rintro e w3 ⟨rfl, M, hpm, hasc, hblk3, hg3⟩
      have hb3 : Below w.heap.size w w3 := bl_grown hb2 hb2.size hg3 (fun k hk => by cases hk; exact hbg2)
      have hML : M.length = n2 := by rw [hpm.length_eq]; exact hvl
      have hcp := compact_some w3 g2 n2 cp2 w.heap.size M hblk3 hML hbg2 hcm2
      have HJ : Hid (IsJoin (tagl ss) (keepT M n2)) := by have := keepT_join hasc hpm; rw [hML] at this; exact this
      clear hso hpm hasc hblk3 hg3 hb2
      go_wp2_with fail
      refine hcp.mono ?_
      rintro e w4 ⟨v4, rfl, hown4, hg4⟩
      have hb4 : Below w.heap.size w w4 := bl_grown hb3 hb3.size hg4 (fun k hk => by cases hk; exact hbg2)
      obtain ⟨J, hJe⟩ : ∃ J, keepT M n2 = J := ⟨_, rfl⟩
      rw [hJe] at HJ hown4
      clear hcp hg4 hb3 hbg2 hML hJe
      rcases own_shape hown4 with ⟨rfl, h0⟩ | ⟨g4, cp4, rfl, hbg4, hgs4⟩
      · have hJ0 : J = [] := List.length_eq_zero_iff.1 h0
        subst hJ0
        clear hown4 h0
        go_wp2
        refine wp_loop_rounds 1 ?_
        rw [rounds_succ]
        go_wp2
        go_ret
        refine ⟨none, 0, [], [], rfl, HJ.out, ⟨rfl, .inl ⟨rfl, rfl⟩⟩, Alike.refl _, ⟨⟨rfl, by simp, fun _ => rfl, fun h => by simp at h⟩, rfl, fun j x e hx => by simp at hx⟩, (fun j x e hx => by simp at hx), by simp, hb4⟩
      · obtain ⟨hblk4, _, hnc4, hcm4⟩ := Blk.ofOwn (ls := J.map (·.1)) hown4
        have HB4 : Hid (Blk w4 g4 cp4 (J.map (·.1))) := hblk4
        have hJl : J.length ≤ 1000 := by
          have := nodup_len (ascV_nodup HJ.out.1) (fun x hx => ((HJ.out.2 x).1 hx).1)
          rw [tagl_len] at this
          omega
        have hwide : cp4 ≤ 9223372036854775807 := by unfold maxLen at hcm4; omega
        clear hown4 hblk4
        go_wp2_with fail
        go_loopw [4, 14] (fun _ kv wr => ∃ (k : Nat) (rs : List Sx), k ≤ J.length ∧ kv = .int .i64 (k : Nat) ∧ Blk wr g4 cp4 rs ∧ Alike (J.map (·.1)) rs ∧ (∀ j, k ≤ j → rs[j]? = (J.map (·.1))[j]?) ∧ (∀ (j : Nat) (x : Sx) (e : List Di), j < k → rs[j]? = some x → (esAt es J)[j]? = some e → Its (fun b => w.heap.size ≤ b ∧ b ≠ g4) wr x.2.2.2.1 x.2.2.2.2.1 e ∧ x.2.2.2.2.1 ≤ x.2.2.2.2.2 ∧ x.2.2.2.2.2 ≤ 9223372036854775807) ∧ Below w.heap.size w wr ∧ g4 < wr.heap.size) (fun _ kv _ => J.length - (intOf kv).toNat)
        case atStart => exact ⟨0, J.map (·.1), by omega, rfl, HB4.out, Alike.refl _, fun _ _ => rfl, fun j x e hj => by omega, hb4, hgs4⟩
        case round =>
          clear HB4 hb4 hgs4
          obtain ⟨k, rs, hk, rfl, hblk, hal, hrs, hits, hbl, hgl⟩ := hrel
          by_cases hlt : k < J.length
          · have hltI : (k : Int) < (J.length : Int) := by omega
            obtain ⟨t, ht⟩ : ∃ t, J[k]? = some t := ⟨J[k]'(by omega), List.getElem?_eq_getElem (by omega)⟩
            have hrk : rs[k]? = some t.1 := by rw [hrs k (Nat.le_refl _), List.getElem?_map, ht]; rfl
            have hts := tagl_mem ((HJ.out.2 t).1 (List.mem_of_getElem? ht)).1
            obtain ⟨e0, he0⟩ : ∃ e0, es[t.2]? = some e0 := ⟨es[t.2]'(by have := (List.getElem?_eq_some_iff.1 hts).1; have := HS.out.1.2.1; omega), List.getElem?_eq_getElem _⟩
            have hek : (esAt es J)[k]? = some e0 := by unfold esAt; rw [List.getElem?_map, ht]; simp [he0]
            have hi0 := (HS.out.1.2.2 t.2 t.1 e0 hts he0).keep (Kp.up hbl)
            have hco := copied2_any p wr t.1.2.2.2.1 t.1.2.2.2.2.1 t.1.2.2.2.2.2 e0 hi0
            obtain ⟨c0, c1, c2, c3⟩ := Blk.cell hblk hrk
            have hfz := fun j => Blk.free hblk j
            have HIN : Hid (Blk wr g4 cp4 rs ∧ Alike (J.map (·.1)) rs ∧ (∀ j, k ≤ j → rs[j]? = (J.map (·.1))[j]?) ∧ (∀ (j : Nat) (x : Sx) (e : List Di), j < k → rs[j]? = some x → (esAt es J)[j]? = some e → Its (fun b => w.heap.size ≤ b ∧ b ≠ g4) wr x.2.2.2.1 x.2.2.2.2.1 e ∧ x.2.2.2.2.1 ≤ x.2.2.2.2.2 ∧ x.2.2.2.2.2 ≤ 9223372036854775807) ∧ rs[k]? = some t.1 ∧ (esAt es J)[k]? = some e0) := ⟨hblk, hal, hrs, hits, hrk, hek⟩
            have hk0 : ¬ ((k : Int) < 0) := by omega
            clear hblk hal hrs hits ht hrk hts he0 hek hi0
            go_wp2_with fail
            refine hco.mono ?_
            rintro e w5 ⟨ao5, cap5, rfl, hcc1, hcc2, hit5, hb5⟩
            have c3' : w5.cell? ⟨g4, k * 4 + 3, none⟩ = some (.slice t.1.2.2.2.1 t.1.2.2.2.2.1 t.1.2.2.2.2.2) := (hb5.cell hgl).trans c3
            have hf5 : ∀ i, w5.frozen? ⟨g4, i, none⟩ = false := fun i => (hb5.frozen hgl).trans (hfz i)
            obtain ⟨w6, hw6⟩ : ∃ w6, w5.setCell ⟨g4, k * 4 + 3, none⟩ (.slice ao5 t.1.2.2.2.2.1 cap5) = w6 := ⟨_, rfl⟩
            have HN : Hid (∃ rs' : List Sx, Blk w6 g4 cp4 rs' ∧ Alike (J.map (·.1)) rs' ∧ (∀ j, k + 1 ≤ j → rs'[j]? = (J.map (·.1))[j]?) ∧ (∀ (j : Nat) (x : Sx) (e : List Di), j < k + 1 → rs'[j]? = some x → (esAt es J)[j]? = some e → Its (fun b => w.heap.size ≤ b ∧ b ≠ g4) w6 x.2.2.2.1 x.2.2.2.2.1 e ∧ x.2.2.2.2.1 ≤ x.2.2.2.2.2 ∧ x.2.2.2.2.2 ≤ 9223372036854775807) ∧ Below w.heap.size w w6 ∧ g4 < w6.heap.size) := by
              obtain ⟨i1, i2, i3, i4, i5, i6⟩ := HIN.out
              rw [← hw6]
              have hkl := (List.getElem?_eq_some_iff.1 i5).1
              have hbw : Below w.heap.size w w5 := bl_step hbl hb5
              have kp1 : Kp (fun b => w.heap.size ≤ b ∧ b ≠ g4) w5 (w5.setCell ⟨g4, k * 4 + 3, none⟩ (.slice ao5 t.1.2.2.2.2.1 cap5)) := Kp.setCell (fun b hb => hb.2)
              refine ⟨rs.set k (t.1.1, t.1.2.1, t.1.2.2.1, ao5, t.1.2.2.2.2.1, cap5), ((i1.up hb5).put3 i5 ao5 _ cap5).1, ⟨by rw [List.length_set]; exact i2.1, fun j x y hx hy => ?_⟩, fun j hj => by rw [List.getElem?_set_ne (by omega)]; exact i3 j (by omega), fun j x e hj hx he => ?_, hbw.setCell (by omega) _, ?_⟩
              · by_cases e : j = k
                · subst e
                  rw [List.getElem?_set_self hkl] at hy
                  cases hy
                  rw [← i3 j (Nat.le_refl _), i5] at hx
                  cases hx
                  exact ⟨rfl, rfl, rfl⟩
                · rw [List.getElem?_set_ne (by omega)] at hy
                  exact i2.2 j x y hx hy
              · by_cases e' : j = k
                · subst e'
                  rw [List.getElem?_set_self hkl] at hx
                  cases hx
                  rw [i6] at he
                  cases he
                  refine ⟨(hit5.imp (fun b _ hb => ?_)).keep kp1, hcc1, hcc2⟩
                  have := hbl.size
                  exact ⟨by omega, by omega⟩
                · rw [List.getElem?_set_ne (by omega)] at hx
                  obtain ⟨q1, q2⟩ := i4 j x e (by omega) hx he
                  exact ⟨(q1.keep (Kp.up hb5)).keep kp1, q2⟩
              · have := hb5.size
                simp [World.setCell]; omega
            clear hco hit5 hb5 HIN hbl c0 c1 c2 c3
            go_wp2_with fail
            (try simp only [hw6])
            clear hw6
            go_roundw
            case rel =>
              obtain ⟨rs', n1, n2, n3, n4, n5, n6⟩ := HN.out
              first | exact ⟨k + 1, rs', by omega, by go_num, n1, n2, n3, n4, n5, n6⟩ | ((repeat apply Exists.intro); exact ⟨⟨k + 1, rs', by omega, by go_num, n1, n2, n3, n4, n5, n6⟩, rfl⟩)
            case measure => simp [intOf]; omega
          · have hkJ : k = J.length := by omega
            have hltI : ¬ ((k : Int) < (J.length : Int)) := by omega
            have hrl : rs.length = J.length := by rw [← hal.1]; simp
            have HE : Hid (wr.ownsRow w.heap.size 45 4 (.slice (some ⟨g4, 0, none⟩) J.length cp4) J.length (flat rs) ∧ Alike (J.map (·.1)) rs ∧ Sts (fun b => w.heap.size ≤ b) wr (some ⟨g4, 0, none⟩) J.length rs (esAt es J) ∧ (∀ (j : Nat) (x : Sx) (e : List Di), rs[j]? = some x → (esAt es J)[j]? = some e → Its (fun b => w.heap.size ≤ b ∧ ∀ a, (some ⟨g4, 0, none⟩ : Option Addr) = some a → b ≠ a.block) wr x.2.2.2.1 x.2.2.2.2.1 e) ∧ (∀ x ∈ rs, x.2.2.2.2.1 ≤ x.2.2.2.2.2 ∧ x.2.2.2.2.2 ≤ 9223372036854775807) ∧ Below w.heap.size w wr) := by
              have how := Blk.own hblk hbg4 hcm4 J.length (by omega)
              rw [List.take_of_length_le (by omega)] at how
              obtain ⟨ao', c', e', hsr, _⟩ := SR.own how
              simp only [Value.slice.injEq] at e'
              obtain ⟨rfl, _, rfl⟩ := e'
              have hel : (esAt es J).length = J.length := by simp [esAt]
              refine ⟨how, hal, ⟨hsr.imp (fun b _ hb => hb.2), hel, fun j x e hx he => ((hits j x e (by have := (List.getElem?_eq_some_iff.1 hx).1; omega) hx he).1).imp (fun b _ hb => hb.1)⟩, (fun j x e hx he => ((hits j x e (by have := (List.getElem?_eq_some_iff.1 hx).1; omega) hx he).1).imp (fun b _ hb => ⟨hb.1, fun a ha => by cases ha; exact hb.2⟩)), fun x hx => ?_, hbl⟩
              obtain ⟨j, hj⟩ := List.mem_iff_getElem?.1 hx
              have hjl := (List.getElem?_eq_some_iff.1 hj).1
              exact (hits j x _ (by omega) hj (List.getElem?_eq_getElem (by omega))).2
            clear hblk hal hrs hits hbl
            go_wp2
            go_ret
            exact ⟨some ⟨g4, 0, none⟩, cp4, J, rs, rfl, HJ.out, HE.out⟩
end Go.Proofs.YtlonbbepoamnmaaDoor
namespace Go.Proofs.YtlonbbepoamnmaaDoor
open Go.RowKit Go.Sort
set_option linter.unusedVariables false

theorem least {L : List Tg} : L ≠ [] → (∀ a ∈ L, ∀ b ∈ L, a.2 = b.2 → a = b) → ∃ t ∈ L, ∀ u ∈ L, ¬ ltT u t := by
  induction L with
  | nil => intro h; exact absurd rfl h
  | cons a r ih =>
    intro _ hd
    by_cases hr : r = []
    · subst hr
      exact ⟨a, by simp, fun u hu => by simp at hu; subst hu; exact ltT_irr _⟩
    · obtain ⟨t, ht, hmin⟩ := ih hr (fun x hx y hy => hd x (by simp [hx]) y (by simp [hy]))
      by_cases hl : ltT a t
      · refine ⟨a, by simp, fun u hu hlu => ?_⟩
        rw [List.mem_cons] at hu
        rcases hu with rfl | hu
        · exact ltT_irr _ hlu
        · exact hmin u hu (ltT_trans hlu hl)
      · refine ⟨t, by simp [ht], fun u hu => ?_⟩
        rw [List.mem_cons] at hu
        rcases hu with rfl | hu
        · exact hl
        · exact hmin u hu
theorem tagl_inj {ss : List Sx} : ∀ a ∈ tagl ss, ∀ b ∈ tagl ss, a.2 = b.2 → a = b := fun a ha b hb h => by
  have h1 := tagl_mem ha
  have h2 := tagl_mem hb
  rw [h, h2] at h1
  have : b.1 = a.1 := by simpa using h1
  exact Prod.ext this.symm h
/-- Each view of which somebody told has a best one. -/
theorem best_of {ss : List Sx} {x : Tg} (hx : x ∈ tagl ss) (h0 : x.1.1 ≠ 0) : ∃ t ∈ tagl ss, sameV t x ∧ Best (tagl ss) t := by
  obtain ⟨t, ht, hmin⟩ := least (L := (tagl ss).filter (fun t => decide (sameV t x))) (fun e => by
    have : x ∈ (tagl ss).filter (fun t => decide (sameV t x)) := List.mem_filter.2 ⟨hx, by simp [sameV]⟩
    rw [e] at this
    simp at this) (fun a ha b hb => tagl_inj a (List.mem_filter.1 ha).1 b (List.mem_filter.1 hb).1)
  obtain ⟨h1, h2⟩ := List.mem_filter.1 ht
  have hs : sameV t x := by simpa using h2
  refine ⟨t, h1, hs, by rw [hs.1]; exact h0, fun u hu hsu => hmin u (List.mem_filter.2 ⟨hu, ?_⟩)⟩
  have : sameV u x := ⟨hsu.1.trans hs.1, hsu.2.trans hs.2⟩
  simpa using this

/-- Two lists of states of which each has its like's numbers, and as many items. -/
def Twin (xs ys : List Sx) : Prop := xs.length = ys.length ∧ ∀ (j : Nat) (x y : Sx), xs[j]? = some x → ys[j]? = some y → y.1 = x.1 ∧ y.2.1 = x.2.1 ∧ y.2.2.1 = x.2.2.1 ∧ y.2.2.2.2.1 = x.2.2.2.2.1
theorem twin_of {p q : Nat → Prop} {w w' : World} {ao bo : Option Addr} {n m : Nat} {xs ys : List Sx} {es : List (List Di)} (h : Alike xs ys) (h1 : Sts p w ao n xs es) (h2 : Sts q w' bo m ys es) : Twin xs ys := by
  refine ⟨h.1, fun j x y hx hy => ?_⟩
  obtain ⟨a, b, c⟩ := h.2 j x y hx hy
  have hl := (List.getElem?_eq_some_iff.1 hx).1
  have hes : es[j]? = some (es[j]'(by have := h1.2.1; have := h1.1.1; omega)) := List.getElem?_eq_getElem _
  have e1 := (h1.2.2 j x _ hx hes).len
  have e2 := (h2.2.2 j y _ hy hes).len
  exact ⟨a, b, c, by rw [← e1, ← e2]⟩
theorem Twin.get {xs ys : List Sx} (h : Twin xs ys) {j : Nat} {y : Sx} (hy : ys[j]? = some y) : ∃ x, xs[j]? = some x ∧ y.1 = x.1 ∧ y.2.1 = x.2.1 ∧ endS y = endS x := by
  have hl := (List.getElem?_eq_some_iff.1 hy).1
  have hx : xs[j]? = some (xs[j]'(by have := h.1; omega)) := List.getElem?_eq_getElem _
  obtain ⟨a, b, c, d⟩ := h.2 j _ y hx hy
  exact ⟨_, hx, a, b, by unfold endS; rw [c, d]⟩
theorem Twin.get' {xs ys : List Sx} (h : Twin xs ys) {j : Nat} {x : Sx} (hx : xs[j]? = some x) : ∃ y, ys[j]? = some y ∧ y.1 = x.1 ∧ y.2.1 = x.2.1 ∧ endS y = endS x := by
  have hl := (List.getElem?_eq_some_iff.1 hx).1
  have hy : ys[j]? = some (ys[j]'(by have := h.1; omega)) := List.getElem?_eq_getElem _
  obtain ⟨a, b, c, d⟩ := h.2 j x _ hx hy
  exact ⟨_, hy, a, b, by unfold endS; rw [c, d]⟩

theorem join_pair {J : List Tg} {rs : List Sx} (hJ : J.Pairwise ltV) (hT : Twin (J.map (·.1)) rs) : (tagl rs).Pairwise ltV := by
  rw [List.pairwise_iff_getElem]
  intro i j hi hj hij
  rw [tagl_len] at hi hj
  have e1 := tagl_get (List.getElem?_eq_getElem hi)
  have e2 := tagl_get (List.getElem?_eq_getElem hj)
  rw [(List.getElem?_eq_some_iff.1 e1).2, (List.getElem?_eq_some_iff.1 e2).2]
  obtain ⟨x, hx, a1, a2, _⟩ := hT.get (List.getElem?_eq_getElem hi)
  obtain ⟨y, hy, b1, b2, _⟩ := hT.get (List.getElem?_eq_getElem hj)
  rw [List.getElem?_map] at hx hy
  obtain ⟨t, ht, rfl⟩ := Option.map_eq_some_iff.1 hx
  obtain ⟨u, hu, rfl⟩ := Option.map_eq_some_iff.1 hy
  obtain ⟨k1, rfl⟩ := List.getElem?_eq_some_iff.1 ht
  obtain ⟨k2, rfl⟩ := List.getElem?_eq_some_iff.1 hu
  have := List.pairwise_iff_getElem.1 hJ i j k1 k2 hij
  unfold ltV at this ⊢
  simp only [a1, a2, b1, b2]
  exact this
/-- Joined states, joined with others that were joined: they stay. -/
theorem again {ss xs : List Sx} {J : List Tg} {rs : List Sx} (hJ : IsJoin (tagl ss) J) (hT : Twin (J.map (·.1)) rs) (hxs : ∀ x ∈ xs, x ∈ ss) : IsJoin (tagl (rs ++ xs)) (tagl rs) := by
  have hpw := join_pair hJ.1 hT
  have hsub : ∀ t : Tg, t ∈ tagl (rs ++ xs) ↔ t ∈ tagl rs ∨ (rs.length ≤ t.2 ∧ (rs ++ xs)[t.2]? = some t.1) := fun t => by
    constructor
    · intro ht
      have hm := tagl_mem ht
      by_cases hl : t.2 < rs.length
      · rw [List.getElem?_append_left hl] at hm
        exact .inl (List.mem_of_getElem? (tagl_get hm))
      · exact .inr ⟨by omega, hm⟩
    · rintro (ht | ⟨_, hm⟩)
      · have hm := tagl_mem ht
        have hl := (List.getElem?_eq_some_iff.1 hm).1
        exact List.mem_of_getElem? (tagl_get (show (rs ++ xs)[t.2]? = some t.1 by rw [List.getElem?_append_left hl]; exact hm))
      · exact List.mem_of_getElem? (tagl_get hm)
  have hin : ∀ t : Tg, rs.length ≤ t.2 → (rs ++ xs)[t.2]? = some t.1 → ∃ k, (t.1, k) ∈ tagl ss := fun t h1 h2 => by
    rw [List.getElem?_append_right h1] at h2
    obtain ⟨k, hk⟩ := List.mem_iff_getElem?.1 (hxs t.1 (List.mem_of_getElem? h2))
    exact ⟨k, List.mem_of_getElem? (tagl_get hk)⟩
  have hbase : ∀ t : Tg, t ∈ tagl rs → ∃ u, u ∈ J ∧ t.1.1 = u.1.1 ∧ t.1.2.1 = u.1.2.1 ∧ endS t.1 = endS u.1 := fun t ht => by
    obtain ⟨x, hx, a, b, c⟩ := hT.get (tagl_mem ht)
    rw [List.getElem?_map] at hx
    obtain ⟨u, hu, rfl⟩ := Option.map_eq_some_iff.1 hx
    exact ⟨u, List.mem_of_getElem? hu, a, b, c⟩
  have hone : ∀ t ∈ tagl rs, ∀ u ∈ tagl rs, sameV u t → u = t := fun t ht u hu hs => by
    obtain ⟨i, hi⟩ := List.mem_iff_getElem?.1 ht
    obtain ⟨j, hj⟩ := List.mem_iff_getElem?.1 hu
    obtain ⟨k1, rfl⟩ := List.getElem?_eq_some_iff.1 hi
    obtain ⟨k2, rfl⟩ := List.getElem?_eq_some_iff.1 hj
    have hp := List.pairwise_iff_getElem.1 hpw
    by_cases h1 : i < j
    · exact absurd ⟨hs.1.symm, hs.2.symm⟩ (ltV_ne (hp i j k1 k2 h1))
    · by_cases h2 : j < i
      · exact absurd hs (ltV_ne (hp j i k2 k1 h2))
      · have : i = j := by omega
        subst this; rfl
  refine ⟨hpw, fun t => ?_⟩
  constructor
  · intro ht
    obtain ⟨u, hu, a, b, c⟩ := hbase t ht
    obtain ⟨hu1, hu2⟩ := (hJ.2 u).1 hu
    refine ⟨(hsub t).2 (.inl ht), by rw [a]; exact hu2.1, fun v hv hs hl => ?_⟩
    rcases (hsub v).1 hv with hv | ⟨h1, h2⟩
    · rw [hone t ht v hv hs] at hl
      exact ltT_irr _ hl
    · obtain ⟨k, hk⟩ := hin v h1 h2
      have hnb := hu2.2 (v.1, k) hk ⟨by show v.1.1 = u.1.1; rw [← a]; exact hs.1, by show v.1.2.1 = u.1.2.1; rw [← b]; exact hs.2⟩
      have htl := (List.getElem?_eq_some_iff.1 (tagl_mem ht)).1
      unfold ltT ltK sameV at *
      simp only at *
      omega
  · rintro ⟨ht, hb⟩
    rcases (hsub t).1 ht with ht | ⟨h1, h2⟩
    · exact ht
    · exfalso
      obtain ⟨k, hk⟩ := hin t h1 h2
      obtain ⟨u, hu, hs, hbu⟩ := best_of hk hb.1
      have huJ := (hJ.2 u).2 ⟨hu, hbu⟩
      obtain ⟨i, hi⟩ := List.mem_iff_getElem?.1 huJ
      obtain ⟨y, hy, a, b, c⟩ := hT.get' (j := i) (x := u.1) (by rw [List.getElem?_map, hi]; rfl)
      have hyl := (List.getElem?_eq_some_iff.1 hy).1
      have hyin : ((y, i) : Tg) ∈ tagl (rs ++ xs) := (hsub _).2 (.inl (List.mem_of_getElem? (tagl_get hy)))
      have hn1 := hbu.2 (t.1, k) hk ⟨hs.1.symm, hs.2.symm⟩
      have hn2 := hb.2 (y, i) hyin ⟨by show y.1 = t.1.1; rw [a]; exact hs.1, by show y.2.1 = t.1.2.1; rw [b]; exact hs.2⟩
      unfold ltT ltK sameV at *
      simp only at *
      omega
/-- What their items say. -/
theorem esAt_again {es2 : List (List Di)} {es1 : List (List Di)} {rs : List Sx} (h : es1.length = rs.length) : esAt (es1 ++ es2) (tagl rs) = es1 := by
  apply List.ext_getElem?
  intro j
  unfold esAt
  rw [List.getElem?_map]
  by_cases hj : j < rs.length
  · rw [tagl_get (List.getElem?_eq_getElem hj)]
    simp [List.getElem?_append_left (show j < es1.length by omega), List.getElem?_eq_getElem (show j < es1.length by omega)]
  · rw [List.getElem?_eq_none (by rw [tagl_len]; omega), List.getElem?_eq_none (by omega)]
    rfl
theorem Alike.symm {xs ys : List Sx} (h : Alike xs ys) : Alike ys xs := ⟨h.1.symm, fun j x y hx hy => by obtain ⟨a, b, c⟩ := h.2 j y x hy hx; exact ⟨a.symm, b.symm, c.symm⟩⟩
def AgainPost (rs : List Sx) (es : List (List Di)) (w : World) (e : Ending) (w' : World) : Prop := ∃ ao' cap' rs', e = .returned (.slice ao' rs.length cap') ∧ Alike rs' rs ∧ Sts (fun _ => True) w' ao' rs.length rs' es ∧ Below w.heap.size w w'
theorem join_again (p : Nat → Prop) (w : World) (mo : Option Addr) (ml mcap : Nat) (ss xs : List Sx) (J : List Tg) (rs : List Sx) (es1 es2 : List (List Di)) (hJ : IsJoin (tagl ss) J) (hT : Twin (J.map (·.1)) rs) (hxs : ∀ x ∈ xs, x ∈ ss)
    (h : Sts p w mo ml (rs ++ xs) (es1 ++ es2)) (he : es1.length = rs.length) (hok : ∀ x ∈ rs ++ xs, OkS x) (hn : ml ≤ 1000) : Calls Tryd.prog 79 #[.slice mo ml mcap] w fun e w' => AgainPost rs es1 w e w' := by
  refine (join_any p w mo ml mcap (rs ++ xs) (es1 ++ es2) h hok hn).mono ?_
  rintro e w' ⟨ao', cap', J', rs', rfl, hJ', hown, hal, hsts, _, _, hb⟩
  obtain rfl := hJ'.unique (again hJ hT hxs)
  rw [tagl_map] at hal
  rw [esAt_again he] at hsts
  rw [tagl_len] at hsts ⊢
  exact ⟨ao', cap', rs', rfl, hal.symm, hsts.imp (fun _ _ _ => trivial), hb⟩
theorem twin_ok {xs ys : List Sx} (h : Twin xs ys) (hok : ∀ x ∈ xs, OkS x) : ∀ y ∈ ys, OkS y := fun y hy => by
  obtain ⟨j, hj⟩ := List.mem_iff_getElem?.1 hy
  have hl := (List.getElem?_eq_some_iff.1 hj).1
  have hx : xs[j]? = some (xs[j]'(by have := h.1; omega)) := List.getElem?_eq_getElem _
  obtain ⟨_, _, c, d⟩ := h.2 j _ y hx hj
  have := hok _ (List.mem_of_getElem? hx)
  exact trivial
theorem Sts.app {p : Nat → Prop} {w : World} {ao bo : Option Addr} {n m k : Nat} {xs ys : List Sx} {es fs : List (List Di)} {q : Nat → Prop} (h1 : Sts p w ao n xs es) (h2 : ∀ (j : Nat) (x : Sx) (e : List Di), ys[j]? = some x → fs[j]? = some e → Its p w x.2.2.2.1 x.2.2.2.2.1 e) (hl : fs.length = ys.length) (hs : SR q w bo k (xs ++ ys)) : Sts (fun b => p b ∨ q b) w bo k (xs ++ ys) (es ++ fs) := by
  have e1 := h1.1.1
  have e2 := h1.2.1
  have e3 := hs.1
  refine ⟨hs.imp (fun _ _ h => .inr h), by simp at e3 ⊢; omega, fun j x e hx he => ?_⟩
  by_cases hj : j < xs.length
  · rw [List.getElem?_append_left hj] at hx
    rw [List.getElem?_append_left (by omega)] at he
    exact (h1.2.2 j x e hx he).imp (fun _ _ h => .inl h)
  · rw [List.getElem?_append_right (by omega)] at hx
    rw [List.getElem?_append_right (by omega), show j - es.length = j - xs.length by omega] at he
    exact (h2 _ x e hx he).imp (fun _ _ h => .inl h)
end Go.Proofs.YtlonbbepoamnmaaDoor
