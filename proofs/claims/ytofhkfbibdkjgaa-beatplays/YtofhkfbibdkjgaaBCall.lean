/-
  The calls Heard, Est and Tick.
-/
import Derived.Test.YtofhkfbibdkjgaaBRep
namespace Go.Proofs.Ytofhkfbibdkjgaa
open Go.RowKit
set_option linter.unusedVariables false

theorem heard_nil (w : World) (i : Int) : Calls Try.prog 15 #[.pointer none, .int .i64 i] w fun e w' => e = .returned (.int .i64 6) ∧ w = w' := by
  go_enter Try.func15, Try.ntmps15
  go_wp2
  go_ret
  exact ⟨rfl, rfl⟩
theorem est_nil (w : World) : Calls Try.prog 11 #[.pointer none] w fun e w' => e = .returned (.int .u16 0) ∧ w = w' := by
  go_enter Try.func11, Try.ntmps11
  go_wp2
  go_ret
  exact ⟨rfl, rfl⟩
theorem tick0_nil (w : World) : Calls Try.prog 14 #[.pointer none] w fun e w' => e = .returned (.bool false) ∧ w = w' := by
  go_enter Try.func14, Try.ntmps14
  go_wp2
  go_ret
  exact ⟨rfl, rfl⟩

theorem heard_err {w : World} {F : Nat → Prop} {q s N B M K r : Nat} {left : Nat → Nat} (h : Bt w F q s N B M K r left) (i : Int) (hi : i < 0 ∨ (N : Int) ≤ i ∨ i = (s : Int)) :
    Calls Try.prog 15 #[.pointer (some ⟨q, 0, none⟩), .int .i64 i] w fun e w' => e = .returned (.int .i64 1) ∧ w = w' := by
  obtain ⟨p, m, V, now, arms, A, h⟩ := h
  have c0 := h.c0
  have c1 := h.c1
  have hsN := h.sN
  clear h
  by_cases h0 : i < 0
  · clear hi
    go_enter Try.func15, Try.ntmps15
    go_wp2
    go_ret
    exact ⟨rfl, rfl⟩
  · by_cases h1 : (N : Int) ≤ i
    · clear hi
      go_enter Try.func15, Try.ntmps15
      go_wp2
      go_ret
      exact ⟨rfl, rfl⟩
    · obtain rfl : i = (s : Int) := by omega
      clear hi
      go_enter Try.func15, Try.ntmps15
      go_wp2
      go_ret
      exact ⟨rfl, rfl⟩

set_option maxRecDepth 20000 in
set_option maxHeartbeats 1000000 in
theorem heard_any {w : World} {F : Nat → Prop} {q s N B M K r : Nat} {left : Nat → Nat} (h : Bt w F q s N B M K r left) (hK : K < 1000000) (i : Nat) (hi : i < N) (his : i ≠ s) :
    Calls Try.prog 15 #[.pointer (some ⟨q, 0, none⟩), .int .i64 (i : Nat)] w fun e w' => e = .returned (.int .i64 0) ∧ ∃ F', Bt w' F' q s N B M (K + 1) r (put left i M) ∧ Go2 F w F' w' := by
  obtain ⟨p, m, V, now, arms, A, h⟩ := h
  have c0 := h.c0
  have c1 := h.c1
  have hS : w.drew.cell? ⟨q, 3, none⟩ = some (.int .u64 (M : Nat)) ∧ w.drew.cell? ⟨q, 4, none⟩ = some (.pointer (some ⟨p, 0, none⟩)) := ⟨h.c3, h.c4⟩
  have h' : Bs w.drew F q p m V now arms A s N B M K r left := h.still ((Turned.refl _ w).drewN 1)
  have hn16 := h.n16
  have harm := arm_any w.drew p m V now arms A h'.wh (by have := h.ak; omega) (i : Int) (in_nat (by omega)) M (by have := h.m1; omega) (by have := h.nk; have := h.m2; omega)
  have HE : Hid (∀ w' V', Wh w' p m V' now (arms + 1) (A.filter (fun x => decide (x.1 ≠ (i : Int))) ++ [((i : Int), now + M)]) ∧ Goes p m V w.drew V' w' →
      (w'.cell? ⟨q, 3, none⟩ = some (.int .u64 (M : Nat)) ∧ w'.cell? ⟨q, 4, none⟩ = some (.pointer (some ⟨p, 0, none⟩))) ∧ ∃ F', Bt w' F' q s N B M (K + 1) r (put left i M) ∧ Go2 F w F' w') := by
    rintro w' V' ⟨hw, hg⟩
    have hql : q < w.drew.heap.size := h'.lt q ((h'.foot q).2 (.inl rfl))
    have hb : w'.heap[q]? = w.drew.heap[q]? := hg.turned.block q hql h'.nq
    refine ⟨⟨by rw [cell_block hb]; exact h'.c3, by rw [cell_block hb]; exact h'.c4⟩, fun b => b = q ∨ Foot p m V' b, ⟨p, m, V', now, arms + 1, A.filter (fun x => decide (x.1 ≠ (i : Int))) ++ [((i : Int), now + M)], ?_⟩, ?_⟩
    · exact { h' with
        c0 := by rw [cell_block hb]; exact h'.c0
        c1 := by rw [cell_block hb]; exact h'.c1
        c2 := by rw [cell_block hb]; exact h'.c2
        c3 := by rw [cell_block hb]; exact h'.c3
        c4 := by rw [cell_block hb]; exact h'.c4
        wh := hw
        nq := fun hf => (hg.foot q hf).elim h'.nq (fun hle => by omega)
        foot := fun b => Iff.rfl
        nk := Nat.le_succ_of_le h'.nk
        ak := Nat.succ_le_succ h'.ak
        tim := heard_tim h'.tim hi his h'.m1 }
    · refine ⟨((Turned.refl _ w).drewN 1).trans hg.turned (fun b hb => .inl ((h.foot b).2 (.inr hb))), ?_⟩
      rintro b (rfl | hb)
      · exact .inl ((h.foot b).2 (.inl rfl))
      · exact (hg.foot b hb).elim (fun h1 => .inl ((h.foot b).2 (.inr h1))) .inr
  have g0 : ¬ ((i : Int) < 0) := by omega
  have g1 : ¬ ((N : Int) ≤ (i : Int)) := by omega
  have g2 : ¬ ((i : Int) = (s : Int)) := by omega
  clear h h'
  go_enter Try.func15, Try.ntmps15
  go_wp2_with fail
  refine wp_region_noPanic ?_
  refine wp_region_held_drew (S := fun wx => wx.cell? ⟨q, 3, none⟩ = some (.int .u64 (M : Nat)) ∧ wx.cell? ⟨q, 4, none⟩ = some (.pointer (some ⟨p, 0, none⟩))) (by kernel_rfl) hS (fun hHeld => ?_)
  refine take_first 0 (v := ?_) rfl (by kernel_rfl) (by kernel_rfl) (by kernel_rfl) (fun _ _ _ h => h) (Or.inl ⟨by rfl, by intro wx hSw; (try dsimp only at hSw); obtain ⟨k3, k4⟩ := hSw; go_simp; try with_reducible rfl⟩) (by assumption) ?_
  (try simp only [Act.put, List.setIfInBounds_toArray, List.set_cons_zero, List.set_cons_succ])
  refine take_first 1 (v := ?_) rfl (by kernel_rfl) (by kernel_rfl) (by kernel_rfl) (fun _ _ _ h => h) (Or.inl ⟨by rfl, by intro wx hSw; (try dsimp only at hSw); obtain ⟨k3, k4⟩ := hSw; go_simp; try with_reducible rfl⟩) (by assumption) ?_
  (try simp only [Act.put, List.setIfInBounds_toArray, List.set_cons_zero, List.set_cons_succ])
  refine take_first 2 (v := ?_) rfl (by kernel_rfl) (by kernel_rfl) (by kernel_rfl) (fun _ _ _ h => h) (Or.inl ⟨by rfl, by intro wx hSw; (try dsimp only at hSw); obtain ⟨k3, k4⟩ := hSw; go_simp; try with_reducible rfl⟩) (by assumption) ?_
  (try simp only [Act.put, List.setIfInBounds_toArray, List.set_cons_zero, List.set_cons_succ])
  refine take_first 3 (v := ?_) rfl (by kernel_rfl) (by kernel_rfl) (by kernel_rfl) (fun _ _ _ h => h) (Or.inl ⟨by rfl, by intro wx hSw; (try dsimp only at hSw); obtain ⟨k3, k4⟩ := hSw; go_simp; try with_reducible rfl⟩) (by assumption) ?_
  (try simp only [Act.put, List.setIfInBounds_toArray, List.set_cons_zero, List.set_cons_succ])
  refine take_first 4 (v := ?_) rfl (by kernel_rfl) (by kernel_rfl) (by kernel_rfl) (fun _ _ _ h => h) (Or.inl ⟨by rfl, by intro wx hSw; (try dsimp only at hSw); obtain ⟨k3, k4⟩ := hSw; go_simp; try with_reducible rfl⟩) (by assumption) ?_
  (try simp only [Act.put, List.setIfInBounds_toArray, List.set_cons_zero, List.set_cons_succ])
  refine take_first 5 (v := ?_) rfl (by kernel_rfl) (by kernel_rfl) (by kernel_rfl) (fun _ _ _ h => h) (Or.inl ⟨by rfl, by intro wx hSw; (try dsimp only at hSw); obtain ⟨k3, k4⟩ := hSw; go_simp; try with_reducible rfl⟩) (by assumption) ?_
  (try simp only [Act.put, List.setIfInBounds_toArray, List.set_cons_zero, List.set_cons_succ])
  refine take_first 6 (v := ?_) rfl (by kernel_rfl) (by kernel_rfl) (by kernel_rfl) (fun _ _ _ h => h) (Or.inl ⟨by rfl, by intro wx hSw; (try dsimp only at hSw); obtain ⟨k3, k4⟩ := hSw; go_simp; try with_reducible rfl⟩) (by assumption) ?_
  (try simp only [Act.put, List.setIfInBounds_toArray, List.set_cons_zero, List.set_cons_succ])
  refine take_first 7 (v := ?_) rfl (by kernel_rfl) (by kernel_rfl) (by kernel_rfl) (fun _ _ _ h => h) (Or.inl ⟨by rfl, by intro wx hSw; (try dsimp only at hSw); obtain ⟨k3, k4⟩ := hSw; go_simp; try with_reducible rfl⟩) (by assumption) ?_
  (try simp only [Act.put, List.setIfInBounds_toArray, List.set_cons_zero, List.set_cons_succ])
  refine take_first 8 (v := ?_) rfl (by kernel_rfl) (by kernel_rfl) (by kernel_rfl) (fun _ _ _ h => h) (Or.inl ⟨by rfl, by intro wx hSw; (try dsimp only at hSw); obtain ⟨k3, k4⟩ := hSw; go_simp; try with_reducible rfl⟩) (by assumption) ?_
  (try simp only [Act.put, List.setIfInBounds_toArray, List.set_cons_zero, List.set_cons_succ])
  refine comes_up 9 rfl (by kernel_rfl) (fun K hK => ?_)
  go_simp
  refine harm.mono ?_
  rintro e w1 ⟨rfl, V', hh⟩
  obtain ⟨hS1, HF⟩ := HE.out _ _ hh
  clear hh
  go_wp2_with fail
  refine hK.out _ _ hS1 (fun hHeld => ?_)
  clear hK K
  (try simp only [Act.put, List.setIfInBounds_toArray, List.set_cons_zero, List.set_cons_succ])
  refine take_first 10 (v := ?_) rfl (by kernel_rfl) (by kernel_rfl) (by kernel_rfl) (fun _ _ _ h => h) (Or.inl ⟨by rfl, by intro wx hSw; (try dsimp only at hSw); obtain ⟨k3, k4⟩ := hSw; go_simp; try with_reducible rfl⟩) (by assumption) ?_
  (try simp only [Act.put, List.setIfInBounds_toArray, List.set_cons_zero, List.set_cons_succ])
  refine wpAnyH_done (by kernel_rfl) ?_ _
  refine NoPanic.normal ?_
  go_wp2
  go_ret
  exact ⟨rfl, HF⟩

set_option maxRecDepth 20000 in
set_option maxHeartbeats 1000000 in
theorem est_any {w : World} {F : Nat → Prop} {q s N B M K r : Nat} {left : Nat → Nat} (h : Bt w F q s N B M K r left) :
    Calls Try.prog 11 #[.pointer (some ⟨q, 0, none⟩)] w fun e w' => e = .returned (.int .u16 (estN s left N : Nat)) ∧ Turned (fun _ => False) w w' := by
  obtain ⟨p, m, V, now, arms, A, h⟩ := h
  have c0 := h.c0
  have hn16 := h.n16
  have HB : Hid (Bs w F q p m V now arms A s N B M K r left) := h
  clear h
  go_enter Try.func11, Try.ntmps11
  go_wp2_with fail
  clear c0
  go_loopw [3, 13] (fun ev iv wr => ∃ k : Nat, k ≤ N ∧ iv = .int .i64 k ∧ ev = .int .u16 (estN s left k : Nat) ∧ Turned (fun _ => False) w wr) (fun _ iv _ => N - (intOf iv).toNat)
  case atStart => exact ⟨0, by omega, rfl, rfl, Turned.refl _ _⟩
  case round =>
    obtain ⟨k, hk, rfl, rfl, ht⟩ := hrel
    have HT : Hid (Turned (fun _ => False) w wr) := ht
    have hb := HB.out.still ht
    have c4 := hb.c4
    clear ht
    by_cases hkN : k = N
    · subst hkN
      clear hb c4
      go_wp2_with fail
      go_ret
      exact ⟨rfl, HT.out⟩
    · have hlt : (k : Int) < N := by omega
      have hd := due_any wr p m V now arms A hb.wh (k : Int) (in_nat (by omega))
      have hel := estN_lt s left k
      by_cases hy : k = s ∨ 0 < left k
      · obtain ⟨d, hl⟩ := look_yes hb.tim (by omega) hy
        rw [hl] at hd
        simp only [Option.getD, errOf] at hd
        have HS : Hid (estN s left (k + 1) = withN (estN s left k) (k : Int)) := by unfold Hid; rw [estN, if_pos hy]
        have hw := fun w => with_any w (estN s left k) hel (k : Int)
        generalize estN s left k = ek at *
        clear hb hl hy
        go_wp2_with fail
        refine hd.mono ?_
        rintro e w1 ⟨rfl, o, rfl⟩
        go_wp2_with fail
        refine (hw _).mono ?_
        rintro e w2 ⟨rfl, rfl⟩
        go_wp2_with fail
        go_roundw
        case rel => exact ⟨k + 1, by omega, by go_num, by rw [HS.out], HT.out.alloc o⟩
        case measure => simp [intOf]; omega
      · have hl := look_no hb.tim hy
        rw [hl] at hd
        simp only [Option.getD, errOf] at hd
        have HS : Hid (estN s left (k + 1) = estN s left k) := by unfold Hid; rw [estN, if_neg hy]
        generalize estN s left k = ek at *
        clear hb hl hy
        go_wp2_with fail
        refine hd.mono ?_
        rintro e w1 ⟨rfl, o, rfl⟩
        go_wp2_with fail
        go_roundw
        case rel => exact ⟨k + 1, by omega, by go_num, by rw [HS.out], HT.out.alloc o⟩
        case measure => simp [intOf]; omega

end Go.Proofs.Ytofhkfbibdkjgaa
