/-
  The call Tick.
-/
import Derived.Test.YtofhkfbibdkjgaaBCall
namespace Go.Proofs.Ytofhkfbibdkjgaa
open Go.RowKit
set_option linter.unusedVariables false

theorem row_cell {w : World} {base : Nat} {ao : Option Addr} {n cap : Nat} {xs : List Int} (h : w.ownsRow base 3 1 (.slice ao n cap) xs.length (xs.map (Value.int .i64))) (hp : 0 < xs.length) : ∃ g, ao = some ⟨g, 0, none⟩ ∧ ∀ j x, xs[j]? = some x → w.cell? ⟨g, j, none⟩ = some (.int .i64 x) := by
  rcases h.2 with ⟨h0, h1⟩ | ⟨g, cap', cur, h0, _⟩
  · omega
  · simp only [Value.slice.injEq] at h0
    obtain ⟨rfl, rfl, rfl⟩ := h0
    refine ⟨g, rfl, fun j x hx => ?_⟩
    have := h.cells (g := g) rfl j (.int .i64 x) (by rw [List.getElem?_map, hx]; rfl)
    rwa [Addr.add_lit, Nat.zero_add] at this

set_option maxRecDepth 20000 in
set_option maxHeartbeats 1000000 in
theorem tick0_aux {w : World} {F : Nat → Prop} {q s N B M K r : Nat} {left : Nat → Nat} (h : Bt w F q s N B M K r left) (hK : K < 1000000) (bb : Bool) (rr : Nat) (hy : Hid (r = 1 → bb = true ∧ rr = B)) (hn : Hid (r ≠ 1 → bb = false ∧ rr = r - 1)) :
    Calls Try.prog 14 #[.pointer (some ⟨q, 0, none⟩)] w fun e w' => e = .returned (.bool bb) ∧ ∃ F', Bt w' F' q s N B M (K + 1) rr (fun j => left j - 1) ∧ Go2 F w F' w' := by
  obtain ⟨p, m, V, now, arms, A, h⟩ := h
  have c4 := h.c4
  have ht := tick_wh w p m V now arms A h.wh (by have := h.nk; omega) (by have := h.ak; omega)
  have HD : Hid ((s : Int) ∈ dueAt A (now + 1) ↔ r = 1) := due_own h.tim
  -- behind the wheel's tick
  have HT : Hid (∀ w1 V1, Wh w1 p m V1 (now + 1) arms (leftAt A (now + 1)) → Goes p m V w V1 w1 →
      (w1.cell? ⟨q, 1, none⟩ = some (.int .i64 (s : Nat)) ∧ w1.cell? ⟨q, 2, none⟩ = some (.int .u64 (B : Nat)) ∧ w1.cell? ⟨q, 4, none⟩ = some (.pointer (some ⟨p, 0, none⟩))) ∧
      (r ≠ 1 → ∃ F', Bt w1 F' q s N B M (K + 1) (r - 1) (fun j => left j - 1) ∧ Go2 F w F' w1) ∧
      (r = 1 → Calls Try.prog 17 #[.pointer (some ⟨p, 0, none⟩), .int .i64 (s : Nat), .int .u64 (B : Nat)] w1.drew fun e w' => e = .returned (.int .i64 0) ∧
        (w'.cell? ⟨q, 1, none⟩ = some (.int .i64 (s : Nat)) ∧ w'.cell? ⟨q, 2, none⟩ = some (.int .u64 (B : Nat)) ∧ w'.cell? ⟨q, 4, none⟩ = some (.pointer (some ⟨p, 0, none⟩))) ∧
        ∃ F', Bt w' F' q s N B M (K + 1) B (fun j => left j - 1) ∧ Go2 F w F' w')) := by
    intro w1 V1 hw hg
    have hql : q < w.heap.size := h.lt q ((h.foot q).2 (.inl rfl))
    have hb : w1.heap[q]? = w.heap[q]? := hg.turned.block q hql h.nq
    have hq1 : ¬ Foot p m V1 q := fun hf => (hg.foot q hf).elim h.nq (fun hle => by omega)
    have hgo : Go2 F w (fun b => b = q ∨ Foot p m V1 b) w1 := by
      refine ⟨hg.turned.mono (fun b hb => (h.foot b).2 (.inr hb)), ?_⟩
      rintro b (rfl | hb)
      · exact .inl ((h.foot b).2 (.inl rfl))
      · exact (hg.foot b hb).elim (fun h1 => .inl ((h.foot b).2 (.inr h1))) .inr
    refine ⟨⟨by rw [cell_block hb]; exact h.c1, by rw [cell_block hb]; exact h.c2, by rw [cell_block hb]; exact h.c4⟩, ?_, ?_⟩
    · intro hr
      have hr1 := h.r1
      refine ⟨fun b => b = q ∨ Foot p m V1 b, ⟨p, m, V1, now + 1, arms, leftAt A (now + 1), ?_⟩, hgo⟩
      exact { h with
        c0 := by rw [cell_block hb]; exact h.c0
        c1 := by rw [cell_block hb]; exact h.c1
        c2 := by rw [cell_block hb]; exact h.c2
        c3 := by rw [cell_block hb]; exact h.c3
        c4 := by rw [cell_block hb]; exact h.c4
        wh := hw
        nq := hq1
        foot := fun b => Iff.rfl
        nk := Nat.succ_le_succ h.nk
        ak := Nat.le_succ_of_le h.ak
        tim := left_on h.tim (by omega)
        r1 := by omega
        rB := by have := h.rB; omega }
    · rintro rfl
      have hw' : Wh w1.drew p m V1 (now + 1) arms (leftAt A (now + 1)) := hw.frame (fun _ _ => rfl)
      refine (arm_any w1.drew p m V1 (now + 1) arms _ hw' (by have := h.ak; omega) (s : Int) (in_nat (by have := h.sN; have := h.n16; omega)) B (by have := h.rB; omega) (by have := h.nk; have := h.b2; omega)).mono ?_
      rintro e w' ⟨he, V', hw2, hg2⟩
      have hb2 : w'.heap[q]? = w.heap[q]? := (hg2.turned.block q (by have := hg.turned.size; show q < w1.heap.size; omega) hq1).trans hb
      refine ⟨he, ⟨by rw [cell_block hb2]; exact h.c1, by rw [cell_block hb2]; exact h.c2, by rw [cell_block hb2]; exact h.c4⟩, fun b => b = q ∨ Foot p m V' b, ⟨p, m, V', now + 1, arms + 1, (leftAt A (now + 1)).filter (fun x => decide (x.1 ≠ (s : Int))) ++ [((s : Int), now + 1 + B)], ?_⟩, ?_⟩
      · exact { h with
          c0 := by rw [cell_block hb2]; exact h.c0
          c1 := by rw [cell_block hb2]; exact h.c1
          c2 := by rw [cell_block hb2]; exact h.c2
          c3 := by rw [cell_block hb2]; exact h.c3
          c4 := by rw [cell_block hb2]; exact h.c4
          wh := hw2
          nq := fun hf => (hg2.foot q hf).elim hq1 (fun hle => by have := hg.turned.size; have : w1.heap.size ≤ q := hle; omega)
          foot := fun b => Iff.rfl
          nk := Nat.succ_le_succ h.nk
          ak := Nat.succ_le_succ h.ak
          tim := left_own h.tim
          r1 := h.rB
          rB := Nat.le_refl _ }
      · have hd : Go2 (fun b => b = q ∨ Foot p m V1 b) w1 (fun b => b = q ∨ Foot p m V' b) w' := by
          refine ⟨((Turned.refl _ w1).drewN 1).trans hg2.turned (fun b hb => .inl (.inr hb)), ?_⟩
          rintro b (rfl | hb)
          · exact .inl (.inl rfl)
          · exact (hg2.foot b hb).elim (fun h1 => .inl (.inr h1)) .inr
        exact hgo.trans hd
  have hn16 := h.n16
  have hsN := h.sN
  clear h
  generalize dueAt A (now + 1) = due at *
  obtain ⟨D, HX⟩ : ∃ D, Hid (due.length = D) := ⟨_, rfl⟩
  go_enter Try.func14, Try.ntmps14
  go_wp2_with fail
  refine ht.mono ?_
  rintro e w1 ⟨v, V1, rfl, hrow, hw1, hg1, -⟩
  obtain ⟨⟨d1, d2, d4⟩, HN, HY⟩ := HT.out w1 V1 hw1 hg1
  clear hw1 hg1 HT ht c4
  obtain ⟨ao, cap, rfl, hcap, hmax⟩ := row_shape hrow
  have HR : Hid (w1.ownsRow w.heap.size 3 1 (.slice ao due.length cap) due.length (due.map (Value.int .i64))) := hrow
  clear hrow
  have ex := HX.out
  rw [ex] at hcap HR ⊢
  clear ex
  have hDm : D ≤ 9223372036854775807 := by unfold maxLen at hmax; omega
  clear hmax
  have HN' : Hid (r ≠ 1 → ∃ F', Bt w1 F' q s N B M (K + 1) (r - 1) (fun j => left j - 1) ∧ Go2 F w F' w1) := HN
  clear HN
  go_wp2_with fail
  go_loopw [19] (fun iv wr => ∃ k : Nat, k ≤ D ∧ iv = .int .i64 k ∧ wr = w1 ∧ ∀ j, j < k → due[j]? ≠ some (s : Int)) (fun iv _ => D - (intOf iv).toNat)
  case atStart => exact ⟨0, by omega, rfl, rfl, by omega⟩
  case round =>
    obtain ⟨k, hk, rfl, rfl, hpre⟩ := hrel
    by_cases hkD : k = D
    · have hr : r ≠ 1 := fun hr => by
        obtain ⟨j, hj⟩ := List.mem_iff_getElem?.1 (HD.out.2 hr)
        have hjl : j < due.length := (List.getElem?_eq_some_iff.1 hj).1
        exact hpre j (by rw [HX.out] at hjl; omega) hj
      have HE := HN'.out hr
      obtain ⟨rfl, rfl⟩ := hn.out hr
      subst hkD
      have HE' : Hid (∃ F', Bt wr F' q s N B M (K + 1) (r - 1) (fun j => left j - 1) ∧ Go2 F w F' wr) := HE
      clear hpre hr HE HY
      go_wp2_with fail
      go_ret
      exact ⟨rfl, HE'.out⟩
    · have hlt : (k : Int) < D := by omega
      have hkl : k < due.length := by rw [HX.out]; omega
      obtain ⟨x, hx⟩ : ∃ x, due[k]? = some x := ⟨_, List.getElem?_eq_getElem hkl⟩
      obtain ⟨g, rfl, hc⟩ := row_cell (xs := due) (by have := HR.out; rw [HX.out]; exact this) (by omega)
      have dx := hc k x hx
      clear hc
      by_cases hxs : x = (s : Int)
      · subst hxs
        have hr : r = 1 := HD.out.1 (List.mem_of_getElem? hx)
        have harm := HY hr
        obtain ⟨rfl, rfl⟩ := hy.out hr
        clear hx hpre hr HY hy hn HN' HD HR
        go_wp2_with fail
        refine wp_region_noPanic ?_
        refine wp_region_held_drew (S := fun wx => wx.cell? ⟨q, 1, none⟩ = some (.int .i64 (s : Nat)) ∧ wx.cell? ⟨q, 2, none⟩ = some (.int .u64 (rr : Nat)) ∧ wx.cell? ⟨q, 4, none⟩ = some (.pointer (some ⟨p, 0, none⟩))) (by kernel_rfl) ⟨d1, d2, d4⟩ (fun hHeld => ?_)
        refine take_first 0 (v := ?_) rfl (by kernel_rfl) (by kernel_rfl) (by kernel_rfl) (fun _ _ _ h => h) (Or.inl ⟨by rfl, by intro wx hSw; (try dsimp only at hSw); obtain ⟨k1, k2, k4⟩ := hSw; go_simp; try with_reducible rfl⟩) (by assumption) ?_
        (try simp only [Act.put, List.setIfInBounds_toArray, List.set_cons_zero, List.set_cons_succ])
        refine take_first 1 (v := ?_) rfl (by kernel_rfl) (by kernel_rfl) (by kernel_rfl) (fun _ _ _ h => h) (Or.inl ⟨by rfl, by intro wx hSw; (try dsimp only at hSw); obtain ⟨k1, k2, k4⟩ := hSw; go_simp; try with_reducible rfl⟩) (by assumption) ?_
        (try simp only [Act.put, List.setIfInBounds_toArray, List.set_cons_zero, List.set_cons_succ])
        refine take_first 2 (v := ?_) rfl (by kernel_rfl) (by kernel_rfl) (by kernel_rfl) (fun _ _ _ h => h) (Or.inl ⟨by rfl, by intro wx hSw; (try dsimp only at hSw); obtain ⟨k1, k2, k4⟩ := hSw; go_simp; try with_reducible rfl⟩) (by assumption) ?_
        (try simp only [Act.put, List.setIfInBounds_toArray, List.set_cons_zero, List.set_cons_succ])
        refine take_first 3 (v := ?_) rfl (by kernel_rfl) (by kernel_rfl) (by kernel_rfl) (fun _ _ _ h => h) (Or.inl ⟨by rfl, by intro wx hSw; (try dsimp only at hSw); obtain ⟨k1, k2, k4⟩ := hSw; go_simp; try with_reducible rfl⟩) (by assumption) ?_
        (try simp only [Act.put, List.setIfInBounds_toArray, List.set_cons_zero, List.set_cons_succ])
        refine take_first 4 (v := ?_) rfl (by kernel_rfl) (by kernel_rfl) (by kernel_rfl) (fun _ _ _ h => h) (Or.inl ⟨by rfl, by intro wx hSw; (try dsimp only at hSw); obtain ⟨k1, k2, k4⟩ := hSw; go_simp; try with_reducible rfl⟩) (by assumption) ?_
        (try simp only [Act.put, List.setIfInBounds_toArray, List.set_cons_zero, List.set_cons_succ])
        refine take_first 5 (v := ?_) rfl (by kernel_rfl) (by kernel_rfl) (by kernel_rfl) (fun _ _ _ h => h) (Or.inl ⟨by rfl, by intro wx hSw; (try dsimp only at hSw); obtain ⟨k1, k2, k4⟩ := hSw; go_simp; try with_reducible rfl⟩) (by assumption) ?_
        (try simp only [Act.put, List.setIfInBounds_toArray, List.set_cons_zero, List.set_cons_succ])
        refine take_first 6 (v := ?_) rfl (by kernel_rfl) (by kernel_rfl) (by kernel_rfl) (fun _ _ _ h => h) (Or.inl ⟨by rfl, by intro wx hSw; (try dsimp only at hSw); obtain ⟨k1, k2, k4⟩ := hSw; go_simp; try with_reducible rfl⟩) (by assumption) ?_
        (try simp only [Act.put, List.setIfInBounds_toArray, List.set_cons_zero, List.set_cons_succ])
        refine take_first 7 (v := ?_) rfl (by kernel_rfl) (by kernel_rfl) (by kernel_rfl) (fun _ _ _ h => h) (Or.inl ⟨by rfl, by intro wx hSw; (try dsimp only at hSw); obtain ⟨k1, k2, k4⟩ := hSw; go_simp; try with_reducible rfl⟩) (by assumption) ?_
        (try simp only [Act.put, List.setIfInBounds_toArray, List.set_cons_zero, List.set_cons_succ])
        refine take_first 8 (v := ?_) rfl (by kernel_rfl) (by kernel_rfl) (by kernel_rfl) (fun _ _ _ h => h) (Or.inl ⟨by rfl, by intro wx hSw; (try dsimp only at hSw); obtain ⟨k1, k2, k4⟩ := hSw; go_simp; try with_reducible rfl⟩) (by assumption) ?_
        (try simp only [Act.put, List.setIfInBounds_toArray, List.set_cons_zero, List.set_cons_succ])
        refine take_first 9 (v := ?_) rfl (by kernel_rfl) (by kernel_rfl) (by kernel_rfl) (fun _ _ _ h => h) (Or.inl ⟨by rfl, by intro wx hSw; (try dsimp only at hSw); obtain ⟨k1, k2, k4⟩ := hSw; go_simp; try with_reducible rfl⟩) (by assumption) ?_
        (try simp only [Act.put, List.setIfInBounds_toArray, List.set_cons_zero, List.set_cons_succ])
        refine take_first 10 (v := ?_) rfl (by kernel_rfl) (by kernel_rfl) (by kernel_rfl) (fun _ _ _ h => h) (Or.inl ⟨by rfl, by intro wx hSw; (try dsimp only at hSw); obtain ⟨k1, k2, k4⟩ := hSw; go_simp; try with_reducible rfl⟩) (by assumption) ?_
        (try simp only [Act.put, List.setIfInBounds_toArray, List.set_cons_zero, List.set_cons_succ])
        refine take_first 11 (v := ?_) rfl (by kernel_rfl) (by kernel_rfl) (by kernel_rfl) (fun _ _ _ h => h) (Or.inl ⟨by rfl, by intro wx hSw; (try dsimp only at hSw); obtain ⟨k1, k2, k4⟩ := hSw; go_simp; try with_reducible rfl⟩) (by assumption) ?_
        (try simp only [Act.put, List.setIfInBounds_toArray, List.set_cons_zero, List.set_cons_succ])
        refine comes_up 12 rfl (by kernel_rfl) (fun K hK => ?_)
        go_simp
        refine harm.mono ?_
        rintro e w2 ⟨rfl, hS1, HF⟩
        go_wp2_with fail
        refine hK.out _ _ hS1 (fun hHeld => ?_)
        clear hK K
        (try simp only [Act.put, List.setIfInBounds_toArray, List.set_cons_zero, List.set_cons_succ])
        refine wpAnyH_done (by kernel_rfl) ?_ _
        refine NoPanic.normal ?_
        go_wp2
        go_ret
        exact ⟨rfl, HF⟩
      · have HP : Hid (∀ j, j < k + 1 → due[j]? ≠ some (s : Int)) := by
          intro j hj
          by_cases e : j = k
          · subst e; rw [hx]; exact fun e => hxs (Option.some.inj e)
          · exact hpre j (by omega)
        clear hx hpre
        go_wp2_with fail
        go_roundw
        case rel => exact ⟨k + 1, by omega, by go_num, trivial, HP.out⟩
        case measure => simp [intOf]; omega

/-- A tick: is the own beat due? -/
theorem tick0_due {w : World} {F : Nat → Prop} {q s N B M K : Nat} {left : Nat → Nat} (h : Bt w F q s N B M K 1 left) (hK : K < 1000000) :
    Calls Try.prog 14 #[.pointer (some ⟨q, 0, none⟩)] w fun e w' => e = .returned (.bool true) ∧ ∃ F', Bt w' F' q s N B M (K + 1) B (fun j => left j - 1) ∧ Go2 F w F' w' :=
  tick0_aux h hK true B (fun _ => ⟨rfl, rfl⟩) (fun hn => absurd rfl hn)
theorem tick0_not {w : World} {F : Nat → Prop} {q s N B M K r : Nat} {left : Nat → Nat} (h : Bt w F q s N B M K r left) (hr : r ≠ 1) (hK : K < 1000000) :
    Calls Try.prog 14 #[.pointer (some ⟨q, 0, none⟩)] w fun e w' => e = .returned (.bool false) ∧ ∃ F', Bt w' F' q s N B M (K + 1) (r - 1) (fun j => left j - 1) ∧ Go2 F w F' w' :=
  tick0_aux h hK false (r - 1) (fun h1 => absurd h1 hr) (fun _ => ⟨rfl, rfl⟩)

end Go.Proofs.Ytofhkfbibdkjgaa
