/-
  Is it up to this node to propose?
-/
import Derived.Test.YtlonbbepoamnmaaDoorMRead2
namespace Go.Proofs.YtlonbbepoamnmaaDoor
open Go.RowKit
set_option linter.unusedVariables false
section
variable {w : World} {F Z : Nat → Prop} {q : Nat} {M : Mm} {o : Option Nat}

theorem needs_any (h : Mb w F Z q M o) (e : Nat) (he : e < 65536) : Calls Tryd.prog 56 #[.pointer (some ⟨q, 0, none⟩), .int .u16 (e : Nat)] w fun x w' => x = .returned (.bool (M.needs e)) ∧ Below w.heap.size w w' := by
  have ho := open_any h
  have HB : Hid (Mb w F Z q M o) := h
  clear h
  unfold Mm.needs
  cases hc : M.opn with
  | false =>
    rw [hc] at ho
    simp only [Bool.not_false, Bool.true_or]
    clear hc
    go_enter Tryd.func56, Tryd.ntmps56
    go_wp2_with fail
    refine ho.mono ?_
    rintro x w1 ⟨rfl, u1⟩
    clear ho
    go_wp2
    go_ret
    exact ⟨rfl, u1.bl⟩
  | true =>
    rw [hc] at ho
    simp only [Bool.not_true, Bool.false_or]
    clear hc
    by_cases hs : M.cset = e
    · subst hs
      rw [show decide (M.cset = M.cset) = true by simp]
      simp only [Bool.not_true, Bool.false_or]
      go_enter Tryd.func56, Tryd.ntmps56
      go_wp2_with fail
      refine ho.mono ?_
      rintro x w1 ⟨rfl, u1⟩
      have h1 := HB.out.still u1.bl
      have c2 := h1.cell 2 (by omega)
      have c3 := h1.cell 3 (by omega)
      have c4 := h1.cell 4 (by omega)
      unfold mcell at c2 c3 c4
      have hp := passed_any h1 M.cset he M.cur
      unfold vid at hp
      have HU : Hid (Below w.heap.size w w1) := u1.bl
      clear ho u1 h1 HB
      go_wp2_with fail
      refine hp.mono ?_
      rintro x w2 ⟨rfl, b2⟩
      have HU2 : Hid (Below w.heap.size w w2) := bl_step HU.out b2
      clear b2 hp c2 c3 c4 HU
      go_wp2
      go_ret
      exact ⟨rfl, HU2.out⟩
    · rw [show decide (M.cset = e) = false by simpa using hs]
      simp only [Bool.not_false, Bool.true_or]
      have hne : ((M.cset : Int) == (e : Int)) = false := by simp; omega
      go_enter Tryd.func56, Tryd.ntmps56
      go_wp2_with fail
      refine ho.mono ?_
      rintro x w1 ⟨rfl, u1⟩
      have h1 := HB.out.still u1.bl
      have c4 := h1.cell 4 (by omega)
      unfold mcell at c4
      have HU : Hid (Below w.heap.size w w1) := u1.bl
      clear ho u1 h1 HB
      go_wp2
      go_ret
      exact ⟨rfl, HU.out⟩

theorem stands_any (h : Mb w F Z q M o) (e : Nat) (he : e < 65536) : Calls Tryd.prog 57 #[.pointer (some ⟨q, 0, none⟩), .int .u16 (e : Nat)] w fun x w' => x = .returned (.bool (M.stands e)) ∧ Below w.heap.size w w' := by
  have c8 := h.cell 8 (by omega)
  unfold mcell ptr at c8
  unfold Mm.stands
  cases hM : M.own with
  | none =>
    obtain rfl := h.ownNone hM
    simp only [Option.map_none] at c8
    simp only
    clear h hM
    go_enter Tryd.func57, Tryd.ntmps57
    go_wp2
    go_ret
    exact ⟨rfl, Below.refl _ _⟩
  | some P =>
    obtain ⟨p, rfl, hp⟩ := h.ownSome hM
    simp only [Option.map_some] at c8
    simp only
    have hag := agreed_any hp
    have HB : Hid (Mb w F Z q M (some p) ∧ Pb w F Z q p P) := ⟨h, hp⟩
    clear h hp hM
    cases hg : P.agreed with
    | true =>
      rw [hg] at hag
      simp only [Bool.not_true, Bool.false_and]
      clear hg
      go_enter Tryd.func57, Tryd.ntmps57
      go_wp2_with fail
      refine hag.mono ?_
      rintro x w1 ⟨rfl, u1⟩
      have HU : Hid (Below w.heap.size w w1) := u1.bl
      clear hag u1
      go_wp2
      go_ret
      exact ⟨rfl, HU.out⟩
    | false =>
      rw [hg] at hag
      simp only [Bool.not_false, Bool.true_and]
      clear hg
      by_cases hs : P.set = e
      · subst hs
        rw [show decide (P.set = P.set) = true by simp]
        simp only [Bool.true_and]
        go_enter Tryd.func57, Tryd.ntmps57
        go_wp2_with fail
        refine hag.mono ?_
        rintro x w1 ⟨rfl, u1⟩
        have h1 := HB.out.1.still u1.bl
        have c0 := u1.cell HB.out.2.c0
        have c1 := u1.cell HB.out.2.c1
        have c2 := u1.cell HB.out.2.c2
        have hpa := passed_any h1 P.set he P.id
        unfold vid at hpa
        have HU : Hid (Below w.heap.size w w1) := u1.bl
        clear hag u1 h1 HB
        go_wp2_with fail
        refine hpa.mono ?_
        rintro x w2 ⟨rfl, b2⟩
        have HU2 : Hid (Below w.heap.size w w2) := bl_step HU.out b2
        clear b2 hpa c0 c1 c2 HU
        go_wp2
        go_ret
        exact ⟨rfl, HU2.out⟩
      · rw [show decide (P.set = e) = false by simpa using hs]
        simp only [Bool.false_and]
        have hne : ((P.set : Int) == (e : Int)) = false := by simp; omega
        go_enter Tryd.func57, Tryd.ntmps57
        go_wp2_with fail
        refine hag.mono ?_
        rintro x w1 ⟨rfl, u1⟩
        have c2 := u1.cell HB.out.2.c2
        have HU : Hid (Below w.heap.size w w1) := u1.bl
        clear hag u1 HB
        go_wp2
        go_ret
        exact ⟨rfl, HU.out⟩

set_option maxRecDepth 10000 in
set_option maxHeartbeats 1000000 in
theorem proposes_any (h : Mb w F Z q M o) (e : Nat) (he : e < 65536) : Calls Tryd.prog 31 #[.pointer (some ⟨q, 0, none⟩), .int .u16 (e : Nat)] w fun x w' => x = .returned (.bool (M.proposes e)) ∧ Below w.heap.size w w' := by
  have hlst := fun (W : World) (hW : Mb W F Z q M o) => least_any W hW.tab e he
  have hnd := fun (W : World) (hW : Mb W F Z q M o) => needs_any hW e he
  have hst := fun (W : World) (hW : Mb W F Z q M o) => stands_any hW e he
  have hkey : ∀ W : World, Mb W F Z q M o → W.cell? ⟨q, 1, none⟩ = some (.int .i64 (M.self : Nat)) ∧ W.cell? ⟨q, 7, none⟩ = some (.int .u64 (M.high : Nat)) := fun W hW => ⟨hW.cell 1 (by omega), hW.cell 7 (by omega)⟩
  have HK : Hid (∀ W : World, Mb W F Z q M o → W.cell? ⟨q, 1, none⟩ = some (.int .i64 (M.self : Nat)) ∧ W.cell? ⟨q, 7, none⟩ = some (.int .u64 (M.high : Nat))) := hkey
  have h0 : Mb w.drew F Z q M o := h.still ((Below.refl _ _).drew)
  have hS : Mb w.drew F Z q M o ∧ w.drew.cell? ⟨q, 1, none⟩ = some (.int .i64 (M.self : Nat)) := ⟨h0, (hkey _ h0).1⟩
  clear hkey h h0
  unfold Mm.proposes
  by_cases hl : leastN e = (M.self : Int)
  · rw [show decide (leastN e = (M.self : Int)) = true by simpa using hl, Bool.true_and]
    rw [hl] at hlst
    clear hl
    cases hn : M.needs e with
    | false =>
      rw [hn] at hnd
      simp only [Bool.false_and]
      clear hn
      go_enter Tryd.func31, Tryd.ntmps31
      go_wp2_with fail
      refine wp_region_noPanic ?_
      refine wp_region_held_drew (S := fun wx => Mb wx F Z q M o ∧ wx.cell? ⟨q, 1, none⟩ = some (.int .i64 (M.self : Nat))) (by kernel_rfl) hS (fun hHeld => ?_)
      refine take_first 0 (v := ?_) rfl (by kernel_rfl) (by kernel_rfl) (by kernel_rfl) (fun _ _ _ h => h) (Or.inl ⟨by rfl, by intro wx hSw; (try dsimp only at hSw); obtain ⟨hb, k1⟩ := hSw; go_simp; try with_reducible rfl⟩) (by assumption) ?_
      (try simp only [Act.put, List.setIfInBounds_toArray, List.set_cons_zero, List.set_cons_succ])
      refine take_first 2 (v := ?_) rfl (by kernel_rfl) (by kernel_rfl) (by kernel_rfl) (fun _ _ _ h => h) (Or.inl ⟨by rfl, by intro wx hSw; (try dsimp only at hSw); obtain ⟨hb, k1⟩ := hSw; go_simp; try with_reducible rfl⟩) (by assumption) ?_
      (try simp only [Act.put, List.setIfInBounds_toArray, List.set_cons_zero, List.set_cons_succ])
      refine take_first 3 (v := ?_) rfl (by kernel_rfl) (by kernel_rfl) (by kernel_rfl) (fun _ _ _ h => h) (Or.inl ⟨by rfl, by intro wx hSw; (try dsimp only at hSw); obtain ⟨hb, k1⟩ := hSw; go_simp; try with_reducible rfl⟩) (by assumption) ?_
      (try simp only [Act.put, List.setIfInBounds_toArray, List.set_cons_zero, List.set_cons_succ])
      refine take_first 4 (v := ?_) rfl (by kernel_rfl) (by kernel_rfl) (by kernel_rfl) (fun _ _ _ h => h) (Or.inl ⟨by rfl, by intro wx hSw; (try dsimp only at hSw); obtain ⟨hb, k1⟩ := hSw; go_simp; try with_reducible rfl⟩) (by assumption) ?_
      (try simp only [Act.put, List.setIfInBounds_toArray, List.set_cons_zero, List.set_cons_succ])
      refine take_first 5 (v := ?_) rfl (by kernel_rfl) (by kernel_rfl) (by kernel_rfl) (fun _ _ _ h => h) (Or.inl ⟨by rfl, by intro wx hSw; (try dsimp only at hSw); obtain ⟨hb, k1⟩ := hSw; go_simp; try with_reducible rfl⟩) (by assumption) ?_
      (try simp only [Act.put, List.setIfInBounds_toArray, List.set_cons_zero, List.set_cons_succ])
      refine comes_up 1 rfl (by kernel_rfl) (fun K hK => ?_)
      go_simp
      refine (hlst _ hS.1).mono ?_
      rintro x w1 ⟨rfl, rfl⟩
      go_wp2_with fail
      refine hK.out _ _ hS (fun hHeld => ?_)
      clear hK K
      (try simp only [Act.put, List.setIfInBounds_toArray, List.set_cons_zero, List.set_cons_succ])
      refine take_first 6 (v := ?_) rfl (by kernel_rfl) (by kernel_rfl) (by kernel_rfl) (fun _ _ _ h => h) (Or.inl ⟨by rfl, by intro wx hSw; (try dsimp only at hSw); obtain ⟨hb, k1⟩ := hSw; go_simp; try with_reducible rfl⟩) (by assumption) ?_
      (try simp only [Act.put, List.setIfInBounds_toArray, List.set_cons_zero, List.set_cons_succ])
      refine take_first 7 (v := ?_) rfl (by kernel_rfl) (by kernel_rfl) (by kernel_rfl) (fun _ _ _ h => h) (Or.inl ⟨by rfl, by intro wx hSw; (try dsimp only at hSw); obtain ⟨hb, k1⟩ := hSw; go_simp; try with_reducible rfl⟩) (by assumption) ?_
      (try simp only [Act.put, List.setIfInBounds_toArray, List.set_cons_zero, List.set_cons_succ])
      refine take_first 8 (v := ?_) rfl (by kernel_rfl) (by kernel_rfl) (by kernel_rfl) (fun _ _ _ h => h) (Or.inl ⟨by rfl, by intro wx hSw; (try dsimp only at hSw); obtain ⟨hb, k1⟩ := hSw; go_simp; try with_reducible rfl⟩) (by assumption) ?_
      (try simp only [Act.put, List.setIfInBounds_toArray, List.set_cons_zero, List.set_cons_succ])
      refine take_first 9 (v := ?_) rfl (by kernel_rfl) (by kernel_rfl) (by kernel_rfl) (fun _ _ _ h => h) (Or.inl ⟨by rfl, by intro wx hSw; (try dsimp only at hSw); obtain ⟨hb, k1⟩ := hSw; go_simp; try with_reducible rfl⟩) (by assumption) ?_
      (try simp only [Act.put, List.setIfInBounds_toArray, List.set_cons_zero, List.set_cons_succ])
      refine comes_up 10 rfl (by kernel_rfl) (fun K hK => ?_)
      go_simp
      refine (hnd _ hS.1).mono ?_
      rintro x w1 ⟨rfl, b1⟩
      have hb1 : Mb w1 F Z q M o := hS.1.still b1
      have hS1 : Mb w1 F Z q M o ∧ w1.cell? ⟨q, 1, none⟩ = some (.int .i64 (M.self : Nat)) := ⟨hb1, (HK.out _ hb1).1⟩
      have HU : Hid (Below w.heap.size w w1) := bl_step ((Below.refl _ w).drew) b1
      clear b1 hb1 hS hnd hst hlst
      go_wp2_with fail
      refine hK.out _ _ hS1 (fun hHeld => ?_)
      clear hK K
      (try simp only [Act.put, List.setIfInBounds_toArray, List.set_cons_zero, List.set_cons_succ])
      refine take_first 11 (v := ?_) rfl (by kernel_rfl) (by kernel_rfl) (by kernel_rfl) (fun _ _ _ h => h) (Or.inl ⟨by rfl, by intro wx hSw; (try dsimp only at hSw); obtain ⟨hb, k1⟩ := hSw; go_simp; try with_reducible rfl⟩) (by assumption) ?_
      (try simp only [Act.put, List.setIfInBounds_toArray, List.set_cons_zero, List.set_cons_succ])
      refine take_first 12 (v := ?_) rfl (by kernel_rfl) (by kernel_rfl) (by kernel_rfl) (fun _ _ _ h => h) (Or.inl ⟨by rfl, by intro wx hSw; (try dsimp only at hSw); obtain ⟨hb, k1⟩ := hSw; go_simp; try with_reducible rfl⟩) (by assumption) ?_
      (try simp only [Act.put, List.setIfInBounds_toArray, List.set_cons_zero, List.set_cons_succ])
      refine take_first 13 (v := ?_) rfl (by kernel_rfl) (by kernel_rfl) (by kernel_rfl) (fun _ _ _ h => h) (Or.inl ⟨by rfl, by intro wx hSw; (try dsimp only at hSw); obtain ⟨hb, k1⟩ := hSw; go_simp; try with_reducible rfl⟩) (by assumption) ?_
      (try simp only [Act.put, List.setIfInBounds_toArray, List.set_cons_zero, List.set_cons_succ])
      refine take_first 14 (v := undef) rfl (by kernel_rfl) (by kernel_rfl) (by kernel_rfl) (fun _ _ _ h => h) (Or.inr ⟨by rfl, rfl⟩) (by assumption) ?_
      (try simp only [Act.put, List.setIfInBounds_toArray, List.set_cons_zero, List.set_cons_succ])
      refine take_first 15 (v := undef) rfl (by kernel_rfl) (by kernel_rfl) (by kernel_rfl) (fun _ _ _ h => h) (Or.inr ⟨by rfl, rfl⟩) (by assumption) ?_
      (try simp only [Act.put, List.setIfInBounds_toArray, List.set_cons_zero, List.set_cons_succ])
      refine take_first 16 (v := undef) rfl (by kernel_rfl) (by kernel_rfl) (by kernel_rfl) (fun _ _ _ h => h) (Or.inr ⟨by rfl, rfl⟩) (by assumption) ?_
      (try simp only [Act.put, List.setIfInBounds_toArray, List.set_cons_zero, List.set_cons_succ])
      refine take_first 17 (v := ?_) rfl (by kernel_rfl) (by kernel_rfl) (by kernel_rfl) (fun _ _ _ h => h) (Or.inl ⟨by rfl, by intro wx hSw; (try dsimp only at hSw); obtain ⟨hb, k1⟩ := hSw; go_simp; try with_reducible rfl⟩) (by assumption) ?_
      (try simp only [Act.put, List.setIfInBounds_toArray, List.set_cons_zero, List.set_cons_succ])
      refine wpAnyH_done (by kernel_rfl) ?_ _
      refine NoPanic.normal ?_
      go_wp2
      go_ret
      exact ⟨rfl, HU.out⟩
    | true =>
      rw [hn] at hnd
      simp only [Bool.true_and]
      clear hn
      cases ht : M.stands e with
      | true =>
        rw [ht] at hst
        simp only [Bool.not_true, Bool.false_and]
        clear ht
        go_enter Tryd.func31, Tryd.ntmps31
        go_wp2_with fail
        refine wp_region_noPanic ?_
        refine wp_region_held_drew (S := fun wx => Mb wx F Z q M o ∧ wx.cell? ⟨q, 1, none⟩ = some (.int .i64 (M.self : Nat))) (by kernel_rfl) hS (fun hHeld => ?_)
        refine take_first 0 (v := ?_) rfl (by kernel_rfl) (by kernel_rfl) (by kernel_rfl) (fun _ _ _ h => h) (Or.inl ⟨by rfl, by intro wx hSw; (try dsimp only at hSw); obtain ⟨hb, k1⟩ := hSw; go_simp; try with_reducible rfl⟩) (by assumption) ?_
        (try simp only [Act.put, List.setIfInBounds_toArray, List.set_cons_zero, List.set_cons_succ])
        refine take_first 2 (v := ?_) rfl (by kernel_rfl) (by kernel_rfl) (by kernel_rfl) (fun _ _ _ h => h) (Or.inl ⟨by rfl, by intro wx hSw; (try dsimp only at hSw); obtain ⟨hb, k1⟩ := hSw; go_simp; try with_reducible rfl⟩) (by assumption) ?_
        (try simp only [Act.put, List.setIfInBounds_toArray, List.set_cons_zero, List.set_cons_succ])
        refine take_first 3 (v := ?_) rfl (by kernel_rfl) (by kernel_rfl) (by kernel_rfl) (fun _ _ _ h => h) (Or.inl ⟨by rfl, by intro wx hSw; (try dsimp only at hSw); obtain ⟨hb, k1⟩ := hSw; go_simp; try with_reducible rfl⟩) (by assumption) ?_
        (try simp only [Act.put, List.setIfInBounds_toArray, List.set_cons_zero, List.set_cons_succ])
        refine take_first 4 (v := ?_) rfl (by kernel_rfl) (by kernel_rfl) (by kernel_rfl) (fun _ _ _ h => h) (Or.inl ⟨by rfl, by intro wx hSw; (try dsimp only at hSw); obtain ⟨hb, k1⟩ := hSw; go_simp; try with_reducible rfl⟩) (by assumption) ?_
        (try simp only [Act.put, List.setIfInBounds_toArray, List.set_cons_zero, List.set_cons_succ])
        refine take_first 5 (v := ?_) rfl (by kernel_rfl) (by kernel_rfl) (by kernel_rfl) (fun _ _ _ h => h) (Or.inl ⟨by rfl, by intro wx hSw; (try dsimp only at hSw); obtain ⟨hb, k1⟩ := hSw; go_simp; try with_reducible rfl⟩) (by assumption) ?_
        (try simp only [Act.put, List.setIfInBounds_toArray, List.set_cons_zero, List.set_cons_succ])
        refine comes_up 1 rfl (by kernel_rfl) (fun K hK => ?_)
        go_simp
        refine (hlst _ hS.1).mono ?_
        rintro x w1 ⟨rfl, rfl⟩
        go_wp2_with fail
        refine hK.out _ _ hS (fun hHeld => ?_)
        clear hK K
        (try simp only [Act.put, List.setIfInBounds_toArray, List.set_cons_zero, List.set_cons_succ])
        refine take_first 6 (v := ?_) rfl (by kernel_rfl) (by kernel_rfl) (by kernel_rfl) (fun _ _ _ h => h) (Or.inl ⟨by rfl, by intro wx hSw; (try dsimp only at hSw); obtain ⟨hb, k1⟩ := hSw; go_simp; try with_reducible rfl⟩) (by assumption) ?_
        (try simp only [Act.put, List.setIfInBounds_toArray, List.set_cons_zero, List.set_cons_succ])
        refine take_first 7 (v := ?_) rfl (by kernel_rfl) (by kernel_rfl) (by kernel_rfl) (fun _ _ _ h => h) (Or.inl ⟨by rfl, by intro wx hSw; (try dsimp only at hSw); obtain ⟨hb, k1⟩ := hSw; go_simp; try with_reducible rfl⟩) (by assumption) ?_
        (try simp only [Act.put, List.setIfInBounds_toArray, List.set_cons_zero, List.set_cons_succ])
        refine take_first 8 (v := ?_) rfl (by kernel_rfl) (by kernel_rfl) (by kernel_rfl) (fun _ _ _ h => h) (Or.inl ⟨by rfl, by intro wx hSw; (try dsimp only at hSw); obtain ⟨hb, k1⟩ := hSw; go_simp; try with_reducible rfl⟩) (by assumption) ?_
        (try simp only [Act.put, List.setIfInBounds_toArray, List.set_cons_zero, List.set_cons_succ])
        refine take_first 9 (v := ?_) rfl (by kernel_rfl) (by kernel_rfl) (by kernel_rfl) (fun _ _ _ h => h) (Or.inl ⟨by rfl, by intro wx hSw; (try dsimp only at hSw); obtain ⟨hb, k1⟩ := hSw; go_simp; try with_reducible rfl⟩) (by assumption) ?_
        (try simp only [Act.put, List.setIfInBounds_toArray, List.set_cons_zero, List.set_cons_succ])
        refine comes_up 10 rfl (by kernel_rfl) (fun K hK => ?_)
        go_simp
        refine (hnd _ hS.1).mono ?_
        rintro x w1 ⟨rfl, b1⟩
        have hb1 : Mb w1 F Z q M o := hS.1.still b1
        have hS1 : Mb w1 F Z q M o ∧ w1.cell? ⟨q, 1, none⟩ = some (.int .i64 (M.self : Nat)) := ⟨hb1, (HK.out _ hb1).1⟩
        have HU : Hid (Below w.heap.size w w1) := bl_step ((Below.refl _ w).drew) b1
        clear b1 hb1 hS hnd hlst
        go_wp2_with fail
        refine hK.out _ _ hS1 (fun hHeld => ?_)
        clear hK K
        (try simp only [Act.put, List.setIfInBounds_toArray, List.set_cons_zero, List.set_cons_succ])
        refine take_first 11 (v := ?_) rfl (by kernel_rfl) (by kernel_rfl) (by kernel_rfl) (fun _ _ _ h => h) (Or.inl ⟨by rfl, by intro wx hSw; (try dsimp only at hSw); obtain ⟨hb, k1⟩ := hSw; go_simp; try with_reducible rfl⟩) (by assumption) ?_
        (try simp only [Act.put, List.setIfInBounds_toArray, List.set_cons_zero, List.set_cons_succ])
        refine take_first 12 (v := ?_) rfl (by kernel_rfl) (by kernel_rfl) (by kernel_rfl) (fun _ _ _ h => h) (Or.inl ⟨by rfl, by intro wx hSw; (try dsimp only at hSw); obtain ⟨hb, k1⟩ := hSw; go_simp; try with_reducible rfl⟩) (by assumption) ?_
        (try simp only [Act.put, List.setIfInBounds_toArray, List.set_cons_zero, List.set_cons_succ])
        refine take_first 13 (v := ?_) rfl (by kernel_rfl) (by kernel_rfl) (by kernel_rfl) (fun _ _ _ h => h) (Or.inl ⟨by rfl, by intro wx hSw; (try dsimp only at hSw); obtain ⟨hb, k1⟩ := hSw; go_simp; try with_reducible rfl⟩) (by assumption) ?_
        (try simp only [Act.put, List.setIfInBounds_toArray, List.set_cons_zero, List.set_cons_succ])
        refine take_first 14 (v := ?_) rfl (by kernel_rfl) (by kernel_rfl) (by kernel_rfl) (fun _ _ _ h => h) (Or.inl ⟨by rfl, by intro wx hSw; (try dsimp only at hSw); obtain ⟨hb, k1⟩ := hSw; go_simp; try with_reducible rfl⟩) (by assumption) ?_
        (try simp only [Act.put, List.setIfInBounds_toArray, List.set_cons_zero, List.set_cons_succ])
        refine take_first 15 (v := ?_) rfl (by kernel_rfl) (by kernel_rfl) (by kernel_rfl) (fun _ _ _ h => h) (Or.inl ⟨by rfl, by intro wx hSw; (try dsimp only at hSw); obtain ⟨hb, k1⟩ := hSw; go_simp; try with_reducible rfl⟩) (by assumption) ?_
        (try simp only [Act.put, List.setIfInBounds_toArray, List.set_cons_zero, List.set_cons_succ])
        refine comes_up 16 rfl (by kernel_rfl) (fun K hK => ?_)
        go_simp
        refine (hst _ hS1.1).mono ?_
        rintro x w2 ⟨rfl, b2⟩
        have hb2 : Mb w2 F Z q M o := hS1.1.still b2
        have hS2 : Mb w2 F Z q M o ∧ w2.cell? ⟨q, 1, none⟩ = some (.int .i64 (M.self : Nat)) := ⟨hb2, (HK.out _ hb2).1⟩
        have HU2 : Hid (Below w.heap.size w w2) := bl_step HU.out b2
        clear b2 hb2 hS1 hst HU
        go_wp2_with fail
        refine hK.out _ _ hS2 (fun hHeld => ?_)
        clear hK K
        (try simp only [Act.put, List.setIfInBounds_toArray, List.set_cons_zero, List.set_cons_succ])
        refine take_first 17 (v := ?_) rfl (by kernel_rfl) (by kernel_rfl) (by kernel_rfl) (fun _ _ _ h => h) (Or.inl ⟨by rfl, by intro wx hSw; (try dsimp only at hSw); obtain ⟨hb, k1⟩ := hSw; go_simp; try with_reducible rfl⟩) (by assumption) ?_
        (try simp only [Act.put, List.setIfInBounds_toArray, List.set_cons_zero, List.set_cons_succ])
        refine wpAnyH_done (by kernel_rfl) ?_ _
        refine NoPanic.normal ?_
        go_wp2
        go_ret
        exact ⟨rfl, HU2.out⟩
      | false =>
        rw [ht] at hst
        simp only [Bool.not_false, Bool.true_and]
        clear ht
        go_enter Tryd.func31, Tryd.ntmps31
        go_wp2_with fail
        refine wp_region_noPanic ?_
        refine wp_region_held_drew (S := fun wx => Mb wx F Z q M o ∧ wx.cell? ⟨q, 1, none⟩ = some (.int .i64 (M.self : Nat))) (by kernel_rfl) hS (fun hHeld => ?_)
        refine take_first 0 (v := ?_) rfl (by kernel_rfl) (by kernel_rfl) (by kernel_rfl) (fun _ _ _ h => h) (Or.inl ⟨by rfl, by intro wx hSw; (try dsimp only at hSw); obtain ⟨hb, k1⟩ := hSw; go_simp; try with_reducible rfl⟩) (by assumption) ?_
        (try simp only [Act.put, List.setIfInBounds_toArray, List.set_cons_zero, List.set_cons_succ])
        refine take_first 2 (v := ?_) rfl (by kernel_rfl) (by kernel_rfl) (by kernel_rfl) (fun _ _ _ h => h) (Or.inl ⟨by rfl, by intro wx hSw; (try dsimp only at hSw); obtain ⟨hb, k1⟩ := hSw; go_simp; try with_reducible rfl⟩) (by assumption) ?_
        (try simp only [Act.put, List.setIfInBounds_toArray, List.set_cons_zero, List.set_cons_succ])
        refine take_first 3 (v := ?_) rfl (by kernel_rfl) (by kernel_rfl) (by kernel_rfl) (fun _ _ _ h => h) (Or.inl ⟨by rfl, by intro wx hSw; (try dsimp only at hSw); obtain ⟨hb, k1⟩ := hSw; go_simp; try with_reducible rfl⟩) (by assumption) ?_
        (try simp only [Act.put, List.setIfInBounds_toArray, List.set_cons_zero, List.set_cons_succ])
        refine take_first 4 (v := ?_) rfl (by kernel_rfl) (by kernel_rfl) (by kernel_rfl) (fun _ _ _ h => h) (Or.inl ⟨by rfl, by intro wx hSw; (try dsimp only at hSw); obtain ⟨hb, k1⟩ := hSw; go_simp; try with_reducible rfl⟩) (by assumption) ?_
        (try simp only [Act.put, List.setIfInBounds_toArray, List.set_cons_zero, List.set_cons_succ])
        refine take_first 5 (v := ?_) rfl (by kernel_rfl) (by kernel_rfl) (by kernel_rfl) (fun _ _ _ h => h) (Or.inl ⟨by rfl, by intro wx hSw; (try dsimp only at hSw); obtain ⟨hb, k1⟩ := hSw; go_simp; try with_reducible rfl⟩) (by assumption) ?_
        (try simp only [Act.put, List.setIfInBounds_toArray, List.set_cons_zero, List.set_cons_succ])
        refine comes_up 1 rfl (by kernel_rfl) (fun K hK => ?_)
        go_simp
        refine (hlst _ hS.1).mono ?_
        rintro x w1 ⟨rfl, rfl⟩
        go_wp2_with fail
        refine hK.out _ _ hS (fun hHeld => ?_)
        clear hK K
        (try simp only [Act.put, List.setIfInBounds_toArray, List.set_cons_zero, List.set_cons_succ])
        refine take_first 6 (v := ?_) rfl (by kernel_rfl) (by kernel_rfl) (by kernel_rfl) (fun _ _ _ h => h) (Or.inl ⟨by rfl, by intro wx hSw; (try dsimp only at hSw); obtain ⟨hb, k1⟩ := hSw; go_simp; try with_reducible rfl⟩) (by assumption) ?_
        (try simp only [Act.put, List.setIfInBounds_toArray, List.set_cons_zero, List.set_cons_succ])
        refine take_first 7 (v := ?_) rfl (by kernel_rfl) (by kernel_rfl) (by kernel_rfl) (fun _ _ _ h => h) (Or.inl ⟨by rfl, by intro wx hSw; (try dsimp only at hSw); obtain ⟨hb, k1⟩ := hSw; go_simp; try with_reducible rfl⟩) (by assumption) ?_
        (try simp only [Act.put, List.setIfInBounds_toArray, List.set_cons_zero, List.set_cons_succ])
        refine take_first 8 (v := ?_) rfl (by kernel_rfl) (by kernel_rfl) (by kernel_rfl) (fun _ _ _ h => h) (Or.inl ⟨by rfl, by intro wx hSw; (try dsimp only at hSw); obtain ⟨hb, k1⟩ := hSw; go_simp; try with_reducible rfl⟩) (by assumption) ?_
        (try simp only [Act.put, List.setIfInBounds_toArray, List.set_cons_zero, List.set_cons_succ])
        refine take_first 9 (v := ?_) rfl (by kernel_rfl) (by kernel_rfl) (by kernel_rfl) (fun _ _ _ h => h) (Or.inl ⟨by rfl, by intro wx hSw; (try dsimp only at hSw); obtain ⟨hb, k1⟩ := hSw; go_simp; try with_reducible rfl⟩) (by assumption) ?_
        (try simp only [Act.put, List.setIfInBounds_toArray, List.set_cons_zero, List.set_cons_succ])
        refine comes_up 10 rfl (by kernel_rfl) (fun K hK => ?_)
        go_simp
        refine (hnd _ hS.1).mono ?_
        rintro x w1 ⟨rfl, b1⟩
        have hb1 : Mb w1 F Z q M o := hS.1.still b1
        have hS1 : Mb w1 F Z q M o ∧ w1.cell? ⟨q, 1, none⟩ = some (.int .i64 (M.self : Nat)) := ⟨hb1, (HK.out _ hb1).1⟩
        have HU : Hid (Below w.heap.size w w1) := bl_step ((Below.refl _ w).drew) b1
        clear b1 hb1 hS hnd hlst
        go_wp2_with fail
        refine hK.out _ _ hS1 (fun hHeld => ?_)
        clear hK K
        (try simp only [Act.put, List.setIfInBounds_toArray, List.set_cons_zero, List.set_cons_succ])
        refine take_first 11 (v := ?_) rfl (by kernel_rfl) (by kernel_rfl) (by kernel_rfl) (fun _ _ _ h => h) (Or.inl ⟨by rfl, by intro wx hSw; (try dsimp only at hSw); obtain ⟨hb, k1⟩ := hSw; go_simp; try with_reducible rfl⟩) (by assumption) ?_
        (try simp only [Act.put, List.setIfInBounds_toArray, List.set_cons_zero, List.set_cons_succ])
        refine take_first 12 (v := ?_) rfl (by kernel_rfl) (by kernel_rfl) (by kernel_rfl) (fun _ _ _ h => h) (Or.inl ⟨by rfl, by intro wx hSw; (try dsimp only at hSw); obtain ⟨hb, k1⟩ := hSw; go_simp; try with_reducible rfl⟩) (by assumption) ?_
        (try simp only [Act.put, List.setIfInBounds_toArray, List.set_cons_zero, List.set_cons_succ])
        refine take_first 13 (v := ?_) rfl (by kernel_rfl) (by kernel_rfl) (by kernel_rfl) (fun _ _ _ h => h) (Or.inl ⟨by rfl, by intro wx hSw; (try dsimp only at hSw); obtain ⟨hb, k1⟩ := hSw; go_simp; try with_reducible rfl⟩) (by assumption) ?_
        (try simp only [Act.put, List.setIfInBounds_toArray, List.set_cons_zero, List.set_cons_succ])
        refine take_first 14 (v := ?_) rfl (by kernel_rfl) (by kernel_rfl) (by kernel_rfl) (fun _ _ _ h => h) (Or.inl ⟨by rfl, by intro wx hSw; (try dsimp only at hSw); obtain ⟨hb, k1⟩ := hSw; go_simp; try with_reducible rfl⟩) (by assumption) ?_
        (try simp only [Act.put, List.setIfInBounds_toArray, List.set_cons_zero, List.set_cons_succ])
        refine take_first 15 (v := ?_) rfl (by kernel_rfl) (by kernel_rfl) (by kernel_rfl) (fun _ _ _ h => h) (Or.inl ⟨by rfl, by intro wx hSw; (try dsimp only at hSw); obtain ⟨hb, k1⟩ := hSw; go_simp; try with_reducible rfl⟩) (by assumption) ?_
        (try simp only [Act.put, List.setIfInBounds_toArray, List.set_cons_zero, List.set_cons_succ])
        refine comes_up 16 rfl (by kernel_rfl) (fun K hK => ?_)
        go_simp
        refine (hst _ hS1.1).mono ?_
        rintro x w2 ⟨rfl, b2⟩
        have hb2 : Mb w2 F Z q M o := hS1.1.still b2
        have hS2 : Mb w2 F Z q M o ∧ w2.cell? ⟨q, 1, none⟩ = some (.int .i64 (M.self : Nat)) := ⟨hb2, (HK.out _ hb2).1⟩
        have c7 := (HK.out _ hb2).2
        have HU2 : Hid (Below w.heap.size w w2) := bl_step HU.out b2
        clear b2 hb2 hS1 hst HU
        go_wp2_with fail
        refine hK.out _ _ hS2 (fun hHeld => ?_)
        clear hK K
        (try simp only [Act.put, List.setIfInBounds_toArray, List.set_cons_zero, List.set_cons_succ])
        refine take_first 17 (v := ?_) rfl (by kernel_rfl) (by kernel_rfl) (by kernel_rfl) (fun _ _ _ h => h) (Or.inl ⟨by rfl, by intro wx hSw; (try dsimp only at hSw); obtain ⟨hb, k1⟩ := hSw; go_simp; try with_reducible rfl⟩) (by assumption) ?_
        (try simp only [Act.put, List.setIfInBounds_toArray, List.set_cons_zero, List.set_cons_succ])
        refine wpAnyH_done (by kernel_rfl) ?_ _
        refine NoPanic.normal ?_
        clear hS2
        go_wp2
        go_ret
        exact ⟨ret_bool (by apply Bool.eq_iff_iff.2; simp; omega), HU2.out⟩
  · rw [show decide (leastN e = (M.self : Int)) = false by simpa using hl, Bool.false_and, Bool.false_and, Bool.false_and]
    have hlb : (leastN e == (M.self : Int)) = false := by simpa using hl
    generalize leastN e = le at *
    clear hl hnd hst
    go_enter Tryd.func31, Tryd.ntmps31
    go_wp2_with fail
    refine wp_region_noPanic ?_
    refine wp_region_held_drew (S := fun wx => Mb wx F Z q M o ∧ wx.cell? ⟨q, 1, none⟩ = some (.int .i64 (M.self : Nat))) (by kernel_rfl) hS (fun hHeld => ?_)
    refine take_first 0 (v := ?_) rfl (by kernel_rfl) (by kernel_rfl) (by kernel_rfl) (fun _ _ _ h => h) (Or.inl ⟨by rfl, by intro wx hSw; (try dsimp only at hSw); obtain ⟨hb, k1⟩ := hSw; go_simp; try with_reducible rfl⟩) (by assumption) ?_
    (try simp only [Act.put, List.setIfInBounds_toArray, List.set_cons_zero, List.set_cons_succ])
    refine take_first 2 (v := ?_) rfl (by kernel_rfl) (by kernel_rfl) (by kernel_rfl) (fun _ _ _ h => h) (Or.inl ⟨by rfl, by intro wx hSw; (try dsimp only at hSw); obtain ⟨hb, k1⟩ := hSw; go_simp; try with_reducible rfl⟩) (by assumption) ?_
    (try simp only [Act.put, List.setIfInBounds_toArray, List.set_cons_zero, List.set_cons_succ])
    refine take_first 3 (v := ?_) rfl (by kernel_rfl) (by kernel_rfl) (by kernel_rfl) (fun _ _ _ h => h) (Or.inl ⟨by rfl, by intro wx hSw; (try dsimp only at hSw); obtain ⟨hb, k1⟩ := hSw; go_simp; try with_reducible rfl⟩) (by assumption) ?_
    (try simp only [Act.put, List.setIfInBounds_toArray, List.set_cons_zero, List.set_cons_succ])
    refine take_first 4 (v := ?_) rfl (by kernel_rfl) (by kernel_rfl) (by kernel_rfl) (fun _ _ _ h => h) (Or.inl ⟨by rfl, by intro wx hSw; (try dsimp only at hSw); obtain ⟨hb, k1⟩ := hSw; go_simp; try with_reducible rfl⟩) (by assumption) ?_
    (try simp only [Act.put, List.setIfInBounds_toArray, List.set_cons_zero, List.set_cons_succ])
    refine take_first 5 (v := ?_) rfl (by kernel_rfl) (by kernel_rfl) (by kernel_rfl) (fun _ _ _ h => h) (Or.inl ⟨by rfl, by intro wx hSw; (try dsimp only at hSw); obtain ⟨hb, k1⟩ := hSw; go_simp; try with_reducible rfl⟩) (by assumption) ?_
    (try simp only [Act.put, List.setIfInBounds_toArray, List.set_cons_zero, List.set_cons_succ])
    refine comes_up 1 rfl (by kernel_rfl) (fun K hK => ?_)
    go_simp
    refine (hlst _ hS.1).mono ?_
    rintro x w1 ⟨rfl, rfl⟩
    clear hlst
    go_wp2_with fail
    refine hK.out _ _ hS (fun hHeld => ?_)
    clear hK K
    (try simp only [Act.put, List.setIfInBounds_toArray, List.set_cons_zero, List.set_cons_succ])
    refine take_first 6 (v := .bool true) rfl (by kernel_rfl) (by kernel_rfl) (by kernel_rfl) (fun _ _ _ h => h) (Or.inl ⟨by rfl, by intro wx hSw; go_simp; simpa using hlb⟩) (by assumption) ?_
    (try simp only [Act.put, List.setIfInBounds_toArray, List.set_cons_zero, List.set_cons_succ])
    refine take_first 7 (v := ?_) rfl (by kernel_rfl) (by kernel_rfl) (by kernel_rfl) (fun _ _ _ h => h) (Or.inl ⟨by rfl, by intro wx hSw; (try dsimp only at hSw); obtain ⟨hb, k1⟩ := hSw; go_simp; try with_reducible rfl⟩) (by assumption) ?_
    (try simp only [Act.put, List.setIfInBounds_toArray, List.set_cons_zero, List.set_cons_succ])
    refine take_first 8 (v := undef) rfl (by kernel_rfl) (by kernel_rfl) (by kernel_rfl) (fun _ _ _ h => h) (Or.inr ⟨by rfl, rfl⟩) (by assumption) ?_
    (try simp only [Act.put, List.setIfInBounds_toArray, List.set_cons_zero, List.set_cons_succ])
    refine take_first 9 (v := undef) rfl (by kernel_rfl) (by kernel_rfl) (by kernel_rfl) (fun _ _ _ h => h) (Or.inr ⟨by rfl, rfl⟩) (by assumption) ?_
    (try simp only [Act.put, List.setIfInBounds_toArray, List.set_cons_zero, List.set_cons_succ])
    refine take_first 10 (v := undef) rfl (by kernel_rfl) (by kernel_rfl) (by kernel_rfl) (fun _ _ _ h => h) (Or.inr ⟨by rfl, rfl⟩) (by assumption) ?_
    (try simp only [Act.put, List.setIfInBounds_toArray, List.set_cons_zero, List.set_cons_succ])
    refine take_first 11 (v := undef) rfl (by kernel_rfl) (by kernel_rfl) (by kernel_rfl) (fun _ _ _ h => h) (Or.inr ⟨by rfl, rfl⟩) (by assumption) ?_
    (try simp only [Act.put, List.setIfInBounds_toArray, List.set_cons_zero, List.set_cons_succ])
    refine take_first 12 (v := ?_) rfl (by kernel_rfl) (by kernel_rfl) (by kernel_rfl) (fun _ _ _ h => h) (Or.inl ⟨by rfl, by intro wx hSw; (try dsimp only at hSw); obtain ⟨hb, k1⟩ := hSw; go_simp; try with_reducible rfl⟩) (by assumption) ?_
    (try simp only [Act.put, List.setIfInBounds_toArray, List.set_cons_zero, List.set_cons_succ])
    refine take_first 13 (v := ?_) rfl (by kernel_rfl) (by kernel_rfl) (by kernel_rfl) (fun _ _ _ h => h) (Or.inl ⟨by rfl, by intro wx hSw; (try dsimp only at hSw); obtain ⟨hb, k1⟩ := hSw; go_simp; try with_reducible rfl⟩) (by assumption) ?_
    (try simp only [Act.put, List.setIfInBounds_toArray, List.set_cons_zero, List.set_cons_succ])
    refine take_first 14 (v := undef) rfl (by kernel_rfl) (by kernel_rfl) (by kernel_rfl) (fun _ _ _ h => h) (Or.inr ⟨by rfl, rfl⟩) (by assumption) ?_
    (try simp only [Act.put, List.setIfInBounds_toArray, List.set_cons_zero, List.set_cons_succ])
    refine take_first 15 (v := undef) rfl (by kernel_rfl) (by kernel_rfl) (by kernel_rfl) (fun _ _ _ h => h) (Or.inr ⟨by rfl, rfl⟩) (by assumption) ?_
    (try simp only [Act.put, List.setIfInBounds_toArray, List.set_cons_zero, List.set_cons_succ])
    refine take_first 16 (v := undef) rfl (by kernel_rfl) (by kernel_rfl) (by kernel_rfl) (fun _ _ _ h => h) (Or.inr ⟨by rfl, rfl⟩) (by assumption) ?_
    (try simp only [Act.put, List.setIfInBounds_toArray, List.set_cons_zero, List.set_cons_succ])
    refine take_first 17 (v := ?_) rfl (by kernel_rfl) (by kernel_rfl) (by kernel_rfl) (fun _ _ _ h => h) (Or.inl ⟨by rfl, by intro wx hSw; (try dsimp only at hSw); obtain ⟨hb, k1⟩ := hSw; go_simp; try with_reducible rfl⟩) (by assumption) ?_
    (try simp only [Act.put, List.setIfInBounds_toArray, List.set_cons_zero, List.set_cons_succ])
    refine wpAnyH_done (by kernel_rfl) ?_ _
    refine NoPanic.normal ?_
    go_wp2
    go_ret
    exact ⟨rfl, (Below.refl _ w).drew⟩
end
end Go.Proofs.YtlonbbepoamnmaaDoor
