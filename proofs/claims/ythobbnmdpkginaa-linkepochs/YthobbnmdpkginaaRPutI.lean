/-
  The call Put of a ring, for things of one kind.
-/
import Derived.Test.YthobbnmdpkginaaRGrowI
namespace Go.Proofs.Ythobbnmdpkginaa
open Go.RowKit
set_option linter.unusedVariables false

theorem putI_nil (w : World) (x : Value) : Calls Try.prog 60 #[.pointer none, x] w fun e w' => e = .returned (.int .i64 6) ∧ w = w' := by
  go_enter Try.func60, Try.ntmps60
  go_wp2
  go_ret
  exact ⟨rfl, rfl⟩

theorem putI_busy {w : World} {p : Nat} {sv : Value} {most first : Nat} {xs : List Value} (h : Ring w 3 p sv most first xs) (hf : xs.length = most) (x : Value) : Calls Try.prog 60 #[.pointer (some ⟨p, 0, none⟩), x] w fun e w' => e = .returned (.int .i64 7) ∧ ∃ q, w' = w.drewN q := by
  have hr := roomI_any h
  have e0 : ((most : Int) - xs.length) = 0 := by omega
  rw [e0] at hr
  clear h hf e0
  go_enter Try.func60, Try.ntmps60
  go_wp2_with fail
  refine hr.mono ?_
  rintro e w2 ⟨rfl, q, rfl⟩
  go_wp2
  go_ret
  exact ⟨rfl, q, rfl⟩

set_option maxRecDepth 10000 in
set_option maxHeartbeats 1000000 in
theorem putI_any {w : World} {p : Nat} {sv : Value} {most first : Nat} {xs : List Value} (h : Ring w 3 p sv most first xs) (hf : xs.length < most) (x : Value) (hx : One x) :
    Calls Try.prog 60 #[.pointer (some ⟨p, 0, none⟩), x] w fun e w' => e = .returned (.int .i64 0) ∧ ∃ sv' first', Ring w' 3 p sv' most first' (xs ++ [x]) ∧ Goes p sv w sv' w' := by
  obtain ⟨hx1, hx2⟩ := hx
  have hst := fun W a m => run_store Try.prog W a x m hx2
  have hr := roomI_any h
  have h256 := h.most256
  have hne : ((((most : Int) - xs.length) == 0) = false) := by simp; omega
  have hc1 := h.c1
  have hc3 := h.c3
  -- what is left behind a free slot
  have fin : ∀ (W0 : World) (b n f' : Nat), Ring W0 3 p (.slice (some ⟨b, 0, none⟩) n n) most f' xs → xs.length < n → Goes p sv w (.slice (some ⟨b, 0, none⟩) n n) W0 →
      (W0.cell? ⟨p, 1, none⟩ = some (.slice (some ⟨b, 0, none⟩) n n) ∧ W0.cell? ⟨p, 2, none⟩ = some (.int .i64 (f' : Nat)) ∧ W0.cell? ⟨p, 3, none⟩ = some (.int .i64 (xs.length : Nat)) ∧ W0.frozen? ⟨p, 3, none⟩ = false ∧ 0 < n ∧ n ≤ 256 ∧ f' ≤ 256) ∧ ∃ s v0, Hid ((f' + xs.length) % n = s) ∧ s < n ∧ W0.cell? ⟨b, s, none⟩ = some v0 ∧ W0.frozen? ⟨b, s, none⟩ = false ∧
      (∀ q, ((W0.drewN q).setCell ⟨b, s, none⟩ x).cell? ⟨p, 3, none⟩ = some (.int .i64 (xs.length : Nat)) ∧ ((W0.drewN q).setCell ⟨b, s, none⟩ x).cell? ⟨p, 1, none⟩ = some (.slice (some ⟨b, 0, none⟩) n n)) ∧
      Hid (∀ q, ∃ sv' first', Ring (((W0.drewN q).setCell ⟨b, s, none⟩ x).setCell ⟨p, 3, none⟩ (.int .i64 ((xs.length : Nat) + 1))) 3 p sv' most first' (xs ++ [x]) ∧ Goes p sv w sv' (((W0.drewN q).setCell ⟨b, s, none⟩ x).setCell ⟨p, 3, none⟩ (.int .i64 ((xs.length : Nat) + 1)))) := by
    intro W0 b n f' hR hn hG
    rcases hR.slots with ⟨h0, _⟩ | ⟨b', n', f, hs, h1, h2, h3, h4, h5, h6, h7⟩
    · cases h0
    · simp only [Value.slice.injEq, Option.some.injEq, Addr.mk.injEq, and_true] at hs
      obtain ⟨rfl, rfl, -⟩ := hs
      refine ⟨⟨hR.c1, hR.c2, hR.c3, hR.fr 3, h2, by omega, by omega⟩, _, _, rfl, Nat.mod_lt _ h2, h6.cell (Nat.mod_lt _ h2), h6.frozen _, fun q => ⟨?_, ?_⟩, fun q => ⟨_, _, (hR.drewN q).put hn hf x ⟨hx1, hx2⟩, ?_⟩⟩
      · rw [set_cell_other (by omega)]; exact hR.c3
      · rw [set_cell_other (by omega)]; exact hR.c1
      · exact hG.trans ⟨Turned.setCell (Turned.setCell ((Turned.refl _ _).drewN q) (.inl (.inr rfl)) _) (.inl (.inl rfl)) _, fun _ hb => .inl hb⟩
  simp only [Value.cells] at hx1
  have HB : Hid (∀ q, Ring (w.drewN q) 3 p sv most first xs) := fun q => h.drewN q
  have hgr := fun q => growI_any (h.drewN q) hf
  by_cases hcase : ∃ b n, sv = .slice (some ⟨b, 0, none⟩) n n ∧ xs.length < n
  · obtain ⟨b, n, rfl, hn⟩ := hcase
    have hfin := fin w b n first h hn (Goes.refl _ _ _)
    obtain ⟨f', hf'⟩ : ∃ f', first = f' := ⟨_, rfl⟩
    subst hf'
    have hdec : ((xs.length : Int) == (n : Int)) = false := by simp; omega
    clear fin HB hgr h
    go_enter Try.func60, Try.ntmps60
    go_wp2_with fail
    refine hr.mono ?_
    rintro e w1 ⟨rfl, q1, rfl⟩
    go_wp2_with fail
    go_quiet (fail)
    go_wp2_with fail
    obtain ⟨⟨f1, f2, f3, f4, f5, f6, f7⟩, s, v0, HS, hsn, hs0, hsf, hA, HE⟩ := hfin
    have hslot := fun wx (g1 : wx.cell? ⟨p, 1, none⟩ = some (.slice (some ⟨b, 0, none⟩) n n)) (g2 : wx.cell? ⟨p, 2, none⟩ = some (.int .i64 (first : Nat))) => slotI_any (w := wx) (place := xs.length) g1 g2 f5 f6 f7 (by omega)
    rw [HS.out] at hslot
    have hsnI : (s : Int) < n := by omega
    refine wp_region_noPanic ?_
    refine wp_region_held_drew (S := fun wx => wx.cell? ⟨p, 3, none⟩ = some (.int .i64 (xs.length : Nat)) ∧ wx.cell? ⟨p, 1, none⟩ = some (.slice (some ⟨b, 0, none⟩) n n)) (by kernel_rfl) (show _ ∧ _ from ⟨f3, f1⟩) (fun hHeld => ?_)
    refine take_first 0 (v := ?_) rfl (by kernel_rfl) (by kernel_rfl) (by kernel_rfl) (fun _ _ _ h => h) (Or.inl ⟨by rfl, by intro wx hSw; (try dsimp only at hSw); obtain ⟨hSw1, hSw2⟩ := hSw; go_simp; try with_reducible rfl⟩) (by assumption) ?_
    (try simp only [Act.put, List.setIfInBounds_toArray, List.set_cons_zero, List.set_cons_succ])
    refine take_first 1 (v := ?_) rfl (by kernel_rfl) (by kernel_rfl) (by kernel_rfl) (fun _ _ _ h => h) (Or.inl ⟨by rfl, by intro wx hSw; (try dsimp only at hSw); obtain ⟨hSw1, hSw2⟩ := hSw; go_simp; try with_reducible rfl⟩) (by assumption) ?_
    (try simp only [Act.put, List.setIfInBounds_toArray, List.set_cons_zero, List.set_cons_succ])
    refine take_first 2 (v := ?_) rfl (by kernel_rfl) (by kernel_rfl) (by kernel_rfl) (fun _ _ _ h => h) (Or.inl ⟨by rfl, by intro wx hSw; (try dsimp only at hSw); obtain ⟨hSw1, hSw2⟩ := hSw; go_simp; try with_reducible rfl⟩) (by assumption) ?_
    (try simp only [Act.put, List.setIfInBounds_toArray, List.set_cons_zero, List.set_cons_succ])
    refine take_first 3 (v := ?_) rfl (by kernel_rfl) (by kernel_rfl) (by kernel_rfl) (fun _ _ _ h => h) (Or.inl ⟨by rfl, by intro wx hSw; (try dsimp only at hSw); obtain ⟨hSw1, hSw2⟩ := hSw; go_simp; try with_reducible rfl⟩) (by assumption) ?_
    (try simp only [Act.put, List.setIfInBounds_toArray, List.set_cons_zero, List.set_cons_succ])
    refine take_first 4 (v := ?_) rfl (by kernel_rfl) (by kernel_rfl) (by kernel_rfl) (fun _ _ _ h => h) (Or.inl ⟨by rfl, by intro wx hSw; (try dsimp only at hSw); obtain ⟨hSw1, hSw2⟩ := hSw; go_simp; try with_reducible rfl⟩) (by assumption) ?_
    (try simp only [Act.put, List.setIfInBounds_toArray, List.set_cons_zero, List.set_cons_succ])
    refine take_first 5 (v := ?_) rfl (by kernel_rfl) (by kernel_rfl) (by kernel_rfl) (fun _ _ _ h => h) (Or.inl ⟨by rfl, by intro wx hSw; (try dsimp only at hSw); obtain ⟨hSw1, hSw2⟩ := hSw; go_simp; try with_reducible rfl⟩) (by assumption) ?_
    (try simp only [Act.put, List.setIfInBounds_toArray, List.set_cons_zero, List.set_cons_succ])
    refine take_first 6 (v := ?_) rfl (by kernel_rfl) (by kernel_rfl) (by kernel_rfl) (fun _ _ _ h => h) (Or.inl ⟨by rfl, by intro wx hSw; (try dsimp only at hSw); obtain ⟨hSw1, hSw2⟩ := hSw; go_simp; try with_reducible rfl⟩) (by assumption) ?_
    (try simp only [Act.put, List.setIfInBounds_toArray, List.set_cons_zero, List.set_cons_succ])
    refine take_first 7 (v := ?_) rfl (by kernel_rfl) (by kernel_rfl) (by kernel_rfl) (fun _ _ _ h => h) (Or.inl ⟨by rfl, by intro wx hSw; (try dsimp only at hSw); obtain ⟨hSw1, hSw2⟩ := hSw; go_simp; try with_reducible rfl⟩) (by assumption) ?_
    (try simp only [Act.put, List.setIfInBounds_toArray, List.set_cons_zero, List.set_cons_succ])
    refine take_first 8 (v := ?_) rfl (by kernel_rfl) (by kernel_rfl) (by kernel_rfl) (fun _ _ _ h => h) (Or.inl ⟨by rfl, by intro wx hSw; (try dsimp only at hSw); obtain ⟨hSw1, hSw2⟩ := hSw; go_simp; try with_reducible rfl⟩) (by assumption) ?_
    (try simp only [Act.put, List.setIfInBounds_toArray, List.set_cons_zero, List.set_cons_succ])
    refine take_first 10 (v := ?_) rfl (by kernel_rfl) (by kernel_rfl) (by kernel_rfl) (fun _ _ _ h => h) (Or.inl ⟨by rfl, by intro wx hSw; (try dsimp only at hSw); obtain ⟨hSw1, hSw2⟩ := hSw; go_simp; try with_reducible rfl⟩) (by assumption) ?_
    (try simp only [Act.put, List.setIfInBounds_toArray, List.set_cons_zero, List.set_cons_succ])
    refine comes_up 9 rfl (by kernel_rfl) (fun K hK => ?_)
    go_simp
    refine (hslot _ ?g1 ?g2).mono ?_
    case g1 => exact f1
    case g2 => exact f2
    rintro e w2 ⟨rfl, q2, rfl⟩
    go_wp2_with fail
    refine hK.out _ _ ⟨f3, f1⟩ (fun hHeld => ?_)
    clear hK K
    (try simp only [Act.put, List.setIfInBounds_toArray, List.set_cons_zero, List.set_cons_succ])
    refine take_first 11 (v := ?_) rfl (by kernel_rfl) (by kernel_rfl) (by kernel_rfl) (fun _ _ _ h => h) (Or.inl ⟨by rfl, by intro wx hSw; (try dsimp only at hSw); obtain ⟨hSw1, hSw2⟩ := hSw; go_simp; try with_reducible rfl⟩) (by assumption) ?_
    (try simp only [Act.put, List.setIfInBounds_toArray, List.set_cons_zero, List.set_cons_succ])
    refine comes_up 12 rfl (by kernel_rfl) (fun K hK => ?_)
    go_simp
    refine hK.out _ _ (hA _) (fun hHeld => ?_)
    clear hK K
    (try simp only [Act.put, List.setIfInBounds_toArray, List.set_cons_zero, List.set_cons_succ])
    refine wpAnyH_done (by kernel_rfl) ?_ _
    refine NoPanic.normal ?_
    go_wp2
    go_ret
    exact ⟨rfl, HE.out _⟩
  · have hlen : ∃ a c, sv = .slice a xs.length c := by
      rcases h.slots with ⟨rfl, _, rfl⟩ | ⟨b, n, f, rfl, h1, h2, h3, h4, h5, h6, h7⟩
      · exact ⟨_, _, rfl⟩
      · have : xs.length = n := by
          rcases Nat.lt_or_ge xs.length n with h8 | h8
          · exact (hcase ⟨b, n, rfl, h8⟩).elim
          · omega
        exact ⟨_, _, by rw [this]⟩
    obtain ⟨a, c, hsv⟩ := hlen
    have HSV : Hid (sv = .slice a xs.length c) := hsv
    rw [hsv] at hc1
    have hgr' : ∀ q, Calls Try.prog 70 #[.pointer (some ⟨p, 0, none⟩)] (w.drewN q) fun e w' => e = .returned (.tuple #[]) ∧ ∃ b n, Hid (xs.length < n ∧ Ring w' 3 p (.slice (some ⟨b, 0, none⟩) n n) most 0 xs ∧ Goes p sv w (.slice (some ⟨b, 0, none⟩) n n) w') := fun q => (hgr q).mono (by
      rintro e w' ⟨he, b, n, h1, h2, h3, h4⟩
      exact ⟨he, b, n, h2, h3, (Goes.drewN _ _ _ q).trans h4⟩)
    clear hcase HB hgr h hsv
    go_enter Try.func60, Try.ntmps60
    go_wp2_with fail
    refine hr.mono ?_
    rintro e w1 ⟨rfl, q1, rfl⟩
    go_wp2_with fail
    go_quiet (fail)
    go_wp2_with fail
    refine (hgr' _).mono ?_
    rintro e w3 ⟨rfl, b, n, HH⟩
    have hfin := fin w3 b n 0 HH.out.2.1 HH.out.1 HH.out.2.2
    clear fin hgr' HH hc1 hc3
    go_wp2_with fail
    obtain ⟨⟨f1, f2, f3, f4, f5, f6, f7⟩, s, v0, HS, hsn, hs0, hsf, hA, HE⟩ := hfin
    have hslot := fun wx (g1 : wx.cell? ⟨p, 1, none⟩ = some (.slice (some ⟨b, 0, none⟩) n n)) (g2 : wx.cell? ⟨p, 2, none⟩ = some (.int .i64 ((0 : Nat) : Int))) => slotI_any (w := wx) (place := xs.length) g1 g2 f5 f6 f7 (by omega)
    rw [HS.out] at hslot
    have hsnI : (s : Int) < n := by omega
    refine wp_region_noPanic ?_
    refine wp_region_held_drew (S := fun wx => wx.cell? ⟨p, 3, none⟩ = some (.int .i64 (xs.length : Nat)) ∧ wx.cell? ⟨p, 1, none⟩ = some (.slice (some ⟨b, 0, none⟩) n n)) (by kernel_rfl) (show _ ∧ _ from ⟨f3, f1⟩) (fun hHeld => ?_)
    refine take_first 0 (v := ?_) rfl (by kernel_rfl) (by kernel_rfl) (by kernel_rfl) (fun _ _ _ h => h) (Or.inl ⟨by rfl, by intro wx hSw; (try dsimp only at hSw); obtain ⟨hSw1, hSw2⟩ := hSw; go_simp; try with_reducible rfl⟩) (by assumption) ?_
    (try simp only [Act.put, List.setIfInBounds_toArray, List.set_cons_zero, List.set_cons_succ])
    refine take_first 1 (v := ?_) rfl (by kernel_rfl) (by kernel_rfl) (by kernel_rfl) (fun _ _ _ h => h) (Or.inl ⟨by rfl, by intro wx hSw; (try dsimp only at hSw); obtain ⟨hSw1, hSw2⟩ := hSw; go_simp; try with_reducible rfl⟩) (by assumption) ?_
    (try simp only [Act.put, List.setIfInBounds_toArray, List.set_cons_zero, List.set_cons_succ])
    refine take_first 2 (v := ?_) rfl (by kernel_rfl) (by kernel_rfl) (by kernel_rfl) (fun _ _ _ h => h) (Or.inl ⟨by rfl, by intro wx hSw; (try dsimp only at hSw); obtain ⟨hSw1, hSw2⟩ := hSw; go_simp; try with_reducible rfl⟩) (by assumption) ?_
    (try simp only [Act.put, List.setIfInBounds_toArray, List.set_cons_zero, List.set_cons_succ])
    refine take_first 3 (v := ?_) rfl (by kernel_rfl) (by kernel_rfl) (by kernel_rfl) (fun _ _ _ h => h) (Or.inl ⟨by rfl, by intro wx hSw; (try dsimp only at hSw); obtain ⟨hSw1, hSw2⟩ := hSw; go_simp; try with_reducible rfl⟩) (by assumption) ?_
    (try simp only [Act.put, List.setIfInBounds_toArray, List.set_cons_zero, List.set_cons_succ])
    refine take_first 4 (v := ?_) rfl (by kernel_rfl) (by kernel_rfl) (by kernel_rfl) (fun _ _ _ h => h) (Or.inl ⟨by rfl, by intro wx hSw; (try dsimp only at hSw); obtain ⟨hSw1, hSw2⟩ := hSw; go_simp; try with_reducible rfl⟩) (by assumption) ?_
    (try simp only [Act.put, List.setIfInBounds_toArray, List.set_cons_zero, List.set_cons_succ])
    refine take_first 5 (v := ?_) rfl (by kernel_rfl) (by kernel_rfl) (by kernel_rfl) (fun _ _ _ h => h) (Or.inl ⟨by rfl, by intro wx hSw; (try dsimp only at hSw); obtain ⟨hSw1, hSw2⟩ := hSw; go_simp; try with_reducible rfl⟩) (by assumption) ?_
    (try simp only [Act.put, List.setIfInBounds_toArray, List.set_cons_zero, List.set_cons_succ])
    refine take_first 6 (v := ?_) rfl (by kernel_rfl) (by kernel_rfl) (by kernel_rfl) (fun _ _ _ h => h) (Or.inl ⟨by rfl, by intro wx hSw; (try dsimp only at hSw); obtain ⟨hSw1, hSw2⟩ := hSw; go_simp; try with_reducible rfl⟩) (by assumption) ?_
    (try simp only [Act.put, List.setIfInBounds_toArray, List.set_cons_zero, List.set_cons_succ])
    refine take_first 7 (v := ?_) rfl (by kernel_rfl) (by kernel_rfl) (by kernel_rfl) (fun _ _ _ h => h) (Or.inl ⟨by rfl, by intro wx hSw; (try dsimp only at hSw); obtain ⟨hSw1, hSw2⟩ := hSw; go_simp; try with_reducible rfl⟩) (by assumption) ?_
    (try simp only [Act.put, List.setIfInBounds_toArray, List.set_cons_zero, List.set_cons_succ])
    refine take_first 8 (v := ?_) rfl (by kernel_rfl) (by kernel_rfl) (by kernel_rfl) (fun _ _ _ h => h) (Or.inl ⟨by rfl, by intro wx hSw; (try dsimp only at hSw); obtain ⟨hSw1, hSw2⟩ := hSw; go_simp; try with_reducible rfl⟩) (by assumption) ?_
    (try simp only [Act.put, List.setIfInBounds_toArray, List.set_cons_zero, List.set_cons_succ])
    refine take_first 10 (v := ?_) rfl (by kernel_rfl) (by kernel_rfl) (by kernel_rfl) (fun _ _ _ h => h) (Or.inl ⟨by rfl, by intro wx hSw; (try dsimp only at hSw); obtain ⟨hSw1, hSw2⟩ := hSw; go_simp; try with_reducible rfl⟩) (by assumption) ?_
    (try simp only [Act.put, List.setIfInBounds_toArray, List.set_cons_zero, List.set_cons_succ])
    refine comes_up 9 rfl (by kernel_rfl) (fun K hK => ?_)
    go_simp
    refine (hslot _ ?g1 ?g2).mono ?_
    case g1 => exact f1
    case g2 => exact f2
    rintro e w2 ⟨rfl, q2, rfl⟩
    go_wp2_with fail
    refine hK.out _ _ ⟨f3, f1⟩ (fun hHeld => ?_)
    clear hK K
    (try simp only [Act.put, List.setIfInBounds_toArray, List.set_cons_zero, List.set_cons_succ])
    refine take_first 11 (v := ?_) rfl (by kernel_rfl) (by kernel_rfl) (by kernel_rfl) (fun _ _ _ h => h) (Or.inl ⟨by rfl, by intro wx hSw; (try dsimp only at hSw); obtain ⟨hSw1, hSw2⟩ := hSw; go_simp; try with_reducible rfl⟩) (by assumption) ?_
    (try simp only [Act.put, List.setIfInBounds_toArray, List.set_cons_zero, List.set_cons_succ])
    refine comes_up 12 rfl (by kernel_rfl) (fun K hK => ?_)
    go_simp
    refine hK.out _ _ (hA _) (fun hHeld => ?_)
    clear hK K
    (try simp only [Act.put, List.setIfInBounds_toArray, List.set_cons_zero, List.set_cons_succ])
    refine wpAnyH_done (by kernel_rfl) ?_ _
    refine NoPanic.normal ?_
    go_wp2
    go_ret
    exact ⟨rfl, HE.out _⟩

end Go.Proofs.Ythobbnmdpkginaa
