/-
  The inner call lay of a ring, for things of one kind: the first things, written into a row of one's own.
-/
import Derived.Test.YthobbnmdpkginaaRCallI
namespace Go.Proofs.Ythobbnmdpkginaa
open Go.RowKit
set_option linter.unusedVariables false

set_option maxRecDepth 10000 in
set_option maxHeartbeats 1000000 in
theorem layI_any {w : World} {p : Nat} {sv : Value} {most first : Nat} {xs : List Value} (h : Ring w 3 p sv most first xs) {d m : Nat} {g : Nat → Value} (hd : w.rowIs d 3 m g) (hdf : ¬ Foot p sv d) (hm : m ≤ 256) :
    Calls Try.prog 71 #[.pointer (some ⟨p, 0, none⟩), .slice (some ⟨d, 0, none⟩) m m] w fun e w' => e = .returned (.tuple #[]) ∧ Turned (fun i => i = d) w w' ∧ ∃ g', w'.rowIs d 3 m g' ∧ ∀ j x, j < m → xs[j]? = some x → g' j = x := by
  have hc3 := h.c3
  have h256 := h.most256
  have hle := h.le
  have hdp : d ≠ p := fun e => hdf (.inl e)
  obtain ⟨L, HL⟩ : ∃ L, Hid (L = xs.length) := ⟨_, rfl⟩
  rw [← HL.out] at hc3 hle
  have H : Hid (Ring w 3 p sv most first xs) := h
  have HD : Hid (w.rowIs d 3 m g) := hd
  have HF : Hid (¬ Foot p sv d) := hdf
  clear h hd hdf
  by_cases hLm : L < m
  all_goals
    go_enter Try.func71, Try.ntmps71
    go_wp2
    go_loopw [12] (fun i wr => ∃ (k : Nat) (g' : Nat → Value), k ≤ m ∧ k ≤ L ∧ i = .int .i64 k ∧ Turned (fun i => i = d) w wr ∧ wr.rowIs d 3 m g' ∧ ∀ j x, j < k → xs[j]? = some x → g' j = x) (fun i _ => m - (intOf i).toNat)
    case atStart => exact ⟨0, g, by omega, by omega, rfl, Turned.refl _ _, HD.out, fun j x hj => by omega⟩
    case round =>
      obtain ⟨k, g', hk, hkL, rfl, ht, hr, hg⟩ := hrel
      have HG : Hid (∀ j x, j < k → xs[j]? = some x → g' j = x) := hg
      have HT : Hid (Turned (fun i => i = d) w wr) := ht
      have HR : Hid (wr.rowIs d 3 m g') := hr
      clear hg
      by_cases hlt : k < m ∧ k < L
      · obtain ⟨hlt1, hlt2⟩ := hlt
        have hring := H.out.turned ht (fun b hb e => HF.out (e ▸ hb))
        rcases hring.slots with ⟨_, _, hx⟩ | ⟨b, n, f, rfl, h1, h2, h3, h4, h5, h6, h7⟩
        · rw [HL.out, hx] at hlt2; simp at hlt2
        · obtain ⟨x, hx⟩ : ∃ x, xs[k]? = some x := ⟨_, List.getElem?_eq_getElem (by rw [← HL.out]; exact hlt2)⟩
          have hml := Nat.mod_lt (first + k) h2
          obtain ⟨hx1, hx2⟩ := hring.one x (List.mem_of_getElem? hx)
          have hst := fun W a m => run_store Try.prog W a x m hx2
          simp only [Value.cells] at hx1
          have hcell : wr.cell? ⟨b, (first + k) % n, none⟩ = some x := by rw [h6.cell hml, h7 k x hx]
          have hc1 := hring.c1
          have hdb : d ≠ b := fun e => HF.out (.inr (by rw [e]; rfl))
          have hdc := hr.cell hlt1
          have hdfz := hr.frozen k
          have hslot := fun wx (g1 : wx.cell? ⟨p, 1, none⟩ = some (.slice (some ⟨b, 0, none⟩) n n)) (g2 : wx.cell? ⟨p, 2, none⟩ = some (.int .i64 (first : Nat))) => slotI_any (w := wx) (place := k) g1 g2 h2 (by omega) (by omega) (by omega)
          have hc2 := hring.c2
          have hn256 : n ≤ 256 := by omega
          have HX : Hid (xs[k]? = some x) := hx
          have hne1 : ¬ (p = d ∧ (1 : Nat) = k) := fun hh => hdp hh.1.symm
          have hne2 : ¬ (p = d ∧ (2 : Nat) = k) := fun hh => hdp hh.1.symm
          have hne3 : ¬ (b = d ∧ (first + k) % n = k) := fun hh => hdb hh.1.symm
          have hmlI : (((first + k) % n : Nat) : Int) < (n : Int) := by omega
          obtain ⟨s, HS⟩ : ∃ s, Hid ((first + k) % n = s) := ⟨_, rfl⟩
          have hs' := HS.out
          simp only [hs'] at hslot hcell hml hmlI hne3
          have HA : Hid (∀ q, ((wr.drewN q).setCell ⟨d, k, none⟩ x).cell? ⟨p, 1, none⟩ = some (.slice (some ⟨b, 0, none⟩) n n) ∧ ((wr.drewN q).setCell ⟨d, k, none⟩ x).cell? ⟨b, s, none⟩ = some x) := fun q =>
            ⟨by rw [set_cell_other hne1]; exact hc1, by rw [set_cell_other hne3]; exact hcell⟩
          have HE : Hid (∀ q, ∃ g2, k + 1 ≤ m ∧ k + 1 ≤ L ∧ Turned (fun i => i = d) w ((wr.drewN q).setCell ⟨d, k, none⟩ x) ∧ ((wr.drewN q).setCell ⟨d, k, none⟩ x).rowIs d 3 m g2 ∧ ∀ j y, j < k + 1 → xs[j]? = some y → g2 j = y) := fun q =>
            ⟨_, by omega, by omega, (HT.out.drewN q).setCell (.inl rfl) x, World.rowIs.set (w := wr.drewN q) HR.out k x, fun j y hj hy => by
              by_cases e : j = k
              · subst e; rw [if_pos rfl]; rw [hx] at hy; exact Option.some.inj hy
              · rw [if_neg e]; exact HG.out j y (by omega) hy⟩
          clear hring h6 h7 hr ht hx hs' h1 h5
          have hltI : (k : Int) < L := by omega
          go_wp2_with fail
          refine wp_region_noPanic ?_
          refine wp_region_held_drew (S := fun wx => wx.cell? ⟨p, 1, none⟩ = some (.slice (some ⟨b, 0, none⟩) n n) ∧ wx.cell? ⟨b, s, none⟩ = some x) (by kernel_rfl) (show _ ∧ _ from ⟨hc1, hcell⟩) (fun hHeld => ?_)
          refine take_first 0 (v := ?_) rfl (by kernel_rfl) (by kernel_rfl) (by kernel_rfl) (fun _ _ _ h => h) (Or.inl ⟨by rfl, by intro wx hSw; (try dsimp only at hSw); obtain ⟨hSw1, hSw2⟩ := hSw; go_simp; try with_reducible rfl⟩) (by assumption) ?_
          (try simp only [Act.put, List.setIfInBounds_toArray, List.set_cons_zero, List.set_cons_succ])
          refine take_first 1 (v := ?_) rfl (by kernel_rfl) (by kernel_rfl) (by kernel_rfl) (fun _ _ _ h => h) (Or.inl ⟨by rfl, by intro wx hSw; (try dsimp only at hSw); obtain ⟨hSw1, hSw2⟩ := hSw; go_simp; try with_reducible rfl⟩) (by assumption) ?_
          (try simp only [Act.put, List.setIfInBounds_toArray, List.set_cons_zero, List.set_cons_succ])
          refine take_first 2 (v := ?_) rfl (by kernel_rfl) (by kernel_rfl) (by kernel_rfl) (fun _ _ _ h => h) (Or.inl ⟨by rfl, by intro wx hSw; (try dsimp only at hSw); obtain ⟨hSw1, hSw2⟩ := hSw; go_simp; try with_reducible rfl⟩) (by assumption) ?_
          (try simp only [Act.put, List.setIfInBounds_toArray, List.set_cons_zero, List.set_cons_succ])
          refine take_first 3 (v := ?_) rfl (by kernel_rfl) (by kernel_rfl) (by kernel_rfl) (fun _ _ _ h => h) (Or.inl ⟨by rfl, by intro wx hSw; (try dsimp only at hSw); obtain ⟨hSw1, hSw2⟩ := hSw; go_simp; try with_reducible rfl⟩) (by assumption) ?_
          (try simp only [Act.put, List.setIfInBounds_toArray, List.set_cons_zero, List.set_cons_succ])
          refine take_first 4 (v := ?_) rfl (by kernel_rfl) (by kernel_rfl) (by kernel_rfl) (fun _ _ _ h => h) (Or.inl ⟨by rfl, by intro wx hSw; (try dsimp only at hSw); obtain ⟨hSw1, hSw2⟩ := hSw; go_simp; try with_reducible rfl⟩) (by assumption) ?_
          (try simp only [Act.put, List.setIfInBounds_toArray, List.set_cons_zero, List.set_cons_succ])
          refine take_first 5 (v := ?_) rfl (by kernel_rfl) (by kernel_rfl) (by kernel_rfl) (fun _ _ _ h => h) (Or.inl ⟨by rfl, by intro wx hSw; (try dsimp only at hSw); obtain ⟨hSw1, hSw2⟩ := hSw; go_simp; try with_reducible rfl⟩) (by assumption) ?_
          (try simp only [Act.put, List.setIfInBounds_toArray, List.set_cons_zero, List.set_cons_succ])
          refine take_first 6 (v := ?_) rfl (by kernel_rfl) (by kernel_rfl) (by kernel_rfl) (fun _ _ _ h => h) (Or.inl ⟨by rfl, by intro wx hSw; (try dsimp only at hSw); obtain ⟨hSw1, hSw2⟩ := hSw; go_simp; try with_reducible rfl⟩) (by assumption) ?_
          (try simp only [Act.put, List.setIfInBounds_toArray, List.set_cons_zero, List.set_cons_succ])
          refine take_first 7 (v := ?_) rfl (by kernel_rfl) (by kernel_rfl) (by kernel_rfl) (fun _ _ _ h => h) (Or.inl ⟨by rfl, by intro wx hSw; (try dsimp only at hSw); obtain ⟨hSw1, hSw2⟩ := hSw; go_simp; try with_reducible rfl⟩) (by assumption) ?_
          (try simp only [Act.put, List.setIfInBounds_toArray, List.set_cons_zero, List.set_cons_succ])
          refine comes_up 8 rfl (by kernel_rfl) (fun K hK => ?_)
          go_simp
          refine (hslot wr.drew hc1 hc2).mono ?_
          rintro e w2 ⟨rfl, q, rfl⟩
          go_wp2_with fail
          refine hK.out _ _ ⟨hc1, hcell⟩ (fun hHeld => ?_)
          clear hK K
          (try simp only [Act.put, List.setIfInBounds_toArray, List.set_cons_zero, List.set_cons_succ])
          refine take_first 9 (v := ?_) rfl (by kernel_rfl) (by kernel_rfl) (by kernel_rfl) (fun _ _ _ h => h) (Or.inl ⟨by rfl, by intro wx hSw; (try dsimp only at hSw); obtain ⟨hSw1, hSw2⟩ := hSw; go_simp; try with_reducible rfl⟩) (by assumption) ?_
          (try simp only [Act.put, List.setIfInBounds_toArray, List.set_cons_zero, List.set_cons_succ])
          refine take_first 10 (v := ?_) rfl (by kernel_rfl) (by kernel_rfl) (by kernel_rfl) (fun _ _ _ h => h) (Or.inl ⟨by rfl, by intro wx hSw; (try dsimp only at hSw); obtain ⟨hSw1, hSw2⟩ := hSw; go_simp; try with_reducible rfl⟩) (by assumption) ?_
          (try simp only [Act.put, List.setIfInBounds_toArray, List.set_cons_zero, List.set_cons_succ])
          refine take_first 11 (v := ?_) rfl (by kernel_rfl) (by kernel_rfl) (by kernel_rfl) (fun _ _ _ h => h) (Or.inl ⟨by rfl, by intro wx hSw; (try dsimp only at hSw); obtain ⟨hSw1, hSw2⟩ := hSw; go_simp; try with_reducible rfl⟩) (by assumption) ?_
          (try simp only [Act.put, List.setIfInBounds_toArray, List.set_cons_zero, List.set_cons_succ])
          refine comes_up 12 rfl (by kernel_rfl) (fun K hK => ?_)
          go_simp
          refine hK.out _ _ (HA.out _) (fun hHeld => ?_)
          clear hK K
          (try simp only [Act.put, List.setIfInBounds_toArray, List.set_cons_zero, List.set_cons_succ])
          refine wpAnyH_done (by kernel_rfl) ?_ _
          refine NoPanic.normal ?_
          go_wp2
          go_roundw
          case rel =>
            obtain ⟨g2, e1, e2, e3, e4, e5⟩ := HE.out (1 + q)
            exact ⟨k + 1, g2, e1, e2, by go_num, e3, e4, e5⟩
          case measure => simp [intOf]; omega
      · go_wp2
        go_end0
        exact ⟨rfl, HT.out, g', HR.out, fun j x hj hx => HG.out j x (by have := (List.getElem?_eq_some_iff.1 hx).1; have := HL.out; omega) hx⟩
end Go.Proofs.Ythobbnmdpkginaa
