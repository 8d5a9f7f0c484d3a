/-
  What a sender is to send now.
-/
import Derived.Test.YthobbnmdpkginaaSAckS
import Derived.Test.YthobbnmdpkginaaRFirstS
import Derived.Test.YthobbnmdpkginaaLRow
namespace Go.Proofs.Ythobbnmdpkginaa
open Go.RowKit
set_option linter.unusedVariables false

theorem swinS_any {w : World} {F : Nat → Prop} {q most win ack : Nat} {xs : List Value} (h : Snd w 9 F q most win ack xs) (hs : ∀ x ∈ xs, Kd 9 x) :
    Calls Try.prog 33 #[.pointer (some ⟨q, 0, none⟩)] w fun e w' => ∃ ao n cap, e = .returned (.tuple #[.int .u64 (ack : Nat), .slice ao n cap]) ∧ n = min win xs.length ∧ Lst w' 9 (.slice ao n cap) (xs.take win) ∧ Turned (fun _ => False) w w' ∧ ∀ b, (Value.slice ao n cap).ownBlock = some b → w.heap.size ≤ b := by
  obtain ⟨p, sv, first, h, hF⟩ := h
  have hc0 := h.c0
  have hc1 := h.c1
  have hc2 := h.c2
  have h1 := h.win1
  have h32 := h.win32
  have hp : ∀ wx, wx = w.drew → Calls Try.prog 56 #[.pointer (some ⟨p, 0, none⟩), .int .i64 (win : Nat)] wx fun e w' => ∃ ao n cap, e = .returned (.slice ao n cap) ∧ w'.cell? ⟨q, 2, none⟩ = some (.int .u64 (ack : Nat)) ∧ w'.cell? ⟨q, 0, none⟩ = some (.pointer (some ⟨p, 0, none⟩)) ∧ w'.cell? ⟨q, 1, none⟩ = some (.int .i64 (win : Nat)) ∧ Hid (n = min win xs.length ∧ Lst w' 9 (.slice ao n cap) (xs.take win) ∧ Turned (fun _ => False) w w' ∧ ∀ b, (Value.slice ao n cap).ownBlock = some b → w.heap.size ≤ b) := by
    rintro wx rfl
    refine (firstS_any h.ring.drew win (by omega)).mono ?_
    rintro e w' ⟨m, g, hm, rfl, hr, hg, ht⟩
    have hb : w'.heap[q]? = w.heap[q]? := ht.block q h.qlt (fun hf => hf)
    have hl : (xs.take win).length = m := by rw [List.length_take, ← hm]
    refine ⟨_, m, m, rfl, by rw [cell_block hb]; exact hc2, by rw [cell_block hb]; exact hc0, by rw [cell_block hb]; exact hc1, hm, ⟨fun x hx => hs x (List.mem_of_mem_take hx), by simp, fun x hx => (hs x (List.mem_of_mem_take hx)).one.2, some ⟨w.heap.size, 0, none⟩, m, by rw [hl]; rfl, by unfold maxLen; omega, .inr ⟨w.heap.size, 0, m, g, rfl, hr, by omega, by omega, ?_⟩⟩, ((Turned.refl _ w).drew).trans ht (fun _ hf => hf.elim), fun b hb => ?_⟩
    · intro j x hj
      have hjl := (List.getElem?_eq_some_iff.1 hj).1
      rw [List.getElem?_take] at hj
      split at hj
      · rw [Nat.zero_add]; exact hg j x (by omega) hj
      · cases hj
    · have : w.heap.size = b := by simpa [Value.ownBlock] using hb
      omega
  clear h hF hs
  go_enter Try.func33, Try.ntmps33
  go_wp2_with fail
  refine wp_region_noPanic ?_
  refine wp_region_held_drew (S := fun wx => wx.cell? ⟨q, 2, none⟩ = some (.int .u64 (ack : Nat)) ∧ wx.cell? ⟨q, 0, none⟩ = some (.pointer (some ⟨p, 0, none⟩)) ∧ wx.cell? ⟨q, 1, none⟩ = some (.int .i64 (win : Nat))) (by kernel_rfl) (show _ ∧ _ ∧ _ from ⟨hc2, hc0, hc1⟩) (fun hHeld => ?_)
  refine take_first 0 (v := ?_) rfl (by kernel_rfl) (by kernel_rfl) (by kernel_rfl) (fun _ _ _ h => h) (Or.inl ⟨by rfl, by intro wx hSw; (try dsimp only at hSw); obtain ⟨hSw1, hSw2, hSw3⟩ := hSw; go_simp; try with_reducible rfl⟩) (by assumption) ?_
  (try simp only [Act.put, List.setIfInBounds_toArray, List.set_cons_zero, List.set_cons_succ])
  refine take_first 1 (v := ?_) rfl (by kernel_rfl) (by kernel_rfl) (by kernel_rfl) (fun _ _ _ h => h) (Or.inl ⟨by rfl, by intro wx hSw; (try dsimp only at hSw); obtain ⟨hSw1, hSw2, hSw3⟩ := hSw; go_simp; try with_reducible rfl⟩) (by assumption) ?_
  (try simp only [Act.put, List.setIfInBounds_toArray, List.set_cons_zero, List.set_cons_succ])
  refine take_first 2 (v := ?_) rfl (by kernel_rfl) (by kernel_rfl) (by kernel_rfl) (fun _ _ _ h => h) (Or.inl ⟨by rfl, by intro wx hSw; (try dsimp only at hSw); obtain ⟨hSw1, hSw2, hSw3⟩ := hSw; go_simp; try with_reducible rfl⟩) (by assumption) ?_
  (try simp only [Act.put, List.setIfInBounds_toArray, List.set_cons_zero, List.set_cons_succ])
  refine take_first 3 (v := ?_) rfl (by kernel_rfl) (by kernel_rfl) (by kernel_rfl) (fun _ _ _ h => h) (Or.inl ⟨by rfl, by intro wx hSw; (try dsimp only at hSw); obtain ⟨hSw1, hSw2, hSw3⟩ := hSw; go_simp; try with_reducible rfl⟩) (by assumption) ?_
  (try simp only [Act.put, List.setIfInBounds_toArray, List.set_cons_zero, List.set_cons_succ])
  refine take_first 4 (v := ?_) rfl (by kernel_rfl) (by kernel_rfl) (by kernel_rfl) (fun _ _ _ h => h) (Or.inl ⟨by rfl, by intro wx hSw; (try dsimp only at hSw); obtain ⟨hSw1, hSw2, hSw3⟩ := hSw; go_simp; try with_reducible rfl⟩) (by assumption) ?_
  (try simp only [Act.put, List.setIfInBounds_toArray, List.set_cons_zero, List.set_cons_succ])
  refine take_first 5 (v := ?_) rfl (by kernel_rfl) (by kernel_rfl) (by kernel_rfl) (fun _ _ _ h => h) (Or.inl ⟨by rfl, by intro wx hSw; (try dsimp only at hSw); obtain ⟨hSw1, hSw2, hSw3⟩ := hSw; go_simp; try with_reducible rfl⟩) (by assumption) ?_
  (try simp only [Act.put, List.setIfInBounds_toArray, List.set_cons_zero, List.set_cons_succ])
  refine take_first 6 (v := ?_) rfl (by kernel_rfl) (by kernel_rfl) (by kernel_rfl) (fun _ _ _ h => h) (Or.inl ⟨by rfl, by intro wx hSw; (try dsimp only at hSw); obtain ⟨hSw1, hSw2, hSw3⟩ := hSw; go_simp; try with_reducible rfl⟩) (by assumption) ?_
  (try simp only [Act.put, List.setIfInBounds_toArray, List.set_cons_zero, List.set_cons_succ])
  refine take_first 7 (v := ?_) rfl (by kernel_rfl) (by kernel_rfl) (by kernel_rfl) (fun _ _ _ h => h) (Or.inl ⟨by rfl, by intro wx hSw; (try dsimp only at hSw); obtain ⟨hSw1, hSw2, hSw3⟩ := hSw; go_simp; try with_reducible rfl⟩) (by assumption) ?_
  (try simp only [Act.put, List.setIfInBounds_toArray, List.set_cons_zero, List.set_cons_succ])
  refine take_first 8 (v := ?_) rfl (by kernel_rfl) (by kernel_rfl) (by kernel_rfl) (fun _ _ _ h => h) (Or.inl ⟨by rfl, by intro wx hSw; (try dsimp only at hSw); obtain ⟨hSw1, hSw2, hSw3⟩ := hSw; go_simp; try with_reducible rfl⟩) (by assumption) ?_
  (try simp only [Act.put, List.setIfInBounds_toArray, List.set_cons_zero, List.set_cons_succ])
  refine take_first 9 (v := ?_) rfl (by kernel_rfl) (by kernel_rfl) (by kernel_rfl) (fun _ _ _ h => h) (Or.inl ⟨by rfl, by intro wx hSw; (try dsimp only at hSw); obtain ⟨hSw1, hSw2, hSw3⟩ := hSw; go_simp; try with_reducible rfl⟩) (by assumption) ?_
  (try simp only [Act.put, List.setIfInBounds_toArray, List.set_cons_zero, List.set_cons_succ])
  refine take_first 10 (v := ?_) rfl (by kernel_rfl) (by kernel_rfl) (by kernel_rfl) (fun _ _ _ h => h) (Or.inl ⟨by rfl, by intro wx hSw; (try dsimp only at hSw); obtain ⟨hSw1, hSw2, hSw3⟩ := hSw; go_simp; try with_reducible rfl⟩) (by assumption) ?_
  (try simp only [Act.put, List.setIfInBounds_toArray, List.set_cons_zero, List.set_cons_succ])
  refine take_first 11 (v := ?_) rfl (by kernel_rfl) (by kernel_rfl) (by kernel_rfl) (fun _ _ _ h => h) (Or.inl ⟨by rfl, by intro wx hSw; (try dsimp only at hSw); obtain ⟨hSw1, hSw2, hSw3⟩ := hSw; go_simp; try with_reducible rfl⟩) (by assumption) ?_
  (try simp only [Act.put, List.setIfInBounds_toArray, List.set_cons_zero, List.set_cons_succ])
  refine comes_up 12 rfl (by kernel_rfl) (fun K hK => ?_)
  go_simp
  refine (hp _ rfl).mono ?_
  rintro e w2 ⟨ao, n, cap, rfl, k1, k2, k3, HH⟩
  go_wp2_with fail
  refine hK.out _ _ ⟨k1, k2, k3⟩ (fun hHeld => ?_)
  clear hK K
  (try simp only [Act.put, List.setIfInBounds_toArray, List.set_cons_zero, List.set_cons_succ])
  refine take_first 13 (v := ?_) rfl (by kernel_rfl) (by kernel_rfl) (by kernel_rfl) (fun _ _ _ h => h) (Or.inl ⟨by rfl, by intro wx hSw; (try dsimp only at hSw); obtain ⟨hSw1, hSw2, hSw3⟩ := hSw; go_simp; try with_reducible rfl⟩) (by assumption) ?_
  (try simp only [Act.put, List.setIfInBounds_toArray, List.set_cons_zero, List.set_cons_succ])
  refine comes_up 14 rfl (by kernel_rfl) (fun K hK => ?_)
  go_simp
  refine hK.out _ _ ⟨k1, k2, k3⟩ (fun hHeld => ?_)
  clear hK K
  (try simp only [Act.put, List.setIfInBounds_toArray, List.set_cons_zero, List.set_cons_succ])
  refine wpAnyH_done (by kernel_rfl) ?_ _
  refine NoPanic.normal ?_
  go_wp2
  go_ret2
  exact ⟨ao, n, cap, rfl, HH.out⟩
theorem sroomS_any {w : World} {F : Nat → Prop} {q most win ack : Nat} {xs : List Value} (h : Snd w 9 F q most win ack xs) : Calls Try.prog 39 #[.pointer (some ⟨q, 0, none⟩)] w fun e w' => e = .returned (.int .i64 ((most : Int) - xs.length)) ∧ ∃ k, w' = w.drewN k := by
  obtain ⟨p, sv, first, h, hF⟩ := h
  have hc0 := h.c0
  have hp := roomS_any h.ring
  clear h hF
  go_enter Try.func39, Try.ntmps39
  go_wp2_with fail
  refine hp.mono ?_
  rintro e w1 ⟨rfl, k, rfl⟩
  go_wp2
  go_ret
  exact ⟨rfl, k, rfl⟩
/-- An ack that may be: it counts, or is stale. -/
theorem sackS_ok {w : World} {F : Nat → Prop} {q most win ack : Nat} {xs : List Value} (h : Snd w 9 F q most win ack xs) (n : Nat) (hn : n ≤ ack + min win xs.length) (hn2 : n < 18446744073709551616) :
    ∃ ev : Int, (ev == 1) = false ∧ Calls Try.prog 34 #[.pointer (some ⟨q, 0, none⟩), .int .u64 (n : Nat)] w fun e w' => e = .returned (.int .i64 ev) ∧ ∃ F', Snd w' 9 F' q most win (max ack n) (xs.drop (n - ack)) ∧ Goes2 F w F' w' := by
  by_cases hlt : n < ack
  · refine ⟨9, rfl, (sackS_stale h n hlt).mono ?_⟩
    rintro e w' ⟨rfl, rfl⟩
    rw [Nat.max_eq_left (by omega), Nat.sub_eq_zero_of_le (by omega), List.drop_zero]
    exact ⟨rfl, F, h, Goes2.refl _ _⟩
  · refine ⟨0, rfl, (sackS_any h n (n - ack) (by omega) (by omega) hn2).mono ?_⟩
    rintro e w' ⟨rfl, F', h1, h2⟩
    rw [Nat.max_eq_right (by omega)]
    exact ⟨rfl, F', h1, h2⟩
end Go.Proofs.Ythobbnmdpkginaa
