/-
  The calls New, Put, Len, Acked and sent of a sender, for things of one kind.
-/
import Derived.Test.YthobbnmdpkginaaSRep
import Derived.Test.YthobbnmdpkginaaRTakeS
namespace Go.Proofs.Ythobbnmdpkginaa
open Go.RowKit
set_option linter.unusedVariables false

theorem snewS_err1 (w : World) (most win : Int) (h : most < 1 ∨ 256 < most) : Calls Try.prog 44 #[.int .i64 most, .int .i64 win] w fun e w' => e = .returned (.tuple #[.pointer none, .int .i64 1]) ∧ w = w' := by
  go_enter Try.func44, Try.ntmps44
  go_wp2_with fail
  refine (newS_err w most h).mono ?_
  rintro e w1 ⟨rfl, rfl⟩
  go_wp2
  go_ret2
  exact ⟨rfl, rfl⟩
theorem snewS_err2 (w : World) (most : Nat) (h1 : 1 ≤ most) (h2 : most ≤ 256) (win : Int) (h : win < 1 ∨ 32 < win) : Calls Try.prog 44 #[.int .i64 (most : Nat), .int .i64 win] w fun e w' => e = .returned (.tuple #[.pointer none, .int .i64 1]) ∧ Turned (fun _ => False) w w' := by
  by_cases h3 : win < 1
  · go_enter Try.func44, Try.ntmps44
    go_wp2_with fail
    refine (newS_any w most h1 h2).mono ?_
    rintro e w1 ⟨rfl, r1, t1⟩
    clear r1
    go_wp2
    go_ret2
    exact ⟨rfl, t1⟩
  · have h4 : 32 < win := by omega
    clear h
    go_enter Try.func44, Try.ntmps44
    go_wp2_with fail
    refine (newS_any w most h1 h2).mono ?_
    rintro e w1 ⟨rfl, r1, t1⟩
    clear r1
    go_wp2
    go_ret2
    exact ⟨rfl, t1⟩
theorem snewS_any (w : World) (most : Nat) (h1 : 1 ≤ most) (h2 : most ≤ 256) (win : Nat) (h3 : 1 ≤ win) (h4 : win ≤ 32) : Calls Try.prog 44 #[.int .i64 (most : Nat), .int .i64 (win : Nat)] w fun e w' => ∃ q F, e = .returned (.tuple #[.pointer (some ⟨q, 0, none⟩), .int .i64 0]) ∧ Snd w' 9 F q most win 0 [] ∧ Turned (fun _ => False) w w' ∧ ∀ b, F b → w.heap.size ≤ b := by
  have g3 : ¬ ((win : Int) < 1) := by omega
  have g4 : ¬ ((32 : Int) < win) := by omega
  go_enter Try.func44, Try.ntmps44
  go_wp2_with fail
  refine (newS_any w most h1 h2).mono ?_
  rintro e w1 ⟨rfl, r1, t1⟩
  have hs := t1.size
  have HE : ∀ t, Hid (Snd (w1.alloc (.cells #[.pointer (some ⟨w.heap.size, 0, none⟩), .int .i64 (win : Nat), .int .u64 0] t)) 9 (fun b => b = w1.heap.size ∨ Foot w.heap.size (.slice none 0 0) b) w1.heap.size most win 0 []) := fun t => snd_new r1 h3 h4 t
  clear r1
  go_wp2
  go_ret2
  exact ⟨_, _, rfl, (HE _).out, t1.alloc _, by rintro b (rfl | rfl | hf); exact hs; exact Nat.le_refl _; cases hf⟩

theorem sputS_nil (w : World) (x : Value) : Calls Try.prog 47 #[.pointer none, x] w fun e w' => e = .returned (.int .i64 6) ∧ w = w' := by
  go_enter Try.func47, Try.ntmps47
  go_wp2
  go_ret
  exact ⟨rfl, rfl⟩
theorem sputS_busy {w : World} {F : Nat → Prop} {q most win ack : Nat} {xs : List Value} (h : Snd w 9 F q most win ack xs) (hf : xs.length = most) (x : Value) : Calls Try.prog 47 #[.pointer (some ⟨q, 0, none⟩), x] w fun e w' => e = .returned (.int .i64 7) ∧ ∃ q, w' = w.drewN q := by
  obtain ⟨p, sv, first, h, hF⟩ := h
  have hc0 := h.c0
  have hp := putS_busy h.ring hf x
  clear h hF
  go_enter Try.func47, Try.ntmps47
  go_wp2_with fail
  refine hp.mono ?_
  rintro e w1 ⟨rfl, q1, rfl⟩
  go_wp2
  go_ret
  exact ⟨rfl, q1, rfl⟩
theorem sputS_any {w : World} {F : Nat → Prop} {q most win ack : Nat} {xs : List Value} (h : Snd w 9 F q most win ack xs) (hf : xs.length < most) (x : Value) (hx : One x) : Calls Try.prog 47 #[.pointer (some ⟨q, 0, none⟩), x] w fun e w' => e = .returned (.int .i64 0) ∧ ∃ F', Snd w' 9 F' q most win ack (xs ++ [x]) ∧ Goes2 F w F' w' := by
  obtain ⟨p, sv, first, h, hF⟩ := h
  have hc0 := h.c0
  have hp := putS_any h.ring hf x hx
  have H : Hid (SndAt w 9 q p sv most first win ack xs) := h
  have HF : Hid (∀ b, F b ↔ b = q ∨ Foot p sv b) := hF
  clear h hF
  go_enter Try.func47, Try.ntmps47
  go_wp2_with fail
  refine hp.mono ?_
  rintro e w1 ⟨rfl, sv1, f1, r1, g1⟩
  have hs := H.out.goes r1 g1
  have hg := goes_foot g1 HF.out
  clear r1 g1
  go_wp2
  go_ret
  exact ⟨rfl, _, ⟨_, _, _, hs, fun b => Iff.rfl⟩, hg⟩
theorem slenS_any {w : World} {F : Nat → Prop} {q most win ack : Nat} {xs : List Value} (h : Snd w 9 F q most win ack xs) : Calls Try.prog 37 #[.pointer (some ⟨q, 0, none⟩)] w fun e w' => e = .returned (.int .i64 (xs.length : Nat)) ∧ w = w' := by
  obtain ⟨p, sv, first, h, hF⟩ := h
  have hc0 := h.c0
  have hp := lenS_any h.ring
  clear h hF
  go_enter Try.func37, Try.ntmps37
  go_wp2_with fail
  refine hp.mono ?_
  rintro e w1 ⟨rfl, rfl⟩
  go_wp2
  go_ret
  exact ⟨rfl, rfl⟩
theorem sackedS_any {w : World} {F : Nat → Prop} {q most win ack : Nat} {xs : List Value} (h : Snd w 9 F q most win ack xs) : Calls Try.prog 40 #[.pointer (some ⟨q, 0, none⟩)] w fun e w' => e = .returned (.int .u64 (ack : Nat)) ∧ w = w' := by
  obtain ⟨p, sv, first, h, hF⟩ := h
  have hc2 := h.c2
  clear h hF
  go_enter Try.func40, Try.ntmps40
  go_wp2
  go_ret
  exact ⟨rfl, rfl⟩

set_option maxRecDepth 10000 in
theorem ssentS_any {w : World} {F : Nat → Prop} {q most win ack : Nat} {xs : List Value} (h : Snd w 9 F q most win ack xs) : Calls Try.prog 57 #[.pointer (some ⟨q, 0, none⟩)] w fun e w' => e = .returned (.int .i64 (min win xs.length : Nat)) ∧ ∃ n, w' = w.drewN n := by
  obtain ⟨p, sv, first, h, hF⟩ := h
  have hc0 := h.c0
  have hc1 := h.c1
  have hp := fun wx (e1 : wx = w.drew) => lenS_any (w := wx) (e1 ▸ h.ring.drew)
  have h32 := h.win32
  have hle := h.ring.le
  have h256 := h.ring.most256
  clear h hF
  generalize xs.length = L at *
  by_cases hc : L < win
  all_goals
    have hcI : (if (L : Int) < win then (L : Int) else win) = ((min win L : Nat) : Int) := by split <;> omega
    generalize hM : min win L = M at *
    go_enter Try.func57, Try.ntmps57
    go_wp2_with fail
    refine wp_region_noPanic ?_
    refine wp_region_held_drew (S := fun wx => wx.cell? ⟨q, 0, none⟩ = some (.pointer (some ⟨p, 0, none⟩)) ∧ wx.cell? ⟨q, 1, none⟩ = some (.int .i64 (win : Nat))) (by kernel_rfl) (show _ ∧ _ from ⟨hc0, hc1⟩) (fun hHeld => ?_)
    refine take_first 0 (v := ?_) rfl (by kernel_rfl) (by kernel_rfl) (by kernel_rfl) (fun _ _ _ h => h) (Or.inl ⟨by rfl, by intro wx hSw; (try dsimp only at hSw); obtain ⟨hSw1, hSw2⟩ := hSw; go_simp; try with_reducible rfl⟩) (by assumption) ?_
    (try simp only [Act.put, List.setIfInBounds_toArray, List.set_cons_zero, List.set_cons_succ])
    refine take_first 1 (v := ?_) rfl (by kernel_rfl) (by kernel_rfl) (by kernel_rfl) (fun _ _ _ h => h) (Or.inl ⟨by rfl, by intro wx hSw; (try dsimp only at hSw); obtain ⟨hSw1, hSw2⟩ := hSw; go_simp; try with_reducible rfl⟩) (by assumption) ?_
    (try simp only [Act.put, List.setIfInBounds_toArray, List.set_cons_zero, List.set_cons_succ])
    refine take_first 2 (v := ?_) rfl (by kernel_rfl) (by kernel_rfl) (by kernel_rfl) (fun _ _ _ h => h) (Or.inl ⟨by rfl, by intro wx hSw; (try dsimp only at hSw); obtain ⟨hSw1, hSw2⟩ := hSw; go_simp; try with_reducible rfl⟩) (by assumption) ?_
    (try simp only [Act.put, List.setIfInBounds_toArray, List.set_cons_zero, List.set_cons_succ])
    refine take_first 3 (v := ?_) rfl (by kernel_rfl) (by kernel_rfl) (by kernel_rfl) (fun _ _ _ h => h) (Or.inl ⟨by rfl, by intro wx hSw; (try dsimp only at hSw); obtain ⟨hSw1, hSw2⟩ := hSw; go_simp; try with_reducible rfl⟩) (by assumption) ?_
    (try simp only [Act.put, List.setIfInBounds_toArray, List.set_cons_zero, List.set_cons_succ])
    refine take_first 4 (v := ?_) rfl (by kernel_rfl) (by kernel_rfl) (by kernel_rfl) (fun _ _ _ h => h) (Or.inl ⟨by rfl, by intro wx hSw; (try dsimp only at hSw); obtain ⟨hSw1, hSw2⟩ := hSw; go_simp; try with_reducible rfl⟩) (by assumption) ?_
    (try simp only [Act.put, List.setIfInBounds_toArray, List.set_cons_zero, List.set_cons_succ])
    refine take_first 5 (v := ?_) rfl (by kernel_rfl) (by kernel_rfl) (by kernel_rfl) (fun _ _ _ h => h) (Or.inl ⟨by rfl, by intro wx hSw; (try dsimp only at hSw); obtain ⟨hSw1, hSw2⟩ := hSw; go_simp; try with_reducible rfl⟩) (by assumption) ?_
    (try simp only [Act.put, List.setIfInBounds_toArray, List.set_cons_zero, List.set_cons_succ])
    refine take_first 6 (v := ?_) rfl (by kernel_rfl) (by kernel_rfl) (by kernel_rfl) (fun _ _ _ h => h) (Or.inl ⟨by rfl, by intro wx hSw; (try dsimp only at hSw); obtain ⟨hSw1, hSw2⟩ := hSw; go_simp; try with_reducible rfl⟩) (by assumption) ?_
    (try simp only [Act.put, List.setIfInBounds_toArray, List.set_cons_zero, List.set_cons_succ])
    refine take_first 7 (v := ?_) rfl (by kernel_rfl) (by kernel_rfl) (by kernel_rfl) (fun _ _ _ h => h) (Or.inl ⟨by rfl, by intro wx hSw; (try dsimp only at hSw); obtain ⟨hSw1, hSw2⟩ := hSw; go_simp; try with_reducible rfl⟩) (by assumption) ?_
    (try simp only [Act.put, List.setIfInBounds_toArray, List.set_cons_zero, List.set_cons_succ])
    refine comes_up 8 rfl (by kernel_rfl) (fun K hK => ?_)
    go_simp
    refine (hp _ rfl).mono ?_
    rintro e w2 ⟨rfl, rfl⟩
    go_wp2_with fail
    refine hK.out _ _ ⟨hc0, hc1⟩ (fun hHeld => ?_)
    clear hK K
    (try simp only [Act.put, List.setIfInBounds_toArray, List.set_cons_zero, List.set_cons_succ])
    refine comes_up 9 rfl (by kernel_rfl) (fun K hK => ?_)
    go_simp
    refine hK.out _ _ ⟨hc0, hc1⟩ (fun hHeld => ?_)
    clear hK K
    (try simp only [Act.put, List.setIfInBounds_toArray, List.set_cons_zero, List.set_cons_succ])
    refine comes_up 10 rfl (by kernel_rfl) (fun K hK => ?_)
    go_simp
    refine hK.out _ _ ⟨hc0, hc1⟩ (fun hHeld => ?_)
    clear hK K
    (try simp only [Act.put, List.setIfInBounds_toArray, List.set_cons_zero, List.set_cons_succ])
    refine wpAnyH_done (by kernel_rfl) ?_ _
    refine NoPanic.normal ?_
    go_wp2
    go_ret
    exact ⟨ret_int (by omega), 1, rfl⟩
end Go.Proofs.Ythobbnmdpkginaa
