/-
  Contract of Open of the document's answer.
-/
import Derived.Test.YtfemjbaadnjanaaCdOpen
namespace Go.Proofs.Ytfemjbaadnjanaa.Cd
open Go.RowKit
set_option linter.unusedVariables false
set_option linter.unusedSimpArgs false

theorem _root_.Go.Proofs.Ytfemjbaadnjanaa.Cd.Row.takeCap {w : World} {ao : Option Addr} {n cap : Nat} {xs : List UInt8} (h : Row w ao n cap xs) (k : Nat) (hk : k ≤ n) : Row w ao k cap (xs.take k) := by
  obtain ⟨h1, h2, h3, h4, h5⟩ := h
  refine ⟨by simp; omega, by omega, h3, fun e => by have := h4 e; omega, fun a ha i hi => ?_⟩
  rw [h5 a ha i (by omega)]
  simp [hi]

set_option maxRecDepth 10000 in
set_option maxHeartbeats 1000000 in
theorem refOpen_short (w : World) (ao : Option Addr) (n cap : Nat) (h : n < 4) :
    Calls Try.prog 38 #[.slice ao n cap] w fun e w' => e = .returned (.tuple #[.slice none 0 0, .int .i64 3]) ∧ w = w' := by
  go_enter Try.func38, Try.ntmps38
  go_wp2
  go_ret2
  exact ⟨rfl, rfl⟩

theorem str_beq (a b : List UInt8) : ((str a).toList == (str b).toList) = decide (a = b) := by
  have h : ∀ l, (str l).toList = l := fun l => ByteArray.toList_mk l
  rw [h, h, Bool.eq_iff_iff]
  simp

set_option maxRecDepth 10000 in
set_option maxHeartbeats 1000000 in
theorem refOpen_long (w : World) (ao : Option Addr) (n cap : Nat) (xs : List UInt8) (h : Row w ao n cap xs) (h4 : 4 ≤ n) (hr : n ≤ 140737488355328) :
    Calls Try.prog 38 #[.slice ao n cap] w fun e w' => ∃ vo vc, e = .returned (.tuple #[.slice vo (opened xs).2.length vc, .int .i64 ((opened xs).1 : Nat)]) ∧ Row w' vo (opened xs).2.length vc (opened xs).2 ∧ Below w.heap.size w w' := by
  have hlen := h.1
  have hle := h.2.1
  have hm := h.2.2.1
  have HX : Hid (xs.length = n) := hlen
  have hin := h.takeCap (n - 4) (by omega)
  unfold maxLen at hm
  obtain ⟨m, hm4⟩ : ∃ m, n = m + 4 := ⟨n - 4, by omega⟩
  subst hm4
  rw [show m + 4 - 4 = m by omega] at hin
  have hmm : (m : Int) ≤ (cap : Int) := by omega
  have hb0 : Below w.heap.size w w.drew := (Below.refl _ _).drew
  have hcp : ∀ wx, Below w.heap.size w wx → (convert 33 9 (.slice ao (m + 4) cap)).run Try.prog wx = .ok (.string (str xs)) wx := fun wx hb => conv_row (h.below hb (Nat.le_refl _))
  have hseal := refSeal_any w.drew ao m cap (xs.take m) (hin.below hb0 (Nat.le_refl _)) (by omega)
  obtain ⟨qs, hqs⟩ : ∃ qs, qs = xs.take m ++ le4 (crcSum (xs.take m)) := ⟨_, rfl⟩
  rw [← hqs] at hseal
  have hxm : xs.take m ++ xs.drop m = xs := List.take_append_drop m xs
  have hbe := str_beq qs xs
  by_cases heq : le4 (crcSum (xs.take m)) = xs.drop m
  · have HO : Hid (opened xs = (0, xs.take m)) := by
      show opened xs = (0, xs.take m)
      unfold opened
      rw [if_neg (by omega), hlen, show m + 4 - 4 = m by omega, if_pos heq]
    rw [decide_eq_true (by rw [hqs, heq, hxm])] at hbe
    clear heq hxm hqs hlen
    go_enter Try.func38, Try.ntmps38
    go_wp2
    refine wp_region_noPanic ?_
    refine wp_region_held_drew (S := fun wx => (convert 33 9 (.slice ao (m + 4) cap)).run Try.prog wx = .ok (.string (str xs)) wx) (by kernel_rfl) (hcp _ hb0) (fun hHeld => ?_)
    refine take_first 0 (v := ?_) rfl (by kernel_rfl) (by kernel_rfl) (by kernel_rfl) (fun _ _ _ h => h) (Or.inl ⟨by rfl, by intro wx hSw; (try dsimp only at hSw); go_simp; try with_reducible rfl⟩) (by assumption) ?_
    (try simp only [Act.put, List.setIfInBounds_toArray, List.set_cons_zero, List.set_cons_succ])
    refine take_first 1 (v := ?_) rfl (by kernel_rfl) (by kernel_rfl) (by kernel_rfl) (fun _ _ _ h => h) (Or.inl ⟨by rfl, by intro wx hSw; (try dsimp only at hSw); go_simp; try with_reducible rfl⟩) (by assumption) ?_
    (try simp only [Act.put, List.setIfInBounds_toArray, List.set_cons_zero, List.set_cons_succ])
    refine take_first 2 (v := ?_) rfl (by kernel_rfl) (by kernel_rfl) (by kernel_rfl) (fun _ _ _ h => h) (Or.inl ⟨by rfl, by intro wx hSw; (try dsimp only at hSw); go_simp; try with_reducible rfl⟩) (by assumption) ?_
    (try simp only [Act.put, List.setIfInBounds_toArray, List.set_cons_zero, List.set_cons_succ])
    refine take_first 5 (v := ?_) rfl (by kernel_rfl) (by kernel_rfl) (by kernel_rfl) (fun _ _ _ h => h) (Or.inl ⟨by rfl, by intro wx hSw; (try dsimp only at hSw); go_simp; try with_reducible rfl⟩) (by assumption) ?_
    (try simp only [Act.put, List.setIfInBounds_toArray, List.set_cons_zero, List.set_cons_succ])
    refine take_first 6 (v := ?_) rfl (by kernel_rfl) (by kernel_rfl) (by kernel_rfl) (fun _ _ _ h => h) (Or.inl ⟨by rfl, by intro wx hSw; (try dsimp only at hSw); go_simp; try with_reducible rfl⟩) (by assumption) ?_
    (try simp only [Act.put, List.setIfInBounds_toArray, List.set_cons_zero, List.set_cons_succ])
    refine comes_up 3 rfl (by kernel_rfl) (fun K hK => ?_)
    go_simp
    refine hseal.mono ?_
    rintro e w5 ⟨v5, rfl, hown5, hb5⟩
    have hb50 : Below w.heap.size w w5 := hb0.trans hb5
    obtain ⟨ao5, cap5, hv5, hrow5, _⟩ := owns_row hown5
    rw [hv5]
    have hc5 := conv_row hrow5
    clear hown5 hrow5 hv5
    go_wp2_with fail
    refine hK.out _ _ (hcp _ hb50) (fun hHeld => ?_)
    clear hK K
    (try simp only [Act.put, List.setIfInBounds_toArray, List.set_cons_zero, List.set_cons_succ])
    refine comes_up 4 rfl (by kernel_rfl) (fun K hK => ?_)
    go_simp
    refine hK.out _ _ (hcp _ hb50) (fun hHeld => ?_)
    clear hK K
    (try simp only [Act.put, List.setIfInBounds_toArray, List.set_cons_zero, List.set_cons_succ])
    refine take_first 7 (v := ?_) rfl (by kernel_rfl) (by kernel_rfl) (by kernel_rfl) (fun _ _ _ h => h) (Or.inl ⟨by rfl, by intro wx hSw; (try dsimp only at hSw); go_simp; try with_reducible rfl⟩) (by assumption) ?_
    (try simp only [Act.put, List.setIfInBounds_toArray, List.set_cons_zero, List.set_cons_succ])
    refine wpAnyH_done (by kernel_rfl) ?_ _
    refine NoPanic.normal ?_
    go_wp2
    go_ret2
    rw [HO.out]
    have hl := hin.1
    refine ⟨ao, cap, ?_, ?_, hb50⟩
    · simp only [hl]; rfl
    · simp only [hl]; exact hin.below hb50 (Nat.le_refl _)
  · have HO : Hid (opened xs = (5, [])) := by
      show opened xs = (5, [])
      unfold opened
      rw [if_neg (by omega), hlen, show m + 4 - 4 = m by omega, if_neg heq]
    rw [decide_eq_false (by
      intro hc
      rw [hqs] at hc
      refine heq ?_
      have hc2 : xs.take m ++ le4 (crcSum (xs.take m)) = xs.take m ++ xs.drop m := by rw [hxm]; exact hc
      exact List.append_cancel_left hc2)] at hbe
    clear heq hxm hqs hlen
    go_enter Try.func38, Try.ntmps38
    go_wp2
    refine wp_region_noPanic ?_
    refine wp_region_held_drew (S := fun wx => (convert 33 9 (.slice ao (m + 4) cap)).run Try.prog wx = .ok (.string (str xs)) wx) (by kernel_rfl) (hcp _ hb0) (fun hHeld => ?_)
    refine take_first 0 (v := ?_) rfl (by kernel_rfl) (by kernel_rfl) (by kernel_rfl) (fun _ _ _ h => h) (Or.inl ⟨by rfl, by intro wx hSw; (try dsimp only at hSw); go_simp; try with_reducible rfl⟩) (by assumption) ?_
    (try simp only [Act.put, List.setIfInBounds_toArray, List.set_cons_zero, List.set_cons_succ])
    refine take_first 1 (v := ?_) rfl (by kernel_rfl) (by kernel_rfl) (by kernel_rfl) (fun _ _ _ h => h) (Or.inl ⟨by rfl, by intro wx hSw; (try dsimp only at hSw); go_simp; try with_reducible rfl⟩) (by assumption) ?_
    (try simp only [Act.put, List.setIfInBounds_toArray, List.set_cons_zero, List.set_cons_succ])
    refine take_first 2 (v := ?_) rfl (by kernel_rfl) (by kernel_rfl) (by kernel_rfl) (fun _ _ _ h => h) (Or.inl ⟨by rfl, by intro wx hSw; (try dsimp only at hSw); go_simp; try with_reducible rfl⟩) (by assumption) ?_
    (try simp only [Act.put, List.setIfInBounds_toArray, List.set_cons_zero, List.set_cons_succ])
    refine take_first 5 (v := ?_) rfl (by kernel_rfl) (by kernel_rfl) (by kernel_rfl) (fun _ _ _ h => h) (Or.inl ⟨by rfl, by intro wx hSw; (try dsimp only at hSw); go_simp; try with_reducible rfl⟩) (by assumption) ?_
    (try simp only [Act.put, List.setIfInBounds_toArray, List.set_cons_zero, List.set_cons_succ])
    refine take_first 6 (v := ?_) rfl (by kernel_rfl) (by kernel_rfl) (by kernel_rfl) (fun _ _ _ h => h) (Or.inl ⟨by rfl, by intro wx hSw; (try dsimp only at hSw); go_simp; try with_reducible rfl⟩) (by assumption) ?_
    (try simp only [Act.put, List.setIfInBounds_toArray, List.set_cons_zero, List.set_cons_succ])
    refine comes_up 3 rfl (by kernel_rfl) (fun K hK => ?_)
    go_simp
    refine hseal.mono ?_
    rintro e w5 ⟨v5, rfl, hown5, hb5⟩
    have hb50 : Below w.heap.size w w5 := hb0.trans hb5
    obtain ⟨ao5, cap5, hv5, hrow5, _⟩ := owns_row hown5
    rw [hv5]
    have hc5 := conv_row hrow5
    clear hown5 hrow5 hv5
    go_wp2_with fail
    refine hK.out _ _ (hcp _ hb50) (fun hHeld => ?_)
    clear hK K
    (try simp only [Act.put, List.setIfInBounds_toArray, List.set_cons_zero, List.set_cons_succ])
    refine comes_up 4 rfl (by kernel_rfl) (fun K hK => ?_)
    go_simp
    refine hK.out _ _ (hcp _ hb50) (fun hHeld => ?_)
    clear hK K
    (try simp only [Act.put, List.setIfInBounds_toArray, List.set_cons_zero, List.set_cons_succ])
    refine take_first 7 (v := ?_) rfl (by kernel_rfl) (by kernel_rfl) (by kernel_rfl) (fun _ _ _ h => h) (Or.inl ⟨by rfl, by intro wx hSw; (try dsimp only at hSw); go_simp; try with_reducible rfl⟩) (by assumption) ?_
    (try simp only [Act.put, List.setIfInBounds_toArray, List.set_cons_zero, List.set_cons_succ])
    refine wpAnyH_done (by kernel_rfl) ?_ _
    refine NoPanic.normal ?_
    go_wp2
    go_ret2
    rw [HO.out]
    exact ⟨none, 0, rfl, ⟨rfl, Nat.le_refl _, by unfold maxLen; omega, fun _ => ⟨rfl, rfl⟩, fun a ha => (by cases ha)⟩, hb50⟩

end Go.Proofs.Ytfemjbaadnjanaa.Cd
