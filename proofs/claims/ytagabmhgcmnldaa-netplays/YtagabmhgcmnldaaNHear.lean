/-
  Cut and Join of a net: each of two nodes is taken out of the other's set, or put into it.
-/
import Derived.Test.YtagabmhgcmnldaaNNew
namespace Go.Proofs.Ytagabmhgcmnldaa
open Go.RowKit
set_option linter.unusedVariables false

def put (f : Nat → Nat) (k v : Nat) : Nat → Nat := fun j => if j = k then v else f j
theorem put_same (f : Nat → Nat) (k v : Nat) : put f k v k = v := by simp [put]
theorem put_other (f : Nat → Nat) {k j : Nat} (v : Nat) (h : j ≠ k) : put f k v j = f j := by simp [put, h]

section
variable {w : World} {p N : Nat} {H : Nat → Nat} {sv : Value} {lost : Nat} {L : List Px} {A : List Pa}
theorem NetIs.setObj {lost' : Nat} {H' : Nat → Nat} (h : NetIs w p N H sv lost L A) (j : Nat) (v : Value) (hr : (w.setCell ⟨p, j, none⟩ v).rowIs p 65 19 (ncell N H' sv lost')) (hs : ∀ k, H' k < 65536) (hl : lost' ≤ 1000000) : NetIs (w.setCell ⟨p, j, none⟩ v) p N H' sv lost' L A :=
  { h with
    obj := hr
    bag := row_block h.bag (fun b hb => set_block_other (fun e => h.bp (by rw [hb, e])))
    pk := fun i x a hx ha => (h.pk i x a hx ha).of (set_block_other (h.xp x (List.mem_of_getElem? hx)).1)
    hs := hs
    lost' := hl }
theorem NetIs.setH (h : NetIs w p N H sv lost L A) (a s : Nat) (ha : a < 16) (hs : s < 65536) : NetIs (w.setCell ⟨p, 1 + a, none⟩ (.int .u16 (s : Nat))) p N (put H a s) sv lost L A :=
  h.setObj _ _ ((h.obj.set (1 + a) _).congr (fun i hi => ncell_set ha (fun k _ => rfl) i hi)) (fun k => by
    unfold put
    split
    · exact hs
    · exact h.hs k) h.lost'
theorem ncell_lost {N : Nat} {H : Nat → Nat} {sv : Value} {lost lost' : Nat} (j : Nat) (hj : j < 19) : (if j = 18 then Value.int .i64 (lost' : Nat) else ncell N H sv lost j) = ncell N H sv lost' j := by
  unfold ncell
  by_cases h0 : j = 0
  · rw [if_neg (by omega), if_pos h0, if_pos h0]
  · by_cases h1 : j < 17
    · rw [if_neg (by omega), if_neg h0, if_neg h0, if_pos h1, if_pos h1]
    · by_cases h2 : j = 17
      · rw [if_neg (by omega), if_neg h0, if_neg h0, if_neg h1, if_neg h1, if_pos h2, if_pos h2]
      · rw [if_pos (by omega), if_neg h0, if_neg h1, if_neg h2]
theorem NetIs.setLost (h : NetIs w p N H sv lost L A) (m : Nat) (hm : m ≤ 1000000) : NetIs (w.setCell ⟨p, 18, none⟩ (.int .i64 (m : Nat))) p N H sv m L A :=
  h.setObj _ _ ((h.obj.set 18 _).congr (fun i hi => ncell_lost i hi)) h.hs hm
theorem NetIs.drewN (h : NetIs w p N H sv lost L A) (q : Nat) : NetIs (w.drewN q) p N H sv lost L A := h.frame (fun _ _ => rfl)
end

theorem change_nil_without (w : World) (a b : Int) : Calls Try.prog 41 #[.pointer none, .int .i64 a, .int .i64 b, .func (.func 42) #[] #[]] w fun e w' => e = .returned (.int .i64 6) ∧ w = w' := by
  go_enter Try.func41, Try.ntmps41
  go_wp2
  go_ret
  exact ⟨rfl, rfl⟩
theorem change_err_without {w : World} {p N : Nat} {H : Nat → Nat} {sv : Value} {lost : Nat} {L : List Px} {A : List Pa} (h : NetIs w p N H sv lost L A) (a b : Int) (hn : ¬ ((0 ≤ a ∧ a < N) ∧ (0 ≤ b ∧ b < N) ∧ a ≠ b)) :
    Calls Try.prog 41 #[.pointer (some ⟨p, 0, none⟩), .int .i64 a, .int .i64 b, .func (.func 42) #[] #[]] w fun e w' => e = .returned (.int .i64 1) ∧ w = w' := by
  have na := node_any h a
  have nb := node_any h b
  clear h
  by_cases h1 : 0 ≤ a ∧ a < N
  · have e1 : isNode N a = true := by unfold isNode; simpa using h1
    rw [e1] at na
    clear e1
    by_cases h2 : 0 ≤ b ∧ b < N
    · have e2 : isNode N b = true := by unfold isNode; simpa using h2
      rw [e2] at nb
      clear e2
      obtain rfl : a = b := by
        by_cases e : a = b
        · exact e
        · exact absurd ⟨h1, h2, e⟩ hn
      clear hn
      go_enter Try.func41, Try.ntmps41
      go_wp2_with fail
      refine na.mono ?_
      rintro e w1 ⟨rfl, rfl⟩
      go_wp2_with fail
      refine nb.mono ?_
      rintro e w1 ⟨rfl, rfl⟩
      go_wp2
      go_ret
      exact ⟨rfl, rfl⟩
    · have e2 : isNode N b = false := by unfold isNode; simpa using h2
      rw [e2] at nb
      clear e2 hn
      go_enter Try.func41, Try.ntmps41
      go_wp2_with fail
      refine na.mono ?_
      rintro e w1 ⟨rfl, rfl⟩
      go_wp2_with fail
      refine nb.mono ?_
      rintro e w1 ⟨rfl, rfl⟩
      go_wp2
      go_ret
      exact ⟨rfl, rfl⟩
  · have e1 : isNode N a = false := by unfold isNode; simpa using h1
    rw [e1] at na
    clear e1 hn
    go_enter Try.func41, Try.ntmps41
    go_wp2_with fail
    refine na.mono ?_
    rintro e w1 ⟨rfl, rfl⟩
    go_wp2
    go_ret
    exact ⟨rfl, rfl⟩

set_option maxRecDepth 10000 in
set_option maxHeartbeats 1000000 in
theorem change_is_without {w : World} {p N : Nat} {H : Nat → Nat} {sv : Value} {lost : Nat} {L : List Px} {A : List Pa} (h : NetIs w p N H sv lost L A) (a b : Nat) (ha : a < N) (hb : b < N) (hab : a ≠ b) :
    Calls Try.prog 41 #[.pointer (some ⟨p, 0, none⟩), .int .i64 (a : Nat), .int .i64 (b : Nat), .func (.func 42) #[] #[]] w fun e w' => e = .returned (.int .i64 0) ∧ NetIs w' p N (put (put H a (withoutN (H a) b)) b (withoutN (H b) a)) sv lost L A ∧ Turned (fun b => b = p) w w' := by
  have na := node_any h (a : Int)
  have nb := node_any h (b : Int)
  rw [show isNode N (a : Int) = true by unfold isNode; simp; omega] at na
  rw [show isNode N (b : Int) = true by unfold isNode; simp; omega] at nb
  have h16 := h.n16
  have ha16 : (a : Int) < 16 := by omega
  have hb16 : (b : Int) < 16 := by omega
  have hne : ((a : Int) == (b : Int)) = false := by
    have : ¬ ((a : Int) = b) := by omega
    simpa using this
  have ca := h.cH a (by omega)
  have cb := h.cH b (by omega)
  have f1 := h.free (1 + a)
  have f2 := h.free (1 + b)
  have w1' := fun W => without_any W (H a) (h.hs a) (b : Int)
  have w2' := fun W => without_any W (H b) (h.hs b) (a : Int)
  have HE : Hid (∀ q r, NetIs ((((w.drewN q).setCell ⟨p, 1 + a, none⟩ (.int .u16 (withoutN (H a) b : Nat))).drewN r).setCell ⟨p, 1 + b, none⟩ (.int .u16 (withoutN (H b) a : Nat))) p N (put (put H a (withoutN (H a) b)) b (withoutN (H b) a)) sv lost L A ∧ Turned (fun b => b = p) w ((((w.drewN q).setCell ⟨p, 1 + a, none⟩ (.int .u16 (withoutN (H a) b : Nat))).drewN r).setCell ⟨p, 1 + b, none⟩ (.int .u16 (withoutN (H b) a : Nat)))) := fun q r =>
    ⟨(((h.drewN q).setH a _ (by omega) (withoutN_lt _ (h.hs a) _)).drewN r).setH b _ (by omega) (withoutN_lt _ (h.hs b) _), ((((Turned.refl (fun b => b = p) w).drewN q).setCell (p := ⟨p, 1 + a, none⟩) (.inl rfl) _).drewN r).setCell (p := ⟨p, 1 + b, none⟩) (.inl rfl) _⟩
  have hno : ¬ (p = p ∧ 1 + b = 1 + a) := by omega
  have cb2 : ∀ q v, ((w.drewN q).setCell ⟨p, 1 + a, none⟩ v).cell? ⟨p, 1 + b, none⟩ = some (.int .u16 (H b : Nat)) := fun q v => by rw [set_cell_other hno]; exact cb
  generalize withoutN (H a) b = s1 at *
  generalize withoutN (H b) a = s2 at *
  generalize H a = r1 at *
  generalize H b = r2 at *
  clear h
  go_enter Try.func41, Try.ntmps41
  go_wp2_with fail
  refine na.mono ?_
  rintro e w1 ⟨rfl, rfl⟩
  go_wp2_with fail
  refine nb.mono ?_
  rintro e w1 ⟨rfl, rfl⟩
  go_wp2_with fail
  refine wp_region_noPanic ?_
  refine wp_region_held_drew (S := fun wx => True) (by kernel_rfl) trivial (fun hHeld => ?_)
  refine take_first 0 (v := ?_) rfl (by kernel_rfl) (by kernel_rfl) (by kernel_rfl) (fun _ _ _ h => h) (Or.inl ⟨by rfl, by intro wx hSw; (try dsimp only at hSw); go_simp; try with_reducible rfl⟩) (by assumption) ?_
  (try simp only [Act.put, List.setIfInBounds_toArray, List.set_cons_zero, List.set_cons_succ])
  refine take_first 1 (v := ?_) rfl (by kernel_rfl) (by kernel_rfl) (by kernel_rfl) (fun _ _ _ h => h) (Or.inl ⟨by rfl, by intro wx hSw; (try dsimp only at hSw); go_simp; try with_reducible rfl⟩) (by assumption) ?_
  (try simp only [Act.put, List.setIfInBounds_toArray, List.set_cons_zero, List.set_cons_succ])
  refine take_first 2 (v := ?_) rfl (by kernel_rfl) (by kernel_rfl) (by kernel_rfl) (fun _ _ _ h => h) (Or.inl ⟨by rfl, by intro wx hSw; (try dsimp only at hSw); go_simp; try with_reducible rfl⟩) (by assumption) ?_
  (try simp only [Act.put, List.setIfInBounds_toArray, List.set_cons_zero, List.set_cons_succ])
  refine take_first 3 (v := ?_) rfl (by kernel_rfl) (by kernel_rfl) (by kernel_rfl) (fun _ _ _ h => h) (Or.inl ⟨by rfl, by intro wx hSw; (try dsimp only at hSw); go_simp; try with_reducible rfl⟩) (by assumption) ?_
  (try simp only [Act.put, List.setIfInBounds_toArray, List.set_cons_zero, List.set_cons_succ])
  refine take_first 4 (v := ?_) rfl (by kernel_rfl) (by kernel_rfl) (by kernel_rfl) (fun _ _ _ h => h) (Or.inl ⟨by rfl, by intro wx hSw; (try dsimp only at hSw); go_simp; try with_reducible rfl⟩) (by assumption) ?_
  (try simp only [Act.put, List.setIfInBounds_toArray, List.set_cons_zero, List.set_cons_succ])
  refine take_first 5 (v := ?_) rfl (by kernel_rfl) (by kernel_rfl) (by kernel_rfl) (fun _ _ _ h => h) (Or.inl ⟨by rfl, by intro wx hSw; (try dsimp only at hSw); go_simp; try with_reducible rfl⟩) (by assumption) ?_
  (try simp only [Act.put, List.setIfInBounds_toArray, List.set_cons_zero, List.set_cons_succ])
  refine take_first 6 (v := ?_) rfl (by kernel_rfl) (by kernel_rfl) (by kernel_rfl) (fun _ _ _ h => h) (Or.inl ⟨by rfl, by intro wx hSw; (try dsimp only at hSw); go_simp; try with_reducible rfl⟩) (by assumption) ?_
  (try simp only [Act.put, List.setIfInBounds_toArray, List.set_cons_zero, List.set_cons_succ])
  refine take_first 7 (v := ?_) rfl (by kernel_rfl) (by kernel_rfl) (by kernel_rfl) (fun _ _ _ h => h) (Or.inl ⟨by rfl, by intro wx hSw; (try dsimp only at hSw); go_simp; try with_reducible rfl⟩) (by assumption) ?_
  (try simp only [Act.put, List.setIfInBounds_toArray, List.set_cons_zero, List.set_cons_succ])
  refine take_first 9 (v := ?_) rfl (by kernel_rfl) (by kernel_rfl) (by kernel_rfl) (fun _ _ _ h => h) (Or.inl ⟨by rfl, by intro wx hSw; (try dsimp only at hSw); go_simp; try with_reducible rfl⟩) (by assumption) ?_
  (try simp only [Act.put, List.setIfInBounds_toArray, List.set_cons_zero, List.set_cons_succ])
  refine take_first 11 (v := ?_) rfl (by kernel_rfl) (by kernel_rfl) (by kernel_rfl) (fun _ _ _ h => h) (Or.inl ⟨by rfl, by intro wx hSw; (try dsimp only at hSw); go_simp; try with_reducible rfl⟩) (by assumption) ?_
  (try simp only [Act.put, List.setIfInBounds_toArray, List.set_cons_zero, List.set_cons_succ])
  refine take_first 12 (v := ?_) rfl (by kernel_rfl) (by kernel_rfl) (by kernel_rfl) (fun _ _ _ h => h) (Or.inl ⟨by rfl, by intro wx hSw; (try dsimp only at hSw); go_simp; try with_reducible rfl⟩) (by assumption) ?_
  (try simp only [Act.put, List.setIfInBounds_toArray, List.set_cons_zero, List.set_cons_succ])
  refine comes_up 8 rfl (by kernel_rfl) (fun K hK => ?_)
  go_simp
  refine hK.out _ _ trivial (fun hHeld => ?_)
  clear hK K
  (try simp only [Act.put, List.setIfInBounds_toArray, List.set_cons_zero, List.set_cons_succ])
  refine comes_up 10 rfl (by kernel_rfl) (fun K hK => ?_)
  go_simp
  refine (w1' _).mono ?_
  rintro e w2 ⟨rfl, rfl⟩
  go_wp2_with fail
  refine hK.out _ _ trivial (fun hHeld => ?_)
  clear hK K
  (try simp only [Act.put, List.setIfInBounds_toArray, List.set_cons_zero, List.set_cons_succ])
  refine take_first 13 (v := ?_) rfl (by kernel_rfl) (by kernel_rfl) (by kernel_rfl) (fun _ _ _ h => h) (Or.inl ⟨by rfl, by intro wx hSw; (try dsimp only at hSw); go_simp; try with_reducible rfl⟩) (by assumption) ?_
  (try simp only [Act.put, List.setIfInBounds_toArray, List.set_cons_zero, List.set_cons_succ])
  refine comes_up 14 rfl (by kernel_rfl) (fun K hK => ?_)
  go_simp
  refine hK.out _ _ trivial (fun hHeld => ?_)
  clear hK K
  (try simp only [Act.put, List.setIfInBounds_toArray, List.set_cons_zero, List.set_cons_succ])
  refine wpAnyH_done (by kernel_rfl) ?_ _
  refine NoPanic.normal ?_
  obtain ⟨wa, hwa⟩ : ∃ wa, (w.drewN 1).setCell ⟨p, 1 + a, none⟩ (.int .u16 (s1 : Nat)) = wa := ⟨_, rfl⟩
  have cb3 : wa.cell? ⟨p, 1 + b, none⟩ = some (.int .u16 (r2 : Nat)) := by rw [← hwa]; exact cb2 1 _
  have f3 : wa.frozen? ⟨p, 1 + b, none⟩ = false := by rw [← hwa, World.frozen?_setCell]; exact f2
  have HE2 : Hid (∀ r, NetIs ((wa.drewN r).setCell ⟨p, 1 + b, none⟩ (.int .u16 (s2 : Nat))) p N (put (put H a s1) b s2) sv lost L A ∧ Turned (fun b => b = p) w ((wa.drewN r).setCell ⟨p, 1 + b, none⟩ (.int .u16 (s2 : Nat)))) := fun r => by rw [← hwa]; exact HE.out 1 r
  have hwa2 : (w.setCell ⟨p, 1 + a, none⟩ (.int .u16 (s1 : Nat))).drew = wa := hwa
  (try simp only [hwa2])
  clear hwa hwa2 HE cb2 ca cb f1 f2 na nb w1'
  go_wp2_with fail
  refine wp_region_noPanic ?_
  refine wp_region_held_drew (S := fun wx => True) (by kernel_rfl) trivial (fun hHeld => ?_)
  refine take_first 0 (v := ?_) rfl (by kernel_rfl) (by kernel_rfl) (by kernel_rfl) (fun _ _ _ h => h) (Or.inl ⟨by rfl, by intro wx hSw; (try dsimp only at hSw); go_simp; try with_reducible rfl⟩) (by assumption) ?_
  (try simp only [Act.put, List.setIfInBounds_toArray, List.set_cons_zero, List.set_cons_succ])
  refine take_first 1 (v := ?_) rfl (by kernel_rfl) (by kernel_rfl) (by kernel_rfl) (fun _ _ _ h => h) (Or.inl ⟨by rfl, by intro wx hSw; (try dsimp only at hSw); go_simp; try with_reducible rfl⟩) (by assumption) ?_
  (try simp only [Act.put, List.setIfInBounds_toArray, List.set_cons_zero, List.set_cons_succ])
  refine take_first 2 (v := ?_) rfl (by kernel_rfl) (by kernel_rfl) (by kernel_rfl) (fun _ _ _ h => h) (Or.inl ⟨by rfl, by intro wx hSw; (try dsimp only at hSw); go_simp; try with_reducible rfl⟩) (by assumption) ?_
  (try simp only [Act.put, List.setIfInBounds_toArray, List.set_cons_zero, List.set_cons_succ])
  refine take_first 3 (v := ?_) rfl (by kernel_rfl) (by kernel_rfl) (by kernel_rfl) (fun _ _ _ h => h) (Or.inl ⟨by rfl, by intro wx hSw; (try dsimp only at hSw); go_simp; try with_reducible rfl⟩) (by assumption) ?_
  (try simp only [Act.put, List.setIfInBounds_toArray, List.set_cons_zero, List.set_cons_succ])
  refine take_first 4 (v := ?_) rfl (by kernel_rfl) (by kernel_rfl) (by kernel_rfl) (fun _ _ _ h => h) (Or.inl ⟨by rfl, by intro wx hSw; (try dsimp only at hSw); go_simp; try with_reducible rfl⟩) (by assumption) ?_
  (try simp only [Act.put, List.setIfInBounds_toArray, List.set_cons_zero, List.set_cons_succ])
  refine take_first 5 (v := ?_) rfl (by kernel_rfl) (by kernel_rfl) (by kernel_rfl) (fun _ _ _ h => h) (Or.inl ⟨by rfl, by intro wx hSw; (try dsimp only at hSw); go_simp; try with_reducible rfl⟩) (by assumption) ?_
  (try simp only [Act.put, List.setIfInBounds_toArray, List.set_cons_zero, List.set_cons_succ])
  refine take_first 6 (v := ?_) rfl (by kernel_rfl) (by kernel_rfl) (by kernel_rfl) (fun _ _ _ h => h) (Or.inl ⟨by rfl, by intro wx hSw; (try dsimp only at hSw); go_simp; try with_reducible rfl⟩) (by assumption) ?_
  (try simp only [Act.put, List.setIfInBounds_toArray, List.set_cons_zero, List.set_cons_succ])
  refine take_first 7 (v := ?_) rfl (by kernel_rfl) (by kernel_rfl) (by kernel_rfl) (fun _ _ _ h => h) (Or.inl ⟨by rfl, by intro wx hSw; (try dsimp only at hSw); go_simp; try with_reducible rfl⟩) (by assumption) ?_
  (try simp only [Act.put, List.setIfInBounds_toArray, List.set_cons_zero, List.set_cons_succ])
  refine take_first 9 (v := ?_) rfl (by kernel_rfl) (by kernel_rfl) (by kernel_rfl) (fun _ _ _ h => h) (Or.inl ⟨by rfl, by intro wx hSw; (try dsimp only at hSw); go_simp; try with_reducible rfl⟩) (by assumption) ?_
  (try simp only [Act.put, List.setIfInBounds_toArray, List.set_cons_zero, List.set_cons_succ])
  refine take_first 11 (v := ?_) rfl (by kernel_rfl) (by kernel_rfl) (by kernel_rfl) (fun _ _ _ h => h) (Or.inl ⟨by rfl, by intro wx hSw; (try dsimp only at hSw); go_simp; try with_reducible rfl⟩) (by assumption) ?_
  (try simp only [Act.put, List.setIfInBounds_toArray, List.set_cons_zero, List.set_cons_succ])
  refine take_first 12 (v := ?_) rfl (by kernel_rfl) (by kernel_rfl) (by kernel_rfl) (fun _ _ _ h => h) (Or.inl ⟨by rfl, by intro wx hSw; (try dsimp only at hSw); go_simp; try with_reducible rfl⟩) (by assumption) ?_
  (try simp only [Act.put, List.setIfInBounds_toArray, List.set_cons_zero, List.set_cons_succ])
  refine comes_up 8 rfl (by kernel_rfl) (fun K hK => ?_)
  go_simp
  refine hK.out _ _ trivial (fun hHeld => ?_)
  clear hK K
  (try simp only [Act.put, List.setIfInBounds_toArray, List.set_cons_zero, List.set_cons_succ])
  refine comes_up 10 rfl (by kernel_rfl) (fun K hK => ?_)
  go_simp
  refine (w2' _).mono ?_
  rintro e w2 ⟨rfl, rfl⟩
  go_wp2_with fail
  refine hK.out _ _ trivial (fun hHeld => ?_)
  clear hK K
  (try simp only [Act.put, List.setIfInBounds_toArray, List.set_cons_zero, List.set_cons_succ])
  refine take_first 13 (v := ?_) rfl (by kernel_rfl) (by kernel_rfl) (by kernel_rfl) (fun _ _ _ h => h) (Or.inl ⟨by rfl, by intro wx hSw; (try dsimp only at hSw); go_simp; try with_reducible rfl⟩) (by assumption) ?_
  (try simp only [Act.put, List.setIfInBounds_toArray, List.set_cons_zero, List.set_cons_succ])
  refine comes_up 14 rfl (by kernel_rfl) (fun K hK => ?_)
  go_simp
  refine hK.out _ _ trivial (fun hHeld => ?_)
  clear hK K
  (try simp only [Act.put, List.setIfInBounds_toArray, List.set_cons_zero, List.set_cons_succ])
  refine wpAnyH_done (by kernel_rfl) ?_ _
  refine NoPanic.normal ?_
  go_wp2
  go_ret
  exact ⟨rfl, HE2.out 1⟩
theorem change_nil_with (w : World) (a b : Int) : Calls Try.prog 41 #[.pointer none, .int .i64 a, .int .i64 b, .func (.func 29) #[] #[]] w fun e w' => e = .returned (.int .i64 6) ∧ w = w' := by
  go_enter Try.func41, Try.ntmps41
  go_wp2
  go_ret
  exact ⟨rfl, rfl⟩
theorem change_err_with {w : World} {p N : Nat} {H : Nat → Nat} {sv : Value} {lost : Nat} {L : List Px} {A : List Pa} (h : NetIs w p N H sv lost L A) (a b : Int) (hn : ¬ ((0 ≤ a ∧ a < N) ∧ (0 ≤ b ∧ b < N) ∧ a ≠ b)) :
    Calls Try.prog 41 #[.pointer (some ⟨p, 0, none⟩), .int .i64 a, .int .i64 b, .func (.func 29) #[] #[]] w fun e w' => e = .returned (.int .i64 1) ∧ w = w' := by
  have na := node_any h a
  have nb := node_any h b
  clear h
  by_cases h1 : 0 ≤ a ∧ a < N
  · have e1 : isNode N a = true := by unfold isNode; simpa using h1
    rw [e1] at na
    clear e1
    by_cases h2 : 0 ≤ b ∧ b < N
    · have e2 : isNode N b = true := by unfold isNode; simpa using h2
      rw [e2] at nb
      clear e2
      obtain rfl : a = b := by
        by_cases e : a = b
        · exact e
        · exact absurd ⟨h1, h2, e⟩ hn
      clear hn
      go_enter Try.func41, Try.ntmps41
      go_wp2_with fail
      refine na.mono ?_
      rintro e w1 ⟨rfl, rfl⟩
      go_wp2_with fail
      refine nb.mono ?_
      rintro e w1 ⟨rfl, rfl⟩
      go_wp2
      go_ret
      exact ⟨rfl, rfl⟩
    · have e2 : isNode N b = false := by unfold isNode; simpa using h2
      rw [e2] at nb
      clear e2 hn
      go_enter Try.func41, Try.ntmps41
      go_wp2_with fail
      refine na.mono ?_
      rintro e w1 ⟨rfl, rfl⟩
      go_wp2_with fail
      refine nb.mono ?_
      rintro e w1 ⟨rfl, rfl⟩
      go_wp2
      go_ret
      exact ⟨rfl, rfl⟩
  · have e1 : isNode N a = false := by unfold isNode; simpa using h1
    rw [e1] at na
    clear e1 hn
    go_enter Try.func41, Try.ntmps41
    go_wp2_with fail
    refine na.mono ?_
    rintro e w1 ⟨rfl, rfl⟩
    go_wp2
    go_ret
    exact ⟨rfl, rfl⟩

set_option maxRecDepth 10000 in
set_option maxHeartbeats 1000000 in
theorem change_is_with {w : World} {p N : Nat} {H : Nat → Nat} {sv : Value} {lost : Nat} {L : List Px} {A : List Pa} (h : NetIs w p N H sv lost L A) (a b : Nat) (ha : a < N) (hb : b < N) (hab : a ≠ b) :
    Calls Try.prog 41 #[.pointer (some ⟨p, 0, none⟩), .int .i64 (a : Nat), .int .i64 (b : Nat), .func (.func 29) #[] #[]] w fun e w' => e = .returned (.int .i64 0) ∧ NetIs w' p N (put (put H a (withN (H a) b)) b (withN (H b) a)) sv lost L A ∧ Turned (fun b => b = p) w w' := by
  have na := node_any h (a : Int)
  have nb := node_any h (b : Int)
  rw [show isNode N (a : Int) = true by unfold isNode; simp; omega] at na
  rw [show isNode N (b : Int) = true by unfold isNode; simp; omega] at nb
  have h16 := h.n16
  have ha16 : (a : Int) < 16 := by omega
  have hb16 : (b : Int) < 16 := by omega
  have hne : ((a : Int) == (b : Int)) = false := by
    have : ¬ ((a : Int) = b) := by omega
    simpa using this
  have ca := h.cH a (by omega)
  have cb := h.cH b (by omega)
  have f1 := h.free (1 + a)
  have f2 := h.free (1 + b)
  have w1' := fun W => with_any W (H a) (h.hs a) (b : Int)
  have w2' := fun W => with_any W (H b) (h.hs b) (a : Int)
  have HE : Hid (∀ q r, NetIs ((((w.drewN q).setCell ⟨p, 1 + a, none⟩ (.int .u16 (withN (H a) b : Nat))).drewN r).setCell ⟨p, 1 + b, none⟩ (.int .u16 (withN (H b) a : Nat))) p N (put (put H a (withN (H a) b)) b (withN (H b) a)) sv lost L A ∧ Turned (fun b => b = p) w ((((w.drewN q).setCell ⟨p, 1 + a, none⟩ (.int .u16 (withN (H a) b : Nat))).drewN r).setCell ⟨p, 1 + b, none⟩ (.int .u16 (withN (H b) a : Nat)))) := fun q r =>
    ⟨(((h.drewN q).setH a _ (by omega) (withN_lt _ (h.hs a) _)).drewN r).setH b _ (by omega) (withN_lt _ (h.hs b) _), ((((Turned.refl (fun b => b = p) w).drewN q).setCell (p := ⟨p, 1 + a, none⟩) (.inl rfl) _).drewN r).setCell (p := ⟨p, 1 + b, none⟩) (.inl rfl) _⟩
  have hno : ¬ (p = p ∧ 1 + b = 1 + a) := by omega
  have cb2 : ∀ q v, ((w.drewN q).setCell ⟨p, 1 + a, none⟩ v).cell? ⟨p, 1 + b, none⟩ = some (.int .u16 (H b : Nat)) := fun q v => by rw [set_cell_other hno]; exact cb
  generalize withN (H a) b = s1 at *
  generalize withN (H b) a = s2 at *
  generalize H a = r1 at *
  generalize H b = r2 at *
  clear h
  go_enter Try.func41, Try.ntmps41
  go_wp2_with fail
  refine na.mono ?_
  rintro e w1 ⟨rfl, rfl⟩
  go_wp2_with fail
  refine nb.mono ?_
  rintro e w1 ⟨rfl, rfl⟩
  go_wp2_with fail
  refine wp_region_noPanic ?_
  refine wp_region_held_drew (S := fun wx => True) (by kernel_rfl) trivial (fun hHeld => ?_)
  refine take_first 0 (v := ?_) rfl (by kernel_rfl) (by kernel_rfl) (by kernel_rfl) (fun _ _ _ h => h) (Or.inl ⟨by rfl, by intro wx hSw; (try dsimp only at hSw); go_simp; try with_reducible rfl⟩) (by assumption) ?_
  (try simp only [Act.put, List.setIfInBounds_toArray, List.set_cons_zero, List.set_cons_succ])
  refine take_first 1 (v := ?_) rfl (by kernel_rfl) (by kernel_rfl) (by kernel_rfl) (fun _ _ _ h => h) (Or.inl ⟨by rfl, by intro wx hSw; (try dsimp only at hSw); go_simp; try with_reducible rfl⟩) (by assumption) ?_
  (try simp only [Act.put, List.setIfInBounds_toArray, List.set_cons_zero, List.set_cons_succ])
  refine take_first 2 (v := ?_) rfl (by kernel_rfl) (by kernel_rfl) (by kernel_rfl) (fun _ _ _ h => h) (Or.inl ⟨by rfl, by intro wx hSw; (try dsimp only at hSw); go_simp; try with_reducible rfl⟩) (by assumption) ?_
  (try simp only [Act.put, List.setIfInBounds_toArray, List.set_cons_zero, List.set_cons_succ])
  refine take_first 3 (v := ?_) rfl (by kernel_rfl) (by kernel_rfl) (by kernel_rfl) (fun _ _ _ h => h) (Or.inl ⟨by rfl, by intro wx hSw; (try dsimp only at hSw); go_simp; try with_reducible rfl⟩) (by assumption) ?_
  (try simp only [Act.put, List.setIfInBounds_toArray, List.set_cons_zero, List.set_cons_succ])
  refine take_first 4 (v := ?_) rfl (by kernel_rfl) (by kernel_rfl) (by kernel_rfl) (fun _ _ _ h => h) (Or.inl ⟨by rfl, by intro wx hSw; (try dsimp only at hSw); go_simp; try with_reducible rfl⟩) (by assumption) ?_
  (try simp only [Act.put, List.setIfInBounds_toArray, List.set_cons_zero, List.set_cons_succ])
  refine take_first 5 (v := ?_) rfl (by kernel_rfl) (by kernel_rfl) (by kernel_rfl) (fun _ _ _ h => h) (Or.inl ⟨by rfl, by intro wx hSw; (try dsimp only at hSw); go_simp; try with_reducible rfl⟩) (by assumption) ?_
  (try simp only [Act.put, List.setIfInBounds_toArray, List.set_cons_zero, List.set_cons_succ])
  refine take_first 6 (v := ?_) rfl (by kernel_rfl) (by kernel_rfl) (by kernel_rfl) (fun _ _ _ h => h) (Or.inl ⟨by rfl, by intro wx hSw; (try dsimp only at hSw); go_simp; try with_reducible rfl⟩) (by assumption) ?_
  (try simp only [Act.put, List.setIfInBounds_toArray, List.set_cons_zero, List.set_cons_succ])
  refine take_first 7 (v := ?_) rfl (by kernel_rfl) (by kernel_rfl) (by kernel_rfl) (fun _ _ _ h => h) (Or.inl ⟨by rfl, by intro wx hSw; (try dsimp only at hSw); go_simp; try with_reducible rfl⟩) (by assumption) ?_
  (try simp only [Act.put, List.setIfInBounds_toArray, List.set_cons_zero, List.set_cons_succ])
  refine take_first 9 (v := ?_) rfl (by kernel_rfl) (by kernel_rfl) (by kernel_rfl) (fun _ _ _ h => h) (Or.inl ⟨by rfl, by intro wx hSw; (try dsimp only at hSw); go_simp; try with_reducible rfl⟩) (by assumption) ?_
  (try simp only [Act.put, List.setIfInBounds_toArray, List.set_cons_zero, List.set_cons_succ])
  refine take_first 11 (v := ?_) rfl (by kernel_rfl) (by kernel_rfl) (by kernel_rfl) (fun _ _ _ h => h) (Or.inl ⟨by rfl, by intro wx hSw; (try dsimp only at hSw); go_simp; try with_reducible rfl⟩) (by assumption) ?_
  (try simp only [Act.put, List.setIfInBounds_toArray, List.set_cons_zero, List.set_cons_succ])
  refine take_first 12 (v := ?_) rfl (by kernel_rfl) (by kernel_rfl) (by kernel_rfl) (fun _ _ _ h => h) (Or.inl ⟨by rfl, by intro wx hSw; (try dsimp only at hSw); go_simp; try with_reducible rfl⟩) (by assumption) ?_
  (try simp only [Act.put, List.setIfInBounds_toArray, List.set_cons_zero, List.set_cons_succ])
  refine comes_up 8 rfl (by kernel_rfl) (fun K hK => ?_)
  go_simp
  refine hK.out _ _ trivial (fun hHeld => ?_)
  clear hK K
  (try simp only [Act.put, List.setIfInBounds_toArray, List.set_cons_zero, List.set_cons_succ])
  refine comes_up 10 rfl (by kernel_rfl) (fun K hK => ?_)
  go_simp
  refine (w1' _).mono ?_
  rintro e w2 ⟨rfl, rfl⟩
  go_wp2_with fail
  refine hK.out _ _ trivial (fun hHeld => ?_)
  clear hK K
  (try simp only [Act.put, List.setIfInBounds_toArray, List.set_cons_zero, List.set_cons_succ])
  refine take_first 13 (v := ?_) rfl (by kernel_rfl) (by kernel_rfl) (by kernel_rfl) (fun _ _ _ h => h) (Or.inl ⟨by rfl, by intro wx hSw; (try dsimp only at hSw); go_simp; try with_reducible rfl⟩) (by assumption) ?_
  (try simp only [Act.put, List.setIfInBounds_toArray, List.set_cons_zero, List.set_cons_succ])
  refine comes_up 14 rfl (by kernel_rfl) (fun K hK => ?_)
  go_simp
  refine hK.out _ _ trivial (fun hHeld => ?_)
  clear hK K
  (try simp only [Act.put, List.setIfInBounds_toArray, List.set_cons_zero, List.set_cons_succ])
  refine wpAnyH_done (by kernel_rfl) ?_ _
  refine NoPanic.normal ?_
  obtain ⟨wa, hwa⟩ : ∃ wa, (w.drewN 1).setCell ⟨p, 1 + a, none⟩ (.int .u16 (s1 : Nat)) = wa := ⟨_, rfl⟩
  have cb3 : wa.cell? ⟨p, 1 + b, none⟩ = some (.int .u16 (r2 : Nat)) := by rw [← hwa]; exact cb2 1 _
  have f3 : wa.frozen? ⟨p, 1 + b, none⟩ = false := by rw [← hwa, World.frozen?_setCell]; exact f2
  have HE2 : Hid (∀ r, NetIs ((wa.drewN r).setCell ⟨p, 1 + b, none⟩ (.int .u16 (s2 : Nat))) p N (put (put H a s1) b s2) sv lost L A ∧ Turned (fun b => b = p) w ((wa.drewN r).setCell ⟨p, 1 + b, none⟩ (.int .u16 (s2 : Nat)))) := fun r => by rw [← hwa]; exact HE.out 1 r
  have hwa2 : (w.setCell ⟨p, 1 + a, none⟩ (.int .u16 (s1 : Nat))).drew = wa := hwa
  (try simp only [hwa2])
  clear hwa hwa2 HE cb2 ca cb f1 f2 na nb w1'
  go_wp2_with fail
  refine wp_region_noPanic ?_
  refine wp_region_held_drew (S := fun wx => True) (by kernel_rfl) trivial (fun hHeld => ?_)
  refine take_first 0 (v := ?_) rfl (by kernel_rfl) (by kernel_rfl) (by kernel_rfl) (fun _ _ _ h => h) (Or.inl ⟨by rfl, by intro wx hSw; (try dsimp only at hSw); go_simp; try with_reducible rfl⟩) (by assumption) ?_
  (try simp only [Act.put, List.setIfInBounds_toArray, List.set_cons_zero, List.set_cons_succ])
  refine take_first 1 (v := ?_) rfl (by kernel_rfl) (by kernel_rfl) (by kernel_rfl) (fun _ _ _ h => h) (Or.inl ⟨by rfl, by intro wx hSw; (try dsimp only at hSw); go_simp; try with_reducible rfl⟩) (by assumption) ?_
  (try simp only [Act.put, List.setIfInBounds_toArray, List.set_cons_zero, List.set_cons_succ])
  refine take_first 2 (v := ?_) rfl (by kernel_rfl) (by kernel_rfl) (by kernel_rfl) (fun _ _ _ h => h) (Or.inl ⟨by rfl, by intro wx hSw; (try dsimp only at hSw); go_simp; try with_reducible rfl⟩) (by assumption) ?_
  (try simp only [Act.put, List.setIfInBounds_toArray, List.set_cons_zero, List.set_cons_succ])
  refine take_first 3 (v := ?_) rfl (by kernel_rfl) (by kernel_rfl) (by kernel_rfl) (fun _ _ _ h => h) (Or.inl ⟨by rfl, by intro wx hSw; (try dsimp only at hSw); go_simp; try with_reducible rfl⟩) (by assumption) ?_
  (try simp only [Act.put, List.setIfInBounds_toArray, List.set_cons_zero, List.set_cons_succ])
  refine take_first 4 (v := ?_) rfl (by kernel_rfl) (by kernel_rfl) (by kernel_rfl) (fun _ _ _ h => h) (Or.inl ⟨by rfl, by intro wx hSw; (try dsimp only at hSw); go_simp; try with_reducible rfl⟩) (by assumption) ?_
  (try simp only [Act.put, List.setIfInBounds_toArray, List.set_cons_zero, List.set_cons_succ])
  refine take_first 5 (v := ?_) rfl (by kernel_rfl) (by kernel_rfl) (by kernel_rfl) (fun _ _ _ h => h) (Or.inl ⟨by rfl, by intro wx hSw; (try dsimp only at hSw); go_simp; try with_reducible rfl⟩) (by assumption) ?_
  (try simp only [Act.put, List.setIfInBounds_toArray, List.set_cons_zero, List.set_cons_succ])
  refine take_first 6 (v := ?_) rfl (by kernel_rfl) (by kernel_rfl) (by kernel_rfl) (fun _ _ _ h => h) (Or.inl ⟨by rfl, by intro wx hSw; (try dsimp only at hSw); go_simp; try with_reducible rfl⟩) (by assumption) ?_
  (try simp only [Act.put, List.setIfInBounds_toArray, List.set_cons_zero, List.set_cons_succ])
  refine take_first 7 (v := ?_) rfl (by kernel_rfl) (by kernel_rfl) (by kernel_rfl) (fun _ _ _ h => h) (Or.inl ⟨by rfl, by intro wx hSw; (try dsimp only at hSw); go_simp; try with_reducible rfl⟩) (by assumption) ?_
  (try simp only [Act.put, List.setIfInBounds_toArray, List.set_cons_zero, List.set_cons_succ])
  refine take_first 9 (v := ?_) rfl (by kernel_rfl) (by kernel_rfl) (by kernel_rfl) (fun _ _ _ h => h) (Or.inl ⟨by rfl, by intro wx hSw; (try dsimp only at hSw); go_simp; try with_reducible rfl⟩) (by assumption) ?_
  (try simp only [Act.put, List.setIfInBounds_toArray, List.set_cons_zero, List.set_cons_succ])
  refine take_first 11 (v := ?_) rfl (by kernel_rfl) (by kernel_rfl) (by kernel_rfl) (fun _ _ _ h => h) (Or.inl ⟨by rfl, by intro wx hSw; (try dsimp only at hSw); go_simp; try with_reducible rfl⟩) (by assumption) ?_
  (try simp only [Act.put, List.setIfInBounds_toArray, List.set_cons_zero, List.set_cons_succ])
  refine take_first 12 (v := ?_) rfl (by kernel_rfl) (by kernel_rfl) (by kernel_rfl) (fun _ _ _ h => h) (Or.inl ⟨by rfl, by intro wx hSw; (try dsimp only at hSw); go_simp; try with_reducible rfl⟩) (by assumption) ?_
  (try simp only [Act.put, List.setIfInBounds_toArray, List.set_cons_zero, List.set_cons_succ])
  refine comes_up 8 rfl (by kernel_rfl) (fun K hK => ?_)
  go_simp
  refine hK.out _ _ trivial (fun hHeld => ?_)
  clear hK K
  (try simp only [Act.put, List.setIfInBounds_toArray, List.set_cons_zero, List.set_cons_succ])
  refine comes_up 10 rfl (by kernel_rfl) (fun K hK => ?_)
  go_simp
  refine (w2' _).mono ?_
  rintro e w2 ⟨rfl, rfl⟩
  go_wp2_with fail
  refine hK.out _ _ trivial (fun hHeld => ?_)
  clear hK K
  (try simp only [Act.put, List.setIfInBounds_toArray, List.set_cons_zero, List.set_cons_succ])
  refine take_first 13 (v := ?_) rfl (by kernel_rfl) (by kernel_rfl) (by kernel_rfl) (fun _ _ _ h => h) (Or.inl ⟨by rfl, by intro wx hSw; (try dsimp only at hSw); go_simp; try with_reducible rfl⟩) (by assumption) ?_
  (try simp only [Act.put, List.setIfInBounds_toArray, List.set_cons_zero, List.set_cons_succ])
  refine comes_up 14 rfl (by kernel_rfl) (fun K hK => ?_)
  go_simp
  refine hK.out _ _ trivial (fun hHeld => ?_)
  clear hK K
  (try simp only [Act.put, List.setIfInBounds_toArray, List.set_cons_zero, List.set_cons_succ])
  refine wpAnyH_done (by kernel_rfl) ?_ _
  refine NoPanic.normal ?_
  go_wp2
  go_ret
  exact ⟨rfl, HE2.out 1⟩
theorem cut_nil (w : World) (a b : Int) : Calls Try.prog 20 #[.pointer none, .int .i64 a, .int .i64 b] w fun e w' => e = .returned (.int .i64 6) ∧ w = w' := by
  go_enter Try.func20, Try.ntmps20
  go_wp2_with fail
  refine (change_nil_without _ _ _).mono ?_
  rintro e w1 ⟨rfl, rfl⟩
  go_wp2
  go_ret
  exact ⟨rfl, rfl⟩
/-- Of nodes that are none, or of one alone. -/
theorem cut_err {w : World} {F : Nat → Prop} {p N : Nat} {H : Nat → Nat} {lost : Nat} {A : List Pa} (h : Nt w F p N H lost A) (a b : Int) (hn : ¬ ((0 ≤ a ∧ a < N) ∧ (0 ≤ b ∧ b < N) ∧ a ≠ b)) :
    Calls Try.prog 20 #[.pointer (some ⟨p, 0, none⟩), .int .i64 a, .int .i64 b] w fun e w' => e = .returned (.int .i64 1) ∧ w = w' := by
  obtain ⟨⟨sv, L, h1, _⟩, _⟩ := h
  have hc := change_err_without h1 a b hn
  clear h1
  go_enter Try.func20, Try.ntmps20
  go_wp2_with fail
  refine hc.mono ?_
  rintro e w1 ⟨rfl, rfl⟩
  go_wp2
  go_ret
  exact ⟨rfl, rfl⟩
theorem cut_any {w : World} {F : Nat → Prop} {p N : Nat} {H : Nat → Nat} {lost : Nat} {A : List Pa} (h : Nt w F p N H lost A) (a b : Nat) (ha : a < N) (hb : b < N) (hab : a ≠ b) :
    Calls Try.prog 20 #[.pointer (some ⟨p, 0, none⟩), .int .i64 (a : Nat), .int .i64 (b : Nat)] w fun e w' => e = .returned (.int .i64 0) ∧ Nt w' F p N (put (put H a (withoutN (H a) b)) b (withoutN (H b) a)) lost A ∧ Turned F w w' := by
  obtain ⟨⟨sv, L, h1, h2⟩, h3⟩ := h
  have hc := change_is_without h1 a b ha hb hab
  have hp : F p := h2 p (.inl rfl)
  clear h1
  go_enter Try.func20, Try.ntmps20
  go_wp2_with fail
  refine hc.mono ?_
  rintro e w1 ⟨rfl, k1, k2⟩
  have HE : Hid (Nt w1 F p N (put (put H a (withoutN (H a) b)) b (withoutN (H b) a)) lost A ∧ Turned F w w1) := ⟨⟨⟨sv, L, k1, h2⟩, fun b hb => Nat.lt_of_lt_of_le (h3 b hb) k2.size⟩, k2.mono (fun i hi => by rw [hi]; exact hp)⟩
  clear k1 k2 hc
  go_wp2
  go_ret
  exact ⟨rfl, HE.out⟩
theorem join_nil (w : World) (a b : Int) : Calls Try.prog 28 #[.pointer none, .int .i64 a, .int .i64 b] w fun e w' => e = .returned (.int .i64 6) ∧ w = w' := by
  go_enter Try.func28, Try.ntmps28
  go_wp2_with fail
  refine (change_nil_with _ _ _).mono ?_
  rintro e w1 ⟨rfl, rfl⟩
  go_wp2
  go_ret
  exact ⟨rfl, rfl⟩
/-- Of nodes that are none, or of one alone. -/
theorem join_err {w : World} {F : Nat → Prop} {p N : Nat} {H : Nat → Nat} {lost : Nat} {A : List Pa} (h : Nt w F p N H lost A) (a b : Int) (hn : ¬ ((0 ≤ a ∧ a < N) ∧ (0 ≤ b ∧ b < N) ∧ a ≠ b)) :
    Calls Try.prog 28 #[.pointer (some ⟨p, 0, none⟩), .int .i64 a, .int .i64 b] w fun e w' => e = .returned (.int .i64 1) ∧ w = w' := by
  obtain ⟨⟨sv, L, h1, _⟩, _⟩ := h
  have hc := change_err_with h1 a b hn
  clear h1
  go_enter Try.func28, Try.ntmps28
  go_wp2_with fail
  refine hc.mono ?_
  rintro e w1 ⟨rfl, rfl⟩
  go_wp2
  go_ret
  exact ⟨rfl, rfl⟩
theorem join_any {w : World} {F : Nat → Prop} {p N : Nat} {H : Nat → Nat} {lost : Nat} {A : List Pa} (h : Nt w F p N H lost A) (a b : Nat) (ha : a < N) (hb : b < N) (hab : a ≠ b) :
    Calls Try.prog 28 #[.pointer (some ⟨p, 0, none⟩), .int .i64 (a : Nat), .int .i64 (b : Nat)] w fun e w' => e = .returned (.int .i64 0) ∧ Nt w' F p N (put (put H a (withN (H a) b)) b (withN (H b) a)) lost A ∧ Turned F w w' := by
  obtain ⟨⟨sv, L, h1, h2⟩, h3⟩ := h
  have hc := change_is_with h1 a b ha hb hab
  have hp : F p := h2 p (.inl rfl)
  clear h1
  go_enter Try.func28, Try.ntmps28
  go_wp2_with fail
  refine hc.mono ?_
  rintro e w1 ⟨rfl, k1, k2⟩
  have HE : Hid (Nt w1 F p N (put (put H a (withN (H a) b)) b (withN (H b) a)) lost A ∧ Turned F w w1) := ⟨⟨⟨sv, L, k1, h2⟩, fun b hb => Nat.lt_of_lt_of_le (h3 b hb) k2.size⟩, k2.mono (fun i hi => by rw [hi]; exact hp)⟩
  clear k1 k2 hc
  go_wp2
  go_ret
  exact ⟨rfl, HE.out⟩
end Go.Proofs.Ytagabmhgcmnldaa
