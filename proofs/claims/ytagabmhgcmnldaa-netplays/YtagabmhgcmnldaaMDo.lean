/-
  One step of a script on both nets: what answers with a number.
-/
import Derived.Test.YtagabmhgcmnldaaMBoth
namespace Go.Proofs.Ytagabmhgcmnldaa
open Go.RowKit
set_option linter.unusedVariables false
set_option linter.unusedSimpArgs false

def actv (k : Nat) (I J : Int) (v : Value) : Value := .agg #[.int .u8 (k : Nat), .int .i64 I, .int .i64 J, v]
def acto (k : Nat) (I J : Int) (v : Value) : Obj := .cells #[.int .u8 (k : Nat), .int .i64 I, .int .i64 J, v] 37
theorem act_cells {w W : World} {k : Nat} {I J : Int} {v : Value} (hb : W.heap[w.heap.size]? = (w.alloc (acto k I J v)).heap[w.heap.size]?) : W.cell? ⟨w.heap.size, 0, none⟩ = some (.int .u8 (k : Nat)) ∧ W.cell? ⟨w.heap.size, 1, none⟩ = some (.int .i64 I) ∧ W.cell? ⟨w.heap.size, 2, none⟩ = some (.int .i64 J) ∧ W.cell? ⟨w.heap.size, 3, none⟩ = some v :=
  ⟨(cell_block hb).trans (cell_box w _ 37 0 _ rfl), (cell_block hb).trans (cell_box w _ 37 1 _ rfl), (cell_block hb).trans (cell_box w _ 37 2 _ rfl), (cell_block hb).trans (cell_box w _ 37 3 _ rfl)⟩

section
variable {w w0 w2 : World} {G : Nat → Prop} {p m N lost : Nat} {A : List Pa}
theorem Nxt.from (h : Nxt w0 G p m N lost A w2) (u : Below w.heap.size w w0) : Nxt w G p m N lost A w2 := by
  obtain ⟨G', lost', A', h1, h2, h3, h4⟩ := h
  exact ⟨G', lost', A', h1, h2, h3, (goes_below u).trans h4⟩
theorem Nxt.turned (h : Nxt w G p m N lost A w2) : Turned G w w2 := h.choose_spec.choose_spec.choose_spec.2.2.2.turned
theorem Nxt.up {w3 : World} (h : Nxt w G p m N lost A w2) (u : Below w2.heap.size w2 w3) : Nxt w G p m N lost A w3 := by
  obtain ⟨G', lost', A', h1, h2, h3, h4⟩ := h
  exact ⟨G', lost', A', h1.up u, h2, h3, h4.trans (goes_below u)⟩

set_option maxRecDepth 10000 in
theorem do_drop (h : Bth w G p m N lost A) (k : Nat) (hk : k < 256) (hk2 : (k : Int) % 11 = 5) (I J : Int) (v : Value) (hl : lost < 1000000) : Calls Try.prog 13 #[.pointer (some ⟨p, 0, none⟩), .pointer (some ⟨m, 0, none⟩), actv k I J v] w fun e w' => e = .returned (.bool true) ∧ Nxt w G p m N lost A w' := by
  have u : Below w.heap.size w (w.alloc (acto k I J v)).drew := (bl1 w _).drew
  obtain ⟨r, hc⟩ := pair_drop (h.up u) I hl
  have hnG : ¬ G w.heap.size := fun hg => by have := h.2 _ hg; omega
  obtain ⟨e0, e1, e2, e3⟩ := act_cells (w := w) (W := w.alloc (acto k I J v)) (k := k) (I := I) (J := J) (v := v) rfl
  have hsz : w.heap.size < (w.alloc (acto k I J v)).drew.heap.size := by simp
  clear h
  unfold actv
  unfold acto at *
  go_enter Try.func13, Try.ntmps13
  go_wp2_with fail
  refine wp_region_noPanic ?_
  refine wp_region_held_drew (S := fun wx => wx.cell? ⟨w.heap.size, 1, none⟩ = some (.int .i64 I)) (by kernel_rfl) e1 (fun hHeld => ?_)
  refine take_first 0 (v := ?_) rfl (by kernel_rfl) (by kernel_rfl) (by kernel_rfl) (fun _ _ _ h => h) (Or.inl ⟨by rfl, by intro wx hSw; (try dsimp only at hSw); go_simp; try with_reducible rfl⟩) (by assumption) ?_
  (try simp only [Act.put, List.setIfInBounds_toArray, List.set_cons_zero, List.set_cons_succ])
  refine take_first 1 (v := ?_) rfl (by kernel_rfl) (by kernel_rfl) (by kernel_rfl) (fun _ _ _ h => h) (Or.inl ⟨by rfl, by intro wx hSw; (try dsimp only at hSw); go_simp; try with_reducible rfl⟩) (by assumption) ?_
  (try simp only [Act.put, List.setIfInBounds_toArray, List.set_cons_zero, List.set_cons_succ])
  refine take_first 2 (v := ?_) rfl (by kernel_rfl) (by kernel_rfl) (by kernel_rfl) (fun _ _ _ h => h) (Or.inl ⟨by rfl, by intro wx hSw; (try dsimp only at hSw); go_simp; try with_reducible rfl⟩) (by assumption) ?_
  (try simp only [Act.put, List.setIfInBounds_toArray, List.set_cons_zero, List.set_cons_succ])
  refine take_first 4 (v := ?_) rfl (by kernel_rfl) (by kernel_rfl) (by kernel_rfl) (fun _ _ _ h => h) (Or.inl ⟨by rfl, by intro wx hSw; (try dsimp only at hSw); go_simp; try with_reducible rfl⟩) (by assumption) ?_
  (try simp only [Act.put, List.setIfInBounds_toArray, List.set_cons_zero, List.set_cons_succ])
  refine take_first 5 (v := ?_) rfl (by kernel_rfl) (by kernel_rfl) (by kernel_rfl) (fun _ _ _ h => h) (Or.inl ⟨by rfl, by intro wx hSw; (try dsimp only at hSw); go_simp; try with_reducible rfl⟩) (by assumption) ?_
  (try simp only [Act.put, List.setIfInBounds_toArray, List.set_cons_zero, List.set_cons_succ])
  refine take_first 6 (v := ?_) rfl (by kernel_rfl) (by kernel_rfl) (by kernel_rfl) (fun _ _ _ h => h) (Or.inl ⟨by rfl, by intro wx hSw; (try dsimp only at hSw); go_simp; try with_reducible rfl⟩) (by assumption) ?_
  (try simp only [Act.put, List.setIfInBounds_toArray, List.set_cons_zero, List.set_cons_succ])
  refine comes_up 3 rfl (by kernel_rfl) (fun K hK => ?_)
  go_simp
  refine hc.mono ?_
  rintro e w1 ⟨rfl, t1, hc2⟩
  have e1b : w1.cell? ⟨w.heap.size, 1, none⟩ = some (.int .i64 I) := (cell_block (t1.block _ hsz hnG)).trans e1
  go_wp2_with fail
  refine hK.out _ _ e1b (fun hHeld => ?_)
  clear hK K
  (try simp only [Act.put, List.setIfInBounds_toArray, List.set_cons_zero, List.set_cons_succ])
  refine comes_up 7 rfl (by kernel_rfl) (fun K hK => ?_)
  go_simp
  refine hc2.mono ?_
  rintro e w2 ⟨rfl, hN⟩
  have e1c : w2.cell? ⟨w.heap.size, 1, none⟩ = some (.int .i64 I) := (cell_block (hN.turned.block _ hsz hnG)).trans e1
  have HN := hN.from u
  go_wp2_with fail
  refine hK.out _ _ e1c (fun hHeld => ?_)
  clear hK K
  (try simp only [Act.put, List.setIfInBounds_toArray, List.set_cons_zero, List.set_cons_succ])
  refine take_first 8 (v := ?_) rfl (by kernel_rfl) (by kernel_rfl) (by kernel_rfl) (fun _ _ _ h => h) (Or.inl ⟨by rfl, by intro wx hSw; (try dsimp only at hSw); go_simp; try with_reducible rfl⟩) (by assumption) ?_
  (try simp only [Act.put, List.setIfInBounds_toArray, List.set_cons_zero, List.set_cons_succ])
  refine take_first 9 (v := ?_) rfl (by kernel_rfl) (by kernel_rfl) (by kernel_rfl) (fun _ _ _ h => h) (Or.inl ⟨by rfl, by intro wx hSw; (try dsimp only at hSw); go_simp; try with_reducible rfl⟩) (by assumption) ?_
  (try simp only [Act.put, List.setIfInBounds_toArray, List.set_cons_zero, List.set_cons_succ])
  refine wpAnyH_done (by kernel_rfl) ?_ _
  refine NoPanic.normal ?_
  go_wp2
  go_ret
  exact ⟨rfl, HN⟩
set_option maxRecDepth 10000 in
theorem do_double (h : Bth w G p m N lost A) (k : Nat) (hk : k < 256) (hk2 : (k : Int) % 11 = 6) (I J : Int) (v : Value) (hA : A.length < 80) : Calls Try.prog 13 #[.pointer (some ⟨p, 0, none⟩), .pointer (some ⟨m, 0, none⟩), actv k I J v] w fun e w' => e = .returned (.bool true) ∧ Nxt w G p m N lost A w' := by
  have u : Below w.heap.size w (w.alloc (acto k I J v)).drew := (bl1 w _).drew
  obtain ⟨r, hc⟩ := pair_double (h.up u) I hA
  have hnG : ¬ G w.heap.size := fun hg => by have := h.2 _ hg; omega
  obtain ⟨e0, e1, e2, e3⟩ := act_cells (w := w) (W := w.alloc (acto k I J v)) (k := k) (I := I) (J := J) (v := v) rfl
  have hsz : w.heap.size < (w.alloc (acto k I J v)).drew.heap.size := by simp
  clear h
  unfold actv
  unfold acto at *
  go_enter Try.func13, Try.ntmps13
  go_wp2_with fail
  refine wp_region_noPanic ?_
  refine wp_region_held_drew (S := fun wx => wx.cell? ⟨w.heap.size, 1, none⟩ = some (.int .i64 I)) (by kernel_rfl) e1 (fun hHeld => ?_)
  refine take_first 0 (v := ?_) rfl (by kernel_rfl) (by kernel_rfl) (by kernel_rfl) (fun _ _ _ h => h) (Or.inl ⟨by rfl, by intro wx hSw; (try dsimp only at hSw); go_simp; try with_reducible rfl⟩) (by assumption) ?_
  (try simp only [Act.put, List.setIfInBounds_toArray, List.set_cons_zero, List.set_cons_succ])
  refine take_first 1 (v := ?_) rfl (by kernel_rfl) (by kernel_rfl) (by kernel_rfl) (fun _ _ _ h => h) (Or.inl ⟨by rfl, by intro wx hSw; (try dsimp only at hSw); go_simp; try with_reducible rfl⟩) (by assumption) ?_
  (try simp only [Act.put, List.setIfInBounds_toArray, List.set_cons_zero, List.set_cons_succ])
  refine take_first 2 (v := ?_) rfl (by kernel_rfl) (by kernel_rfl) (by kernel_rfl) (fun _ _ _ h => h) (Or.inl ⟨by rfl, by intro wx hSw; (try dsimp only at hSw); go_simp; try with_reducible rfl⟩) (by assumption) ?_
  (try simp only [Act.put, List.setIfInBounds_toArray, List.set_cons_zero, List.set_cons_succ])
  refine take_first 4 (v := ?_) rfl (by kernel_rfl) (by kernel_rfl) (by kernel_rfl) (fun _ _ _ h => h) (Or.inl ⟨by rfl, by intro wx hSw; (try dsimp only at hSw); go_simp; try with_reducible rfl⟩) (by assumption) ?_
  (try simp only [Act.put, List.setIfInBounds_toArray, List.set_cons_zero, List.set_cons_succ])
  refine take_first 5 (v := ?_) rfl (by kernel_rfl) (by kernel_rfl) (by kernel_rfl) (fun _ _ _ h => h) (Or.inl ⟨by rfl, by intro wx hSw; (try dsimp only at hSw); go_simp; try with_reducible rfl⟩) (by assumption) ?_
  (try simp only [Act.put, List.setIfInBounds_toArray, List.set_cons_zero, List.set_cons_succ])
  refine take_first 6 (v := ?_) rfl (by kernel_rfl) (by kernel_rfl) (by kernel_rfl) (fun _ _ _ h => h) (Or.inl ⟨by rfl, by intro wx hSw; (try dsimp only at hSw); go_simp; try with_reducible rfl⟩) (by assumption) ?_
  (try simp only [Act.put, List.setIfInBounds_toArray, List.set_cons_zero, List.set_cons_succ])
  refine comes_up 3 rfl (by kernel_rfl) (fun K hK => ?_)
  go_simp
  refine hc.mono ?_
  rintro e w1 ⟨rfl, t1, hc2⟩
  have e1b : w1.cell? ⟨w.heap.size, 1, none⟩ = some (.int .i64 I) := (cell_block (t1.block _ hsz hnG)).trans e1
  go_wp2_with fail
  refine hK.out _ _ e1b (fun hHeld => ?_)
  clear hK K
  (try simp only [Act.put, List.setIfInBounds_toArray, List.set_cons_zero, List.set_cons_succ])
  refine comes_up 7 rfl (by kernel_rfl) (fun K hK => ?_)
  go_simp
  refine hc2.mono ?_
  rintro e w2 ⟨rfl, hN⟩
  have e1c : w2.cell? ⟨w.heap.size, 1, none⟩ = some (.int .i64 I) := (cell_block (hN.turned.block _ hsz hnG)).trans e1
  have HN := hN.from u
  go_wp2_with fail
  refine hK.out _ _ e1c (fun hHeld => ?_)
  clear hK K
  (try simp only [Act.put, List.setIfInBounds_toArray, List.set_cons_zero, List.set_cons_succ])
  refine take_first 8 (v := ?_) rfl (by kernel_rfl) (by kernel_rfl) (by kernel_rfl) (fun _ _ _ h => h) (Or.inl ⟨by rfl, by intro wx hSw; (try dsimp only at hSw); go_simp; try with_reducible rfl⟩) (by assumption) ?_
  (try simp only [Act.put, List.setIfInBounds_toArray, List.set_cons_zero, List.set_cons_succ])
  refine take_first 9 (v := ?_) rfl (by kernel_rfl) (by kernel_rfl) (by kernel_rfl) (fun _ _ _ h => h) (Or.inl ⟨by rfl, by intro wx hSw; (try dsimp only at hSw); go_simp; try with_reducible rfl⟩) (by assumption) ?_
  (try simp only [Act.put, List.setIfInBounds_toArray, List.set_cons_zero, List.set_cons_succ])
  refine wpAnyH_done (by kernel_rfl) ?_ _
  refine NoPanic.normal ?_
  go_wp2
  go_ret
  exact ⟨rfl, HN⟩
set_option maxRecDepth 10000 in
theorem do_turn (h : Bth w G p m N lost A) (k : Nat) (hk : k < 256) (hk2 : (k : Int) % 11 = 7) (I J : Int) (v : Value) (hb : J ≤ 9223372036854775807) : Calls Try.prog 13 #[.pointer (some ⟨p, 0, none⟩), .pointer (some ⟨m, 0, none⟩), actv k I J v] w fun e w' => e = .returned (.bool true) ∧ Nxt w G p m N lost A w' := by
  have u : Below w.heap.size w (w.alloc (acto k I J v)).drew := (bl1 w _).drew
  obtain ⟨r, hc⟩ := pair_turn (h.up u) I J hb
  have hnG : ¬ G w.heap.size := fun hg => by have := h.2 _ hg; omega
  obtain ⟨e0, e1, e2, e3⟩ := act_cells (w := w) (W := w.alloc (acto k I J v)) (k := k) (I := I) (J := J) (v := v) rfl
  have hsz : w.heap.size < (w.alloc (acto k I J v)).drew.heap.size := by simp
  clear h hb
  unfold actv
  unfold acto at *
  go_enter Try.func13, Try.ntmps13
  go_wp2_with fail
  refine wp_region_noPanic ?_
  refine wp_region_held_drew (S := fun wx => wx.cell? ⟨w.heap.size, 1, none⟩ = some (.int .i64 I) ∧ wx.cell? ⟨w.heap.size, 2, none⟩ = some (.int .i64 J)) (by kernel_rfl) ⟨e1, e2⟩ (fun hHeld => ?_)
  refine take_first 0 (v := ?_) rfl (by kernel_rfl) (by kernel_rfl) (by kernel_rfl) (fun _ _ _ h => h) (Or.inl ⟨by rfl, by intro wx hSw; (try dsimp only at hSw); obtain ⟨s1, s2⟩ := hSw; go_simp; try with_reducible rfl⟩) (by assumption) ?_
  (try simp only [Act.put, List.setIfInBounds_toArray, List.set_cons_zero, List.set_cons_succ])
  refine take_first 1 (v := ?_) rfl (by kernel_rfl) (by kernel_rfl) (by kernel_rfl) (fun _ _ _ h => h) (Or.inl ⟨by rfl, by intro wx hSw; (try dsimp only at hSw); obtain ⟨s1, s2⟩ := hSw; go_simp; try with_reducible rfl⟩) (by assumption) ?_
  (try simp only [Act.put, List.setIfInBounds_toArray, List.set_cons_zero, List.set_cons_succ])
  refine take_first 2 (v := ?_) rfl (by kernel_rfl) (by kernel_rfl) (by kernel_rfl) (fun _ _ _ h => h) (Or.inl ⟨by rfl, by intro wx hSw; (try dsimp only at hSw); obtain ⟨s1, s2⟩ := hSw; go_simp; try with_reducible rfl⟩) (by assumption) ?_
  (try simp only [Act.put, List.setIfInBounds_toArray, List.set_cons_zero, List.set_cons_succ])
  refine take_first 3 (v := ?_) rfl (by kernel_rfl) (by kernel_rfl) (by kernel_rfl) (fun _ _ _ h => h) (Or.inl ⟨by rfl, by intro wx hSw; (try dsimp only at hSw); obtain ⟨s1, s2⟩ := hSw; go_simp; try with_reducible rfl⟩) (by assumption) ?_
  (try simp only [Act.put, List.setIfInBounds_toArray, List.set_cons_zero, List.set_cons_succ])
  refine take_first 4 (v := ?_) rfl (by kernel_rfl) (by kernel_rfl) (by kernel_rfl) (fun _ _ _ h => h) (Or.inl ⟨by rfl, by intro wx hSw; (try dsimp only at hSw); obtain ⟨s1, s2⟩ := hSw; go_simp; try with_reducible rfl⟩) (by assumption) ?_
  (try simp only [Act.put, List.setIfInBounds_toArray, List.set_cons_zero, List.set_cons_succ])
  refine take_first 6 (v := ?_) rfl (by kernel_rfl) (by kernel_rfl) (by kernel_rfl) (fun _ _ _ h => h) (Or.inl ⟨by rfl, by intro wx hSw; (try dsimp only at hSw); obtain ⟨s1, s2⟩ := hSw; go_simp; try with_reducible rfl⟩) (by assumption) ?_
  (try simp only [Act.put, List.setIfInBounds_toArray, List.set_cons_zero, List.set_cons_succ])
  refine take_first 7 (v := ?_) rfl (by kernel_rfl) (by kernel_rfl) (by kernel_rfl) (fun _ _ _ h => h) (Or.inl ⟨by rfl, by intro wx hSw; (try dsimp only at hSw); obtain ⟨s1, s2⟩ := hSw; go_simp; try with_reducible rfl⟩) (by assumption) ?_
  (try simp only [Act.put, List.setIfInBounds_toArray, List.set_cons_zero, List.set_cons_succ])
  refine take_first 8 (v := ?_) rfl (by kernel_rfl) (by kernel_rfl) (by kernel_rfl) (fun _ _ _ h => h) (Or.inl ⟨by rfl, by intro wx hSw; (try dsimp only at hSw); obtain ⟨s1, s2⟩ := hSw; go_simp; try with_reducible rfl⟩) (by assumption) ?_
  (try simp only [Act.put, List.setIfInBounds_toArray, List.set_cons_zero, List.set_cons_succ])
  refine take_first 9 (v := ?_) rfl (by kernel_rfl) (by kernel_rfl) (by kernel_rfl) (fun _ _ _ h => h) (Or.inl ⟨by rfl, by intro wx hSw; (try dsimp only at hSw); obtain ⟨s1, s2⟩ := hSw; go_simp; try with_reducible rfl⟩) (by assumption) ?_
  (try simp only [Act.put, List.setIfInBounds_toArray, List.set_cons_zero, List.set_cons_succ])
  refine take_first 10 (v := ?_) rfl (by kernel_rfl) (by kernel_rfl) (by kernel_rfl) (fun _ _ _ h => h) (Or.inl ⟨by rfl, by intro wx hSw; (try dsimp only at hSw); obtain ⟨s1, s2⟩ := hSw; go_simp; try with_reducible rfl⟩) (by assumption) ?_
  (try simp only [Act.put, List.setIfInBounds_toArray, List.set_cons_zero, List.set_cons_succ])
  refine comes_up 5 rfl (by kernel_rfl) (fun K hK => ?_)
  go_simp
  refine hc.mono ?_
  rintro e w1 ⟨rfl, t1, hc2⟩
  have e1b : w1.cell? ⟨w.heap.size, 1, none⟩ = some (.int .i64 I) ∧ w1.cell? ⟨w.heap.size, 2, none⟩ = some (.int .i64 J) := ⟨(cell_block (t1.block _ hsz hnG)).trans e1, (cell_block (t1.block _ hsz hnG)).trans e2⟩
  go_wp2_with fail
  refine hK.out _ _ e1b (fun hHeld => ?_)
  clear hK K
  (try simp only [Act.put, List.setIfInBounds_toArray, List.set_cons_zero, List.set_cons_succ])
  refine comes_up 11 rfl (by kernel_rfl) (fun K hK => ?_)
  go_simp
  refine hc2.mono ?_
  rintro e w2 ⟨rfl, hN⟩
  have e1c : w2.cell? ⟨w.heap.size, 1, none⟩ = some (.int .i64 I) ∧ w2.cell? ⟨w.heap.size, 2, none⟩ = some (.int .i64 J) := ⟨(cell_block (hN.turned.block _ hsz hnG)).trans e1, (cell_block (hN.turned.block _ hsz hnG)).trans e2⟩
  have HN := hN.from u
  go_wp2_with fail
  refine hK.out _ _ e1c (fun hHeld => ?_)
  clear hK K
  (try simp only [Act.put, List.setIfInBounds_toArray, List.set_cons_zero, List.set_cons_succ])
  refine take_first 12 (v := ?_) rfl (by kernel_rfl) (by kernel_rfl) (by kernel_rfl) (fun _ _ _ h => h) (Or.inl ⟨by rfl, by intro wx hSw; (try dsimp only at hSw); go_simp; try with_reducible rfl⟩) (by assumption) ?_
  (try simp only [Act.put, List.setIfInBounds_toArray, List.set_cons_zero, List.set_cons_succ])
  refine take_first 13 (v := ?_) rfl (by kernel_rfl) (by kernel_rfl) (by kernel_rfl) (fun _ _ _ h => h) (Or.inl ⟨by rfl, by intro wx hSw; (try dsimp only at hSw); go_simp; try with_reducible rfl⟩) (by assumption) ?_
  (try simp only [Act.put, List.setIfInBounds_toArray, List.set_cons_zero, List.set_cons_succ])
  refine wpAnyH_done (by kernel_rfl) ?_ _
  refine NoPanic.normal ?_
  go_wp2
  go_ret
  exact ⟨rfl, HN⟩
set_option maxRecDepth 10000 in
theorem do_cut (h : Bth w G p m N lost A) (k : Nat) (hk : k < 256) (hk2 : (k : Int) % 11 = 8) (I J : Int) (v : Value) (hb : True) : Calls Try.prog 13 #[.pointer (some ⟨p, 0, none⟩), .pointer (some ⟨m, 0, none⟩), actv k I J v] w fun e w' => e = .returned (.bool true) ∧ Nxt w G p m N lost A w' := by
  have u : Below w.heap.size w (w.alloc (acto k I J v)).drew := (bl1 w _).drew
  obtain ⟨r, hc⟩ := pair_cut (h.up u) I J
  have hnG : ¬ G w.heap.size := fun hg => by have := h.2 _ hg; omega
  obtain ⟨e0, e1, e2, e3⟩ := act_cells (w := w) (W := w.alloc (acto k I J v)) (k := k) (I := I) (J := J) (v := v) rfl
  have hsz : w.heap.size < (w.alloc (acto k I J v)).drew.heap.size := by simp
  clear h hb
  unfold actv
  unfold acto at *
  go_enter Try.func13, Try.ntmps13
  go_wp2_with fail
  refine wp_region_noPanic ?_
  refine wp_region_held_drew (S := fun wx => wx.cell? ⟨w.heap.size, 1, none⟩ = some (.int .i64 I) ∧ wx.cell? ⟨w.heap.size, 2, none⟩ = some (.int .i64 J)) (by kernel_rfl) ⟨e1, e2⟩ (fun hHeld => ?_)
  refine take_first 0 (v := ?_) rfl (by kernel_rfl) (by kernel_rfl) (by kernel_rfl) (fun _ _ _ h => h) (Or.inl ⟨by rfl, by intro wx hSw; (try dsimp only at hSw); obtain ⟨s1, s2⟩ := hSw; go_simp; try with_reducible rfl⟩) (by assumption) ?_
  (try simp only [Act.put, List.setIfInBounds_toArray, List.set_cons_zero, List.set_cons_succ])
  refine take_first 1 (v := ?_) rfl (by kernel_rfl) (by kernel_rfl) (by kernel_rfl) (fun _ _ _ h => h) (Or.inl ⟨by rfl, by intro wx hSw; (try dsimp only at hSw); obtain ⟨s1, s2⟩ := hSw; go_simp; try with_reducible rfl⟩) (by assumption) ?_
  (try simp only [Act.put, List.setIfInBounds_toArray, List.set_cons_zero, List.set_cons_succ])
  refine take_first 2 (v := ?_) rfl (by kernel_rfl) (by kernel_rfl) (by kernel_rfl) (fun _ _ _ h => h) (Or.inl ⟨by rfl, by intro wx hSw; (try dsimp only at hSw); obtain ⟨s1, s2⟩ := hSw; go_simp; try with_reducible rfl⟩) (by assumption) ?_
  (try simp only [Act.put, List.setIfInBounds_toArray, List.set_cons_zero, List.set_cons_succ])
  refine take_first 3 (v := ?_) rfl (by kernel_rfl) (by kernel_rfl) (by kernel_rfl) (fun _ _ _ h => h) (Or.inl ⟨by rfl, by intro wx hSw; (try dsimp only at hSw); obtain ⟨s1, s2⟩ := hSw; go_simp; try with_reducible rfl⟩) (by assumption) ?_
  (try simp only [Act.put, List.setIfInBounds_toArray, List.set_cons_zero, List.set_cons_succ])
  refine take_first 4 (v := ?_) rfl (by kernel_rfl) (by kernel_rfl) (by kernel_rfl) (fun _ _ _ h => h) (Or.inl ⟨by rfl, by intro wx hSw; (try dsimp only at hSw); obtain ⟨s1, s2⟩ := hSw; go_simp; try with_reducible rfl⟩) (by assumption) ?_
  (try simp only [Act.put, List.setIfInBounds_toArray, List.set_cons_zero, List.set_cons_succ])
  refine take_first 6 (v := ?_) rfl (by kernel_rfl) (by kernel_rfl) (by kernel_rfl) (fun _ _ _ h => h) (Or.inl ⟨by rfl, by intro wx hSw; (try dsimp only at hSw); obtain ⟨s1, s2⟩ := hSw; go_simp; try with_reducible rfl⟩) (by assumption) ?_
  (try simp only [Act.put, List.setIfInBounds_toArray, List.set_cons_zero, List.set_cons_succ])
  refine take_first 7 (v := ?_) rfl (by kernel_rfl) (by kernel_rfl) (by kernel_rfl) (fun _ _ _ h => h) (Or.inl ⟨by rfl, by intro wx hSw; (try dsimp only at hSw); obtain ⟨s1, s2⟩ := hSw; go_simp; try with_reducible rfl⟩) (by assumption) ?_
  (try simp only [Act.put, List.setIfInBounds_toArray, List.set_cons_zero, List.set_cons_succ])
  refine take_first 8 (v := ?_) rfl (by kernel_rfl) (by kernel_rfl) (by kernel_rfl) (fun _ _ _ h => h) (Or.inl ⟨by rfl, by intro wx hSw; (try dsimp only at hSw); obtain ⟨s1, s2⟩ := hSw; go_simp; try with_reducible rfl⟩) (by assumption) ?_
  (try simp only [Act.put, List.setIfInBounds_toArray, List.set_cons_zero, List.set_cons_succ])
  refine take_first 9 (v := ?_) rfl (by kernel_rfl) (by kernel_rfl) (by kernel_rfl) (fun _ _ _ h => h) (Or.inl ⟨by rfl, by intro wx hSw; (try dsimp only at hSw); obtain ⟨s1, s2⟩ := hSw; go_simp; try with_reducible rfl⟩) (by assumption) ?_
  (try simp only [Act.put, List.setIfInBounds_toArray, List.set_cons_zero, List.set_cons_succ])
  refine take_first 10 (v := ?_) rfl (by kernel_rfl) (by kernel_rfl) (by kernel_rfl) (fun _ _ _ h => h) (Or.inl ⟨by rfl, by intro wx hSw; (try dsimp only at hSw); obtain ⟨s1, s2⟩ := hSw; go_simp; try with_reducible rfl⟩) (by assumption) ?_
  (try simp only [Act.put, List.setIfInBounds_toArray, List.set_cons_zero, List.set_cons_succ])
  refine comes_up 5 rfl (by kernel_rfl) (fun K hK => ?_)
  go_simp
  refine hc.mono ?_
  rintro e w1 ⟨rfl, t1, hc2⟩
  have e1b : w1.cell? ⟨w.heap.size, 1, none⟩ = some (.int .i64 I) ∧ w1.cell? ⟨w.heap.size, 2, none⟩ = some (.int .i64 J) := ⟨(cell_block (t1.block _ hsz hnG)).trans e1, (cell_block (t1.block _ hsz hnG)).trans e2⟩
  go_wp2_with fail
  refine hK.out _ _ e1b (fun hHeld => ?_)
  clear hK K
  (try simp only [Act.put, List.setIfInBounds_toArray, List.set_cons_zero, List.set_cons_succ])
  refine comes_up 11 rfl (by kernel_rfl) (fun K hK => ?_)
  go_simp
  refine hc2.mono ?_
  rintro e w2 ⟨rfl, hN⟩
  have e1c : w2.cell? ⟨w.heap.size, 1, none⟩ = some (.int .i64 I) ∧ w2.cell? ⟨w.heap.size, 2, none⟩ = some (.int .i64 J) := ⟨(cell_block (hN.turned.block _ hsz hnG)).trans e1, (cell_block (hN.turned.block _ hsz hnG)).trans e2⟩
  have HN := hN.from u
  go_wp2_with fail
  refine hK.out _ _ e1c (fun hHeld => ?_)
  clear hK K
  (try simp only [Act.put, List.setIfInBounds_toArray, List.set_cons_zero, List.set_cons_succ])
  refine take_first 12 (v := ?_) rfl (by kernel_rfl) (by kernel_rfl) (by kernel_rfl) (fun _ _ _ h => h) (Or.inl ⟨by rfl, by intro wx hSw; (try dsimp only at hSw); go_simp; try with_reducible rfl⟩) (by assumption) ?_
  (try simp only [Act.put, List.setIfInBounds_toArray, List.set_cons_zero, List.set_cons_succ])
  refine take_first 13 (v := ?_) rfl (by kernel_rfl) (by kernel_rfl) (by kernel_rfl) (fun _ _ _ h => h) (Or.inl ⟨by rfl, by intro wx hSw; (try dsimp only at hSw); go_simp; try with_reducible rfl⟩) (by assumption) ?_
  (try simp only [Act.put, List.setIfInBounds_toArray, List.set_cons_zero, List.set_cons_succ])
  refine wpAnyH_done (by kernel_rfl) ?_ _
  refine NoPanic.normal ?_
  go_wp2
  go_ret
  exact ⟨rfl, HN⟩
set_option maxRecDepth 10000 in
theorem do_join (h : Bth w G p m N lost A) (k : Nat) (hk : k < 256) (hk2 : (k : Int) % 11 = 9) (I J : Int) (v : Value) (hb : True) : Calls Try.prog 13 #[.pointer (some ⟨p, 0, none⟩), .pointer (some ⟨m, 0, none⟩), actv k I J v] w fun e w' => e = .returned (.bool true) ∧ Nxt w G p m N lost A w' := by
  have u : Below w.heap.size w (w.alloc (acto k I J v)).drew := (bl1 w _).drew
  obtain ⟨r, hc⟩ := pair_join (h.up u) I J
  have hnG : ¬ G w.heap.size := fun hg => by have := h.2 _ hg; omega
  obtain ⟨e0, e1, e2, e3⟩ := act_cells (w := w) (W := w.alloc (acto k I J v)) (k := k) (I := I) (J := J) (v := v) rfl
  have hsz : w.heap.size < (w.alloc (acto k I J v)).drew.heap.size := by simp
  clear h hb
  unfold actv
  unfold acto at *
  go_enter Try.func13, Try.ntmps13
  go_wp2_with fail
  refine wp_region_noPanic ?_
  refine wp_region_held_drew (S := fun wx => wx.cell? ⟨w.heap.size, 1, none⟩ = some (.int .i64 I) ∧ wx.cell? ⟨w.heap.size, 2, none⟩ = some (.int .i64 J)) (by kernel_rfl) ⟨e1, e2⟩ (fun hHeld => ?_)
  refine take_first 0 (v := ?_) rfl (by kernel_rfl) (by kernel_rfl) (by kernel_rfl) (fun _ _ _ h => h) (Or.inl ⟨by rfl, by intro wx hSw; (try dsimp only at hSw); obtain ⟨s1, s2⟩ := hSw; go_simp; try with_reducible rfl⟩) (by assumption) ?_
  (try simp only [Act.put, List.setIfInBounds_toArray, List.set_cons_zero, List.set_cons_succ])
  refine take_first 1 (v := ?_) rfl (by kernel_rfl) (by kernel_rfl) (by kernel_rfl) (fun _ _ _ h => h) (Or.inl ⟨by rfl, by intro wx hSw; (try dsimp only at hSw); obtain ⟨s1, s2⟩ := hSw; go_simp; try with_reducible rfl⟩) (by assumption) ?_
  (try simp only [Act.put, List.setIfInBounds_toArray, List.set_cons_zero, List.set_cons_succ])
  refine take_first 2 (v := ?_) rfl (by kernel_rfl) (by kernel_rfl) (by kernel_rfl) (fun _ _ _ h => h) (Or.inl ⟨by rfl, by intro wx hSw; (try dsimp only at hSw); obtain ⟨s1, s2⟩ := hSw; go_simp; try with_reducible rfl⟩) (by assumption) ?_
  (try simp only [Act.put, List.setIfInBounds_toArray, List.set_cons_zero, List.set_cons_succ])
  refine take_first 3 (v := ?_) rfl (by kernel_rfl) (by kernel_rfl) (by kernel_rfl) (fun _ _ _ h => h) (Or.inl ⟨by rfl, by intro wx hSw; (try dsimp only at hSw); obtain ⟨s1, s2⟩ := hSw; go_simp; try with_reducible rfl⟩) (by assumption) ?_
  (try simp only [Act.put, List.setIfInBounds_toArray, List.set_cons_zero, List.set_cons_succ])
  refine take_first 4 (v := ?_) rfl (by kernel_rfl) (by kernel_rfl) (by kernel_rfl) (fun _ _ _ h => h) (Or.inl ⟨by rfl, by intro wx hSw; (try dsimp only at hSw); obtain ⟨s1, s2⟩ := hSw; go_simp; try with_reducible rfl⟩) (by assumption) ?_
  (try simp only [Act.put, List.setIfInBounds_toArray, List.set_cons_zero, List.set_cons_succ])
  refine take_first 6 (v := ?_) rfl (by kernel_rfl) (by kernel_rfl) (by kernel_rfl) (fun _ _ _ h => h) (Or.inl ⟨by rfl, by intro wx hSw; (try dsimp only at hSw); obtain ⟨s1, s2⟩ := hSw; go_simp; try with_reducible rfl⟩) (by assumption) ?_
  (try simp only [Act.put, List.setIfInBounds_toArray, List.set_cons_zero, List.set_cons_succ])
  refine take_first 7 (v := ?_) rfl (by kernel_rfl) (by kernel_rfl) (by kernel_rfl) (fun _ _ _ h => h) (Or.inl ⟨by rfl, by intro wx hSw; (try dsimp only at hSw); obtain ⟨s1, s2⟩ := hSw; go_simp; try with_reducible rfl⟩) (by assumption) ?_
  (try simp only [Act.put, List.setIfInBounds_toArray, List.set_cons_zero, List.set_cons_succ])
  refine take_first 8 (v := ?_) rfl (by kernel_rfl) (by kernel_rfl) (by kernel_rfl) (fun _ _ _ h => h) (Or.inl ⟨by rfl, by intro wx hSw; (try dsimp only at hSw); obtain ⟨s1, s2⟩ := hSw; go_simp; try with_reducible rfl⟩) (by assumption) ?_
  (try simp only [Act.put, List.setIfInBounds_toArray, List.set_cons_zero, List.set_cons_succ])
  refine take_first 9 (v := ?_) rfl (by kernel_rfl) (by kernel_rfl) (by kernel_rfl) (fun _ _ _ h => h) (Or.inl ⟨by rfl, by intro wx hSw; (try dsimp only at hSw); obtain ⟨s1, s2⟩ := hSw; go_simp; try with_reducible rfl⟩) (by assumption) ?_
  (try simp only [Act.put, List.setIfInBounds_toArray, List.set_cons_zero, List.set_cons_succ])
  refine take_first 10 (v := ?_) rfl (by kernel_rfl) (by kernel_rfl) (by kernel_rfl) (fun _ _ _ h => h) (Or.inl ⟨by rfl, by intro wx hSw; (try dsimp only at hSw); obtain ⟨s1, s2⟩ := hSw; go_simp; try with_reducible rfl⟩) (by assumption) ?_
  (try simp only [Act.put, List.setIfInBounds_toArray, List.set_cons_zero, List.set_cons_succ])
  refine comes_up 5 rfl (by kernel_rfl) (fun K hK => ?_)
  go_simp
  refine hc.mono ?_
  rintro e w1 ⟨rfl, t1, hc2⟩
  have e1b : w1.cell? ⟨w.heap.size, 1, none⟩ = some (.int .i64 I) ∧ w1.cell? ⟨w.heap.size, 2, none⟩ = some (.int .i64 J) := ⟨(cell_block (t1.block _ hsz hnG)).trans e1, (cell_block (t1.block _ hsz hnG)).trans e2⟩
  go_wp2_with fail
  refine hK.out _ _ e1b (fun hHeld => ?_)
  clear hK K
  (try simp only [Act.put, List.setIfInBounds_toArray, List.set_cons_zero, List.set_cons_succ])
  refine comes_up 11 rfl (by kernel_rfl) (fun K hK => ?_)
  go_simp
  refine hc2.mono ?_
  rintro e w2 ⟨rfl, hN⟩
  have e1c : w2.cell? ⟨w.heap.size, 1, none⟩ = some (.int .i64 I) ∧ w2.cell? ⟨w.heap.size, 2, none⟩ = some (.int .i64 J) := ⟨(cell_block (hN.turned.block _ hsz hnG)).trans e1, (cell_block (hN.turned.block _ hsz hnG)).trans e2⟩
  have HN := hN.from u
  go_wp2_with fail
  refine hK.out _ _ e1c (fun hHeld => ?_)
  clear hK K
  (try simp only [Act.put, List.setIfInBounds_toArray, List.set_cons_zero, List.set_cons_succ])
  refine take_first 12 (v := ?_) rfl (by kernel_rfl) (by kernel_rfl) (by kernel_rfl) (fun _ _ _ h => h) (Or.inl ⟨by rfl, by intro wx hSw; (try dsimp only at hSw); go_simp; try with_reducible rfl⟩) (by assumption) ?_
  (try simp only [Act.put, List.setIfInBounds_toArray, List.set_cons_zero, List.set_cons_succ])
  refine take_first 13 (v := ?_) rfl (by kernel_rfl) (by kernel_rfl) (by kernel_rfl) (fun _ _ _ h => h) (Or.inl ⟨by rfl, by intro wx hSw; (try dsimp only at hSw); go_simp; try with_reducible rfl⟩) (by assumption) ?_
  (try simp only [Act.put, List.setIfInBounds_toArray, List.set_cons_zero, List.set_cons_succ])
  refine wpAnyH_done (by kernel_rfl) ?_ _
  refine NoPanic.normal ?_
  go_wp2
  go_ret
  exact ⟨rfl, HN⟩
set_option maxRecDepth 10000 in
theorem do_put0 (h : Bth w G p m N lost A) (k : Nat) (hk : k < 256) (hk2 : (k : Int) % 11 = 0) (I J : Int) (ao : Option Addr) (n cap : Nat) (xs : List UInt8) (hx : Row w ao n cap xs) (hn : n ≤ 140737488351232) (hG : ∀ a, ao = some a → 0 < n → ¬ G a.block) (hA : A.length < 80) : Calls Try.prog 13 #[.pointer (some ⟨p, 0, none⟩), .pointer (some ⟨m, 0, none⟩), actv k I J (.slice ao n cap)] w fun e w' => e = .returned (.bool true) ∧ Nxt w G p m N lost A w' := by
  have u : Below w.heap.size w ((w.alloc (acto k I J (.slice ao n cap))).alloc (.cells #[.int .i64 I, .int .i64 J, .slice ao n cap] 49)).drew := (bl2 w _ _).drew
  obtain ⟨r, hc⟩ := pair_put (h.up u) I J ao n cap xs (hx.below u (Nat.le_refl _)) hn hG hA
  have hnG : ¬ G (w.heap.size + 1) := fun hg => by have := h.2 _ hg; omega
  obtain ⟨e0, e1, e2, e3⟩ := act_cells (w := w) (W := w.alloc (acto k I J (.slice ao n cap))) (k := k) (I := I) (J := J) (v := .slice ao n cap) rfl
  have key : ∀ j v, (#[Value.int .i64 I, .int .i64 J, .slice ao n cap] : Array Value)[j]? = some v → ((w.alloc (acto k I J (.slice ao n cap))).alloc (.cells #[.int .i64 I, .int .i64 J, .slice ao n cap] 49)).cell? ⟨w.heap.size + 1, j, none⟩ = some v := fun j v hj => by
    have := cell_box (w.alloc (acto k I J (.slice ao n cap))) #[.int .i64 I, .int .i64 J, .slice ao n cap] 49 j v hj
    rwa [show (w.alloc (acto k I J (.slice ao n cap))).heap.size = w.heap.size + 1 by simp] at this
  have f0 := key 0 _ rfl
  have f1 := key 1 _ rfl
  have f2 := key 2 _ rfl
  have hsz : w.heap.size + 1 < ((w.alloc (acto k I J (.slice ao n cap))).alloc (.cells #[.int .i64 I, .int .i64 J, .slice ao n cap] 49)).drew.heap.size := by simp
  clear h key hx hn hG
  unfold actv
  unfold acto at *
  go_enter Try.func13, Try.ntmps13
  go_wp2_with fail
  refine wp_region_noPanic ?_
  refine wp_region_held_drew (S := fun wx => wx.cell? ⟨w.heap.size + 1, 0, none⟩ = some (.int .i64 I) ∧ wx.cell? ⟨w.heap.size + 1, 1, none⟩ = some (.int .i64 J) ∧ wx.cell? ⟨w.heap.size + 1, 2, none⟩ = some (.slice ao n cap)) (by kernel_rfl) ⟨f0, f1, f2⟩ (fun hHeld => ?_)
  refine take_first 0 (v := ?_) rfl (by kernel_rfl) (by kernel_rfl) (by kernel_rfl) (fun _ _ _ h => h) (Or.inl ⟨by rfl, by intro wx hSw; (try dsimp only at hSw); obtain ⟨s0, s1, s2⟩ := hSw; go_simp; try with_reducible rfl⟩) (by assumption) ?_
  (try simp only [Act.put, List.setIfInBounds_toArray, List.set_cons_zero, List.set_cons_succ])
  refine take_first 1 (v := ?_) rfl (by kernel_rfl) (by kernel_rfl) (by kernel_rfl) (fun _ _ _ h => h) (Or.inl ⟨by rfl, by intro wx hSw; (try dsimp only at hSw); obtain ⟨s0, s1, s2⟩ := hSw; go_simp; try with_reducible rfl⟩) (by assumption) ?_
  (try simp only [Act.put, List.setIfInBounds_toArray, List.set_cons_zero, List.set_cons_succ])
  refine take_first 3 (v := ?_) rfl (by kernel_rfl) (by kernel_rfl) (by kernel_rfl) (fun _ _ _ h => h) (Or.inl ⟨by rfl, by intro wx hSw; (try dsimp only at hSw); obtain ⟨s0, s1, s2⟩ := hSw; go_simp; try with_reducible rfl⟩) (by assumption) ?_
  (try simp only [Act.put, List.setIfInBounds_toArray, List.set_cons_zero, List.set_cons_succ])
  refine take_first 4 (v := ?_) rfl (by kernel_rfl) (by kernel_rfl) (by kernel_rfl) (fun _ _ _ h => h) (Or.inl ⟨by rfl, by intro wx hSw; (try dsimp only at hSw); obtain ⟨s0, s1, s2⟩ := hSw; go_simp; try with_reducible rfl⟩) (by assumption) ?_
  (try simp only [Act.put, List.setIfInBounds_toArray, List.set_cons_zero, List.set_cons_succ])
  refine comes_up 2 rfl (by kernel_rfl) (fun K hK => ?_)
  go_simp
  refine hc.mono ?_
  rintro e w1 ⟨rfl, t1, hc2⟩
  have b1 := t1.block _ hsz hnG
  have e1b : w1.cell? ⟨w.heap.size + 1, 0, none⟩ = some (.int .i64 I) ∧ w1.cell? ⟨w.heap.size + 1, 1, none⟩ = some (.int .i64 J) ∧ w1.cell? ⟨w.heap.size + 1, 2, none⟩ = some (.slice ao n cap) := ⟨(cell_block b1).trans f0, (cell_block b1).trans f1, (cell_block b1).trans f2⟩
  clear b1
  go_wp2_with fail
  refine hK.out _ _ e1b (fun hHeld => ?_)
  clear hK K
  (try simp only [Act.put, List.setIfInBounds_toArray, List.set_cons_zero, List.set_cons_succ])
  refine comes_up 5 rfl (by kernel_rfl) (fun K hK => ?_)
  go_simp
  refine hc2.mono ?_
  rintro e w2 ⟨rfl, hN⟩
  have b2 := hN.turned.block _ hsz hnG
  have e1c : w2.cell? ⟨w.heap.size + 1, 0, none⟩ = some (.int .i64 I) ∧ w2.cell? ⟨w.heap.size + 1, 1, none⟩ = some (.int .i64 J) ∧ w2.cell? ⟨w.heap.size + 1, 2, none⟩ = some (.slice ao n cap) := ⟨(cell_block b2).trans f0, (cell_block b2).trans f1, (cell_block b2).trans f2⟩
  clear b2
  have HN := hN.from u
  go_wp2_with fail
  refine hK.out _ _ e1c (fun hHeld => ?_)
  clear hK K
  (try simp only [Act.put, List.setIfInBounds_toArray, List.set_cons_zero, List.set_cons_succ])
  refine take_first 6 (v := ?_) rfl (by kernel_rfl) (by kernel_rfl) (by kernel_rfl) (fun _ _ _ h => h) (Or.inl ⟨by rfl, by intro wx hSw; (try dsimp only at hSw); go_simp; try with_reducible rfl⟩) (by assumption) ?_
  (try simp only [Act.put, List.setIfInBounds_toArray, List.set_cons_zero, List.set_cons_succ])
  refine take_first 7 (v := ?_) rfl (by kernel_rfl) (by kernel_rfl) (by kernel_rfl) (fun _ _ _ h => h) (Or.inl ⟨by rfl, by intro wx hSw; (try dsimp only at hSw); go_simp; try with_reducible rfl⟩) (by assumption) ?_
  (try simp only [Act.put, List.setIfInBounds_toArray, List.set_cons_zero, List.set_cons_succ])
  refine wpAnyH_done (by kernel_rfl) ?_ _
  refine NoPanic.normal ?_
  go_wp2
  go_ret
  exact ⟨rfl, HN⟩
set_option maxRecDepth 10000 in
theorem do_put1 (h : Bth w G p m N lost A) (k : Nat) (hk : k < 256) (hk2 : (k : Int) % 11 = 1) (I J : Int) (ao : Option Addr) (n cap : Nat) (xs : List UInt8) (hx : Row w ao n cap xs) (hn : n ≤ 140737488351232) (hG : ∀ a, ao = some a → 0 < n → ¬ G a.block) (hA : A.length < 80) : Calls Try.prog 13 #[.pointer (some ⟨p, 0, none⟩), .pointer (some ⟨m, 0, none⟩), actv k I J (.slice ao n cap)] w fun e w' => e = .returned (.bool true) ∧ Nxt w G p m N lost A w' := by
  have u : Below w.heap.size w ((w.alloc (acto k I J (.slice ao n cap))).alloc (.cells #[.int .i64 I, .int .i64 J, .slice ao n cap] 49)).drew := (bl2 w _ _).drew
  obtain ⟨r, hc⟩ := pair_put (h.up u) I J ao n cap xs (hx.below u (Nat.le_refl _)) hn hG hA
  have hnG : ¬ G (w.heap.size + 1) := fun hg => by have := h.2 _ hg; omega
  obtain ⟨e0, e1, e2, e3⟩ := act_cells (w := w) (W := w.alloc (acto k I J (.slice ao n cap))) (k := k) (I := I) (J := J) (v := .slice ao n cap) rfl
  have key : ∀ j v, (#[Value.int .i64 I, .int .i64 J, .slice ao n cap] : Array Value)[j]? = some v → ((w.alloc (acto k I J (.slice ao n cap))).alloc (.cells #[.int .i64 I, .int .i64 J, .slice ao n cap] 49)).cell? ⟨w.heap.size + 1, j, none⟩ = some v := fun j v hj => by
    have := cell_box (w.alloc (acto k I J (.slice ao n cap))) #[.int .i64 I, .int .i64 J, .slice ao n cap] 49 j v hj
    rwa [show (w.alloc (acto k I J (.slice ao n cap))).heap.size = w.heap.size + 1 by simp] at this
  have f0 := key 0 _ rfl
  have f1 := key 1 _ rfl
  have f2 := key 2 _ rfl
  have hsz : w.heap.size + 1 < ((w.alloc (acto k I J (.slice ao n cap))).alloc (.cells #[.int .i64 I, .int .i64 J, .slice ao n cap] 49)).drew.heap.size := by simp
  clear h key hx hn hG
  unfold actv
  unfold acto at *
  go_enter Try.func13, Try.ntmps13
  go_wp2_with fail
  refine wp_region_noPanic ?_
  refine wp_region_held_drew (S := fun wx => wx.cell? ⟨w.heap.size + 1, 0, none⟩ = some (.int .i64 I) ∧ wx.cell? ⟨w.heap.size + 1, 1, none⟩ = some (.int .i64 J) ∧ wx.cell? ⟨w.heap.size + 1, 2, none⟩ = some (.slice ao n cap)) (by kernel_rfl) ⟨f0, f1, f2⟩ (fun hHeld => ?_)
  refine take_first 0 (v := ?_) rfl (by kernel_rfl) (by kernel_rfl) (by kernel_rfl) (fun _ _ _ h => h) (Or.inl ⟨by rfl, by intro wx hSw; (try dsimp only at hSw); obtain ⟨s0, s1, s2⟩ := hSw; go_simp; try with_reducible rfl⟩) (by assumption) ?_
  (try simp only [Act.put, List.setIfInBounds_toArray, List.set_cons_zero, List.set_cons_succ])
  refine take_first 1 (v := ?_) rfl (by kernel_rfl) (by kernel_rfl) (by kernel_rfl) (fun _ _ _ h => h) (Or.inl ⟨by rfl, by intro wx hSw; (try dsimp only at hSw); obtain ⟨s0, s1, s2⟩ := hSw; go_simp; try with_reducible rfl⟩) (by assumption) ?_
  (try simp only [Act.put, List.setIfInBounds_toArray, List.set_cons_zero, List.set_cons_succ])
  refine take_first 3 (v := ?_) rfl (by kernel_rfl) (by kernel_rfl) (by kernel_rfl) (fun _ _ _ h => h) (Or.inl ⟨by rfl, by intro wx hSw; (try dsimp only at hSw); obtain ⟨s0, s1, s2⟩ := hSw; go_simp; try with_reducible rfl⟩) (by assumption) ?_
  (try simp only [Act.put, List.setIfInBounds_toArray, List.set_cons_zero, List.set_cons_succ])
  refine take_first 4 (v := ?_) rfl (by kernel_rfl) (by kernel_rfl) (by kernel_rfl) (fun _ _ _ h => h) (Or.inl ⟨by rfl, by intro wx hSw; (try dsimp only at hSw); obtain ⟨s0, s1, s2⟩ := hSw; go_simp; try with_reducible rfl⟩) (by assumption) ?_
  (try simp only [Act.put, List.setIfInBounds_toArray, List.set_cons_zero, List.set_cons_succ])
  refine comes_up 2 rfl (by kernel_rfl) (fun K hK => ?_)
  go_simp
  refine hc.mono ?_
  rintro e w1 ⟨rfl, t1, hc2⟩
  have b1 := t1.block _ hsz hnG
  have e1b : w1.cell? ⟨w.heap.size + 1, 0, none⟩ = some (.int .i64 I) ∧ w1.cell? ⟨w.heap.size + 1, 1, none⟩ = some (.int .i64 J) ∧ w1.cell? ⟨w.heap.size + 1, 2, none⟩ = some (.slice ao n cap) := ⟨(cell_block b1).trans f0, (cell_block b1).trans f1, (cell_block b1).trans f2⟩
  clear b1
  go_wp2_with fail
  refine hK.out _ _ e1b (fun hHeld => ?_)
  clear hK K
  (try simp only [Act.put, List.setIfInBounds_toArray, List.set_cons_zero, List.set_cons_succ])
  refine comes_up 5 rfl (by kernel_rfl) (fun K hK => ?_)
  go_simp
  refine hc2.mono ?_
  rintro e w2 ⟨rfl, hN⟩
  have b2 := hN.turned.block _ hsz hnG
  have e1c : w2.cell? ⟨w.heap.size + 1, 0, none⟩ = some (.int .i64 I) ∧ w2.cell? ⟨w.heap.size + 1, 1, none⟩ = some (.int .i64 J) ∧ w2.cell? ⟨w.heap.size + 1, 2, none⟩ = some (.slice ao n cap) := ⟨(cell_block b2).trans f0, (cell_block b2).trans f1, (cell_block b2).trans f2⟩
  clear b2
  have HN := hN.from u
  go_wp2_with fail
  refine hK.out _ _ e1c (fun hHeld => ?_)
  clear hK K
  (try simp only [Act.put, List.setIfInBounds_toArray, List.set_cons_zero, List.set_cons_succ])
  refine take_first 6 (v := ?_) rfl (by kernel_rfl) (by kernel_rfl) (by kernel_rfl) (fun _ _ _ h => h) (Or.inl ⟨by rfl, by intro wx hSw; (try dsimp only at hSw); go_simp; try with_reducible rfl⟩) (by assumption) ?_
  (try simp only [Act.put, List.setIfInBounds_toArray, List.set_cons_zero, List.set_cons_succ])
  refine take_first 7 (v := ?_) rfl (by kernel_rfl) (by kernel_rfl) (by kernel_rfl) (fun _ _ _ h => h) (Or.inl ⟨by rfl, by intro wx hSw; (try dsimp only at hSw); go_simp; try with_reducible rfl⟩) (by assumption) ?_
  (try simp only [Act.put, List.setIfInBounds_toArray, List.set_cons_zero, List.set_cons_succ])
  refine wpAnyH_done (by kernel_rfl) ?_ _
  refine NoPanic.normal ?_
  go_wp2
  go_ret
  exact ⟨rfl, HN⟩
set_option maxRecDepth 10000 in
theorem do_put2 (h : Bth w G p m N lost A) (k : Nat) (hk : k < 256) (hk2 : (k : Int) % 11 = 2) (I J : Int) (ao : Option Addr) (n cap : Nat) (xs : List UInt8) (hx : Row w ao n cap xs) (hn : n ≤ 140737488351232) (hG : ∀ a, ao = some a → 0 < n → ¬ G a.block) (hA : A.length < 80) : Calls Try.prog 13 #[.pointer (some ⟨p, 0, none⟩), .pointer (some ⟨m, 0, none⟩), actv k I J (.slice ao n cap)] w fun e w' => e = .returned (.bool true) ∧ Nxt w G p m N lost A w' := by
  have u : Below w.heap.size w ((w.alloc (acto k I J (.slice ao n cap))).alloc (.cells #[.int .i64 I, .int .i64 J, .slice ao n cap] 49)).drew := (bl2 w _ _).drew
  obtain ⟨r, hc⟩ := pair_put (h.up u) I J ao n cap xs (hx.below u (Nat.le_refl _)) hn hG hA
  have hnG : ¬ G (w.heap.size + 1) := fun hg => by have := h.2 _ hg; omega
  obtain ⟨e0, e1, e2, e3⟩ := act_cells (w := w) (W := w.alloc (acto k I J (.slice ao n cap))) (k := k) (I := I) (J := J) (v := .slice ao n cap) rfl
  have key : ∀ j v, (#[Value.int .i64 I, .int .i64 J, .slice ao n cap] : Array Value)[j]? = some v → ((w.alloc (acto k I J (.slice ao n cap))).alloc (.cells #[.int .i64 I, .int .i64 J, .slice ao n cap] 49)).cell? ⟨w.heap.size + 1, j, none⟩ = some v := fun j v hj => by
    have := cell_box (w.alloc (acto k I J (.slice ao n cap))) #[.int .i64 I, .int .i64 J, .slice ao n cap] 49 j v hj
    rwa [show (w.alloc (acto k I J (.slice ao n cap))).heap.size = w.heap.size + 1 by simp] at this
  have f0 := key 0 _ rfl
  have f1 := key 1 _ rfl
  have f2 := key 2 _ rfl
  have hsz : w.heap.size + 1 < ((w.alloc (acto k I J (.slice ao n cap))).alloc (.cells #[.int .i64 I, .int .i64 J, .slice ao n cap] 49)).drew.heap.size := by simp
  clear h key hx hn hG
  unfold actv
  unfold acto at *
  go_enter Try.func13, Try.ntmps13
  go_wp2_with fail
  refine wp_region_noPanic ?_
  refine wp_region_held_drew (S := fun wx => wx.cell? ⟨w.heap.size + 1, 0, none⟩ = some (.int .i64 I) ∧ wx.cell? ⟨w.heap.size + 1, 1, none⟩ = some (.int .i64 J) ∧ wx.cell? ⟨w.heap.size + 1, 2, none⟩ = some (.slice ao n cap)) (by kernel_rfl) ⟨f0, f1, f2⟩ (fun hHeld => ?_)
  refine take_first 0 (v := ?_) rfl (by kernel_rfl) (by kernel_rfl) (by kernel_rfl) (fun _ _ _ h => h) (Or.inl ⟨by rfl, by intro wx hSw; (try dsimp only at hSw); obtain ⟨s0, s1, s2⟩ := hSw; go_simp; try with_reducible rfl⟩) (by assumption) ?_
  (try simp only [Act.put, List.setIfInBounds_toArray, List.set_cons_zero, List.set_cons_succ])
  refine take_first 1 (v := ?_) rfl (by kernel_rfl) (by kernel_rfl) (by kernel_rfl) (fun _ _ _ h => h) (Or.inl ⟨by rfl, by intro wx hSw; (try dsimp only at hSw); obtain ⟨s0, s1, s2⟩ := hSw; go_simp; try with_reducible rfl⟩) (by assumption) ?_
  (try simp only [Act.put, List.setIfInBounds_toArray, List.set_cons_zero, List.set_cons_succ])
  refine take_first 3 (v := ?_) rfl (by kernel_rfl) (by kernel_rfl) (by kernel_rfl) (fun _ _ _ h => h) (Or.inl ⟨by rfl, by intro wx hSw; (try dsimp only at hSw); obtain ⟨s0, s1, s2⟩ := hSw; go_simp; try with_reducible rfl⟩) (by assumption) ?_
  (try simp only [Act.put, List.setIfInBounds_toArray, List.set_cons_zero, List.set_cons_succ])
  refine take_first 4 (v := ?_) rfl (by kernel_rfl) (by kernel_rfl) (by kernel_rfl) (fun _ _ _ h => h) (Or.inl ⟨by rfl, by intro wx hSw; (try dsimp only at hSw); obtain ⟨s0, s1, s2⟩ := hSw; go_simp; try with_reducible rfl⟩) (by assumption) ?_
  (try simp only [Act.put, List.setIfInBounds_toArray, List.set_cons_zero, List.set_cons_succ])
  refine comes_up 2 rfl (by kernel_rfl) (fun K hK => ?_)
  go_simp
  refine hc.mono ?_
  rintro e w1 ⟨rfl, t1, hc2⟩
  have b1 := t1.block _ hsz hnG
  have e1b : w1.cell? ⟨w.heap.size + 1, 0, none⟩ = some (.int .i64 I) ∧ w1.cell? ⟨w.heap.size + 1, 1, none⟩ = some (.int .i64 J) ∧ w1.cell? ⟨w.heap.size + 1, 2, none⟩ = some (.slice ao n cap) := ⟨(cell_block b1).trans f0, (cell_block b1).trans f1, (cell_block b1).trans f2⟩
  clear b1
  go_wp2_with fail
  refine hK.out _ _ e1b (fun hHeld => ?_)
  clear hK K
  (try simp only [Act.put, List.setIfInBounds_toArray, List.set_cons_zero, List.set_cons_succ])
  refine comes_up 5 rfl (by kernel_rfl) (fun K hK => ?_)
  go_simp
  refine hc2.mono ?_
  rintro e w2 ⟨rfl, hN⟩
  have b2 := hN.turned.block _ hsz hnG
  have e1c : w2.cell? ⟨w.heap.size + 1, 0, none⟩ = some (.int .i64 I) ∧ w2.cell? ⟨w.heap.size + 1, 1, none⟩ = some (.int .i64 J) ∧ w2.cell? ⟨w.heap.size + 1, 2, none⟩ = some (.slice ao n cap) := ⟨(cell_block b2).trans f0, (cell_block b2).trans f1, (cell_block b2).trans f2⟩
  clear b2
  have HN := hN.from u
  go_wp2_with fail
  refine hK.out _ _ e1c (fun hHeld => ?_)
  clear hK K
  (try simp only [Act.put, List.setIfInBounds_toArray, List.set_cons_zero, List.set_cons_succ])
  refine take_first 6 (v := ?_) rfl (by kernel_rfl) (by kernel_rfl) (by kernel_rfl) (fun _ _ _ h => h) (Or.inl ⟨by rfl, by intro wx hSw; (try dsimp only at hSw); go_simp; try with_reducible rfl⟩) (by assumption) ?_
  (try simp only [Act.put, List.setIfInBounds_toArray, List.set_cons_zero, List.set_cons_succ])
  refine take_first 7 (v := ?_) rfl (by kernel_rfl) (by kernel_rfl) (by kernel_rfl) (fun _ _ _ h => h) (Or.inl ⟨by rfl, by intro wx hSw; (try dsimp only at hSw); go_simp; try with_reducible rfl⟩) (by assumption) ?_
  (try simp only [Act.put, List.setIfInBounds_toArray, List.set_cons_zero, List.set_cons_succ])
  refine wpAnyH_done (by kernel_rfl) ?_ _
  refine NoPanic.normal ?_
  go_wp2
  go_ret
  exact ⟨rfl, HN⟩
end
end Go.Proofs.Ytagabmhgcmnldaa
