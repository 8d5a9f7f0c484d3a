/-
  The calls of a node that only read.
  Two views compared; frames in a block.
  The calls of a node that only read: is a proposal agreed upon, has a node told a later view, is it up to this node to propose?
  Is it up to this node to propose?
  A law on regions that draw their order, beside the library's: what is held of the world need not hold behind the region's last operation, for which all that leans on it must wait (a store into what was read: 'x.f = append(x.f, y)').
  A state in memory of its own (member.copied).
  A node's own cells are written to.
-/
import Derived.Test.YtlonbbepoamnmaaDoorMBase
namespace Go.Proofs.YtlonbbepoamnmaaDoor
open Go.RowKit
set_option linter.unusedVariables false

theorem cmp_above (n1 : Nat) (p1 : Int) (n2 : Nat) (p2 : Int) : decide (cmpV n1 p1 n2 p2 > 0) = decide (vlt (n2, p2) (n1, p1)) := by
  apply decide_eq_decide.2
  unfold cmpV sgn vlt
  simp only
  constructor
  · intro h
    split at h
    · omega
    · split at h
      · omega
      · split at h
        · omega
        · split at h <;> omega
  · intro h
    split
    · omega
    · split
      · omega
      · split
        · omega
        · split <;> omega
theorem above_any (w : World) (n1 : Nat) (p1 : Int) (n2 : Nat) (p2 : Int) : Calls Tryd.prog 71 #[vid n1 p1, vid n2 p2] w fun e w' => e = .returned (.bool (decide (vlt (n2, p2) (n1, p1)))) ∧ Up w w' := by
  have hc := fun W => compare_any W n1 p1 n2 p2
  rw [← cmp_above]
  generalize cmpV n1 p1 n2 p2 = c at *
  unfold vid at *
  go_enter Tryd.func71, Tryd.ntmps71
  go_wp2_with fail
  refine (hc _).mono ?_
  rintro e w1 ⟨rfl, u1⟩
  have u2 := (((Up.refl w).alloc (.cells #[.int .u64 (n1 : Nat), .int .i64 p1] 31)).alloc (.cells #[.int .u64 (n2 : Nat), .int .i64 p2] 31)).trans u1
  clear u1 hc
  go_wp2
  go_ret
  exact ⟨ret_bool rfl, u2⟩

section
variable {w : World} {F Z : Nat → Prop} {q : Nat} {M : Mm} {o : Option Nat}

theorem results_cell1 {P : Program} {fn : Func} {t : Tmp} {ty : TypeId} (h : fn.results = #[.cell t ty]) {tmps : Array Value} {w : World} {g : Nat} {cs : Array Value} (ht : tmps.getD t undef = .pointer (some ⟨g, 0, none⟩)) (hl : (loadVar ty ⟨g, 0, none⟩).run P w = .ok (.agg cs) w) :
    (results fn tmps).run P w = .ok (.agg cs) w := by
  rw [Array.getD_eq_getD_getElem?] at ht
  simp [results, h, ht, asAddr, hl]
def vw (v : Vid) (s : Nat) : Value := .agg #[.int .u64 (v.1 : Nat), .int .i64 v.2, .int .u16 (s : Nat)]
theorem cur_any (h : Mb w F Z q M o) : Calls Tryd.prog 20 #[.pointer (some ⟨q, 0, none⟩)] w fun e w' => e = .returned (vw M.cur M.cset) ∧ Up w w' := by
  have h1 := h.still (bl1 w (.cells #[.int .u64 0, .int .i64 0, .int .u16 0] 34))
  have c2 := h1.cell 2 (by omega)
  have c3 := h1.cell 3 (by omega)
  have c4 := h1.cell 4 (by omega)
  unfold mcell at c2 c3 c4
  clear h h1
  unfold vw
  go_enter Tryd.func20, Tryd.ntmps20
  go_wp2
  refine bodyPost_ret (results_cell1 (g := w.heap.size) (cs := #[.int .u64 (M.cur.1 : Nat), .int .i64 M.cur.2, .int .u16 (M.cset : Nat)]) Tryd.results20 rfl (run_loadVar_row _ w.heap.size 34 34 _ (0, 0) _ (heap_alloc_new _ _) Tryd.underlying34 rfl (by kernel_rfl))) rfl ?_
  exact ⟨rfl, (Up.refl _).alloc _⟩
theorem cur_nil (w : World) : Calls Tryd.prog 20 #[.pointer none] w fun e w' => e = .returned (vw (0, 0) 0) ∧ Up w w' := by
  unfold vw
  go_enter Tryd.func20, Tryd.ntmps20
  go_wp2
  refine bodyPost_ret (results_cell1 (g := w.heap.size) (cs := #[.int .u64 0, .int .i64 0, .int .u16 0]) Tryd.results20 rfl (run_loadVar_row _ w.heap.size 34 34 _ (0, 0) _ (heap_alloc_new _ _) Tryd.underlying34 rfl (by kernel_rfl))) rfl ?_
  exact ⟨rfl, (Up.refl _).alloc _⟩
theorem prom_any (h : Mb w F Z q M o) : Calls Tryd.prog 21 #[.pointer (some ⟨q, 0, none⟩)] w fun e w' => e = .returned (vid M.prom.1 M.prom.2) ∧ Up w w' := by
  have h1 := h.still (bl1 w (.cells #[.int .u64 0, .int .i64 0] 31))
  have c2 := h1.cell 5 (by omega)
  have c3 := h1.cell 6 (by omega)
  unfold mcell at c2 c3
  clear h h1
  unfold vid
  go_enter Tryd.func21, Tryd.ntmps21
  go_wp2
  refine bodyPost_ret (results_cell1 (g := w.heap.size) (cs := #[.int .u64 (M.prom.1 : Nat), .int .i64 M.prom.2]) Tryd.results21 rfl (run_loadVar_row _ w.heap.size 31 31 _ (0, 0) _ (heap_alloc_new _ _) Tryd.underlying31 rfl (by kernel_rfl))) rfl ?_
  exact ⟨rfl, (Up.refl _).alloc _⟩
theorem prom_nil (w : World) : Calls Tryd.prog 21 #[.pointer none] w fun e w' => e = .returned (vid 0 0) ∧ Up w w' := by
  unfold vid
  go_enter Tryd.func21, Tryd.ntmps21
  go_wp2
  refine bodyPost_ret (results_cell1 (g := w.heap.size) (cs := #[.int .u64 0, .int .i64 0]) Tryd.results21 rfl (run_loadVar_row _ w.heap.size 31 31 _ (0, 0) _ (heap_alloc_new _ _) Tryd.underlying31 rfl (by kernel_rfl))) rfl ?_
  exact ⟨rfl, (Up.refl _).alloc _⟩
theorem open_nil (w : World) : Calls Tryd.prog 22 #[.pointer none] w fun e w' => e = .returned (.bool false) ∧ w = w' := by
  go_enter Tryd.func22, Tryd.ntmps22
  go_wp2
  go_ret
  exact ⟨rfl, rfl⟩
theorem opn_vid {M : Mm} : decide (M.prom.1 = M.cur.1 ∧ M.prom.2 = M.cur.2) = decide (M.prom = M.cur) := by
  apply decide_eq_decide.2
  exact ⟨fun h => Prod.ext h.1 h.2, fun h => ⟨by rw [h], by rw [h]⟩⟩
theorem open_any (h : Mb w F Z q M o) : Calls Tryd.prog 22 #[.pointer (some ⟨q, 0, none⟩)] w fun e w' => e = .returned (.bool M.opn) ∧ Up w w' := by
  have c2 : w.drew.cell? ⟨q, 2, none⟩ = _ := h.cell 2 (by omega)
  have c3 : w.drew.cell? ⟨q, 3, none⟩ = _ := h.cell 3 (by omega)
  have c5 : w.drew.cell? ⟨q, 5, none⟩ = _ := h.cell 5 (by omega)
  have c6 : w.drew.cell? ⟨q, 6, none⟩ = _ := h.cell 6 (by omega)
  unfold mcell at c2 c3 c5 c6
  have HO : Hid (M.opn = (decide (0 < M.cur.1) && decide (M.prom.1 = M.cur.1 ∧ M.prom.2 = M.cur.2))) := by unfold Hid Mm.opn; rw [opn_vid]
  have hq := fun W => vid_equal M.prom.1 M.prom.2 M.cur.1 M.cur.2 W
  rw [HO.out]
  generalize decide (M.prom.1 = M.cur.1 ∧ M.prom.2 = M.cur.2) = b at *
  have hS : w.drew.cell? ⟨q, 2, none⟩ = some (.int .u64 (M.cur.1 : Nat)) ∧ w.drew.cell? ⟨q, 3, none⟩ = some (.int .i64 M.cur.2) ∧ w.drew.cell? ⟨q, 5, none⟩ = some (.int .u64 (M.prom.1 : Nat)) ∧ w.drew.cell? ⟨q, 6, none⟩ = some (.int .i64 M.prom.2) := ⟨c2, c3, c5, c6⟩
  clear h HO c2 c3 c5 c6
  generalize M.cur.1 = n1 at *
  generalize M.cur.2 = p1 at *
  generalize M.prom.1 = n2 at *
  generalize M.prom.2 = p2 at *
  by_cases h0 : 0 < n1
  · have hI : (0 : Int) < (n1 : Int) := by omega
    rw [show decide (0 < n1) = true by simpa using h0, Bool.true_and]
    go_enter Tryd.func22, Tryd.ntmps22
    go_wp2_with fail
    refine wp_region_noPanic ?_
    refine wp_region_held_drew (S := fun wx => wx.cell? ⟨q, 2, none⟩ = some (.int .u64 (n1 : Nat)) ∧ wx.cell? ⟨q, 3, none⟩ = some (.int .i64 p1) ∧ wx.cell? ⟨q, 5, none⟩ = some (.int .u64 (n2 : Nat)) ∧ wx.cell? ⟨q, 6, none⟩ = some (.int .i64 p2)) (by kernel_rfl) hS (fun hHeld => ?_)
    refine take_first 0 (v := ?_) rfl (by kernel_rfl) (by kernel_rfl) (by kernel_rfl) (fun _ _ _ h => h) (Or.inl ⟨by rfl, by intro wx hSw; (try dsimp only at hSw); obtain ⟨k2, k3, k5, k6⟩ := hSw; go_simp; try with_reducible rfl⟩) (by assumption) ?_
    (try simp only [Act.put, List.setIfInBounds_toArray, List.set_cons_zero, List.set_cons_succ])
    refine take_first 1 (v := ?_) rfl (by kernel_rfl) (by kernel_rfl) (by kernel_rfl) (fun _ _ _ h => h) (Or.inl ⟨by rfl, by intro wx hSw; (try dsimp only at hSw); obtain ⟨k2, k3, k5, k6⟩ := hSw; go_simp; try with_reducible rfl⟩) (by assumption) ?_
    (try simp only [Act.put, List.setIfInBounds_toArray, List.set_cons_zero, List.set_cons_succ])
    refine take_first 2 (v := ?_) rfl (by kernel_rfl) (by kernel_rfl) (by kernel_rfl) (fun _ _ _ h => h) (Or.inl ⟨by rfl, by intro wx hSw; (try dsimp only at hSw); obtain ⟨k2, k3, k5, k6⟩ := hSw; go_simp; try with_reducible rfl⟩) (by assumption) ?_
    (try simp only [Act.put, List.setIfInBounds_toArray, List.set_cons_zero, List.set_cons_succ])
    refine take_first 3 (v := ?_) rfl (by kernel_rfl) (by kernel_rfl) (by kernel_rfl) (fun _ _ _ h => h) (Or.inl ⟨by rfl, by intro wx hSw; (try dsimp only at hSw); obtain ⟨k2, k3, k5, k6⟩ := hSw; go_simp; try with_reducible rfl⟩) (by assumption) ?_
    (try simp only [Act.put, List.setIfInBounds_toArray, List.set_cons_zero, List.set_cons_succ])
    refine take_first 4 (v := ?_) rfl (by kernel_rfl) (by kernel_rfl) (by kernel_rfl) (fun _ _ _ h => h) (Or.inl ⟨by rfl, by intro wx hSw; (try dsimp only at hSw); obtain ⟨k2, k3, k5, k6⟩ := hSw; go_simp; try with_reducible rfl⟩) (by assumption) ?_
    (try simp only [Act.put, List.setIfInBounds_toArray, List.set_cons_zero, List.set_cons_succ])
    refine take_first 5 (v := ?_) rfl (by kernel_rfl) (by kernel_rfl) (by kernel_rfl) (fun _ _ _ h => h) (Or.inl ⟨by rfl, by intro wx hSw; (try dsimp only at hSw); obtain ⟨k2, k3, k5, k6⟩ := hSw; go_simp; try with_reducible rfl⟩) (by assumption) ?_
    (try simp only [Act.put, List.setIfInBounds_toArray, List.set_cons_zero, List.set_cons_succ])
    refine take_first 6 (v := ?_) rfl (by kernel_rfl) (by kernel_rfl) (by kernel_rfl) (fun _ _ _ h => h) (Or.inl ⟨by rfl, by intro wx hSw; (try dsimp only at hSw); obtain ⟨k2, k3, k5, k6⟩ := hSw; go_simp; try with_reducible rfl⟩) (by assumption) ?_
    (try simp only [Act.put, List.setIfInBounds_toArray, List.set_cons_zero, List.set_cons_succ])
    refine take_first 7 (v := ?_) rfl (by kernel_rfl) (by kernel_rfl) (by kernel_rfl) (fun _ _ _ h => h) (Or.inl ⟨by rfl, by intro wx hSw; (try dsimp only at hSw); obtain ⟨k2, k3, k5, k6⟩ := hSw; go_simp; try with_reducible rfl⟩) (by assumption) ?_
    (try simp only [Act.put, List.setIfInBounds_toArray, List.set_cons_zero, List.set_cons_succ])
    refine take_first 8 (v := ?_) rfl (by kernel_rfl) (by kernel_rfl) (by kernel_rfl) (fun _ _ _ h => h) (Or.inl ⟨by rfl, by intro wx hSw; (try dsimp only at hSw); obtain ⟨k2, k3, k5, k6⟩ := hSw; go_simp; try with_reducible rfl⟩) (by assumption) ?_
    (try simp only [Act.put, List.setIfInBounds_toArray, List.set_cons_zero, List.set_cons_succ])
    refine take_first 9 (v := ?_) rfl (by kernel_rfl) (by kernel_rfl) (by kernel_rfl) (fun _ _ _ h => h) (Or.inl ⟨by rfl, by intro wx hSw; (try dsimp only at hSw); obtain ⟨k2, k3, k5, k6⟩ := hSw; go_simp; try with_reducible rfl⟩) (by assumption) ?_
    (try simp only [Act.put, List.setIfInBounds_toArray, List.set_cons_zero, List.set_cons_succ])
    refine take_first 10 (v := ?_) rfl (by kernel_rfl) (by kernel_rfl) (by kernel_rfl) (fun _ _ _ h => h) (Or.inl ⟨by rfl, by intro wx hSw; (try dsimp only at hSw); obtain ⟨k2, k3, k5, k6⟩ := hSw; go_simp; try with_reducible rfl⟩) (by assumption) ?_
    (try simp only [Act.put, List.setIfInBounds_toArray, List.set_cons_zero, List.set_cons_succ])
    refine take_first 11 (v := ?_) rfl (by kernel_rfl) (by kernel_rfl) (by kernel_rfl) (fun _ _ _ h => h) (Or.inl ⟨by rfl, by intro wx hSw; (try dsimp only at hSw); obtain ⟨k2, k3, k5, k6⟩ := hSw; go_simp; try with_reducible rfl⟩) (by assumption) ?_
    (try simp only [Act.put, List.setIfInBounds_toArray, List.set_cons_zero, List.set_cons_succ])
    refine take_first 12 (v := ?_) rfl (by kernel_rfl) (by kernel_rfl) (by kernel_rfl) (fun _ _ _ h => h) (Or.inl ⟨by rfl, by intro wx hSw; (try dsimp only at hSw); obtain ⟨k2, k3, k5, k6⟩ := hSw; go_simp; try with_reducible rfl⟩) (by assumption) ?_
    (try simp only [Act.put, List.setIfInBounds_toArray, List.set_cons_zero, List.set_cons_succ])
    refine take_first 13 (v := ?_) rfl (by kernel_rfl) (by kernel_rfl) (by kernel_rfl) (fun _ _ _ h => h) (Or.inl ⟨by rfl, by intro wx hSw; (try dsimp only at hSw); obtain ⟨k2, k3, k5, k6⟩ := hSw; go_simp; try with_reducible rfl⟩) (by assumption) ?_
    (try simp only [Act.put, List.setIfInBounds_toArray, List.set_cons_zero, List.set_cons_succ])
    refine take_first 14 (v := ?_) rfl (by kernel_rfl) (by kernel_rfl) (by kernel_rfl) (fun _ _ _ h => h) (Or.inl ⟨by rfl, by intro wx hSw; (try dsimp only at hSw); obtain ⟨k2, k3, k5, k6⟩ := hSw; go_simp; try with_reducible rfl⟩) (by assumption) ?_
    (try simp only [Act.put, List.setIfInBounds_toArray, List.set_cons_zero, List.set_cons_succ])
    refine take_first 15 (v := ?_) rfl (by kernel_rfl) (by kernel_rfl) (by kernel_rfl) (fun _ _ _ h => h) (Or.inl ⟨by rfl, by intro wx hSw; (try dsimp only at hSw); obtain ⟨k2, k3, k5, k6⟩ := hSw; go_simp; try with_reducible rfl⟩) (by assumption) ?_
    (try simp only [Act.put, List.setIfInBounds_toArray, List.set_cons_zero, List.set_cons_succ])
    refine take_first 16 (v := ?_) rfl (by kernel_rfl) (by kernel_rfl) (by kernel_rfl) (fun _ _ _ h => h) (Or.inl ⟨by rfl, by intro wx hSw; (try dsimp only at hSw); obtain ⟨k2, k3, k5, k6⟩ := hSw; go_simp; try with_reducible rfl⟩) (by assumption) ?_
    (try simp only [Act.put, List.setIfInBounds_toArray, List.set_cons_zero, List.set_cons_succ])
    refine take_first 17 (v := ?_) rfl (by kernel_rfl) (by kernel_rfl) (by kernel_rfl) (fun _ _ _ h => h) (Or.inl ⟨by rfl, by intro wx hSw; (try dsimp only at hSw); obtain ⟨k2, k3, k5, k6⟩ := hSw; go_simp; try with_reducible rfl⟩) (by assumption) ?_
    (try simp only [Act.put, List.setIfInBounds_toArray, List.set_cons_zero, List.set_cons_succ])
    refine take_first 18 (v := ?_) rfl (by kernel_rfl) (by kernel_rfl) (by kernel_rfl) (fun _ _ _ h => h) (Or.inl ⟨by rfl, by intro wx hSw; (try dsimp only at hSw); obtain ⟨k2, k3, k5, k6⟩ := hSw; go_simp; try with_reducible rfl⟩) (by assumption) ?_
    (try simp only [Act.put, List.setIfInBounds_toArray, List.set_cons_zero, List.set_cons_succ])
    refine take_first 19 (v := ?_) rfl (by kernel_rfl) (by kernel_rfl) (by kernel_rfl) (fun _ _ _ h => h) (Or.inl ⟨by rfl, by intro wx hSw; (try dsimp only at hSw); obtain ⟨k2, k3, k5, k6⟩ := hSw; go_simp; try with_reducible rfl⟩) (by assumption) ?_
    (try simp only [Act.put, List.setIfInBounds_toArray, List.set_cons_zero, List.set_cons_succ])
    refine wpAnyH_done (by kernel_rfl) ?_ _
    refine NoPanic.normal ?_
    go_wp2
    go_ret
    exact ⟨rfl, (Up.refl _).drew⟩
  · obtain rfl : n1 = 0 := by omega
    rw [show decide (0 < 0) = false by decide, Bool.false_and]
    go_enter Tryd.func22, Tryd.ntmps22
    go_wp2_with fail
    refine wp_region_noPanic ?_
    refine wp_region_held_drew (S := fun wx => wx.cell? ⟨q, 2, none⟩ = some (.int .u64 ((0 : Nat) : Int)) ∧ wx.cell? ⟨q, 3, none⟩ = some (.int .i64 p1) ∧ wx.cell? ⟨q, 5, none⟩ = some (.int .u64 (n2 : Nat)) ∧ wx.cell? ⟨q, 6, none⟩ = some (.int .i64 p2)) (by kernel_rfl) hS (fun hHeld => ?_)
    refine take_first 0 (v := ?_) rfl (by kernel_rfl) (by kernel_rfl) (by kernel_rfl) (fun _ _ _ h => h) (Or.inl ⟨by rfl, by intro wx hSw; (try dsimp only at hSw); obtain ⟨k2, k3, k5, k6⟩ := hSw; go_simp; try with_reducible rfl⟩) (by assumption) ?_
    (try simp only [Act.put, List.setIfInBounds_toArray, List.set_cons_zero, List.set_cons_succ])
    refine take_first 1 (v := ?_) rfl (by kernel_rfl) (by kernel_rfl) (by kernel_rfl) (fun _ _ _ h => h) (Or.inl ⟨by rfl, by intro wx hSw; (try dsimp only at hSw); obtain ⟨k2, k3, k5, k6⟩ := hSw; go_simp; try with_reducible rfl⟩) (by assumption) ?_
    (try simp only [Act.put, List.setIfInBounds_toArray, List.set_cons_zero, List.set_cons_succ])
    refine take_first 2 (v := ?_) rfl (by kernel_rfl) (by kernel_rfl) (by kernel_rfl) (fun _ _ _ h => h) (Or.inl ⟨by rfl, by intro wx hSw; (try dsimp only at hSw); obtain ⟨k2, k3, k5, k6⟩ := hSw; go_simp; try with_reducible rfl⟩) (by assumption) ?_
    (try simp only [Act.put, List.setIfInBounds_toArray, List.set_cons_zero, List.set_cons_succ])
    refine take_first 3 (v := ?_) rfl (by kernel_rfl) (by kernel_rfl) (by kernel_rfl) (fun _ _ _ h => h) (Or.inl ⟨by rfl, by intro wx hSw; (try dsimp only at hSw); obtain ⟨k2, k3, k5, k6⟩ := hSw; go_simp; try with_reducible rfl⟩) (by assumption) ?_
    (try simp only [Act.put, List.setIfInBounds_toArray, List.set_cons_zero, List.set_cons_succ])
    refine take_first 4 (v := ?_) rfl (by kernel_rfl) (by kernel_rfl) (by kernel_rfl) (fun _ _ _ h => h) (Or.inl ⟨by rfl, by intro wx hSw; (try dsimp only at hSw); obtain ⟨k2, k3, k5, k6⟩ := hSw; go_simp; try with_reducible rfl⟩) (by assumption) ?_
    (try simp only [Act.put, List.setIfInBounds_toArray, List.set_cons_zero, List.set_cons_succ])
    refine take_first 5 (v := ?_) rfl (by kernel_rfl) (by kernel_rfl) (by kernel_rfl) (fun _ _ _ h => h) (Or.inl ⟨by rfl, by intro wx hSw; (try dsimp only at hSw); obtain ⟨k2, k3, k5, k6⟩ := hSw; go_simp; try with_reducible rfl⟩) (by assumption) ?_
    (try simp only [Act.put, List.setIfInBounds_toArray, List.set_cons_zero, List.set_cons_succ])
    refine take_first 6 (v := ?_) rfl (by kernel_rfl) (by kernel_rfl) (by kernel_rfl) (fun _ _ _ h => h) (Or.inl ⟨by rfl, by intro wx hSw; (try dsimp only at hSw); obtain ⟨k2, k3, k5, k6⟩ := hSw; go_simp; try with_reducible rfl⟩) (by assumption) ?_
    (try simp only [Act.put, List.setIfInBounds_toArray, List.set_cons_zero, List.set_cons_succ])
    refine take_first 7 (v := ?_) rfl (by kernel_rfl) (by kernel_rfl) (by kernel_rfl) (fun _ _ _ h => h) (Or.inl ⟨by rfl, by intro wx hSw; (try dsimp only at hSw); obtain ⟨k2, k3, k5, k6⟩ := hSw; go_simp; try with_reducible rfl⟩) (by assumption) ?_
    (try simp only [Act.put, List.setIfInBounds_toArray, List.set_cons_zero, List.set_cons_succ])
    refine take_first 8 (v := undef) rfl (by kernel_rfl) (by kernel_rfl) (by kernel_rfl) (fun _ _ _ h => h) (Or.inr ⟨by rfl, rfl⟩) (by assumption) ?_
    (try simp only [Act.put, List.setIfInBounds_toArray, List.set_cons_zero, List.set_cons_succ])
    refine take_first 9 (v := undef) rfl (by kernel_rfl) (by kernel_rfl) (by kernel_rfl) (fun _ _ _ h => h) (Or.inr ⟨by rfl, rfl⟩) (by assumption) ?_
    (try simp only [Act.put, List.setIfInBounds_toArray, List.set_cons_zero, List.set_cons_succ])
    refine take_first 10 (v := undef) rfl (by kernel_rfl) (by kernel_rfl) (by kernel_rfl) (fun _ _ _ h => h) (Or.inr ⟨by rfl, rfl⟩) (by assumption) ?_
    (try simp only [Act.put, List.setIfInBounds_toArray, List.set_cons_zero, List.set_cons_succ])
    refine take_first 11 (v := undef) rfl (by kernel_rfl) (by kernel_rfl) (by kernel_rfl) (fun _ _ _ h => h) (Or.inr ⟨by rfl, rfl⟩) (by assumption) ?_
    (try simp only [Act.put, List.setIfInBounds_toArray, List.set_cons_zero, List.set_cons_succ])
    refine take_first 12 (v := undef) rfl (by kernel_rfl) (by kernel_rfl) (by kernel_rfl) (fun _ _ _ h => h) (Or.inr ⟨by rfl, rfl⟩) (by assumption) ?_
    (try simp only [Act.put, List.setIfInBounds_toArray, List.set_cons_zero, List.set_cons_succ])
    refine take_first 13 (v := undef) rfl (by kernel_rfl) (by kernel_rfl) (by kernel_rfl) (fun _ _ _ h => h) (Or.inr ⟨by rfl, rfl⟩) (by assumption) ?_
    (try simp only [Act.put, List.setIfInBounds_toArray, List.set_cons_zero, List.set_cons_succ])
    refine take_first 14 (v := undef) rfl (by kernel_rfl) (by kernel_rfl) (by kernel_rfl) (fun _ _ _ h => h) (Or.inr ⟨by rfl, rfl⟩) (by assumption) ?_
    (try simp only [Act.put, List.setIfInBounds_toArray, List.set_cons_zero, List.set_cons_succ])
    refine take_first 15 (v := undef) rfl (by kernel_rfl) (by kernel_rfl) (by kernel_rfl) (fun _ _ _ h => h) (Or.inr ⟨by rfl, rfl⟩) (by assumption) ?_
    (try simp only [Act.put, List.setIfInBounds_toArray, List.set_cons_zero, List.set_cons_succ])
    refine take_first 16 (v := undef) rfl (by kernel_rfl) (by kernel_rfl) (by kernel_rfl) (fun _ _ _ h => h) (Or.inr ⟨by rfl, rfl⟩) (by assumption) ?_
    (try simp only [Act.put, List.setIfInBounds_toArray, List.set_cons_zero, List.set_cons_succ])
    refine take_first 17 (v := undef) rfl (by kernel_rfl) (by kernel_rfl) (by kernel_rfl) (fun _ _ _ h => h) (Or.inr ⟨by rfl, rfl⟩) (by assumption) ?_
    (try simp only [Act.put, List.setIfInBounds_toArray, List.set_cons_zero, List.set_cons_succ])
    refine take_first 18 (v := ?_) rfl (by kernel_rfl) (by kernel_rfl) (by kernel_rfl) (fun _ _ _ h => h) (Or.inl ⟨by rfl, by intro wx hSw; (try dsimp only at hSw); obtain ⟨k2, k3, k5, k6⟩ := hSw; go_simp; try with_reducible rfl⟩) (by assumption) ?_
    (try simp only [Act.put, List.setIfInBounds_toArray, List.set_cons_zero, List.set_cons_succ])
    refine take_first 19 (v := ?_) rfl (by kernel_rfl) (by kernel_rfl) (by kernel_rfl) (fun _ _ _ h => h) (Or.inl ⟨by rfl, by intro wx hSw; (try dsimp only at hSw); obtain ⟨k2, k3, k5, k6⟩ := hSw; go_simp; try with_reducible rfl⟩) (by assumption) ?_
    (try simp only [Act.put, List.setIfInBounds_toArray, List.set_cons_zero, List.set_cons_succ])
    refine wpAnyH_done (by kernel_rfl) ?_ _
    refine NoPanic.normal ?_
    go_wp2
    go_ret
    exact ⟨rfl, (Up.refl _).drew⟩
end
end Go.Proofs.YtlonbbepoamnmaaDoor
namespace Go.Proofs.YtlonbbepoamnmaaDoor
open Go.RowKit
set_option linter.unusedVariables false
set_option linter.unusedSimpArgs false

theorem view_equal (n1 : Nat) (p1 : Int) (s1 : Nat) (n2 : Nat) (p2 : Int) (s2 : Nat) (w : World) : Sem.run Tryd.prog (Op.equalIn 10000 34 (.agg #[.int .u64 (n1 : Nat), .int .i64 p1, .int .u16 (s1 : Nat)]) (.agg #[.int .u64 (n2 : Nat), .int .i64 p2, .int .u16 (s2 : Nat)])) w = .ok (decide (n1 = n2 ∧ p1 = p2 ∧ s1 = s2)) w := by
  have u32 := Tryd.underlying32
  have a32 := Tryd.isAgg32
  have z32 := Tryd.sizeOf32
  have hv := fun W => vid_equalIn 9997 n1 p1 n2 p2 W
  rw [run_equalIn_agg w 9999 34 _ _ (by kernel_rfl) (by kernel_rfl)]
  simp only [Program.fieldsOf, Tryd.underlying34]
  go_simp
  have hs : ((s1 : Int) = s2) ↔ s1 = s2 := by omega
  by_cases h1 : n1 = n2 <;> by_cases h2 : p1 = p2 <;> by_cases h3 : s1 = s2 <;> simp [h1, h2, h3, hs]
/-- A frame in a block. -/
def Bfr (g : Nat) (F : PF) (a : Fa) (w : World) : Prop := ∀ j u, (fcells F a)[j]? = some u → w.cell? ⟨g, j, none⟩ = some u
theorem bfr_new (w : World) (F : PF) (a : Fa) : Bfr w.heap.size F a (w.alloc (.cells (fcells F a) 43)) := fun j u hj => by rw [cell_of_row _ _ _ _ 43 (0, 0) (heap_alloc_new _ _)]; exact hj
theorem Bfr.up {g : Nat} {F : PF} {a : Fa} {w w' : World} (h : Bfr g F a w) (u : Below w.heap.size w w') : Bfr g F a w' := fun j v hj => by
  have := h j v hj
  exact (u.cell (World.block_lt_of_cell? w _ this)).trans this
end Go.Proofs.YtlonbbepoamnmaaDoor
namespace Go.Proofs.YtlonbbepoamnmaaDoor
open Go.RowKit
set_option linter.unusedVariables false

theorem bl_cell {w w' : World} (b : Below w.heap.size w w') {ad : Addr} {v : Value} (hc : w.cell? ad = some v) : w'.cell? ad = some v := Kp.up (p := fun _ => True) b ad v trivial hc
theorem mcell_told (M : Mm) (o : Option Nat) (i c : Nat) (hc : c < 4) : mcell M o (9 + i * 4 + c) = tcell (M.told i) c := by
  rw [show 9 + i * 4 + c = (i * 4 + c) + 9 by omega]
  show tcell (M.told ((i * 4 + c) / 4)) ((i * 4 + c) % 4) = _
  rw [show (i * 4 + c) / 4 = i by omega, show (i * 4 + c) % 4 = c by omega]
theorem ints_at {w : World} {B n : Nat} {v : Value} {l : List Nat} (h : w.ownsRow B 3 1 v n (ints l)) : n = l.length ∧ ∃ ao cap, v = .slice ao n cap ∧ (∀ k x, l[k]? = some x → ∃ g, ao = some ⟨g, 0, none⟩ ∧ B ≤ g ∧ g < w.heap.size ∧ w.cell? ⟨g, k, none⟩ = some (.int .i64 (x : Nat))) := by
  have hl : n = l.length := by have := h.1; rw [ints_len] at this; omega
  refine ⟨hl, ?_⟩
  rcases own_shape h with ⟨rfl, h0⟩ | ⟨g, cap, rfl, hg, hlt⟩
  · exact ⟨none, 0, by rw [h0], fun k x hk => by have := (List.getElem?_eq_some_iff.1 hk).1; omega⟩
  · refine ⟨_, _, rfl, fun k x hk => ⟨g, rfl, hg, hlt, own_cell h k _ ?_⟩⟩
    unfold ints
    rw [List.getElem?_map, hk]
    rfl
theorem nodes_lt {s x k : Nat} (h : (nodes s 16)[k]? = some x) : x < 16 := by
  have := List.mem_of_getElem? h
  simp [nodes] at this
  exact this.1

section
variable {w : World} {F Z : Nat → Prop} {q p : Nat} {M : Mm} {P : Pp} {o : Option Nat}

theorem agreed_any (h : Pb w F Z q p P) : Calls Tryd.prog 59 #[.pointer (some ⟨p, 0, none⟩)] w fun e w' => e = .returned (.bool P.agreed) ∧ Up w w' := by
  have hS : w.drew.cell? ⟨p, 2, none⟩ = some (.int .u16 (P.set : Nat)) ∧ w.drew.cell? ⟨p, 3, none⟩ = some (.int .u16 (P.acc : Nat)) := ⟨h.c2, h.c3⟩
  have HA : Hid (P.agreed = ((P.acc : Int) == (P.set : Int))) := by
    unfold Hid Pp.agreed
    apply Bool.eq_iff_iff.2
    simp
    omega
  rw [HA.out]
  clear h HA
  go_enter Tryd.func59, Tryd.ntmps59
  go_wp2_with fail
  refine wp_region_noPanic ?_
  refine wp_region_held_drew (S := fun wx => wx.cell? ⟨p, 2, none⟩ = some (.int .u16 (P.set : Nat)) ∧ wx.cell? ⟨p, 3, none⟩ = some (.int .u16 (P.acc : Nat))) (by kernel_rfl) hS (fun hHeld => ?_)
  refine take_first 0 (v := ?_) rfl (by kernel_rfl) (by kernel_rfl) (by kernel_rfl) (fun _ _ _ h => h) (Or.inl ⟨by rfl, by intro wx hSw; (try dsimp only at hSw); obtain ⟨k2, k3⟩ := hSw; go_simp; try with_reducible rfl⟩) (by assumption) ?_
  (try simp only [Act.put, List.setIfInBounds_toArray, List.set_cons_zero, List.set_cons_succ])
  refine take_first 1 (v := ?_) rfl (by kernel_rfl) (by kernel_rfl) (by kernel_rfl) (fun _ _ _ h => h) (Or.inl ⟨by rfl, by intro wx hSw; (try dsimp only at hSw); obtain ⟨k2, k3⟩ := hSw; go_simp; try with_reducible rfl⟩) (by assumption) ?_
  (try simp only [Act.put, List.setIfInBounds_toArray, List.set_cons_zero, List.set_cons_succ])
  refine take_first 2 (v := ?_) rfl (by kernel_rfl) (by kernel_rfl) (by kernel_rfl) (fun _ _ _ h => h) (Or.inl ⟨by rfl, by intro wx hSw; (try dsimp only at hSw); obtain ⟨k2, k3⟩ := hSw; go_simp; try with_reducible rfl⟩) (by assumption) ?_
  (try simp only [Act.put, List.setIfInBounds_toArray, List.set_cons_zero, List.set_cons_succ])
  refine take_first 3 (v := ?_) rfl (by kernel_rfl) (by kernel_rfl) (by kernel_rfl) (fun _ _ _ h => h) (Or.inl ⟨by rfl, by intro wx hSw; (try dsimp only at hSw); obtain ⟨k2, k3⟩ := hSw; go_simp; try with_reducible rfl⟩) (by assumption) ?_
  (try simp only [Act.put, List.setIfInBounds_toArray, List.set_cons_zero, List.set_cons_succ])
  refine take_first 4 (v := ?_) rfl (by kernel_rfl) (by kernel_rfl) (by kernel_rfl) (fun _ _ _ h => h) (Or.inl ⟨by rfl, by intro wx hSw; (try dsimp only at hSw); obtain ⟨k2, k3⟩ := hSw; go_simp; try with_reducible rfl⟩) (by assumption) ?_
  (try simp only [Act.put, List.setIfInBounds_toArray, List.set_cons_zero, List.set_cons_succ])
  refine take_first 5 (v := ?_) rfl (by kernel_rfl) (by kernel_rfl) (by kernel_rfl) (fun _ _ _ h => h) (Or.inl ⟨by rfl, by intro wx hSw; (try dsimp only at hSw); obtain ⟨k2, k3⟩ := hSw; go_simp; try with_reducible rfl⟩) (by assumption) ?_
  (try simp only [Act.put, List.setIfInBounds_toArray, List.set_cons_zero, List.set_cons_succ])
  refine take_first 6 (v := ?_) rfl (by kernel_rfl) (by kernel_rfl) (by kernel_rfl) (fun _ _ _ h => h) (Or.inl ⟨by rfl, by intro wx hSw; (try dsimp only at hSw); obtain ⟨k2, k3⟩ := hSw; go_simp; try with_reducible rfl⟩) (by assumption) ?_
  (try simp only [Act.put, List.setIfInBounds_toArray, List.set_cons_zero, List.set_cons_succ])
  refine take_first 7 (v := ?_) rfl (by kernel_rfl) (by kernel_rfl) (by kernel_rfl) (fun _ _ _ h => h) (Or.inl ⟨by rfl, by intro wx hSw; (try dsimp only at hSw); obtain ⟨k2, k3⟩ := hSw; go_simp; try with_reducible rfl⟩) (by assumption) ?_
  (try simp only [Act.put, List.setIfInBounds_toArray, List.set_cons_zero, List.set_cons_succ])
  refine take_first 8 (v := ?_) rfl (by kernel_rfl) (by kernel_rfl) (by kernel_rfl) (fun _ _ _ h => h) (Or.inl ⟨by rfl, by intro wx hSw; (try dsimp only at hSw); obtain ⟨k2, k3⟩ := hSw; go_simp; try with_reducible rfl⟩) (by assumption) ?_
  (try simp only [Act.put, List.setIfInBounds_toArray, List.set_cons_zero, List.set_cons_succ])
  refine take_first 9 (v := ?_) rfl (by kernel_rfl) (by kernel_rfl) (by kernel_rfl) (fun _ _ _ h => h) (Or.inl ⟨by rfl, by intro wx hSw; (try dsimp only at hSw); obtain ⟨k2, k3⟩ := hSw; go_simp; try with_reducible rfl⟩) (by assumption) ?_
  (try simp only [Act.put, List.setIfInBounds_toArray, List.set_cons_zero, List.set_cons_succ])
  refine take_first 10 (v := ?_) rfl (by kernel_rfl) (by kernel_rfl) (by kernel_rfl) (fun _ _ _ h => h) (Or.inl ⟨by rfl, by intro wx hSw; (try dsimp only at hSw); obtain ⟨k2, k3⟩ := hSw; go_simp; try with_reducible rfl⟩) (by assumption) ?_
  (try simp only [Act.put, List.setIfInBounds_toArray, List.set_cons_zero, List.set_cons_succ])
  refine wpAnyH_done (by kernel_rfl) ?_ _
  refine NoPanic.normal ?_
  go_wp2
  go_ret
  exact ⟨rfl, (Up.refl _).drew⟩
theorem awaits_any (h : Pb w F Z q p P) (i : Int) : Calls Tryd.prog 74 #[.pointer (some ⟨p, 0, none⟩), .int .i64 i] w fun e w' => e = .returned (.bool (hasN P.set i && !hasN P.acc i)) ∧ w = w' := by
  have c2 := h.c2
  have c3 := h.c3
  have h1 := fun W => has_any W P.set h.s16 i
  have h2 := fun W => has_any W P.acc h.a16 i
  clear h
  cases ha : hasN P.set i with
  | true =>
    rw [ha] at h1
    rw [Bool.true_and]
    clear ha
    go_enter Tryd.func74, Tryd.ntmps74
    go_wp2_with fail
    refine (h1 _).mono ?_
    rintro e w1 ⟨rfl, rfl⟩
    go_wp2_with fail
    refine (h2 _).mono ?_
    rintro e w2 ⟨rfl, rfl⟩
    go_wp2
    go_ret
    exact ⟨rfl, rfl⟩
  | false =>
    rw [ha] at h1
    rw [Bool.false_and]
    clear ha
    go_enter Tryd.func74, Tryd.ntmps74
    go_wp2_with fail
    refine (h1 _).mono ?_
    rintro e w1 ⟨rfl, rfl⟩
    go_wp2
    go_ret
    exact ⟨rfl, rfl⟩

/-- The closure of passed. -/
theorem passed1_any (h : Mb w F Z q M o) (B1 B2 : Nat) (v : Vid) (b1 : w.cell? ⟨B1, 0, none⟩ = some (.pointer (some ⟨q, 0, none⟩))) (b2 : w.cell? ⟨B2, 0, none⟩ = some (.int .u64 (v.1 : Nat))) (b3 : w.cell? ⟨B2, 1, none⟩ = some (.int .i64 v.2)) (i : Nat) (hi : i < 16) :
    Calls Tryd.prog 87 #[.int .i64 (i : Nat), .pointer (some ⟨B1, 0, none⟩), .pointer (some ⟨B2, 0, none⟩)] w fun e w' => e = .returned (.bool (decide (vlt v (M.told i).2))) ∧ Up w w' := by
  have t2 : w.cell? ⟨q, 9 + i * 4 + 2, none⟩ = some (.int .u64 ((M.told i).2.1 : Nat)) := by rw [h.cell _ (by omega), mcell_told _ _ _ _ (by omega)]; rfl
  have t3 : w.cell? ⟨q, 9 + i * 4 + 3, none⟩ = some (.int .i64 (M.told i).2.2) := by rw [h.cell _ (by omega), mcell_told _ _ _ _ (by omega)]; rfl
  have ha := fun W => above_any W (M.told i).2.1 (M.told i).2.2 v.1 v.2
  have he : (v.1, v.2) = v := rfl
  have he2 : ((M.told i).2.1, (M.told i).2.2) = (M.told i).2 := rfl
  simp only [he, he2] at ha
  clear he he2 h
  generalize decide (vlt v (M.told i).2) = r at *
  generalize (M.told i).2.1 = n2 at *
  generalize (M.told i).2.2 = p2 at *
  have hS : w.drew.cell? ⟨B1, 0, none⟩ = some (.pointer (some ⟨q, 0, none⟩)) ∧ w.drew.cell? ⟨B2, 0, none⟩ = some (.int .u64 (v.1 : Nat)) ∧ w.drew.cell? ⟨B2, 1, none⟩ = some (.int .i64 v.2) ∧ w.drew.cell? ⟨q, 9 + i * 4 + 2, none⟩ = some (.int .u64 (n2 : Nat)) ∧ w.drew.cell? ⟨q, 9 + i * 4 + 3, none⟩ = some (.int .i64 p2) := ⟨b1, b2, b3, t2, t3⟩
  have i0 : ¬ ((i : Int) < 0) := by omega
  have i1 : (i : Int) < 16 := by omega
  unfold vid at ha
  go_enter Tryd.func87, Tryd.ntmps87
  go_wp2_with fail
  refine wp_region_noPanic ?_
  refine wp_region_held_drew (S := fun wx => wx.cell? ⟨B1, 0, none⟩ = some (.pointer (some ⟨q, 0, none⟩)) ∧ wx.cell? ⟨B2, 0, none⟩ = some (.int .u64 (v.1 : Nat)) ∧ wx.cell? ⟨B2, 1, none⟩ = some (.int .i64 v.2) ∧ wx.cell? ⟨q, 9 + i * 4 + 2, none⟩ = some (.int .u64 (n2 : Nat)) ∧ wx.cell? ⟨q, 9 + i * 4 + 3, none⟩ = some (.int .i64 p2)) (by kernel_rfl) hS (fun hHeld => ?_)
  refine take_first 0 (v := ?_) rfl (by kernel_rfl) (by kernel_rfl) (by kernel_rfl) (fun _ _ _ h => h) (Or.inl ⟨by rfl, by intro wx hSw; (try dsimp only at hSw); obtain ⟨k1, k2, k3, k4, k5⟩ := hSw; go_simp; try with_reducible rfl⟩) (by assumption) ?_
  (try simp only [Act.put, List.setIfInBounds_toArray, List.set_cons_zero, List.set_cons_succ])
  refine take_first 1 (v := ?_) rfl (by kernel_rfl) (by kernel_rfl) (by kernel_rfl) (fun _ _ _ h => h) (Or.inl ⟨by rfl, by intro wx hSw; (try dsimp only at hSw); obtain ⟨k1, k2, k3, k4, k5⟩ := hSw; go_simp; try with_reducible rfl⟩) (by assumption) ?_
  (try simp only [Act.put, List.setIfInBounds_toArray, List.set_cons_zero, List.set_cons_succ])
  refine take_first 2 (v := ?_) rfl (by kernel_rfl) (by kernel_rfl) (by kernel_rfl) (fun _ _ _ h => h) (Or.inl ⟨by rfl, by intro wx hSw; (try dsimp only at hSw); obtain ⟨k1, k2, k3, k4, k5⟩ := hSw; go_simp; try with_reducible rfl⟩) (by assumption) ?_
  (try simp only [Act.put, List.setIfInBounds_toArray, List.set_cons_zero, List.set_cons_succ])
  refine take_first 3 (v := ?_) rfl (by kernel_rfl) (by kernel_rfl) (by kernel_rfl) (fun _ _ _ h => h) (Or.inl ⟨by rfl, by intro wx hSw; (try dsimp only at hSw); obtain ⟨k1, k2, k3, k4, k5⟩ := hSw; go_simp; try with_reducible rfl⟩) (by assumption) ?_
  (try simp only [Act.put, List.setIfInBounds_toArray, List.set_cons_zero, List.set_cons_succ])
  refine take_first 4 (v := ?_) rfl (by kernel_rfl) (by kernel_rfl) (by kernel_rfl) (fun _ _ _ h => h) (Or.inl ⟨by rfl, by intro wx hSw; (try dsimp only at hSw); obtain ⟨k1, k2, k3, k4, k5⟩ := hSw; go_simp; try with_reducible rfl⟩) (by assumption) ?_
  (try simp only [Act.put, List.setIfInBounds_toArray, List.set_cons_zero, List.set_cons_succ])
  refine take_first 5 (v := ?_) rfl (by kernel_rfl) (by kernel_rfl) (by kernel_rfl) (fun _ _ _ h => h) (Or.inl ⟨by rfl, by intro wx hSw; (try dsimp only at hSw); obtain ⟨k1, k2, k3, k4, k5⟩ := hSw; go_simp; try with_reducible rfl⟩) (by assumption) ?_
  (try simp only [Act.put, List.setIfInBounds_toArray, List.set_cons_zero, List.set_cons_succ])
  refine take_first 6 (v := ?_) rfl (by kernel_rfl) (by kernel_rfl) (by kernel_rfl) (fun _ _ _ h => h) (Or.inl ⟨by rfl, by intro wx hSw; (try dsimp only at hSw); obtain ⟨k1, k2, k3, k4, k5⟩ := hSw; go_simp; try with_reducible rfl⟩) (by assumption) ?_
  (try simp only [Act.put, List.setIfInBounds_toArray, List.set_cons_zero, List.set_cons_succ])
  refine take_first 7 (v := ?_) rfl (by kernel_rfl) (by kernel_rfl) (by kernel_rfl) (fun _ _ _ h => h) (Or.inl ⟨by rfl, by intro wx hSw; (try dsimp only at hSw); obtain ⟨k1, k2, k3, k4, k5⟩ := hSw; go_simp; try with_reducible rfl⟩) (by assumption) ?_
  (try simp only [Act.put, List.setIfInBounds_toArray, List.set_cons_zero, List.set_cons_succ])
  refine comes_up 8 rfl (by kernel_rfl) (fun K hK => ?_)
  go_simp
  refine (ha _).mono ?_
  rintro e w1 ⟨rfl, u1⟩
  have hS1 : w1.cell? ⟨B1, 0, none⟩ = some (.pointer (some ⟨q, 0, none⟩)) ∧ w1.cell? ⟨B2, 0, none⟩ = some (.int .u64 (v.1 : Nat)) ∧ w1.cell? ⟨B2, 1, none⟩ = some (.int .i64 v.2) ∧ w1.cell? ⟨q, 9 + i * 4 + 2, none⟩ = some (.int .u64 (n2 : Nat)) ∧ w1.cell? ⟨q, 9 + i * 4 + 3, none⟩ = some (.int .i64 p2) := ⟨u1.cell b1, u1.cell b2, u1.cell b3, u1.cell t2, u1.cell t3⟩
  have u2 := ((Up.refl w).drew).trans u1
  clear u1 ha
  go_wp2_with fail
  refine hK.out _ _ hS1 (fun hHeld => ?_)
  clear hK K
  (try simp only [Act.put, List.setIfInBounds_toArray, List.set_cons_zero, List.set_cons_succ])
  refine take_first 9 (v := ?_) rfl (by kernel_rfl) (by kernel_rfl) (by kernel_rfl) (fun _ _ _ h => h) (Or.inl ⟨by rfl, by intro wx hSw; (try dsimp only at hSw); obtain ⟨k1, k2, k3, k4, k5⟩ := hSw; go_simp; try with_reducible rfl⟩) (by assumption) ?_
  (try simp only [Act.put, List.setIfInBounds_toArray, List.set_cons_zero, List.set_cons_succ])
  refine wpAnyH_done (by kernel_rfl) ?_ _
  refine NoPanic.normal ?_
  go_wp2
  go_ret
  exact ⟨rfl, u2⟩

set_option maxRecDepth 10000 in
set_option maxHeartbeats 1000000 in
theorem index_passed (h : Mb w F Z q M o) (B1 B2 : Nat) (v : Vid) (b1 : w.cell? ⟨B1, 0, none⟩ = some (.pointer (some ⟨q, 0, none⟩))) (b2 : w.cell? ⟨B2, 0, none⟩ = some (.int .u64 (v.1 : Nat))) (b3 : w.cell? ⟨B2, 1, none⟩ = some (.int .i64 v.2)) (s : Nat) (ao : Option Addr) (cap : Nat)
    (hl : ∀ k x, (nodes s 16)[k]? = some x → ∃ g, ao = some ⟨g, 0, none⟩ ∧ w.cell? ⟨g, k, none⟩ = some (.int .i64 (x : Nat))) :
    Calls Tryd.prog 101 #[.slice ao (nodes s 16).length cap, .func (.func 87) #[] #[.pointer (some ⟨B1, 0, none⟩), .pointer (some ⟨B2, 0, none⟩)]] w fun e w' => (∃ r : Int, e = .returned (.int .i64 r) ∧ decide (0 ≤ r) = M.passed s v) ∧ Up w w' := by
  have hnl : (nodes s 16).length ≤ 16 := by rw [nodes_len]; exact cntF_le 16 s
  have HL : Hid (∀ k x, (nodes s 16)[k]? = some x → ∃ g, ao = some ⟨g, 0, none⟩ ∧ w.cell? ⟨g, k, none⟩ = some (.int .i64 (x : Nat))) := hl
  have HP : Hid (M.passed s v = (nodes s 16).any (fun i => decide (vlt v (M.told i).2))) := rfl
  have HB : Hid (Mb w F Z q M o ∧ w.cell? ⟨B1, 0, none⟩ = some (.pointer (some ⟨q, 0, none⟩)) ∧ w.cell? ⟨B2, 0, none⟩ = some (.int .u64 (v.1 : Nat)) ∧ w.cell? ⟨B2, 1, none⟩ = some (.int .i64 v.2)) := ⟨h, b1, b2, b3⟩
  have HX : Hid (∀ k x, (nodes s 16)[k]? = some x → x < 16) := fun k x => nodes_lt
  obtain ⟨L, hL⟩ : ∃ L, nodes s 16 = L := ⟨_, rfl⟩
  rw [hL] at hnl HL HP HX ⊢
  clear hl h b1 b2 b3 hL
  obtain ⟨n, hn⟩ : ∃ n, L.length = n := ⟨_, rfl⟩
  rw [hn] at hnl ⊢
  have HN : Hid (L.length = n) := hn
  clear hn
  go_enter Tryd.func101, Tryd.ntmps101
  go_wp2_with fail
  go_loopw [5, 8] (fun _ iv wr => ∃ k : Nat, k ≤ n ∧ iv = .int .i64 k ∧ (∀ x ∈ L.take k, decide (vlt v (M.told x).2) = false) ∧ Up w wr) (fun _ iv _ => n - (intOf iv).toNat)
  case atStart => exact ⟨0, by omega, rfl, by simp, Up.refl _⟩
  case round =>
    obtain ⟨k, hk, rfl, hno, hu⟩ := hrel
    have HO : Hid (∀ x ∈ L.take k, decide (vlt v (M.told x).2) = false) := hno
    clear hno
    by_cases hlt : k < n
    · have hltI : (k : Int) < (n : Int) := by omega
      have hkL : k < L.length := by rw [HN.out]; exact hlt
      obtain ⟨y, hy⟩ : ∃ y, L[k]? = some y := ⟨L[k]'hkL, List.getElem?_eq_getElem hkL⟩
      obtain ⟨g, rfl, hc⟩ := HL.out k y hy
      have hy16 := HX.out k y hy
      have hc' := hu.cell hc
      have HY : Hid (L[k]? = some y) := hy
      have hcl := passed1_any (HB.out.1.still hu.bl) B1 B2 v (hu.cell HB.out.2.1) (hu.cell HB.out.2.2.1) (hu.cell HB.out.2.2.2) y hy16
      clear hc hy hkL
      have hk0 : ¬ ((k : Int) < 0) := by omega
      cases hd : decide (vlt v (M.told y).2) with
      | true =>
        rw [hd] at hcl
        have HT : Hid ((true : Bool) = M.passed s v) := by
          rw [HP.out]
          unfold Hid
          symm
          rw [List.any_eq_true]
          exact ⟨y, List.mem_of_getElem? HY.out, hd⟩
        clear hd
        go_wp2_with fail
        refine hcl.mono ?_
        rintro e w1 ⟨rfl, hb1⟩
        have hu1 := hu.trans hb1
        clear hcl hb1 hc'
        go_wp2
        go_ret
        exact ⟨⟨(k : Nat), rfl, by rw [← HT.out]; simp⟩, hu1⟩
      | false =>
        rw [hd] at hcl
        have HN' : Hid (∀ x ∈ L.take (k + 1), decide (vlt v (M.told x).2) = false) := by
          intro x hx
          rw [List.take_add_one, HY.out] at hx
          simp only [Option.toList_some, List.mem_append, List.mem_singleton] at hx
          rcases hx with hx | rfl
          · exact HO.out x hx
          · exact hd
        clear hd
        go_wp2_with fail
        refine hcl.mono ?_
        rintro e w1 ⟨rfl, hb1⟩
        have hu1 := hu.trans hb1
        clear hcl hb1 hc'
        go_wp2
        go_roundw
        case rel => first | exact ⟨k + 1, by omega, by go_num, HN'.out, hu1⟩ | ((repeat apply Exists.intro); exact ⟨⟨k + 1, by omega, by go_num, HN'.out, hu1⟩, rfl⟩)
        case measure => simp [intOf]; omega
    · obtain rfl : k = n := by omega
      have HT : Hid ((false : Bool) = M.passed s v) := by
        rw [HP.out]
        unfold Hid
        symm
        rw [List.any_eq_false]
        intro x hx
        have := HO.out
        rw [List.take_of_length_le (by rw [HN.out]; exact Nat.le_refl _)] at this
        rw [this x hx]; simp
      go_wp2
      go_ret
      exact ⟨⟨-1, rfl, by rw [← HT.out]; rfl⟩, hu⟩

theorem contains_passed (h : Mb w F Z q M o) (B1 B2 : Nat) (v : Vid) (b1 : w.cell? ⟨B1, 0, none⟩ = some (.pointer (some ⟨q, 0, none⟩))) (b2 : w.cell? ⟨B2, 0, none⟩ = some (.int .u64 (v.1 : Nat))) (b3 : w.cell? ⟨B2, 1, none⟩ = some (.int .i64 v.2)) (s : Nat) (ao : Option Addr) (cap : Nat)
    (hl : ∀ k x, (nodes s 16)[k]? = some x → ∃ g, ao = some ⟨g, 0, none⟩ ∧ w.cell? ⟨g, k, none⟩ = some (.int .i64 (x : Nat))) :
    Calls Tryd.prog 86 #[.slice ao (nodes s 16).length cap, .func (.func 87) #[] #[.pointer (some ⟨B1, 0, none⟩), .pointer (some ⟨B2, 0, none⟩)]] w fun e w' => e = .returned (.bool (M.passed s v)) ∧ Up w w' := by
  have hi := index_passed h B1 B2 v b1 b2 b3 s ao cap hl
  clear h b1 b2 b3 hl
  generalize (nodes s 16).length = n at *
  go_enter Tryd.func86, Tryd.ntmps86
  go_wp2_with fail
  refine hi.mono ?_
  rintro e w1 ⟨⟨r, rfl, hr⟩, hu⟩
  clear hi
  have HR : Hid (decide (0 ≤ r) = M.passed s v) := hr
  clear hr
  go_wp2
  go_ret
  exact ⟨ret_bool (by rw [← HR.out]), hu⟩

theorem cell_box2 (w : World) (c c' : Array Value) (t t' : TypeId) (j : Nat) (v : Value) (hj : c'[j]? = some v) : ((w.alloc (.cells c t)).alloc (.cells c' t')).cell? ⟨w.heap.size + 1, j, none⟩ = some v := by
  have e : (w.alloc (.cells c t)).heap.size = w.heap.size + 1 := by simp
  rw [← e]
  exact cell_box (w.alloc (.cells c t)) c' t' j v hj
theorem passed_any (h : Mb w F Z q M o) (s : Nat) (hs : s < 65536) (v : Vid) : Calls Tryd.prog 78 #[.pointer (some ⟨q, 0, none⟩), .int .u16 (s : Nat), vid v.1 v.2] w fun e w' => e = .returned (.bool (M.passed s v)) ∧ Below w.heap.size w w' := by
  obtain ⟨w2, hw2⟩ : ∃ w2, (w.alloc (.cells #[.pointer (some ⟨q, 0, none⟩)] 24)).alloc (.cells #[.int .u64 (v.1 : Nat), .int .i64 v.2] 31) = w2 := ⟨_, rfl⟩
  have u2 : Up w w2 := by rw [← hw2]; exact ((Up.refl w).alloc _).alloc _
  have hl2 := list_any w2 s hs
  have b1 : w2.cell? ⟨w.heap.size, 0, none⟩ = some (.pointer (some ⟨q, 0, none⟩)) := by rw [← hw2]; exact ((Up.refl _).alloc _).cell (cell_box w _ 24 0 _ rfl)
  have b2 : w2.cell? ⟨w.heap.size + 1, 0, none⟩ = some (.int .u64 (v.1 : Nat)) := by rw [← hw2]; exact cell_box2 w _ _ 24 31 0 _ rfl
  have b3 : w2.cell? ⟨w.heap.size + 1, 1, none⟩ = some (.int .i64 v.2) := by rw [← hw2]; exact cell_box2 w _ _ 24 31 1 _ rfl
  have HB : Hid (Mb w2 F Z q M o ∧ w2.cell? ⟨w.heap.size, 0, none⟩ = some (.pointer (some ⟨q, 0, none⟩)) ∧ w2.cell? ⟨w.heap.size + 1, 0, none⟩ = some (.int .u64 (v.1 : Nat)) ∧ w2.cell? ⟨w.heap.size + 1, 1, none⟩ = some (.int .i64 v.2)) := ⟨h.still u2.bl, b1, b2, b3⟩
  have HU : Hid (Up w w2) := u2
  clear h b1 b2 b3 u2
  unfold vid
  go_enter Tryd.func78, Tryd.ntmps78
  go_wp2_with fail
  (try simp only [hw2])
  refine hl2.mono ?_
  rintro e w3 ⟨v3, rfl, hown, hb3⟩
  obtain ⟨hn, ao, cap, rfl, hat⟩ := ints_at hown
  have hk := contains_passed (HB.out.1.still hb3) _ _ v (bl_cell hb3 HB.out.2.1) (bl_cell hb3 HB.out.2.2.1) (bl_cell hb3 HB.out.2.2.2) s ao cap (fun k x hk => by
      obtain ⟨g, e1, _, _, e2⟩ := hat k x hk
      exact ⟨g, e1, e2⟩)
  have HW : Hid (Below w.heap.size w w3) := bl_step HU.out.bl hb3
  rw [← hn] at hk
  generalize cntF 16 s = n at *
  clear hl2 hown hb3 hat HB HU hn hw2
  go_wp2_with fail
  refine hk.mono ?_
  rintro e w4 ⟨rfl, u4⟩
  have HW4 : Hid (Below w.heap.size w w4) := bl_step HW.out u4.bl
  go_wp2
  go_ret
  exact ⟨rfl, HW4.out⟩
end
end Go.Proofs.YtlonbbepoamnmaaDoor
namespace Go.Proofs.YtlonbbepoamnmaaDoor
open Go.RowKit
set_option linter.unusedVariables false
section
variable {w : World} {F Z : Nat → Prop} {q : Nat} {M : Mm} {o : Option Nat}

theorem needs_any (h : Mb w F Z q M o) (e : Nat) (he : e < 65536) : Calls Tryd.prog 56 #[.pointer (some ⟨q, 0, none⟩), .int .u16 (e : Nat)] w fun x w' => x = .returned (.bool (M.needs e)) ∧ Below w.heap.size w w' := by
  have ho := open_any h
  have HB : Hid (Mb w F Z q M o) := h
  clear h
  unfold Mm.needs
  cases hc : M.opn with
  | false =>
    rw [hc] at ho
    simp only [Bool.not_false, Bool.true_or]
    clear hc
    go_enter Tryd.func56, Tryd.ntmps56
    go_wp2_with fail
    refine ho.mono ?_
    rintro x w1 ⟨rfl, u1⟩
    clear ho
    go_wp2
    go_ret
    exact ⟨rfl, u1.bl⟩
  | true =>
    rw [hc] at ho
    simp only [Bool.not_true, Bool.false_or]
    clear hc
    by_cases hs : M.cset = e
    · subst hs
      rw [show decide (M.cset = M.cset) = true by simp]
      simp only [Bool.not_true, Bool.false_or]
      go_enter Tryd.func56, Tryd.ntmps56
      go_wp2_with fail
      refine ho.mono ?_
      rintro x w1 ⟨rfl, u1⟩
      have h1 := HB.out.still u1.bl
      have c2 := h1.cell 2 (by omega)
      have c3 := h1.cell 3 (by omega)
      have c4 := h1.cell 4 (by omega)
      unfold mcell at c2 c3 c4
      have hp := passed_any h1 M.cset he M.cur
      unfold vid at hp
      have HU : Hid (Below w.heap.size w w1) := u1.bl
      clear ho u1 h1 HB
      go_wp2_with fail
      refine hp.mono ?_
      rintro x w2 ⟨rfl, b2⟩
      have HU2 : Hid (Below w.heap.size w w2) := bl_step HU.out b2
      clear b2 hp c2 c3 c4 HU
      go_wp2
      go_ret
      exact ⟨rfl, HU2.out⟩
    · rw [show decide (M.cset = e) = false by simpa using hs]
      simp only [Bool.not_false, Bool.true_or]
      have hne : ((M.cset : Int) == (e : Int)) = false := by simp; omega
      go_enter Tryd.func56, Tryd.ntmps56
      go_wp2_with fail
      refine ho.mono ?_
      rintro x w1 ⟨rfl, u1⟩
      have h1 := HB.out.still u1.bl
      have c4 := h1.cell 4 (by omega)
      unfold mcell at c4
      have HU : Hid (Below w.heap.size w w1) := u1.bl
      clear ho u1 h1 HB
      go_wp2
      go_ret
      exact ⟨rfl, HU.out⟩

theorem stands_any (h : Mb w F Z q M o) (e : Nat) (he : e < 65536) : Calls Tryd.prog 57 #[.pointer (some ⟨q, 0, none⟩), .int .u16 (e : Nat)] w fun x w' => x = .returned (.bool (M.stands e)) ∧ Below w.heap.size w w' := by
  have c8 := h.cell 8 (by omega)
  unfold mcell ptr at c8
  unfold Mm.stands
  cases hM : M.own with
  | none =>
    obtain rfl := h.ownNone hM
    simp only [Option.map_none] at c8
    simp only
    clear h hM
    go_enter Tryd.func57, Tryd.ntmps57
    go_wp2
    go_ret
    exact ⟨rfl, Below.refl _ _⟩
  | some P =>
    obtain ⟨p, rfl, hp⟩ := h.ownSome hM
    simp only [Option.map_some] at c8
    simp only
    have hag := agreed_any hp
    have HB : Hid (Mb w F Z q M (some p) ∧ Pb w F Z q p P) := ⟨h, hp⟩
    clear h hp hM
    cases hg : P.agreed with
    | true =>
      rw [hg] at hag
      simp only [Bool.not_true, Bool.false_and]
      clear hg
      go_enter Tryd.func57, Tryd.ntmps57
      go_wp2_with fail
      refine hag.mono ?_
      rintro x w1 ⟨rfl, u1⟩
      have HU : Hid (Below w.heap.size w w1) := u1.bl
      clear hag u1
      go_wp2
      go_ret
      exact ⟨rfl, HU.out⟩
    | false =>
      rw [hg] at hag
      simp only [Bool.not_false, Bool.true_and]
      clear hg
      by_cases hs : P.set = e
      · subst hs
        rw [show decide (P.set = P.set) = true by simp]
        simp only [Bool.true_and]
        go_enter Tryd.func57, Tryd.ntmps57
        go_wp2_with fail
        refine hag.mono ?_
        rintro x w1 ⟨rfl, u1⟩
        have h1 := HB.out.1.still u1.bl
        have c0 := u1.cell HB.out.2.c0
        have c1 := u1.cell HB.out.2.c1
        have c2 := u1.cell HB.out.2.c2
        have hpa := passed_any h1 P.set he P.id
        unfold vid at hpa
        have HU : Hid (Below w.heap.size w w1) := u1.bl
        clear hag u1 h1 HB
        go_wp2_with fail
        refine hpa.mono ?_
        rintro x w2 ⟨rfl, b2⟩
        have HU2 : Hid (Below w.heap.size w w2) := bl_step HU.out b2
        clear b2 hpa c0 c1 c2 HU
        go_wp2
        go_ret
        exact ⟨rfl, HU2.out⟩
      · rw [show decide (P.set = e) = false by simpa using hs]
        simp only [Bool.false_and]
        have hne : ((P.set : Int) == (e : Int)) = false := by simp; omega
        go_enter Tryd.func57, Tryd.ntmps57
        go_wp2_with fail
        refine hag.mono ?_
        rintro x w1 ⟨rfl, u1⟩
        have c2 := u1.cell HB.out.2.c2
        have HU : Hid (Below w.heap.size w w1) := u1.bl
        clear hag u1 HB
        go_wp2
        go_ret
        exact ⟨rfl, HU.out⟩

set_option maxRecDepth 10000 in
set_option maxHeartbeats 1000000 in
theorem proposes_any (h : Mb w F Z q M o) (e : Nat) (he : e < 65536) : Calls Tryd.prog 31 #[.pointer (some ⟨q, 0, none⟩), .int .u16 (e : Nat)] w fun x w' => x = .returned (.bool (M.proposes e)) ∧ Below w.heap.size w w' := by
  have hlst := fun (W : World) (hW : Mb W F Z q M o) => least_any W hW.tab e he
  have hnd := fun (W : World) (hW : Mb W F Z q M o) => needs_any hW e he
  have hst := fun (W : World) (hW : Mb W F Z q M o) => stands_any hW e he
  have hkey : ∀ W : World, Mb W F Z q M o → W.cell? ⟨q, 1, none⟩ = some (.int .i64 (M.self : Nat)) ∧ W.cell? ⟨q, 7, none⟩ = some (.int .u64 (M.high : Nat)) := fun W hW => ⟨hW.cell 1 (by omega), hW.cell 7 (by omega)⟩
  have HK : Hid (∀ W : World, Mb W F Z q M o → W.cell? ⟨q, 1, none⟩ = some (.int .i64 (M.self : Nat)) ∧ W.cell? ⟨q, 7, none⟩ = some (.int .u64 (M.high : Nat))) := hkey
  have h0 : Mb w.drew F Z q M o := h.still ((Below.refl _ _).drew)
  have hS : Mb w.drew F Z q M o ∧ w.drew.cell? ⟨q, 1, none⟩ = some (.int .i64 (M.self : Nat)) := ⟨h0, (hkey _ h0).1⟩
  clear hkey h h0
  unfold Mm.proposes
  by_cases hl : leastN e = (M.self : Int)
  · rw [show decide (leastN e = (M.self : Int)) = true by simpa using hl, Bool.true_and]
    rw [hl] at hlst
    clear hl
    cases hn : M.needs e with
    | false =>
      rw [hn] at hnd
      simp only [Bool.false_and]
      clear hn
      go_enter Tryd.func31, Tryd.ntmps31
      go_wp2_with fail
      refine wp_region_noPanic ?_
      refine wp_region_held_drew (S := fun wx => Mb wx F Z q M o ∧ wx.cell? ⟨q, 1, none⟩ = some (.int .i64 (M.self : Nat))) (by kernel_rfl) hS (fun hHeld => ?_)
      refine take_first 0 (v := ?_) rfl (by kernel_rfl) (by kernel_rfl) (by kernel_rfl) (fun _ _ _ h => h) (Or.inl ⟨by rfl, by intro wx hSw; (try dsimp only at hSw); obtain ⟨hb, k1⟩ := hSw; go_simp; try with_reducible rfl⟩) (by assumption) ?_
      (try simp only [Act.put, List.setIfInBounds_toArray, List.set_cons_zero, List.set_cons_succ])
      refine take_first 2 (v := ?_) rfl (by kernel_rfl) (by kernel_rfl) (by kernel_rfl) (fun _ _ _ h => h) (Or.inl ⟨by rfl, by intro wx hSw; (try dsimp only at hSw); obtain ⟨hb, k1⟩ := hSw; go_simp; try with_reducible rfl⟩) (by assumption) ?_
      (try simp only [Act.put, List.setIfInBounds_toArray, List.set_cons_zero, List.set_cons_succ])
      refine take_first 3 (v := ?_) rfl (by kernel_rfl) (by kernel_rfl) (by kernel_rfl) (fun _ _ _ h => h) (Or.inl ⟨by rfl, by intro wx hSw; (try dsimp only at hSw); obtain ⟨hb, k1⟩ := hSw; go_simp; try with_reducible rfl⟩) (by assumption) ?_
      (try simp only [Act.put, List.setIfInBounds_toArray, List.set_cons_zero, List.set_cons_succ])
      refine take_first 4 (v := ?_) rfl (by kernel_rfl) (by kernel_rfl) (by kernel_rfl) (fun _ _ _ h => h) (Or.inl ⟨by rfl, by intro wx hSw; (try dsimp only at hSw); obtain ⟨hb, k1⟩ := hSw; go_simp; try with_reducible rfl⟩) (by assumption) ?_
      (try simp only [Act.put, List.setIfInBounds_toArray, List.set_cons_zero, List.set_cons_succ])
      refine take_first 5 (v := ?_) rfl (by kernel_rfl) (by kernel_rfl) (by kernel_rfl) (fun _ _ _ h => h) (Or.inl ⟨by rfl, by intro wx hSw; (try dsimp only at hSw); obtain ⟨hb, k1⟩ := hSw; go_simp; try with_reducible rfl⟩) (by assumption) ?_
      (try simp only [Act.put, List.setIfInBounds_toArray, List.set_cons_zero, List.set_cons_succ])
      refine comes_up 1 rfl (by kernel_rfl) (fun K hK => ?_)
      go_simp
      refine (hlst _ hS.1).mono ?_
      rintro x w1 ⟨rfl, rfl⟩
      go_wp2_with fail
      refine hK.out _ _ hS (fun hHeld => ?_)
      clear hK K
      (try simp only [Act.put, List.setIfInBounds_toArray, List.set_cons_zero, List.set_cons_succ])
      refine take_first 6 (v := ?_) rfl (by kernel_rfl) (by kernel_rfl) (by kernel_rfl) (fun _ _ _ h => h) (Or.inl ⟨by rfl, by intro wx hSw; (try dsimp only at hSw); obtain ⟨hb, k1⟩ := hSw; go_simp; try with_reducible rfl⟩) (by assumption) ?_
      (try simp only [Act.put, List.setIfInBounds_toArray, List.set_cons_zero, List.set_cons_succ])
      refine take_first 7 (v := ?_) rfl (by kernel_rfl) (by kernel_rfl) (by kernel_rfl) (fun _ _ _ h => h) (Or.inl ⟨by rfl, by intro wx hSw; (try dsimp only at hSw); obtain ⟨hb, k1⟩ := hSw; go_simp; try with_reducible rfl⟩) (by assumption) ?_
      (try simp only [Act.put, List.setIfInBounds_toArray, List.set_cons_zero, List.set_cons_succ])
      refine take_first 8 (v := ?_) rfl (by kernel_rfl) (by kernel_rfl) (by kernel_rfl) (fun _ _ _ h => h) (Or.inl ⟨by rfl, by intro wx hSw; (try dsimp only at hSw); obtain ⟨hb, k1⟩ := hSw; go_simp; try with_reducible rfl⟩) (by assumption) ?_
      (try simp only [Act.put, List.setIfInBounds_toArray, List.set_cons_zero, List.set_cons_succ])
      refine take_first 9 (v := ?_) rfl (by kernel_rfl) (by kernel_rfl) (by kernel_rfl) (fun _ _ _ h => h) (Or.inl ⟨by rfl, by intro wx hSw; (try dsimp only at hSw); obtain ⟨hb, k1⟩ := hSw; go_simp; try with_reducible rfl⟩) (by assumption) ?_
      (try simp only [Act.put, List.setIfInBounds_toArray, List.set_cons_zero, List.set_cons_succ])
      refine comes_up 10 rfl (by kernel_rfl) (fun K hK => ?_)
      go_simp
      refine (hnd _ hS.1).mono ?_
      rintro x w1 ⟨rfl, b1⟩
      have hb1 : Mb w1 F Z q M o := hS.1.still b1
      have hS1 : Mb w1 F Z q M o ∧ w1.cell? ⟨q, 1, none⟩ = some (.int .i64 (M.self : Nat)) := ⟨hb1, (HK.out _ hb1).1⟩
      have HU : Hid (Below w.heap.size w w1) := bl_step ((Below.refl _ w).drew) b1
      clear b1 hb1 hS hnd hst hlst
      go_wp2_with fail
      refine hK.out _ _ hS1 (fun hHeld => ?_)
      clear hK K
      (try simp only [Act.put, List.setIfInBounds_toArray, List.set_cons_zero, List.set_cons_succ])
      refine take_first 11 (v := ?_) rfl (by kernel_rfl) (by kernel_rfl) (by kernel_rfl) (fun _ _ _ h => h) (Or.inl ⟨by rfl, by intro wx hSw; (try dsimp only at hSw); obtain ⟨hb, k1⟩ := hSw; go_simp; try with_reducible rfl⟩) (by assumption) ?_
      (try simp only [Act.put, List.setIfInBounds_toArray, List.set_cons_zero, List.set_cons_succ])
      refine take_first 12 (v := ?_) rfl (by kernel_rfl) (by kernel_rfl) (by kernel_rfl) (fun _ _ _ h => h) (Or.inl ⟨by rfl, by intro wx hSw; (try dsimp only at hSw); obtain ⟨hb, k1⟩ := hSw; go_simp; try with_reducible rfl⟩) (by assumption) ?_
      (try simp only [Act.put, List.setIfInBounds_toArray, List.set_cons_zero, List.set_cons_succ])
      refine take_first 13 (v := ?_) rfl (by kernel_rfl) (by kernel_rfl) (by kernel_rfl) (fun _ _ _ h => h) (Or.inl ⟨by rfl, by intro wx hSw; (try dsimp only at hSw); obtain ⟨hb, k1⟩ := hSw; go_simp; try with_reducible rfl⟩) (by assumption) ?_
      (try simp only [Act.put, List.setIfInBounds_toArray, List.set_cons_zero, List.set_cons_succ])
      refine take_first 14 (v := undef) rfl (by kernel_rfl) (by kernel_rfl) (by kernel_rfl) (fun _ _ _ h => h) (Or.inr ⟨by rfl, rfl⟩) (by assumption) ?_
      (try simp only [Act.put, List.setIfInBounds_toArray, List.set_cons_zero, List.set_cons_succ])
      refine take_first 15 (v := undef) rfl (by kernel_rfl) (by kernel_rfl) (by kernel_rfl) (fun _ _ _ h => h) (Or.inr ⟨by rfl, rfl⟩) (by assumption) ?_
      (try simp only [Act.put, List.setIfInBounds_toArray, List.set_cons_zero, List.set_cons_succ])
      refine take_first 16 (v := undef) rfl (by kernel_rfl) (by kernel_rfl) (by kernel_rfl) (fun _ _ _ h => h) (Or.inr ⟨by rfl, rfl⟩) (by assumption) ?_
      (try simp only [Act.put, List.setIfInBounds_toArray, List.set_cons_zero, List.set_cons_succ])
      refine take_first 17 (v := ?_) rfl (by kernel_rfl) (by kernel_rfl) (by kernel_rfl) (fun _ _ _ h => h) (Or.inl ⟨by rfl, by intro wx hSw; (try dsimp only at hSw); obtain ⟨hb, k1⟩ := hSw; go_simp; try with_reducible rfl⟩) (by assumption) ?_
      (try simp only [Act.put, List.setIfInBounds_toArray, List.set_cons_zero, List.set_cons_succ])
      refine wpAnyH_done (by kernel_rfl) ?_ _
      refine NoPanic.normal ?_
      go_wp2
      go_ret
      exact ⟨rfl, HU.out⟩
    | true =>
      rw [hn] at hnd
      simp only [Bool.true_and]
      clear hn
      cases ht : M.stands e with
      | true =>
        rw [ht] at hst
        simp only [Bool.not_true, Bool.false_and]
        clear ht
        go_enter Tryd.func31, Tryd.ntmps31
        go_wp2_with fail
        refine wp_region_noPanic ?_
        refine wp_region_held_drew (S := fun wx => Mb wx F Z q M o ∧ wx.cell? ⟨q, 1, none⟩ = some (.int .i64 (M.self : Nat))) (by kernel_rfl) hS (fun hHeld => ?_)
        refine take_first 0 (v := ?_) rfl (by kernel_rfl) (by kernel_rfl) (by kernel_rfl) (fun _ _ _ h => h) (Or.inl ⟨by rfl, by intro wx hSw; (try dsimp only at hSw); obtain ⟨hb, k1⟩ := hSw; go_simp; try with_reducible rfl⟩) (by assumption) ?_
        (try simp only [Act.put, List.setIfInBounds_toArray, List.set_cons_zero, List.set_cons_succ])
        refine take_first 2 (v := ?_) rfl (by kernel_rfl) (by kernel_rfl) (by kernel_rfl) (fun _ _ _ h => h) (Or.inl ⟨by rfl, by intro wx hSw; (try dsimp only at hSw); obtain ⟨hb, k1⟩ := hSw; go_simp; try with_reducible rfl⟩) (by assumption) ?_
        (try simp only [Act.put, List.setIfInBounds_toArray, List.set_cons_zero, List.set_cons_succ])
        refine take_first 3 (v := ?_) rfl (by kernel_rfl) (by kernel_rfl) (by kernel_rfl) (fun _ _ _ h => h) (Or.inl ⟨by rfl, by intro wx hSw; (try dsimp only at hSw); obtain ⟨hb, k1⟩ := hSw; go_simp; try with_reducible rfl⟩) (by assumption) ?_
        (try simp only [Act.put, List.setIfInBounds_toArray, List.set_cons_zero, List.set_cons_succ])
        refine take_first 4 (v := ?_) rfl (by kernel_rfl) (by kernel_rfl) (by kernel_rfl) (fun _ _ _ h => h) (Or.inl ⟨by rfl, by intro wx hSw; (try dsimp only at hSw); obtain ⟨hb, k1⟩ := hSw; go_simp; try with_reducible rfl⟩) (by assumption) ?_
        (try simp only [Act.put, List.setIfInBounds_toArray, List.set_cons_zero, List.set_cons_succ])
        refine take_first 5 (v := ?_) rfl (by kernel_rfl) (by kernel_rfl) (by kernel_rfl) (fun _ _ _ h => h) (Or.inl ⟨by rfl, by intro wx hSw; (try dsimp only at hSw); obtain ⟨hb, k1⟩ := hSw; go_simp; try with_reducible rfl⟩) (by assumption) ?_
        (try simp only [Act.put, List.setIfInBounds_toArray, List.set_cons_zero, List.set_cons_succ])
        refine comes_up 1 rfl (by kernel_rfl) (fun K hK => ?_)
        go_simp
        refine (hlst _ hS.1).mono ?_
        rintro x w1 ⟨rfl, rfl⟩
        go_wp2_with fail
        refine hK.out _ _ hS (fun hHeld => ?_)
        clear hK K
        (try simp only [Act.put, List.setIfInBounds_toArray, List.set_cons_zero, List.set_cons_succ])
        refine take_first 6 (v := ?_) rfl (by kernel_rfl) (by kernel_rfl) (by kernel_rfl) (fun _ _ _ h => h) (Or.inl ⟨by rfl, by intro wx hSw; (try dsimp only at hSw); obtain ⟨hb, k1⟩ := hSw; go_simp; try with_reducible rfl⟩) (by assumption) ?_
        (try simp only [Act.put, List.setIfInBounds_toArray, List.set_cons_zero, List.set_cons_succ])
        refine take_first 7 (v := ?_) rfl (by kernel_rfl) (by kernel_rfl) (by kernel_rfl) (fun _ _ _ h => h) (Or.inl ⟨by rfl, by intro wx hSw; (try dsimp only at hSw); obtain ⟨hb, k1⟩ := hSw; go_simp; try with_reducible rfl⟩) (by assumption) ?_
        (try simp only [Act.put, List.setIfInBounds_toArray, List.set_cons_zero, List.set_cons_succ])
        refine take_first 8 (v := ?_) rfl (by kernel_rfl) (by kernel_rfl) (by kernel_rfl) (fun _ _ _ h => h) (Or.inl ⟨by rfl, by intro wx hSw; (try dsimp only at hSw); obtain ⟨hb, k1⟩ := hSw; go_simp; try with_reducible rfl⟩) (by assumption) ?_
        (try simp only [Act.put, List.setIfInBounds_toArray, List.set_cons_zero, List.set_cons_succ])
        refine take_first 9 (v := ?_) rfl (by kernel_rfl) (by kernel_rfl) (by kernel_rfl) (fun _ _ _ h => h) (Or.inl ⟨by rfl, by intro wx hSw; (try dsimp only at hSw); obtain ⟨hb, k1⟩ := hSw; go_simp; try with_reducible rfl⟩) (by assumption) ?_
        (try simp only [Act.put, List.setIfInBounds_toArray, List.set_cons_zero, List.set_cons_succ])
        refine comes_up 10 rfl (by kernel_rfl) (fun K hK => ?_)
        go_simp
        refine (hnd _ hS.1).mono ?_
        rintro x w1 ⟨rfl, b1⟩
        have hb1 : Mb w1 F Z q M o := hS.1.still b1
        have hS1 : Mb w1 F Z q M o ∧ w1.cell? ⟨q, 1, none⟩ = some (.int .i64 (M.self : Nat)) := ⟨hb1, (HK.out _ hb1).1⟩
        have HU : Hid (Below w.heap.size w w1) := bl_step ((Below.refl _ w).drew) b1
        clear b1 hb1 hS hnd hlst
        go_wp2_with fail
        refine hK.out _ _ hS1 (fun hHeld => ?_)
        clear hK K
        (try simp only [Act.put, List.setIfInBounds_toArray, List.set_cons_zero, List.set_cons_succ])
        refine take_first 11 (v := ?_) rfl (by kernel_rfl) (by kernel_rfl) (by kernel_rfl) (fun _ _ _ h => h) (Or.inl ⟨by rfl, by intro wx hSw; (try dsimp only at hSw); obtain ⟨hb, k1⟩ := hSw; go_simp; try with_reducible rfl⟩) (by assumption) ?_
        (try simp only [Act.put, List.setIfInBounds_toArray, List.set_cons_zero, List.set_cons_succ])
        refine take_first 12 (v := ?_) rfl (by kernel_rfl) (by kernel_rfl) (by kernel_rfl) (fun _ _ _ h => h) (Or.inl ⟨by rfl, by intro wx hSw; (try dsimp only at hSw); obtain ⟨hb, k1⟩ := hSw; go_simp; try with_reducible rfl⟩) (by assumption) ?_
        (try simp only [Act.put, List.setIfInBounds_toArray, List.set_cons_zero, List.set_cons_succ])
        refine take_first 13 (v := ?_) rfl (by kernel_rfl) (by kernel_rfl) (by kernel_rfl) (fun _ _ _ h => h) (Or.inl ⟨by rfl, by intro wx hSw; (try dsimp only at hSw); obtain ⟨hb, k1⟩ := hSw; go_simp; try with_reducible rfl⟩) (by assumption) ?_
        (try simp only [Act.put, List.setIfInBounds_toArray, List.set_cons_zero, List.set_cons_succ])
        refine take_first 14 (v := ?_) rfl (by kernel_rfl) (by kernel_rfl) (by kernel_rfl) (fun _ _ _ h => h) (Or.inl ⟨by rfl, by intro wx hSw; (try dsimp only at hSw); obtain ⟨hb, k1⟩ := hSw; go_simp; try with_reducible rfl⟩) (by assumption) ?_
        (try simp only [Act.put, List.setIfInBounds_toArray, List.set_cons_zero, List.set_cons_succ])
        refine take_first 15 (v := ?_) rfl (by kernel_rfl) (by kernel_rfl) (by kernel_rfl) (fun _ _ _ h => h) (Or.inl ⟨by rfl, by intro wx hSw; (try dsimp only at hSw); obtain ⟨hb, k1⟩ := hSw; go_simp; try with_reducible rfl⟩) (by assumption) ?_
        (try simp only [Act.put, List.setIfInBounds_toArray, List.set_cons_zero, List.set_cons_succ])
        refine comes_up 16 rfl (by kernel_rfl) (fun K hK => ?_)
        go_simp
        refine (hst _ hS1.1).mono ?_
        rintro x w2 ⟨rfl, b2⟩
        have hb2 : Mb w2 F Z q M o := hS1.1.still b2
        have hS2 : Mb w2 F Z q M o ∧ w2.cell? ⟨q, 1, none⟩ = some (.int .i64 (M.self : Nat)) := ⟨hb2, (HK.out _ hb2).1⟩
        have HU2 : Hid (Below w.heap.size w w2) := bl_step HU.out b2
        clear b2 hb2 hS1 hst HU
        go_wp2_with fail
        refine hK.out _ _ hS2 (fun hHeld => ?_)
        clear hK K
        (try simp only [Act.put, List.setIfInBounds_toArray, List.set_cons_zero, List.set_cons_succ])
        refine take_first 17 (v := ?_) rfl (by kernel_rfl) (by kernel_rfl) (by kernel_rfl) (fun _ _ _ h => h) (Or.inl ⟨by rfl, by intro wx hSw; (try dsimp only at hSw); obtain ⟨hb, k1⟩ := hSw; go_simp; try with_reducible rfl⟩) (by assumption) ?_
        (try simp only [Act.put, List.setIfInBounds_toArray, List.set_cons_zero, List.set_cons_succ])
        refine wpAnyH_done (by kernel_rfl) ?_ _
        refine NoPanic.normal ?_
        go_wp2
        go_ret
        exact ⟨rfl, HU2.out⟩
      | false =>
        rw [ht] at hst
        simp only [Bool.not_false, Bool.true_and]
        clear ht
        go_enter Tryd.func31, Tryd.ntmps31
        go_wp2_with fail
        refine wp_region_noPanic ?_
        refine wp_region_held_drew (S := fun wx => Mb wx F Z q M o ∧ wx.cell? ⟨q, 1, none⟩ = some (.int .i64 (M.self : Nat))) (by kernel_rfl) hS (fun hHeld => ?_)
        refine take_first 0 (v := ?_) rfl (by kernel_rfl) (by kernel_rfl) (by kernel_rfl) (fun _ _ _ h => h) (Or.inl ⟨by rfl, by intro wx hSw; (try dsimp only at hSw); obtain ⟨hb, k1⟩ := hSw; go_simp; try with_reducible rfl⟩) (by assumption) ?_
        (try simp only [Act.put, List.setIfInBounds_toArray, List.set_cons_zero, List.set_cons_succ])
        refine take_first 2 (v := ?_) rfl (by kernel_rfl) (by kernel_rfl) (by kernel_rfl) (fun _ _ _ h => h) (Or.inl ⟨by rfl, by intro wx hSw; (try dsimp only at hSw); obtain ⟨hb, k1⟩ := hSw; go_simp; try with_reducible rfl⟩) (by assumption) ?_
        (try simp only [Act.put, List.setIfInBounds_toArray, List.set_cons_zero, List.set_cons_succ])
        refine take_first 3 (v := ?_) rfl (by kernel_rfl) (by kernel_rfl) (by kernel_rfl) (fun _ _ _ h => h) (Or.inl ⟨by rfl, by intro wx hSw; (try dsimp only at hSw); obtain ⟨hb, k1⟩ := hSw; go_simp; try with_reducible rfl⟩) (by assumption) ?_
        (try simp only [Act.put, List.setIfInBounds_toArray, List.set_cons_zero, List.set_cons_succ])
        refine take_first 4 (v := ?_) rfl (by kernel_rfl) (by kernel_rfl) (by kernel_rfl) (fun _ _ _ h => h) (Or.inl ⟨by rfl, by intro wx hSw; (try dsimp only at hSw); obtain ⟨hb, k1⟩ := hSw; go_simp; try with_reducible rfl⟩) (by assumption) ?_
        (try simp only [Act.put, List.setIfInBounds_toArray, List.set_cons_zero, List.set_cons_succ])
        refine take_first 5 (v := ?_) rfl (by kernel_rfl) (by kernel_rfl) (by kernel_rfl) (fun _ _ _ h => h) (Or.inl ⟨by rfl, by intro wx hSw; (try dsimp only at hSw); obtain ⟨hb, k1⟩ := hSw; go_simp; try with_reducible rfl⟩) (by assumption) ?_
        (try simp only [Act.put, List.setIfInBounds_toArray, List.set_cons_zero, List.set_cons_succ])
        refine comes_up 1 rfl (by kernel_rfl) (fun K hK => ?_)
        go_simp
        refine (hlst _ hS.1).mono ?_
        rintro x w1 ⟨rfl, rfl⟩
        go_wp2_with fail
        refine hK.out _ _ hS (fun hHeld => ?_)
        clear hK K
        (try simp only [Act.put, List.setIfInBounds_toArray, List.set_cons_zero, List.set_cons_succ])
        refine take_first 6 (v := ?_) rfl (by kernel_rfl) (by kernel_rfl) (by kernel_rfl) (fun _ _ _ h => h) (Or.inl ⟨by rfl, by intro wx hSw; (try dsimp only at hSw); obtain ⟨hb, k1⟩ := hSw; go_simp; try with_reducible rfl⟩) (by assumption) ?_
        (try simp only [Act.put, List.setIfInBounds_toArray, List.set_cons_zero, List.set_cons_succ])
        refine take_first 7 (v := ?_) rfl (by kernel_rfl) (by kernel_rfl) (by kernel_rfl) (fun _ _ _ h => h) (Or.inl ⟨by rfl, by intro wx hSw; (try dsimp only at hSw); obtain ⟨hb, k1⟩ := hSw; go_simp; try with_reducible rfl⟩) (by assumption) ?_
        (try simp only [Act.put, List.setIfInBounds_toArray, List.set_cons_zero, List.set_cons_succ])
        refine take_first 8 (v := ?_) rfl (by kernel_rfl) (by kernel_rfl) (by kernel_rfl) (fun _ _ _ h => h) (Or.inl ⟨by rfl, by intro wx hSw; (try dsimp only at hSw); obtain ⟨hb, k1⟩ := hSw; go_simp; try with_reducible rfl⟩) (by assumption) ?_
        (try simp only [Act.put, List.setIfInBounds_toArray, List.set_cons_zero, List.set_cons_succ])
        refine take_first 9 (v := ?_) rfl (by kernel_rfl) (by kernel_rfl) (by kernel_rfl) (fun _ _ _ h => h) (Or.inl ⟨by rfl, by intro wx hSw; (try dsimp only at hSw); obtain ⟨hb, k1⟩ := hSw; go_simp; try with_reducible rfl⟩) (by assumption) ?_
        (try simp only [Act.put, List.setIfInBounds_toArray, List.set_cons_zero, List.set_cons_succ])
        refine comes_up 10 rfl (by kernel_rfl) (fun K hK => ?_)
        go_simp
        refine (hnd _ hS.1).mono ?_
        rintro x w1 ⟨rfl, b1⟩
        have hb1 : Mb w1 F Z q M o := hS.1.still b1
        have hS1 : Mb w1 F Z q M o ∧ w1.cell? ⟨q, 1, none⟩ = some (.int .i64 (M.self : Nat)) := ⟨hb1, (HK.out _ hb1).1⟩
        have HU : Hid (Below w.heap.size w w1) := bl_step ((Below.refl _ w).drew) b1
        clear b1 hb1 hS hnd hlst
        go_wp2_with fail
        refine hK.out _ _ hS1 (fun hHeld => ?_)
        clear hK K
        (try simp only [Act.put, List.setIfInBounds_toArray, List.set_cons_zero, List.set_cons_succ])
        refine take_first 11 (v := ?_) rfl (by kernel_rfl) (by kernel_rfl) (by kernel_rfl) (fun _ _ _ h => h) (Or.inl ⟨by rfl, by intro wx hSw; (try dsimp only at hSw); obtain ⟨hb, k1⟩ := hSw; go_simp; try with_reducible rfl⟩) (by assumption) ?_
        (try simp only [Act.put, List.setIfInBounds_toArray, List.set_cons_zero, List.set_cons_succ])
        refine take_first 12 (v := ?_) rfl (by kernel_rfl) (by kernel_rfl) (by kernel_rfl) (fun _ _ _ h => h) (Or.inl ⟨by rfl, by intro wx hSw; (try dsimp only at hSw); obtain ⟨hb, k1⟩ := hSw; go_simp; try with_reducible rfl⟩) (by assumption) ?_
        (try simp only [Act.put, List.setIfInBounds_toArray, List.set_cons_zero, List.set_cons_succ])
        refine take_first 13 (v := ?_) rfl (by kernel_rfl) (by kernel_rfl) (by kernel_rfl) (fun _ _ _ h => h) (Or.inl ⟨by rfl, by intro wx hSw; (try dsimp only at hSw); obtain ⟨hb, k1⟩ := hSw; go_simp; try with_reducible rfl⟩) (by assumption) ?_
        (try simp only [Act.put, List.setIfInBounds_toArray, List.set_cons_zero, List.set_cons_succ])
        refine take_first 14 (v := ?_) rfl (by kernel_rfl) (by kernel_rfl) (by kernel_rfl) (fun _ _ _ h => h) (Or.inl ⟨by rfl, by intro wx hSw; (try dsimp only at hSw); obtain ⟨hb, k1⟩ := hSw; go_simp; try with_reducible rfl⟩) (by assumption) ?_
        (try simp only [Act.put, List.setIfInBounds_toArray, List.set_cons_zero, List.set_cons_succ])
        refine take_first 15 (v := ?_) rfl (by kernel_rfl) (by kernel_rfl) (by kernel_rfl) (fun _ _ _ h => h) (Or.inl ⟨by rfl, by intro wx hSw; (try dsimp only at hSw); obtain ⟨hb, k1⟩ := hSw; go_simp; try with_reducible rfl⟩) (by assumption) ?_
        (try simp only [Act.put, List.setIfInBounds_toArray, List.set_cons_zero, List.set_cons_succ])
        refine comes_up 16 rfl (by kernel_rfl) (fun K hK => ?_)
        go_simp
        refine (hst _ hS1.1).mono ?_
        rintro x w2 ⟨rfl, b2⟩
        have hb2 : Mb w2 F Z q M o := hS1.1.still b2
        have hS2 : Mb w2 F Z q M o ∧ w2.cell? ⟨q, 1, none⟩ = some (.int .i64 (M.self : Nat)) := ⟨hb2, (HK.out _ hb2).1⟩
        have c7 := (HK.out _ hb2).2
        have HU2 : Hid (Below w.heap.size w w2) := bl_step HU.out b2
        clear b2 hb2 hS1 hst HU
        go_wp2_with fail
        refine hK.out _ _ hS2 (fun hHeld => ?_)
        clear hK K
        (try simp only [Act.put, List.setIfInBounds_toArray, List.set_cons_zero, List.set_cons_succ])
        refine take_first 17 (v := ?_) rfl (by kernel_rfl) (by kernel_rfl) (by kernel_rfl) (fun _ _ _ h => h) (Or.inl ⟨by rfl, by intro wx hSw; (try dsimp only at hSw); obtain ⟨hb, k1⟩ := hSw; go_simp; try with_reducible rfl⟩) (by assumption) ?_
        (try simp only [Act.put, List.setIfInBounds_toArray, List.set_cons_zero, List.set_cons_succ])
        refine wpAnyH_done (by kernel_rfl) ?_ _
        refine NoPanic.normal ?_
        clear hS2
        go_wp2
        go_ret
        exact ⟨ret_bool (by apply Bool.eq_iff_iff.2; simp; omega), HU2.out⟩
  · rw [show decide (leastN e = (M.self : Int)) = false by simpa using hl, Bool.false_and, Bool.false_and, Bool.false_and]
    have hlb : (leastN e == (M.self : Int)) = false := by simpa using hl
    generalize leastN e = le at *
    clear hl hnd hst
    go_enter Tryd.func31, Tryd.ntmps31
    go_wp2_with fail
    refine wp_region_noPanic ?_
    refine wp_region_held_drew (S := fun wx => Mb wx F Z q M o ∧ wx.cell? ⟨q, 1, none⟩ = some (.int .i64 (M.self : Nat))) (by kernel_rfl) hS (fun hHeld => ?_)
    refine take_first 0 (v := ?_) rfl (by kernel_rfl) (by kernel_rfl) (by kernel_rfl) (fun _ _ _ h => h) (Or.inl ⟨by rfl, by intro wx hSw; (try dsimp only at hSw); obtain ⟨hb, k1⟩ := hSw; go_simp; try with_reducible rfl⟩) (by assumption) ?_
    (try simp only [Act.put, List.setIfInBounds_toArray, List.set_cons_zero, List.set_cons_succ])
    refine take_first 2 (v := ?_) rfl (by kernel_rfl) (by kernel_rfl) (by kernel_rfl) (fun _ _ _ h => h) (Or.inl ⟨by rfl, by intro wx hSw; (try dsimp only at hSw); obtain ⟨hb, k1⟩ := hSw; go_simp; try with_reducible rfl⟩) (by assumption) ?_
    (try simp only [Act.put, List.setIfInBounds_toArray, List.set_cons_zero, List.set_cons_succ])
    refine take_first 3 (v := ?_) rfl (by kernel_rfl) (by kernel_rfl) (by kernel_rfl) (fun _ _ _ h => h) (Or.inl ⟨by rfl, by intro wx hSw; (try dsimp only at hSw); obtain ⟨hb, k1⟩ := hSw; go_simp; try with_reducible rfl⟩) (by assumption) ?_
    (try simp only [Act.put, List.setIfInBounds_toArray, List.set_cons_zero, List.set_cons_succ])
    refine take_first 4 (v := ?_) rfl (by kernel_rfl) (by kernel_rfl) (by kernel_rfl) (fun _ _ _ h => h) (Or.inl ⟨by rfl, by intro wx hSw; (try dsimp only at hSw); obtain ⟨hb, k1⟩ := hSw; go_simp; try with_reducible rfl⟩) (by assumption) ?_
    (try simp only [Act.put, List.setIfInBounds_toArray, List.set_cons_zero, List.set_cons_succ])
    refine take_first 5 (v := ?_) rfl (by kernel_rfl) (by kernel_rfl) (by kernel_rfl) (fun _ _ _ h => h) (Or.inl ⟨by rfl, by intro wx hSw; (try dsimp only at hSw); obtain ⟨hb, k1⟩ := hSw; go_simp; try with_reducible rfl⟩) (by assumption) ?_
    (try simp only [Act.put, List.setIfInBounds_toArray, List.set_cons_zero, List.set_cons_succ])
    refine comes_up 1 rfl (by kernel_rfl) (fun K hK => ?_)
    go_simp
    refine (hlst _ hS.1).mono ?_
    rintro x w1 ⟨rfl, rfl⟩
    clear hlst
    go_wp2_with fail
    refine hK.out _ _ hS (fun hHeld => ?_)
    clear hK K
    (try simp only [Act.put, List.setIfInBounds_toArray, List.set_cons_zero, List.set_cons_succ])
    refine take_first 6 (v := .bool true) rfl (by kernel_rfl) (by kernel_rfl) (by kernel_rfl) (fun _ _ _ h => h) (Or.inl ⟨by rfl, by intro wx hSw; go_simp; simpa using hlb⟩) (by assumption) ?_
    (try simp only [Act.put, List.setIfInBounds_toArray, List.set_cons_zero, List.set_cons_succ])
    refine take_first 7 (v := ?_) rfl (by kernel_rfl) (by kernel_rfl) (by kernel_rfl) (fun _ _ _ h => h) (Or.inl ⟨by rfl, by intro wx hSw; (try dsimp only at hSw); obtain ⟨hb, k1⟩ := hSw; go_simp; try with_reducible rfl⟩) (by assumption) ?_
    (try simp only [Act.put, List.setIfInBounds_toArray, List.set_cons_zero, List.set_cons_succ])
    refine take_first 8 (v := undef) rfl (by kernel_rfl) (by kernel_rfl) (by kernel_rfl) (fun _ _ _ h => h) (Or.inr ⟨by rfl, rfl⟩) (by assumption) ?_
    (try simp only [Act.put, List.setIfInBounds_toArray, List.set_cons_zero, List.set_cons_succ])
    refine take_first 9 (v := undef) rfl (by kernel_rfl) (by kernel_rfl) (by kernel_rfl) (fun _ _ _ h => h) (Or.inr ⟨by rfl, rfl⟩) (by assumption) ?_
    (try simp only [Act.put, List.setIfInBounds_toArray, List.set_cons_zero, List.set_cons_succ])
    refine take_first 10 (v := undef) rfl (by kernel_rfl) (by kernel_rfl) (by kernel_rfl) (fun _ _ _ h => h) (Or.inr ⟨by rfl, rfl⟩) (by assumption) ?_
    (try simp only [Act.put, List.setIfInBounds_toArray, List.set_cons_zero, List.set_cons_succ])
    refine take_first 11 (v := undef) rfl (by kernel_rfl) (by kernel_rfl) (by kernel_rfl) (fun _ _ _ h => h) (Or.inr ⟨by rfl, rfl⟩) (by assumption) ?_
    (try simp only [Act.put, List.setIfInBounds_toArray, List.set_cons_zero, List.set_cons_succ])
    refine take_first 12 (v := ?_) rfl (by kernel_rfl) (by kernel_rfl) (by kernel_rfl) (fun _ _ _ h => h) (Or.inl ⟨by rfl, by intro wx hSw; (try dsimp only at hSw); obtain ⟨hb, k1⟩ := hSw; go_simp; try with_reducible rfl⟩) (by assumption) ?_
    (try simp only [Act.put, List.setIfInBounds_toArray, List.set_cons_zero, List.set_cons_succ])
    refine take_first 13 (v := ?_) rfl (by kernel_rfl) (by kernel_rfl) (by kernel_rfl) (fun _ _ _ h => h) (Or.inl ⟨by rfl, by intro wx hSw; (try dsimp only at hSw); obtain ⟨hb, k1⟩ := hSw; go_simp; try with_reducible rfl⟩) (by assumption) ?_
    (try simp only [Act.put, List.setIfInBounds_toArray, List.set_cons_zero, List.set_cons_succ])
    refine take_first 14 (v := undef) rfl (by kernel_rfl) (by kernel_rfl) (by kernel_rfl) (fun _ _ _ h => h) (Or.inr ⟨by rfl, rfl⟩) (by assumption) ?_
    (try simp only [Act.put, List.setIfInBounds_toArray, List.set_cons_zero, List.set_cons_succ])
    refine take_first 15 (v := undef) rfl (by kernel_rfl) (by kernel_rfl) (by kernel_rfl) (fun _ _ _ h => h) (Or.inr ⟨by rfl, rfl⟩) (by assumption) ?_
    (try simp only [Act.put, List.setIfInBounds_toArray, List.set_cons_zero, List.set_cons_succ])
    refine take_first 16 (v := undef) rfl (by kernel_rfl) (by kernel_rfl) (by kernel_rfl) (fun _ _ _ h => h) (Or.inr ⟨by rfl, rfl⟩) (by assumption) ?_
    (try simp only [Act.put, List.setIfInBounds_toArray, List.set_cons_zero, List.set_cons_succ])
    refine take_first 17 (v := ?_) rfl (by kernel_rfl) (by kernel_rfl) (by kernel_rfl) (fun _ _ _ h => h) (Or.inl ⟨by rfl, by intro wx hSw; (try dsimp only at hSw); obtain ⟨hb, k1⟩ := hSw; go_simp; try with_reducible rfl⟩) (by assumption) ?_
    (try simp only [Act.put, List.setIfInBounds_toArray, List.set_cons_zero, List.set_cons_succ])
    refine wpAnyH_done (by kernel_rfl) ?_ _
    refine NoPanic.normal ?_
    go_wp2
    go_ret
    exact ⟨rfl, (Below.refl _ w).drew⟩
end
end Go.Proofs.YtlonbbepoamnmaaDoor
namespace Go.Proofs.YtlonbbepoamnmaaDoor
open Go.RowKit
set_option linter.unusedVariables false

section
variable {P : Program} {ops : Array Oper} {Q : Exit → Act → World → Prop} {md : Region.Mode} {S : World → Prop} {last : Nat}

def wpAnyE (P : Program) (md : Region.Mode) (ops : Array Oper) (Q : Exit → Act → World → Prop) (S : World → Prop) (last : Nat) : Nat → Array Bool → Act → World → Prop
  | 0, listed, a, w => Region.ready md ops listed = [] ∧ Q .normal a w
  | fuel + 1, listed, a, w =>
    (Region.ready md ops listed = [] → Q .normal a w) ∧
    ∀ i ∈ Region.ready md ops listed, wpOp P ops Q i (fun a' w' => ((listed.setIfInBounds i true).getD last true = false → S w') ∧ wpAnyE P md ops Q S last fuel (listed.setIfInBounds i true) a' w') a w

theorem wpAny_of_E : ∀ (fuel : Nat) (listed : Array Bool) (a : Act) (w : World), wpAnyE P md ops Q S last fuel listed a w → wpAny P md ops Q fuel listed a w
  | 0, _, _, _, h => h
  | fuel + 1, _, _, _, h => ⟨h.1, fun i hi => wpOp_mono (fun a' w' h' => wpAny_of_E fuel _ a' w' h'.2) (h.2 i hi)⟩

/-- The last one waits for number i. -/
def waits (md : Region.Mode) (ops : Array Oper) (last i : Nat) : Bool := match ops[last]? with
  | none => false
  | some o => o.after.any (fun e => Region.binds md e && e.on == i)
theorem waits_spec {i : Nat} (h : waits md ops last i = true) : ∃ o, ops[last]? = some o ∧ ∃ e ∈ o.after, Region.binds md e = true ∧ e.on = i := by
  unfold waits at h
  cases ho : ops[last]? with
  | none => rw [ho] at h; cases h
  | some o =>
    rw [ho] at h
    simp only [Array.any_eq_true] at h
    obtain ⟨k, hk, h1⟩ := h
    rw [Bool.and_eq_true, beq_iff_eq] at h1
    exact ⟨o, rfl, o.after[k], Array.getElem_mem hk, h1.1, h1.2⟩

theorem wpAnyE_first {i : Nat} {oi : Oper} {v : Value} (hi : ops[i]? = some oi) (hsel : ∀ (j : Nat) (o : Oper) cs b, ops[j]? = some o → o.op ≠ .select cs b)
    (hQ : ∀ c a w, Q (.panic c) (a.put oi.dst v) w → Q (.panic c) a w) (hw : waits md ops last i = true) :
    ∀ (fuel : Nat) (listed : Array Bool) (a : Act) (w : World),
      (∀ j oj, ops[j]? = some oj → j ≠ i → listed.getD j true = false → (∀ e ∈ oj.after, Region.binds md e = true → e.on ≠ i) → oi.apart ops oj = true) →
      i ∈ Region.ready md ops listed → YieldsIf P ops S oi v a → listed.getD last true = false → S w →
      wpAnyE P md ops Q S last fuel (listed.setIfInBounds i true) (a.put oi.dst v) w → wpAnyE P md ops Q S last (fuel + 1) listed a w := by
  intro fuel
  induction fuel with
  | zero =>
    intro listed a w _ hr hy hlu hS H
    refine ⟨fun h => (by rw [h] at hr; cases hr), fun j hj => ?_⟩
    by_cases hji : j = i
    · subst hji; exact hy.wpOp hi hS ⟨fun _ => hS, H⟩
    · have := ready_mono hj hji
      rw [H.1] at this
      cases this
  | succ fuel ih =>
    intro listed a w hfree hr hy hlu hS H
    refine ⟨fun h => (by rw [h] at hr; cases hr), fun j hj => ?_⟩
    by_cases hji : j = i
    · subst hji; exact hy.wpOp hi hS ⟨fun _ => hS, H⟩
    · have h1 := H.2 j (ready_mono hj hji)
      obtain ⟨hjun, oj, hoj, hall⟩ := mem_ready.1 hj
      have hnot : ∀ e ∈ oj.after, Region.binds md e = true → e.on ≠ i := fun e he hb heq => by
        have h1 := hall e he hb
        have h0 := (mem_ready.1 hr).1
        rw [heq] at h1
        rcases Nat.lt_or_ge i listed.size with h' | h'
        · simp [h'] at h0 h1; rw [h0] at h1; cases h1
        · simp [Array.getElem?_eq_none h'] at h1
      have hjl : j ≠ last := fun e => by
        obtain ⟨o, ho, e', he', hb, hon⟩ := waits_spec hw
        subst e
        rw [hoj] at ho
        cases ho
        exact hnot e' he' hb hon
      have h2 := wpOp_putIf hoj (hfree j oj hoj hji hjun hnot) (fun cs b => hsel i oi cs b hi) (fun cs b => hsel j oj cs b hoj) hQ hy h1
      have hfree' : ∀ k ok, ops[k]? = some ok → k ≠ i → (listed.setIfInBounds j true).getD k true = false →
          (∀ e ∈ ok.after, Region.binds md e = true → e.on ≠ i) → oi.apart ops ok = true := fun k ok hk hki hun hno => by
        refine hfree k ok hk hki ?_ hno
        by_cases hjk : j = k
        · subst hjk; exact hjun
        · rw [getD_set_ne true hjk] at hun; exact hun
      have hil : i ≠ last := fun e => by
        obtain ⟨o, ho, e', he', hb, hon⟩ := waits_spec hw
        rw [← e, hi] at ho
        cases ho
        have h0 := (mem_ready.1 hr)
        obtain ⟨h01, o', ho', hall'⟩ := h0
        rw [hi] at ho'
        cases ho'
        have h1 := hall' e' he' hb
        rw [hon] at h1
        rcases Nat.lt_or_ge i listed.size with h' | h'
        · simp [h'] at h01 h1; rw [h01] at h1; cases h1
        · simp [Array.getElem?_eq_none h'] at h1
      have e1 : (listed.setIfInBounds j true).getD last true = false := by rw [getD_set_ne true hjl]; exact hlu
      have e2 : ((listed.setIfInBounds i true).setIfInBounds j true).getD last true = false := by rw [getD_set_ne true hjl, getD_set_ne true hil]; exact hlu
      refine wpOp_mono (fun a' w' h3 => ⟨fun _ => h3.2.1 e2, ih (listed.setIfInBounds j true) a' w' hfree' (ready_mono hr (Ne.symm hji)) h3.1 e1 (h3.2.1 e2) ?_⟩) h2
      rw [Array.setIfInBounds_comm _ _ hji]
      exact h3.2.2

/-- What yields in whatever world is taken first, also where the last one does not wait for it. -/
theorem wpAnyE_pure {i : Nat} {oi : Oper} {v : Value} (hi : ops[i]? = some oi) (hsel : ∀ (j : Nat) (o : Oper) cs b, ops[j]? = some o → o.op ≠ .select cs b)
    (hQ : ∀ c a w, Q (.panic c) (a.put oi.dst v) w → Q (.panic c) a w) (hil : i ≠ last) :
    ∀ (fuel : Nat) (listed : Array Bool) (a : Act) (w : World),
      (∀ j oj, ops[j]? = some oj → j ≠ i → listed.getD j true = false → (∀ e ∈ oj.after, Region.binds md e = true → e.on ≠ i) → oi.apart ops oj = true) →
      i ∈ Region.ready md ops listed → YieldsIf P ops (fun _ => True) oi v a → (listed.getD last true = false → S w) →
      wpAnyE P md ops Q S last fuel (listed.setIfInBounds i true) (a.put oi.dst v) w → wpAnyE P md ops Q S last (fuel + 1) listed a w := by
  intro fuel
  induction fuel with
  | zero =>
    intro listed a w _ hr hy hS H
    refine ⟨fun h => (by rw [h] at hr; cases hr), fun j hj => ?_⟩
    by_cases hji : j = i
    · subst hji; exact hy.wpOp hi trivial ⟨fun h => hS (by rwa [getD_set_ne true hil] at h), H⟩
    · have := ready_mono hj hji
      rw [H.1] at this
      cases this
  | succ fuel ih =>
    intro listed a w hfree hr hy hS H
    refine ⟨fun h => (by rw [h] at hr; cases hr), fun j hj => ?_⟩
    by_cases hji : j = i
    · subst hji; exact hy.wpOp hi trivial ⟨fun h => hS (by rwa [getD_set_ne true hil] at h), H⟩
    · have h1 := H.2 j (ready_mono hj hji)
      obtain ⟨hjun, oj, hoj, hall⟩ := mem_ready.1 hj
      have hnot : ∀ e ∈ oj.after, Region.binds md e = true → e.on ≠ i := fun e he hb heq => by
        have h1 := hall e he hb
        have h0 := (mem_ready.1 hr).1
        rw [heq] at h1
        rcases Nat.lt_or_ge i listed.size with h' | h'
        · simp [h'] at h0 h1; rw [h0] at h1; cases h1
        · simp [Array.getElem?_eq_none h'] at h1
      have h2 := wpOp_putIf hoj (hfree j oj hoj hji hjun hnot) (fun cs b => hsel i oi cs b hi) (fun cs b => hsel j oj cs b hoj) hQ hy h1
      have hfree' : ∀ k ok, ops[k]? = some ok → k ≠ i → (listed.setIfInBounds j true).getD k true = false →
          (∀ e ∈ ok.after, Region.binds md e = true → e.on ≠ i) → oi.apart ops ok = true := fun k ok hk hki hun hno => by
        refine hfree k ok hk hki ?_ hno
        by_cases hjk : j = k
        · subst hjk; exact hjun
        · rw [getD_set_ne true hjk] at hun; exact hun
      have e2 : ((listed.setIfInBounds i true).setIfInBounds j true).getD last true = (listed.setIfInBounds j true).getD last true := by
        rw [Array.setIfInBounds_comm _ _ (Ne.symm hji), getD_set_ne true hil]
      refine wpOp_mono (fun a' w' h3 => ⟨fun h => h3.2.1 (e2.trans h), ih (listed.setIfInBounds j true) a' w' hfree' (ready_mono hr (Ne.symm hji)) h3.1 (fun h => h3.2.1 (e2.trans h)) ?_⟩) h2
      rw [Array.setIfInBounds_comm _ _ hji]
      exact h3.2.2
end

theorem beginE {P : Program} {l : List Oper} {Q : Exit → Act → World → Prop} {id : Nat} {a : Act} {w : World} (S : World → Prop) (last : Nat) (hm : P.follows .mixedOrders = true) (hS : S w.drew)
    (h : S w.drew → wpAnyE P .any l.toArray Q S last l.length (Array.replicate l.length false) a w.drew) : (Code.region id l.toArray true).wp P Q a w := by
  refine wp_region_any hm (wpAny_of_E (S := S) (last := last) _ _ _ _ ?_)
  have := h hS
  simpa using this
theorem takeE {P : Program} {md : Region.Mode} {l : List Oper} {Q : Exit → Act → World → Prop} {S : World → Prop} {last : Nat} (i : Nat) {oi : Oper} {v : Value} {fuel : Nat} {listed : Array Bool} {a : Act} {w : World} (hi : l[i]? = some oi)
    (hs : Region.noSelect l.toArray = true) (hf : Region.free md l.toArray listed i = true) (hr : (Region.ready md l.toArray listed).contains i = true) (hw : waits md l.toArray last i = true) (hlu : listed.getD last true = false)
    (hQ : ∀ c a w, Q (.panic c) (a.put oi.dst v) w → Q (.panic c) a w) (hy : YieldsIf P l.toArray S oi v a) (hS : S w)
    (h : wpAnyE P md l.toArray Q S last fuel (listed.setIfInBounds i true) (a.put oi.dst v) w) : wpAnyE P md l.toArray Q S last (fuel + 1) listed a w := by
  have hi' : l.toArray[i]? = some oi := by simpa using hi
  exact wpAnyE_first hi' (Region.noSelect_spec hs) hQ hw fuel listed a w (Region.free_spec hi' hf) (by simpa using hr) hy hlu hS h
theorem pureE {P : Program} {md : Region.Mode} {l : List Oper} {Q : Exit → Act → World → Prop} {S : World → Prop} {last : Nat} (i : Nat) {oi : Oper} {v : Value} {fuel : Nat} {listed : Array Bool} {a : Act} {w : World} (hi : l[i]? = some oi)
    (hs : Region.noSelect l.toArray = true) (hf : Region.free md l.toArray listed i = true) (hr : (Region.ready md l.toArray listed).contains i = true) (hil : (i != last) = true)
    (hQ : ∀ c a w, Q (.panic c) (a.put oi.dst v) w → Q (.panic c) a w) (hy : YieldsIf P l.toArray (fun _ => True) oi v a) (hS : S w)
    (h : wpAnyE P md l.toArray Q S last fuel (listed.setIfInBounds i true) (a.put oi.dst v) w) : wpAnyE P md l.toArray Q S last (fuel + 1) listed a w := by
  have hi' : l.toArray[i]? = some oi := by simpa using hi
  exact wpAnyE_pure hi' (Region.noSelect_spec hs) hQ (by simpa using hil) fuel listed a w (Region.free_spec hi' hf) (by simpa using hr) hy (fun _ => hS) h
theorem upE {P : Program} {md : Region.Mode} {l : List Oper} {Q : Exit → Act → World → Prop} {S : World → Prop} {last : Nat} (i : Nat) {o : Oper} {fuel : Nat} {listed : Array Bool} {a : Act} {w : World} (hi : l[i]? = some o) (hr : Region.ready md l.toArray listed = [i])
    (h : ∀ K' : Act → World → Prop, Shut (∀ a w, S w → (S w → wpAnyE P md l.toArray Q S last fuel (listed.setIfInBounds i true) a w) → K' a w) → if Region.wanted o (yielded l.toArray a.tmps) = true then Oper.wp P o a w K' Q else K' (a.put o.dst undef) w) :
    wpAnyE P md l.toArray Q S last (fuel + 1) listed a w := by
  refine ⟨fun h0 => absurd (hr ▸ h0) (by simp), fun j hj => ?_⟩
  rw [hr, List.mem_singleton] at hj
  subst hj
  have hi' : l.toArray[j]? = some o := by simpa using hi
  exact wpOp_step hi' (fun K' hK => h K' (fun a w hS hW => hK a w ⟨fun _ => hS, hW hS⟩))
theorem lastE {P : Program} {md : Region.Mode} {l : List Oper} {Q : Exit → Act → World → Prop} {S : World → Prop} {last : Nat} (i : Nat) {o : Oper} {fuel : Nat} {listed : Array Bool} {a : Act} {w : World} (hi : l[i]? = some o) (hr : Region.ready md l.toArray listed = [i]) (hil : (i == last) = true)
    (h : ∀ K' : Act → World → Prop, Shut (∀ a w, wpAnyE P md l.toArray Q S last fuel (listed.setIfInBounds i true) a w → K' a w) → if Region.wanted o (yielded l.toArray a.tmps) = true then Oper.wp P o a w K' Q else K' (a.put o.dst undef) w) :
    wpAnyE P md l.toArray Q S last (fuel + 1) listed a w := by
  refine ⟨fun h0 => absurd (hr ▸ h0) (by simp), fun j hj => ?_⟩
  rw [hr, List.mem_singleton] at hj
  subst hj
  have hi' : l.toArray[j]? = some o := by simpa using hi
  have hl : j = last := by simpa using hil
  exact wpOp_step hi' (fun K' hK => h K' (fun a w hW => hK a w ⟨fun hn => absurd hn (by
    subst hl
    rw [Array.getD_eq_getD_getElem?, Array.getElem?_setIfInBounds]
    rw [if_pos rfl]
    by_cases hlt : j < listed.size
    · rw [if_pos hlt]; simp
    · rw [if_neg hlt]; simp), hW⟩))
theorem doneE {P : Program} {md : Region.Mode} {l : List Oper} {Q : Exit → Act → World → Prop} {S : World → Prop} {last : Nat} {listed : Array Bool} {a : Act} {w : World} (hr : Region.ready md l.toArray listed = []) (h : Q .normal a w) :
    ∀ fuel, wpAnyE P md l.toArray Q S last fuel listed a w
  | 0 => ⟨hr, h⟩
  | _ + 1 => ⟨fun _ => h, by rw [hr]; simp⟩
end Go.Proofs.YtlonbbepoamnmaaDoor

/- Where the last operation waits for the one that is taken first by way of others. -/
namespace Go.Proofs.YtlonbbepoamnmaaDoor
open Go.RowKit
set_option linter.unusedVariables false

section
variable {P : Program} {ops : Array Oper} {Q : Exit → Act → World → Prop} {md : Region.Mode} {S : World → Prop} {last : Nat}
/-- Whatever has come up, all that it waited for has. -/
def Closed (md : Region.Mode) (ops : Array Oper) (listed : Array Bool) : Prop := ∀ k o, listed.getD k false = true → ops[k]? = some o → ∀ e ∈ o.after, Region.binds md e = true → listed.getD e.on false = true
def closedB (md : Region.Mode) (ops : Array Oper) (listed : Array Bool) : Bool := (List.range ops.size).all (fun k => !listed.getD k false || (match ops[k]? with
  | none => true
  | some o => o.after.all (fun e => !Region.binds md e || listed.getD e.on false)))
theorem closed_of {listed : Array Bool} (h : closedB md ops listed = true) : Closed md ops listed := by
  intro k o hk ho e he hb
  unfold closedB at h
  rw [List.all_eq_true] at h
  have hks : k < ops.size := (Array.getElem?_eq_some_iff.1 ho).1
  have h1 := h k (List.mem_range.2 hks)
  rw [hk, ho] at h1
  simp only [Bool.not_true, Bool.false_or] at h1
  have h2 := Array.all_eq_true_iff_forall_mem.1 h1 e he
  rw [hb] at h2
  simpa using h2
theorem Closed.set {listed : Array Bool} (h : Closed md ops listed) {j : Nat} (hj : j ∈ Region.ready md ops listed) : Closed md ops (listed.setIfInBounds j true) := by
  intro k o hk ho e he hb
  obtain ⟨_, oj, hoj, hall⟩ := mem_ready.1 hj
  by_cases hkj : j = k
  · subst hkj
    rw [ho] at hoj
    cases hoj
    exact getD_set_true (hall e he hb)
  · rw [getD_set_ne false hkj] at hk
    exact getD_set_true (h k o hk ho e he hb)
def depB (md : Region.Mode) (ops : Array Oper) : Nat → Nat → Nat → Bool
  | 0, _, _ => false
  | f + 1, k, i => match ops[k]? with
    | none => false
    | some o => o.after.any (fun e => Region.binds md e && (e.on == i || depB md ops f e.on i))
theorem dep_edge {f k i : Nat} (h : depB md ops (f + 1) k i = true) : ∃ o, ops[k]? = some o ∧ ∃ e ∈ o.after, Region.binds md e = true ∧ (e.on = i ∨ depB md ops f e.on i = true) := by
  unfold depB at h
  cases ho : ops[k]? with
  | none => rw [ho] at h; cases h
  | some o =>
    rw [ho] at h
    simp only [Array.any_eq_true] at h
    obtain ⟨m, hm, h1⟩ := h
    rw [Bool.and_eq_true, Bool.or_eq_true, beq_iff_eq] at h1
    exact ⟨o, rfl, o.after[m], Array.getElem_mem hm, h1.1, h1.2⟩
theorem dep_listed {listed : Array Bool} (hc : Closed md ops listed) {i : Nat} : ∀ (f k : Nat), listed.getD k false = true → depB md ops f k i = true → listed.getD i false = true
  | 0, k, hk, hd => by cases hd
  | f + 1, k, hk, hd => by
    obtain ⟨o, ho, e, he, hb, h1⟩ := dep_edge hd
    have he' := hc k o hk ho e he hb
    rcases h1 with h1 | h1
    · rw [← h1]; exact he'
    · exact dep_listed hc f e.on he' h1
theorem wpAnyE_firstT {i : Nat} {oi : Oper} {v : Value} (hi : ops[i]? = some oi) (hsel : ∀ (j : Nat) (o : Oper) cs b, ops[j]? = some o → o.op ≠ .select cs b)
    (hQ : ∀ c a w, Q (.panic c) (a.put oi.dst v) w → Q (.panic c) a w) (fl : Nat) (hw : depB md ops (fl + 1) last i = true) (hil : i ≠ last) :
    ∀ (fuel : Nat) (listed : Array Bool) (a : Act) (w : World),
      (∀ j oj, ops[j]? = some oj → j ≠ i → listed.getD j true = false → (∀ e ∈ oj.after, Region.binds md e = true → e.on ≠ i) → oi.apart ops oj = true) →
      i ∈ Region.ready md ops listed → YieldsIf P ops S oi v a → listed.getD last true = false → Closed md ops listed → S w →
      wpAnyE P md ops Q S last fuel (listed.setIfInBounds i true) (a.put oi.dst v) w → wpAnyE P md ops Q S last (fuel + 1) listed a w := by
  intro fuel
  induction fuel with
  | zero =>
    intro listed a w _ hr hy hlu hc hS H
    refine ⟨fun h => (by rw [h] at hr; cases hr), fun j hj => ?_⟩
    by_cases hji : j = i
    · subst hji; exact hy.wpOp hi hS ⟨fun _ => hS, H⟩
    · have := ready_mono hj hji
      rw [H.1] at this
      cases this
  | succ fuel ih =>
    intro listed a w hfree hr hy hlu hc hS H
    refine ⟨fun h => (by rw [h] at hr; cases hr), fun j hj => ?_⟩
    by_cases hji : j = i
    · subst hji; exact hy.wpOp hi hS ⟨fun _ => hS, H⟩
    · have h1 := H.2 j (ready_mono hj hji)
      obtain ⟨hjun, oj, hoj, hall⟩ := mem_ready.1 hj
      have h0 := (mem_ready.1 hr).1
      have hni : listed.getD i false = true → False := fun h => by
        rcases Nat.lt_or_ge i listed.size with h' | h'
        · simp [h'] at h0 h; rw [h0] at h; cases h
        · simp [Array.getElem?_eq_none h'] at h
      have hnot : ∀ e ∈ oj.after, Region.binds md e = true → e.on ≠ i := fun e he hb heq => hni (by have := hall e he hb; rwa [heq] at this)
      have hjl : j ≠ last := fun e => by
        subst e
        obtain ⟨o, ho, e', he', hb, h1⟩ := dep_edge hw
        rw [hoj] at ho
        cases ho
        rcases h1 with h1 | h1
        · exact hnot e' he' hb h1
        · exact hni (dep_listed hc fl e'.on (hall e' he' hb) h1)
      have h2 := wpOp_putIf hoj (hfree j oj hoj hji hjun hnot) (fun cs b => hsel i oi cs b hi) (fun cs b => hsel j oj cs b hoj) hQ hy h1
      have hfree' : ∀ k ok, ops[k]? = some ok → k ≠ i → (listed.setIfInBounds j true).getD k true = false →
          (∀ e ∈ ok.after, Region.binds md e = true → e.on ≠ i) → oi.apart ops ok = true := fun k ok hk hki hun hno => by
        refine hfree k ok hk hki ?_ hno
        by_cases hjk : j = k
        · subst hjk; exact hjun
        · rw [getD_set_ne true hjk] at hun; exact hun
      have e1 : (listed.setIfInBounds j true).getD last true = false := by rw [getD_set_ne true hjl]; exact hlu
      have e2 : ((listed.setIfInBounds i true).setIfInBounds j true).getD last true = false := by rw [getD_set_ne true hjl, getD_set_ne true hil]; exact hlu
      refine wpOp_mono (fun a' w' h3 => ⟨fun _ => h3.2.1 e2, ih (listed.setIfInBounds j true) a' w' hfree' (ready_mono hr (Ne.symm hji)) h3.1 e1 (hc.set hj) (h3.2.1 e2) ?_⟩) h2
      rw [Array.setIfInBounds_comm _ _ hji]
      exact h3.2.2
end
theorem takeT {P : Program} {md : Region.Mode} {l : List Oper} {Q : Exit → Act → World → Prop} {S : World → Prop} {last : Nat} (i : Nat) {oi : Oper} {v : Value} {fuel : Nat} {listed : Array Bool} {a : Act} {w : World} (hi : l[i]? = some oi)
    (hs : Region.noSelect l.toArray = true) (hf : Region.free md l.toArray listed i = true) (hr : (Region.ready md l.toArray listed).contains i = true) (hw : depB md l.toArray 30 last i = true) (hil : (i != last) = true) (hlu : listed.getD last true = false) (hc : closedB md l.toArray listed = true)
    (hQ : ∀ c a w, Q (.panic c) (a.put oi.dst v) w → Q (.panic c) a w) (hy : YieldsIf P l.toArray S oi v a) (hS : S w)
    (h : wpAnyE P md l.toArray Q S last fuel (listed.setIfInBounds i true) (a.put oi.dst v) w) : wpAnyE P md l.toArray Q S last (fuel + 1) listed a w := by
  have hi' : l.toArray[i]? = some oi := by simpa using hi
  exact wpAnyE_firstT hi' (Region.noSelect_spec hs) hQ 29 hw (by simpa using hil) fuel listed a w (Region.free_spec hi' hf) (by simpa using hr) hy hlu (closed_of hc) hS h
/-- Behind the last one nothing is held any more. -/
theorem afterE {P : Program} {md : Region.Mode} {l : List Oper} {Q : Exit → Act → World → Prop} {S : World → Prop} {last : Nat} (i : Nat) {o : Oper} {fuel : Nat} {listed : Array Bool} {a : Act} {w : World} (hi : l[i]? = some o) (hr : Region.ready md l.toArray listed = [i]) (hl : (listed.setIfInBounds i true).getD last true = true)
    (h : ∀ K' : Act → World → Prop, Shut (∀ a w, wpAnyE P md l.toArray Q S last fuel (listed.setIfInBounds i true) a w → K' a w) → if Region.wanted o (yielded l.toArray a.tmps) = true then Oper.wp P o a w K' Q else K' (a.put o.dst undef) w) :
    wpAnyE P md l.toArray Q S last (fuel + 1) listed a w := by
  refine ⟨fun h0 => absurd (hr ▸ h0) (by simp), fun j hj => ?_⟩
  rw [hr, List.mem_singleton] at hj
  subst hj
  have hi' : l.toArray[j]? = some o := by simpa using hi
  exact wpOp_step hi' (fun K' hK => h K' (fun a w hW => hK a w ⟨fun hn => (by rw [hl] at hn; cases hn), hW⟩))
end Go.Proofs.YtlonbbepoamnmaaDoor
namespace Go.Proofs.YtlonbbepoamnmaaDoor
open Go.RowKit
set_option linter.unusedVariables false

theorem heap_cell {w : World} {b j : Nat} {cs : Array Value} {t : TypeId} {fr : Nat × Nat} {v : Value} (h : w.heap[b]? = some (.cells cs t fr)) (hj : cs[j]? = some v) : w.cell? ⟨b, j, none⟩ = some v := by
  unfold World.cell?; rw [h]; simpa using hj
theorem heap_free {w : World} {b : Nat} {cs : Array Value} {t : TypeId} (h : w.heap[b]? = some (.cells cs t (0, 0))) (j : Nat) : w.frozen? ⟨b, j, none⟩ = false := by
  simp [World.frozen?, h]
theorem heap_lt {w : World} {b : Nat} {o : Obj} (h : w.heap[b]? = some o) : b < w.heap.size := (Array.getElem?_eq_some_iff.1 h).1
def zeroSt : Array Value := #[.int .u64 0, .int .i64 0, .int .i64 0, .slice none 0 0]
theorem info45 : (Tryd.prog.info? 45).map (·.size) = some 4 := by kernel_rfl
/-- What holds between the rounds of copied. -/
structure Cp (w wr : World) (B g : Nat) (x : Sx) (cap k : Nat) (xs ys : List Ix) (ds : List Di) : Prop where
  ir : IR (fun b => b = g) wr (some ⟨g, 0, none⟩) x.2.2.2.2.1 ys
  tl : ∀ j, k ≤ j → ys[j]? = xs[j]?
  its : ∀ (j : Nat) (y : Ix) (d : Di), j < k → ys[j]? = some y → ds[j]? = some d → It (fun b => w.heap.size ≤ b ∧ b ≠ g ∧ b ≠ B ∧ b ≠ B + 1) wr y d
  bl : Below w.heap.size w wr
  gl : g < wr.heap.size
  fz : ∀ i, wr.frozen? ⟨g, i, none⟩ = false
  bx : wr.heap[B]? = some (.cells #[.int .u64 (x.1 : Nat), .int .i64 x.2.1, .int .i64 x.2.2.1, .slice (some ⟨g, 0, none⟩) x.2.2.2.2.1 cap] 45 (0, 0))
  rs : wr.heap[B + 1]? = some (.cells #[.int .u64 0, .int .i64 0, .int .i64 0, .slice none 0 0] 45 (0, 0))

set_option maxRecDepth 10000 in
set_option maxHeartbeats 2000000 in
theorem copied3_any (p : Nat → Prop) (w : World) (x : Sx) (d : Sd) (h : Si p w x d) :
    Calls Tryd.prog 73 #[sta x] w fun e w' => ∃ ao' cap', e = .returned (sta (x.1, x.2.1, x.2.2.1, ao', x.2.2.2.2.1, cap')) ∧ Si (fun b => w.heap.size ≤ b) w' (x.1, x.2.1, x.2.2.1, ao', x.2.2.2.2.1, cap') d ∧ Below w.heap.size w w' := by
  obtain ⟨e1, e2, e3, xs, hI, hd, hit⟩ := h
  obtain ⟨ds, hds⟩ : ∃ ds, d.2.2.2 = ds := ⟨_, rfl⟩
  have HSi : Hid (∀ (w' : World) ao' cap', Its (fun b => w.heap.size ≤ b) w' ao' x.2.2.2.2.1 ds → Si (fun b => w.heap.size ≤ b) w' (x.1, x.2.1, x.2.2.1, ao', x.2.2.2.2.1, cap') d) := fun w' ao' cap' hh => ⟨e1, e2, e3, by rw [hds]; exact hh⟩
  rw [hds] at hd hit
  clear e1 e2 e3 hds
  obtain ⟨B, hB⟩ : ∃ B, B = w.heap.size := ⟨_, rfl⟩
  obtain ⟨w2, hw2⟩ : ∃ w2, (w.alloc (.cells #[.int .u64 (x.1 : Nat), .int .i64 x.2.1, .int .i64 x.2.2.1, .slice x.2.2.2.1 x.2.2.2.2.1 x.2.2.2.2.2] 45)).alloc (.cells #[.int .u64 0, .int .i64 0, .int .i64 0, .slice none 0 0] 45) = w2 := ⟨_, rfl⟩
  have hb2 : Below w.heap.size w w2 := by rw [← hw2]; exact bl2 _ _ _
  have hs2 : w2.heap.size = B + 2 := by rw [← hw2, hB]; simp
  have bx2 : w2.heap[B]? = some (.cells #[.int .u64 (x.1 : Nat), .int .i64 x.2.1, .int .i64 x.2.2.1, .slice x.2.2.2.1 x.2.2.2.2.1 x.2.2.2.2.2] 45 (0, 0)) := by
    rw [← hw2, hB, Below.heap_alloc _ _ _ (by simp)]; exact heap_alloc_new _ _
  have rs2 : w2.heap[B + 1]? = some (.cells #[.int .u64 0, .int .i64 0, .int .i64 0, .slice none 0 0] 45 (0, 0)) := by
    have := heap_alloc_new (w.alloc (.cells #[.int .u64 (x.1 : Nat), .int .i64 x.2.1, .int .i64 x.2.2.1, .slice x.2.2.2.1 x.2.2.2.2.1 x.2.2.2.2.2] 45)) (.cells #[.int .u64 0, .int .i64 0, .int .i64 0, .slice none 0 0] 45)
    rw [← hw2, hB]
    simpa using this
  have hcl := cloneI2_any p w2 x.2.2.2.1 x.2.2.2.2.1 x.2.2.2.2.2 xs (hI.keep (Kp.up hb2))
  have hxl := hI.1
  have hm := hI.2.1
  have HIT : Hid (∀ (j : Nat) (y : Ix) (d : Di), xs[j]? = some y → ds[j]? = some d → It p w y d) := hit
  have c3 := heap_cell (j := 3) bx2 rfl
  have f3 := heap_free bx2 3
  have H2 : Hid (w2.heap[B]? = some (.cells #[.int .u64 (x.1 : Nat), .int .i64 x.2.1, .int .i64 x.2.2.1, .slice x.2.2.2.1 x.2.2.2.2.1 x.2.2.2.2.2] 45 (0, 0)) ∧ w2.heap[B + 1]? = some (.cells #[.int .u64 0, .int .i64 0, .int .i64 0, .slice none 0 0] 45 (0, 0)) ∧ w2.heap.size = B + 2 ∧ Below w.heap.size w w2 ∧ B = w.heap.size) := ⟨bx2, rs2, hs2, hb2, hB⟩
  clear hI hit bx2 rs2 hs2 hb2
  have HW : Hid ((w.alloc (.cells #[.int .u64 (x.1 : Nat), .int .i64 x.2.1, .int .i64 x.2.2.1, .slice x.2.2.2.1 x.2.2.2.2.1 x.2.2.2.2.2] 45)).alloc (.cells #[.int .u64 0, .int .i64 0, .int .i64 0, .slice none 0 0] 45) = w2 ∧ w.heap.size = B) := ⟨hw2, hB.symm⟩
  clear hw2 hB c3 f3
  unfold sta
  go_enter Tryd.func73, Tryd.ntmps73
  go_wp2_with fail
  simp only [HW.out.1, HW.out.2]
  clear HW
  refine hcl.mono ?_
  rintro e w0 ⟨⟨v, rfl, hv⟩, hb0⟩
  clear hcl
  have bx0 : w0.heap[B]? = some (.cells #[.int .u64 (x.1 : Nat), .int .i64 x.2.1, .int .i64 x.2.2.1, .slice x.2.2.2.1 x.2.2.2.2.1 x.2.2.2.2.2] 45 (0, 0)) := (hb0.block B (by have := H2.out.2.2.1; omega)).trans H2.out.1
  have rs0 : w0.heap[B + 1]? = some (.cells #[.int .u64 0, .int .i64 0, .int .i64 0, .slice none 0 0] 45 (0, 0)) := (hb0.block (B + 1) (by have := H2.out.2.2.1; omega)).trans H2.out.2.1
  have c3 := heap_cell (j := 3) bx0 rfl
  have f3 := heap_free bx0 3
  rcases hv with ⟨rfl, hn0⟩ | ⟨g, cap', rfl, hg, hg2, hcc1, hcc2, hfz, hIR⟩
  · obtain ⟨w3, hw3⟩ : ∃ w3, w0.setCell ⟨B, 3, none⟩ (.slice none 0 0) = w3 := ⟨_, rfl⟩
    have bx3 : w3.heap[B]? = some (.cells #[.int .u64 (x.1 : Nat), .int .i64 x.2.1, .int .i64 x.2.2.1, .slice none 0 0] 45 (0, 0)) := by
      rw [← hw3, heap_setCell_same w0 B 3 _ 45 _ bx0]; rfl
    have rs3 : w3.heap[B + 1]? = some (.cells #[.int .u64 0, .int .i64 0, .int .i64 0, .slice none 0 0] 45 (0, 0)) := by
      rw [← hw3, heap_setCell_other _ _ _ _ (by simp)]; exact rs0
    have hb3 : Below w.heap.size w w3 := by rw [← hw3]; exact (bl_step H2.out.2.2.2.1 hb0).setCell (by have := H2.out.2.2.2.2; show w.heap.size ≤ B; omega) _
    have d0 := heap_cell (j := 0) bx3 rfl
    have d1 := heap_cell (j := 1) bx3 rfl
    have d2 := heap_cell (j := 2) bx3 rfl
    have d3 := heap_cell (j := 3) bx3 rfl
    have hset := setRow_heap w3 (B + 1) _ #[.int .u64 (x.1 : Nat), .int .i64 x.2.1, .int .i64 x.2.2.1, .slice none 0 0] 45 (0, 0) rs3
    have HE : Hid (∃ ao' cap', Value.agg #[.int .u64 (x.1 : Nat), .int .i64 x.2.1, .int .i64 x.2.2.1, .slice none 0 0] = Value.agg #[.int .u64 (x.1 : Nat), .int .i64 x.2.1, .int .i64 x.2.2.1, .slice ao' x.2.2.2.2.1 cap'] ∧ Si (fun b => w.heap.size ≤ b) (w3.setRow (B + 1) #[.int .u64 (x.1 : Nat), .int .i64 x.2.1, .int .i64 x.2.2.1, .slice none 0 0]) (x.1, x.2.1, x.2.2.1, ao', x.2.2.2.2.1, cap') d ∧ Below w.heap.size w (w3.setRow (B + 1) #[.int .u64 (x.1 : Nat), .int .i64 x.2.1, .int .i64 x.2.2.1, .slice none 0 0])) := by
      refine ⟨none, 0, by rw [hn0], HSi.out _ _ _ ?_, ?_⟩
      · rw [hn0]
        have : ds = [] := List.length_eq_zero_iff.1 (by rw [hd, hn0])
        rw [this]
        exact ⟨[], ⟨rfl, by omega, fun _ => rfl, fun h => by omega⟩, rfl, fun j x d hx => by simp at hx⟩
      · exact ⟨hb3.os, hb3.tape, hb3.output, by rw [size_setRow]; exact hb3.size, fun k hk => by rw [setRow_other _ _ _ _ (by have := H2.out.2.2.2.2; omega)]; exact hb3.block k hk⟩
    clear rs0 hb0 H2 HIT HSi hn0 hxl hd hb3
    go_wp2_with fail
    (try simp only [hw3])
    refine wp_loop_rounds 1 ?_
    rw [rounds_succ]
    go_wp2_with (first | (refine wpList_store_row rfl 45 (.tmp 2) (.tmp 27) rfl (B + 1) #[.int .u64 (x.1 : Nat), .int .i64 x.2.1, .int .i64 x.2.2.1, .slice none 0 0] rfl rfl 45 _ rs3 info45 rfl (by simp [Value.oneCell']) ?_))
    refine bodyPost_ret (results_cell1 (g := B + 1) (cs := #[.int .u64 (x.1 : Nat), .int .i64 x.2.1, .int .i64 x.2.2.1, .slice none 0 0]) Tryd.results73 rfl (run_loadVar_row _ (B + 1) 45 45 _ (0, 0) _ hset Tryd.underlying45 rfl (by kernel_rfl))) rfl ?_
    obtain ⟨ao', cap', h1, h2⟩ := HE.out
    exact ⟨ao', cap', by rw [h1], h2⟩
  · obtain ⟨w3, hw3⟩ : ∃ w3, w0.setCell ⟨B, 3, none⟩ (.slice (some ⟨g, 0, none⟩) x.2.2.2.2.1 cap') = w3 := ⟨_, rfl⟩
    have hs2 := H2.out.2.2.1
    have hBw := H2.out.2.2.2.2
    have H3 : Hid (Cp w w3 B g x cap' 0 xs xs ds) := by
      rw [← hw3]
      exact { ir := hIR.keep (Kp.setCell (fun b hb => by omega)), tl := fun _ _ => rfl, its := fun j y d hj => by omega, bl := (bl_step H2.out.2.2.2.1 hb0).setCell (by show w.heap.size ≤ B; omega) _, gl := by simp [World.setCell]; exact hg2, fz := fun i => by rw [World.frozen?_setCell]; exact hfz i, bx := by rw [heap_setCell_same w0 B 3 _ 45 _ bx0]; rfl, rs := by rw [heap_setCell_other _ _ _ _ (by simp)]; exact rs0 }
    have d3 := heap_cell (j := 3) H3.out.bx rfl
    have HG : Hid (B + 2 ≤ g ∧ w.heap.size = B) := ⟨by omega, hBw.symm⟩
    clear rs0 hb0 H2 hIR hfz hg2 hg hs2 hBw
    obtain ⟨n, hn⟩ : ∃ n, x.2.2.2.2.1 = n := ⟨_, rfl⟩
    rw [hn] at hxl hm hcc1 d3 hd
    rw [hn] at hw3
    go_wp2_with fail
    (try simp only [hn, hw3])
    clear hw3 bx0 c3 f3
    clear d3
    go_loopw [3, 11] (fun _ kv wr => ∃ (k : Nat) (ys : List Ix), k ≤ n ∧ kv = .int .i64 (k : Nat) ∧ Cp w wr B g x cap' k xs ys ds) (fun _ kv _ => n - (intOf kv).toNat)
    case atStart => exact ⟨0, xs, by omega, rfl, H3.out⟩
    case round =>
      clear H3
      obtain ⟨k, ys, hk, rfl, hcp⟩ := hrel
      have HC : Hid (Cp w wr B g x cap' k xs ys ds) := hcp
      by_cases hlt : k < n
      · have hltI : (k : Int) < (n : Int) := by omega
        obtain ⟨y, hy⟩ : ∃ y, xs[k]? = some y := ⟨xs[k]'(by omega), List.getElem?_eq_getElem (by omega)⟩
        obtain ⟨dk, hdk⟩ : ∃ d, ds[k]? = some d := ⟨ds[k]'(by omega), List.getElem?_eq_getElem (by omega)⟩
        have hyk : ys[k]? = some y := by rw [hcp.tl k (Nat.le_refl _)]; exact hy
        obtain ⟨b, off, e, hp, hc⟩ := hcp.ir.2.2.2 (by omega)
        cases e
        obtain ⟨c0, c1⟩ := hc k y hyk
        simp only [Nat.zero_add] at c0 c1
        have d3 := heap_cell (j := 3) hcp.bx rfl
        rw [hn] at d3
        have hcb := cloneB_any p wr.drew y.2.1 y.2.2.1 y.2.2.2 dk.2 (((HIT.out k y dk hy hdk).2.keep (Kp.up hcp.bl)).keep (Kp.up ((Below.refl _ wr).drew)))
        have HD : Hid (ys[k]? = some y ∧ ds[k]? = some dk ∧ y.1 = dk.1) := ⟨hyk, hdk, (HIT.out k y dk hy hdk).1⟩
        have hk0 : ¬ ((k : Int) < 0) := by omega
        have hS : wr.drew.cell? ⟨B, 3, none⟩ = some (.slice (some ⟨g, 0, none⟩) n cap') ∧ wr.drew.cell? ⟨g, k * 2 + 1, none⟩ = some (.slice y.2.1 y.2.2.1 y.2.2.2) := ⟨d3, c1⟩
        clear hcp hc hy hdk hyk hp c0 d3 c1
        go_wp2_with fail
        refine wp_region_noPanic ?_
        refine beginE (fun wx => wx.cell? ⟨B, 3, none⟩ = some (.slice (some ⟨g, 0, none⟩) n cap') ∧ wx.cell? ⟨g, k * 2 + 1, none⟩ = some (.slice y.2.1 y.2.2.1 y.2.2.2)) 12 (by kernel_rfl) hS (fun hHeld => ?_)
        refine takeE 0 (v := ?_) rfl (by kernel_rfl) (by kernel_rfl) (by kernel_rfl) (by kernel_rfl) (by kernel_rfl) (fun _ _ _ h => h) (Or.inl ⟨by rfl, by intro wx hSw; (try dsimp only at hSw); obtain ⟨k1, k2⟩ := hSw; go_simp; try with_reducible rfl⟩) (by assumption) ?_
        (try simp only [Act.put, List.setIfInBounds_toArray, List.set_cons_zero, List.set_cons_succ])
        refine takeE 1 (v := ?_) rfl (by kernel_rfl) (by kernel_rfl) (by kernel_rfl) (by kernel_rfl) (by kernel_rfl) (fun _ _ _ h => h) (Or.inl ⟨by rfl, by intro wx hSw; (try dsimp only at hSw); obtain ⟨k1, k2⟩ := hSw; go_simp; try with_reducible rfl⟩) (by assumption) ?_
        (try simp only [Act.put, List.setIfInBounds_toArray, List.set_cons_zero, List.set_cons_succ])
        refine takeE 2 (v := ?_) rfl (by kernel_rfl) (by kernel_rfl) (by kernel_rfl) (by kernel_rfl) (by kernel_rfl) (fun _ _ _ h => h) (Or.inl ⟨by rfl, by intro wx hSw; (try dsimp only at hSw); obtain ⟨k1, k2⟩ := hSw; go_simp; try with_reducible rfl⟩) (by assumption) ?_
        (try simp only [Act.put, List.setIfInBounds_toArray, List.set_cons_zero, List.set_cons_succ])
        refine takeE 3 (v := ?_) rfl (by kernel_rfl) (by kernel_rfl) (by kernel_rfl) (by kernel_rfl) (by kernel_rfl) (fun _ _ _ h => h) (Or.inl ⟨by rfl, by intro wx hSw; (try dsimp only at hSw); obtain ⟨k1, k2⟩ := hSw; go_simp; try with_reducible rfl⟩) (by assumption) ?_
        (try simp only [Act.put, List.setIfInBounds_toArray, List.set_cons_zero, List.set_cons_succ])
        refine takeE 4 (v := ?_) rfl (by kernel_rfl) (by kernel_rfl) (by kernel_rfl) (by kernel_rfl) (by kernel_rfl) (fun _ _ _ h => h) (Or.inl ⟨by rfl, by intro wx hSw; (try dsimp only at hSw); obtain ⟨k1, k2⟩ := hSw; go_simp; try with_reducible rfl⟩) (by assumption) ?_
        (try simp only [Act.put, List.setIfInBounds_toArray, List.set_cons_zero, List.set_cons_succ])
        refine takeE 5 (v := ?_) rfl (by kernel_rfl) (by kernel_rfl) (by kernel_rfl) (by kernel_rfl) (by kernel_rfl) (fun _ _ _ h => h) (Or.inl ⟨by rfl, by intro wx hSw; (try dsimp only at hSw); obtain ⟨k1, k2⟩ := hSw; go_simp; try with_reducible rfl⟩) (by assumption) ?_
        (try simp only [Act.put, List.setIfInBounds_toArray, List.set_cons_zero, List.set_cons_succ])
        refine takeE 6 (v := ?_) rfl (by kernel_rfl) (by kernel_rfl) (by kernel_rfl) (by kernel_rfl) (by kernel_rfl) (fun _ _ _ h => h) (Or.inl ⟨by rfl, by intro wx hSw; (try dsimp only at hSw); obtain ⟨k1, k2⟩ := hSw; go_simp; try with_reducible rfl⟩) (by assumption) ?_
        (try simp only [Act.put, List.setIfInBounds_toArray, List.set_cons_zero, List.set_cons_succ])
        refine takeE 7 (v := ?_) rfl (by kernel_rfl) (by kernel_rfl) (by kernel_rfl) (by kernel_rfl) (by kernel_rfl) (fun _ _ _ h => h) (Or.inl ⟨by rfl, by intro wx hSw; (try dsimp only at hSw); obtain ⟨k1, k2⟩ := hSw; go_simp; try with_reducible rfl⟩) (by assumption) ?_
        (try simp only [Act.put, List.setIfInBounds_toArray, List.set_cons_zero, List.set_cons_succ])
        refine takeE 8 (v := ?_) rfl (by kernel_rfl) (by kernel_rfl) (by kernel_rfl) (by kernel_rfl) (by kernel_rfl) (fun _ _ _ h => h) (Or.inl ⟨by rfl, by intro wx hSw; (try dsimp only at hSw); obtain ⟨k1, k2⟩ := hSw; go_simp; try with_reducible rfl⟩) (by assumption) ?_
        (try simp only [Act.put, List.setIfInBounds_toArray, List.set_cons_zero, List.set_cons_succ])
        refine upE 9 rfl (by kernel_rfl) (fun K hK => ?_)
        go_simp
        refine hcb.mono ?_
        rintro e w4 ⟨ao4, cap4, rfl, hrw, hb4⟩
        have hb4' : Below wr.heap.size wr w4 := ⟨hb4.os, hb4.tape, hb4.output, hb4.size, hb4.block⟩
        have hgl := HC.out.gl
        have hS4 : w4.cell? ⟨B, 3, none⟩ = some (.slice (some ⟨g, 0, none⟩) n cap') ∧ w4.cell? ⟨g, k * 2 + 1, none⟩ = some (.slice y.2.1 y.2.2.1 y.2.2.2) := ⟨(hb4'.cell (show B < wr.heap.size from heap_lt HC.out.bx)).trans hS.1, (hb4'.cell hgl).trans hS.2⟩
        have f4 : w4.frozen? ⟨g, k * 2 + 1, none⟩ = false := (hb4'.frozen hgl).trans (HC.out.fz _)
        obtain ⟨w5, hw5⟩ : ∃ w5, w4.setCell ⟨g, k * 2 + 1, none⟩ (.slice ao4 y.2.2.1 cap4) = w5 := ⟨_, rfl⟩
        have HN : Hid (Cp w w5 B g x cap' (k + 1) xs (ys.set k (y.1, ao4, y.2.2.1, cap4)) ds) := by
          obtain ⟨h1, h2, h3⟩ := HD.out
          have hc := HC.out
          have hkl := (List.getElem?_eq_some_iff.1 h1).1
          have hbw : Below w.heap.size w w4 := bl_step hc.bl hb4'
          have hlB := heap_lt hc.bx
          have hlR := heap_lt hc.rs
          have hgB := HG.out.1
          rw [← hw5]
          have kp1 : Kp (fun b => w.heap.size ≤ b ∧ b ≠ g ∧ b ≠ B ∧ b ≠ B + 1) w4 (w4.setCell ⟨g, k * 2 + 1, none⟩ (.slice ao4 y.2.2.1 cap4)) := Kp.setCell (fun b hb => hb.2.1)
          refine { ir := (hc.ir.keep (Kp.up hb4')).set h1 ao4 y.2.2.1 cap4, tl := fun j hj => by rw [List.getElem?_set_ne (by omega)]; exact hc.tl j (by omega), its := fun j z d' hj hz hd' => ?_, bl := hbw.setCell (by show w.heap.size ≤ g; have := HG.out.2; omega) _, gl := by have := hb4'.size; simp [World.setCell]; omega, fz := fun i => by rw [World.frozen?_setCell]; exact (hb4'.frozen hc.gl).trans (hc.fz i), bx := by rw [heap_setCell_other _ _ _ _ (by show B ≠ g; omega)]; exact (hb4'.block B hlB).trans hc.bx, rs := by rw [heap_setCell_other _ _ _ _ (by show B + 1 ≠ g; omega)]; exact (hb4'.block _ hlR).trans hc.rs }
          by_cases e : j = k
          · subst e
            rw [List.getElem?_set_self hkl] at hz
            cases hz
            rw [h2] at hd'
            cases hd'
            refine ⟨h3, ?_⟩
            refine (hrw.imp (fun b _ hb => ?_)).keep kp1
            have hb' : wr.heap.size ≤ b := hb
            have := hc.bl.size
            exact ⟨by omega, by omega, by omega, by omega⟩
          · rw [List.getElem?_set_ne (by omega)] at hz
            exact ((hc.its j z d' (by omega) hz hd').keep (Kp.up hb4')).keep kp1
        clear hcb hrw hb4 hb4' hS HC HD hgl
        go_wp2_with fail
        refine hK.out _ _ hS4 (fun hHeld => ?_)
        clear hK K
        (try simp only [Act.put, List.setIfInBounds_toArray, List.set_cons_zero, List.set_cons_succ])
        refine pureE 10 (v := ?_) rfl (by kernel_rfl) (by kernel_rfl) (by kernel_rfl) (by kernel_rfl) (fun _ _ _ h => h) (Or.inl ⟨by rfl, by intro wx hSw; (try dsimp only at hSw); go_simp; try with_reducible rfl⟩) (by assumption) ?_
        (try simp only [Act.put, List.setIfInBounds_toArray, List.set_cons_zero, List.set_cons_succ])
        refine pureE 11 (v := ?_) rfl (by kernel_rfl) (by kernel_rfl) (by kernel_rfl) (by kernel_rfl) (fun _ _ _ h => h) (Or.inl ⟨by rfl, by intro wx hSw; (try dsimp only at hSw); go_simp; try with_reducible rfl⟩) (by assumption) ?_
        (try simp only [Act.put, List.setIfInBounds_toArray, List.set_cons_zero, List.set_cons_succ])
        have c4 := hS4.2
        refine lastE 12 rfl (by kernel_rfl) (by kernel_rfl) (fun K hK => ?_)
        go_simp
        refine hK.out _ _ ?_
        clear hK K
        (try simp only [Act.put, List.setIfInBounds_toArray, List.set_cons_zero, List.set_cons_succ])
        refine doneE (by kernel_rfl) ?_ _
        refine NoPanic.normal ?_
        (try simp only [hw5])
        clear hw5 hS4 c4 f4
        go_wp2_with fail
        go_roundw
        case rel => first | exact ⟨k + 1, _, by omega, by go_num, HN.out⟩ | ((repeat apply Exists.intro); exact ⟨⟨k + 1, _, by omega, by go_num, HN.out⟩, rfl⟩)
        case measure => simp [intOf]; omega
      · obtain rfl : k = n := by omega
        have hc := HC.out
        have d0 := heap_cell (j := 0) hc.bx rfl
        have d1 := heap_cell (j := 1) hc.bx rfl
        have d2 := heap_cell (j := 2) hc.bx rfl
        have d3 := heap_cell (j := 3) hc.bx rfl
        have rs3 := hc.rs
        rw [hn] at d3
        have hset := setRow_heap wr (B + 1) _ #[.int .u64 (x.1 : Nat), .int .i64 x.2.1, .int .i64 x.2.2.1, .slice (some ⟨g, 0, none⟩) k cap'] 45 (0, 0) rs3
        have HE : Hid (Si (fun b => w.heap.size ≤ b) (wr.setRow (B + 1) #[.int .u64 (x.1 : Nat), .int .i64 x.2.1, .int .i64 x.2.2.1, .slice (some ⟨g, 0, none⟩) k cap']) (x.1, x.2.1, x.2.2.1, some ⟨g, 0, none⟩, x.2.2.2.2.1, cap') d ∧ Below w.heap.size w (wr.setRow (B + 1) #[.int .u64 (x.1 : Nat), .int .i64 x.2.1, .int .i64 x.2.2.1, .slice (some ⟨g, 0, none⟩) k cap'])) := by
          have hgB := HG.out
          have kp : Kp (fun b => w.heap.size ≤ b ∧ b ≠ B + 1) wr (wr.setRow (B + 1) #[.int .u64 (x.1 : Nat), .int .i64 x.2.1, .int .i64 x.2.2.1, .slice (some ⟨g, 0, none⟩) k cap']) := fun ad v hb hcl => by
            rw [World.cell?_of_block (w := wr) (setRow_other _ _ _ _ hb.2)]; exact hcl
          refine ⟨HSi.out _ _ _ ⟨ys, ((hc.ir.imp (q := fun b => w.heap.size ≤ b ∧ b ≠ B + 1) (fun b _ hb => ⟨by omega, by omega⟩)).keep kp).imp (fun b _ hb => hb.1), by rw [hn]; exact hd, fun j y d' hy hd' => (((hc.its j y d' ?_ hy hd').imp (q := fun b => w.heap.size ≤ b ∧ b ≠ B + 1) (fun b _ hb => ⟨hb.1, hb.2.2.2⟩)).keep kp).imp (fun b _ hb => hb.1)⟩, ?_⟩
          · have := (List.getElem?_eq_some_iff.1 hy).1
            have := hc.ir.1
            omega
          · have hb3 := hc.bl
            exact ⟨hb3.os, hb3.tape, hb3.output, by rw [size_setRow]; exact hb3.size, fun k hk => by rw [setRow_other _ _ _ _ (by omega)]; exact hb3.block k hk⟩
        clear hcp HC hc HIT HSi HG
        go_wp2_with (first | (refine wpList_store_row rfl 45 (.tmp 2) (.tmp 27) rfl (B + 1) #[.int .u64 (x.1 : Nat), .int .i64 x.2.1, .int .i64 x.2.2.1, .slice (some ⟨g, 0, none⟩) k cap'] rfl rfl 45 _ rs3 info45 rfl (by simp [Value.oneCell']) ?_))
        refine bodyPost_ret (results_cell1 (g := B + 1) (cs := #[.int .u64 (x.1 : Nat), .int .i64 x.2.1, .int .i64 x.2.2.1, .slice (some ⟨g, 0, none⟩) k cap']) Tryd.results73 rfl (run_loadVar_row _ (B + 1) 45 45 _ (0, 0) _ hset Tryd.underlying45 rfl (by kernel_rfl))) rfl ?_
        exact ⟨some ⟨g, 0, none⟩, cap', by rw [hn], HE.out⟩
end Go.Proofs.YtlonbbepoamnmaaDoor
namespace Go.Proofs.YtlonbbepoamnmaaDoor
open Go.RowKit
set_option linter.unusedVariables false
section
variable {w w' : World} {F Z : Nat → Prop} {q : Nat} {M : Mm} {o : Option Nat}

theorem set_cell {w : World} {a : Addr} {u v : Value} (h : w.cell? a = some u) : (w.setCell a v).cell? a = some v := World.cell?_setCell_same _ _ _ h
theorem set_other {w : World} {b i j : Nat} {v : Value} (h : j ≠ i) : (w.setCell ⟨b, i, none⟩ v).cell? ⟨b, j, none⟩ = w.cell? ⟨b, j, none⟩ := World.cell?_setCell_other _ _ _ _ (fun e => h (by cases e; rfl))

/-- Only the node's own block has turned. -/
theorem Pb.setq {p : Nat} {P : Pp} (h : Pb w F Z q p P) (hq : F q) (zf : ∀ b, Z b → ¬ F b) (hb : ∀ b, b ≠ q → w'.heap[b]? = w.heap[b]?) : Pb w' F Z q p P := by
  obtain ⟨ao, cap, ss, r1, r2, r3, r4, r5⟩ := h.row
  have hp := hb p h.ne
  have hk : Kp Z w w' := fun ad v hz hc => by
    rw [World.cell?_of_block (w := w) (hb _ (fun e => zf _ hz (e ▸ hq)))]; exact hc
  refine ⟨h.ne, h.fp, by rw [cell_block hp]; exact h.c0, by rw [cell_block hp]; exact h.c1, by rw [cell_block hp]; exact h.c2, by rw [cell_block hp]; exact h.c3, fun k => by rw [frozen_block hp]; exact h.fr k, h.s16, h.a16, h.len, ao, cap, ss, by rw [cell_block hp]; exact r1, ?_, r3, r4, fun j x d hx hd => (r5 j x d hx hd).keep hk⟩
  refine row_block r2 (fun b hbb => ?_)
  cases ao with
  | none => cases hbb
  | some a =>
    have : a.block = b := by simpa [Value.ownBlock] using hbb
    subst this
    exact hb _ (r3 a rfl).2.2
theorem OwnIs.setq {O : Option Pp} (h : OwnIs w F Z q O o) (hq : F q) (zf : ∀ b, Z b → ¬ F b) (hb : ∀ b, b ≠ q → w'.heap[b]? = w.heap[b]?) : OwnIs w' F Z q O o := by
  cases O <;> cases o <;> simp only [OwnIs] at h ⊢
  exact h.setq hq zf hb
/-- One of the node's cells is written to. -/
theorem Mb.set1 (h : Mb w F Z q M o) {k : Nat} {v : Value} {M' : Mm} {o' : Option Nat} (hm : ∀ j, j < 73 → j ≠ k → mcell M' o' j = mcell M o j) (hk : k < 73) (hv : mcell M' o' k = v) (hn : M'.n = M.n) (hs : M'.self = M.self) (hown : OwnIs (w.setCell ⟨q, k, none⟩ v) F Z q M'.own o') :
    Mb (w.setCell ⟨q, k, none⟩ v) F Z q M' o' where
  cell := fun j hj => by
    by_cases e : j = k
    · subst e; rw [set_cell (h.cell j hj), hv]
    · rw [set_other e, hm j hj e]; exact h.cell j hj
  fr := fun j => by rw [World.frozen?_setCell]; exact h.fr j
  fq := h.fq
  lt := fun b hb => by rw [World.size_setCell]; exact h.lt b hb
  f0 := h.f0
  zf := h.zf
  zl := fun b hb => by rw [World.size_setCell]; exact h.zl b hb
  tab := h.tab.keep (heap_setCell_other _ _ _ _ (by have := h.q0; show 0 ≠ q; omega))
  n16 := by rw [hn]; exact h.n16
  sn := by rw [hn, hs]; exact h.sn
  own := hown
theorem set_blocks (w : World) (q k : Nat) (v : Value) : ∀ b, b ≠ q → (w.setCell ⟨q, k, none⟩ v).heap[b]? = w.heap[b]? := fun b hb => heap_setCell_other _ _ _ _ hb
theorem Mb.same1 (h : Mb w F Z q M o) {k : Nat} {v : Value} {M' : Mm} (hm : ∀ j, j < 73 → j ≠ k → mcell M' o j = mcell M o j) (hk : k < 73) (hv : mcell M' o k = v) (hn : M'.n = M.n) (hs : M'.self = M.self) (ho : M'.own = M.own) :
    Mb (w.setCell ⟨q, k, none⟩ v) F Z q M' o := h.set1 hm hk hv hn hs (by rw [ho]; exact h.own.setq h.fq h.zf (set_blocks _ _ _ _))
theorem mcell_ne {M M' : Mm} {o o' : Option Nat} (k : Nat) (h0 : k ≠ 0 → M'.n = M.n) (h1 : k ≠ 1 → M'.self = M.self) (h2 : k ≠ 2 → M'.cur.1 = M.cur.1) (h3 : k ≠ 3 → M'.cur.2 = M.cur.2) (h4 : k ≠ 4 → M'.cset = M.cset) (h5 : k ≠ 5 → M'.prom.1 = M.prom.1) (h6 : k ≠ 6 → M'.prom.2 = M.prom.2) (h7 : k ≠ 7 → M'.high = M.high) (h8 : k ≠ 8 → o' = o)
    (h9 : ∀ i c, i < 16 → c < 4 → k ≠ 9 + i * 4 + c → tcell (M'.told i) c = tcell (M.told i) c) : ∀ j, j < 73 → j ≠ k → mcell M' o' j = mcell M o j := by
  intro j hj hjk
  match j with
  | 0 => show Value.int _ _ = _; rw [h0 (Ne.symm hjk)]; rfl
  | 1 => show Value.int _ _ = _; rw [h1 (Ne.symm hjk)]; rfl
  | 2 => show Value.int _ _ = _; rw [h2 (Ne.symm hjk)]; rfl
  | 3 => show Value.int _ _ = _; rw [h3 (Ne.symm hjk)]; rfl
  | 4 => show Value.int _ _ = _; rw [h4 (Ne.symm hjk)]; rfl
  | 5 => show Value.int _ _ = _; rw [h5 (Ne.symm hjk)]; rfl
  | 6 => show Value.int _ _ = _; rw [h6 (Ne.symm hjk)]; rfl
  | 7 => show Value.int _ _ = _; rw [h7 (Ne.symm hjk)]; rfl
  | 8 => show ptr _ = _; rw [h8 (Ne.symm hjk)]; rfl
  | t + 9 =>
    show tcell (M'.told (t / 4)) (t % 4) = tcell (M.told (t / 4)) (t % 4)
    exact h9 _ _ (by omega) (by omega) (by omega)
theorem Mb.setHigh (h : Mb w F Z q M o) (x : Nat) : Mb (w.setCell ⟨q, 7, none⟩ (.int .u64 (x : Nat))) F Z q { M with high := x } o :=
  h.same1 (mcell_ne 7 (fun _ => rfl) (fun _ => rfl) (fun _ => rfl) (fun _ => rfl) (fun _ => rfl) (fun _ => rfl) (fun _ => rfl) (fun e => absurd rfl e) (fun _ => rfl) (fun _ _ _ _ _ => rfl)) (by omega) rfl rfl rfl rfl
/-- The number of what was accepted last; a proposal's stays what it was. -/
theorem Mb.setProm (h : Mb w F Z q M o) (v : Vid) : Mb ((w.setCell ⟨q, 5, none⟩ (.int .u64 (v.1 : Nat))).setCell ⟨q, 6, none⟩ (.int .i64 v.2)) F Z q { M with prom := v } o := by
  have h1 : Mb (w.setCell ⟨q, 5, none⟩ (.int .u64 (v.1 : Nat))) F Z q { M with prom := (v.1, M.prom.2) } o :=
    h.same1 (mcell_ne 5 (fun _ => rfl) (fun _ => rfl) (fun _ => rfl) (fun _ => rfl) (fun _ => rfl) (fun e => absurd rfl e) (fun _ => rfl) (fun _ => rfl) (fun _ => rfl) (fun _ _ _ _ _ => rfl)) (by omega) rfl rfl rfl rfl
  exact h1.same1 (mcell_ne 6 (fun _ => rfl) (fun _ => rfl) (fun _ => rfl) (fun _ => rfl) (fun _ => rfl) (fun _ => rfl) (fun e => absurd rfl e) (fun _ => rfl) (fun _ => rfl) (fun _ _ _ _ _ => rfl)) (by omega) rfl rfl rfl rfl
theorem Mb.setCur (h : Mb w F Z q M o) (v : Vid) (s : Nat) : Mb (((w.setCell ⟨q, 2, none⟩ (.int .u64 (v.1 : Nat))).setCell ⟨q, 3, none⟩ (.int .i64 v.2)).setCell ⟨q, 4, none⟩ (.int .u16 (s : Nat))) F Z q { M with cur := v, cset := s } o := by
  have h1 : Mb (w.setCell ⟨q, 2, none⟩ (.int .u64 (v.1 : Nat))) F Z q { M with cur := (v.1, M.cur.2) } o :=
    h.same1 (mcell_ne 2 (fun _ => rfl) (fun _ => rfl) (fun e => absurd rfl e) (fun _ => rfl) (fun _ => rfl) (fun _ => rfl) (fun _ => rfl) (fun _ => rfl) (fun _ => rfl) (fun _ _ _ _ _ => rfl)) (by omega) rfl rfl rfl rfl
  have h2 : Mb ((w.setCell ⟨q, 2, none⟩ (.int .u64 (v.1 : Nat))).setCell ⟨q, 3, none⟩ (.int .i64 v.2)) F Z q { M with cur := v } o :=
    h1.same1 (mcell_ne 3 (fun _ => rfl) (fun _ => rfl) (fun _ => rfl) (fun e => absurd rfl e) (fun _ => rfl) (fun _ => rfl) (fun _ => rfl) (fun _ => rfl) (fun _ => rfl) (fun _ _ _ _ _ => rfl)) (by omega) rfl rfl rfl rfl
  exact h2.same1 (mcell_ne 4 (fun _ => rfl) (fun _ => rfl) (fun _ => rfl) (fun _ => rfl) (fun e => absurd rfl e) (fun _ => rfl) (fun _ => rfl) (fun _ => rfl) (fun _ => rfl) (fun _ _ _ _ _ => rfl)) (by omega) rfl rfl rfl rfl
theorem Mb.dropOwn (h : Mb w F Z q M o) : Mb (w.setCell ⟨q, 8, none⟩ (.pointer none)) F Z q { M with own := none } none :=
  h.set1 (mcell_ne 8 (fun _ => rfl) (fun _ => rfl) (fun _ => rfl) (fun _ => rfl) (fun _ => rfl) (fun _ => rfl) (fun _ => rfl) (fun _ => rfl) (fun e => absurd rfl e) (fun _ _ _ _ _ => rfl)) (by omega) rfl rfl rfl trivial
theorem tcell_set (t : Vid × Vid) : ∀ c, c < 4 → tcell t c = [Value.int .u64 (t.1.1 : Nat), .int .i64 t.1.2, .int .u64 (t.2.1 : Nat), .int .i64 t.2.2].getD c undef := by
  intro c hc
  match c with
  | 0 => rfl
  | 1 => rfl
  | 2 => rfl
  | 3 => rfl
theorem told_step {M : Mm} {i k : Nat} (t t' : Vid × Vid) (hk : k < 4) (he : ∀ c, c < 4 → c ≠ k → tcell t' c = tcell t c) : ∀ (j c : Nat), j < 16 → c < 4 → 9 + i * 4 + k ≠ 9 + j * 4 + c → tcell (upd M.told i t' j) c = tcell (upd M.told i t j) c := by
  intro j c hj hc hne
  by_cases e : j = i
  · subst e; rw [upd_same, upd_same]; exact he c hc (by omega)
  · rw [upd_other _ _ e, upd_other _ _ e]
theorem upd_self {α : Type} (f : Nat → α) (i : Nat) : upd f i (f i) = f := by funext j; unfold upd; split <;> simp_all
theorem Mb.setTold (h : Mb w F Z q M o) (i : Nat) (hi : i < 16) (t : Vid × Vid) :
    Mb ((((w.setCell ⟨q, 9 + i * 4, none⟩ (.int .u64 (t.1.1 : Nat))).setCell ⟨q, 9 + i * 4 + 1, none⟩ (.int .i64 t.1.2)).setCell ⟨q, 9 + i * 4 + 2, none⟩ (.int .u64 (t.2.1 : Nat))).setCell ⟨q, 9 + i * 4 + 3, none⟩ (.int .i64 t.2.2)) F Z q { M with told := upd M.told i t } o := by
  have h0 : Mb w F Z q { M with told := upd M.told i (M.told i) } o := by rw [upd_self]; exact h
  have hcell : ∀ (T : Nat → Vid × Vid) c, c < 4 → mcell { M with told := T } o (9 + i * 4 + c) = tcell (T i) c := fun T c hc => mcell_told _ _ _ _ hc
  have step : ∀ (W : World) (s s' : Vid × Vid) (k : Nat) (v : Value), Mb W F Z q { M with told := upd M.told i s } o → k < 4 → (∀ c, c < 4 → c ≠ k → tcell s' c = tcell s c) → tcell s' k = v → Mb (W.setCell ⟨q, 9 + i * 4 + k, none⟩ v) F Z q { M with told := upd M.told i s' } o := by
    intro W s s' k v hW hk he hv
    refine hW.same1 (mcell_ne (9 + i * 4 + k) (fun _ => rfl) (fun _ => rfl) (fun _ => rfl) (fun _ => rfl) (fun _ => rfl) (fun _ => rfl) (fun _ => rfl) (fun _ => rfl) (fun _ => rfl) (told_step s s' hk he)) (by omega) ?_ rfl rfl rfl
    rw [hcell _ k hk, upd_same]; exact hv
  have e1 := step w (M.told i) ((t.1.1, (M.told i).1.2), (M.told i).2) 0 (.int .u64 (t.1.1 : Nat)) h0 (by omega) (fun c hc hne => by match c with | 0 => exact absurd rfl hne | 1 => rfl | 2 => rfl | 3 => rfl) rfl
  have e2 := step _ _ (t.1, (M.told i).2) 1 (.int .i64 t.1.2) e1 (by omega) (fun c hc hne => by match c with | 0 => rfl | 1 => exact absurd rfl hne | 2 => rfl | 3 => rfl) rfl
  have e3 := step _ _ (t.1, (t.2.1, (M.told i).2.2)) 2 (.int .u64 (t.2.1 : Nat)) e2 (by omega) (fun c hc hne => by match c with | 0 => rfl | 1 => rfl | 2 => exact absurd rfl hne | 3 => rfl) rfl
  exact step _ _ t 3 (.int .i64 t.2.2) e3 (by omega) (fun c hc hne => by match c with | 0 => rfl | 1 => rfl | 2 => rfl | 3 => exact absurd rfl hne) rfl
/-- The node's own block alone has turned. -/
theorem sp_set (h : Mb w F Z q M o) {w' : World} {F0 Z0 : Nat → Prop} {w0 : World} (s : Sp w0 F0 Z0 w F Z) (k : Nat) (v : Value) : Sp w0 F0 Z0 (w.setCell ⟨q, k, none⟩ v) F Z :=
  s.trans ⟨(Turned.refl F w).setCell (.inl h.fq) v, fun _ h => .inl h, fun _ h => h, fun _ h => .inl h, fun b hb => by rw [World.size_setCell]; exact h.zl b hb⟩
end
end Go.Proofs.YtlonbbepoamnmaaDoor
