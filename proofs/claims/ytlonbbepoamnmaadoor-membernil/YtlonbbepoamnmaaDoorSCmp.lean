/-
  By what cut.Join sorts: views' numbers, and of one view's states those that have more.
-/
import Derived.Test.YtlonbbepoamnmaaDoorSOrd
namespace Go.Proofs.YtlonbbepoamnmaaDoor
open Go.RowKit Go.Sort
set_option linter.unusedVariables false

def sta (x : Sx) : Value := .agg #[.int .u64 (x.1 : Nat), .int .i64 x.2.1, .int .i64 x.2.2.1, .slice x.2.2.2.1 x.2.2.2.2.1 x.2.2.2.2.2]
/-- How many messages a state has. -/
def endS (x : Sx) : Int := wrap64 (x.2.2.1 + (x.2.2.2.2.1 : Nat))
/-- A floor and a length that are not too far. -/
def OkS (x : Sx) : Prop := True
def cmpS (x y : Sx) : Int := if cmpV x.1 x.2.1 y.1 y.2.1 ≠ 0 then cmpV x.1 x.2.1 y.1 y.2.1 else sgn (endS y) (endS x)
/-- Comes a state ahead of another one, whichever was told first? -/
def ltK (x y : Sx) : Prop := x.1 < y.1 ∨ x.1 = y.1 ∧ (x.2.1 < y.2.1 ∨ x.2.1 = y.2.1 ∧ endS y < endS x)
theorem cmpS_lt (x y : Sx) : cmpS x y < 0 ↔ ltK x y := by
  unfold cmpS cmpV sgn ltK
  repeat' split
  all_goals omega

set_option maxRecDepth 10000 in
theorem or2_any (w : World) (B : Nat) (c0 c1 : Int) (h0 : w.cell? ⟨B, 0, none⟩ = some (.int .i64 c0)) (h1 : w.cell? ⟨B, 1, none⟩ = some (.int .i64 c1)) :
    Calls Tryd.prog 93 #[.slice (some ⟨B, 0, none⟩) 2 2] w fun e w' => e = .returned (.int .i64 (if c0 ≠ 0 then c0 else c1)) ∧ w = w' := by
  by_cases a0 : c0 = 0
  · subst a0
    simp only [ne_eq, not_true_eq_false, if_false]
    by_cases a1 : c1 = 0
    · subst a1
      go_enter Tryd.func93, Tryd.ntmps93
      go_wp2
      refine wp_loop_rounds 3 ?_
      rw [rounds_succ]
      go_wp2
      rw [rounds_succ]
      go_wp2
      rw [rounds_succ]
      go_wp2
      go_ret
      exact ⟨rfl, rfl⟩
    · have a1' : (c1 != 0) = true := by simpa using a1
      go_enter Tryd.func93, Tryd.ntmps93
      go_wp2
      refine wp_loop_rounds 2 ?_
      rw [rounds_succ]
      go_wp2
      rw [rounds_succ]
      go_wp2
      go_ret
      exact ⟨rfl, rfl⟩
  · have a0' : (c0 != 0) = true := by simpa using a0
    rw [if_pos a0]
    go_enter Tryd.func93, Tryd.ntmps93
    go_wp2
    refine wp_loop_rounds 1 ?_
    rw [rounds_succ]
    go_wp2
    go_ret
    exact ⟨rfl, rfl⟩

set_option maxRecDepth 10000 in
theorem end_any (w : World) (x : Sx) (hx : OkS x) : Calls Tryd.prog 95 #[sta x] w fun e w' => e = .returned (.int .i64 (endS x)) ∧ Up w w' := by
  clear hx
  obtain ⟨n, p, f, ao, l, c⟩ := x
  unfold sta endS
  simp only at *
  go_enter Tryd.func95, Tryd.ntmps95
  go_wp2
  go_ret
  exact ⟨rfl, (Up.refl _).alloc _⟩

/-- A state in a block. -/
def Bs (B : Nat) (x : Sx) (wx : World) : Prop :=
  wx.cell? ⟨B, 0, none⟩ = some (.int .u64 (x.1 : Nat)) ∧ wx.cell? ⟨B, 1, none⟩ = some (.int .i64 x.2.1) ∧ wx.cell? ⟨B, 2, none⟩ = some (.int .i64 x.2.2.1) ∧ wx.cell? ⟨B, 3, none⟩ = some (.slice x.2.2.2.1 x.2.2.2.2.1 x.2.2.2.2.2)
theorem Bs.up {B : Nat} {x : Sx} {w w' : World} (h : Bs B x w) (hb : Up w w') : Bs B x w' := ⟨hb.cell h.1, hb.cell h.2.1, hb.cell h.2.2.1, hb.cell h.2.2.2⟩
theorem bs_new (w : World) (x : Sx) (t : TypeId) : Bs w.heap.size x (w.alloc (.cells #[.int .u64 (x.1 : Nat), .int .i64 x.2.1, .int .i64 x.2.2.1, .slice x.2.2.2.1 x.2.2.2.2.1 x.2.2.2.2.2] t)) :=
  ⟨cell_box w _ t 0 _ rfl, cell_box w _ t 1 _ rfl, cell_box w _ t 2 _ rfl, cell_box w _ t 3 _ rfl⟩

set_option maxRecDepth 10000 in
set_option maxHeartbeats 2000000 in
theorem cmpS_any (w : World) (x y : Sx) (hx : OkS x) (hy : OkS y) : Calls Tryd.prog 92 #[sta x, sta y] w fun e w' => e = .returned (.int .i64 (cmpS x y)) ∧ Up w w' := by
  unfold cmpS
  have c1 := fun W => compare_any W x.1 x.2.1 y.1 y.2.1
  have c2 := fun W => end_any W y hy
  have c3 := fun W => end_any W x hx
  have c4 := fun W => cmpI W (endS y) (endS x)
  have c5 := fun W B h0 h1 => or2_any W B (cmpV x.1 x.2.1 y.1 y.2.1) (sgn (endS y) (endS x)) h0 h1
  unfold vid at c1
  unfold sta at *
  generalize cmpV x.1 x.2.1 y.1 y.2.1 = d1 at *
  generalize sgn (endS y) (endS x) = d2 at *
  generalize endS y = ey at *
  generalize endS x = ex at *
  generalize (if d1 ≠ 0 then d1 else d2) = d4 at *
  have b1 := (bs_new w x 45).up ((Up.refl _).alloc (.cells #[.int .u64 (y.1 : Nat), .int .i64 y.2.1, .int .i64 y.2.2.1, .slice y.2.2.2.1 y.2.2.2.2.1 y.2.2.2.2.2] 45))
  have b2 := bs_new (w.alloc (.cells #[.int .u64 (x.1 : Nat), .int .i64 x.2.1, .int .i64 x.2.2.1, .slice x.2.2.2.1 x.2.2.2.2.1 x.2.2.2.2.2] 45)) y 45
  have hsz : (w.alloc (.cells #[.int .u64 (x.1 : Nat), .int .i64 x.2.1, .int .i64 x.2.2.1, .slice x.2.2.2.1 x.2.2.2.2.1 x.2.2.2.2.2] 45)).heap.size = w.heap.size + 1 := by simp
  rw [hsz] at b2
  have at0 : Bs w.heap.size x _ ∧ Bs (w.heap.size + 1) y _ := ⟨b1, b2⟩
  have bl0 : Up w ((w.alloc (.cells #[.int .u64 (x.1 : Nat), .int .i64 x.2.1, .int .i64 x.2.2.1, .slice x.2.2.2.1 x.2.2.2.2.1 x.2.2.2.2.2] 45)).alloc (.cells #[.int .u64 (y.1 : Nat), .int .i64 y.2.1, .int .i64 y.2.2.1, .slice y.2.2.2.1 y.2.2.2.2.1 y.2.2.2.2.2] 45)).drew := (((Up.refl _).alloc _).alloc _).drew
  clear b1 b2 hsz hx hy
  go_enter Tryd.func92, Tryd.ntmps92
  go_wp2_with fail
  refine wp_region_noPanic ?_
  refine wp_region_held_drew (S := fun wx => Bs w.heap.size x wx ∧ Bs (w.heap.size + 1) y wx) (by kernel_rfl) at0 (fun hHeld => ?_)
  refine take_first 0 (v := ?_) rfl (by kernel_rfl) (by kernel_rfl) (by kernel_rfl) (fun _ _ _ h => h) (Or.inl ⟨by rfl, by intro wx hSw; obtain ⟨⟨hSw1, hSw2, hSw3, hSw4⟩, hSw5, hSw6, hSw7, hSw8⟩ := hSw; go_simp; try with_reducible rfl⟩) (by assumption) ?_
  (try simp only [Act.put, List.setIfInBounds_toArray, List.set_cons_zero, List.set_cons_succ])
  refine take_first 1 (v := ?_) rfl (by kernel_rfl) (by kernel_rfl) (by kernel_rfl) (fun _ _ _ h => h) (Or.inl ⟨by rfl, by intro wx hSw; obtain ⟨⟨hSw1, hSw2, hSw3, hSw4⟩, hSw5, hSw6, hSw7, hSw8⟩ := hSw; go_simp; try with_reducible rfl⟩) (by assumption) ?_
  (try simp only [Act.put, List.setIfInBounds_toArray, List.set_cons_zero, List.set_cons_succ])
  refine take_first 2 (v := ?_) rfl (by kernel_rfl) (by kernel_rfl) (by kernel_rfl) (fun _ _ _ h => h) (Or.inl ⟨by rfl, by intro wx hSw; obtain ⟨⟨hSw1, hSw2, hSw3, hSw4⟩, hSw5, hSw6, hSw7, hSw8⟩ := hSw; go_simp; try with_reducible rfl⟩) (by assumption) ?_
  (try simp only [Act.put, List.setIfInBounds_toArray, List.set_cons_zero, List.set_cons_succ])
  refine take_first 3 (v := ?_) rfl (by kernel_rfl) (by kernel_rfl) (by kernel_rfl) (fun _ _ _ h => h) (Or.inl ⟨by rfl, by intro wx hSw; obtain ⟨⟨hSw1, hSw2, hSw3, hSw4⟩, hSw5, hSw6, hSw7, hSw8⟩ := hSw; go_simp; try with_reducible rfl⟩) (by assumption) ?_
  (try simp only [Act.put, List.setIfInBounds_toArray, List.set_cons_zero, List.set_cons_succ])
  refine take_first 5 (v := ?_) rfl (by kernel_rfl) (by kernel_rfl) (by kernel_rfl) (fun _ _ _ h => h) (Or.inl ⟨by rfl, by intro wx hSw; obtain ⟨⟨hSw1, hSw2, hSw3, hSw4⟩, hSw5, hSw6, hSw7, hSw8⟩ := hSw; go_simp; try with_reducible rfl⟩) (by assumption) ?_
  (try simp only [Act.put, List.setIfInBounds_toArray, List.set_cons_zero, List.set_cons_succ])
  refine take_first 7 (v := ?_) rfl (by kernel_rfl) (by kernel_rfl) (by kernel_rfl) (fun _ _ _ h => h) (Or.inl ⟨by rfl, by intro wx hSw; obtain ⟨⟨hSw1, hSw2, hSw3, hSw4⟩, hSw5, hSw6, hSw7, hSw8⟩ := hSw; go_simp; try with_reducible rfl⟩) (by assumption) ?_
  (try simp only [Act.put, List.setIfInBounds_toArray, List.set_cons_zero, List.set_cons_succ])
  refine comes_up 4 rfl (by kernel_rfl) (fun K hK => ?_)
  go_simp
  refine (c1 _).mono ?_
  rintro e w1 ⟨rfl, hb1⟩
  have at1 : Bs w.heap.size x w1 ∧ Bs (w.heap.size + 1) y w1 := ⟨Bs.up (hHeld.1) hb1, Bs.up (hHeld.2) hb1⟩
  have bl1' := bl0.trans hb1
  clear at0 bl0 hb1 hHeld
  go_wp2_with fail
  refine hK.out _ _ at1 (fun hHeld => ?_)
  clear hK K
  (try simp only [Act.put, List.setIfInBounds_toArray, List.set_cons_zero, List.set_cons_succ])
  refine comes_up 6 rfl (by kernel_rfl) (fun K hK => ?_)
  go_simp
  refine (c2 _).mono ?_
  rintro e w2 ⟨rfl, hb2⟩
  have at2 : Bs w.heap.size x w2 ∧ Bs (w.heap.size + 1) y w2 := ⟨Bs.up (at1.1) hb2, Bs.up (at1.2) hb2⟩
  have bl2' := bl1'.trans hb2
  clear at1 bl1' hb2 hHeld
  go_wp2_with fail
  refine hK.out _ _ at2 (fun hHeld => ?_)
  clear hK K
  (try simp only [Act.put, List.setIfInBounds_toArray, List.set_cons_zero, List.set_cons_succ])
  refine comes_up 8 rfl (by kernel_rfl) (fun K hK => ?_)
  go_simp
  refine (c3 _).mono ?_
  rintro e w3 ⟨rfl, hb3⟩
  have at3 : Bs w.heap.size x w3 ∧ Bs (w.heap.size + 1) y w3 := ⟨Bs.up (at2.1) hb3, Bs.up (at2.2) hb3⟩
  have bl3' := bl2'.trans hb3
  clear at2 bl2' hb3 hHeld
  go_wp2_with fail
  refine hK.out _ _ at3 (fun hHeld => ?_)
  clear hK K
  (try simp only [Act.put, List.setIfInBounds_toArray, List.set_cons_zero, List.set_cons_succ])
  refine comes_up 9 rfl (by kernel_rfl) (fun K hK => ?_)
  go_simp
  refine (c4 _).mono ?_
  rintro e w4 ⟨rfl, rfl⟩
  go_wp2_with fail
  refine hK.out _ _ at3 (fun hHeld => ?_)
  clear hK K
  (try simp only [Act.put, List.setIfInBounds_toArray, List.set_cons_zero, List.set_cons_succ])
  refine comes_up 10 rfl (by kernel_rfl) (fun K hK => ?_)
  go_simp
  have up3 : Up w3 (w3.alloc (.cells #[.int .i64 d1, .int .i64 d2] 3)) := (Up.refl _).alloc _
  have at4 : Bs w.heap.size x (w3.alloc (.cells #[.int .i64 d1, .int .i64 d2] 3)) ∧ Bs (w.heap.size + 1) y (w3.alloc (.cells #[.int .i64 d1, .int .i64 d2] 3)) := ⟨Bs.up (at3.1) up3, Bs.up (at3.2) up3⟩
  refine hK.out _ _ at4 (fun hHeld => ?_)
  clear hK K
  (try simp only [Act.put, List.setIfInBounds_toArray, List.set_cons_zero, List.set_cons_succ])
  refine comes_up 11 rfl (by kernel_rfl) (fun K hK => ?_)
  go_simp
  refine (c5 _ _ (cell_box w3 _ 3 0 _ rfl) (cell_box w3 _ 3 1 _ rfl)).mono ?_
  rintro e w4 ⟨rfl, rfl⟩
  go_wp2_with fail
  refine hK.out _ _ at4 (fun hHeld => ?_)
  clear hK K
  (try simp only [Act.put, List.setIfInBounds_toArray, List.set_cons_zero, List.set_cons_succ])
  refine take_first 12 (v := ?_) rfl (by kernel_rfl) (by kernel_rfl) (by kernel_rfl) (fun _ _ _ h => h) (Or.inl ⟨by rfl, by intro wx hSw; obtain ⟨⟨hSw1, hSw2, hSw3, hSw4⟩, hSw5, hSw6, hSw7, hSw8⟩ := hSw; go_simp; try with_reducible rfl⟩) (by assumption) ?_
  (try simp only [Act.put, List.setIfInBounds_toArray, List.set_cons_zero, List.set_cons_succ])
  refine wpAnyH_done (by kernel_rfl) ?_ _
  refine NoPanic.normal ?_
  go_wp2
  go_ret
  exact ⟨rfl, bl3'.alloc _⟩
end Go.Proofs.YtlonbbepoamnmaaDoor
