/-
  Proved: for all labels a, b and c, LabelOrder(a, b, c) returns true: of any three labels one is less, or they are one, and what is above is above all beneath; which labels are right; the document's example holds. No condition.
-/
import Derived.Test.YtdnhhbpnefhjlaaLArgs
namespace Go.Proofs.Ytdnhhbpnefhjlaa.labelOrder
open Go.ChangeShapes Go.WideShapes Go.ChangeAt Go.RowKit Go.Sort
open Go.ChangeMaps (open_string shut_string)
set_option linter.unusedVariables false

/-- Three labels in three blocks. -/
def At (B : Nat) (x y z : Lb) (wx : World) : Prop := Bx B x.1 x.2.1 x.2.2.1 x.2.2.2 wx ∧ Bx (B + 1) y.1 y.2.1 y.2.2.1 y.2.2.2 wx ∧ Bx (B + 1 + 1) z.1 z.2.1 z.2.2.1 z.2.2.2 wx
theorem bx_below {B n s : Nat} {p q : Int} {w w' : World} (h : Bx B n p s q w) (hb : Below w.heap.size w w') : Bx B n p s q w' :=
  have k : ∀ {ad v}, w.cell? ad = some v → w'.cell? ad = some v := fun {ad v} h => (hb.cell (World.block_lt_of_cell? w _ h)).trans h
  ⟨k h.1, k h.2.1, k h.2.2.1, k h.2.2.2⟩
theorem At.below {B : Nat} {x y z : Lb} {w w' : World} (h : At B x y z w) (hb : Below w.heap.size w w') : At B x y z w' := ⟨bx_below h.1 hb, bx_below h.2.1 hb, bx_below h.2.2 hb⟩
theorem boxes (w : World) (x y z : Lb) : At w.heap.size x y z (((w.alloc (.cells #[.int .u64 (x.1 : Nat), .int .i64 x.2.1, .int .u64 (x.2.2.1 : Nat), .int .i64 x.2.2.2] 26)).alloc (.cells #[.int .u64 (y.1 : Nat), .int .i64 y.2.1, .int .u64 (y.2.2.1 : Nat), .int .i64 y.2.2.2] 26)).alloc (.cells #[.int .u64 (z.1 : Nat), .int .i64 z.2.1, .int .u64 (z.2.2.1 : Nat), .int .i64 z.2.2.2] 26)) := by
  have h1 := bx_new w x.1 x.2.1 x.2.2.1 x.2.2.2 26
  have h2 := bx_new (w.alloc (.cells #[.int .u64 (x.1 : Nat), .int .i64 x.2.1, .int .u64 (x.2.2.1 : Nat), .int .i64 x.2.2.2] 26)) y.1 y.2.1 y.2.2.1 y.2.2.2 26
  have h3 := bx_new ((w.alloc (.cells #[.int .u64 (x.1 : Nat), .int .i64 x.2.1, .int .u64 (x.2.2.1 : Nat), .int .i64 x.2.2.2] 26)).alloc (.cells #[.int .u64 (y.1 : Nat), .int .i64 y.2.1, .int .u64 (y.2.2.1 : Nat), .int .i64 y.2.2.2] 26)) z.1 z.2.1 z.2.2.1 z.2.2.2 26
  refine ⟨bx_below (bx_below h1 (bl1 _ _)) (bl1 _ _), ?_, ?_⟩
  · have := bx_below h2 (bl1 _ (.cells #[.int .u64 (z.1 : Nat), .int .i64 z.2.1, .int .u64 (z.2.2.1 : Nat), .int .i64 z.2.2.2] 26))
    simpa using this
  · simpa using h3
theorem cmp_anti (x y : Lb) : cmpL x y = 0 - cmpL y x := by
  unfold cmpL cmpV sgn
  (repeat' split) <;> omega
theorem cmp_bound (x y : Lb) : -1 ≤ cmpL x y ∧ cmpL x y ≤ 1 := by
  unfold cmpL cmpV sgn
  (repeat' split) <;> omega
theorem cmp_gt (x y : Lb) : 0 < cmpL x y ↔ ltL y x := by
  rw [← cmpL_lt, cmp_anti x y]; omega
theorem cmp_trans (x y z : Lb) (h1 : 0 < cmpL x y) (h2 : 0 < cmpL y z) : 0 < cmpL x z := by
  rw [cmp_gt] at *
  exact ltL_trans h2 h1

set_option maxRecDepth 10000 in
set_option maxHeartbeats 4000000 in
theorem walk (w : World) (x : Lb) (_ : OkL x) (y : Lb) (_ : OkL y) (z : Lb) (_ : OkL z) :
    Calls Try.prog 3 #[lab x, lab y, lab z] w fun e w' => e = .returned (.bool true) ∧ Below w.heap.size w w' := by
  have at0 := boxes w x y z
  have bl0 : Below w.heap.size w (((w.alloc (.cells #[.int .u64 (x.1 : Nat), .int .i64 x.2.1, .int .u64 (x.2.2.1 : Nat), .int .i64 x.2.2.2] 26)).alloc (.cells #[.int .u64 (y.1 : Nat), .int .i64 y.2.1, .int .u64 (y.2.2.1 : Nat), .int .i64 y.2.2.2] 26)).alloc (.cells #[.int .u64 (z.1 : Nat), .int .i64 z.2.1, .int .u64 (z.2.2.1 : Nat), .int .i64 z.2.2.2] 26)) := (bl2 _ _ _).alloc (by simp; omega) _
  have c1 := fun W => compareL_any W x y
  have c2 := fun W => less_any W x y
  have c3 := fun W => compareL_any W y x
  have c4 := fun W => formL_any W x
  have c5 := fun W => refFormL_any W x
  have c6 := fun W => compareL_any W y z
  have c7 := fun W => compareL_any W x z
  have heq := fun W => lab_equal x y W
  have HT : Hid (0 < cmpL x y → 0 < cmpL y z → 0 < cmpL x z) := fun h1 h2 => cmp_trans x y z h1 h2
  have hE : (cmpL x y == 0) = decide (x = y) := by
    rw [Bool.eq_iff_iff]; simp [cmpL_eq]
  have hng : (cmpL x y != -cmpL y x) = false := by have := cmp_anti x y; simp; omega
  have hb21 := cmp_bound y x
  have hwr : IntKind.i64.wrap (-cmpL y x) = -cmpL y x := by rw [IntWalk.i64_left, IntWalk.wrap64_in _ (by omega)]
  unfold lab at *
  generalize formL x = fm at *
  generalize decide (x = y) = exy at *
  generalize cmpL x y = c12 at *
  generalize cmpL y x = c21 at *
  generalize cmpL y z = c23 at *
  generalize cmpL x z = c13 at *
  go_enter Try.func3, Try.ntmps3
  go_wp2_with fail
  refine wp_region_noPanic ?_
  refine wp_region_held_drew (S := fun wx => At w.heap.size x y z wx) (by kernel_rfl) at0 (fun hHeld => ?_)
  refine comes_up 0 rfl (by kernel_rfl) (fun K hK => ?_)
  go_simp
  refine (awake_any _).mono ?_
  rintro e w1 ⟨rfl, hb1⟩
  have at1 := at0.below (w' := w1) ⟨hb1.os, hb1.tape, hb1.output, hb1.size, hb1.block⟩
  have bl1' := bl_step bl0 (b := w1) ⟨hb1.os, hb1.tape, hb1.output, hb1.size, hb1.block⟩
  clear at0 bl0 hb1 hHeld
  go_wp2_with fail
  refine hK.out _ _ at1 (fun hHeld => ?_)
  clear hK K
  (try simp only [Act.put, List.setIfInBounds_toArray, List.set_cons_zero, List.set_cons_succ])
  refine take_first 1 (v := ?_) rfl (by kernel_rfl) (by kernel_rfl) (by kernel_rfl) (fun _ _ _ h => h) (Or.inl ⟨by rfl, by intro wx hSw; obtain ⟨⟨a0, a1, a2, a3⟩, ⟨b0, b1, b2, b3⟩, d0, d1, d2, d3⟩ := hSw; go_simp; try with_reducible rfl⟩) (by assumption) ?_
  (try simp only [Act.put, List.setIfInBounds_toArray, List.set_cons_zero, List.set_cons_succ])
  refine take_first 2 (v := ?_) rfl (by kernel_rfl) (by kernel_rfl) (by kernel_rfl) (fun _ _ _ h => h) (Or.inl ⟨by rfl, by intro wx hSw; obtain ⟨⟨a0, a1, a2, a3⟩, ⟨b0, b1, b2, b3⟩, d0, d1, d2, d3⟩ := hSw; go_simp; try with_reducible rfl⟩) (by assumption) ?_
  (try simp only [Act.put, List.setIfInBounds_toArray, List.set_cons_zero, List.set_cons_succ])
  refine take_first 3 (v := ?_) rfl (by kernel_rfl) (by kernel_rfl) (by kernel_rfl) (fun _ _ _ h => h) (Or.inl ⟨by rfl, by intro wx hSw; obtain ⟨⟨a0, a1, a2, a3⟩, ⟨b0, b1, b2, b3⟩, d0, d1, d2, d3⟩ := hSw; go_simp; try with_reducible rfl⟩) (by assumption) ?_
  (try simp only [Act.put, List.setIfInBounds_toArray, List.set_cons_zero, List.set_cons_succ])
  refine take_first 5 (v := ?_) rfl (by kernel_rfl) (by kernel_rfl) (by kernel_rfl) (fun _ _ _ h => h) (Or.inl ⟨by rfl, by intro wx hSw; obtain ⟨⟨a0, a1, a2, a3⟩, ⟨b0, b1, b2, b3⟩, d0, d1, d2, d3⟩ := hSw; go_simp; try with_reducible rfl⟩) (by assumption) ?_
  (try simp only [Act.put, List.setIfInBounds_toArray, List.set_cons_zero, List.set_cons_succ])
  refine comes_up 4 rfl (by kernel_rfl) (fun K hK => ?_)
  go_simp
  refine (c4 _).mono ?_
  rintro e w2 ⟨rfl, hu⟩
  have at2 := at1.below hu.bl
  have bl2' := bl_step bl1' hu.bl
  clear at1 bl1' hu hHeld
  go_wp2_with fail
  refine hK.out _ _ at2 (fun hHeld => ?_)
  clear hK K
  (try simp only [Act.put, List.setIfInBounds_toArray, List.set_cons_zero, List.set_cons_succ])
  refine comes_up 6 rfl (by kernel_rfl) (fun K hK => ?_)
  go_simp
  refine (c5 _).mono ?_
  rintro e w3 ⟨rfl, hu⟩
  have at3 := at2.below hu.bl
  have bl3' := bl_step bl2' hu.bl
  clear at2 bl2' hu hHeld
  go_wp2_with fail
  refine hK.out _ _ at3 (fun hHeld => ?_)
  clear hK K
  (try simp only [Act.put, List.setIfInBounds_toArray, List.set_cons_zero, List.set_cons_succ])
  refine take_first 7 (v := .bool false) rfl (by kernel_rfl) (by kernel_rfl) (by kernel_rfl) (fun _ _ _ h => h) (Or.inl ⟨by rfl, by intro wx hSw; obtain ⟨⟨a0, a1, a2, a3⟩, ⟨b0, b1, b2, b3⟩, d0, d1, d2, d3⟩ := hSw; go_simp; try with_reducible rfl⟩) (by assumption) ?_
  (try simp only [Act.put, List.setIfInBounds_toArray, List.set_cons_zero, List.set_cons_succ])
  refine take_first 8 (v := .bool false) rfl (by kernel_rfl) (by kernel_rfl) (by kernel_rfl) (fun _ _ _ h => h) (Or.inl ⟨by rfl, by intro wx hSw; obtain ⟨⟨a0, a1, a2, a3⟩, ⟨b0, b1, b2, b3⟩, d0, d1, d2, d3⟩ := hSw; go_simp; try with_reducible rfl⟩) (by assumption) ?_
  (try simp only [Act.put, List.setIfInBounds_toArray, List.set_cons_zero, List.set_cons_succ])
  refine take_first 9 (v := .bool false) rfl (by kernel_rfl) (by kernel_rfl) (by kernel_rfl) (fun _ _ _ h => h) (Or.inl ⟨by rfl, by intro wx hSw; obtain ⟨⟨a0, a1, a2, a3⟩, ⟨b0, b1, b2, b3⟩, d0, d1, d2, d3⟩ := hSw; go_simp; try with_reducible rfl⟩) (by assumption) ?_
  (try simp only [Act.put, List.setIfInBounds_toArray, List.set_cons_zero, List.set_cons_succ])
  refine take_first 10 (v := ?_) rfl (by kernel_rfl) (by kernel_rfl) (by kernel_rfl) (fun _ _ _ h => h) (Or.inl ⟨by rfl, by intro wx hSw; obtain ⟨⟨a0, a1, a2, a3⟩, ⟨b0, b1, b2, b3⟩, d0, d1, d2, d3⟩ := hSw; go_simp; try with_reducible rfl⟩) (by assumption) ?_
  (try simp only [Act.put, List.setIfInBounds_toArray, List.set_cons_zero, List.set_cons_succ])
  refine take_first 11 (v := ?_) rfl (by kernel_rfl) (by kernel_rfl) (by kernel_rfl) (fun _ _ _ h => h) (Or.inl ⟨by rfl, by intro wx hSw; obtain ⟨⟨a0, a1, a2, a3⟩, ⟨b0, b1, b2, b3⟩, d0, d1, d2, d3⟩ := hSw; go_simp; try with_reducible rfl⟩) (by assumption) ?_
  (try simp only [Act.put, List.setIfInBounds_toArray, List.set_cons_zero, List.set_cons_succ])
  refine take_first 14 (v := ?_) rfl (by kernel_rfl) (by kernel_rfl) (by kernel_rfl) (fun _ _ _ h => h) (Or.inl ⟨by rfl, by intro wx hSw; obtain ⟨⟨a0, a1, a2, a3⟩, ⟨b0, b1, b2, b3⟩, d0, d1, d2, d3⟩ := hSw; go_simp; try with_reducible rfl⟩) (by assumption) ?_
  (try simp only [Act.put, List.setIfInBounds_toArray, List.set_cons_zero, List.set_cons_succ])
  refine take_first 15 (v := ?_) rfl (by kernel_rfl) (by kernel_rfl) (by kernel_rfl) (fun _ _ _ h => h) (Or.inl ⟨by rfl, by intro wx hSw; obtain ⟨⟨a0, a1, a2, a3⟩, ⟨b0, b1, b2, b3⟩, d0, d1, d2, d3⟩ := hSw; go_simp; try with_reducible rfl⟩) (by assumption) ?_
  (try simp only [Act.put, List.setIfInBounds_toArray, List.set_cons_zero, List.set_cons_succ])
  refine comes_up 12 rfl (by kernel_rfl) (fun K hK => ?_)
  go_simp
  refine (c1 _).mono ?_
  rintro e w4 ⟨rfl, hu⟩
  have at4 := at3.below hu.bl
  have bl4' := bl_step bl3' hu.bl
  clear at3 bl3' hu hHeld
  go_wp2_with fail
  refine hK.out _ _ at4 (fun hHeld => ?_)
  clear hK K
  (try simp only [Act.put, List.setIfInBounds_toArray, List.set_cons_zero, List.set_cons_succ])
  refine take_first 13 (v := ?_) rfl (by kernel_rfl) (by kernel_rfl) (by kernel_rfl) (fun _ _ _ h => h) (Or.inl ⟨by rfl, by intro wx hSw; obtain ⟨⟨a0, a1, a2, a3⟩, ⟨b0, b1, b2, b3⟩, d0, d1, d2, d3⟩ := hSw; go_simp; try with_reducible rfl⟩) (by assumption) ?_
  (try simp only [Act.put, List.setIfInBounds_toArray, List.set_cons_zero, List.set_cons_succ])
  refine comes_up 16 rfl (by kernel_rfl) (fun K hK => ?_)
  go_simp
  refine (c2 _).mono ?_
  rintro e w5 ⟨rfl, hu⟩
  have at5 := at4.below hu.bl
  have bl5' := bl_step bl4' hu.bl
  clear at4 bl4' hu hHeld
  go_wp2_with fail
  refine hK.out _ _ at5 (fun hHeld => ?_)
  clear hK K
  (try simp only [Act.put, List.setIfInBounds_toArray, List.set_cons_zero, List.set_cons_succ])
  refine take_first 17 (v := .bool false) rfl (by kernel_rfl) (by kernel_rfl) (by kernel_rfl) (fun _ _ _ h => h) (Or.inl ⟨by rfl, by intro wx hSw; obtain ⟨⟨a0, a1, a2, a3⟩, ⟨b0, b1, b2, b3⟩, d0, d1, d2, d3⟩ := hSw; go_simp; try with_reducible rfl⟩) (by assumption) ?_
  (try simp only [Act.put, List.setIfInBounds_toArray, List.set_cons_zero, List.set_cons_succ])
  refine take_first 18 (v := .bool false) rfl (by kernel_rfl) (by kernel_rfl) (by kernel_rfl) (fun _ _ _ h => h) (Or.inl ⟨by rfl, by intro wx hSw; obtain ⟨⟨a0, a1, a2, a3⟩, ⟨b0, b1, b2, b3⟩, d0, d1, d2, d3⟩ := hSw; go_simp; try with_reducible rfl⟩) (by assumption) ?_
  (try simp only [Act.put, List.setIfInBounds_toArray, List.set_cons_zero, List.set_cons_succ])
  refine take_first 19 (v := .bool false) rfl (by kernel_rfl) (by kernel_rfl) (by kernel_rfl) (fun _ _ _ h => h) (Or.inl ⟨by rfl, by intro wx hSw; obtain ⟨⟨a0, a1, a2, a3⟩, ⟨b0, b1, b2, b3⟩, d0, d1, d2, d3⟩ := hSw; go_simp; try with_reducible rfl⟩) (by assumption) ?_
  (try simp only [Act.put, List.setIfInBounds_toArray, List.set_cons_zero, List.set_cons_succ])
  refine take_first 20 (v := ?_) rfl (by kernel_rfl) (by kernel_rfl) (by kernel_rfl) (fun _ _ _ h => h) (Or.inl ⟨by rfl, by intro wx hSw; obtain ⟨⟨a0, a1, a2, a3⟩, ⟨b0, b1, b2, b3⟩, d0, d1, d2, d3⟩ := hSw; go_simp; try with_reducible rfl⟩) (by assumption) ?_
  (try simp only [Act.put, List.setIfInBounds_toArray, List.set_cons_zero, List.set_cons_succ])
  refine take_first 21 (v := ?_) rfl (by kernel_rfl) (by kernel_rfl) (by kernel_rfl) (fun _ _ _ h => h) (Or.inl ⟨by rfl, by intro wx hSw; obtain ⟨⟨a0, a1, a2, a3⟩, ⟨b0, b1, b2, b3⟩, d0, d1, d2, d3⟩ := hSw; go_simp; try with_reducible rfl⟩) (by assumption) ?_
  (try simp only [Act.put, List.setIfInBounds_toArray, List.set_cons_zero, List.set_cons_succ])
  refine take_first 24 (v := ?_) rfl (by kernel_rfl) (by kernel_rfl) (by kernel_rfl) (fun _ _ _ h => h) (Or.inl ⟨by rfl, by intro wx hSw; obtain ⟨⟨a0, a1, a2, a3⟩, ⟨b0, b1, b2, b3⟩, d0, d1, d2, d3⟩ := hSw; go_simp; try with_reducible rfl⟩) (by assumption) ?_
  (try simp only [Act.put, List.setIfInBounds_toArray, List.set_cons_zero, List.set_cons_succ])
  refine take_first 25 (v := ?_) rfl (by kernel_rfl) (by kernel_rfl) (by kernel_rfl) (fun _ _ _ h => h) (Or.inl ⟨by rfl, by intro wx hSw; obtain ⟨⟨a0, a1, a2, a3⟩, ⟨b0, b1, b2, b3⟩, d0, d1, d2, d3⟩ := hSw; go_simp; try with_reducible rfl⟩) (by assumption) ?_
  (try simp only [Act.put, List.setIfInBounds_toArray, List.set_cons_zero, List.set_cons_succ])
  refine take_first 26 (v := ?_) rfl (by kernel_rfl) (by kernel_rfl) (by kernel_rfl) (fun _ _ _ h => h) (Or.inl ⟨by rfl, by intro wx hSw; obtain ⟨⟨a0, a1, a2, a3⟩, ⟨b0, b1, b2, b3⟩, d0, d1, d2, d3⟩ := hSw; go_simp; try with_reducible rfl⟩) (by assumption) ?_
  (try simp only [Act.put, List.setIfInBounds_toArray, List.set_cons_zero, List.set_cons_succ])
  refine comes_up 22 rfl (by kernel_rfl) (fun K hK => ?_)
  go_simp
  refine (c1 _).mono ?_
  rintro e w6 ⟨rfl, hu⟩
  have at6 := at5.below hu.bl
  have bl6' := bl_step bl5' hu.bl
  clear at5 bl5' hu hHeld
  go_wp2_with fail
  refine hK.out _ _ at6 (fun hHeld => ?_)
  clear hK K
  (try simp only [Act.put, List.setIfInBounds_toArray, List.set_cons_zero, List.set_cons_succ])
  refine take_first 23 (v := ?_) rfl (by kernel_rfl) (by kernel_rfl) (by kernel_rfl) (fun _ _ _ h => h) (Or.inl ⟨by rfl, by intro wx hSw; obtain ⟨⟨a0, a1, a2, a3⟩, ⟨b0, b1, b2, b3⟩, d0, d1, d2, d3⟩ := hSw; go_simp; try with_reducible rfl⟩) (by assumption) ?_
  (try simp only [Act.put, List.setIfInBounds_toArray, List.set_cons_zero, List.set_cons_succ])
  refine take_first 27 (v := .bool false) rfl (by kernel_rfl) (by kernel_rfl) (by kernel_rfl) (fun _ _ _ h => h) (Or.inl ⟨by rfl, by intro wx hSw; obtain ⟨⟨a0, a1, a2, a3⟩, ⟨b0, b1, b2, b3⟩, d0, d1, d2, d3⟩ := hSw; go_simp; try with_reducible rfl⟩) (by assumption) ?_
  (try simp only [Act.put, List.setIfInBounds_toArray, List.set_cons_zero, List.set_cons_succ])
  refine take_first 28 (v := .bool false) rfl (by kernel_rfl) (by kernel_rfl) (by kernel_rfl) (fun _ _ _ h => h) (Or.inl ⟨by rfl, by intro wx hSw; obtain ⟨⟨a0, a1, a2, a3⟩, ⟨b0, b1, b2, b3⟩, d0, d1, d2, d3⟩ := hSw; go_simp; try with_reducible rfl⟩) (by assumption) ?_
  (try simp only [Act.put, List.setIfInBounds_toArray, List.set_cons_zero, List.set_cons_succ])
  refine take_first 29 (v := .bool false) rfl (by kernel_rfl) (by kernel_rfl) (by kernel_rfl) (fun _ _ _ h => h) (Or.inl ⟨by rfl, by intro wx hSw; obtain ⟨⟨a0, a1, a2, a3⟩, ⟨b0, b1, b2, b3⟩, d0, d1, d2, d3⟩ := hSw; go_simp; try with_reducible rfl⟩) (by assumption) ?_
  (try simp only [Act.put, List.setIfInBounds_toArray, List.set_cons_zero, List.set_cons_succ])
  refine take_first 30 (v := ?_) rfl (by kernel_rfl) (by kernel_rfl) (by kernel_rfl) (fun _ _ _ h => h) (Or.inl ⟨by rfl, by intro wx hSw; obtain ⟨⟨a0, a1, a2, a3⟩, ⟨b0, b1, b2, b3⟩, d0, d1, d2, d3⟩ := hSw; go_simp; try with_reducible rfl⟩) (by assumption) ?_
  (try simp only [Act.put, List.setIfInBounds_toArray, List.set_cons_zero, List.set_cons_succ])
  refine take_first 31 (v := ?_) rfl (by kernel_rfl) (by kernel_rfl) (by kernel_rfl) (fun _ _ _ h => h) (Or.inl ⟨by rfl, by intro wx hSw; obtain ⟨⟨a0, a1, a2, a3⟩, ⟨b0, b1, b2, b3⟩, d0, d1, d2, d3⟩ := hSw; go_simp; try with_reducible rfl⟩) (by assumption) ?_
  (try simp only [Act.put, List.setIfInBounds_toArray, List.set_cons_zero, List.set_cons_succ])
  refine take_first 33 (v := ?_) rfl (by kernel_rfl) (by kernel_rfl) (by kernel_rfl) (fun _ _ _ h => h) (Or.inl ⟨by rfl, by intro wx hSw; obtain ⟨⟨a0, a1, a2, a3⟩, ⟨b0, b1, b2, b3⟩, d0, d1, d2, d3⟩ := hSw; go_simp; try with_reducible rfl⟩) (by assumption) ?_
  (try simp only [Act.put, List.setIfInBounds_toArray, List.set_cons_zero, List.set_cons_succ])
  refine take_first 34 (v := ?_) rfl (by kernel_rfl) (by kernel_rfl) (by kernel_rfl) (fun _ _ _ h => h) (Or.inl ⟨by rfl, by intro wx hSw; obtain ⟨⟨a0, a1, a2, a3⟩, ⟨b0, b1, b2, b3⟩, d0, d1, d2, d3⟩ := hSw; go_simp; try with_reducible rfl⟩) (by assumption) ?_
  (try simp only [Act.put, List.setIfInBounds_toArray, List.set_cons_zero, List.set_cons_succ])
  refine comes_up 32 rfl (by kernel_rfl) (fun K hK => ?_)
  go_simp
  refine (c1 _).mono ?_
  rintro e w7 ⟨rfl, hu⟩
  have at7 := at6.below hu.bl
  have bl7' := bl_step bl6' hu.bl
  clear at6 bl6' hu hHeld
  go_wp2_with fail
  refine hK.out _ _ at7 (fun hHeld => ?_)
  clear hK K
  (try simp only [Act.put, List.setIfInBounds_toArray, List.set_cons_zero, List.set_cons_succ])
  refine comes_up 35 rfl (by kernel_rfl) (fun K hK => ?_)
  go_simp
  refine (c3 _).mono ?_
  rintro e w8 ⟨rfl, hu⟩
  have at8 := at7.below hu.bl
  have bl8' := bl_step bl7' hu.bl
  clear at7 bl7' hu hHeld
  go_wp2_with fail
  refine hK.out _ _ at8 (fun hHeld => ?_)
  clear hK K
  (try simp only [Act.put, List.setIfInBounds_toArray, List.set_cons_zero, List.set_cons_succ])
  refine take_first 36 (v := ?_) rfl (by kernel_rfl) (by kernel_rfl) (by kernel_rfl) (fun _ _ _ h => h) (Or.inl ⟨by rfl, by intro wx hSw; obtain ⟨⟨a0, a1, a2, a3⟩, ⟨b0, b1, b2, b3⟩, d0, d1, d2, d3⟩ := hSw; go_simp; try with_reducible rfl⟩) (by assumption) ?_
  (try simp only [Act.put, List.setIfInBounds_toArray, List.set_cons_zero, List.set_cons_succ])
  refine take_first 37 (v := .bool false) rfl (by kernel_rfl) (by kernel_rfl) (by kernel_rfl) (fun _ _ _ h => h) (Or.inl ⟨by rfl, by intro wx hSw; obtain ⟨⟨a0, a1, a2, a3⟩, ⟨b0, b1, b2, b3⟩, d0, d1, d2, d3⟩ := hSw; go_simp; try with_reducible rfl⟩) (by assumption) ?_
  (try simp only [Act.put, List.setIfInBounds_toArray, List.set_cons_zero, List.set_cons_succ])
  refine take_first 38 (v := .bool false) rfl (by kernel_rfl) (by kernel_rfl) (by kernel_rfl) (fun _ _ _ h => h) (Or.inl ⟨by rfl, by intro wx hSw; obtain ⟨⟨a0, a1, a2, a3⟩, ⟨b0, b1, b2, b3⟩, d0, d1, d2, d3⟩ := hSw; go_simp; try with_reducible rfl⟩) (by assumption) ?_
  (try simp only [Act.put, List.setIfInBounds_toArray, List.set_cons_zero, List.set_cons_succ])
  refine wpAnyH_done (by kernel_rfl) ?_ _
  refine NoPanic.normal ?_
  obtain ⟨⟨a0, a1, a2, a3⟩, ⟨b0, b1, b2, b3⟩, d0, d1, d2, d3⟩ := at8
  have AT8 : Hid (At w.heap.size x y z w8) := ⟨⟨a0, a1, a2, a3⟩, ⟨b0, b1, b2, b3⟩, d0, d1, d2, d3⟩
  clear hHeld hE hng heq c2 c3 c4 c5
  by_cases h12 : 0 < c12
  · have d12 : decide (0 < c12) = true := by simpa using h12
    go_wp2_with fail
    refine (c1 _).mono ?_
    rintro e w9 ⟨rfl, hu⟩
    have AT9 : Hid (At w.heap.size x y z w9) := AT8.out.below hu.bl
    have bl9' := bl_step bl8' hu.bl
    clear bl8' hu a0 a1 a2 a3 b0 b1 b2 b3 d0 d1 d2 d3
    obtain ⟨⟨a0, a1, a2, a3⟩, ⟨b0, b1, b2, b3⟩, d0, d1, d2, d3⟩ := AT9.out
    by_cases h23 : 0 < c23
    · have h13 := HT.out h12 h23
      have d23 : decide (0 < c23) = true := by simpa using h23
      have d13 : decide (0 < c13) = true := by simpa using h13
      go_wp2_with fail
      refine (c6 _).mono ?_
      rintro e w10 ⟨rfl, hu⟩
      have AT10 : Hid (At w.heap.size x y z w10) := AT9.out.below hu.bl
      have bl10' := bl_step bl9' hu.bl
      clear bl9' hu a0 a1 a2 a3 b0 b1 b2 b3 d0 d1 d2 d3
      obtain ⟨⟨a0, a1, a2, a3⟩, ⟨b0, b1, b2, b3⟩, d0, d1, d2, d3⟩ := AT10.out
      go_wp2_with fail
      refine (c7 _).mono ?_
      rintro e w11 ⟨rfl, hu⟩
      have bl11' := bl_step bl10' hu.bl
      clear bl10' hu a0 a1 a2 a3 b0 b1 b2 b3 d0 d1 d2 d3
      go_wp2
      go_ret
      exact ⟨ret_bool (by simp), bl11'⟩
    · have d23 : decide (0 < c23) = false := by simpa using h23
      go_wp2_with fail
      refine (c6 _).mono ?_
      rintro e w10 ⟨rfl, hu⟩
      have bl10' := bl_step bl9' hu.bl
      clear bl9' hu a0 a1 a2 a3 b0 b1 b2 b3 d0 d1 d2 d3
      go_wp2
      go_ret
      exact ⟨ret_bool (by simp), bl10'⟩
  · have d12 : decide (0 < c12) = false := by simpa using h12
    go_wp2_with fail
    refine (c1 _).mono ?_
    rintro e w9 ⟨rfl, hu⟩
    have bl9' := bl_step bl8' hu.bl
    clear bl8' hu a0 a1 a2 a3 b0 b1 b2 b3 d0 d1 d2 d3
    go_wp2
    go_ret
    exact ⟨ret_bool (by simp), bl9'⟩

set_option maxRecDepth 100000 in
theorem lifted (os : Os) (started : os.Started) (H : Type) (enc : TypeId × Value → H) :
    ReturnsInHanded {} Try.checked os 3 .any (Rows.labelOrderSpec.pre6 enc Try.prog Try.f3 Rows.labelOrderRow.domain false) (Rows.labelOrderSpec.post enc Try.prog Try.f3 false true false false) := by
  refine returnsInHanded_of_change (C := Try.checked) own started (by kernel_rfl) Try.func3
    (ChangeSpec.witness6 (enc := enc) (C := Try.checked) false ⟨#[], #[.agg #[.int .u64 0, .int .i64 0, .int .u64 0, .int .i64 0], .agg #[.int .u64 0, .int .i64 0, .int .u64 0, .int .i64 0], .agg #[.int .u64 0, .int .i64 0, .int .u64 0, .int .i64 0]], []⟩ 3 (by kernel_rfl) (by kernel_rfl) (by kernel_rfl) (by kernel_rfl)) ?_
  intro W base args ds gs before hval0 hW hcnd _
  have hval : ∀ (j : Nat) t v, Try.f3.params[j]? = some t → args[j]? = some v → Value.okWide Try.prog W .any base t v := hval0
  have hW' := hW
  obtain ⟨p, q, hA0, hV, rfl, hfz, hnd⟩ := hW
  have hA : DataW.TrodAll enc Try.prog W 0 (fun _ => true) true Try.f3.params.toList args.toList ds p := hA0
  rw [Try.params3] at hA hval
  obtain ⟨v0, vs0, d0, ds0, p0, q0, hargs0, rfl, rfl, h0, r0⟩ := trodAll_cons hA
  obtain ⟨v1, vs1, d1, ds1, p1, q1, hargs1, rfl, rfl, h1, r1⟩ := trodAll_cons r0
  obtain ⟨v2, vs2, d2, ds2, p2, q2, hargs2, rfl, rfl, h2, r2⟩ := trodAll_cons r1
  obtain ⟨rfl, rfl, rfl⟩ := trodAll_nil r2
  obtain rfl : args = #[v0, v1, v2] := by cases args; simp_all
  obtain ⟨rfl, rfl⟩ := trodVars_none hV
  have k0 := h0
  obtain ⟨x0, hx0, rfl, rfl⟩ := open_lab (hval 0 26 v0 rfl rfl) h0
  have k1 := h1
  obtain ⟨x1, hx1, rfl, rfl⟩ := open_lab (hval 1 26 v1 rfl rfl) h1
  have k2 := h2
  obtain ⟨x2, hx2, rfl, rfl⟩ := open_lab (hval 2 26 v2 rfl rfl) h2
  clear hA0 hval0
  refine (walk W x0 hx0 x1 hx1 x2 hx2).mono fun e W' ⟨he, bel⟩ => ?_
  subst he
  exact ⟨_, rfl, _, _, _, [], _, [], hW', trodAll_mk1 (shut_bool Try.underlying4 _), (trodAll_cons_mk (WideElems.Trod_stays laidOut rec26 row26 k0 (by simp) (by simp)) (trodAll_cons_mk (WideElems.Trod_stays laidOut rec26 row26 k1 (by simp) (by simp)) (trodAll_cons_mk (WideElems.Trod_stays laidOut rec26 row26 k2 (by simp) (by simp)) trodAll_mk0))), rfl, bel.frame _, fun h => by cases h⟩

theorem over : Rows.labelOrderRow.holds Try.pinned (OpenSpec.ofChange Rows.labelOrderSpec) :=
  OpenClaim.holds_of_wide 3 Try.f3 rfl rfl rfl rfl rfl rfl rfl ⟨rfl, rfl, rfl, rfl, rfl⟩ rfl rfl rfl rfl rfl (by kernel_rfl) Try.func3 (by kernel_rfl)
    (of_decide_eq_true (by kernel_rfl)) (by unfold Func.isWrapper; first | (rw [if_pos (by decide +kernel)]; kernel_rfl) | (rw [if_neg (by decide +kernel)]; exact ⟨rfl, rfl⟩))
    (fun os started H enc _ => lifted os started H enc)

end Go.Proofs.Ytdnhhbpnefhjlaa.labelOrder
namespace Go.Proofs.Ytdnhhbpnefhjlaa
theorem labelOrder_holds : Rows.LabelOrderSaid := labelOrder.over
#print axioms labelOrder_holds
end Go.Proofs.Ytdnhhbpnefhjlaa
