/-
  Proved: for all views' numbers a, b and c, IdentOrder(a, b, c) returns true: of any three views' numbers one is greater, or they are one; and what is above is above all beneath; the document's examples hold. No condition.
-/
import Derived.Test.YtlahdemhigcjnaaRows
import Derived.Test.YtlahdemhigcjnaaIVid
namespace Go.Proofs.Ytlahdemhigcjnaa.identOrder
open Go.ChangeShapes Go.WideShapes Go.ChangeAt Go.RowKit Go.Joins
open Go.ChangeMaps (open_string shut_string)
set_option linter.unusedVariables false

/-- Three views' numbers in three blocks. -/
def At (B : Nat) (n1 : Nat) (p1 : Int) (n2 : Nat) (p2 : Int) (n3 : Nat) (p3 : Int) (wx : World) : Prop :=
  (wx.cell? ⟨B, 0, none⟩ = some (.int .u64 (n1 : Nat)) ∧ wx.cell? ⟨B, 1, none⟩ = some (.int .i64 p1)) ∧ (wx.cell? ⟨B + 1, 0, none⟩ = some (.int .u64 (n2 : Nat)) ∧ wx.cell? ⟨B + 1, 1, none⟩ = some (.int .i64 p2)) ∧ (wx.cell? ⟨B + 1 + 1, 0, none⟩ = some (.int .u64 (n3 : Nat)) ∧ wx.cell? ⟨B + 1 + 1, 1, none⟩ = some (.int .i64 p3))
theorem At.below {B n1 n2 n3 : Nat} {p1 p2 p3 : Int} {w w' : World} (h : At B n1 p1 n2 p2 n3 p3 w) (hb : Below w.heap.size w w') : At B n1 p1 n2 p2 n3 p3 w' := by
  obtain ⟨⟨a, b⟩, ⟨c, d⟩, e, f⟩ := h
  have k : ∀ {ad v}, w.cell? ad = some v → w'.cell? ad = some v := fun {ad v} h => (hb.cell (World.block_lt_of_cell? w _ h)).trans h
  exact ⟨⟨k a, k b⟩, ⟨k c, k d⟩, k e, k f⟩

theorem bl_step {w a b : World} (h : Below w.heap.size w a) (k : Below a.heap.size a b) : Below w.heap.size w b := h.trans (k.mono h.size)

theorem struct_eq {α : Type} (f : Bool → α) (n1 n2 : Nat) (p1 p2 c : Int) (h : c = 0 ↔ n1 = n2 ∧ p1 = p2) : (if (n1 : Int) = (n2 : Int) then (if p1 = p2 then f true else f false) else f false) = f (c == 0) := by
  by_cases hc : c = 0
  · obtain ⟨e1, e2⟩ := h.1 hc
    rw [if_pos (by omega), if_pos e2, hc]; rfl
  · have hf : (c == 0) = false := by simpa using hc
    rw [hf]
    by_cases e1 : (n1 : Int) = n2
    · rw [if_pos e1, if_neg (fun e2 => hc (h.2 ⟨by omega, e2⟩))]
    · rw [if_neg e1]

theorem cmp_anti (n1 : Nat) (p1 : Int) (n2 : Nat) (p2 : Int) : cmpV n1 p1 n2 p2 = 0 - cmpV n2 p2 n1 p1 := by
  unfold cmpV sgn; split <;> split <;> (try split) <;> (try split) <;> (try split) <;> (try split) <;> omega
theorem cmp_eq (n1 : Nat) (p1 : Int) (n2 : Nat) (p2 : Int) : cmpV n1 p1 n2 p2 = 0 ↔ n1 = n2 ∧ p1 = p2 := by
  unfold cmpV sgn; split <;> (try split) <;> (try split) <;> (try split) <;> omega
theorem cmp_trans (n1 : Nat) (p1 : Int) (n2 : Nat) (p2 : Int) (n3 : Nat) (p3 : Int) (h1 : 0 < cmpV n1 p1 n2 p2) (h2 : 0 < cmpV n2 p2 n3 p3) : 0 < cmpV n1 p1 n3 p3 := by
  unfold cmpV sgn at *
  have a1 : n2 < n1 ∨ (n1 = n2 ∧ p2 < p1) := by split at h1 <;> (try split at h1) <;> (try split at h1) <;> (try split at h1) <;> omega
  have a2 : n3 < n2 ∨ (n2 = n3 ∧ p3 < p2) := by split at h2 <;> (try split at h2) <;> (try split at h2) <;> (try split at h2) <;> omega
  by_cases b : n3 < n1
  · rw [if_neg (by omega), if_pos b]; omega
  · rw [if_neg (by omega), if_neg b, if_neg (by omega), if_pos (by omega)]; omega
theorem cmp_bound (n1 : Nat) (p1 : Int) (n2 : Nat) (p2 : Int) : -1 ≤ cmpV n1 p1 n2 p2 ∧ cmpV n1 p1 n2 p2 ≤ 1 := by
  unfold cmpV sgn; split <;> (try split) <;> (try split) <;> (try split) <;> omega

theorem cell_box (w : World) (c : Array Value) (t : TypeId) (j : Nat) (v : Value) (hj : c[j]? = some v) : (w.alloc (.cells c t)).cell? ⟨w.heap.size, j, none⟩ = some v := by
  have hb : (w.alloc (.cells c t)).heap[w.heap.size]? = some (.cells c t (0, 0)) := Deep.blk_alloc_new _ _
  unfold World.cell?; rw [hb]; simpa using hj
theorem boxes (w : World) (n1 : Nat) (p1 : Int) (n2 : Nat) (p2 : Int) (n3 : Nat) (p3 : Int) (t : TypeId) : At w.heap.size n1 p1 n2 p2 n3 p3 (((w.alloc (.cells #[.int .u64 (n1 : Nat), .int .i64 p1] t)).alloc (.cells #[.int .u64 (n2 : Nat), .int .i64 p2] t)).alloc (.cells #[.int .u64 (n3 : Nat), .int .i64 p3] t)) := by
  have up : ∀ (W : World) (o : Obj) {ad v}, W.cell? ad = some v → (W.alloc o).cell? ad = some v := fun W o {ad v} h => (((Below.refl _ W).alloc (Nat.le_refl _) o).cell (World.block_lt_of_cell? W _ h)).trans h
  refine ⟨⟨up _ _ (up _ _ (cell_box _ _ _ 0 _ rfl)), up _ _ (up _ _ (cell_box _ _ _ 1 _ rfl))⟩, ⟨up _ _ ?_, up _ _ ?_⟩, ?_, ?_⟩
  · simp
  · simp
  · have := cell_box ((w.alloc (.cells #[.int .u64 (n1 : Nat), .int .i64 p1] t)).alloc (.cells #[.int .u64 (n2 : Nat), .int .i64 p2] t)) #[.int .u64 (n3 : Nat), .int .i64 p3] t 0 _ rfl
    simpa using this
  · have := cell_box ((w.alloc (.cells #[.int .u64 (n1 : Nat), .int .i64 p1] t)).alloc (.cells #[.int .u64 (n2 : Nat), .int .i64 p2] t)) #[.int .u64 (n3 : Nat), .int .i64 p3] t 1 _ rfl
    simpa using this

set_option maxRecDepth 10000 in
set_option maxHeartbeats 4000000 in
theorem walk (w : World) (n1 : Nat) (_ : n1 < 18446744073709551616) (p1 : Int) (_ : In p1) (n2 : Nat) (_ : n2 < 18446744073709551616) (p2 : Int) (_ : In p2) (n3 : Nat) (_ : n3 < 18446744073709551616) (p3 : Int) (_ : In p3) :
    Calls Try.prog 4 #[.agg #[.int .u64 (n1 : Nat), .int .i64 p1], .agg #[.int .u64 (n2 : Nat), .int .i64 p2], .agg #[.int .u64 (n3 : Nat), .int .i64 p3]] w fun e w' => e = .returned (.bool true) ∧ Below w.heap.size w w' := by
  have at0 := boxes w n1 p1 n2 p2 n3 p3 29
  have bl0 : Below w.heap.size w (((w.alloc (.cells #[.int .u64 (n1 : Nat), .int .i64 p1] 29)).alloc (.cells #[.int .u64 (n2 : Nat), .int .i64 p2] 29)).alloc (.cells #[.int .u64 (n3 : Nat), .int .i64 p3] 29)) := (bl2 _ _ _).alloc (by simp; omega) _
  have c1 := fun W => compare_any W n1 p1 n2 p2
  have c2 := fun W => refCompare_any W n1 p1 n2 p2
  have c3 := fun W => above_any W n1 p1 n2 p2
  have c4 := fun W => form_any W n1 p1
  have c5 := fun W => refForm_any W n1 p1
  have c6 := fun W => compare_any W n2 p2 n1 p1
  have c7 := fun W => above_any W n2 p2 n3 p3
  have c8 := fun W => above_any W n1 p1 n3 p3
  have HT : Hid (0 < cmpV n1 p1 n2 p2 → 0 < cmpV n2 p2 n3 p3 → 0 < cmpV n1 p1 n3 p3) := fun h1 h2 => cmp_trans n1 p1 n2 p2 n3 p3 h1 h2
  unfold vid at c1 c2 c3 c4 c5 c6 c7 c8
  have hb12 := cmp_bound n1 p1 n2 p2
  have hb21 := cmp_bound n2 p2 n1 p1
  have ha := cmp_anti n1 p1 n2 p2
  have he := cmp_eq n1 p1 n2 p2
  have HA : Hid (cmpV n1 p1 n2 p2 = 0 - cmpV n2 p2 n1 p1) := ha
  have HEQ : Hid (cmpV n1 p1 n2 p2 = 0 ↔ n1 = n2 ∧ p1 = p2) := he
  clear ha he
  generalize formV n1 p1 = fm at *
  go_enter Try.func4, Try.ntmps4
  go_wp2_with fail
  refine wp_region_noPanic ?_
  refine wp_region_held_drew (S := fun wx => At w.heap.size n1 p1 n2 p2 n3 p3 wx) (by kernel_rfl) at0 (fun hHeld => ?_)
  refine comes_up 0 rfl (by kernel_rfl) (fun K hK => ?_)
  go_simp
  refine (awake_any _).mono ?_
  rintro e w1 ⟨rfl, hb1⟩
  have at1 := at0.below (w' := w1) ⟨hb1.os, hb1.tape, hb1.output, hb1.size, hb1.block⟩
  have bl1 := bl_step bl0 (b := w1) ⟨hb1.os, hb1.tape, hb1.output, hb1.size, hb1.block⟩
  clear at0 bl0 hb1
  go_wp2_with fail
  refine hK.out _ _ at1 (fun hHeld => ?_)
  clear hK K
  (try simp only [Act.put, List.setIfInBounds_toArray, List.set_cons_zero, List.set_cons_succ])
  refine take_first 1 (v := ?_) rfl (by kernel_rfl) (by kernel_rfl) (by kernel_rfl) (fun _ _ _ h => h) (Or.inl ⟨by rfl, by intro wx hSw; obtain ⟨⟨hSw1, hSw2⟩, ⟨hSw3, hSw4⟩, hSw5, hSw6⟩ := hSw; go_simp; try with_reducible rfl⟩) (by assumption) ?_
  (try simp only [Act.put, List.setIfInBounds_toArray, List.set_cons_zero, List.set_cons_succ])
  refine take_first 2 (v := ?_) rfl (by kernel_rfl) (by kernel_rfl) (by kernel_rfl) (fun _ _ _ h => h) (Or.inl ⟨by rfl, by intro wx hSw; obtain ⟨⟨hSw1, hSw2⟩, ⟨hSw3, hSw4⟩, hSw5, hSw6⟩ := hSw; go_simp; try with_reducible rfl⟩) (by assumption) ?_
  (try simp only [Act.put, List.setIfInBounds_toArray, List.set_cons_zero, List.set_cons_succ])
  refine take_first 3 (v := ?_) rfl (by kernel_rfl) (by kernel_rfl) (by kernel_rfl) (fun _ _ _ h => h) (Or.inl ⟨by rfl, by intro wx hSw; obtain ⟨⟨hSw1, hSw2⟩, ⟨hSw3, hSw4⟩, hSw5, hSw6⟩ := hSw; go_simp; try with_reducible rfl⟩) (by assumption) ?_
  (try simp only [Act.put, List.setIfInBounds_toArray, List.set_cons_zero, List.set_cons_succ])
  refine take_first 4 (v := ?_) rfl (by kernel_rfl) (by kernel_rfl) (by kernel_rfl) (fun _ _ _ h => h) (Or.inl ⟨by rfl, by intro wx hSw; obtain ⟨⟨hSw1, hSw2⟩, ⟨hSw3, hSw4⟩, hSw5, hSw6⟩ := hSw; go_simp; try with_reducible rfl⟩) (by assumption) ?_
  (try simp only [Act.put, List.setIfInBounds_toArray, List.set_cons_zero, List.set_cons_succ])
  refine take_first 6 (v := ?_) rfl (by kernel_rfl) (by kernel_rfl) (by kernel_rfl) (fun _ _ _ h => h) (Or.inl ⟨by rfl, by intro wx hSw; obtain ⟨⟨hSw1, hSw2⟩, ⟨hSw3, hSw4⟩, hSw5, hSw6⟩ := hSw; go_simp; try with_reducible rfl⟩) (by assumption) ?_
  (try simp only [Act.put, List.setIfInBounds_toArray, List.set_cons_zero, List.set_cons_succ])
  refine take_first 7 (v := ?_) rfl (by kernel_rfl) (by kernel_rfl) (by kernel_rfl) (fun _ _ _ h => h) (Or.inl ⟨by rfl, by intro wx hSw; obtain ⟨⟨hSw1, hSw2⟩, ⟨hSw3, hSw4⟩, hSw5, hSw6⟩ := hSw; go_simp; try with_reducible rfl⟩) (by assumption) ?_
  (try simp only [Act.put, List.setIfInBounds_toArray, List.set_cons_zero, List.set_cons_succ])
  refine comes_up 5 rfl (by kernel_rfl) (fun K hK => ?_)
  go_simp
  refine (c1 _).mono ?_
  rintro e w2 ⟨rfl, hb2⟩
  have at2 := at1.below hb2
  have bl2 := bl_step bl1 hb2
  clear at1 bl1 hb2
  go_wp2_with fail
  refine hK.out _ _ at2 (fun hHeld => ?_)
  clear hK K
  (try simp only [Act.put, List.setIfInBounds_toArray, List.set_cons_zero, List.set_cons_succ])
  refine comes_up 8 rfl (by kernel_rfl) (fun K hK => ?_)
  go_simp
  refine (c2 _).mono ?_
  rintro e w3 ⟨rfl, hb3⟩
  have at3 := at2.below hb3
  have bl3 := bl_step bl2 hb3
  clear at2 bl2 hb3
  go_wp2_with fail
  refine hK.out _ _ at3 (fun hHeld => ?_)
  clear hK K
  (try simp only [Act.put, List.setIfInBounds_toArray, List.set_cons_zero, List.set_cons_succ])
  generalize cmpV n1 p1 n2 p2 = c12 at *
  generalize cmpV n2 p2 n1 p1 = c21 at *
  generalize cmpV n2 p2 n3 p3 = c23 at *
  generalize cmpV n1 p1 n3 p3 = c13 at *
  have hng : (c12 != -c21) = false := by have := HA.out; simp; omega
  refine take_first 9 (v := .bool false) rfl (by kernel_rfl) (by kernel_rfl) (by kernel_rfl) (fun _ _ _ h => h) (Or.inl ⟨by rfl, by intro wx hSw; obtain ⟨⟨hSw1, hSw2⟩, ⟨hSw3, hSw4⟩, hSw5, hSw6⟩ := hSw; go_simp; try with_reducible rfl⟩) (by assumption) ?_
  (try simp only [Act.put, List.setIfInBounds_toArray, List.set_cons_zero, List.set_cons_succ])
  refine take_first 10 (v := ?_) rfl (by kernel_rfl) (by kernel_rfl) (by kernel_rfl) (fun _ _ _ h => h) (Or.inl ⟨by rfl, by intro wx hSw; obtain ⟨⟨hSw1, hSw2⟩, ⟨hSw3, hSw4⟩, hSw5, hSw6⟩ := hSw; go_simp; try with_reducible rfl⟩) (by assumption) ?_
  (try simp only [Act.put, List.setIfInBounds_toArray, List.set_cons_zero, List.set_cons_succ])
  refine take_first 11 (v := ?_) rfl (by kernel_rfl) (by kernel_rfl) (by kernel_rfl) (fun _ _ _ h => h) (Or.inl ⟨by rfl, by intro wx hSw; obtain ⟨⟨hSw1, hSw2⟩, ⟨hSw3, hSw4⟩, hSw5, hSw6⟩ := hSw; go_simp; try with_reducible rfl⟩) (by assumption) ?_
  (try simp only [Act.put, List.setIfInBounds_toArray, List.set_cons_zero, List.set_cons_succ])
  refine take_first 12 (v := ?_) rfl (by kernel_rfl) (by kernel_rfl) (by kernel_rfl) (fun _ _ _ h => h) (Or.inl ⟨by rfl, by intro wx hSw; obtain ⟨⟨hSw1, hSw2⟩, ⟨hSw3, hSw4⟩, hSw5, hSw6⟩ := hSw; go_simp; try with_reducible rfl⟩) (by assumption) ?_
  (try simp only [Act.put, List.setIfInBounds_toArray, List.set_cons_zero, List.set_cons_succ])
  refine take_first 13 (v := ?_) rfl (by kernel_rfl) (by kernel_rfl) (by kernel_rfl) (fun _ _ _ h => h) (Or.inl ⟨by rfl, by intro wx hSw; obtain ⟨⟨hSw1, hSw2⟩, ⟨hSw3, hSw4⟩, hSw5, hSw6⟩ := hSw; go_simp; try with_reducible rfl⟩) (by assumption) ?_
  (try simp only [Act.put, List.setIfInBounds_toArray, List.set_cons_zero, List.set_cons_succ])
  refine take_first 15 (v := ?_) rfl (by kernel_rfl) (by kernel_rfl) (by kernel_rfl) (fun _ _ _ h => h) (Or.inl ⟨by rfl, by intro wx hSw; obtain ⟨⟨hSw1, hSw2⟩, ⟨hSw3, hSw4⟩, hSw5, hSw6⟩ := hSw; go_simp; try with_reducible rfl⟩) (by assumption) ?_
  (try simp only [Act.put, List.setIfInBounds_toArray, List.set_cons_zero, List.set_cons_succ])
  refine take_first 16 (v := ?_) rfl (by kernel_rfl) (by kernel_rfl) (by kernel_rfl) (fun _ _ _ h => h) (Or.inl ⟨by rfl, by intro wx hSw; obtain ⟨⟨hSw1, hSw2⟩, ⟨hSw3, hSw4⟩, hSw5, hSw6⟩ := hSw; go_simp; try with_reducible rfl⟩) (by assumption) ?_
  (try simp only [Act.put, List.setIfInBounds_toArray, List.set_cons_zero, List.set_cons_succ])
  refine comes_up 14 rfl (by kernel_rfl) (fun K hK => ?_)
  go_simp
  refine (c3 _).mono ?_
  rintro e w4 ⟨rfl, hb4⟩
  have at4 := at3.below hb4
  have bl4 := bl_step bl3 hb4
  clear at3 bl3 hb4
  go_wp2_with fail
  refine hK.out _ _ at4 (fun hHeld => ?_)
  clear hK K
  (try simp only [Act.put, List.setIfInBounds_toArray, List.set_cons_zero, List.set_cons_succ])
  refine comes_up 17 rfl (by kernel_rfl) (fun K hK => ?_)
  go_simp
  refine (c2 _).mono ?_
  rintro e w5 ⟨rfl, hb5⟩
  have at5 := at4.below hb5
  have bl5 := bl_step bl4 hb5
  clear at4 bl4 hb5
  go_wp2_with fail
  refine hK.out _ _ at5 (fun hHeld => ?_)
  clear hK K
  (try simp only [Act.put, List.setIfInBounds_toArray, List.set_cons_zero, List.set_cons_succ])
  refine take_first 18 (v := ?_) rfl (by kernel_rfl) (by kernel_rfl) (by kernel_rfl) (fun _ _ _ h => h) (Or.inl ⟨by rfl, by intro wx hSw; obtain ⟨⟨hSw1, hSw2⟩, ⟨hSw3, hSw4⟩, hSw5, hSw6⟩ := hSw; go_simp; try with_reducible rfl⟩) (by assumption) ?_
  (try simp only [Act.put, List.setIfInBounds_toArray, List.set_cons_zero, List.set_cons_succ])
  refine take_first 19 (v := ?_) rfl (by kernel_rfl) (by kernel_rfl) (by kernel_rfl) (fun _ _ _ h => h) (Or.inl ⟨by rfl, by intro wx hSw; obtain ⟨⟨hSw1, hSw2⟩, ⟨hSw3, hSw4⟩, hSw5, hSw6⟩ := hSw; go_simp; try with_reducible rfl⟩) (by assumption) ?_
  (try simp only [Act.put, List.setIfInBounds_toArray, List.set_cons_zero, List.set_cons_succ])
  refine take_first 20 (v := ?_) rfl (by kernel_rfl) (by kernel_rfl) (by kernel_rfl) (fun _ _ _ h => h) (Or.inl ⟨by rfl, by intro wx hSw; obtain ⟨⟨hSw1, hSw2⟩, ⟨hSw3, hSw4⟩, hSw5, hSw6⟩ := hSw; go_simp; try with_reducible rfl⟩) (by assumption) ?_
  (try simp only [Act.put, List.setIfInBounds_toArray, List.set_cons_zero, List.set_cons_succ])
  refine take_first 21 (v := ?_) rfl (by kernel_rfl) (by kernel_rfl) (by kernel_rfl) (fun _ _ _ h => h) (Or.inl ⟨by rfl, by intro wx hSw; obtain ⟨⟨hSw1, hSw2⟩, ⟨hSw3, hSw4⟩, hSw5, hSw6⟩ := hSw; go_simp; try with_reducible rfl⟩) (by assumption) ?_
  (try simp only [Act.put, List.setIfInBounds_toArray, List.set_cons_zero, List.set_cons_succ])
  refine take_first 22 (v := ?_) rfl (by kernel_rfl) (by kernel_rfl) (by kernel_rfl) (fun _ _ _ h => h) (Or.inl ⟨by rfl, by intro wx hSw; obtain ⟨⟨hSw1, hSw2⟩, ⟨hSw3, hSw4⟩, hSw5, hSw6⟩ := hSw; go_simp; try with_reducible rfl⟩) (by assumption) ?_
  (try simp only [Act.put, List.setIfInBounds_toArray, List.set_cons_zero, List.set_cons_succ])
  refine take_first 24 (v := ?_) rfl (by kernel_rfl) (by kernel_rfl) (by kernel_rfl) (fun _ _ _ h => h) (Or.inl ⟨by rfl, by intro wx hSw; obtain ⟨⟨hSw1, hSw2⟩, ⟨hSw3, hSw4⟩, hSw5, hSw6⟩ := hSw; go_simp; try with_reducible rfl⟩) (by assumption) ?_
  (try simp only [Act.put, List.setIfInBounds_toArray, List.set_cons_zero, List.set_cons_succ])
  refine comes_up 23 rfl (by kernel_rfl) (fun K hK => ?_)
  go_simp
  refine (c4 _).mono ?_
  rintro e w6 ⟨rfl, hb6⟩
  have at6 := at5.below hb6
  have bl6 := bl_step bl5 hb6
  clear at5 bl5 hb6
  go_wp2_with fail
  refine hK.out _ _ at6 (fun hHeld => ?_)
  clear hK K
  (try simp only [Act.put, List.setIfInBounds_toArray, List.set_cons_zero, List.set_cons_succ])
  refine comes_up 25 rfl (by kernel_rfl) (fun K hK => ?_)
  go_simp
  refine (c5 _).mono ?_
  rintro e w7 ⟨rfl, hb7⟩
  have at7 := at6.below hb7
  have bl7 := bl_step bl6 hb7
  clear at6 bl6 hb7
  go_wp2_with fail
  refine hK.out _ _ at7 (fun hHeld => ?_)
  clear hK K
  (try simp only [Act.put, List.setIfInBounds_toArray, List.set_cons_zero, List.set_cons_succ])
  refine take_first 26 (v := ?_) rfl (by kernel_rfl) (by kernel_rfl) (by kernel_rfl) (fun _ _ _ h => h) (Or.inl ⟨by rfl, by intro wx hSw; obtain ⟨⟨hSw1, hSw2⟩, ⟨hSw3, hSw4⟩, hSw5, hSw6⟩ := hSw; go_simp; try with_reducible rfl⟩) (by assumption) ?_
  (try simp only [Act.put, List.setIfInBounds_toArray, List.set_cons_zero, List.set_cons_succ])
  refine take_first 27 (v := ?_) rfl (by kernel_rfl) (by kernel_rfl) (by kernel_rfl) (fun _ _ _ h => h) (Or.inl ⟨by rfl, by intro wx hSw; obtain ⟨⟨hSw1, hSw2⟩, ⟨hSw3, hSw4⟩, hSw5, hSw6⟩ := hSw; go_simp; try with_reducible rfl⟩) (by assumption) ?_
  (try simp only [Act.put, List.setIfInBounds_toArray, List.set_cons_zero, List.set_cons_succ])
  refine wpAnyH_done (by kernel_rfl) ?_ _
  refine NoPanic.normal ?_
  have at8 : At w.heap.size n1 p1 n2 p2 n3 p3 w7.drew := at7
  have bl8 : Below w.heap.size w w7.drew := bl_drewN bl7 1
  clear at7 bl7
  go_wp2_with fail
  refine wp_region_noPanic ?_
  refine wp_region_held_drew (S := fun wx => At w.heap.size n1 p1 n2 p2 n3 p3 wx) (by kernel_rfl) at8 (fun hHeld => ?_)
  refine take_first 0 (v := ?_) rfl (by kernel_rfl) (by kernel_rfl) (by kernel_rfl) (fun _ _ _ h => h) (Or.inl ⟨by rfl, by intro wx hSw; obtain ⟨⟨hSw1, hSw2⟩, ⟨hSw3, hSw4⟩, hSw5, hSw6⟩ := hSw; go_simp; try with_reducible rfl⟩) (by assumption) ?_
  (try simp only [Act.put, List.setIfInBounds_toArray, List.set_cons_zero, List.set_cons_succ])
  refine take_first 1 (v := ?_) rfl (by kernel_rfl) (by kernel_rfl) (by kernel_rfl) (fun _ _ _ h => h) (Or.inl ⟨by rfl, by intro wx hSw; obtain ⟨⟨hSw1, hSw2⟩, ⟨hSw3, hSw4⟩, hSw5, hSw6⟩ := hSw; go_simp; try with_reducible rfl⟩) (by assumption) ?_
  (try simp only [Act.put, List.setIfInBounds_toArray, List.set_cons_zero, List.set_cons_succ])
  refine take_first 3 (v := ?_) rfl (by kernel_rfl) (by kernel_rfl) (by kernel_rfl) (fun _ _ _ h => h) (Or.inl ⟨by rfl, by intro wx hSw; obtain ⟨⟨hSw1, hSw2⟩, ⟨hSw3, hSw4⟩, hSw5, hSw6⟩ := hSw; go_simp; try with_reducible rfl⟩) (by assumption) ?_
  (try simp only [Act.put, List.setIfInBounds_toArray, List.set_cons_zero, List.set_cons_succ])
  refine take_first 4 (v := ?_) rfl (by kernel_rfl) (by kernel_rfl) (by kernel_rfl) (fun _ _ _ h => h) (Or.inl ⟨by rfl, by intro wx hSw; obtain ⟨⟨hSw1, hSw2⟩, ⟨hSw3, hSw4⟩, hSw5, hSw6⟩ := hSw; go_simp; try with_reducible rfl⟩) (by assumption) ?_
  (try simp only [Act.put, List.setIfInBounds_toArray, List.set_cons_zero, List.set_cons_succ])
  refine comes_up 2 rfl (by kernel_rfl) (fun K hK => ?_)
  go_simp
  refine (c1 _).mono ?_
  rintro e w9 ⟨rfl, hb9⟩
  have at9 := at8.below hb9
  have bl9 := bl_step bl8 hb9
  clear at8 bl8 hb9
  go_wp2_with fail
  refine hK.out _ _ at9 (fun hHeld => ?_)
  clear hK K
  (try simp only [Act.put, List.setIfInBounds_toArray, List.set_cons_zero, List.set_cons_succ])
  refine comes_up 5 rfl (by kernel_rfl) (fun K hK => ?_)
  go_simp
  refine (c6 _).mono ?_
  rintro e w10 ⟨rfl, hb10⟩
  have at10 := at9.below hb10
  have bl10 := bl_step bl9 hb10
  clear at9 bl9 hb10
  go_wp2_with fail
  refine hK.out _ _ at10 (fun hHeld => ?_)
  clear hK K
  (try simp only [Act.put, List.setIfInBounds_toArray, List.set_cons_zero, List.set_cons_succ])
  refine take_first 6 (v := .int .i64 (-c21)) rfl (by kernel_rfl) (by kernel_rfl) (by kernel_rfl) (fun _ _ _ h => h) (Or.inl ⟨by rfl, by intro wx hSw; obtain ⟨⟨hSw1, hSw2⟩, ⟨hSw3, hSw4⟩, hSw5, hSw6⟩ := hSw; go_simp; exact IntWalk.i64_in _ (by omega)⟩) (by assumption) ?_
  (try simp only [Act.put, List.setIfInBounds_toArray, List.set_cons_zero, List.set_cons_succ])
  refine take_first 7 (v := .bool false) rfl (by kernel_rfl) (by kernel_rfl) (by kernel_rfl) (fun _ _ _ h => h) (Or.inl ⟨by rfl, by intro wx hSw; obtain ⟨⟨hSw1, hSw2⟩, ⟨hSw3, hSw4⟩, hSw5, hSw6⟩ := hSw; go_simp; try with_reducible rfl⟩) (by assumption) ?_
  (try simp only [Act.put, List.setIfInBounds_toArray, List.set_cons_zero, List.set_cons_succ])
  refine take_first 8 (v := ?_) rfl (by kernel_rfl) (by kernel_rfl) (by kernel_rfl) (fun _ _ _ h => h) (Or.inl ⟨by rfl, by intro wx hSw; obtain ⟨⟨hSw1, hSw2⟩, ⟨hSw3, hSw4⟩, hSw5, hSw6⟩ := hSw; go_simp; try with_reducible rfl⟩) (by assumption) ?_
  (try simp only [Act.put, List.setIfInBounds_toArray, List.set_cons_zero, List.set_cons_succ])
  refine take_first 9 (v := ?_) rfl (by kernel_rfl) (by kernel_rfl) (by kernel_rfl) (fun _ _ _ h => h) (Or.inl ⟨by rfl, by intro wx hSw; obtain ⟨⟨hSw1, hSw2⟩, ⟨hSw3, hSw4⟩, hSw5, hSw6⟩ := hSw; go_simp; try with_reducible rfl⟩) (by assumption) ?_
  (try simp only [Act.put, List.setIfInBounds_toArray, List.set_cons_zero, List.set_cons_succ])
  refine take_first 10 (v := ?_) rfl (by kernel_rfl) (by kernel_rfl) (by kernel_rfl) (fun _ _ _ h => h) (Or.inl ⟨by rfl, by intro wx hSw; obtain ⟨⟨hSw1, hSw2⟩, ⟨hSw3, hSw4⟩, hSw5, hSw6⟩ := hSw; go_simp; try with_reducible rfl⟩) (by assumption) ?_
  (try simp only [Act.put, List.setIfInBounds_toArray, List.set_cons_zero, List.set_cons_succ])
  refine take_first 13 (v := ?_) rfl (by kernel_rfl) (by kernel_rfl) (by kernel_rfl) (fun _ _ _ h => h) (Or.inl ⟨by rfl, by intro wx hSw; obtain ⟨⟨hSw1, hSw2⟩, ⟨hSw3, hSw4⟩, hSw5, hSw6⟩ := hSw; go_simp; try with_reducible rfl⟩) (by assumption) ?_
  (try simp only [Act.put, List.setIfInBounds_toArray, List.set_cons_zero, List.set_cons_succ])
  refine take_first 14 (v := ?_) rfl (by kernel_rfl) (by kernel_rfl) (by kernel_rfl) (fun _ _ _ h => h) (Or.inl ⟨by rfl, by intro wx hSw; obtain ⟨⟨hSw1, hSw2⟩, ⟨hSw3, hSw4⟩, hSw5, hSw6⟩ := hSw; go_simp; try with_reducible rfl⟩) (by assumption) ?_
  (try simp only [Act.put, List.setIfInBounds_toArray, List.set_cons_zero, List.set_cons_succ])
  refine take_first 15 (v := .bool (c12 == 0)) rfl (by kernel_rfl) (by kernel_rfl) (by kernel_rfl) (fun _ _ _ h => h) (Or.inl ⟨by rfl, by intro wx hSw; obtain ⟨⟨hSw1, hSw2⟩, ⟨hSw3, hSw4⟩, hSw5, hSw6⟩ := hSw; go_simp; exact struct_eq (fun b => Result.ok (Next.value (Value.bool b)) wx) n1 n2 p1 p2 c12 HEQ.out⟩) (by assumption) ?_
  (try simp only [Act.put, List.setIfInBounds_toArray, List.set_cons_zero, List.set_cons_succ])
  refine comes_up 11 rfl (by kernel_rfl) (fun K hK => ?_)
  go_simp
  refine (c1 _).mono ?_
  rintro e w11 ⟨rfl, hb11⟩
  have at11 := at10.below hb11
  have bl11 := bl_step bl10 hb11
  clear at10 bl10 hb11
  go_wp2_with fail
  refine hK.out _ _ at11 (fun hHeld => ?_)
  clear hK K
  (try simp only [Act.put, List.setIfInBounds_toArray, List.set_cons_zero, List.set_cons_succ])
  refine take_first 12 (v := ?_) rfl (by kernel_rfl) (by kernel_rfl) (by kernel_rfl) (fun _ _ _ h => h) (Or.inl ⟨by rfl, by intro wx hSw; obtain ⟨⟨hSw1, hSw2⟩, ⟨hSw3, hSw4⟩, hSw5, hSw6⟩ := hSw; go_simp; try with_reducible rfl⟩) (by assumption) ?_
  (try simp only [Act.put, List.setIfInBounds_toArray, List.set_cons_zero, List.set_cons_succ])
  refine take_first 16 (v := .bool false) rfl (by kernel_rfl) (by kernel_rfl) (by kernel_rfl) (fun _ _ _ h => h) (Or.inl ⟨by rfl, by intro wx hSw; obtain ⟨⟨hSw1, hSw2⟩, ⟨hSw3, hSw4⟩, hSw5, hSw6⟩ := hSw; go_simp; try with_reducible rfl⟩) (by assumption) ?_
  (try simp only [Act.put, List.setIfInBounds_toArray, List.set_cons_zero, List.set_cons_succ])
  refine take_first 17 (v := ?_) rfl (by kernel_rfl) (by kernel_rfl) (by kernel_rfl) (fun _ _ _ h => h) (Or.inl ⟨by rfl, by intro wx hSw; obtain ⟨⟨hSw1, hSw2⟩, ⟨hSw3, hSw4⟩, hSw5, hSw6⟩ := hSw; go_simp; try with_reducible rfl⟩) (by assumption) ?_
  (try simp only [Act.put, List.setIfInBounds_toArray, List.set_cons_zero, List.set_cons_succ])
  refine wpAnyH_done (by kernel_rfl) ?_ _
  refine NoPanic.normal ?_
  have at12 := at11
  obtain ⟨⟨f1, f2⟩, ⟨f3, f4⟩, f5, f6⟩ := at11
  clear c1 c2 c4 c5 c6 hng HA HEQ
  by_cases h1 : 0 < c12
  · rw [show decide (0 < c12) = true by simpa using h1] at c3
    by_cases h2 : 0 < c23
    · rw [show decide (0 < c23) = true by simpa using h2] at c7
      rw [show decide (0 < c13) = true by simpa using HT.out h1 h2] at c8
      clear h1 h2 HT
      go_wp2_with fail
      refine (c3 _).mono ?_
      rintro e w13 ⟨rfl, hb13⟩
      have at13 := at12.below hb13
      have bl13 := bl_step bl11 hb13
      obtain ⟨⟨g1, g2⟩, ⟨g3, g4⟩, g5, g6⟩ := at13
      clear f1 f2 f3 f4 f5 f6 hb13 bl11
      go_wp2_with fail
      refine (c7 _).mono ?_
      rintro e w14 ⟨rfl, hb14⟩
      have at14 := At.below ⟨⟨g1, g2⟩, ⟨g3, g4⟩, g5, g6⟩ hb14
      have bl14 := bl_step bl13 hb14
      obtain ⟨⟨f1, f2⟩, ⟨f3, f4⟩, f5, f6⟩ := at14
      clear g1 g2 g3 g4 g5 g6 hb14 bl13
      go_wp2_with fail
      refine (c8 _).mono ?_
      rintro e w15 ⟨rfl, hb15⟩
      have bl15 := bl_step bl14 hb15
      clear f1 f2 f3 f4 f5 f6 hb15 bl14
      go_wp2
      go_ret
      exact ⟨rfl, bl15⟩
    · rw [show decide (0 < c23) = false by simpa using h2] at c7
      clear h1 h2 HT
      go_wp2_with fail
      refine (c3 _).mono ?_
      rintro e w13 ⟨rfl, hb13⟩
      have at13 := at12.below hb13
      have bl13 := bl_step bl11 hb13
      obtain ⟨⟨g1, g2⟩, ⟨g3, g4⟩, g5, g6⟩ := at13
      clear f1 f2 f3 f4 f5 f6 hb13 bl11
      go_wp2_with fail
      refine (c7 _).mono ?_
      rintro e w14 ⟨rfl, hb14⟩
      have bl14 := bl_step bl13 hb14
      clear g1 g2 g3 g4 g5 g6 hb14 bl13
      go_wp2
      go_ret
      exact ⟨rfl, bl14⟩
  · rw [show decide (0 < c12) = false by simpa using h1] at c3
    clear h1 HT
    go_wp2_with fail
    refine (c3 _).mono ?_
    rintro e w13 ⟨rfl, hb13⟩
    have bl13 := bl_step bl11 hb13
    clear f1 f2 f3 f4 f5 f6 hb13 bl11
    go_wp2
    go_ret
    exact ⟨rfl, bl13⟩

set_option maxRecDepth 100000 in
theorem lifted (os : Os) (started : os.Started) (H : Type) (enc : TypeId × Value → H) :
    ReturnsInHanded {} Try.checked os 4 .any (Rows.identOrderSpec.pre6 enc Try.prog Try.f4 Rows.identOrderRow.domain false) (Rows.identOrderSpec.post enc Try.prog Try.f4 false true false false) := by
  refine returnsInHanded_of_change (C := Try.checked) own started (by kernel_rfl) Try.func4
    (ChangeSpec.witness6 (enc := enc) (C := Try.checked) false ⟨#[], #[.agg #[.int .u64 0, .int .i64 0], .agg #[.int .u64 0, .int .i64 0], .agg #[.int .u64 0, .int .i64 0]], []⟩ 4 (by kernel_rfl) (by kernel_rfl) (by kernel_rfl) (by kernel_rfl)) ?_
  intro W base args ds gs before hval0 hW hcnd _
  have hval : ∀ (j : Nat) t v, Try.f4.params[j]? = some t → args[j]? = some v → Value.okWide Try.prog W .any base t v := hval0
  have hW' := hW
  obtain ⟨p, q, hA0, hV, rfl, hfz, hnd⟩ := hW
  have hA : DataW.TrodAll enc Try.prog W 0 (fun _ => true) true Try.f4.params.toList args.toList ds p := hA0
  rw [Try.params4] at hA hval
  obtain ⟨v0, vs0, d0, ds0, p0, q0, hargs0, rfl, rfl, h0, r0⟩ := trodAll_cons hA
  obtain ⟨v1, vs1, d1, ds1, p1, q1, hargs1, rfl, rfl, h1, r1⟩ := trodAll_cons r0
  obtain ⟨v2, vs2, d2, ds2, p2, q2, hargs2, rfl, rfl, h2, r2⟩ := trodAll_cons r1
  obtain ⟨rfl, rfl, rfl⟩ := trodAll_nil r2
  obtain rfl : args = #[v0, v1, v2] := by cases args; simp_all
  obtain ⟨rfl, rfl⟩ := trodVars_none hV
  obtain ⟨c0a, c0b, y0a, y0b, m0, rfl, rfl, rfl, hy0a, hy0b⟩ := open_agg2 Try.underlying29 (by kernel_rfl) cells29 (hval 0 29 v0 rfl rfl) h0
  obtain ⟨n0', e0a, rfl, w0a⟩ := DataW.trod_int Try.underlying27 hy0a
  obtain ⟨q0, e0b, rfl, w0b⟩ := DataW.trod_int Try.underlying3 hy0b
  simp at e0a e0b
  subst e0a e0b
  obtain ⟨c1a, c1b, y1a, y1b, m1, rfl, rfl, rfl, hy1a, hy1b⟩ := open_agg2 Try.underlying29 (by kernel_rfl) cells29 (hval 1 29 v1 rfl rfl) h1
  obtain ⟨n1', e1a, rfl, w1a⟩ := DataW.trod_int Try.underlying27 hy1a
  obtain ⟨q1, e1b, rfl, w1b⟩ := DataW.trod_int Try.underlying3 hy1b
  simp at e1a e1b
  subst e1a e1b
  obtain ⟨c2a, c2b, y2a, y2b, m2, rfl, rfl, rfl, hy2a, hy2b⟩ := open_agg2 Try.underlying29 (by kernel_rfl) cells29 (hval 2 29 v2 rfl rfl) h2
  obtain ⟨n2', e2a, rfl, w2a⟩ := DataW.trod_int Try.underlying27 hy2a
  obtain ⟨q2, e2b, rfl, w2b⟩ := DataW.trod_int Try.underlying3 hy2b
  simp at e2a e2b
  subst e2a e2b
  clear hA0 hval0
  obtain ⟨n0, rfl, hn0⟩ := u64_of_wf w0a
  obtain ⟨n1, rfl, hn1⟩ := u64_of_wf w1a
  obtain ⟨n2, rfl, hn2⟩ := u64_of_wf w2a
  refine (walk W n0 hn0 q0 (in_of_wf w0b) n1 hn1 q1 (in_of_wf w1b) n2 hn2 q2 (in_of_wf w2b)).mono fun e W' ⟨he, bel⟩ => ?_
  subst he
  exact ⟨_, rfl, _, _, _, [], _, [], hW', trodAll_mk1 (shut_bool Try.underlying4 _), (trodAll_cons_mk (shut_vid w0a w0b) (trodAll_cons_mk (shut_vid w1a w1b) (trodAll_cons_mk (shut_vid w2a w2b) trodAll_mk0))), rfl, bel.frame _, fun h => by cases h⟩

theorem over : Rows.identOrderRow.holds Try.pinned (OpenSpec.ofChange Rows.identOrderSpec) :=
  OpenClaim.holds_of_wide 4 Try.f4 rfl rfl rfl rfl rfl rfl rfl ⟨rfl, rfl, rfl, rfl, rfl⟩ rfl rfl rfl rfl rfl (by kernel_rfl) Try.func4 (by kernel_rfl)
    (of_decide_eq_true (by kernel_rfl)) (by unfold Func.isWrapper; first | (rw [if_pos (by decide +kernel)]; kernel_rfl) | (rw [if_neg (by decide +kernel)]; exact ⟨rfl, rfl⟩))
    (fun os started H enc _ => lifted os started H enc)

end Go.Proofs.Ytlahdemhigcjnaa.identOrder
namespace Go.Proofs.Ytlahdemhigcjnaa
theorem identOrder_holds : Rows.IdentOrderSaid := identOrder.over
#print axioms identOrder_holds
end Go.Proofs.Ytlahdemhigcjnaa
