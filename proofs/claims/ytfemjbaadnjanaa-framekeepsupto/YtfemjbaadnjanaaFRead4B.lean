/-
  Reading of a frame (package frame): kinds 4, 5, 6, 7.
-/
import Derived.Test.YtfemjbaadnjanaaFRead3
namespace Go.Proofs.Ytfemjbaadnjanaa
open Go.RowKit
set_option linter.unusedVariables false
set_option linter.unusedSimpArgs false

set_option maxRecDepth 20000 in
set_option maxHeartbeats 2000000 in
theorem readFrame_4 (w : World) (r : Nat) (st : St) (h : Cd.Rd w r st) (hl : sl st) (hK : (Cd.rInt st 7).1 = 4) :
    Calls Try.prog 27 #[.pointer (some ⟨r, 0, none⟩)] w fun e w' => ∃ a, e = .returned (fval (rFrame 9223372036854775807 st).1 a) ∧ FIn (fun b => w.heap.size ≤ b) w' (rFrame 9223372036854775807 st).1 a ∧ Cd.Rd w' r (rFrame 9223372036854775807 st).2 ∧ w.grownBy w' (some r) := by
  have hrl := h.lt
  have hin := Cd.int_rd (w.alloc (.cells #[.int .u8 0, .int .i64 0, .int .u64 0, .int .i64 0, .int .u16 0, .int .u64 0, .int .i64 0, .int .u64 0, .int .i64 0, .slice none 0 0, .int .u64 0, .slice none 0 0, .slice none 0 0, .int .u64 0, .int .u64 0] 30)) r st (rd_alloc h _) 7 (by omega) (by omega)
  have hsl1 : sl (Cd.rInt st 7).2 := sl_int hl
  have HF : Hid (rFrame 9223372036854775807 st = ({ zeroF with kind := 4, frm := (((Cd.rInt (Cd.rInt st 7).2 15).1 : Nat) : Int), idN := (decV (Cd.rInt (Cd.rInt st 7).2 15).2).1.1, idP := (((decV (Cd.rInt (Cd.rInt st 7).2 15).2).1.2 : Nat) : Int), promN := (decV (decV (Cd.rInt (Cd.rInt st 7).2 15).2).2).1.1, promP := (((decV (decV (Cd.rInt (Cd.rInt st 7).2 15).2).2).1.2 : Nat) : Int) }, (decV (decV (Cd.rInt (Cd.rInt st 7).2 15).2).2).2)) := by
    show _ = _
    unfold rFrame rIdent rHead rBody
    simp [hK, zeroF]
  generalize Cd.rInt st 7 = r0 at *
  obtain ⟨K, s1⟩ := r0
  simp only at *
  subst hK
  have hno := fun W (hW : Cd.Rd W r s1) => readNode_any W r s1 hW
  have hsl2 : sl (Cd.rInt s1 15).2 := sl_int hsl1
  generalize Cd.rInt s1 15 = r1 at *
  obtain ⟨FR, s2⟩ := r1
  simp only at *
  clear h hl hsl1
  go_enter Try.func27, Try.ntmps27
  go_wp2_with fail
  refine hin.mono ?_
  rintro e w1 ⟨rfl, hrd1, hg1⟩
  have z1 : w1.heap[w.heap.size]? = some (.cells #[.int .u8 0, .int .i64 0, .int .u64 0, .int .i64 0, .int .u16 0, .int .u64 0, .int .i64 0, .int .u64 0, .int .i64 0, .slice none 0 0, .int .u64 0, .slice none 0 0, .slice none 0 0, .int .u64 0, .int .u64 0] 30 (0, 0)) := (hg1.block w.heap.size (by simp) (by simp; omega)).trans (heap_alloc_new _ _)
  have hg01 : w.grownBy w1 (some r) := Cd.grown_trans (gr_alloc0 w _ _) hg1
  have hs1 : w.heap.size < w1.heap.size := by have := hg1.size; simp at this; omega
  have hno1 := hno w1 hrd1
  clear hin hno hrd1 hg1
  go_wp2_with fail
  refine hno1.mono ?_
  rintro e w2 ⟨rfl, hrd2, hg2⟩
  have z2 : w2.heap[w.heap.size]? = some (.cells #[.int .u8 0, .int .i64 0, .int .u64 0, .int .i64 0, .int .u16 0, .int .u64 0, .int .i64 0, .int .u64 0, .int .i64 0, .slice none 0 0, .int .u64 0, .slice none 0 0, .slice none 0 0, .int .u64 0, .int .u64 0] 30 (0, 0)) := (hg2.block w.heap.size hs1 (by simp; omega)).trans z1
  have hg02 : w.grownBy w2 (some r) := Cd.grown_trans hg01 hg2
  have hs2 : w.heap.size < w2.heap.size := by have := hg2.size; omega
  obtain ⟨e2, he2⟩ : ∃ e2, w2.alloc (.cells #[.int .u8 4, .int .i64 (FR : Nat), .int .u64 0, .int .i64 0, .int .u16 0, .int .u64 0, .int .i64 0, .int .u64 0, .int .i64 0, .slice none 0 0, .int .u64 0, .slice none 0 0, .slice none 0 0, .int .u64 0, .int .u64 0] 30) = e2 := ⟨_, rfl⟩
  have hb2 : Below w2.heap.size w2 e2 := by rw [← he2]; exact bl1 _ _
  have he2s : e2.heap.size = w2.heap.size + 1 := by rw [← he2]; simp
  have c2 : e2.heap[w2.heap.size]? = some (.cells #[.int .u8 4, .int .i64 (FR : Nat), .int .u64 0, .int .i64 0, .int .u16 0, .int .u64 0, .int .i64 0, .int .u64 0, .int .i64 0, .slice none 0 0, .int .u64 0, .slice none 0 0, .slice none 0 0, .int .u64 0, .int .u64 0] 30 (0, 0)) := by rw [← he2]; exact heap_alloc_new _ _
  have y2 : e2.heap[w.heap.size]? = some (.cells #[.int .u8 0, .int .i64 0, .int .u64 0, .int .i64 0, .int .u16 0, .int .u64 0, .int .i64 0, .int .u64 0, .int .i64 0, .slice none 0 0, .int .u64 0, .slice none 0 0, .slice none 0 0, .int .u64 0, .int .u64 0] 30 (0, 0)) := (hb2.block _ hs2).trans z2
  have hge2 : w.grownBy e2 (some r) := gr_up hg02 hb2
  have hre2 : Cd.Rd e2 r s2 := Cd.rd_below hrd2 hb2
  have HE2 : Hid (w2.alloc (.cells #[.int .u8 4, .int .i64 (FR : Nat), .int .u64 0, .int .i64 0, .int .u16 0, .int .u64 0, .int .i64 0, .int .u64 0, .int .i64 0, .slice none 0 0, .int .u64 0, .slice none 0 0, .slice none 0 0, .int .u64 0, .int .u64 0] 30) = e2) := he2
  clear hno1 hrd2 hg2 hg01 z1 z2 hg02 hb2 he2
  have hv3 := readView_any e2 r s2 hre2
  have hsl3 : sl (decV s2).2 := sl_dec hsl2
  generalize decV s2 = dv3 at *
  obtain ⟨⟨N3, P3⟩, s3⟩ := dv3
  simp only at *
  unfold vid at hv3
  go_wp2_with fail
  rw [HE2.out]
  refine hv3.mono ?_
  rintro e w3 ⟨rfl, hrd3, hg3⟩
  have hk3 : w3.heap[w2.heap.size]? = some (.cells #[.int .u8 4, .int .i64 (FR : Nat), .int .u64 0, .int .i64 0, .int .u16 0, .int .u64 0, .int .i64 0, .int .u64 0, .int .i64 0, .slice none 0 0, .int .u64 0, .slice none 0 0, .slice none 0 0, .int .u64 0, .int .u64 0] 30 (0, 0)) := (hg3.block w2.heap.size (by omega) (by simp; omega)).trans c2
  have z3 : w3.heap[w.heap.size]? = some (.cells #[.int .u8 0, .int .i64 0, .int .u64 0, .int .i64 0, .int .u16 0, .int .u64 0, .int .i64 0, .int .u64 0, .int .i64 0, .slice none 0 0, .int .u64 0, .slice none 0 0, .slice none 0 0, .int .u64 0, .int .u64 0] 30 (0, 0)) := (hg3.block w.heap.size (by omega) (by simp; omega)).trans y2
  have hs3 : e2.heap.size ≤ w3.heap.size := hg3.size
  have hgw3 : w.grownBy w3 (some r) := Cd.grown_trans hge2 hg3
  clear hv3 hg3 hge2 hre2 c2 y2 HE2
  obtain ⟨e3, he3⟩ : ∃ e3, ((w3.setCell ⟨w2.heap.size, 2, none⟩ (.int .u64 (N3 : Nat))).setCell ⟨w2.heap.size, 3, none⟩ (.int .i64 (P3 : Nat))) = e3 := ⟨_, rfl⟩
  have m3 : (w3.setCell ⟨w2.heap.size, 2, none⟩ (.int .u64 (N3 : Nat))).heap[w2.heap.size]? = some (.cells #[.int .u8 4, .int .i64 (FR : Nat), .int .u64 (N3 : Nat), .int .i64 0, .int .u16 0, .int .u64 0, .int .i64 0, .int .u64 0, .int .i64 0, .slice none 0 0, .int .u64 0, .slice none 0 0, .slice none 0 0, .int .u64 0, .int .u64 0] 30 (0, 0)) := by rw [heap_setCell_same w3 w2.heap.size 2 _ 30 _ hk3]; rfl
  have c3 : e3.heap[w2.heap.size]? = some (.cells #[.int .u8 4, .int .i64 (FR : Nat), .int .u64 (N3 : Nat), .int .i64 (P3 : Nat), .int .u16 0, .int .u64 0, .int .i64 0, .int .u64 0, .int .i64 0, .slice none 0 0, .int .u64 0, .slice none 0 0, .slice none 0 0, .int .u64 0, .int .u64 0] 30 (0, 0)) := by rw [← he3, heap_setCell_same _ w2.heap.size 3 _ 30 _ m3]; rfl
  have y3 : e3.heap[w.heap.size]? = some (.cells #[.int .u8 0, .int .i64 0, .int .u64 0, .int .i64 0, .int .u16 0, .int .u64 0, .int .i64 0, .int .u64 0, .int .i64 0, .slice none 0 0, .int .u64 0, .slice none 0 0, .slice none 0 0, .int .u64 0, .int .u64 0] 30 (0, 0)) := by rw [← he3, Below.heap_setCell _ _ _ _ (by show w.heap.size ≠ w2.heap.size; omega), Below.heap_setCell _ _ _ _ (by show w.heap.size ≠ w2.heap.size; omega)]; exact z3
  have hge3 : w.grownBy e3 (some r) := by rw [← he3]; exact gr_setCell (gr_setCell hgw3 (by omega)) (by omega)
  have hre3 : Cd.Rd e3 r s3 := by rw [← he3]; exact rd_grown (g := some w2.heap.size) (rd_grown (g := some w2.heap.size) hrd3 (Cd.set_grown _) (fun b e => by cases e; omega)) (Cd.set_grown _) (fun b e => by cases e; omega)
  have he3s : e3.heap.size = w3.heap.size := by rw [← he3]; simp [World.setCell]
  have o3_2 : w3.cell? ⟨w2.heap.size, 2, none⟩ = some (.int .u64 0) := by rw [cell_of_row w3 _ 2 _ 30 (0, 0) hk3]; rfl
  have fz3_2 : w3.frozen? ⟨w2.heap.size, 2, none⟩ = false := frozen_of_row w3 _ 2 _ 30 hk3
  have o3_3 : w3.cell? ⟨w2.heap.size, 3, none⟩ = some (.int .i64 0) := by rw [cell_of_row w3 _ 3 _ 30 (0, 0) hk3]; rfl
  have fz3_3 : w3.frozen? ⟨w2.heap.size, 3, none⟩ = false := frozen_of_row w3 _ 3 _ 30 hk3
  have ok3 : w3.cell? ⟨w2.heap.size, 0, none⟩ = some (.int .u8 4) := by rw [cell_of_row w3 _ 0 _ 30 (0, 0) hk3]; rfl
  have HE3 : Hid (((w3.setCell ⟨w2.heap.size, 2, none⟩ (.int .u64 (N3 : Nat))).setCell ⟨w2.heap.size, 3, none⟩ (.int .i64 (P3 : Nat))) = e3) := he3
  clear hk3 z3 hgw3 hrd3 he3 m3
  have hv4 := readView_any e3 r s3 hre3
  have hsl4 : sl (decV s3).2 := sl_dec hsl3
  generalize decV s3 = dv4 at *
  obtain ⟨⟨N4, P4⟩, s4⟩ := dv4
  simp only at *
  unfold vid at hv4
  go_wp2_with fail
  rw [HE3.out]
  refine hv4.mono ?_
  rintro e w4 ⟨rfl, hrd4, hg4⟩
  have hk4 : w4.heap[w2.heap.size]? = some (.cells #[.int .u8 4, .int .i64 (FR : Nat), .int .u64 (N3 : Nat), .int .i64 (P3 : Nat), .int .u16 0, .int .u64 0, .int .i64 0, .int .u64 0, .int .i64 0, .slice none 0 0, .int .u64 0, .slice none 0 0, .slice none 0 0, .int .u64 0, .int .u64 0] 30 (0, 0)) := (hg4.block w2.heap.size (by omega) (by simp; omega)).trans c3
  have z4 : w4.heap[w.heap.size]? = some (.cells #[.int .u8 0, .int .i64 0, .int .u64 0, .int .i64 0, .int .u16 0, .int .u64 0, .int .i64 0, .int .u64 0, .int .i64 0, .slice none 0 0, .int .u64 0, .slice none 0 0, .slice none 0 0, .int .u64 0, .int .u64 0] 30 (0, 0)) := (hg4.block w.heap.size (by omega) (by simp; omega)).trans y3
  have hs4 : e3.heap.size ≤ w4.heap.size := hg4.size
  have hgw4 : w.grownBy w4 (some r) := Cd.grown_trans hge3 hg4
  clear hv4 hg4 hge3 hre3 c3 y3 HE3
  obtain ⟨e4, he4⟩ : ∃ e4, ((w4.setCell ⟨w2.heap.size, 7, none⟩ (.int .u64 (N4 : Nat))).setCell ⟨w2.heap.size, 8, none⟩ (.int .i64 (P4 : Nat))) = e4 := ⟨_, rfl⟩
  have m4 : (w4.setCell ⟨w2.heap.size, 7, none⟩ (.int .u64 (N4 : Nat))).heap[w2.heap.size]? = some (.cells #[.int .u8 4, .int .i64 (FR : Nat), .int .u64 (N3 : Nat), .int .i64 (P3 : Nat), .int .u16 0, .int .u64 0, .int .i64 0, .int .u64 (N4 : Nat), .int .i64 0, .slice none 0 0, .int .u64 0, .slice none 0 0, .slice none 0 0, .int .u64 0, .int .u64 0] 30 (0, 0)) := by rw [heap_setCell_same w4 w2.heap.size 7 _ 30 _ hk4]; rfl
  have c4 : e4.heap[w2.heap.size]? = some (.cells #[.int .u8 4, .int .i64 (FR : Nat), .int .u64 (N3 : Nat), .int .i64 (P3 : Nat), .int .u16 0, .int .u64 0, .int .i64 0, .int .u64 (N4 : Nat), .int .i64 (P4 : Nat), .slice none 0 0, .int .u64 0, .slice none 0 0, .slice none 0 0, .int .u64 0, .int .u64 0] 30 (0, 0)) := by rw [← he4, heap_setCell_same _ w2.heap.size 8 _ 30 _ m4]; rfl
  have y4 : e4.heap[w.heap.size]? = some (.cells #[.int .u8 0, .int .i64 0, .int .u64 0, .int .i64 0, .int .u16 0, .int .u64 0, .int .i64 0, .int .u64 0, .int .i64 0, .slice none 0 0, .int .u64 0, .slice none 0 0, .slice none 0 0, .int .u64 0, .int .u64 0] 30 (0, 0)) := by rw [← he4, Below.heap_setCell _ _ _ _ (by show w.heap.size ≠ w2.heap.size; omega), Below.heap_setCell _ _ _ _ (by show w.heap.size ≠ w2.heap.size; omega)]; exact z4
  have hge4 : w.grownBy e4 (some r) := by rw [← he4]; exact gr_setCell (gr_setCell hgw4 (by omega)) (by omega)
  have hre4 : Cd.Rd e4 r s4 := by rw [← he4]; exact rd_grown (g := some w2.heap.size) (rd_grown (g := some w2.heap.size) hrd4 (Cd.set_grown _) (fun b e => by cases e; omega)) (Cd.set_grown _) (fun b e => by cases e; omega)
  have he4s : e4.heap.size = w4.heap.size := by rw [← he4]; simp [World.setCell]
  have o4_7 : w4.cell? ⟨w2.heap.size, 7, none⟩ = some (.int .u64 0) := by rw [cell_of_row w4 _ 7 _ 30 (0, 0) hk4]; rfl
  have fz4_7 : w4.frozen? ⟨w2.heap.size, 7, none⟩ = false := frozen_of_row w4 _ 7 _ 30 hk4
  have o4_8 : w4.cell? ⟨w2.heap.size, 8, none⟩ = some (.int .i64 0) := by rw [cell_of_row w4 _ 8 _ 30 (0, 0) hk4]; rfl
  have fz4_8 : w4.frozen? ⟨w2.heap.size, 8, none⟩ = false := frozen_of_row w4 _ 8 _ 30 hk4
  have ok4 : w4.cell? ⟨w2.heap.size, 0, none⟩ = some (.int .u8 4) := by rw [cell_of_row w4 _ 0 _ 30 (0, 0) hk4]; rfl
  have HE4 : Hid (((w4.setCell ⟨w2.heap.size, 7, none⟩ (.int .u64 (N4 : Nat))).setCell ⟨w2.heap.size, 8, none⟩ (.int .i64 (P4 : Nat))) = e4) := he4
  clear hk4 z4 hgw4 hrd4 he4 m4
  have hset := setRow_heap e4 w.heap.size _ #[.int .u8 4, .int .i64 (FR : Nat), .int .u64 (N3 : Nat), .int .i64 (P3 : Nat), .int .u16 0, .int .u64 0, .int .i64 0, .int .u64 (N4 : Nat), .int .i64 (P4 : Nat), .slice none 0 0, .int .u64 0, .slice none 0 0, .slice none 0 0, .int .u64 0, .int .u64 0] 30 (0, 0) y4
  have HFI : Hid (Cd.Rd (e4.setRow w.heap.size #[.int .u8 4, .int .i64 (FR : Nat), .int .u64 (N3 : Nat), .int .i64 (P3 : Nat), .int .u16 0, .int .u64 0, .int .i64 0, .int .u64 (N4 : Nat), .int .i64 (P4 : Nat), .slice none 0 0, .int .u64 0, .slice none 0 0, .slice none 0 0, .int .u64 0, .int .u64 0]) r s4 ∧ w.grownBy (e4.setRow w.heap.size #[.int .u8 4, .int .i64 (FR : Nat), .int .u64 (N3 : Nat), .int .i64 (P3 : Nat), .int .u16 0, .int .u64 0, .int .i64 0, .int .u64 (N4 : Nat), .int .i64 (P4 : Nat), .slice none 0 0, .int .u64 0, .slice none 0 0, .slice none 0 0, .int .u64 0, .int .u64 0]) (some r)) := ⟨rd_setRow' hre4 (by omega), gr_setRow' hge4 (Nat.le_refl _) _⟩
  have hen : ((w4.setCell ⟨w2.heap.size, 7, none⟩ (.int .u64 (N4 : Nat))).setCell ⟨w2.heap.size, 8, none⟩ (.int .i64 (P4 : Nat))) = e4 := HE4.out
  have oke : e4.cell? ⟨w2.heap.size, 0, none⟩ = some (.int .u8 4) := by rw [cell_of_row e4 _ 0 _ 30 (0, 0) c4]; rfl
  clear hre4 hge4 HE4
  go_wp2_with (first | (refine wpList_load_row rfl 30 (.tmp 3) rfl w2.heap.size rfl 30 #[.int .u8 4, .int .i64 (FR : Nat), .int .u64 (N3 : Nat), .int .i64 (P3 : Nat), .int .u16 0, .int .u64 0, .int .i64 0, .int .u64 (N4 : Nat), .int .i64 (P4 : Nat), .slice none 0 0, .int .u64 0, .slice none 0 0, .slice none 0 0, .int .u64 0, .int .u64 0] (0, 0) _ c4 Try.underlying30 rfl info30 ?_) | (refine wpList_store_row rfl 30 (.tmp 2) (.tmp 74) rfl w.heap.size #[.int .u8 4, .int .i64 (FR : Nat), .int .u64 (N3 : Nat), .int .i64 (P3 : Nat), .int .u16 0, .int .u64 0, .int .i64 0, .int .u64 (N4 : Nat), .int .i64 (P4 : Nat), .slice none 0 0, .int .u64 0, .slice none 0 0, .slice none 0 0, .int .u64 0, .int .u64 0] rfl rfl 30 _ y4 info30 rfl (by simp [Value.oneCell']) ?_))
  refine bodyPost_ret (results_cell1 (g := w.heap.size) (cs := #[.int .u8 4, .int .i64 (FR : Nat), .int .u64 (N3 : Nat), .int .i64 (P3 : Nat), .int .u16 0, .int .u64 0, .int .i64 0, .int .u64 (N4 : Nat), .int .i64 (P4 : Nat), .slice none 0 0, .int .u64 0, .slice none 0 0, .slice none 0 0, .int .u64 0, .int .u64 0]) Try.results27 rfl (load30 hset rfl)) rfl ?_
  rw [HF.out]
  exact ⟨Fa.none, rfl, ⟨SsX.nil _ _, MsX.nil _ _, ItsX.nil _ _⟩, HFI.out.1, HFI.out.2⟩

set_option maxRecDepth 20000 in
set_option maxHeartbeats 2000000 in
theorem readFrame_5 (w : World) (r : Nat) (st : St) (h : Cd.Rd w r st) (hl : sl st) (hK : (Cd.rInt st 7).1 = 5) :
    Calls Try.prog 27 #[.pointer (some ⟨r, 0, none⟩)] w fun e w' => ∃ a, e = .returned (fval (rFrame 9223372036854775807 st).1 a) ∧ FIn (fun b => w.heap.size ≤ b) w' (rFrame 9223372036854775807 st).1 a ∧ Cd.Rd w' r (rFrame 9223372036854775807 st).2 ∧ w.grownBy w' (some r) := by
  have hrl := h.lt
  have hin := Cd.int_rd (w.alloc (.cells #[.int .u8 0, .int .i64 0, .int .u64 0, .int .i64 0, .int .u16 0, .int .u64 0, .int .i64 0, .int .u64 0, .int .i64 0, .slice none 0 0, .int .u64 0, .slice none 0 0, .slice none 0 0, .int .u64 0, .int .u64 0] 30)) r st (rd_alloc h _) 7 (by omega) (by omega)
  have hsl1 : sl (Cd.rInt st 7).2 := sl_int hl
  have HF : Hid (rFrame 9223372036854775807 st = ({ zeroF with kind := 5, frm := (((Cd.rInt (Cd.rInt st 7).2 15).1 : Nat) : Int), idN := (decV (Cd.rInt (Cd.rInt st 7).2 15).2).1.1, idP := (((decV (Cd.rInt (Cd.rInt st 7).2 15).2).1.2 : Nat) : Int), set := (Cd.rInt (decV (Cd.rInt (Cd.rInt st 7).2 15).2).2 65535).1, st := (rMany (rState 9223372036854775807) (Cd.rInt (decV (Cd.rInt (Cd.rInt st 7).2 15).2).2 65535).2).1 }, (rMany (rState 9223372036854775807) (Cd.rInt (decV (Cd.rInt (Cd.rInt st 7).2 15).2).2 65535).2).2)) := by
    show _ = _
    unfold rFrame rIdent rHead rBody
    simp [hK, zeroF]
  generalize Cd.rInt st 7 = r0 at *
  obtain ⟨K, s1⟩ := r0
  simp only at *
  subst hK
  have hno := fun W (hW : Cd.Rd W r s1) => readNode_any W r s1 hW
  have hsl2 : sl (Cd.rInt s1 15).2 := sl_int hsl1
  generalize Cd.rInt s1 15 = r1 at *
  obtain ⟨FR, s2⟩ := r1
  simp only at *
  clear h hl hsl1
  go_enter Try.func27, Try.ntmps27
  go_wp2_with fail
  refine hin.mono ?_
  rintro e w1 ⟨rfl, hrd1, hg1⟩
  have z1 : w1.heap[w.heap.size]? = some (.cells #[.int .u8 0, .int .i64 0, .int .u64 0, .int .i64 0, .int .u16 0, .int .u64 0, .int .i64 0, .int .u64 0, .int .i64 0, .slice none 0 0, .int .u64 0, .slice none 0 0, .slice none 0 0, .int .u64 0, .int .u64 0] 30 (0, 0)) := (hg1.block w.heap.size (by simp) (by simp; omega)).trans (heap_alloc_new _ _)
  have hg01 : w.grownBy w1 (some r) := Cd.grown_trans (gr_alloc0 w _ _) hg1
  have hs1 : w.heap.size < w1.heap.size := by have := hg1.size; simp at this; omega
  have hno1 := hno w1 hrd1
  clear hin hno hrd1 hg1
  go_wp2_with fail
  refine hno1.mono ?_
  rintro e w2 ⟨rfl, hrd2, hg2⟩
  have z2 : w2.heap[w.heap.size]? = some (.cells #[.int .u8 0, .int .i64 0, .int .u64 0, .int .i64 0, .int .u16 0, .int .u64 0, .int .i64 0, .int .u64 0, .int .i64 0, .slice none 0 0, .int .u64 0, .slice none 0 0, .slice none 0 0, .int .u64 0, .int .u64 0] 30 (0, 0)) := (hg2.block w.heap.size hs1 (by simp; omega)).trans z1
  have hg02 : w.grownBy w2 (some r) := Cd.grown_trans hg01 hg2
  have hs2 : w.heap.size < w2.heap.size := by have := hg2.size; omega
  obtain ⟨e2, he2⟩ : ∃ e2, w2.alloc (.cells #[.int .u8 5, .int .i64 (FR : Nat), .int .u64 0, .int .i64 0, .int .u16 0, .int .u64 0, .int .i64 0, .int .u64 0, .int .i64 0, .slice none 0 0, .int .u64 0, .slice none 0 0, .slice none 0 0, .int .u64 0, .int .u64 0] 30) = e2 := ⟨_, rfl⟩
  have hb2 : Below w2.heap.size w2 e2 := by rw [← he2]; exact bl1 _ _
  have he2s : e2.heap.size = w2.heap.size + 1 := by rw [← he2]; simp
  have c2 : e2.heap[w2.heap.size]? = some (.cells #[.int .u8 5, .int .i64 (FR : Nat), .int .u64 0, .int .i64 0, .int .u16 0, .int .u64 0, .int .i64 0, .int .u64 0, .int .i64 0, .slice none 0 0, .int .u64 0, .slice none 0 0, .slice none 0 0, .int .u64 0, .int .u64 0] 30 (0, 0)) := by rw [← he2]; exact heap_alloc_new _ _
  have y2 : e2.heap[w.heap.size]? = some (.cells #[.int .u8 0, .int .i64 0, .int .u64 0, .int .i64 0, .int .u16 0, .int .u64 0, .int .i64 0, .int .u64 0, .int .i64 0, .slice none 0 0, .int .u64 0, .slice none 0 0, .slice none 0 0, .int .u64 0, .int .u64 0] 30 (0, 0)) := (hb2.block _ hs2).trans z2
  have hge2 : w.grownBy e2 (some r) := gr_up hg02 hb2
  have hre2 : Cd.Rd e2 r s2 := Cd.rd_below hrd2 hb2
  have HE2 : Hid (w2.alloc (.cells #[.int .u8 5, .int .i64 (FR : Nat), .int .u64 0, .int .i64 0, .int .u16 0, .int .u64 0, .int .i64 0, .int .u64 0, .int .i64 0, .slice none 0 0, .int .u64 0, .slice none 0 0, .slice none 0 0, .int .u64 0, .int .u64 0] 30) = e2) := he2
  clear hno1 hrd2 hg2 hg01 z1 z2 hg02 hb2 he2
  have hv3 := readView_any e2 r s2 hre2
  have hsl3 : sl (decV s2).2 := sl_dec hsl2
  generalize decV s2 = dv3 at *
  obtain ⟨⟨N3, P3⟩, s3⟩ := dv3
  simp only at *
  unfold vid at hv3
  go_wp2_with fail
  rw [HE2.out]
  refine hv3.mono ?_
  rintro e w3 ⟨rfl, hrd3, hg3⟩
  have hk3 : w3.heap[w2.heap.size]? = some (.cells #[.int .u8 5, .int .i64 (FR : Nat), .int .u64 0, .int .i64 0, .int .u16 0, .int .u64 0, .int .i64 0, .int .u64 0, .int .i64 0, .slice none 0 0, .int .u64 0, .slice none 0 0, .slice none 0 0, .int .u64 0, .int .u64 0] 30 (0, 0)) := (hg3.block w2.heap.size (by omega) (by simp; omega)).trans c2
  have z3 : w3.heap[w.heap.size]? = some (.cells #[.int .u8 0, .int .i64 0, .int .u64 0, .int .i64 0, .int .u16 0, .int .u64 0, .int .i64 0, .int .u64 0, .int .i64 0, .slice none 0 0, .int .u64 0, .slice none 0 0, .slice none 0 0, .int .u64 0, .int .u64 0] 30 (0, 0)) := (hg3.block w.heap.size (by omega) (by simp; omega)).trans y2
  have hs3 : e2.heap.size ≤ w3.heap.size := hg3.size
  have hgw3 : w.grownBy w3 (some r) := Cd.grown_trans hge2 hg3
  clear hv3 hg3 hge2 hre2 c2 y2 HE2
  obtain ⟨e3, he3⟩ : ∃ e3, ((w3.setCell ⟨w2.heap.size, 2, none⟩ (.int .u64 (N3 : Nat))).setCell ⟨w2.heap.size, 3, none⟩ (.int .i64 (P3 : Nat))) = e3 := ⟨_, rfl⟩
  have m3 : (w3.setCell ⟨w2.heap.size, 2, none⟩ (.int .u64 (N3 : Nat))).heap[w2.heap.size]? = some (.cells #[.int .u8 5, .int .i64 (FR : Nat), .int .u64 (N3 : Nat), .int .i64 0, .int .u16 0, .int .u64 0, .int .i64 0, .int .u64 0, .int .i64 0, .slice none 0 0, .int .u64 0, .slice none 0 0, .slice none 0 0, .int .u64 0, .int .u64 0] 30 (0, 0)) := by rw [heap_setCell_same w3 w2.heap.size 2 _ 30 _ hk3]; rfl
  have c3 : e3.heap[w2.heap.size]? = some (.cells #[.int .u8 5, .int .i64 (FR : Nat), .int .u64 (N3 : Nat), .int .i64 (P3 : Nat), .int .u16 0, .int .u64 0, .int .i64 0, .int .u64 0, .int .i64 0, .slice none 0 0, .int .u64 0, .slice none 0 0, .slice none 0 0, .int .u64 0, .int .u64 0] 30 (0, 0)) := by rw [← he3, heap_setCell_same _ w2.heap.size 3 _ 30 _ m3]; rfl
  have y3 : e3.heap[w.heap.size]? = some (.cells #[.int .u8 0, .int .i64 0, .int .u64 0, .int .i64 0, .int .u16 0, .int .u64 0, .int .i64 0, .int .u64 0, .int .i64 0, .slice none 0 0, .int .u64 0, .slice none 0 0, .slice none 0 0, .int .u64 0, .int .u64 0] 30 (0, 0)) := by rw [← he3, Below.heap_setCell _ _ _ _ (by show w.heap.size ≠ w2.heap.size; omega), Below.heap_setCell _ _ _ _ (by show w.heap.size ≠ w2.heap.size; omega)]; exact z3
  have hge3 : w.grownBy e3 (some r) := by rw [← he3]; exact gr_setCell (gr_setCell hgw3 (by omega)) (by omega)
  have hre3 : Cd.Rd e3 r s3 := by rw [← he3]; exact rd_grown (g := some w2.heap.size) (rd_grown (g := some w2.heap.size) hrd3 (Cd.set_grown _) (fun b e => by cases e; omega)) (Cd.set_grown _) (fun b e => by cases e; omega)
  have he3s : e3.heap.size = w3.heap.size := by rw [← he3]; simp [World.setCell]
  have o3_2 : w3.cell? ⟨w2.heap.size, 2, none⟩ = some (.int .u64 0) := by rw [cell_of_row w3 _ 2 _ 30 (0, 0) hk3]; rfl
  have fz3_2 : w3.frozen? ⟨w2.heap.size, 2, none⟩ = false := frozen_of_row w3 _ 2 _ 30 hk3
  have o3_3 : w3.cell? ⟨w2.heap.size, 3, none⟩ = some (.int .i64 0) := by rw [cell_of_row w3 _ 3 _ 30 (0, 0) hk3]; rfl
  have fz3_3 : w3.frozen? ⟨w2.heap.size, 3, none⟩ = false := frozen_of_row w3 _ 3 _ 30 hk3
  have ok3 : w3.cell? ⟨w2.heap.size, 0, none⟩ = some (.int .u8 5) := by rw [cell_of_row w3 _ 0 _ 30 (0, 0) hk3]; rfl
  have HE3 : Hid (((w3.setCell ⟨w2.heap.size, 2, none⟩ (.int .u64 (N3 : Nat))).setCell ⟨w2.heap.size, 3, none⟩ (.int .i64 (P3 : Nat))) = e3) := he3
  clear hk3 z3 hgw3 hrd3 he3 m3
  have hv4 := readSet_any e3 r s3 hre3
  have hsl4 : sl (Cd.rInt s3 65535).2 := sl_int hsl3
  generalize Cd.rInt s3 65535 = dv4 at *
  obtain ⟨N4, s4⟩ := dv4
  simp only at *
  go_wp2_with fail
  rw [HE3.out]
  refine hv4.mono ?_
  rintro e w4 ⟨rfl, hrd4, hg4⟩
  have hk4 : w4.heap[w2.heap.size]? = some (.cells #[.int .u8 5, .int .i64 (FR : Nat), .int .u64 (N3 : Nat), .int .i64 (P3 : Nat), .int .u16 0, .int .u64 0, .int .i64 0, .int .u64 0, .int .i64 0, .slice none 0 0, .int .u64 0, .slice none 0 0, .slice none 0 0, .int .u64 0, .int .u64 0] 30 (0, 0)) := (hg4.block w2.heap.size (by omega) (by simp; omega)).trans c3
  have z4 : w4.heap[w.heap.size]? = some (.cells #[.int .u8 0, .int .i64 0, .int .u64 0, .int .i64 0, .int .u16 0, .int .u64 0, .int .i64 0, .int .u64 0, .int .i64 0, .slice none 0 0, .int .u64 0, .slice none 0 0, .slice none 0 0, .int .u64 0, .int .u64 0] 30 (0, 0)) := (hg4.block w.heap.size (by omega) (by simp; omega)).trans y3
  have hs4 : e3.heap.size ≤ w4.heap.size := hg4.size
  have hgw4 : w.grownBy w4 (some r) := Cd.grown_trans hge3 hg4
  clear hv4 hg4 hge3 hre3 c3 y3 HE3
  obtain ⟨e4, he4⟩ : ∃ e4, (w4.setCell ⟨w2.heap.size, 4, none⟩ (.int .u16 (N4 : Nat))) = e4 := ⟨_, rfl⟩
  have c4 : e4.heap[w2.heap.size]? = some (.cells #[.int .u8 5, .int .i64 (FR : Nat), .int .u64 (N3 : Nat), .int .i64 (P3 : Nat), .int .u16 (N4 : Nat), .int .u64 0, .int .i64 0, .int .u64 0, .int .i64 0, .slice none 0 0, .int .u64 0, .slice none 0 0, .slice none 0 0, .int .u64 0, .int .u64 0] 30 (0, 0)) := by rw [← he4, heap_setCell_same w4 w2.heap.size 4 _ 30 _ hk4]; rfl
  have y4 : e4.heap[w.heap.size]? = some (.cells #[.int .u8 0, .int .i64 0, .int .u64 0, .int .i64 0, .int .u16 0, .int .u64 0, .int .i64 0, .int .u64 0, .int .i64 0, .slice none 0 0, .int .u64 0, .slice none 0 0, .slice none 0 0, .int .u64 0, .int .u64 0] 30 (0, 0)) := by rw [← he4, Below.heap_setCell _ _ _ _ (by show w.heap.size ≠ w2.heap.size; omega)]; exact z4
  have hge4 : w.grownBy e4 (some r) := by rw [← he4]; exact gr_setCell hgw4 (by omega)
  have hre4 : Cd.Rd e4 r s4 := by rw [← he4]; exact rd_grown (g := some w2.heap.size) hrd4 (Cd.set_grown _) (fun b e => by cases e; omega)
  have he4s : e4.heap.size = w4.heap.size := by rw [← he4]; simp [World.setCell]
  have o4_4 : w4.cell? ⟨w2.heap.size, 4, none⟩ = some (.int .u16 0) := by rw [cell_of_row w4 _ 4 _ 30 (0, 0) hk4]; rfl
  have fz4_4 : w4.frozen? ⟨w2.heap.size, 4, none⟩ = false := frozen_of_row w4 _ 4 _ 30 hk4
  have ok4 : w4.cell? ⟨w2.heap.size, 0, none⟩ = some (.int .u8 5) := by rw [cell_of_row w4 _ 0 _ 30 (0, 0) hk4]; rfl
  have HE4 : Hid ((w4.setCell ⟨w2.heap.size, 4, none⟩ (.int .u16 (N4 : Nat))) = e4) := he4
  clear hk4 z4 hgw4 hrd4 he4
  have hv5 := readListS_any e4 r s4 hre4 hsl4
  have hln5 := rMany_len (rState 9223372036854775807) s4
  generalize rMany (rState 9223372036854775807) s4 = dv5 at *
  obtain ⟨l5, s5⟩ := dv5
  simp only at *
  go_wp2_with fail
  rw [HE4.out]
  refine hv5.mono ?_
  rintro e w5 ⟨v, xs, rfl, hrow, hrd5, hg5⟩
  obtain ⟨lo, lc, rfl, hlist⟩ := hrow.sts hln5
  have HLI : Hid (SsX (fun b => e4.heap.size ≤ b) w5 lo l5.length l5) := hlist
  clear hrow hlist
  have HLN : Hid (l5.length = l5.length) := rfl
  have hk5 : w5.heap[w2.heap.size]? = some (.cells #[.int .u8 5, .int .i64 (FR : Nat), .int .u64 (N3 : Nat), .int .i64 (P3 : Nat), .int .u16 (N4 : Nat), .int .u64 0, .int .i64 0, .int .u64 0, .int .i64 0, .slice none 0 0, .int .u64 0, .slice none 0 0, .slice none 0 0, .int .u64 0, .int .u64 0] 30 (0, 0)) := (hg5.block w2.heap.size (by omega) (by simp; omega)).trans c4
  have z5 : w5.heap[w.heap.size]? = some (.cells #[.int .u8 0, .int .i64 0, .int .u64 0, .int .i64 0, .int .u16 0, .int .u64 0, .int .i64 0, .int .u64 0, .int .i64 0, .slice none 0 0, .int .u64 0, .slice none 0 0, .slice none 0 0, .int .u64 0, .int .u64 0] 30 (0, 0)) := (hg5.block w.heap.size (by omega) (by simp; omega)).trans y4
  have hs5 : e4.heap.size ≤ w5.heap.size := hg5.size
  have hgw5 : w.grownBy w5 (some r) := Cd.grown_trans hge4 hg5
  clear hv5 hg5 hge4 hre4 c4 y4 HE4
  obtain ⟨e5, he5⟩ : ∃ e5, (w5.setCell ⟨w2.heap.size, 9, none⟩ (.slice lo l5.length lc)) = e5 := ⟨_, rfl⟩
  have c5 : e5.heap[w2.heap.size]? = some (.cells #[.int .u8 5, .int .i64 (FR : Nat), .int .u64 (N3 : Nat), .int .i64 (P3 : Nat), .int .u16 (N4 : Nat), .int .u64 0, .int .i64 0, .int .u64 0, .int .i64 0, .slice lo l5.length lc, .int .u64 0, .slice none 0 0, .slice none 0 0, .int .u64 0, .int .u64 0] 30 (0, 0)) := by rw [← he5, heap_setCell_same w5 w2.heap.size 9 _ 30 _ hk5]; rfl
  have y5 : e5.heap[w.heap.size]? = some (.cells #[.int .u8 0, .int .i64 0, .int .u64 0, .int .i64 0, .int .u16 0, .int .u64 0, .int .i64 0, .int .u64 0, .int .i64 0, .slice none 0 0, .int .u64 0, .slice none 0 0, .slice none 0 0, .int .u64 0, .int .u64 0] 30 (0, 0)) := by rw [← he5, Below.heap_setCell _ _ _ _ (by show w.heap.size ≠ w2.heap.size; omega)]; exact z5
  have hge5 : w.grownBy e5 (some r) := by rw [← he5]; exact gr_setCell hgw5 (by omega)
  have hre5 : Cd.Rd e5 r s5 := by rw [← he5]; exact rd_grown (g := some w2.heap.size) hrd5 (Cd.set_grown _) (fun b e => by cases e; omega)
  have he5s : e5.heap.size = w5.heap.size := by rw [← he5]; simp [World.setCell]
  have o5_9 : w5.cell? ⟨w2.heap.size, 9, none⟩ = some (.slice none 0 0) := by rw [cell_of_row w5 _ 9 _ 30 (0, 0) hk5]; rfl
  have fz5_9 : w5.frozen? ⟨w2.heap.size, 9, none⟩ = false := frozen_of_row w5 _ 9 _ 30 hk5
  have ok5 : w5.cell? ⟨w2.heap.size, 0, none⟩ = some (.int .u8 5) := by rw [cell_of_row w5 _ 0 _ 30 (0, 0) hk5]; rfl
  have HLJ : Hid (SsX (fun b => e4.heap.size ≤ b) e5 lo l5.length l5) := SsX.keep HLI.out (by rw [← he5]; exact kp_setCell (fun b hb => by omega))
  clear HLI
  have HE5 : Hid ((w5.setCell ⟨w2.heap.size, 9, none⟩ (.slice lo l5.length lc)) = e5) := he5
  clear hk5 z5 hgw5 hrd5 he5
  have hset := setRow_heap e5 w.heap.size _ #[.int .u8 5, .int .i64 (FR : Nat), .int .u64 (N3 : Nat), .int .i64 (P3 : Nat), .int .u16 (N4 : Nat), .int .u64 0, .int .i64 0, .int .u64 0, .int .i64 0, .slice lo l5.length lc, .int .u64 0, .slice none 0 0, .slice none 0 0, .int .u64 0, .int .u64 0] 30 (0, 0) y5
  have HFI : Hid (Cd.Rd (e5.setRow w.heap.size #[.int .u8 5, .int .i64 (FR : Nat), .int .u64 (N3 : Nat), .int .i64 (P3 : Nat), .int .u16 (N4 : Nat), .int .u64 0, .int .i64 0, .int .u64 0, .int .i64 0, .slice lo l5.length lc, .int .u64 0, .slice none 0 0, .slice none 0 0, .int .u64 0, .int .u64 0]) r s5 ∧ w.grownBy (e5.setRow w.heap.size #[.int .u8 5, .int .i64 (FR : Nat), .int .u64 (N3 : Nat), .int .i64 (P3 : Nat), .int .u16 (N4 : Nat), .int .u64 0, .int .i64 0, .int .u64 0, .int .i64 0, .slice lo l5.length lc, .int .u64 0, .slice none 0 0, .slice none 0 0, .int .u64 0, .int .u64 0]) (some r)) := ⟨rd_setRow' hre5 (by omega), gr_setRow' hge5 (Nat.le_refl _) _⟩
  have hen : (w5.setCell ⟨w2.heap.size, 9, none⟩ (.slice lo l5.length lc)) = e5 := HE5.out
  have oke : e5.cell? ⟨w2.heap.size, 0, none⟩ = some (.int .u8 5) := by rw [cell_of_row e5 _ 0 _ 30 (0, 0) c5]; rfl
  clear hre5 hge5 HE5
  go_wp2_with (first | (refine wpList_load_row rfl 30 (.tmp 3) rfl w2.heap.size rfl 30 #[.int .u8 5, .int .i64 (FR : Nat), .int .u64 (N3 : Nat), .int .i64 (P3 : Nat), .int .u16 (N4 : Nat), .int .u64 0, .int .i64 0, .int .u64 0, .int .i64 0, .slice lo l5.length lc, .int .u64 0, .slice none 0 0, .slice none 0 0, .int .u64 0, .int .u64 0] (0, 0) _ c5 Try.underlying30 rfl info30 ?_) | (refine wpList_store_row rfl 30 (.tmp 2) (.tmp 74) rfl w.heap.size #[.int .u8 5, .int .i64 (FR : Nat), .int .u64 (N3 : Nat), .int .i64 (P3 : Nat), .int .u16 (N4 : Nat), .int .u64 0, .int .i64 0, .int .u64 0, .int .i64 0, .slice lo l5.length lc, .int .u64 0, .slice none 0 0, .slice none 0 0, .int .u64 0, .int .u64 0] rfl rfl 30 _ y5 info30 rfl (by simp [Value.oneCell']) ?_))
  refine bodyPost_ret (results_cell1 (g := w.heap.size) (cs := #[.int .u8 5, .int .i64 (FR : Nat), .int .u64 (N3 : Nat), .int .i64 (P3 : Nat), .int .u16 (N4 : Nat), .int .u64 0, .int .i64 0, .int .u64 0, .int .i64 0, .slice lo l5.length lc, .int .u64 0, .slice none 0 0, .slice none 0 0, .int .u64 0, .int .u64 0]) Try.results27 rfl (load30 hset rfl)) rfl ?_
  rw [HF.out]
  exact ⟨⟨lo, lc, none, 0, none, 0⟩, rfl, ⟨SsX.imp (SsX.keep HLJ.out (kp_setRow (fun b hb => by omega))) (fun b _ hb => by omega), MsX.nil _ _, ItsX.nil _ _⟩, HFI.out.1, HFI.out.2⟩

set_option maxRecDepth 20000 in
set_option maxHeartbeats 2000000 in
theorem readFrame_6 (w : World) (r : Nat) (st : St) (h : Cd.Rd w r st) (hl : sl st) (hK : (Cd.rInt st 7).1 = 6) :
    Calls Try.prog 27 #[.pointer (some ⟨r, 0, none⟩)] w fun e w' => ∃ a, e = .returned (fval (rFrame 9223372036854775807 st).1 a) ∧ FIn (fun b => w.heap.size ≤ b) w' (rFrame 9223372036854775807 st).1 a ∧ Cd.Rd w' r (rFrame 9223372036854775807 st).2 ∧ w.grownBy w' (some r) := by
  have hrl := h.lt
  have hin := Cd.int_rd (w.alloc (.cells #[.int .u8 0, .int .i64 0, .int .u64 0, .int .i64 0, .int .u16 0, .int .u64 0, .int .i64 0, .int .u64 0, .int .i64 0, .slice none 0 0, .int .u64 0, .slice none 0 0, .slice none 0 0, .int .u64 0, .int .u64 0] 30)) r st (rd_alloc h _) 7 (by omega) (by omega)
  have hsl1 : sl (Cd.rInt st 7).2 := sl_int hl
  have HF : Hid (rFrame 9223372036854775807 st = ({ zeroF with kind := 6, frm := (((Cd.rInt (Cd.rInt st 7).2 15).1 : Nat) : Int), idN := (decV (Cd.rInt (Cd.rInt st 7).2 15).2).1.1, idP := (((decV (Cd.rInt (Cd.rInt st 7).2 15).2).1.2 : Nat) : Int), base := (Cd.rUint (decV (Cd.rInt (Cd.rInt st 7).2 15).2).2).1, ack := (Cd.rUint (Cd.rUint (decV (Cd.rInt (Cd.rInt st 7).2 15).2).2).2).1, ms := (rMany rMsg (Cd.rUint (Cd.rUint (decV (Cd.rInt (Cd.rInt st 7).2 15).2).2).2).2).1 }, (rMany rMsg (Cd.rUint (Cd.rUint (decV (Cd.rInt (Cd.rInt st 7).2 15).2).2).2).2).2)) := by
    show _ = _
    unfold rFrame rIdent rHead rBody
    simp [hK, zeroF]
  generalize Cd.rInt st 7 = r0 at *
  obtain ⟨K, s1⟩ := r0
  simp only at *
  subst hK
  have hno := fun W (hW : Cd.Rd W r s1) => readNode_any W r s1 hW
  have hsl2 : sl (Cd.rInt s1 15).2 := sl_int hsl1
  generalize Cd.rInt s1 15 = r1 at *
  obtain ⟨FR, s2⟩ := r1
  simp only at *
  clear h hl hsl1
  go_enter Try.func27, Try.ntmps27
  go_wp2_with fail
  refine hin.mono ?_
  rintro e w1 ⟨rfl, hrd1, hg1⟩
  have z1 : w1.heap[w.heap.size]? = some (.cells #[.int .u8 0, .int .i64 0, .int .u64 0, .int .i64 0, .int .u16 0, .int .u64 0, .int .i64 0, .int .u64 0, .int .i64 0, .slice none 0 0, .int .u64 0, .slice none 0 0, .slice none 0 0, .int .u64 0, .int .u64 0] 30 (0, 0)) := (hg1.block w.heap.size (by simp) (by simp; omega)).trans (heap_alloc_new _ _)
  have hg01 : w.grownBy w1 (some r) := Cd.grown_trans (gr_alloc0 w _ _) hg1
  have hs1 : w.heap.size < w1.heap.size := by have := hg1.size; simp at this; omega
  have hno1 := hno w1 hrd1
  clear hin hno hrd1 hg1
  go_wp2_with fail
  refine hno1.mono ?_
  rintro e w2 ⟨rfl, hrd2, hg2⟩
  have z2 : w2.heap[w.heap.size]? = some (.cells #[.int .u8 0, .int .i64 0, .int .u64 0, .int .i64 0, .int .u16 0, .int .u64 0, .int .i64 0, .int .u64 0, .int .i64 0, .slice none 0 0, .int .u64 0, .slice none 0 0, .slice none 0 0, .int .u64 0, .int .u64 0] 30 (0, 0)) := (hg2.block w.heap.size hs1 (by simp; omega)).trans z1
  have hg02 : w.grownBy w2 (some r) := Cd.grown_trans hg01 hg2
  have hs2 : w.heap.size < w2.heap.size := by have := hg2.size; omega
  obtain ⟨e2, he2⟩ : ∃ e2, w2.alloc (.cells #[.int .u8 6, .int .i64 (FR : Nat), .int .u64 0, .int .i64 0, .int .u16 0, .int .u64 0, .int .i64 0, .int .u64 0, .int .i64 0, .slice none 0 0, .int .u64 0, .slice none 0 0, .slice none 0 0, .int .u64 0, .int .u64 0] 30) = e2 := ⟨_, rfl⟩
  have hb2 : Below w2.heap.size w2 e2 := by rw [← he2]; exact bl1 _ _
  have he2s : e2.heap.size = w2.heap.size + 1 := by rw [← he2]; simp
  have c2 : e2.heap[w2.heap.size]? = some (.cells #[.int .u8 6, .int .i64 (FR : Nat), .int .u64 0, .int .i64 0, .int .u16 0, .int .u64 0, .int .i64 0, .int .u64 0, .int .i64 0, .slice none 0 0, .int .u64 0, .slice none 0 0, .slice none 0 0, .int .u64 0, .int .u64 0] 30 (0, 0)) := by rw [← he2]; exact heap_alloc_new _ _
  have y2 : e2.heap[w.heap.size]? = some (.cells #[.int .u8 0, .int .i64 0, .int .u64 0, .int .i64 0, .int .u16 0, .int .u64 0, .int .i64 0, .int .u64 0, .int .i64 0, .slice none 0 0, .int .u64 0, .slice none 0 0, .slice none 0 0, .int .u64 0, .int .u64 0] 30 (0, 0)) := (hb2.block _ hs2).trans z2
  have hge2 : w.grownBy e2 (some r) := gr_up hg02 hb2
  have hre2 : Cd.Rd e2 r s2 := Cd.rd_below hrd2 hb2
  have HE2 : Hid (w2.alloc (.cells #[.int .u8 6, .int .i64 (FR : Nat), .int .u64 0, .int .i64 0, .int .u16 0, .int .u64 0, .int .i64 0, .int .u64 0, .int .i64 0, .slice none 0 0, .int .u64 0, .slice none 0 0, .slice none 0 0, .int .u64 0, .int .u64 0] 30) = e2) := he2
  clear hno1 hrd2 hg2 hg01 z1 z2 hg02 hb2 he2
  have hv3 := readView_any e2 r s2 hre2
  have hsl3 : sl (decV s2).2 := sl_dec hsl2
  generalize decV s2 = dv3 at *
  obtain ⟨⟨N3, P3⟩, s3⟩ := dv3
  simp only at *
  unfold vid at hv3
  go_wp2_with fail
  rw [HE2.out]
  refine hv3.mono ?_
  rintro e w3 ⟨rfl, hrd3, hg3⟩
  have hk3 : w3.heap[w2.heap.size]? = some (.cells #[.int .u8 6, .int .i64 (FR : Nat), .int .u64 0, .int .i64 0, .int .u16 0, .int .u64 0, .int .i64 0, .int .u64 0, .int .i64 0, .slice none 0 0, .int .u64 0, .slice none 0 0, .slice none 0 0, .int .u64 0, .int .u64 0] 30 (0, 0)) := (hg3.block w2.heap.size (by omega) (by simp; omega)).trans c2
  have z3 : w3.heap[w.heap.size]? = some (.cells #[.int .u8 0, .int .i64 0, .int .u64 0, .int .i64 0, .int .u16 0, .int .u64 0, .int .i64 0, .int .u64 0, .int .i64 0, .slice none 0 0, .int .u64 0, .slice none 0 0, .slice none 0 0, .int .u64 0, .int .u64 0] 30 (0, 0)) := (hg3.block w.heap.size (by omega) (by simp; omega)).trans y2
  have hs3 : e2.heap.size ≤ w3.heap.size := hg3.size
  have hgw3 : w.grownBy w3 (some r) := Cd.grown_trans hge2 hg3
  clear hv3 hg3 hge2 hre2 c2 y2 HE2
  obtain ⟨e3, he3⟩ : ∃ e3, ((w3.setCell ⟨w2.heap.size, 2, none⟩ (.int .u64 (N3 : Nat))).setCell ⟨w2.heap.size, 3, none⟩ (.int .i64 (P3 : Nat))) = e3 := ⟨_, rfl⟩
  have m3 : (w3.setCell ⟨w2.heap.size, 2, none⟩ (.int .u64 (N3 : Nat))).heap[w2.heap.size]? = some (.cells #[.int .u8 6, .int .i64 (FR : Nat), .int .u64 (N3 : Nat), .int .i64 0, .int .u16 0, .int .u64 0, .int .i64 0, .int .u64 0, .int .i64 0, .slice none 0 0, .int .u64 0, .slice none 0 0, .slice none 0 0, .int .u64 0, .int .u64 0] 30 (0, 0)) := by rw [heap_setCell_same w3 w2.heap.size 2 _ 30 _ hk3]; rfl
  have c3 : e3.heap[w2.heap.size]? = some (.cells #[.int .u8 6, .int .i64 (FR : Nat), .int .u64 (N3 : Nat), .int .i64 (P3 : Nat), .int .u16 0, .int .u64 0, .int .i64 0, .int .u64 0, .int .i64 0, .slice none 0 0, .int .u64 0, .slice none 0 0, .slice none 0 0, .int .u64 0, .int .u64 0] 30 (0, 0)) := by rw [← he3, heap_setCell_same _ w2.heap.size 3 _ 30 _ m3]; rfl
  have y3 : e3.heap[w.heap.size]? = some (.cells #[.int .u8 0, .int .i64 0, .int .u64 0, .int .i64 0, .int .u16 0, .int .u64 0, .int .i64 0, .int .u64 0, .int .i64 0, .slice none 0 0, .int .u64 0, .slice none 0 0, .slice none 0 0, .int .u64 0, .int .u64 0] 30 (0, 0)) := by rw [← he3, Below.heap_setCell _ _ _ _ (by show w.heap.size ≠ w2.heap.size; omega), Below.heap_setCell _ _ _ _ (by show w.heap.size ≠ w2.heap.size; omega)]; exact z3
  have hge3 : w.grownBy e3 (some r) := by rw [← he3]; exact gr_setCell (gr_setCell hgw3 (by omega)) (by omega)
  have hre3 : Cd.Rd e3 r s3 := by rw [← he3]; exact rd_grown (g := some w2.heap.size) (rd_grown (g := some w2.heap.size) hrd3 (Cd.set_grown _) (fun b e => by cases e; omega)) (Cd.set_grown _) (fun b e => by cases e; omega)
  have he3s : e3.heap.size = w3.heap.size := by rw [← he3]; simp [World.setCell]
  have o3_2 : w3.cell? ⟨w2.heap.size, 2, none⟩ = some (.int .u64 0) := by rw [cell_of_row w3 _ 2 _ 30 (0, 0) hk3]; rfl
  have fz3_2 : w3.frozen? ⟨w2.heap.size, 2, none⟩ = false := frozen_of_row w3 _ 2 _ 30 hk3
  have o3_3 : w3.cell? ⟨w2.heap.size, 3, none⟩ = some (.int .i64 0) := by rw [cell_of_row w3 _ 3 _ 30 (0, 0) hk3]; rfl
  have fz3_3 : w3.frozen? ⟨w2.heap.size, 3, none⟩ = false := frozen_of_row w3 _ 3 _ 30 hk3
  have ok3 : w3.cell? ⟨w2.heap.size, 0, none⟩ = some (.int .u8 6) := by rw [cell_of_row w3 _ 0 _ 30 (0, 0) hk3]; rfl
  have HE3 : Hid (((w3.setCell ⟨w2.heap.size, 2, none⟩ (.int .u64 (N3 : Nat))).setCell ⟨w2.heap.size, 3, none⟩ (.int .i64 (P3 : Nat))) = e3) := he3
  clear hk3 z3 hgw3 hrd3 he3 m3
  have hv4 := Cd.uint_rd e3 r s3 hre3
  have hsl4 : sl (Cd.rUint s3).2 := sl_uint hsl3
  generalize Cd.rUint s3 = dv4 at *
  obtain ⟨N4, s4⟩ := dv4
  simp only at *
  go_wp2_with fail
  rw [HE3.out]
  refine hv4.mono ?_
  rintro e w4 ⟨rfl, hrd4, hg4⟩
  have hk4 : w4.heap[w2.heap.size]? = some (.cells #[.int .u8 6, .int .i64 (FR : Nat), .int .u64 (N3 : Nat), .int .i64 (P3 : Nat), .int .u16 0, .int .u64 0, .int .i64 0, .int .u64 0, .int .i64 0, .slice none 0 0, .int .u64 0, .slice none 0 0, .slice none 0 0, .int .u64 0, .int .u64 0] 30 (0, 0)) := (hg4.block w2.heap.size (by omega) (by simp; omega)).trans c3
  have z4 : w4.heap[w.heap.size]? = some (.cells #[.int .u8 0, .int .i64 0, .int .u64 0, .int .i64 0, .int .u16 0, .int .u64 0, .int .i64 0, .int .u64 0, .int .i64 0, .slice none 0 0, .int .u64 0, .slice none 0 0, .slice none 0 0, .int .u64 0, .int .u64 0] 30 (0, 0)) := (hg4.block w.heap.size (by omega) (by simp; omega)).trans y3
  have hs4 : e3.heap.size ≤ w4.heap.size := hg4.size
  have hgw4 : w.grownBy w4 (some r) := Cd.grown_trans hge3 hg4
  clear hv4 hg4 hge3 hre3 c3 y3 HE3
  obtain ⟨e4, he4⟩ : ∃ e4, (w4.setCell ⟨w2.heap.size, 10, none⟩ (.int .u64 (N4 : Nat))) = e4 := ⟨_, rfl⟩
  have c4 : e4.heap[w2.heap.size]? = some (.cells #[.int .u8 6, .int .i64 (FR : Nat), .int .u64 (N3 : Nat), .int .i64 (P3 : Nat), .int .u16 0, .int .u64 0, .int .i64 0, .int .u64 0, .int .i64 0, .slice none 0 0, .int .u64 (N4 : Nat), .slice none 0 0, .slice none 0 0, .int .u64 0, .int .u64 0] 30 (0, 0)) := by rw [← he4, heap_setCell_same w4 w2.heap.size 10 _ 30 _ hk4]; rfl
  have y4 : e4.heap[w.heap.size]? = some (.cells #[.int .u8 0, .int .i64 0, .int .u64 0, .int .i64 0, .int .u16 0, .int .u64 0, .int .i64 0, .int .u64 0, .int .i64 0, .slice none 0 0, .int .u64 0, .slice none 0 0, .slice none 0 0, .int .u64 0, .int .u64 0] 30 (0, 0)) := by rw [← he4, Below.heap_setCell _ _ _ _ (by show w.heap.size ≠ w2.heap.size; omega)]; exact z4
  have hge4 : w.grownBy e4 (some r) := by rw [← he4]; exact gr_setCell hgw4 (by omega)
  have hre4 : Cd.Rd e4 r s4 := by rw [← he4]; exact rd_grown (g := some w2.heap.size) hrd4 (Cd.set_grown _) (fun b e => by cases e; omega)
  have he4s : e4.heap.size = w4.heap.size := by rw [← he4]; simp [World.setCell]
  have o4_10 : w4.cell? ⟨w2.heap.size, 10, none⟩ = some (.int .u64 0) := by rw [cell_of_row w4 _ 10 _ 30 (0, 0) hk4]; rfl
  have fz4_10 : w4.frozen? ⟨w2.heap.size, 10, none⟩ = false := frozen_of_row w4 _ 10 _ 30 hk4
  have ok4 : w4.cell? ⟨w2.heap.size, 0, none⟩ = some (.int .u8 6) := by rw [cell_of_row w4 _ 0 _ 30 (0, 0) hk4]; rfl
  have HE4 : Hid ((w4.setCell ⟨w2.heap.size, 10, none⟩ (.int .u64 (N4 : Nat))) = e4) := he4
  clear hk4 z4 hgw4 hrd4 he4
  have hv5 := Cd.uint_rd e4 r s4 hre4
  have hsl5 : sl (Cd.rUint s4).2 := sl_uint hsl4
  generalize Cd.rUint s4 = dv5 at *
  obtain ⟨N5, s5⟩ := dv5
  simp only at *
  go_wp2_with fail
  rw [HE4.out]
  refine hv5.mono ?_
  rintro e w5 ⟨rfl, hrd5, hg5⟩
  have hk5 : w5.heap[w2.heap.size]? = some (.cells #[.int .u8 6, .int .i64 (FR : Nat), .int .u64 (N3 : Nat), .int .i64 (P3 : Nat), .int .u16 0, .int .u64 0, .int .i64 0, .int .u64 0, .int .i64 0, .slice none 0 0, .int .u64 (N4 : Nat), .slice none 0 0, .slice none 0 0, .int .u64 0, .int .u64 0] 30 (0, 0)) := (hg5.block w2.heap.size (by omega) (by simp; omega)).trans c4
  have z5 : w5.heap[w.heap.size]? = some (.cells #[.int .u8 0, .int .i64 0, .int .u64 0, .int .i64 0, .int .u16 0, .int .u64 0, .int .i64 0, .int .u64 0, .int .i64 0, .slice none 0 0, .int .u64 0, .slice none 0 0, .slice none 0 0, .int .u64 0, .int .u64 0] 30 (0, 0)) := (hg5.block w.heap.size (by omega) (by simp; omega)).trans y4
  have hs5 : e4.heap.size ≤ w5.heap.size := hg5.size
  have hgw5 : w.grownBy w5 (some r) := Cd.grown_trans hge4 hg5
  clear hv5 hg5 hge4 hre4 c4 y4 HE4
  obtain ⟨e5, he5⟩ : ∃ e5, (w5.setCell ⟨w2.heap.size, 13, none⟩ (.int .u64 (N5 : Nat))) = e5 := ⟨_, rfl⟩
  have c5 : e5.heap[w2.heap.size]? = some (.cells #[.int .u8 6, .int .i64 (FR : Nat), .int .u64 (N3 : Nat), .int .i64 (P3 : Nat), .int .u16 0, .int .u64 0, .int .i64 0, .int .u64 0, .int .i64 0, .slice none 0 0, .int .u64 (N4 : Nat), .slice none 0 0, .slice none 0 0, .int .u64 (N5 : Nat), .int .u64 0] 30 (0, 0)) := by rw [← he5, heap_setCell_same w5 w2.heap.size 13 _ 30 _ hk5]; rfl
  have y5 : e5.heap[w.heap.size]? = some (.cells #[.int .u8 0, .int .i64 0, .int .u64 0, .int .i64 0, .int .u16 0, .int .u64 0, .int .i64 0, .int .u64 0, .int .i64 0, .slice none 0 0, .int .u64 0, .slice none 0 0, .slice none 0 0, .int .u64 0, .int .u64 0] 30 (0, 0)) := by rw [← he5, Below.heap_setCell _ _ _ _ (by show w.heap.size ≠ w2.heap.size; omega)]; exact z5
  have hge5 : w.grownBy e5 (some r) := by rw [← he5]; exact gr_setCell hgw5 (by omega)
  have hre5 : Cd.Rd e5 r s5 := by rw [← he5]; exact rd_grown (g := some w2.heap.size) hrd5 (Cd.set_grown _) (fun b e => by cases e; omega)
  have he5s : e5.heap.size = w5.heap.size := by rw [← he5]; simp [World.setCell]
  have o5_13 : w5.cell? ⟨w2.heap.size, 13, none⟩ = some (.int .u64 0) := by rw [cell_of_row w5 _ 13 _ 30 (0, 0) hk5]; rfl
  have fz5_13 : w5.frozen? ⟨w2.heap.size, 13, none⟩ = false := frozen_of_row w5 _ 13 _ 30 hk5
  have ok5 : w5.cell? ⟨w2.heap.size, 0, none⟩ = some (.int .u8 6) := by rw [cell_of_row w5 _ 0 _ 30 (0, 0) hk5]; rfl
  have HE5 : Hid ((w5.setCell ⟨w2.heap.size, 13, none⟩ (.int .u64 (N5 : Nat))) = e5) := he5
  clear hk5 z5 hgw5 hrd5 he5
  have hv6 := readListM_any e5 r s5 hre5 hsl5
  have hln6 := rMany_len rMsg s5
  generalize rMany rMsg s5 = dv6 at *
  obtain ⟨l6, s6⟩ := dv6
  simp only at *
  go_wp2_with fail
  rw [HE5.out]
  refine hv6.mono ?_
  rintro e w6 ⟨v, xs, rfl, hrow, hrd6, hg6⟩
  obtain ⟨lo, lc, rfl, hlist⟩ := hrow.mss hln6
  have HLI : Hid (MsX (fun b => e5.heap.size ≤ b) w6 lo l6.length l6) := hlist
  clear hrow hlist
  have HLN : Hid (l6.length = l6.length) := rfl
  have hk6 : w6.heap[w2.heap.size]? = some (.cells #[.int .u8 6, .int .i64 (FR : Nat), .int .u64 (N3 : Nat), .int .i64 (P3 : Nat), .int .u16 0, .int .u64 0, .int .i64 0, .int .u64 0, .int .i64 0, .slice none 0 0, .int .u64 (N4 : Nat), .slice none 0 0, .slice none 0 0, .int .u64 (N5 : Nat), .int .u64 0] 30 (0, 0)) := (hg6.block w2.heap.size (by omega) (by simp; omega)).trans c5
  have z6 : w6.heap[w.heap.size]? = some (.cells #[.int .u8 0, .int .i64 0, .int .u64 0, .int .i64 0, .int .u16 0, .int .u64 0, .int .i64 0, .int .u64 0, .int .i64 0, .slice none 0 0, .int .u64 0, .slice none 0 0, .slice none 0 0, .int .u64 0, .int .u64 0] 30 (0, 0)) := (hg6.block w.heap.size (by omega) (by simp; omega)).trans y5
  have hs6 : e5.heap.size ≤ w6.heap.size := hg6.size
  have hgw6 : w.grownBy w6 (some r) := Cd.grown_trans hge5 hg6
  clear hv6 hg6 hge5 hre5 c5 y5 HE5
  obtain ⟨e6, he6⟩ : ∃ e6, (w6.setCell ⟨w2.heap.size, 11, none⟩ (.slice lo l6.length lc)) = e6 := ⟨_, rfl⟩
  have c6 : e6.heap[w2.heap.size]? = some (.cells #[.int .u8 6, .int .i64 (FR : Nat), .int .u64 (N3 : Nat), .int .i64 (P3 : Nat), .int .u16 0, .int .u64 0, .int .i64 0, .int .u64 0, .int .i64 0, .slice none 0 0, .int .u64 (N4 : Nat), .slice lo l6.length lc, .slice none 0 0, .int .u64 (N5 : Nat), .int .u64 0] 30 (0, 0)) := by rw [← he6, heap_setCell_same w6 w2.heap.size 11 _ 30 _ hk6]; rfl
  have y6 : e6.heap[w.heap.size]? = some (.cells #[.int .u8 0, .int .i64 0, .int .u64 0, .int .i64 0, .int .u16 0, .int .u64 0, .int .i64 0, .int .u64 0, .int .i64 0, .slice none 0 0, .int .u64 0, .slice none 0 0, .slice none 0 0, .int .u64 0, .int .u64 0] 30 (0, 0)) := by rw [← he6, Below.heap_setCell _ _ _ _ (by show w.heap.size ≠ w2.heap.size; omega)]; exact z6
  have hge6 : w.grownBy e6 (some r) := by rw [← he6]; exact gr_setCell hgw6 (by omega)
  have hre6 : Cd.Rd e6 r s6 := by rw [← he6]; exact rd_grown (g := some w2.heap.size) hrd6 (Cd.set_grown _) (fun b e => by cases e; omega)
  have he6s : e6.heap.size = w6.heap.size := by rw [← he6]; simp [World.setCell]
  have o6_11 : w6.cell? ⟨w2.heap.size, 11, none⟩ = some (.slice none 0 0) := by rw [cell_of_row w6 _ 11 _ 30 (0, 0) hk6]; rfl
  have fz6_11 : w6.frozen? ⟨w2.heap.size, 11, none⟩ = false := frozen_of_row w6 _ 11 _ 30 hk6
  have ok6 : w6.cell? ⟨w2.heap.size, 0, none⟩ = some (.int .u8 6) := by rw [cell_of_row w6 _ 0 _ 30 (0, 0) hk6]; rfl
  have HLJ : Hid (MsX (fun b => e5.heap.size ≤ b) e6 lo l6.length l6) := MsX.keep HLI.out (by rw [← he6]; exact kp_setCell (fun b hb => by omega))
  clear HLI
  have HE6 : Hid ((w6.setCell ⟨w2.heap.size, 11, none⟩ (.slice lo l6.length lc)) = e6) := he6
  clear hk6 z6 hgw6 hrd6 he6
  have hset := setRow_heap e6 w.heap.size _ #[.int .u8 6, .int .i64 (FR : Nat), .int .u64 (N3 : Nat), .int .i64 (P3 : Nat), .int .u16 0, .int .u64 0, .int .i64 0, .int .u64 0, .int .i64 0, .slice none 0 0, .int .u64 (N4 : Nat), .slice lo l6.length lc, .slice none 0 0, .int .u64 (N5 : Nat), .int .u64 0] 30 (0, 0) y6
  have HFI : Hid (Cd.Rd (e6.setRow w.heap.size #[.int .u8 6, .int .i64 (FR : Nat), .int .u64 (N3 : Nat), .int .i64 (P3 : Nat), .int .u16 0, .int .u64 0, .int .i64 0, .int .u64 0, .int .i64 0, .slice none 0 0, .int .u64 (N4 : Nat), .slice lo l6.length lc, .slice none 0 0, .int .u64 (N5 : Nat), .int .u64 0]) r s6 ∧ w.grownBy (e6.setRow w.heap.size #[.int .u8 6, .int .i64 (FR : Nat), .int .u64 (N3 : Nat), .int .i64 (P3 : Nat), .int .u16 0, .int .u64 0, .int .i64 0, .int .u64 0, .int .i64 0, .slice none 0 0, .int .u64 (N4 : Nat), .slice lo l6.length lc, .slice none 0 0, .int .u64 (N5 : Nat), .int .u64 0]) (some r)) := ⟨rd_setRow' hre6 (by omega), gr_setRow' hge6 (Nat.le_refl _) _⟩
  have hen : (w6.setCell ⟨w2.heap.size, 11, none⟩ (.slice lo l6.length lc)) = e6 := HE6.out
  have oke : e6.cell? ⟨w2.heap.size, 0, none⟩ = some (.int .u8 6) := by rw [cell_of_row e6 _ 0 _ 30 (0, 0) c6]; rfl
  clear hre6 hge6 HE6
  go_wp2_with (first | (refine wpList_load_row rfl 30 (.tmp 3) rfl w2.heap.size rfl 30 #[.int .u8 6, .int .i64 (FR : Nat), .int .u64 (N3 : Nat), .int .i64 (P3 : Nat), .int .u16 0, .int .u64 0, .int .i64 0, .int .u64 0, .int .i64 0, .slice none 0 0, .int .u64 (N4 : Nat), .slice lo l6.length lc, .slice none 0 0, .int .u64 (N5 : Nat), .int .u64 0] (0, 0) _ c6 Try.underlying30 rfl info30 ?_) | (refine wpList_store_row rfl 30 (.tmp 2) (.tmp 74) rfl w.heap.size #[.int .u8 6, .int .i64 (FR : Nat), .int .u64 (N3 : Nat), .int .i64 (P3 : Nat), .int .u16 0, .int .u64 0, .int .i64 0, .int .u64 0, .int .i64 0, .slice none 0 0, .int .u64 (N4 : Nat), .slice lo l6.length lc, .slice none 0 0, .int .u64 (N5 : Nat), .int .u64 0] rfl rfl 30 _ y6 info30 rfl (by simp [Value.oneCell']) ?_))
  refine bodyPost_ret (results_cell1 (g := w.heap.size) (cs := #[.int .u8 6, .int .i64 (FR : Nat), .int .u64 (N3 : Nat), .int .i64 (P3 : Nat), .int .u16 0, .int .u64 0, .int .i64 0, .int .u64 0, .int .i64 0, .slice none 0 0, .int .u64 (N4 : Nat), .slice lo l6.length lc, .slice none 0 0, .int .u64 (N5 : Nat), .int .u64 0]) Try.results27 rfl (load30 hset rfl)) rfl ?_
  rw [HF.out]
  exact ⟨⟨none, 0, lo, lc, none, 0⟩, rfl, ⟨SsX.nil _ _, MsX.imp (MsX.keep HLJ.out (kp_setRow (fun b hb => by omega))) (fun b _ hb => by omega), ItsX.nil _ _⟩, HFI.out.1, HFI.out.2⟩

set_option maxRecDepth 20000 in
set_option maxHeartbeats 2000000 in
theorem readFrame_7 (w : World) (r : Nat) (st : St) (h : Cd.Rd w r st) (hl : sl st) (hK : (Cd.rInt st 7).1 = 7) :
    Calls Try.prog 27 #[.pointer (some ⟨r, 0, none⟩)] w fun e w' => ∃ a, e = .returned (fval (rFrame 9223372036854775807 st).1 a) ∧ FIn (fun b => w.heap.size ≤ b) w' (rFrame 9223372036854775807 st).1 a ∧ Cd.Rd w' r (rFrame 9223372036854775807 st).2 ∧ w.grownBy w' (some r) := by
  have hrl := h.lt
  have hin := Cd.int_rd (w.alloc (.cells #[.int .u8 0, .int .i64 0, .int .u64 0, .int .i64 0, .int .u16 0, .int .u64 0, .int .i64 0, .int .u64 0, .int .i64 0, .slice none 0 0, .int .u64 0, .slice none 0 0, .slice none 0 0, .int .u64 0, .int .u64 0] 30)) r st (rd_alloc h _) 7 (by omega) (by omega)
  have hsl1 : sl (Cd.rInt st 7).2 := sl_int hl
  have HF : Hid (rFrame 9223372036854775807 st = ({ zeroF with kind := 7, frm := (((Cd.rInt (Cd.rInt st 7).2 15).1 : Nat) : Int), idN := (decV (Cd.rInt (Cd.rInt st 7).2 15).2).1.1, idP := (((decV (Cd.rInt (Cd.rInt st 7).2 15).2).1.2 : Nat) : Int), base := (Cd.rUint (decV (Cd.rInt (Cd.rInt st 7).2 15).2).2).1, ack := (Cd.rUint (Cd.rUint (decV (Cd.rInt (Cd.rInt st 7).2 15).2).2).2).1, safe := (Cd.rUint (Cd.rUint (Cd.rUint (decV (Cd.rInt (Cd.rInt st 7).2 15).2).2).2).2).1, it := (rMany rItem (Cd.rUint (Cd.rUint (Cd.rUint (decV (Cd.rInt (Cd.rInt st 7).2 15).2).2).2).2).2).1 }, (rMany rItem (Cd.rUint (Cd.rUint (Cd.rUint (decV (Cd.rInt (Cd.rInt st 7).2 15).2).2).2).2).2).2)) := by
    show _ = _
    unfold rFrame rIdent rHead rBody
    simp [hK, zeroF]
  generalize Cd.rInt st 7 = r0 at *
  obtain ⟨K, s1⟩ := r0
  simp only at *
  subst hK
  have hno := fun W (hW : Cd.Rd W r s1) => readNode_any W r s1 hW
  have hsl2 : sl (Cd.rInt s1 15).2 := sl_int hsl1
  generalize Cd.rInt s1 15 = r1 at *
  obtain ⟨FR, s2⟩ := r1
  simp only at *
  clear h hl hsl1
  go_enter Try.func27, Try.ntmps27
  go_wp2_with fail
  refine hin.mono ?_
  rintro e w1 ⟨rfl, hrd1, hg1⟩
  have z1 : w1.heap[w.heap.size]? = some (.cells #[.int .u8 0, .int .i64 0, .int .u64 0, .int .i64 0, .int .u16 0, .int .u64 0, .int .i64 0, .int .u64 0, .int .i64 0, .slice none 0 0, .int .u64 0, .slice none 0 0, .slice none 0 0, .int .u64 0, .int .u64 0] 30 (0, 0)) := (hg1.block w.heap.size (by simp) (by simp; omega)).trans (heap_alloc_new _ _)
  have hg01 : w.grownBy w1 (some r) := Cd.grown_trans (gr_alloc0 w _ _) hg1
  have hs1 : w.heap.size < w1.heap.size := by have := hg1.size; simp at this; omega
  have hno1 := hno w1 hrd1
  clear hin hno hrd1 hg1
  go_wp2_with fail
  refine hno1.mono ?_
  rintro e w2 ⟨rfl, hrd2, hg2⟩
  have z2 : w2.heap[w.heap.size]? = some (.cells #[.int .u8 0, .int .i64 0, .int .u64 0, .int .i64 0, .int .u16 0, .int .u64 0, .int .i64 0, .int .u64 0, .int .i64 0, .slice none 0 0, .int .u64 0, .slice none 0 0, .slice none 0 0, .int .u64 0, .int .u64 0] 30 (0, 0)) := (hg2.block w.heap.size hs1 (by simp; omega)).trans z1
  have hg02 : w.grownBy w2 (some r) := Cd.grown_trans hg01 hg2
  have hs2 : w.heap.size < w2.heap.size := by have := hg2.size; omega
  obtain ⟨e2, he2⟩ : ∃ e2, w2.alloc (.cells #[.int .u8 7, .int .i64 (FR : Nat), .int .u64 0, .int .i64 0, .int .u16 0, .int .u64 0, .int .i64 0, .int .u64 0, .int .i64 0, .slice none 0 0, .int .u64 0, .slice none 0 0, .slice none 0 0, .int .u64 0, .int .u64 0] 30) = e2 := ⟨_, rfl⟩
  have hb2 : Below w2.heap.size w2 e2 := by rw [← he2]; exact bl1 _ _
  have he2s : e2.heap.size = w2.heap.size + 1 := by rw [← he2]; simp
  have c2 : e2.heap[w2.heap.size]? = some (.cells #[.int .u8 7, .int .i64 (FR : Nat), .int .u64 0, .int .i64 0, .int .u16 0, .int .u64 0, .int .i64 0, .int .u64 0, .int .i64 0, .slice none 0 0, .int .u64 0, .slice none 0 0, .slice none 0 0, .int .u64 0, .int .u64 0] 30 (0, 0)) := by rw [← he2]; exact heap_alloc_new _ _
  have y2 : e2.heap[w.heap.size]? = some (.cells #[.int .u8 0, .int .i64 0, .int .u64 0, .int .i64 0, .int .u16 0, .int .u64 0, .int .i64 0, .int .u64 0, .int .i64 0, .slice none 0 0, .int .u64 0, .slice none 0 0, .slice none 0 0, .int .u64 0, .int .u64 0] 30 (0, 0)) := (hb2.block _ hs2).trans z2
  have hge2 : w.grownBy e2 (some r) := gr_up hg02 hb2
  have hre2 : Cd.Rd e2 r s2 := Cd.rd_below hrd2 hb2
  have HE2 : Hid (w2.alloc (.cells #[.int .u8 7, .int .i64 (FR : Nat), .int .u64 0, .int .i64 0, .int .u16 0, .int .u64 0, .int .i64 0, .int .u64 0, .int .i64 0, .slice none 0 0, .int .u64 0, .slice none 0 0, .slice none 0 0, .int .u64 0, .int .u64 0] 30) = e2) := he2
  clear hno1 hrd2 hg2 hg01 z1 z2 hg02 hb2 he2
  have hv3 := readView_any e2 r s2 hre2
  have hsl3 : sl (decV s2).2 := sl_dec hsl2
  generalize decV s2 = dv3 at *
  obtain ⟨⟨N3, P3⟩, s3⟩ := dv3
  simp only at *
  unfold vid at hv3
  go_wp2_with fail
  rw [HE2.out]
  refine hv3.mono ?_
  rintro e w3 ⟨rfl, hrd3, hg3⟩
  have hk3 : w3.heap[w2.heap.size]? = some (.cells #[.int .u8 7, .int .i64 (FR : Nat), .int .u64 0, .int .i64 0, .int .u16 0, .int .u64 0, .int .i64 0, .int .u64 0, .int .i64 0, .slice none 0 0, .int .u64 0, .slice none 0 0, .slice none 0 0, .int .u64 0, .int .u64 0] 30 (0, 0)) := (hg3.block w2.heap.size (by omega) (by simp; omega)).trans c2
  have z3 : w3.heap[w.heap.size]? = some (.cells #[.int .u8 0, .int .i64 0, .int .u64 0, .int .i64 0, .int .u16 0, .int .u64 0, .int .i64 0, .int .u64 0, .int .i64 0, .slice none 0 0, .int .u64 0, .slice none 0 0, .slice none 0 0, .int .u64 0, .int .u64 0] 30 (0, 0)) := (hg3.block w.heap.size (by omega) (by simp; omega)).trans y2
  have hs3 : e2.heap.size ≤ w3.heap.size := hg3.size
  have hgw3 : w.grownBy w3 (some r) := Cd.grown_trans hge2 hg3
  clear hv3 hg3 hge2 hre2 c2 y2 HE2
  obtain ⟨e3, he3⟩ : ∃ e3, ((w3.setCell ⟨w2.heap.size, 2, none⟩ (.int .u64 (N3 : Nat))).setCell ⟨w2.heap.size, 3, none⟩ (.int .i64 (P3 : Nat))) = e3 := ⟨_, rfl⟩
  have m3 : (w3.setCell ⟨w2.heap.size, 2, none⟩ (.int .u64 (N3 : Nat))).heap[w2.heap.size]? = some (.cells #[.int .u8 7, .int .i64 (FR : Nat), .int .u64 (N3 : Nat), .int .i64 0, .int .u16 0, .int .u64 0, .int .i64 0, .int .u64 0, .int .i64 0, .slice none 0 0, .int .u64 0, .slice none 0 0, .slice none 0 0, .int .u64 0, .int .u64 0] 30 (0, 0)) := by rw [heap_setCell_same w3 w2.heap.size 2 _ 30 _ hk3]; rfl
  have c3 : e3.heap[w2.heap.size]? = some (.cells #[.int .u8 7, .int .i64 (FR : Nat), .int .u64 (N3 : Nat), .int .i64 (P3 : Nat), .int .u16 0, .int .u64 0, .int .i64 0, .int .u64 0, .int .i64 0, .slice none 0 0, .int .u64 0, .slice none 0 0, .slice none 0 0, .int .u64 0, .int .u64 0] 30 (0, 0)) := by rw [← he3, heap_setCell_same _ w2.heap.size 3 _ 30 _ m3]; rfl
  have y3 : e3.heap[w.heap.size]? = some (.cells #[.int .u8 0, .int .i64 0, .int .u64 0, .int .i64 0, .int .u16 0, .int .u64 0, .int .i64 0, .int .u64 0, .int .i64 0, .slice none 0 0, .int .u64 0, .slice none 0 0, .slice none 0 0, .int .u64 0, .int .u64 0] 30 (0, 0)) := by rw [← he3, Below.heap_setCell _ _ _ _ (by show w.heap.size ≠ w2.heap.size; omega), Below.heap_setCell _ _ _ _ (by show w.heap.size ≠ w2.heap.size; omega)]; exact z3
  have hge3 : w.grownBy e3 (some r) := by rw [← he3]; exact gr_setCell (gr_setCell hgw3 (by omega)) (by omega)
  have hre3 : Cd.Rd e3 r s3 := by rw [← he3]; exact rd_grown (g := some w2.heap.size) (rd_grown (g := some w2.heap.size) hrd3 (Cd.set_grown _) (fun b e => by cases e; omega)) (Cd.set_grown _) (fun b e => by cases e; omega)
  have he3s : e3.heap.size = w3.heap.size := by rw [← he3]; simp [World.setCell]
  have o3_2 : w3.cell? ⟨w2.heap.size, 2, none⟩ = some (.int .u64 0) := by rw [cell_of_row w3 _ 2 _ 30 (0, 0) hk3]; rfl
  have fz3_2 : w3.frozen? ⟨w2.heap.size, 2, none⟩ = false := frozen_of_row w3 _ 2 _ 30 hk3
  have o3_3 : w3.cell? ⟨w2.heap.size, 3, none⟩ = some (.int .i64 0) := by rw [cell_of_row w3 _ 3 _ 30 (0, 0) hk3]; rfl
  have fz3_3 : w3.frozen? ⟨w2.heap.size, 3, none⟩ = false := frozen_of_row w3 _ 3 _ 30 hk3
  have ok3 : w3.cell? ⟨w2.heap.size, 0, none⟩ = some (.int .u8 7) := by rw [cell_of_row w3 _ 0 _ 30 (0, 0) hk3]; rfl
  have HE3 : Hid (((w3.setCell ⟨w2.heap.size, 2, none⟩ (.int .u64 (N3 : Nat))).setCell ⟨w2.heap.size, 3, none⟩ (.int .i64 (P3 : Nat))) = e3) := he3
  clear hk3 z3 hgw3 hrd3 he3 m3
  have hv4 := Cd.uint_rd e3 r s3 hre3
  have hsl4 : sl (Cd.rUint s3).2 := sl_uint hsl3
  generalize Cd.rUint s3 = dv4 at *
  obtain ⟨N4, s4⟩ := dv4
  simp only at *
  go_wp2_with fail
  rw [HE3.out]
  refine hv4.mono ?_
  rintro e w4 ⟨rfl, hrd4, hg4⟩
  have hk4 : w4.heap[w2.heap.size]? = some (.cells #[.int .u8 7, .int .i64 (FR : Nat), .int .u64 (N3 : Nat), .int .i64 (P3 : Nat), .int .u16 0, .int .u64 0, .int .i64 0, .int .u64 0, .int .i64 0, .slice none 0 0, .int .u64 0, .slice none 0 0, .slice none 0 0, .int .u64 0, .int .u64 0] 30 (0, 0)) := (hg4.block w2.heap.size (by omega) (by simp; omega)).trans c3
  have z4 : w4.heap[w.heap.size]? = some (.cells #[.int .u8 0, .int .i64 0, .int .u64 0, .int .i64 0, .int .u16 0, .int .u64 0, .int .i64 0, .int .u64 0, .int .i64 0, .slice none 0 0, .int .u64 0, .slice none 0 0, .slice none 0 0, .int .u64 0, .int .u64 0] 30 (0, 0)) := (hg4.block w.heap.size (by omega) (by simp; omega)).trans y3
  have hs4 : e3.heap.size ≤ w4.heap.size := hg4.size
  have hgw4 : w.grownBy w4 (some r) := Cd.grown_trans hge3 hg4
  clear hv4 hg4 hge3 hre3 c3 y3 HE3
  obtain ⟨e4, he4⟩ : ∃ e4, (w4.setCell ⟨w2.heap.size, 10, none⟩ (.int .u64 (N4 : Nat))) = e4 := ⟨_, rfl⟩
  have c4 : e4.heap[w2.heap.size]? = some (.cells #[.int .u8 7, .int .i64 (FR : Nat), .int .u64 (N3 : Nat), .int .i64 (P3 : Nat), .int .u16 0, .int .u64 0, .int .i64 0, .int .u64 0, .int .i64 0, .slice none 0 0, .int .u64 (N4 : Nat), .slice none 0 0, .slice none 0 0, .int .u64 0, .int .u64 0] 30 (0, 0)) := by rw [← he4, heap_setCell_same w4 w2.heap.size 10 _ 30 _ hk4]; rfl
  have y4 : e4.heap[w.heap.size]? = some (.cells #[.int .u8 0, .int .i64 0, .int .u64 0, .int .i64 0, .int .u16 0, .int .u64 0, .int .i64 0, .int .u64 0, .int .i64 0, .slice none 0 0, .int .u64 0, .slice none 0 0, .slice none 0 0, .int .u64 0, .int .u64 0] 30 (0, 0)) := by rw [← he4, Below.heap_setCell _ _ _ _ (by show w.heap.size ≠ w2.heap.size; omega)]; exact z4
  have hge4 : w.grownBy e4 (some r) := by rw [← he4]; exact gr_setCell hgw4 (by omega)
  have hre4 : Cd.Rd e4 r s4 := by rw [← he4]; exact rd_grown (g := some w2.heap.size) hrd4 (Cd.set_grown _) (fun b e => by cases e; omega)
  have he4s : e4.heap.size = w4.heap.size := by rw [← he4]; simp [World.setCell]
  have o4_10 : w4.cell? ⟨w2.heap.size, 10, none⟩ = some (.int .u64 0) := by rw [cell_of_row w4 _ 10 _ 30 (0, 0) hk4]; rfl
  have fz4_10 : w4.frozen? ⟨w2.heap.size, 10, none⟩ = false := frozen_of_row w4 _ 10 _ 30 hk4
  have ok4 : w4.cell? ⟨w2.heap.size, 0, none⟩ = some (.int .u8 7) := by rw [cell_of_row w4 _ 0 _ 30 (0, 0) hk4]; rfl
  have HE4 : Hid ((w4.setCell ⟨w2.heap.size, 10, none⟩ (.int .u64 (N4 : Nat))) = e4) := he4
  clear hk4 z4 hgw4 hrd4 he4
  have hv5 := Cd.uint_rd e4 r s4 hre4
  have hsl5 : sl (Cd.rUint s4).2 := sl_uint hsl4
  generalize Cd.rUint s4 = dv5 at *
  obtain ⟨N5, s5⟩ := dv5
  simp only at *
  go_wp2_with fail
  rw [HE4.out]
  refine hv5.mono ?_
  rintro e w5 ⟨rfl, hrd5, hg5⟩
  have hk5 : w5.heap[w2.heap.size]? = some (.cells #[.int .u8 7, .int .i64 (FR : Nat), .int .u64 (N3 : Nat), .int .i64 (P3 : Nat), .int .u16 0, .int .u64 0, .int .i64 0, .int .u64 0, .int .i64 0, .slice none 0 0, .int .u64 (N4 : Nat), .slice none 0 0, .slice none 0 0, .int .u64 0, .int .u64 0] 30 (0, 0)) := (hg5.block w2.heap.size (by omega) (by simp; omega)).trans c4
  have z5 : w5.heap[w.heap.size]? = some (.cells #[.int .u8 0, .int .i64 0, .int .u64 0, .int .i64 0, .int .u16 0, .int .u64 0, .int .i64 0, .int .u64 0, .int .i64 0, .slice none 0 0, .int .u64 0, .slice none 0 0, .slice none 0 0, .int .u64 0, .int .u64 0] 30 (0, 0)) := (hg5.block w.heap.size (by omega) (by simp; omega)).trans y4
  have hs5 : e4.heap.size ≤ w5.heap.size := hg5.size
  have hgw5 : w.grownBy w5 (some r) := Cd.grown_trans hge4 hg5
  clear hv5 hg5 hge4 hre4 c4 y4 HE4
  obtain ⟨e5, he5⟩ : ∃ e5, (w5.setCell ⟨w2.heap.size, 13, none⟩ (.int .u64 (N5 : Nat))) = e5 := ⟨_, rfl⟩
  have c5 : e5.heap[w2.heap.size]? = some (.cells #[.int .u8 7, .int .i64 (FR : Nat), .int .u64 (N3 : Nat), .int .i64 (P3 : Nat), .int .u16 0, .int .u64 0, .int .i64 0, .int .u64 0, .int .i64 0, .slice none 0 0, .int .u64 (N4 : Nat), .slice none 0 0, .slice none 0 0, .int .u64 (N5 : Nat), .int .u64 0] 30 (0, 0)) := by rw [← he5, heap_setCell_same w5 w2.heap.size 13 _ 30 _ hk5]; rfl
  have y5 : e5.heap[w.heap.size]? = some (.cells #[.int .u8 0, .int .i64 0, .int .u64 0, .int .i64 0, .int .u16 0, .int .u64 0, .int .i64 0, .int .u64 0, .int .i64 0, .slice none 0 0, .int .u64 0, .slice none 0 0, .slice none 0 0, .int .u64 0, .int .u64 0] 30 (0, 0)) := by rw [← he5, Below.heap_setCell _ _ _ _ (by show w.heap.size ≠ w2.heap.size; omega)]; exact z5
  have hge5 : w.grownBy e5 (some r) := by rw [← he5]; exact gr_setCell hgw5 (by omega)
  have hre5 : Cd.Rd e5 r s5 := by rw [← he5]; exact rd_grown (g := some w2.heap.size) hrd5 (Cd.set_grown _) (fun b e => by cases e; omega)
  have he5s : e5.heap.size = w5.heap.size := by rw [← he5]; simp [World.setCell]
  have o5_13 : w5.cell? ⟨w2.heap.size, 13, none⟩ = some (.int .u64 0) := by rw [cell_of_row w5 _ 13 _ 30 (0, 0) hk5]; rfl
  have fz5_13 : w5.frozen? ⟨w2.heap.size, 13, none⟩ = false := frozen_of_row w5 _ 13 _ 30 hk5
  have ok5 : w5.cell? ⟨w2.heap.size, 0, none⟩ = some (.int .u8 7) := by rw [cell_of_row w5 _ 0 _ 30 (0, 0) hk5]; rfl
  have HE5 : Hid ((w5.setCell ⟨w2.heap.size, 13, none⟩ (.int .u64 (N5 : Nat))) = e5) := he5
  clear hk5 z5 hgw5 hrd5 he5
  have hv6 := Cd.uint_rd e5 r s5 hre5
  have hsl6 : sl (Cd.rUint s5).2 := sl_uint hsl5
  generalize Cd.rUint s5 = dv6 at *
  obtain ⟨N6, s6⟩ := dv6
  simp only at *
  go_wp2_with fail
  rw [HE5.out]
  refine hv6.mono ?_
  rintro e w6 ⟨rfl, hrd6, hg6⟩
  have hk6 : w6.heap[w2.heap.size]? = some (.cells #[.int .u8 7, .int .i64 (FR : Nat), .int .u64 (N3 : Nat), .int .i64 (P3 : Nat), .int .u16 0, .int .u64 0, .int .i64 0, .int .u64 0, .int .i64 0, .slice none 0 0, .int .u64 (N4 : Nat), .slice none 0 0, .slice none 0 0, .int .u64 (N5 : Nat), .int .u64 0] 30 (0, 0)) := (hg6.block w2.heap.size (by omega) (by simp; omega)).trans c5
  have z6 : w6.heap[w.heap.size]? = some (.cells #[.int .u8 0, .int .i64 0, .int .u64 0, .int .i64 0, .int .u16 0, .int .u64 0, .int .i64 0, .int .u64 0, .int .i64 0, .slice none 0 0, .int .u64 0, .slice none 0 0, .slice none 0 0, .int .u64 0, .int .u64 0] 30 (0, 0)) := (hg6.block w.heap.size (by omega) (by simp; omega)).trans y5
  have hs6 : e5.heap.size ≤ w6.heap.size := hg6.size
  have hgw6 : w.grownBy w6 (some r) := Cd.grown_trans hge5 hg6
  clear hv6 hg6 hge5 hre5 c5 y5 HE5
  obtain ⟨e6, he6⟩ : ∃ e6, (w6.setCell ⟨w2.heap.size, 14, none⟩ (.int .u64 (N6 : Nat))) = e6 := ⟨_, rfl⟩
  have c6 : e6.heap[w2.heap.size]? = some (.cells #[.int .u8 7, .int .i64 (FR : Nat), .int .u64 (N3 : Nat), .int .i64 (P3 : Nat), .int .u16 0, .int .u64 0, .int .i64 0, .int .u64 0, .int .i64 0, .slice none 0 0, .int .u64 (N4 : Nat), .slice none 0 0, .slice none 0 0, .int .u64 (N5 : Nat), .int .u64 (N6 : Nat)] 30 (0, 0)) := by rw [← he6, heap_setCell_same w6 w2.heap.size 14 _ 30 _ hk6]; rfl
  have y6 : e6.heap[w.heap.size]? = some (.cells #[.int .u8 0, .int .i64 0, .int .u64 0, .int .i64 0, .int .u16 0, .int .u64 0, .int .i64 0, .int .u64 0, .int .i64 0, .slice none 0 0, .int .u64 0, .slice none 0 0, .slice none 0 0, .int .u64 0, .int .u64 0] 30 (0, 0)) := by rw [← he6, Below.heap_setCell _ _ _ _ (by show w.heap.size ≠ w2.heap.size; omega)]; exact z6
  have hge6 : w.grownBy e6 (some r) := by rw [← he6]; exact gr_setCell hgw6 (by omega)
  have hre6 : Cd.Rd e6 r s6 := by rw [← he6]; exact rd_grown (g := some w2.heap.size) hrd6 (Cd.set_grown _) (fun b e => by cases e; omega)
  have he6s : e6.heap.size = w6.heap.size := by rw [← he6]; simp [World.setCell]
  have o6_14 : w6.cell? ⟨w2.heap.size, 14, none⟩ = some (.int .u64 0) := by rw [cell_of_row w6 _ 14 _ 30 (0, 0) hk6]; rfl
  have fz6_14 : w6.frozen? ⟨w2.heap.size, 14, none⟩ = false := frozen_of_row w6 _ 14 _ 30 hk6
  have ok6 : w6.cell? ⟨w2.heap.size, 0, none⟩ = some (.int .u8 7) := by rw [cell_of_row w6 _ 0 _ 30 (0, 0) hk6]; rfl
  have HE6 : Hid ((w6.setCell ⟨w2.heap.size, 14, none⟩ (.int .u64 (N6 : Nat))) = e6) := he6
  clear hk6 z6 hgw6 hrd6 he6
  have hv7 := readListI_any e6 r s6 hre6 hsl6
  have hln7 := rMany_len rItem s6
  generalize rMany rItem s6 = dv7 at *
  obtain ⟨l7, s7⟩ := dv7
  simp only at *
  go_wp2_with fail
  rw [HE6.out]
  refine hv7.mono ?_
  rintro e w7 ⟨v, xs, rfl, hrow, hrd7, hg7⟩
  obtain ⟨lo, lc, rfl, hlist⟩ := hrow.its hln7
  have HLI : Hid (ItsX (fun b => e6.heap.size ≤ b) w7 lo l7.length l7) := hlist
  clear hrow hlist
  have HLN : Hid (l7.length = l7.length) := rfl
  have hk7 : w7.heap[w2.heap.size]? = some (.cells #[.int .u8 7, .int .i64 (FR : Nat), .int .u64 (N3 : Nat), .int .i64 (P3 : Nat), .int .u16 0, .int .u64 0, .int .i64 0, .int .u64 0, .int .i64 0, .slice none 0 0, .int .u64 (N4 : Nat), .slice none 0 0, .slice none 0 0, .int .u64 (N5 : Nat), .int .u64 (N6 : Nat)] 30 (0, 0)) := (hg7.block w2.heap.size (by omega) (by simp; omega)).trans c6
  have z7 : w7.heap[w.heap.size]? = some (.cells #[.int .u8 0, .int .i64 0, .int .u64 0, .int .i64 0, .int .u16 0, .int .u64 0, .int .i64 0, .int .u64 0, .int .i64 0, .slice none 0 0, .int .u64 0, .slice none 0 0, .slice none 0 0, .int .u64 0, .int .u64 0] 30 (0, 0)) := (hg7.block w.heap.size (by omega) (by simp; omega)).trans y6
  have hs7 : e6.heap.size ≤ w7.heap.size := hg7.size
  have hgw7 : w.grownBy w7 (some r) := Cd.grown_trans hge6 hg7
  clear hv7 hg7 hge6 hre6 c6 y6 HE6
  obtain ⟨e7, he7⟩ : ∃ e7, (w7.setCell ⟨w2.heap.size, 12, none⟩ (.slice lo l7.length lc)) = e7 := ⟨_, rfl⟩
  have c7 : e7.heap[w2.heap.size]? = some (.cells #[.int .u8 7, .int .i64 (FR : Nat), .int .u64 (N3 : Nat), .int .i64 (P3 : Nat), .int .u16 0, .int .u64 0, .int .i64 0, .int .u64 0, .int .i64 0, .slice none 0 0, .int .u64 (N4 : Nat), .slice none 0 0, .slice lo l7.length lc, .int .u64 (N5 : Nat), .int .u64 (N6 : Nat)] 30 (0, 0)) := by rw [← he7, heap_setCell_same w7 w2.heap.size 12 _ 30 _ hk7]; rfl
  have y7 : e7.heap[w.heap.size]? = some (.cells #[.int .u8 0, .int .i64 0, .int .u64 0, .int .i64 0, .int .u16 0, .int .u64 0, .int .i64 0, .int .u64 0, .int .i64 0, .slice none 0 0, .int .u64 0, .slice none 0 0, .slice none 0 0, .int .u64 0, .int .u64 0] 30 (0, 0)) := by rw [← he7, Below.heap_setCell _ _ _ _ (by show w.heap.size ≠ w2.heap.size; omega)]; exact z7
  have hge7 : w.grownBy e7 (some r) := by rw [← he7]; exact gr_setCell hgw7 (by omega)
  have hre7 : Cd.Rd e7 r s7 := by rw [← he7]; exact rd_grown (g := some w2.heap.size) hrd7 (Cd.set_grown _) (fun b e => by cases e; omega)
  have he7s : e7.heap.size = w7.heap.size := by rw [← he7]; simp [World.setCell]
  have o7_12 : w7.cell? ⟨w2.heap.size, 12, none⟩ = some (.slice none 0 0) := by rw [cell_of_row w7 _ 12 _ 30 (0, 0) hk7]; rfl
  have fz7_12 : w7.frozen? ⟨w2.heap.size, 12, none⟩ = false := frozen_of_row w7 _ 12 _ 30 hk7
  have ok7 : w7.cell? ⟨w2.heap.size, 0, none⟩ = some (.int .u8 7) := by rw [cell_of_row w7 _ 0 _ 30 (0, 0) hk7]; rfl
  have HLJ : Hid (ItsX (fun b => e6.heap.size ≤ b) e7 lo l7.length l7) := ItsX.keep HLI.out (by rw [← he7]; exact kp_setCell (fun b hb => by omega))
  clear HLI
  have HE7 : Hid ((w7.setCell ⟨w2.heap.size, 12, none⟩ (.slice lo l7.length lc)) = e7) := he7
  clear hk7 z7 hgw7 hrd7 he7
  have hset := setRow_heap e7 w.heap.size _ #[.int .u8 7, .int .i64 (FR : Nat), .int .u64 (N3 : Nat), .int .i64 (P3 : Nat), .int .u16 0, .int .u64 0, .int .i64 0, .int .u64 0, .int .i64 0, .slice none 0 0, .int .u64 (N4 : Nat), .slice none 0 0, .slice lo l7.length lc, .int .u64 (N5 : Nat), .int .u64 (N6 : Nat)] 30 (0, 0) y7
  have HFI : Hid (Cd.Rd (e7.setRow w.heap.size #[.int .u8 7, .int .i64 (FR : Nat), .int .u64 (N3 : Nat), .int .i64 (P3 : Nat), .int .u16 0, .int .u64 0, .int .i64 0, .int .u64 0, .int .i64 0, .slice none 0 0, .int .u64 (N4 : Nat), .slice none 0 0, .slice lo l7.length lc, .int .u64 (N5 : Nat), .int .u64 (N6 : Nat)]) r s7 ∧ w.grownBy (e7.setRow w.heap.size #[.int .u8 7, .int .i64 (FR : Nat), .int .u64 (N3 : Nat), .int .i64 (P3 : Nat), .int .u16 0, .int .u64 0, .int .i64 0, .int .u64 0, .int .i64 0, .slice none 0 0, .int .u64 (N4 : Nat), .slice none 0 0, .slice lo l7.length lc, .int .u64 (N5 : Nat), .int .u64 (N6 : Nat)]) (some r)) := ⟨rd_setRow' hre7 (by omega), gr_setRow' hge7 (Nat.le_refl _) _⟩
  have hen : (w7.setCell ⟨w2.heap.size, 12, none⟩ (.slice lo l7.length lc)) = e7 := HE7.out
  have oke : e7.cell? ⟨w2.heap.size, 0, none⟩ = some (.int .u8 7) := by rw [cell_of_row e7 _ 0 _ 30 (0, 0) c7]; rfl
  clear hre7 hge7 HE7
  go_wp2_with (first | (refine wpList_load_row rfl 30 (.tmp 3) rfl w2.heap.size rfl 30 #[.int .u8 7, .int .i64 (FR : Nat), .int .u64 (N3 : Nat), .int .i64 (P3 : Nat), .int .u16 0, .int .u64 0, .int .i64 0, .int .u64 0, .int .i64 0, .slice none 0 0, .int .u64 (N4 : Nat), .slice none 0 0, .slice lo l7.length lc, .int .u64 (N5 : Nat), .int .u64 (N6 : Nat)] (0, 0) _ c7 Try.underlying30 rfl info30 ?_) | (refine wpList_store_row rfl 30 (.tmp 2) (.tmp 74) rfl w.heap.size #[.int .u8 7, .int .i64 (FR : Nat), .int .u64 (N3 : Nat), .int .i64 (P3 : Nat), .int .u16 0, .int .u64 0, .int .i64 0, .int .u64 0, .int .i64 0, .slice none 0 0, .int .u64 (N4 : Nat), .slice none 0 0, .slice lo l7.length lc, .int .u64 (N5 : Nat), .int .u64 (N6 : Nat)] rfl rfl 30 _ y7 info30 rfl (by simp [Value.oneCell']) ?_))
  refine bodyPost_ret (results_cell1 (g := w.heap.size) (cs := #[.int .u8 7, .int .i64 (FR : Nat), .int .u64 (N3 : Nat), .int .i64 (P3 : Nat), .int .u16 0, .int .u64 0, .int .i64 0, .int .u64 0, .int .i64 0, .slice none 0 0, .int .u64 (N4 : Nat), .slice none 0 0, .slice lo l7.length lc, .int .u64 (N5 : Nat), .int .u64 (N6 : Nat)]) Try.results27 rfl (load30 hset rfl)) rfl ?_
  rw [HF.out]
  exact ⟨⟨none, 0, none, 0, lo, lc⟩, rfl, ⟨SsX.nil _ _, MsX.nil _ _, ItsX.imp (ItsX.keep HLJ.out (kp_setRow (fun b hb => by omega))) (fun b _ hb => by omega)⟩, HFI.out.1, HFI.out.2⟩
end Go.Proofs.Ytfemjbaadnjanaa
