/-
  Reading of a frame (package frame): kinds 0, 1, 2, 3.
-/
import Derived.Test.YtfemjbaadnjanaaFRead3
namespace Go.Proofs.Ytfemjbaadnjanaa
open Go.RowKit
set_option linter.unusedVariables false
set_option linter.unusedSimpArgs false

set_option maxRecDepth 20000 in
set_option maxHeartbeats 2000000 in
theorem readFrame_0 (w : World) (r : Nat) (st : St) (h : Cd.Rd w r st) (hl : sl st) (hK : (Cd.rInt st 7).1 = 0) :
    Calls Try.prog 27 #[.pointer (some ⟨r, 0, none⟩)] w fun e w' => ∃ a, e = .returned (fval (rFrame 9223372036854775807 st).1 a) ∧ FIn (fun b => w.heap.size ≤ b) w' (rFrame 9223372036854775807 st).1 a ∧ Cd.Rd w' r (rFrame 9223372036854775807 st).2 ∧ w.grownBy w' (some r) := by
  have hrl := h.lt
  have hin := Cd.int_rd (w.alloc (.cells #[.int .u8 0, .int .i64 0, .int .u64 0, .int .i64 0, .int .u16 0, .int .u64 0, .int .i64 0, .int .u64 0, .int .i64 0, .slice none 0 0, .int .u64 0, .slice none 0 0, .slice none 0 0, .int .u64 0, .int .u64 0] 30)) r st (rd_alloc h _) 7 (by omega) (by omega)
  have hsl1 : sl (Cd.rInt st 7).2 := sl_int hl
  have HF : Hid (rFrame 9223372036854775807 st = ({ zeroF with kind := 0, frm := (((Cd.rInt (Cd.rInt st 7).2 15).1 : Nat) : Int), idN := (decV (Cd.rInt (Cd.rInt st 7).2 15).2).1.1, idP := (((decV (Cd.rInt (Cd.rInt st 7).2 15).2).1.2 : Nat) : Int) }, (decV (Cd.rInt (Cd.rInt st 7).2 15).2).2)) := by
    show _ = _
    unfold rFrame rIdent rHead rBody
    simp [hK, zeroF]
  generalize Cd.rInt st 7 = r0 at *
  obtain ⟨K, s1⟩ := r0
  simp only at *
  subst hK
  have hno := fun W (hW : Cd.Rd W r s1) => readNode_any W r s1 hW
  have hsl2 : sl (Cd.rInt s1 15).2 := sl_int hsl1
  generalize Cd.rInt s1 15 = r1 at *
  obtain ⟨FR, s2⟩ := r1
  simp only at *
  clear h hl hsl1
  go_enter Try.func27, Try.ntmps27
  go_wp2_with fail
  refine hin.mono ?_
  rintro e w1 ⟨rfl, hrd1, hg1⟩
  have z1 : w1.heap[w.heap.size]? = some (.cells #[.int .u8 0, .int .i64 0, .int .u64 0, .int .i64 0, .int .u16 0, .int .u64 0, .int .i64 0, .int .u64 0, .int .i64 0, .slice none 0 0, .int .u64 0, .slice none 0 0, .slice none 0 0, .int .u64 0, .int .u64 0] 30 (0, 0)) := (hg1.block w.heap.size (by simp) (by simp; omega)).trans (heap_alloc_new _ _)
  have hg01 : w.grownBy w1 (some r) := Cd.grown_trans (gr_alloc0 w _ _) hg1
  have hs1 : w.heap.size < w1.heap.size := by have := hg1.size; simp at this; omega
  have hno1 := hno w1 hrd1
  clear hin hno hrd1 hg1
  go_wp2_with fail
  refine hno1.mono ?_
  rintro e w2 ⟨rfl, hrd2, hg2⟩
  have z2 : w2.heap[w.heap.size]? = some (.cells #[.int .u8 0, .int .i64 0, .int .u64 0, .int .i64 0, .int .u16 0, .int .u64 0, .int .i64 0, .int .u64 0, .int .i64 0, .slice none 0 0, .int .u64 0, .slice none 0 0, .slice none 0 0, .int .u64 0, .int .u64 0] 30 (0, 0)) := (hg2.block w.heap.size hs1 (by simp; omega)).trans z1
  have hg02 : w.grownBy w2 (some r) := Cd.grown_trans hg01 hg2
  have hs2 : w.heap.size < w2.heap.size := by have := hg2.size; omega
  obtain ⟨e2, he2⟩ : ∃ e2, w2.alloc (.cells #[.int .u8 0, .int .i64 (FR : Nat), .int .u64 0, .int .i64 0, .int .u16 0, .int .u64 0, .int .i64 0, .int .u64 0, .int .i64 0, .slice none 0 0, .int .u64 0, .slice none 0 0, .slice none 0 0, .int .u64 0, .int .u64 0] 30) = e2 := ⟨_, rfl⟩
  have hb2 : Below w2.heap.size w2 e2 := by rw [← he2]; exact bl1 _ _
  have he2s : e2.heap.size = w2.heap.size + 1 := by rw [← he2]; simp
  have c2 : e2.heap[w2.heap.size]? = some (.cells #[.int .u8 0, .int .i64 (FR : Nat), .int .u64 0, .int .i64 0, .int .u16 0, .int .u64 0, .int .i64 0, .int .u64 0, .int .i64 0, .slice none 0 0, .int .u64 0, .slice none 0 0, .slice none 0 0, .int .u64 0, .int .u64 0] 30 (0, 0)) := by rw [← he2]; exact heap_alloc_new _ _
  have y2 : e2.heap[w.heap.size]? = some (.cells #[.int .u8 0, .int .i64 0, .int .u64 0, .int .i64 0, .int .u16 0, .int .u64 0, .int .i64 0, .int .u64 0, .int .i64 0, .slice none 0 0, .int .u64 0, .slice none 0 0, .slice none 0 0, .int .u64 0, .int .u64 0] 30 (0, 0)) := (hb2.block _ hs2).trans z2
  have hge2 : w.grownBy e2 (some r) := gr_up hg02 hb2
  have hre2 : Cd.Rd e2 r s2 := Cd.rd_below hrd2 hb2
  have HE2 : Hid (w2.alloc (.cells #[.int .u8 0, .int .i64 (FR : Nat), .int .u64 0, .int .i64 0, .int .u16 0, .int .u64 0, .int .i64 0, .int .u64 0, .int .i64 0, .slice none 0 0, .int .u64 0, .slice none 0 0, .slice none 0 0, .int .u64 0, .int .u64 0] 30) = e2) := he2
  clear hno1 hrd2 hg2 hg01 z1 z2 hg02 hb2 he2
  have hv3 := readView_any e2 r s2 hre2
  have hsl3 : sl (decV s2).2 := sl_dec hsl2
  generalize decV s2 = dv3 at *
  obtain ⟨⟨N3, P3⟩, s3⟩ := dv3
  simp only at *
  unfold vid at hv3
  go_wp2_with fail
  rw [HE2.out]
  refine hv3.mono ?_
  rintro e w3 ⟨rfl, hrd3, hg3⟩
  have hk3 : w3.heap[w2.heap.size]? = some (.cells #[.int .u8 0, .int .i64 (FR : Nat), .int .u64 0, .int .i64 0, .int .u16 0, .int .u64 0, .int .i64 0, .int .u64 0, .int .i64 0, .slice none 0 0, .int .u64 0, .slice none 0 0, .slice none 0 0, .int .u64 0, .int .u64 0] 30 (0, 0)) := (hg3.block w2.heap.size (by omega) (by simp; omega)).trans c2
  have z3 : w3.heap[w.heap.size]? = some (.cells #[.int .u8 0, .int .i64 0, .int .u64 0, .int .i64 0, .int .u16 0, .int .u64 0, .int .i64 0, .int .u64 0, .int .i64 0, .slice none 0 0, .int .u64 0, .slice none 0 0, .slice none 0 0, .int .u64 0, .int .u64 0] 30 (0, 0)) := (hg3.block w.heap.size (by omega) (by simp; omega)).trans y2
  have hs3 : e2.heap.size ≤ w3.heap.size := hg3.size
  have hgw3 : w.grownBy w3 (some r) := Cd.grown_trans hge2 hg3
  clear hv3 hg3 hge2 hre2 c2 y2 HE2
  obtain ⟨e3, he3⟩ : ∃ e3, ((w3.setCell ⟨w2.heap.size, 2, none⟩ (.int .u64 (N3 : Nat))).setCell ⟨w2.heap.size, 3, none⟩ (.int .i64 (P3 : Nat))) = e3 := ⟨_, rfl⟩
  have m3 : (w3.setCell ⟨w2.heap.size, 2, none⟩ (.int .u64 (N3 : Nat))).heap[w2.heap.size]? = some (.cells #[.int .u8 0, .int .i64 (FR : Nat), .int .u64 (N3 : Nat), .int .i64 0, .int .u16 0, .int .u64 0, .int .i64 0, .int .u64 0, .int .i64 0, .slice none 0 0, .int .u64 0, .slice none 0 0, .slice none 0 0, .int .u64 0, .int .u64 0] 30 (0, 0)) := by rw [heap_setCell_same w3 w2.heap.size 2 _ 30 _ hk3]; rfl
  have c3 : e3.heap[w2.heap.size]? = some (.cells #[.int .u8 0, .int .i64 (FR : Nat), .int .u64 (N3 : Nat), .int .i64 (P3 : Nat), .int .u16 0, .int .u64 0, .int .i64 0, .int .u64 0, .int .i64 0, .slice none 0 0, .int .u64 0, .slice none 0 0, .slice none 0 0, .int .u64 0, .int .u64 0] 30 (0, 0)) := by rw [← he3, heap_setCell_same _ w2.heap.size 3 _ 30 _ m3]; rfl
  have y3 : e3.heap[w.heap.size]? = some (.cells #[.int .u8 0, .int .i64 0, .int .u64 0, .int .i64 0, .int .u16 0, .int .u64 0, .int .i64 0, .int .u64 0, .int .i64 0, .slice none 0 0, .int .u64 0, .slice none 0 0, .slice none 0 0, .int .u64 0, .int .u64 0] 30 (0, 0)) := by rw [← he3, Below.heap_setCell _ _ _ _ (by show w.heap.size ≠ w2.heap.size; omega), Below.heap_setCell _ _ _ _ (by show w.heap.size ≠ w2.heap.size; omega)]; exact z3
  have hge3 : w.grownBy e3 (some r) := by rw [← he3]; exact gr_setCell (gr_setCell hgw3 (by omega)) (by omega)
  have hre3 : Cd.Rd e3 r s3 := by rw [← he3]; exact rd_grown (g := some w2.heap.size) (rd_grown (g := some w2.heap.size) hrd3 (Cd.set_grown _) (fun b e => by cases e; omega)) (Cd.set_grown _) (fun b e => by cases e; omega)
  have he3s : e3.heap.size = w3.heap.size := by rw [← he3]; simp [World.setCell]
  have o3_2 : w3.cell? ⟨w2.heap.size, 2, none⟩ = some (.int .u64 0) := by rw [cell_of_row w3 _ 2 _ 30 (0, 0) hk3]; rfl
  have fz3_2 : w3.frozen? ⟨w2.heap.size, 2, none⟩ = false := frozen_of_row w3 _ 2 _ 30 hk3
  have o3_3 : w3.cell? ⟨w2.heap.size, 3, none⟩ = some (.int .i64 0) := by rw [cell_of_row w3 _ 3 _ 30 (0, 0) hk3]; rfl
  have fz3_3 : w3.frozen? ⟨w2.heap.size, 3, none⟩ = false := frozen_of_row w3 _ 3 _ 30 hk3
  have ok3 : w3.cell? ⟨w2.heap.size, 0, none⟩ = some (.int .u8 0) := by rw [cell_of_row w3 _ 0 _ 30 (0, 0) hk3]; rfl
  have HE3 : Hid (((w3.setCell ⟨w2.heap.size, 2, none⟩ (.int .u64 (N3 : Nat))).setCell ⟨w2.heap.size, 3, none⟩ (.int .i64 (P3 : Nat))) = e3) := he3
  clear hk3 z3 hgw3 hrd3 he3 m3
  have hset := setRow_heap e3 w.heap.size _ #[.int .u8 0, .int .i64 (FR : Nat), .int .u64 (N3 : Nat), .int .i64 (P3 : Nat), .int .u16 0, .int .u64 0, .int .i64 0, .int .u64 0, .int .i64 0, .slice none 0 0, .int .u64 0, .slice none 0 0, .slice none 0 0, .int .u64 0, .int .u64 0] 30 (0, 0) y3
  have HFI : Hid (Cd.Rd (e3.setRow w.heap.size #[.int .u8 0, .int .i64 (FR : Nat), .int .u64 (N3 : Nat), .int .i64 (P3 : Nat), .int .u16 0, .int .u64 0, .int .i64 0, .int .u64 0, .int .i64 0, .slice none 0 0, .int .u64 0, .slice none 0 0, .slice none 0 0, .int .u64 0, .int .u64 0]) r s3 ∧ w.grownBy (e3.setRow w.heap.size #[.int .u8 0, .int .i64 (FR : Nat), .int .u64 (N3 : Nat), .int .i64 (P3 : Nat), .int .u16 0, .int .u64 0, .int .i64 0, .int .u64 0, .int .i64 0, .slice none 0 0, .int .u64 0, .slice none 0 0, .slice none 0 0, .int .u64 0, .int .u64 0]) (some r)) := ⟨rd_setRow' hre3 (by omega), gr_setRow' hge3 (Nat.le_refl _) _⟩
  have hen : ((w3.setCell ⟨w2.heap.size, 2, none⟩ (.int .u64 (N3 : Nat))).setCell ⟨w2.heap.size, 3, none⟩ (.int .i64 (P3 : Nat))) = e3 := HE3.out
  have oke : e3.cell? ⟨w2.heap.size, 0, none⟩ = some (.int .u8 0) := by rw [cell_of_row e3 _ 0 _ 30 (0, 0) c3]; rfl
  clear hre3 hge3 HE3
  go_wp2_with (first | (refine wpList_load_row rfl 30 (.tmp 3) rfl w2.heap.size rfl 30 #[.int .u8 0, .int .i64 (FR : Nat), .int .u64 (N3 : Nat), .int .i64 (P3 : Nat), .int .u16 0, .int .u64 0, .int .i64 0, .int .u64 0, .int .i64 0, .slice none 0 0, .int .u64 0, .slice none 0 0, .slice none 0 0, .int .u64 0, .int .u64 0] (0, 0) _ c3 Try.underlying30 rfl info30 ?_) | (refine wpList_store_row rfl 30 (.tmp 2) (.tmp 74) rfl w.heap.size #[.int .u8 0, .int .i64 (FR : Nat), .int .u64 (N3 : Nat), .int .i64 (P3 : Nat), .int .u16 0, .int .u64 0, .int .i64 0, .int .u64 0, .int .i64 0, .slice none 0 0, .int .u64 0, .slice none 0 0, .slice none 0 0, .int .u64 0, .int .u64 0] rfl rfl 30 _ y3 info30 rfl (by simp [Value.oneCell']) ?_))
  refine bodyPost_ret (results_cell1 (g := w.heap.size) (cs := #[.int .u8 0, .int .i64 (FR : Nat), .int .u64 (N3 : Nat), .int .i64 (P3 : Nat), .int .u16 0, .int .u64 0, .int .i64 0, .int .u64 0, .int .i64 0, .slice none 0 0, .int .u64 0, .slice none 0 0, .slice none 0 0, .int .u64 0, .int .u64 0]) Try.results27 rfl (load30 hset rfl)) rfl ?_
  rw [HF.out]
  exact ⟨Fa.none, rfl, ⟨SsX.nil _ _, MsX.nil _ _, ItsX.nil _ _⟩, HFI.out.1, HFI.out.2⟩

set_option maxRecDepth 20000 in
set_option maxHeartbeats 2000000 in
theorem readFrame_1 (w : World) (r : Nat) (st : St) (h : Cd.Rd w r st) (hl : sl st) (hK : (Cd.rInt st 7).1 = 1) :
    Calls Try.prog 27 #[.pointer (some ⟨r, 0, none⟩)] w fun e w' => ∃ a, e = .returned (fval (rFrame 9223372036854775807 st).1 a) ∧ FIn (fun b => w.heap.size ≤ b) w' (rFrame 9223372036854775807 st).1 a ∧ Cd.Rd w' r (rFrame 9223372036854775807 st).2 ∧ w.grownBy w' (some r) := by
  have hrl := h.lt
  have hin := Cd.int_rd (w.alloc (.cells #[.int .u8 0, .int .i64 0, .int .u64 0, .int .i64 0, .int .u16 0, .int .u64 0, .int .i64 0, .int .u64 0, .int .i64 0, .slice none 0 0, .int .u64 0, .slice none 0 0, .slice none 0 0, .int .u64 0, .int .u64 0] 30)) r st (rd_alloc h _) 7 (by omega) (by omega)
  have hsl1 : sl (Cd.rInt st 7).2 := sl_int hl
  have HF : Hid (rFrame 9223372036854775807 st = ({ zeroF with kind := 1, frm := (((Cd.rInt (Cd.rInt st 7).2 15).1 : Nat) : Int), curN := (decV (Cd.rInt (Cd.rInt st 7).2 15).2).1.1, curP := (((decV (Cd.rInt (Cd.rInt st 7).2 15).2).1.2 : Nat) : Int), promN := (decV (decV (Cd.rInt (Cd.rInt st 7).2 15).2).2).1.1, promP := (((decV (decV (Cd.rInt (Cd.rInt st 7).2 15).2).2).1.2 : Nat) : Int) }, (decV (decV (Cd.rInt (Cd.rInt st 7).2 15).2).2).2)) := by
    show _ = _
    unfold rFrame rIdent rHead rBody
    simp [hK, zeroF]
  generalize Cd.rInt st 7 = r0 at *
  obtain ⟨K, s1⟩ := r0
  simp only at *
  subst hK
  have hno := fun W (hW : Cd.Rd W r s1) => readNode_any W r s1 hW
  have hsl2 : sl (Cd.rInt s1 15).2 := sl_int hsl1
  generalize Cd.rInt s1 15 = r1 at *
  obtain ⟨FR, s2⟩ := r1
  simp only at *
  clear h hl hsl1
  go_enter Try.func27, Try.ntmps27
  go_wp2_with fail
  refine hin.mono ?_
  rintro e w1 ⟨rfl, hrd1, hg1⟩
  have z1 : w1.heap[w.heap.size]? = some (.cells #[.int .u8 0, .int .i64 0, .int .u64 0, .int .i64 0, .int .u16 0, .int .u64 0, .int .i64 0, .int .u64 0, .int .i64 0, .slice none 0 0, .int .u64 0, .slice none 0 0, .slice none 0 0, .int .u64 0, .int .u64 0] 30 (0, 0)) := (hg1.block w.heap.size (by simp) (by simp; omega)).trans (heap_alloc_new _ _)
  have hg01 : w.grownBy w1 (some r) := Cd.grown_trans (gr_alloc0 w _ _) hg1
  have hs1 : w.heap.size < w1.heap.size := by have := hg1.size; simp at this; omega
  have hno1 := hno w1 hrd1
  clear hin hno hrd1 hg1
  go_wp2_with fail
  refine hno1.mono ?_
  rintro e w2 ⟨rfl, hrd2, hg2⟩
  have z2 : w2.heap[w.heap.size]? = some (.cells #[.int .u8 0, .int .i64 0, .int .u64 0, .int .i64 0, .int .u16 0, .int .u64 0, .int .i64 0, .int .u64 0, .int .i64 0, .slice none 0 0, .int .u64 0, .slice none 0 0, .slice none 0 0, .int .u64 0, .int .u64 0] 30 (0, 0)) := (hg2.block w.heap.size hs1 (by simp; omega)).trans z1
  have hg02 : w.grownBy w2 (some r) := Cd.grown_trans hg01 hg2
  have hs2 : w.heap.size < w2.heap.size := by have := hg2.size; omega
  obtain ⟨e2, he2⟩ : ∃ e2, w2.alloc (.cells #[.int .u8 1, .int .i64 (FR : Nat), .int .u64 0, .int .i64 0, .int .u16 0, .int .u64 0, .int .i64 0, .int .u64 0, .int .i64 0, .slice none 0 0, .int .u64 0, .slice none 0 0, .slice none 0 0, .int .u64 0, .int .u64 0] 30) = e2 := ⟨_, rfl⟩
  have hb2 : Below w2.heap.size w2 e2 := by rw [← he2]; exact bl1 _ _
  have he2s : e2.heap.size = w2.heap.size + 1 := by rw [← he2]; simp
  have c2 : e2.heap[w2.heap.size]? = some (.cells #[.int .u8 1, .int .i64 (FR : Nat), .int .u64 0, .int .i64 0, .int .u16 0, .int .u64 0, .int .i64 0, .int .u64 0, .int .i64 0, .slice none 0 0, .int .u64 0, .slice none 0 0, .slice none 0 0, .int .u64 0, .int .u64 0] 30 (0, 0)) := by rw [← he2]; exact heap_alloc_new _ _
  have y2 : e2.heap[w.heap.size]? = some (.cells #[.int .u8 0, .int .i64 0, .int .u64 0, .int .i64 0, .int .u16 0, .int .u64 0, .int .i64 0, .int .u64 0, .int .i64 0, .slice none 0 0, .int .u64 0, .slice none 0 0, .slice none 0 0, .int .u64 0, .int .u64 0] 30 (0, 0)) := (hb2.block _ hs2).trans z2
  have hge2 : w.grownBy e2 (some r) := gr_up hg02 hb2
  have hre2 : Cd.Rd e2 r s2 := Cd.rd_below hrd2 hb2
  have HE2 : Hid (w2.alloc (.cells #[.int .u8 1, .int .i64 (FR : Nat), .int .u64 0, .int .i64 0, .int .u16 0, .int .u64 0, .int .i64 0, .int .u64 0, .int .i64 0, .slice none 0 0, .int .u64 0, .slice none 0 0, .slice none 0 0, .int .u64 0, .int .u64 0] 30) = e2) := he2
  clear hno1 hrd2 hg2 hg01 z1 z2 hg02 hb2 he2
  have hv3 := readView_any e2 r s2 hre2
  have hsl3 : sl (decV s2).2 := sl_dec hsl2
  generalize decV s2 = dv3 at *
  obtain ⟨⟨N3, P3⟩, s3⟩ := dv3
  simp only at *
  unfold vid at hv3
  go_wp2_with fail
  rw [HE2.out]
  refine hv3.mono ?_
  rintro e w3 ⟨rfl, hrd3, hg3⟩
  have hk3 : w3.heap[w2.heap.size]? = some (.cells #[.int .u8 1, .int .i64 (FR : Nat), .int .u64 0, .int .i64 0, .int .u16 0, .int .u64 0, .int .i64 0, .int .u64 0, .int .i64 0, .slice none 0 0, .int .u64 0, .slice none 0 0, .slice none 0 0, .int .u64 0, .int .u64 0] 30 (0, 0)) := (hg3.block w2.heap.size (by omega) (by simp; omega)).trans c2
  have z3 : w3.heap[w.heap.size]? = some (.cells #[.int .u8 0, .int .i64 0, .int .u64 0, .int .i64 0, .int .u16 0, .int .u64 0, .int .i64 0, .int .u64 0, .int .i64 0, .slice none 0 0, .int .u64 0, .slice none 0 0, .slice none 0 0, .int .u64 0, .int .u64 0] 30 (0, 0)) := (hg3.block w.heap.size (by omega) (by simp; omega)).trans y2
  have hs3 : e2.heap.size ≤ w3.heap.size := hg3.size
  have hgw3 : w.grownBy w3 (some r) := Cd.grown_trans hge2 hg3
  clear hv3 hg3 hge2 hre2 c2 y2 HE2
  obtain ⟨e3, he3⟩ : ∃ e3, ((w3.setCell ⟨w2.heap.size, 5, none⟩ (.int .u64 (N3 : Nat))).setCell ⟨w2.heap.size, 6, none⟩ (.int .i64 (P3 : Nat))) = e3 := ⟨_, rfl⟩
  have m3 : (w3.setCell ⟨w2.heap.size, 5, none⟩ (.int .u64 (N3 : Nat))).heap[w2.heap.size]? = some (.cells #[.int .u8 1, .int .i64 (FR : Nat), .int .u64 0, .int .i64 0, .int .u16 0, .int .u64 (N3 : Nat), .int .i64 0, .int .u64 0, .int .i64 0, .slice none 0 0, .int .u64 0, .slice none 0 0, .slice none 0 0, .int .u64 0, .int .u64 0] 30 (0, 0)) := by rw [heap_setCell_same w3 w2.heap.size 5 _ 30 _ hk3]; rfl
  have c3 : e3.heap[w2.heap.size]? = some (.cells #[.int .u8 1, .int .i64 (FR : Nat), .int .u64 0, .int .i64 0, .int .u16 0, .int .u64 (N3 : Nat), .int .i64 (P3 : Nat), .int .u64 0, .int .i64 0, .slice none 0 0, .int .u64 0, .slice none 0 0, .slice none 0 0, .int .u64 0, .int .u64 0] 30 (0, 0)) := by rw [← he3, heap_setCell_same _ w2.heap.size 6 _ 30 _ m3]; rfl
  have y3 : e3.heap[w.heap.size]? = some (.cells #[.int .u8 0, .int .i64 0, .int .u64 0, .int .i64 0, .int .u16 0, .int .u64 0, .int .i64 0, .int .u64 0, .int .i64 0, .slice none 0 0, .int .u64 0, .slice none 0 0, .slice none 0 0, .int .u64 0, .int .u64 0] 30 (0, 0)) := by rw [← he3, Below.heap_setCell _ _ _ _ (by show w.heap.size ≠ w2.heap.size; omega), Below.heap_setCell _ _ _ _ (by show w.heap.size ≠ w2.heap.size; omega)]; exact z3
  have hge3 : w.grownBy e3 (some r) := by rw [← he3]; exact gr_setCell (gr_setCell hgw3 (by omega)) (by omega)
  have hre3 : Cd.Rd e3 r s3 := by rw [← he3]; exact rd_grown (g := some w2.heap.size) (rd_grown (g := some w2.heap.size) hrd3 (Cd.set_grown _) (fun b e => by cases e; omega)) (Cd.set_grown _) (fun b e => by cases e; omega)
  have he3s : e3.heap.size = w3.heap.size := by rw [← he3]; simp [World.setCell]
  have o3_5 : w3.cell? ⟨w2.heap.size, 5, none⟩ = some (.int .u64 0) := by rw [cell_of_row w3 _ 5 _ 30 (0, 0) hk3]; rfl
  have fz3_5 : w3.frozen? ⟨w2.heap.size, 5, none⟩ = false := frozen_of_row w3 _ 5 _ 30 hk3
  have o3_6 : w3.cell? ⟨w2.heap.size, 6, none⟩ = some (.int .i64 0) := by rw [cell_of_row w3 _ 6 _ 30 (0, 0) hk3]; rfl
  have fz3_6 : w3.frozen? ⟨w2.heap.size, 6, none⟩ = false := frozen_of_row w3 _ 6 _ 30 hk3
  have ok3 : w3.cell? ⟨w2.heap.size, 0, none⟩ = some (.int .u8 1) := by rw [cell_of_row w3 _ 0 _ 30 (0, 0) hk3]; rfl
  have HE3 : Hid (((w3.setCell ⟨w2.heap.size, 5, none⟩ (.int .u64 (N3 : Nat))).setCell ⟨w2.heap.size, 6, none⟩ (.int .i64 (P3 : Nat))) = e3) := he3
  clear hk3 z3 hgw3 hrd3 he3 m3
  have hv4 := readView_any e3 r s3 hre3
  have hsl4 : sl (decV s3).2 := sl_dec hsl3
  generalize decV s3 = dv4 at *
  obtain ⟨⟨N4, P4⟩, s4⟩ := dv4
  simp only at *
  unfold vid at hv4
  go_wp2_with fail
  rw [HE3.out]
  refine hv4.mono ?_
  rintro e w4 ⟨rfl, hrd4, hg4⟩
  have hk4 : w4.heap[w2.heap.size]? = some (.cells #[.int .u8 1, .int .i64 (FR : Nat), .int .u64 0, .int .i64 0, .int .u16 0, .int .u64 (N3 : Nat), .int .i64 (P3 : Nat), .int .u64 0, .int .i64 0, .slice none 0 0, .int .u64 0, .slice none 0 0, .slice none 0 0, .int .u64 0, .int .u64 0] 30 (0, 0)) := (hg4.block w2.heap.size (by omega) (by simp; omega)).trans c3
  have z4 : w4.heap[w.heap.size]? = some (.cells #[.int .u8 0, .int .i64 0, .int .u64 0, .int .i64 0, .int .u16 0, .int .u64 0, .int .i64 0, .int .u64 0, .int .i64 0, .slice none 0 0, .int .u64 0, .slice none 0 0, .slice none 0 0, .int .u64 0, .int .u64 0] 30 (0, 0)) := (hg4.block w.heap.size (by omega) (by simp; omega)).trans y3
  have hs4 : e3.heap.size ≤ w4.heap.size := hg4.size
  have hgw4 : w.grownBy w4 (some r) := Cd.grown_trans hge3 hg4
  clear hv4 hg4 hge3 hre3 c3 y3 HE3
  obtain ⟨e4, he4⟩ : ∃ e4, ((w4.setCell ⟨w2.heap.size, 7, none⟩ (.int .u64 (N4 : Nat))).setCell ⟨w2.heap.size, 8, none⟩ (.int .i64 (P4 : Nat))) = e4 := ⟨_, rfl⟩
  have m4 : (w4.setCell ⟨w2.heap.size, 7, none⟩ (.int .u64 (N4 : Nat))).heap[w2.heap.size]? = some (.cells #[.int .u8 1, .int .i64 (FR : Nat), .int .u64 0, .int .i64 0, .int .u16 0, .int .u64 (N3 : Nat), .int .i64 (P3 : Nat), .int .u64 (N4 : Nat), .int .i64 0, .slice none 0 0, .int .u64 0, .slice none 0 0, .slice none 0 0, .int .u64 0, .int .u64 0] 30 (0, 0)) := by rw [heap_setCell_same w4 w2.heap.size 7 _ 30 _ hk4]; rfl
  have c4 : e4.heap[w2.heap.size]? = some (.cells #[.int .u8 1, .int .i64 (FR : Nat), .int .u64 0, .int .i64 0, .int .u16 0, .int .u64 (N3 : Nat), .int .i64 (P3 : Nat), .int .u64 (N4 : Nat), .int .i64 (P4 : Nat), .slice none 0 0, .int .u64 0, .slice none 0 0, .slice none 0 0, .int .u64 0, .int .u64 0] 30 (0, 0)) := by rw [← he4, heap_setCell_same _ w2.heap.size 8 _ 30 _ m4]; rfl
  have y4 : e4.heap[w.heap.size]? = some (.cells #[.int .u8 0, .int .i64 0, .int .u64 0, .int .i64 0, .int .u16 0, .int .u64 0, .int .i64 0, .int .u64 0, .int .i64 0, .slice none 0 0, .int .u64 0, .slice none 0 0, .slice none 0 0, .int .u64 0, .int .u64 0] 30 (0, 0)) := by rw [← he4, Below.heap_setCell _ _ _ _ (by show w.heap.size ≠ w2.heap.size; omega), Below.heap_setCell _ _ _ _ (by show w.heap.size ≠ w2.heap.size; omega)]; exact z4
  have hge4 : w.grownBy e4 (some r) := by rw [← he4]; exact gr_setCell (gr_setCell hgw4 (by omega)) (by omega)
  have hre4 : Cd.Rd e4 r s4 := by rw [← he4]; exact rd_grown (g := some w2.heap.size) (rd_grown (g := some w2.heap.size) hrd4 (Cd.set_grown _) (fun b e => by cases e; omega)) (Cd.set_grown _) (fun b e => by cases e; omega)
  have he4s : e4.heap.size = w4.heap.size := by rw [← he4]; simp [World.setCell]
  have o4_7 : w4.cell? ⟨w2.heap.size, 7, none⟩ = some (.int .u64 0) := by rw [cell_of_row w4 _ 7 _ 30 (0, 0) hk4]; rfl
  have fz4_7 : w4.frozen? ⟨w2.heap.size, 7, none⟩ = false := frozen_of_row w4 _ 7 _ 30 hk4
  have o4_8 : w4.cell? ⟨w2.heap.size, 8, none⟩ = some (.int .i64 0) := by rw [cell_of_row w4 _ 8 _ 30 (0, 0) hk4]; rfl
  have fz4_8 : w4.frozen? ⟨w2.heap.size, 8, none⟩ = false := frozen_of_row w4 _ 8 _ 30 hk4
  have ok4 : w4.cell? ⟨w2.heap.size, 0, none⟩ = some (.int .u8 1) := by rw [cell_of_row w4 _ 0 _ 30 (0, 0) hk4]; rfl
  have HE4 : Hid (((w4.setCell ⟨w2.heap.size, 7, none⟩ (.int .u64 (N4 : Nat))).setCell ⟨w2.heap.size, 8, none⟩ (.int .i64 (P4 : Nat))) = e4) := he4
  clear hk4 z4 hgw4 hrd4 he4 m4
  have hset := setRow_heap e4 w.heap.size _ #[.int .u8 1, .int .i64 (FR : Nat), .int .u64 0, .int .i64 0, .int .u16 0, .int .u64 (N3 : Nat), .int .i64 (P3 : Nat), .int .u64 (N4 : Nat), .int .i64 (P4 : Nat), .slice none 0 0, .int .u64 0, .slice none 0 0, .slice none 0 0, .int .u64 0, .int .u64 0] 30 (0, 0) y4
  have HFI : Hid (Cd.Rd (e4.setRow w.heap.size #[.int .u8 1, .int .i64 (FR : Nat), .int .u64 0, .int .i64 0, .int .u16 0, .int .u64 (N3 : Nat), .int .i64 (P3 : Nat), .int .u64 (N4 : Nat), .int .i64 (P4 : Nat), .slice none 0 0, .int .u64 0, .slice none 0 0, .slice none 0 0, .int .u64 0, .int .u64 0]) r s4 ∧ w.grownBy (e4.setRow w.heap.size #[.int .u8 1, .int .i64 (FR : Nat), .int .u64 0, .int .i64 0, .int .u16 0, .int .u64 (N3 : Nat), .int .i64 (P3 : Nat), .int .u64 (N4 : Nat), .int .i64 (P4 : Nat), .slice none 0 0, .int .u64 0, .slice none 0 0, .slice none 0 0, .int .u64 0, .int .u64 0]) (some r)) := ⟨rd_setRow' hre4 (by omega), gr_setRow' hge4 (Nat.le_refl _) _⟩
  have hen : ((w4.setCell ⟨w2.heap.size, 7, none⟩ (.int .u64 (N4 : Nat))).setCell ⟨w2.heap.size, 8, none⟩ (.int .i64 (P4 : Nat))) = e4 := HE4.out
  have oke : e4.cell? ⟨w2.heap.size, 0, none⟩ = some (.int .u8 1) := by rw [cell_of_row e4 _ 0 _ 30 (0, 0) c4]; rfl
  clear hre4 hge4 HE4
  go_wp2_with (first | (refine wpList_load_row rfl 30 (.tmp 3) rfl w2.heap.size rfl 30 #[.int .u8 1, .int .i64 (FR : Nat), .int .u64 0, .int .i64 0, .int .u16 0, .int .u64 (N3 : Nat), .int .i64 (P3 : Nat), .int .u64 (N4 : Nat), .int .i64 (P4 : Nat), .slice none 0 0, .int .u64 0, .slice none 0 0, .slice none 0 0, .int .u64 0, .int .u64 0] (0, 0) _ c4 Try.underlying30 rfl info30 ?_) | (refine wpList_store_row rfl 30 (.tmp 2) (.tmp 74) rfl w.heap.size #[.int .u8 1, .int .i64 (FR : Nat), .int .u64 0, .int .i64 0, .int .u16 0, .int .u64 (N3 : Nat), .int .i64 (P3 : Nat), .int .u64 (N4 : Nat), .int .i64 (P4 : Nat), .slice none 0 0, .int .u64 0, .slice none 0 0, .slice none 0 0, .int .u64 0, .int .u64 0] rfl rfl 30 _ y4 info30 rfl (by simp [Value.oneCell']) ?_))
  refine bodyPost_ret (results_cell1 (g := w.heap.size) (cs := #[.int .u8 1, .int .i64 (FR : Nat), .int .u64 0, .int .i64 0, .int .u16 0, .int .u64 (N3 : Nat), .int .i64 (P3 : Nat), .int .u64 (N4 : Nat), .int .i64 (P4 : Nat), .slice none 0 0, .int .u64 0, .slice none 0 0, .slice none 0 0, .int .u64 0, .int .u64 0]) Try.results27 rfl (load30 hset rfl)) rfl ?_
  rw [HF.out]
  exact ⟨Fa.none, rfl, ⟨SsX.nil _ _, MsX.nil _ _, ItsX.nil _ _⟩, HFI.out.1, HFI.out.2⟩

set_option maxRecDepth 20000 in
set_option maxHeartbeats 2000000 in
theorem readFrame_2 (w : World) (r : Nat) (st : St) (h : Cd.Rd w r st) (hl : sl st) (hK : (Cd.rInt st 7).1 = 2) :
    Calls Try.prog 27 #[.pointer (some ⟨r, 0, none⟩)] w fun e w' => ∃ a, e = .returned (fval (rFrame 9223372036854775807 st).1 a) ∧ FIn (fun b => w.heap.size ≤ b) w' (rFrame 9223372036854775807 st).1 a ∧ Cd.Rd w' r (rFrame 9223372036854775807 st).2 ∧ w.grownBy w' (some r) := by
  have hrl := h.lt
  have hin := Cd.int_rd (w.alloc (.cells #[.int .u8 0, .int .i64 0, .int .u64 0, .int .i64 0, .int .u16 0, .int .u64 0, .int .i64 0, .int .u64 0, .int .i64 0, .slice none 0 0, .int .u64 0, .slice none 0 0, .slice none 0 0, .int .u64 0, .int .u64 0] 30)) r st (rd_alloc h _) 7 (by omega) (by omega)
  have hsl1 : sl (Cd.rInt st 7).2 := sl_int hl
  have HF : Hid (rFrame 9223372036854775807 st = ({ zeroF with kind := 2, frm := (((Cd.rInt (Cd.rInt st 7).2 15).1 : Nat) : Int), idN := (decV (Cd.rInt (Cd.rInt st 7).2 15).2).1.1, idP := (((decV (Cd.rInt (Cd.rInt st 7).2 15).2).1.2 : Nat) : Int), set := (Cd.rInt (decV (Cd.rInt (Cd.rInt st 7).2 15).2).2 65535).1 }, (Cd.rInt (decV (Cd.rInt (Cd.rInt st 7).2 15).2).2 65535).2)) := by
    show _ = _
    unfold rFrame rIdent rHead rBody
    simp [hK, zeroF]
  generalize Cd.rInt st 7 = r0 at *
  obtain ⟨K, s1⟩ := r0
  simp only at *
  subst hK
  have hno := fun W (hW : Cd.Rd W r s1) => readNode_any W r s1 hW
  have hsl2 : sl (Cd.rInt s1 15).2 := sl_int hsl1
  generalize Cd.rInt s1 15 = r1 at *
  obtain ⟨FR, s2⟩ := r1
  simp only at *
  clear h hl hsl1
  go_enter Try.func27, Try.ntmps27
  go_wp2_with fail
  refine hin.mono ?_
  rintro e w1 ⟨rfl, hrd1, hg1⟩
  have z1 : w1.heap[w.heap.size]? = some (.cells #[.int .u8 0, .int .i64 0, .int .u64 0, .int .i64 0, .int .u16 0, .int .u64 0, .int .i64 0, .int .u64 0, .int .i64 0, .slice none 0 0, .int .u64 0, .slice none 0 0, .slice none 0 0, .int .u64 0, .int .u64 0] 30 (0, 0)) := (hg1.block w.heap.size (by simp) (by simp; omega)).trans (heap_alloc_new _ _)
  have hg01 : w.grownBy w1 (some r) := Cd.grown_trans (gr_alloc0 w _ _) hg1
  have hs1 : w.heap.size < w1.heap.size := by have := hg1.size; simp at this; omega
  have hno1 := hno w1 hrd1
  clear hin hno hrd1 hg1
  go_wp2_with fail
  refine hno1.mono ?_
  rintro e w2 ⟨rfl, hrd2, hg2⟩
  have z2 : w2.heap[w.heap.size]? = some (.cells #[.int .u8 0, .int .i64 0, .int .u64 0, .int .i64 0, .int .u16 0, .int .u64 0, .int .i64 0, .int .u64 0, .int .i64 0, .slice none 0 0, .int .u64 0, .slice none 0 0, .slice none 0 0, .int .u64 0, .int .u64 0] 30 (0, 0)) := (hg2.block w.heap.size hs1 (by simp; omega)).trans z1
  have hg02 : w.grownBy w2 (some r) := Cd.grown_trans hg01 hg2
  have hs2 : w.heap.size < w2.heap.size := by have := hg2.size; omega
  obtain ⟨e2, he2⟩ : ∃ e2, w2.alloc (.cells #[.int .u8 2, .int .i64 (FR : Nat), .int .u64 0, .int .i64 0, .int .u16 0, .int .u64 0, .int .i64 0, .int .u64 0, .int .i64 0, .slice none 0 0, .int .u64 0, .slice none 0 0, .slice none 0 0, .int .u64 0, .int .u64 0] 30) = e2 := ⟨_, rfl⟩
  have hb2 : Below w2.heap.size w2 e2 := by rw [← he2]; exact bl1 _ _
  have he2s : e2.heap.size = w2.heap.size + 1 := by rw [← he2]; simp
  have c2 : e2.heap[w2.heap.size]? = some (.cells #[.int .u8 2, .int .i64 (FR : Nat), .int .u64 0, .int .i64 0, .int .u16 0, .int .u64 0, .int .i64 0, .int .u64 0, .int .i64 0, .slice none 0 0, .int .u64 0, .slice none 0 0, .slice none 0 0, .int .u64 0, .int .u64 0] 30 (0, 0)) := by rw [← he2]; exact heap_alloc_new _ _
  have y2 : e2.heap[w.heap.size]? = some (.cells #[.int .u8 0, .int .i64 0, .int .u64 0, .int .i64 0, .int .u16 0, .int .u64 0, .int .i64 0, .int .u64 0, .int .i64 0, .slice none 0 0, .int .u64 0, .slice none 0 0, .slice none 0 0, .int .u64 0, .int .u64 0] 30 (0, 0)) := (hb2.block _ hs2).trans z2
  have hge2 : w.grownBy e2 (some r) := gr_up hg02 hb2
  have hre2 : Cd.Rd e2 r s2 := Cd.rd_below hrd2 hb2
  have HE2 : Hid (w2.alloc (.cells #[.int .u8 2, .int .i64 (FR : Nat), .int .u64 0, .int .i64 0, .int .u16 0, .int .u64 0, .int .i64 0, .int .u64 0, .int .i64 0, .slice none 0 0, .int .u64 0, .slice none 0 0, .slice none 0 0, .int .u64 0, .int .u64 0] 30) = e2) := he2
  clear hno1 hrd2 hg2 hg01 z1 z2 hg02 hb2 he2
  have hv3 := readView_any e2 r s2 hre2
  have hsl3 : sl (decV s2).2 := sl_dec hsl2
  generalize decV s2 = dv3 at *
  obtain ⟨⟨N3, P3⟩, s3⟩ := dv3
  simp only at *
  unfold vid at hv3
  go_wp2_with fail
  rw [HE2.out]
  refine hv3.mono ?_
  rintro e w3 ⟨rfl, hrd3, hg3⟩
  have hk3 : w3.heap[w2.heap.size]? = some (.cells #[.int .u8 2, .int .i64 (FR : Nat), .int .u64 0, .int .i64 0, .int .u16 0, .int .u64 0, .int .i64 0, .int .u64 0, .int .i64 0, .slice none 0 0, .int .u64 0, .slice none 0 0, .slice none 0 0, .int .u64 0, .int .u64 0] 30 (0, 0)) := (hg3.block w2.heap.size (by omega) (by simp; omega)).trans c2
  have z3 : w3.heap[w.heap.size]? = some (.cells #[.int .u8 0, .int .i64 0, .int .u64 0, .int .i64 0, .int .u16 0, .int .u64 0, .int .i64 0, .int .u64 0, .int .i64 0, .slice none 0 0, .int .u64 0, .slice none 0 0, .slice none 0 0, .int .u64 0, .int .u64 0] 30 (0, 0)) := (hg3.block w.heap.size (by omega) (by simp; omega)).trans y2
  have hs3 : e2.heap.size ≤ w3.heap.size := hg3.size
  have hgw3 : w.grownBy w3 (some r) := Cd.grown_trans hge2 hg3
  clear hv3 hg3 hge2 hre2 c2 y2 HE2
  obtain ⟨e3, he3⟩ : ∃ e3, ((w3.setCell ⟨w2.heap.size, 2, none⟩ (.int .u64 (N3 : Nat))).setCell ⟨w2.heap.size, 3, none⟩ (.int .i64 (P3 : Nat))) = e3 := ⟨_, rfl⟩
  have m3 : (w3.setCell ⟨w2.heap.size, 2, none⟩ (.int .u64 (N3 : Nat))).heap[w2.heap.size]? = some (.cells #[.int .u8 2, .int .i64 (FR : Nat), .int .u64 (N3 : Nat), .int .i64 0, .int .u16 0, .int .u64 0, .int .i64 0, .int .u64 0, .int .i64 0, .slice none 0 0, .int .u64 0, .slice none 0 0, .slice none 0 0, .int .u64 0, .int .u64 0] 30 (0, 0)) := by rw [heap_setCell_same w3 w2.heap.size 2 _ 30 _ hk3]; rfl
  have c3 : e3.heap[w2.heap.size]? = some (.cells #[.int .u8 2, .int .i64 (FR : Nat), .int .u64 (N3 : Nat), .int .i64 (P3 : Nat), .int .u16 0, .int .u64 0, .int .i64 0, .int .u64 0, .int .i64 0, .slice none 0 0, .int .u64 0, .slice none 0 0, .slice none 0 0, .int .u64 0, .int .u64 0] 30 (0, 0)) := by rw [← he3, heap_setCell_same _ w2.heap.size 3 _ 30 _ m3]; rfl
  have y3 : e3.heap[w.heap.size]? = some (.cells #[.int .u8 0, .int .i64 0, .int .u64 0, .int .i64 0, .int .u16 0, .int .u64 0, .int .i64 0, .int .u64 0, .int .i64 0, .slice none 0 0, .int .u64 0, .slice none 0 0, .slice none 0 0, .int .u64 0, .int .u64 0] 30 (0, 0)) := by rw [← he3, Below.heap_setCell _ _ _ _ (by show w.heap.size ≠ w2.heap.size; omega), Below.heap_setCell _ _ _ _ (by show w.heap.size ≠ w2.heap.size; omega)]; exact z3
  have hge3 : w.grownBy e3 (some r) := by rw [← he3]; exact gr_setCell (gr_setCell hgw3 (by omega)) (by omega)
  have hre3 : Cd.Rd e3 r s3 := by rw [← he3]; exact rd_grown (g := some w2.heap.size) (rd_grown (g := some w2.heap.size) hrd3 (Cd.set_grown _) (fun b e => by cases e; omega)) (Cd.set_grown _) (fun b e => by cases e; omega)
  have he3s : e3.heap.size = w3.heap.size := by rw [← he3]; simp [World.setCell]
  have o3_2 : w3.cell? ⟨w2.heap.size, 2, none⟩ = some (.int .u64 0) := by rw [cell_of_row w3 _ 2 _ 30 (0, 0) hk3]; rfl
  have fz3_2 : w3.frozen? ⟨w2.heap.size, 2, none⟩ = false := frozen_of_row w3 _ 2 _ 30 hk3
  have o3_3 : w3.cell? ⟨w2.heap.size, 3, none⟩ = some (.int .i64 0) := by rw [cell_of_row w3 _ 3 _ 30 (0, 0) hk3]; rfl
  have fz3_3 : w3.frozen? ⟨w2.heap.size, 3, none⟩ = false := frozen_of_row w3 _ 3 _ 30 hk3
  have ok3 : w3.cell? ⟨w2.heap.size, 0, none⟩ = some (.int .u8 2) := by rw [cell_of_row w3 _ 0 _ 30 (0, 0) hk3]; rfl
  have HE3 : Hid (((w3.setCell ⟨w2.heap.size, 2, none⟩ (.int .u64 (N3 : Nat))).setCell ⟨w2.heap.size, 3, none⟩ (.int .i64 (P3 : Nat))) = e3) := he3
  clear hk3 z3 hgw3 hrd3 he3 m3
  have hv4 := readSet_any e3 r s3 hre3
  have hsl4 : sl (Cd.rInt s3 65535).2 := sl_int hsl3
  generalize Cd.rInt s3 65535 = dv4 at *
  obtain ⟨N4, s4⟩ := dv4
  simp only at *
  go_wp2_with fail
  rw [HE3.out]
  refine hv4.mono ?_
  rintro e w4 ⟨rfl, hrd4, hg4⟩
  have hk4 : w4.heap[w2.heap.size]? = some (.cells #[.int .u8 2, .int .i64 (FR : Nat), .int .u64 (N3 : Nat), .int .i64 (P3 : Nat), .int .u16 0, .int .u64 0, .int .i64 0, .int .u64 0, .int .i64 0, .slice none 0 0, .int .u64 0, .slice none 0 0, .slice none 0 0, .int .u64 0, .int .u64 0] 30 (0, 0)) := (hg4.block w2.heap.size (by omega) (by simp; omega)).trans c3
  have z4 : w4.heap[w.heap.size]? = some (.cells #[.int .u8 0, .int .i64 0, .int .u64 0, .int .i64 0, .int .u16 0, .int .u64 0, .int .i64 0, .int .u64 0, .int .i64 0, .slice none 0 0, .int .u64 0, .slice none 0 0, .slice none 0 0, .int .u64 0, .int .u64 0] 30 (0, 0)) := (hg4.block w.heap.size (by omega) (by simp; omega)).trans y3
  have hs4 : e3.heap.size ≤ w4.heap.size := hg4.size
  have hgw4 : w.grownBy w4 (some r) := Cd.grown_trans hge3 hg4
  clear hv4 hg4 hge3 hre3 c3 y3 HE3
  obtain ⟨e4, he4⟩ : ∃ e4, (w4.setCell ⟨w2.heap.size, 4, none⟩ (.int .u16 (N4 : Nat))) = e4 := ⟨_, rfl⟩
  have c4 : e4.heap[w2.heap.size]? = some (.cells #[.int .u8 2, .int .i64 (FR : Nat), .int .u64 (N3 : Nat), .int .i64 (P3 : Nat), .int .u16 (N4 : Nat), .int .u64 0, .int .i64 0, .int .u64 0, .int .i64 0, .slice none 0 0, .int .u64 0, .slice none 0 0, .slice none 0 0, .int .u64 0, .int .u64 0] 30 (0, 0)) := by rw [← he4, heap_setCell_same w4 w2.heap.size 4 _ 30 _ hk4]; rfl
  have y4 : e4.heap[w.heap.size]? = some (.cells #[.int .u8 0, .int .i64 0, .int .u64 0, .int .i64 0, .int .u16 0, .int .u64 0, .int .i64 0, .int .u64 0, .int .i64 0, .slice none 0 0, .int .u64 0, .slice none 0 0, .slice none 0 0, .int .u64 0, .int .u64 0] 30 (0, 0)) := by rw [← he4, Below.heap_setCell _ _ _ _ (by show w.heap.size ≠ w2.heap.size; omega)]; exact z4
  have hge4 : w.grownBy e4 (some r) := by rw [← he4]; exact gr_setCell hgw4 (by omega)
  have hre4 : Cd.Rd e4 r s4 := by rw [← he4]; exact rd_grown (g := some w2.heap.size) hrd4 (Cd.set_grown _) (fun b e => by cases e; omega)
  have he4s : e4.heap.size = w4.heap.size := by rw [← he4]; simp [World.setCell]
  have o4_4 : w4.cell? ⟨w2.heap.size, 4, none⟩ = some (.int .u16 0) := by rw [cell_of_row w4 _ 4 _ 30 (0, 0) hk4]; rfl
  have fz4_4 : w4.frozen? ⟨w2.heap.size, 4, none⟩ = false := frozen_of_row w4 _ 4 _ 30 hk4
  have ok4 : w4.cell? ⟨w2.heap.size, 0, none⟩ = some (.int .u8 2) := by rw [cell_of_row w4 _ 0 _ 30 (0, 0) hk4]; rfl
  have HE4 : Hid ((w4.setCell ⟨w2.heap.size, 4, none⟩ (.int .u16 (N4 : Nat))) = e4) := he4
  clear hk4 z4 hgw4 hrd4 he4
  have hset := setRow_heap e4 w.heap.size _ #[.int .u8 2, .int .i64 (FR : Nat), .int .u64 (N3 : Nat), .int .i64 (P3 : Nat), .int .u16 (N4 : Nat), .int .u64 0, .int .i64 0, .int .u64 0, .int .i64 0, .slice none 0 0, .int .u64 0, .slice none 0 0, .slice none 0 0, .int .u64 0, .int .u64 0] 30 (0, 0) y4
  have HFI : Hid (Cd.Rd (e4.setRow w.heap.size #[.int .u8 2, .int .i64 (FR : Nat), .int .u64 (N3 : Nat), .int .i64 (P3 : Nat), .int .u16 (N4 : Nat), .int .u64 0, .int .i64 0, .int .u64 0, .int .i64 0, .slice none 0 0, .int .u64 0, .slice none 0 0, .slice none 0 0, .int .u64 0, .int .u64 0]) r s4 ∧ w.grownBy (e4.setRow w.heap.size #[.int .u8 2, .int .i64 (FR : Nat), .int .u64 (N3 : Nat), .int .i64 (P3 : Nat), .int .u16 (N4 : Nat), .int .u64 0, .int .i64 0, .int .u64 0, .int .i64 0, .slice none 0 0, .int .u64 0, .slice none 0 0, .slice none 0 0, .int .u64 0, .int .u64 0]) (some r)) := ⟨rd_setRow' hre4 (by omega), gr_setRow' hge4 (Nat.le_refl _) _⟩
  have hen : (w4.setCell ⟨w2.heap.size, 4, none⟩ (.int .u16 (N4 : Nat))) = e4 := HE4.out
  have oke : e4.cell? ⟨w2.heap.size, 0, none⟩ = some (.int .u8 2) := by rw [cell_of_row e4 _ 0 _ 30 (0, 0) c4]; rfl
  clear hre4 hge4 HE4
  go_wp2_with (first | (refine wpList_load_row rfl 30 (.tmp 3) rfl w2.heap.size rfl 30 #[.int .u8 2, .int .i64 (FR : Nat), .int .u64 (N3 : Nat), .int .i64 (P3 : Nat), .int .u16 (N4 : Nat), .int .u64 0, .int .i64 0, .int .u64 0, .int .i64 0, .slice none 0 0, .int .u64 0, .slice none 0 0, .slice none 0 0, .int .u64 0, .int .u64 0] (0, 0) _ c4 Try.underlying30 rfl info30 ?_) | (refine wpList_store_row rfl 30 (.tmp 2) (.tmp 74) rfl w.heap.size #[.int .u8 2, .int .i64 (FR : Nat), .int .u64 (N3 : Nat), .int .i64 (P3 : Nat), .int .u16 (N4 : Nat), .int .u64 0, .int .i64 0, .int .u64 0, .int .i64 0, .slice none 0 0, .int .u64 0, .slice none 0 0, .slice none 0 0, .int .u64 0, .int .u64 0] rfl rfl 30 _ y4 info30 rfl (by simp [Value.oneCell']) ?_))
  refine bodyPost_ret (results_cell1 (g := w.heap.size) (cs := #[.int .u8 2, .int .i64 (FR : Nat), .int .u64 (N3 : Nat), .int .i64 (P3 : Nat), .int .u16 (N4 : Nat), .int .u64 0, .int .i64 0, .int .u64 0, .int .i64 0, .slice none 0 0, .int .u64 0, .slice none 0 0, .slice none 0 0, .int .u64 0, .int .u64 0]) Try.results27 rfl (load30 hset rfl)) rfl ?_
  rw [HF.out]
  exact ⟨Fa.none, rfl, ⟨SsX.nil _ _, MsX.nil _ _, ItsX.nil _ _⟩, HFI.out.1, HFI.out.2⟩

set_option maxRecDepth 20000 in
set_option maxHeartbeats 2000000 in
theorem readFrame_3 (w : World) (r : Nat) (st : St) (h : Cd.Rd w r st) (hl : sl st) (hK : (Cd.rInt st 7).1 = 3) :
    Calls Try.prog 27 #[.pointer (some ⟨r, 0, none⟩)] w fun e w' => ∃ a, e = .returned (fval (rFrame 9223372036854775807 st).1 a) ∧ FIn (fun b => w.heap.size ≤ b) w' (rFrame 9223372036854775807 st).1 a ∧ Cd.Rd w' r (rFrame 9223372036854775807 st).2 ∧ w.grownBy w' (some r) := by
  have hrl := h.lt
  have hin := Cd.int_rd (w.alloc (.cells #[.int .u8 0, .int .i64 0, .int .u64 0, .int .i64 0, .int .u16 0, .int .u64 0, .int .i64 0, .int .u64 0, .int .i64 0, .slice none 0 0, .int .u64 0, .slice none 0 0, .slice none 0 0, .int .u64 0, .int .u64 0] 30)) r st (rd_alloc h _) 7 (by omega) (by omega)
  have hsl1 : sl (Cd.rInt st 7).2 := sl_int hl
  have HF : Hid (rFrame 9223372036854775807 st = ({ zeroF with kind := 3, frm := (((Cd.rInt (Cd.rInt st 7).2 15).1 : Nat) : Int), idN := (decV (Cd.rInt (Cd.rInt st 7).2 15).2).1.1, idP := (((decV (Cd.rInt (Cd.rInt st 7).2 15).2).1.2 : Nat) : Int), st := (rMany (rState 9223372036854775807) (decV (Cd.rInt (Cd.rInt st 7).2 15).2).2).1 }, (rMany (rState 9223372036854775807) (decV (Cd.rInt (Cd.rInt st 7).2 15).2).2).2)) := by
    show _ = _
    unfold rFrame rIdent rHead rBody
    simp [hK, zeroF]
  generalize Cd.rInt st 7 = r0 at *
  obtain ⟨K, s1⟩ := r0
  simp only at *
  subst hK
  have hno := fun W (hW : Cd.Rd W r s1) => readNode_any W r s1 hW
  have hsl2 : sl (Cd.rInt s1 15).2 := sl_int hsl1
  generalize Cd.rInt s1 15 = r1 at *
  obtain ⟨FR, s2⟩ := r1
  simp only at *
  clear h hl hsl1
  go_enter Try.func27, Try.ntmps27
  go_wp2_with fail
  refine hin.mono ?_
  rintro e w1 ⟨rfl, hrd1, hg1⟩
  have z1 : w1.heap[w.heap.size]? = some (.cells #[.int .u8 0, .int .i64 0, .int .u64 0, .int .i64 0, .int .u16 0, .int .u64 0, .int .i64 0, .int .u64 0, .int .i64 0, .slice none 0 0, .int .u64 0, .slice none 0 0, .slice none 0 0, .int .u64 0, .int .u64 0] 30 (0, 0)) := (hg1.block w.heap.size (by simp) (by simp; omega)).trans (heap_alloc_new _ _)
  have hg01 : w.grownBy w1 (some r) := Cd.grown_trans (gr_alloc0 w _ _) hg1
  have hs1 : w.heap.size < w1.heap.size := by have := hg1.size; simp at this; omega
  have hno1 := hno w1 hrd1
  clear hin hno hrd1 hg1
  go_wp2_with fail
  refine hno1.mono ?_
  rintro e w2 ⟨rfl, hrd2, hg2⟩
  have z2 : w2.heap[w.heap.size]? = some (.cells #[.int .u8 0, .int .i64 0, .int .u64 0, .int .i64 0, .int .u16 0, .int .u64 0, .int .i64 0, .int .u64 0, .int .i64 0, .slice none 0 0, .int .u64 0, .slice none 0 0, .slice none 0 0, .int .u64 0, .int .u64 0] 30 (0, 0)) := (hg2.block w.heap.size hs1 (by simp; omega)).trans z1
  have hg02 : w.grownBy w2 (some r) := Cd.grown_trans hg01 hg2
  have hs2 : w.heap.size < w2.heap.size := by have := hg2.size; omega
  obtain ⟨e2, he2⟩ : ∃ e2, w2.alloc (.cells #[.int .u8 3, .int .i64 (FR : Nat), .int .u64 0, .int .i64 0, .int .u16 0, .int .u64 0, .int .i64 0, .int .u64 0, .int .i64 0, .slice none 0 0, .int .u64 0, .slice none 0 0, .slice none 0 0, .int .u64 0, .int .u64 0] 30) = e2 := ⟨_, rfl⟩
  have hb2 : Below w2.heap.size w2 e2 := by rw [← he2]; exact bl1 _ _
  have he2s : e2.heap.size = w2.heap.size + 1 := by rw [← he2]; simp
  have c2 : e2.heap[w2.heap.size]? = some (.cells #[.int .u8 3, .int .i64 (FR : Nat), .int .u64 0, .int .i64 0, .int .u16 0, .int .u64 0, .int .i64 0, .int .u64 0, .int .i64 0, .slice none 0 0, .int .u64 0, .slice none 0 0, .slice none 0 0, .int .u64 0, .int .u64 0] 30 (0, 0)) := by rw [← he2]; exact heap_alloc_new _ _
  have y2 : e2.heap[w.heap.size]? = some (.cells #[.int .u8 0, .int .i64 0, .int .u64 0, .int .i64 0, .int .u16 0, .int .u64 0, .int .i64 0, .int .u64 0, .int .i64 0, .slice none 0 0, .int .u64 0, .slice none 0 0, .slice none 0 0, .int .u64 0, .int .u64 0] 30 (0, 0)) := (hb2.block _ hs2).trans z2
  have hge2 : w.grownBy e2 (some r) := gr_up hg02 hb2
  have hre2 : Cd.Rd e2 r s2 := Cd.rd_below hrd2 hb2
  have HE2 : Hid (w2.alloc (.cells #[.int .u8 3, .int .i64 (FR : Nat), .int .u64 0, .int .i64 0, .int .u16 0, .int .u64 0, .int .i64 0, .int .u64 0, .int .i64 0, .slice none 0 0, .int .u64 0, .slice none 0 0, .slice none 0 0, .int .u64 0, .int .u64 0] 30) = e2) := he2
  clear hno1 hrd2 hg2 hg01 z1 z2 hg02 hb2 he2
  have hv3 := readView_any e2 r s2 hre2
  have hsl3 : sl (decV s2).2 := sl_dec hsl2
  generalize decV s2 = dv3 at *
  obtain ⟨⟨N3, P3⟩, s3⟩ := dv3
  simp only at *
  unfold vid at hv3
  go_wp2_with fail
  rw [HE2.out]
  refine hv3.mono ?_
  rintro e w3 ⟨rfl, hrd3, hg3⟩
  have hk3 : w3.heap[w2.heap.size]? = some (.cells #[.int .u8 3, .int .i64 (FR : Nat), .int .u64 0, .int .i64 0, .int .u16 0, .int .u64 0, .int .i64 0, .int .u64 0, .int .i64 0, .slice none 0 0, .int .u64 0, .slice none 0 0, .slice none 0 0, .int .u64 0, .int .u64 0] 30 (0, 0)) := (hg3.block w2.heap.size (by omega) (by simp; omega)).trans c2
  have z3 : w3.heap[w.heap.size]? = some (.cells #[.int .u8 0, .int .i64 0, .int .u64 0, .int .i64 0, .int .u16 0, .int .u64 0, .int .i64 0, .int .u64 0, .int .i64 0, .slice none 0 0, .int .u64 0, .slice none 0 0, .slice none 0 0, .int .u64 0, .int .u64 0] 30 (0, 0)) := (hg3.block w.heap.size (by omega) (by simp; omega)).trans y2
  have hs3 : e2.heap.size ≤ w3.heap.size := hg3.size
  have hgw3 : w.grownBy w3 (some r) := Cd.grown_trans hge2 hg3
  clear hv3 hg3 hge2 hre2 c2 y2 HE2
  obtain ⟨e3, he3⟩ : ∃ e3, ((w3.setCell ⟨w2.heap.size, 2, none⟩ (.int .u64 (N3 : Nat))).setCell ⟨w2.heap.size, 3, none⟩ (.int .i64 (P3 : Nat))) = e3 := ⟨_, rfl⟩
  have m3 : (w3.setCell ⟨w2.heap.size, 2, none⟩ (.int .u64 (N3 : Nat))).heap[w2.heap.size]? = some (.cells #[.int .u8 3, .int .i64 (FR : Nat), .int .u64 (N3 : Nat), .int .i64 0, .int .u16 0, .int .u64 0, .int .i64 0, .int .u64 0, .int .i64 0, .slice none 0 0, .int .u64 0, .slice none 0 0, .slice none 0 0, .int .u64 0, .int .u64 0] 30 (0, 0)) := by rw [heap_setCell_same w3 w2.heap.size 2 _ 30 _ hk3]; rfl
  have c3 : e3.heap[w2.heap.size]? = some (.cells #[.int .u8 3, .int .i64 (FR : Nat), .int .u64 (N3 : Nat), .int .i64 (P3 : Nat), .int .u16 0, .int .u64 0, .int .i64 0, .int .u64 0, .int .i64 0, .slice none 0 0, .int .u64 0, .slice none 0 0, .slice none 0 0, .int .u64 0, .int .u64 0] 30 (0, 0)) := by rw [← he3, heap_setCell_same _ w2.heap.size 3 _ 30 _ m3]; rfl
  have y3 : e3.heap[w.heap.size]? = some (.cells #[.int .u8 0, .int .i64 0, .int .u64 0, .int .i64 0, .int .u16 0, .int .u64 0, .int .i64 0, .int .u64 0, .int .i64 0, .slice none 0 0, .int .u64 0, .slice none 0 0, .slice none 0 0, .int .u64 0, .int .u64 0] 30 (0, 0)) := by rw [← he3, Below.heap_setCell _ _ _ _ (by show w.heap.size ≠ w2.heap.size; omega), Below.heap_setCell _ _ _ _ (by show w.heap.size ≠ w2.heap.size; omega)]; exact z3
  have hge3 : w.grownBy e3 (some r) := by rw [← he3]; exact gr_setCell (gr_setCell hgw3 (by omega)) (by omega)
  have hre3 : Cd.Rd e3 r s3 := by rw [← he3]; exact rd_grown (g := some w2.heap.size) (rd_grown (g := some w2.heap.size) hrd3 (Cd.set_grown _) (fun b e => by cases e; omega)) (Cd.set_grown _) (fun b e => by cases e; omega)
  have he3s : e3.heap.size = w3.heap.size := by rw [← he3]; simp [World.setCell]
  have o3_2 : w3.cell? ⟨w2.heap.size, 2, none⟩ = some (.int .u64 0) := by rw [cell_of_row w3 _ 2 _ 30 (0, 0) hk3]; rfl
  have fz3_2 : w3.frozen? ⟨w2.heap.size, 2, none⟩ = false := frozen_of_row w3 _ 2 _ 30 hk3
  have o3_3 : w3.cell? ⟨w2.heap.size, 3, none⟩ = some (.int .i64 0) := by rw [cell_of_row w3 _ 3 _ 30 (0, 0) hk3]; rfl
  have fz3_3 : w3.frozen? ⟨w2.heap.size, 3, none⟩ = false := frozen_of_row w3 _ 3 _ 30 hk3
  have ok3 : w3.cell? ⟨w2.heap.size, 0, none⟩ = some (.int .u8 3) := by rw [cell_of_row w3 _ 0 _ 30 (0, 0) hk3]; rfl
  have HE3 : Hid (((w3.setCell ⟨w2.heap.size, 2, none⟩ (.int .u64 (N3 : Nat))).setCell ⟨w2.heap.size, 3, none⟩ (.int .i64 (P3 : Nat))) = e3) := he3
  clear hk3 z3 hgw3 hrd3 he3 m3
  have hv4 := readListS_any e3 r s3 hre3 hsl3
  have hln4 := rMany_len (rState 9223372036854775807) s3
  generalize rMany (rState 9223372036854775807) s3 = dv4 at *
  obtain ⟨l4, s4⟩ := dv4
  simp only at *
  go_wp2_with fail
  rw [HE3.out]
  refine hv4.mono ?_
  rintro e w4 ⟨v, xs, rfl, hrow, hrd4, hg4⟩
  obtain ⟨lo, lc, rfl, hlist⟩ := hrow.sts hln4
  have HLI : Hid (SsX (fun b => e3.heap.size ≤ b) w4 lo l4.length l4) := hlist
  clear hrow hlist
  have HLN : Hid (l4.length = l4.length) := rfl
  have hk4 : w4.heap[w2.heap.size]? = some (.cells #[.int .u8 3, .int .i64 (FR : Nat), .int .u64 (N3 : Nat), .int .i64 (P3 : Nat), .int .u16 0, .int .u64 0, .int .i64 0, .int .u64 0, .int .i64 0, .slice none 0 0, .int .u64 0, .slice none 0 0, .slice none 0 0, .int .u64 0, .int .u64 0] 30 (0, 0)) := (hg4.block w2.heap.size (by omega) (by simp; omega)).trans c3
  have z4 : w4.heap[w.heap.size]? = some (.cells #[.int .u8 0, .int .i64 0, .int .u64 0, .int .i64 0, .int .u16 0, .int .u64 0, .int .i64 0, .int .u64 0, .int .i64 0, .slice none 0 0, .int .u64 0, .slice none 0 0, .slice none 0 0, .int .u64 0, .int .u64 0] 30 (0, 0)) := (hg4.block w.heap.size (by omega) (by simp; omega)).trans y3
  have hs4 : e3.heap.size ≤ w4.heap.size := hg4.size
  have hgw4 : w.grownBy w4 (some r) := Cd.grown_trans hge3 hg4
  clear hv4 hg4 hge3 hre3 c3 y3 HE3
  obtain ⟨e4, he4⟩ : ∃ e4, (w4.setCell ⟨w2.heap.size, 9, none⟩ (.slice lo l4.length lc)) = e4 := ⟨_, rfl⟩
  have c4 : e4.heap[w2.heap.size]? = some (.cells #[.int .u8 3, .int .i64 (FR : Nat), .int .u64 (N3 : Nat), .int .i64 (P3 : Nat), .int .u16 0, .int .u64 0, .int .i64 0, .int .u64 0, .int .i64 0, .slice lo l4.length lc, .int .u64 0, .slice none 0 0, .slice none 0 0, .int .u64 0, .int .u64 0] 30 (0, 0)) := by rw [← he4, heap_setCell_same w4 w2.heap.size 9 _ 30 _ hk4]; rfl
  have y4 : e4.heap[w.heap.size]? = some (.cells #[.int .u8 0, .int .i64 0, .int .u64 0, .int .i64 0, .int .u16 0, .int .u64 0, .int .i64 0, .int .u64 0, .int .i64 0, .slice none 0 0, .int .u64 0, .slice none 0 0, .slice none 0 0, .int .u64 0, .int .u64 0] 30 (0, 0)) := by rw [← he4, Below.heap_setCell _ _ _ _ (by show w.heap.size ≠ w2.heap.size; omega)]; exact z4
  have hge4 : w.grownBy e4 (some r) := by rw [← he4]; exact gr_setCell hgw4 (by omega)
  have hre4 : Cd.Rd e4 r s4 := by rw [← he4]; exact rd_grown (g := some w2.heap.size) hrd4 (Cd.set_grown _) (fun b e => by cases e; omega)
  have he4s : e4.heap.size = w4.heap.size := by rw [← he4]; simp [World.setCell]
  have o4_9 : w4.cell? ⟨w2.heap.size, 9, none⟩ = some (.slice none 0 0) := by rw [cell_of_row w4 _ 9 _ 30 (0, 0) hk4]; rfl
  have fz4_9 : w4.frozen? ⟨w2.heap.size, 9, none⟩ = false := frozen_of_row w4 _ 9 _ 30 hk4
  have ok4 : w4.cell? ⟨w2.heap.size, 0, none⟩ = some (.int .u8 3) := by rw [cell_of_row w4 _ 0 _ 30 (0, 0) hk4]; rfl
  have HLJ : Hid (SsX (fun b => e3.heap.size ≤ b) e4 lo l4.length l4) := SsX.keep HLI.out (by rw [← he4]; exact kp_setCell (fun b hb => by omega))
  clear HLI
  have HE4 : Hid ((w4.setCell ⟨w2.heap.size, 9, none⟩ (.slice lo l4.length lc)) = e4) := he4
  clear hk4 z4 hgw4 hrd4 he4
  have hset := setRow_heap e4 w.heap.size _ #[.int .u8 3, .int .i64 (FR : Nat), .int .u64 (N3 : Nat), .int .i64 (P3 : Nat), .int .u16 0, .int .u64 0, .int .i64 0, .int .u64 0, .int .i64 0, .slice lo l4.length lc, .int .u64 0, .slice none 0 0, .slice none 0 0, .int .u64 0, .int .u64 0] 30 (0, 0) y4
  have HFI : Hid (Cd.Rd (e4.setRow w.heap.size #[.int .u8 3, .int .i64 (FR : Nat), .int .u64 (N3 : Nat), .int .i64 (P3 : Nat), .int .u16 0, .int .u64 0, .int .i64 0, .int .u64 0, .int .i64 0, .slice lo l4.length lc, .int .u64 0, .slice none 0 0, .slice none 0 0, .int .u64 0, .int .u64 0]) r s4 ∧ w.grownBy (e4.setRow w.heap.size #[.int .u8 3, .int .i64 (FR : Nat), .int .u64 (N3 : Nat), .int .i64 (P3 : Nat), .int .u16 0, .int .u64 0, .int .i64 0, .int .u64 0, .int .i64 0, .slice lo l4.length lc, .int .u64 0, .slice none 0 0, .slice none 0 0, .int .u64 0, .int .u64 0]) (some r)) := ⟨rd_setRow' hre4 (by omega), gr_setRow' hge4 (Nat.le_refl _) _⟩
  have hen : (w4.setCell ⟨w2.heap.size, 9, none⟩ (.slice lo l4.length lc)) = e4 := HE4.out
  have oke : e4.cell? ⟨w2.heap.size, 0, none⟩ = some (.int .u8 3) := by rw [cell_of_row e4 _ 0 _ 30 (0, 0) c4]; rfl
  clear hre4 hge4 HE4
  go_wp2_with (first | (refine wpList_load_row rfl 30 (.tmp 3) rfl w2.heap.size rfl 30 #[.int .u8 3, .int .i64 (FR : Nat), .int .u64 (N3 : Nat), .int .i64 (P3 : Nat), .int .u16 0, .int .u64 0, .int .i64 0, .int .u64 0, .int .i64 0, .slice lo l4.length lc, .int .u64 0, .slice none 0 0, .slice none 0 0, .int .u64 0, .int .u64 0] (0, 0) _ c4 Try.underlying30 rfl info30 ?_) | (refine wpList_store_row rfl 30 (.tmp 2) (.tmp 74) rfl w.heap.size #[.int .u8 3, .int .i64 (FR : Nat), .int .u64 (N3 : Nat), .int .i64 (P3 : Nat), .int .u16 0, .int .u64 0, .int .i64 0, .int .u64 0, .int .i64 0, .slice lo l4.length lc, .int .u64 0, .slice none 0 0, .slice none 0 0, .int .u64 0, .int .u64 0] rfl rfl 30 _ y4 info30 rfl (by simp [Value.oneCell']) ?_))
  refine bodyPost_ret (results_cell1 (g := w.heap.size) (cs := #[.int .u8 3, .int .i64 (FR : Nat), .int .u64 (N3 : Nat), .int .i64 (P3 : Nat), .int .u16 0, .int .u64 0, .int .i64 0, .int .u64 0, .int .i64 0, .slice lo l4.length lc, .int .u64 0, .slice none 0 0, .slice none 0 0, .int .u64 0, .int .u64 0]) Try.results27 rfl (load30 hset rfl)) rfl ?_
  rw [HF.out]
  exact ⟨⟨lo, lc, none, 0, none, 0⟩, rfl, ⟨SsX.imp (SsX.keep HLJ.out (kp_setRow (fun b hb => by omega))) (fun b _ hb => by omega), MsX.nil _ _, ItsX.nil _ _⟩, HFI.out.1, HFI.out.2⟩
end Go.Proofs.Ytfemjbaadnjanaa
