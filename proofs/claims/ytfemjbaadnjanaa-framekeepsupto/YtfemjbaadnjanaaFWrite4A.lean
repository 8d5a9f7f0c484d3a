/-
  The writer of package frame: all parts of a frame that is right: kinds 1, 2, 3, 4.
-/
import Derived.Test.YtfemjbaadnjanaaFWrite3
namespace Go.Proofs.Ytfemjbaadnjanaa
open Go.RowKit
set_option linter.unusedVariables false
set_option linter.unusedSimpArgs false

set_option maxRecDepth 20000 in
set_option maxHeartbeats 2000000 in
theorem frameW_1 (B : Nat) (w : World) (g : Nat) (st : St) (h : Wr B w g st) (F : PF) (a : Fa) (hin : FIn (fun b => b < B) w F a) (hk : F.kind = 1) (hf0 : 0 ≤ F.frm) (hf15 : F.frm ≤ 15) (ho : POk F) (fi : formV F.idN F.idP = true) (fc : formV F.curN F.curP = true) (fp : formV F.promN F.promP = true)
    (hs : ∀ d ∈ F.st, stOk d = true) (hsl : F.st.length ≤ 4096) (hi : ∀ d ∈ F.it, okF d.1 = true) :
    Calls Try.prog 20 #[.pointer (some ⟨g, 0, none⟩), .agg #[.int .u8 1, .int .i64 F.frm, .int .u64 (F.idN : Nat), .int .i64 F.idP, .int .u16 (F.set : Nat), .int .u64 (F.curN : Nat), .int .i64 F.curP, .int .u64 (F.promN : Nat), .int .i64 F.promP, .slice a.so F.st.length a.sc, .int .u64 (F.base : Nat), .slice a.mo F.ms.length a.mc, .slice a.io F.it.length a.ic, .int .u64 (F.ack : Nat), .int .u64 (F.safe : Nat)]] w fun e w' => e = .returned (.tuple #[]) ∧ Wr B w' g (layS st (wire F)) ∧ Below B w w' := by
  have HIN : Hid (FIn (fun b => b < B) w F a) := hin
  have HS : Hid (∀ d ∈ F.st, stOk d = true ∧ d.1 < 18446744073709551616) := fun d hd => ⟨hs d hd, (ho.st d hd).1⟩
  have HI : Hid (∀ d ∈ F.it, okF d.1 = true) := hi
  have HSL : Hid (F.st.length ≤ 4096) := hsl
  have HO : Hid (POk F) := ho
  have HFS : Hid (formV F.idN F.idP = true ∧ formV F.curN F.curP = true ∧ formV F.promN F.promP = true) := ⟨fi, fc, fp⟩
  have HL : Hid (layS (layS (layS st [UInt8.ofNat 1, pb F.frm]) (encV F.curN F.curP)) (encV F.promN F.promP) = layS st (wire F)) := by
    show _ = _
    repeat rw [layS_layS]
    unfold wire headV body
    rw [hk]
    simp [List.append_assoc]
  obtain ⟨wa, hwa⟩ : ∃ wa, w.alloc (.cells #[.int .u8 1, .int .i64 F.frm, .int .u64 (F.idN : Nat), .int .i64 F.idP, .int .u16 (F.set : Nat), .int .u64 (F.curN : Nat), .int .i64 F.curP, .int .u64 (F.promN : Nat), .int .i64 F.promP, .slice a.so F.st.length a.sc, .int .u64 (F.base : Nat), .slice a.mo F.ms.length a.mc, .slice a.io F.it.length a.ic, .int .u64 (F.ack : Nat), .int .u64 (F.safe : Nat)] 30) = wa := ⟨_, rfl⟩
  obtain ⟨wb, hwb⟩ : ∃ wb, wa.alloc (.cells #[.int .u8 1, .int .u8 F.frm] 5) = wb := ⟨_, rfl⟩
  have hua : Below w.heap.size w wb := by rw [← hwb, ← hwa]; exact bl2 _ _ _
  have hsa : wa.heap.size = w.heap.size + 1 := by rw [← hwa]; simp
  have hsb : wb.heap.size = w.heap.size + 2 := by rw [← hwb]; simp; omega
  have hgl := h.lt
  have hB := h.ge
  have hcb : ∀ (j : Nat) v, #[Value.int .u8 1, .int .u8 F.frm][j]? = some v → wb.cell? ⟨w.heap.size + 1, j, none⟩ = some v := fun j v hj => by
    rw [← hwb, ← hsa]
    exact cell_box wa _ 5 j v hj
  have hc0 : wb.heap[w.heap.size]? = some (.cells #[.int .u8 1, .int .i64 F.frm, .int .u64 (F.idN : Nat), .int .i64 F.idP, .int .u16 (F.set : Nat), .int .u64 (F.curN : Nat), .int .i64 F.curP, .int .u64 (F.promN : Nat), .int .i64 F.promP, .slice a.so F.st.length a.sc, .int .u64 (F.base : Nat), .slice a.mo F.ms.length a.mc, .slice a.io F.it.length a.ic, .int .u64 (F.ack : Nat), .int .u64 (F.safe : Nat)] 30 (0, 0)) := by
    rw [← hwb, Below.heap_alloc wa _ _ (by omega), ← hwa]
    exact heap_alloc_new _ _
  have hpb := pb_num F.frm hf0 hf15
  have hrx : Rx (fun b => b ≠ g) wb (some ⟨w.heap.size + 1, 0, none⟩) 2 2 [UInt8.ofNat 1, pb F.frm] := by
    refine ⟨⟨rfl, by omega, fun e => (by cases e), fun _ => ⟨_, _, rfl, by omega, fun j y hj => ?_⟩⟩, by omega, by omega, fun e => (by cases e)⟩
    have hj2 : j < 2 := (List.getElem?_eq_some_iff.1 hj).1
    rcases (show j = 0 ∨ j = 1 by omega) with rfl | rfl
    · simp at hj
      subst hj
      exact hcb 0 _ rfl
    · simp at hj
      subst hj
      rw [show Value.int IntKind.u8 ((pb F.frm).toNat : Int) = .int .u8 F.frm from hpb]
      exact hcb 1 _ rfl
  have hla := lay_any B wb g st (h.up hua) _ 2 2 _ hrx (by omega)
  have hfree0 : Free wb g w.heap.size := Free.new h hua (Nat.le_refl _) (by omega)
  have hbB0 : Below B w wb := hua.mono (by omega)
  have HIN0 : Hid (FIn (fun b => b < B) wb F a) := HIN.out.up hua
  have HWA : Hid (w.alloc (.cells #[.int .u8 1, .int .i64 F.frm, .int .u64 (F.idN : Nat), .int .i64 F.idP, .int .u16 (F.set : Nat), .int .u64 (F.curN : Nat), .int .i64 F.curP, .int .u64 (F.promN : Nat), .int .i64 F.promP, .slice a.so F.st.length a.sc, .int .u64 (F.base : Nat), .slice a.mo F.ms.length a.mc, .slice a.io F.it.length a.ic, .int .u64 (F.ack : Nat), .int .u64 (F.safe : Nat)] 30) = wa ∧ wa.alloc (.cells #[.int .u8 1, .int .u8 F.frm] 5) = wb) := ⟨hwa, hwb⟩
  clear hrx hcb hua h hwa hwb hsa hsb hpb hin hs hsl hi ho fi fc fp HIN
  go_enter Try.func20, Try.ntmps20
  go_wp2_with fail
  rw [HWA.out.1, HWA.out.2]
  refine hla.mono ?_
  rintro e w1 ⟨rfl, hw1, hb1, hfr1⟩
  have hc1 : w1.heap[w.heap.size]? = some (.cells #[.int .u8 1, .int .i64 F.frm, .int .u64 (F.idN : Nat), .int .i64 F.idP, .int .u16 (F.set : Nat), .int .u64 (F.curN : Nat), .int .i64 F.curP, .int .u64 (F.promN : Nat), .int .i64 F.promP, .slice a.so F.st.length a.sc, .int .u64 (F.base : Nat), .slice a.mo F.ms.length a.mc, .slice a.io F.it.length a.ic, .int .u64 (F.ack : Nat), .int .u64 (F.safe : Nat)] 30 (0, 0)) := (hfr1 _ hfree0).1.trans hc0
  have hfree1 := (hfr1 _ hfree0).2
  have hbB1 := hbB0.trans hb1
  have HIN1 : Hid (FIn (fun b => b < B) w1 F a) := HIN0.out.keep (Kp.below hb1 (fun b hb => hb))
  have HW1 : Hid _ := hw1
  have x1 : w1.cell? ⟨w.heap.size, 0, none⟩ = some (.int .u8 1) := by rw [cell_of_row w1 _ 0 _ 30 (0, 0) hc1]; rfl
  clear hla hw1 hb1 hfr1 hfree0 hc0 hbB0 HIN0 HWA
  have hs1 := view_any B w1 g _ HW1.out F.curN HO.out.curN F.curP HFS.out.2.1
  unfold vid at hs1
  have y1_5 : w1.cell? ⟨w.heap.size, 5, none⟩ = some (.int .u64 (F.curN : Nat)) := by rw [cell_of_row w1 _ 5 _ 30 (0, 0) hc1]; rfl
  have y1_6 : w1.cell? ⟨w.heap.size, 6, none⟩ = some (.int .i64 F.curP) := by rw [cell_of_row w1 _ 6 _ 30 (0, 0) hc1]; rfl
  have HC1 : Hid (w1.heap[w.heap.size]? = some (.cells #[.int .u8 1, .int .i64 F.frm, .int .u64 (F.idN : Nat), .int .i64 F.idP, .int .u16 (F.set : Nat), .int .u64 (F.curN : Nat), .int .i64 F.curP, .int .u64 (F.promN : Nat), .int .i64 F.promP, .slice a.so F.st.length a.sc, .int .u64 (F.base : Nat), .slice a.mo F.ms.length a.mc, .slice a.io F.it.length a.ic, .int .u64 (F.ack : Nat), .int .u64 (F.safe : Nat)] 30 (0, 0)) ∧ Free w1 g w.heap.size) := ⟨hc1, hfree1⟩
  clear hc1 hfree1
  go_wp2_with fail
  refine hs1.mono ?_
  rintro e w2 ⟨rfl, hw2, hb2, hfr2⟩
  have hc2 : w2.heap[w.heap.size]? = some (.cells #[.int .u8 1, .int .i64 F.frm, .int .u64 (F.idN : Nat), .int .i64 F.idP, .int .u16 (F.set : Nat), .int .u64 (F.curN : Nat), .int .i64 F.curP, .int .u64 (F.promN : Nat), .int .i64 F.promP, .slice a.so F.st.length a.sc, .int .u64 (F.base : Nat), .slice a.mo F.ms.length a.mc, .slice a.io F.it.length a.ic, .int .u64 (F.ack : Nat), .int .u64 (F.safe : Nat)] 30 (0, 0)) := (hfr2 _ HC1.out.2).1.trans HC1.out.1
  have hfree2 := (hfr2 _ HC1.out.2).2
  have hbB2 := hbB1.trans hb2
  have HIN2 : Hid (FIn (fun b => b < B) w2 F a) := HIN1.out.keep (Kp.below hb2 (fun b hb => hb))
  have HW2 : Hid _ := hw2
  have x2 : w2.cell? ⟨w.heap.size, 0, none⟩ = some (.int .u8 1) := by rw [cell_of_row w2 _ 0 _ 30 (0, 0) hc2]; rfl
  clear hs1 hw2 hb2 hfr2 hbB1 HC1 HW1 HIN1 x1 y1_5 y1_6
  have hs2 := view_any B w2 g _ HW2.out F.promN HO.out.promN F.promP HFS.out.2.2
  unfold vid at hs2
  have y2_7 : w2.cell? ⟨w.heap.size, 7, none⟩ = some (.int .u64 (F.promN : Nat)) := by rw [cell_of_row w2 _ 7 _ 30 (0, 0) hc2]; rfl
  have y2_8 : w2.cell? ⟨w.heap.size, 8, none⟩ = some (.int .i64 F.promP) := by rw [cell_of_row w2 _ 8 _ 30 (0, 0) hc2]; rfl
  rw [HL.out] at hs2
  have HC2 : Hid (w2.heap[w.heap.size]? = some (.cells #[.int .u8 1, .int .i64 F.frm, .int .u64 (F.idN : Nat), .int .i64 F.idP, .int .u16 (F.set : Nat), .int .u64 (F.curN : Nat), .int .i64 F.curP, .int .u64 (F.promN : Nat), .int .i64 F.promP, .slice a.so F.st.length a.sc, .int .u64 (F.base : Nat), .slice a.mo F.ms.length a.mc, .slice a.io F.it.length a.ic, .int .u64 (F.ack : Nat), .int .u64 (F.safe : Nat)] 30 (0, 0)) ∧ Free w2 g w.heap.size) := ⟨hc2, hfree2⟩
  clear hc2 hfree2
  go_wp2_with fail
  refine hs2.mono ?_
  rintro e w3 ⟨rfl, hw3, hb3, _⟩
  have hbB3 := hbB2.trans hb3
  clear hs2 hb3 hbB2 HC2 HW2 HIN2 x2 y2_7 y2_8
  go_wp2
  go_end0
  exact ⟨rfl, hw3, hbB3⟩

set_option maxRecDepth 20000 in
set_option maxHeartbeats 2000000 in
theorem frameW_2 (B : Nat) (w : World) (g : Nat) (st : St) (h : Wr B w g st) (F : PF) (a : Fa) (hin : FIn (fun b => b < B) w F a) (hk : F.kind = 2) (hf0 : 0 ≤ F.frm) (hf15 : F.frm ≤ 15) (ho : POk F) (fi : formV F.idN F.idP = true) (fc : formV F.curN F.curP = true) (fp : formV F.promN F.promP = true)
    (hs : ∀ d ∈ F.st, stOk d = true) (hsl : F.st.length ≤ 4096) (hi : ∀ d ∈ F.it, okF d.1 = true) :
    Calls Try.prog 20 #[.pointer (some ⟨g, 0, none⟩), .agg #[.int .u8 2, .int .i64 F.frm, .int .u64 (F.idN : Nat), .int .i64 F.idP, .int .u16 (F.set : Nat), .int .u64 (F.curN : Nat), .int .i64 F.curP, .int .u64 (F.promN : Nat), .int .i64 F.promP, .slice a.so F.st.length a.sc, .int .u64 (F.base : Nat), .slice a.mo F.ms.length a.mc, .slice a.io F.it.length a.ic, .int .u64 (F.ack : Nat), .int .u64 (F.safe : Nat)]] w fun e w' => e = .returned (.tuple #[]) ∧ Wr B w' g (layS st (wire F)) ∧ Below B w w' := by
  have HIN : Hid (FIn (fun b => b < B) w F a) := hin
  have HS : Hid (∀ d ∈ F.st, stOk d = true ∧ d.1 < 18446744073709551616) := fun d hd => ⟨hs d hd, (ho.st d hd).1⟩
  have HI : Hid (∀ d ∈ F.it, okF d.1 = true) := hi
  have HSL : Hid (F.st.length ≤ 4096) := hsl
  have HO : Hid (POk F) := ho
  have HFS : Hid (formV F.idN F.idP = true ∧ formV F.curN F.curP = true ∧ formV F.promN F.promP = true) := ⟨fi, fc, fp⟩
  have HL : Hid (layS (layS (layS st [UInt8.ofNat 2, pb F.frm]) (encV F.idN F.idP)) (Cd.enc F.set) = layS st (wire F)) := by
    show _ = _
    repeat rw [layS_layS]
    unfold wire headV body
    rw [hk]
    simp [List.append_assoc]
  obtain ⟨wa, hwa⟩ : ∃ wa, w.alloc (.cells #[.int .u8 2, .int .i64 F.frm, .int .u64 (F.idN : Nat), .int .i64 F.idP, .int .u16 (F.set : Nat), .int .u64 (F.curN : Nat), .int .i64 F.curP, .int .u64 (F.promN : Nat), .int .i64 F.promP, .slice a.so F.st.length a.sc, .int .u64 (F.base : Nat), .slice a.mo F.ms.length a.mc, .slice a.io F.it.length a.ic, .int .u64 (F.ack : Nat), .int .u64 (F.safe : Nat)] 30) = wa := ⟨_, rfl⟩
  obtain ⟨wb, hwb⟩ : ∃ wb, wa.alloc (.cells #[.int .u8 2, .int .u8 F.frm] 5) = wb := ⟨_, rfl⟩
  have hua : Below w.heap.size w wb := by rw [← hwb, ← hwa]; exact bl2 _ _ _
  have hsa : wa.heap.size = w.heap.size + 1 := by rw [← hwa]; simp
  have hsb : wb.heap.size = w.heap.size + 2 := by rw [← hwb]; simp; omega
  have hgl := h.lt
  have hB := h.ge
  have hcb : ∀ (j : Nat) v, #[Value.int .u8 2, .int .u8 F.frm][j]? = some v → wb.cell? ⟨w.heap.size + 1, j, none⟩ = some v := fun j v hj => by
    rw [← hwb, ← hsa]
    exact cell_box wa _ 5 j v hj
  have hc0 : wb.heap[w.heap.size]? = some (.cells #[.int .u8 2, .int .i64 F.frm, .int .u64 (F.idN : Nat), .int .i64 F.idP, .int .u16 (F.set : Nat), .int .u64 (F.curN : Nat), .int .i64 F.curP, .int .u64 (F.promN : Nat), .int .i64 F.promP, .slice a.so F.st.length a.sc, .int .u64 (F.base : Nat), .slice a.mo F.ms.length a.mc, .slice a.io F.it.length a.ic, .int .u64 (F.ack : Nat), .int .u64 (F.safe : Nat)] 30 (0, 0)) := by
    rw [← hwb, Below.heap_alloc wa _ _ (by omega), ← hwa]
    exact heap_alloc_new _ _
  have hpb := pb_num F.frm hf0 hf15
  have hrx : Rx (fun b => b ≠ g) wb (some ⟨w.heap.size + 1, 0, none⟩) 2 2 [UInt8.ofNat 2, pb F.frm] := by
    refine ⟨⟨rfl, by omega, fun e => (by cases e), fun _ => ⟨_, _, rfl, by omega, fun j y hj => ?_⟩⟩, by omega, by omega, fun e => (by cases e)⟩
    have hj2 : j < 2 := (List.getElem?_eq_some_iff.1 hj).1
    rcases (show j = 0 ∨ j = 1 by omega) with rfl | rfl
    · simp at hj
      subst hj
      exact hcb 0 _ rfl
    · simp at hj
      subst hj
      rw [show Value.int IntKind.u8 ((pb F.frm).toNat : Int) = .int .u8 F.frm from hpb]
      exact hcb 1 _ rfl
  have hla := lay_any B wb g st (h.up hua) _ 2 2 _ hrx (by omega)
  have hfree0 : Free wb g w.heap.size := Free.new h hua (Nat.le_refl _) (by omega)
  have hbB0 : Below B w wb := hua.mono (by omega)
  have HIN0 : Hid (FIn (fun b => b < B) wb F a) := HIN.out.up hua
  have HWA : Hid (w.alloc (.cells #[.int .u8 2, .int .i64 F.frm, .int .u64 (F.idN : Nat), .int .i64 F.idP, .int .u16 (F.set : Nat), .int .u64 (F.curN : Nat), .int .i64 F.curP, .int .u64 (F.promN : Nat), .int .i64 F.promP, .slice a.so F.st.length a.sc, .int .u64 (F.base : Nat), .slice a.mo F.ms.length a.mc, .slice a.io F.it.length a.ic, .int .u64 (F.ack : Nat), .int .u64 (F.safe : Nat)] 30) = wa ∧ wa.alloc (.cells #[.int .u8 2, .int .u8 F.frm] 5) = wb) := ⟨hwa, hwb⟩
  clear hrx hcb hua h hwa hwb hsa hsb hpb hin hs hsl hi ho fi fc fp HIN
  go_enter Try.func20, Try.ntmps20
  go_wp2_with fail
  rw [HWA.out.1, HWA.out.2]
  refine hla.mono ?_
  rintro e w1 ⟨rfl, hw1, hb1, hfr1⟩
  have hc1 : w1.heap[w.heap.size]? = some (.cells #[.int .u8 2, .int .i64 F.frm, .int .u64 (F.idN : Nat), .int .i64 F.idP, .int .u16 (F.set : Nat), .int .u64 (F.curN : Nat), .int .i64 F.curP, .int .u64 (F.promN : Nat), .int .i64 F.promP, .slice a.so F.st.length a.sc, .int .u64 (F.base : Nat), .slice a.mo F.ms.length a.mc, .slice a.io F.it.length a.ic, .int .u64 (F.ack : Nat), .int .u64 (F.safe : Nat)] 30 (0, 0)) := (hfr1 _ hfree0).1.trans hc0
  have hfree1 := (hfr1 _ hfree0).2
  have hbB1 := hbB0.trans hb1
  have HIN1 : Hid (FIn (fun b => b < B) w1 F a) := HIN0.out.keep (Kp.below hb1 (fun b hb => hb))
  have HW1 : Hid _ := hw1
  have x1 : w1.cell? ⟨w.heap.size, 0, none⟩ = some (.int .u8 2) := by rw [cell_of_row w1 _ 0 _ 30 (0, 0) hc1]; rfl
  clear hla hw1 hb1 hfr1 hfree0 hc0 hbB0 HIN0 HWA
  have hs1 := view_any B w1 g _ HW1.out F.idN HO.out.idN F.idP HFS.out.1
  unfold vid at hs1
  have y1_2 : w1.cell? ⟨w.heap.size, 2, none⟩ = some (.int .u64 (F.idN : Nat)) := by rw [cell_of_row w1 _ 2 _ 30 (0, 0) hc1]; rfl
  have y1_3 : w1.cell? ⟨w.heap.size, 3, none⟩ = some (.int .i64 F.idP) := by rw [cell_of_row w1 _ 3 _ 30 (0, 0) hc1]; rfl
  have HC1 : Hid (w1.heap[w.heap.size]? = some (.cells #[.int .u8 2, .int .i64 F.frm, .int .u64 (F.idN : Nat), .int .i64 F.idP, .int .u16 (F.set : Nat), .int .u64 (F.curN : Nat), .int .i64 F.curP, .int .u64 (F.promN : Nat), .int .i64 F.promP, .slice a.so F.st.length a.sc, .int .u64 (F.base : Nat), .slice a.mo F.ms.length a.mc, .slice a.io F.it.length a.ic, .int .u64 (F.ack : Nat), .int .u64 (F.safe : Nat)] 30 (0, 0)) ∧ Free w1 g w.heap.size) := ⟨hc1, hfree1⟩
  clear hc1 hfree1
  go_wp2_with fail
  refine hs1.mono ?_
  rintro e w2 ⟨rfl, hw2, hb2, hfr2⟩
  have hc2 : w2.heap[w.heap.size]? = some (.cells #[.int .u8 2, .int .i64 F.frm, .int .u64 (F.idN : Nat), .int .i64 F.idP, .int .u16 (F.set : Nat), .int .u64 (F.curN : Nat), .int .i64 F.curP, .int .u64 (F.promN : Nat), .int .i64 F.promP, .slice a.so F.st.length a.sc, .int .u64 (F.base : Nat), .slice a.mo F.ms.length a.mc, .slice a.io F.it.length a.ic, .int .u64 (F.ack : Nat), .int .u64 (F.safe : Nat)] 30 (0, 0)) := (hfr2 _ HC1.out.2).1.trans HC1.out.1
  have hfree2 := (hfr2 _ HC1.out.2).2
  have hbB2 := hbB1.trans hb2
  have HIN2 : Hid (FIn (fun b => b < B) w2 F a) := HIN1.out.keep (Kp.below hb2 (fun b hb => hb))
  have HW2 : Hid _ := hw2
  have x2 : w2.cell? ⟨w.heap.size, 0, none⟩ = some (.int .u8 2) := by rw [cell_of_row w2 _ 0 _ 30 (0, 0) hc2]; rfl
  clear hs1 hw2 hb2 hfr2 hbB1 HC1 HW1 HIN1 x1 y1_2 y1_3
  have hs2 := number_any' B w2 g _ HW2.out F.set (by have := HO.out.set; omega)
  have hn2 := HO.out.set
  have y2_4 : w2.cell? ⟨w.heap.size, 4, none⟩ = some (.int .u16 (F.set : Nat)) := by rw [cell_of_row w2 _ 4 _ 30 (0, 0) hc2]; rfl
  rw [HL.out] at hs2
  have HC2 : Hid (w2.heap[w.heap.size]? = some (.cells #[.int .u8 2, .int .i64 F.frm, .int .u64 (F.idN : Nat), .int .i64 F.idP, .int .u16 (F.set : Nat), .int .u64 (F.curN : Nat), .int .i64 F.curP, .int .u64 (F.promN : Nat), .int .i64 F.promP, .slice a.so F.st.length a.sc, .int .u64 (F.base : Nat), .slice a.mo F.ms.length a.mc, .slice a.io F.it.length a.ic, .int .u64 (F.ack : Nat), .int .u64 (F.safe : Nat)] 30 (0, 0)) ∧ Free w2 g w.heap.size) := ⟨hc2, hfree2⟩
  clear hc2 hfree2
  go_wp2_with fail
  refine hs2.mono ?_
  rintro e w3 ⟨rfl, hw3, hb3, _⟩
  have hbB3 := hbB2.trans hb3
  clear hs2 hb3 hbB2 HC2 HW2 HIN2 x2 y2_4
  go_wp2
  go_end0
  exact ⟨rfl, hw3, hbB3⟩

set_option maxRecDepth 20000 in
set_option maxHeartbeats 2000000 in
theorem frameW_3 (B : Nat) (w : World) (g : Nat) (st : St) (h : Wr B w g st) (F : PF) (a : Fa) (hin : FIn (fun b => b < B) w F a) (hk : F.kind = 3) (hf0 : 0 ≤ F.frm) (hf15 : F.frm ≤ 15) (ho : POk F) (fi : formV F.idN F.idP = true) (fc : formV F.curN F.curP = true) (fp : formV F.promN F.promP = true)
    (hs : ∀ d ∈ F.st, stOk d = true) (hsl : F.st.length ≤ 4096) (hi : ∀ d ∈ F.it, okF d.1 = true) :
    Calls Try.prog 20 #[.pointer (some ⟨g, 0, none⟩), .agg #[.int .u8 3, .int .i64 F.frm, .int .u64 (F.idN : Nat), .int .i64 F.idP, .int .u16 (F.set : Nat), .int .u64 (F.curN : Nat), .int .i64 F.curP, .int .u64 (F.promN : Nat), .int .i64 F.promP, .slice a.so F.st.length a.sc, .int .u64 (F.base : Nat), .slice a.mo F.ms.length a.mc, .slice a.io F.it.length a.ic, .int .u64 (F.ack : Nat), .int .u64 (F.safe : Nat)]] w fun e w' => e = .returned (.tuple #[]) ∧ Wr B w' g (layS st (wire F)) ∧ Below B w w' := by
  have HIN : Hid (FIn (fun b => b < B) w F a) := hin
  have HS : Hid (∀ d ∈ F.st, stOk d = true ∧ d.1 < 18446744073709551616) := fun d hd => ⟨hs d hd, (ho.st d hd).1⟩
  have HI : Hid (∀ d ∈ F.it, okF d.1 = true) := hi
  have HSL : Hid (F.st.length ≤ 4096) := hsl
  have HO : Hid (POk F) := ho
  have HFS : Hid (formV F.idN F.idP = true ∧ formV F.curN F.curP = true ∧ formV F.promN F.promP = true) := ⟨fi, fc, fp⟩
  have HL : Hid (layS (layS (layS st [UInt8.ofNat 3, pb F.frm]) (encV F.idN F.idP)) (encL encS F.st) = layS st (wire F)) := by
    show _ = _
    repeat rw [layS_layS]
    unfold wire headV body
    rw [hk]
    simp [List.append_assoc]
  obtain ⟨wa, hwa⟩ : ∃ wa, w.alloc (.cells #[.int .u8 3, .int .i64 F.frm, .int .u64 (F.idN : Nat), .int .i64 F.idP, .int .u16 (F.set : Nat), .int .u64 (F.curN : Nat), .int .i64 F.curP, .int .u64 (F.promN : Nat), .int .i64 F.promP, .slice a.so F.st.length a.sc, .int .u64 (F.base : Nat), .slice a.mo F.ms.length a.mc, .slice a.io F.it.length a.ic, .int .u64 (F.ack : Nat), .int .u64 (F.safe : Nat)] 30) = wa := ⟨_, rfl⟩
  obtain ⟨wb, hwb⟩ : ∃ wb, wa.alloc (.cells #[.int .u8 3, .int .u8 F.frm] 5) = wb := ⟨_, rfl⟩
  have hua : Below w.heap.size w wb := by rw [← hwb, ← hwa]; exact bl2 _ _ _
  have hsa : wa.heap.size = w.heap.size + 1 := by rw [← hwa]; simp
  have hsb : wb.heap.size = w.heap.size + 2 := by rw [← hwb]; simp; omega
  have hgl := h.lt
  have hB := h.ge
  have hcb : ∀ (j : Nat) v, #[Value.int .u8 3, .int .u8 F.frm][j]? = some v → wb.cell? ⟨w.heap.size + 1, j, none⟩ = some v := fun j v hj => by
    rw [← hwb, ← hsa]
    exact cell_box wa _ 5 j v hj
  have hc0 : wb.heap[w.heap.size]? = some (.cells #[.int .u8 3, .int .i64 F.frm, .int .u64 (F.idN : Nat), .int .i64 F.idP, .int .u16 (F.set : Nat), .int .u64 (F.curN : Nat), .int .i64 F.curP, .int .u64 (F.promN : Nat), .int .i64 F.promP, .slice a.so F.st.length a.sc, .int .u64 (F.base : Nat), .slice a.mo F.ms.length a.mc, .slice a.io F.it.length a.ic, .int .u64 (F.ack : Nat), .int .u64 (F.safe : Nat)] 30 (0, 0)) := by
    rw [← hwb, Below.heap_alloc wa _ _ (by omega), ← hwa]
    exact heap_alloc_new _ _
  have hpb := pb_num F.frm hf0 hf15
  have hrx : Rx (fun b => b ≠ g) wb (some ⟨w.heap.size + 1, 0, none⟩) 2 2 [UInt8.ofNat 3, pb F.frm] := by
    refine ⟨⟨rfl, by omega, fun e => (by cases e), fun _ => ⟨_, _, rfl, by omega, fun j y hj => ?_⟩⟩, by omega, by omega, fun e => (by cases e)⟩
    have hj2 : j < 2 := (List.getElem?_eq_some_iff.1 hj).1
    rcases (show j = 0 ∨ j = 1 by omega) with rfl | rfl
    · simp at hj
      subst hj
      exact hcb 0 _ rfl
    · simp at hj
      subst hj
      rw [show Value.int IntKind.u8 ((pb F.frm).toNat : Int) = .int .u8 F.frm from hpb]
      exact hcb 1 _ rfl
  have hla := lay_any B wb g st (h.up hua) _ 2 2 _ hrx (by omega)
  have hfree0 : Free wb g w.heap.size := Free.new h hua (Nat.le_refl _) (by omega)
  have hbB0 : Below B w wb := hua.mono (by omega)
  have HIN0 : Hid (FIn (fun b => b < B) wb F a) := HIN.out.up hua
  have HWA : Hid (w.alloc (.cells #[.int .u8 3, .int .i64 F.frm, .int .u64 (F.idN : Nat), .int .i64 F.idP, .int .u16 (F.set : Nat), .int .u64 (F.curN : Nat), .int .i64 F.curP, .int .u64 (F.promN : Nat), .int .i64 F.promP, .slice a.so F.st.length a.sc, .int .u64 (F.base : Nat), .slice a.mo F.ms.length a.mc, .slice a.io F.it.length a.ic, .int .u64 (F.ack : Nat), .int .u64 (F.safe : Nat)] 30) = wa ∧ wa.alloc (.cells #[.int .u8 3, .int .u8 F.frm] 5) = wb) := ⟨hwa, hwb⟩
  clear hrx hcb hua h hwa hwb hsa hsb hpb hin hs hsl hi ho fi fc fp HIN
  go_enter Try.func20, Try.ntmps20
  go_wp2_with fail
  rw [HWA.out.1, HWA.out.2]
  refine hla.mono ?_
  rintro e w1 ⟨rfl, hw1, hb1, hfr1⟩
  have hc1 : w1.heap[w.heap.size]? = some (.cells #[.int .u8 3, .int .i64 F.frm, .int .u64 (F.idN : Nat), .int .i64 F.idP, .int .u16 (F.set : Nat), .int .u64 (F.curN : Nat), .int .i64 F.curP, .int .u64 (F.promN : Nat), .int .i64 F.promP, .slice a.so F.st.length a.sc, .int .u64 (F.base : Nat), .slice a.mo F.ms.length a.mc, .slice a.io F.it.length a.ic, .int .u64 (F.ack : Nat), .int .u64 (F.safe : Nat)] 30 (0, 0)) := (hfr1 _ hfree0).1.trans hc0
  have hfree1 := (hfr1 _ hfree0).2
  have hbB1 := hbB0.trans hb1
  have HIN1 : Hid (FIn (fun b => b < B) w1 F a) := HIN0.out.keep (Kp.below hb1 (fun b hb => hb))
  have HW1 : Hid _ := hw1
  have x1 : w1.cell? ⟨w.heap.size, 0, none⟩ = some (.int .u8 3) := by rw [cell_of_row w1 _ 0 _ 30 (0, 0) hc1]; rfl
  clear hla hw1 hb1 hfr1 hfree0 hc0 hbB0 HIN0 HWA
  have hs1 := view_any B w1 g _ HW1.out F.idN HO.out.idN F.idP HFS.out.1
  unfold vid at hs1
  have y1_2 : w1.cell? ⟨w.heap.size, 2, none⟩ = some (.int .u64 (F.idN : Nat)) := by rw [cell_of_row w1 _ 2 _ 30 (0, 0) hc1]; rfl
  have y1_3 : w1.cell? ⟨w.heap.size, 3, none⟩ = some (.int .i64 F.idP) := by rw [cell_of_row w1 _ 3 _ 30 (0, 0) hc1]; rfl
  have HC1 : Hid (w1.heap[w.heap.size]? = some (.cells #[.int .u8 3, .int .i64 F.frm, .int .u64 (F.idN : Nat), .int .i64 F.idP, .int .u16 (F.set : Nat), .int .u64 (F.curN : Nat), .int .i64 F.curP, .int .u64 (F.promN : Nat), .int .i64 F.promP, .slice a.so F.st.length a.sc, .int .u64 (F.base : Nat), .slice a.mo F.ms.length a.mc, .slice a.io F.it.length a.ic, .int .u64 (F.ack : Nat), .int .u64 (F.safe : Nat)] 30 (0, 0)) ∧ Free w1 g w.heap.size) := ⟨hc1, hfree1⟩
  clear hc1 hfree1
  go_wp2_with fail
  refine hs1.mono ?_
  rintro e w2 ⟨rfl, hw2, hb2, hfr2⟩
  have hc2 : w2.heap[w.heap.size]? = some (.cells #[.int .u8 3, .int .i64 F.frm, .int .u64 (F.idN : Nat), .int .i64 F.idP, .int .u16 (F.set : Nat), .int .u64 (F.curN : Nat), .int .i64 F.curP, .int .u64 (F.promN : Nat), .int .i64 F.promP, .slice a.so F.st.length a.sc, .int .u64 (F.base : Nat), .slice a.mo F.ms.length a.mc, .slice a.io F.it.length a.ic, .int .u64 (F.ack : Nat), .int .u64 (F.safe : Nat)] 30 (0, 0)) := (hfr2 _ HC1.out.2).1.trans HC1.out.1
  have hfree2 := (hfr2 _ HC1.out.2).2
  have hbB2 := hbB1.trans hb2
  have HIN2 : Hid (FIn (fun b => b < B) w2 F a) := HIN1.out.keep (Kp.below hb2 (fun b hb => hb))
  have HW2 : Hid _ := hw2
  have x2 : w2.cell? ⟨w.heap.size, 0, none⟩ = some (.int .u8 3) := by rw [cell_of_row w2 _ 0 _ 30 (0, 0) hc2]; rfl
  clear hs1 hw2 hb2 hfr2 hbB1 HC1 HW1 HIN1 x1 y1_2 y1_3
  have hs2 := states_any B w2 g _ HW2.out a.so F.st.length a.sc F.st HIN2.out.st HS.out HSL.out
  have y2_9 : w2.cell? ⟨w.heap.size, 9, none⟩ = some (.slice a.so F.st.length a.sc) := by rw [cell_of_row w2 _ 9 _ 30 (0, 0) hc2]; rfl
  rw [HL.out] at hs2
  have HC2 : Hid (w2.heap[w.heap.size]? = some (.cells #[.int .u8 3, .int .i64 F.frm, .int .u64 (F.idN : Nat), .int .i64 F.idP, .int .u16 (F.set : Nat), .int .u64 (F.curN : Nat), .int .i64 F.curP, .int .u64 (F.promN : Nat), .int .i64 F.promP, .slice a.so F.st.length a.sc, .int .u64 (F.base : Nat), .slice a.mo F.ms.length a.mc, .slice a.io F.it.length a.ic, .int .u64 (F.ack : Nat), .int .u64 (F.safe : Nat)] 30 (0, 0)) ∧ Free w2 g w.heap.size) := ⟨hc2, hfree2⟩
  clear hc2 hfree2
  go_wp2_with fail
  refine hs2.mono ?_
  rintro e w3 ⟨rfl, hw3, hb3⟩
  have hbB3 := hbB2.trans hb3
  clear hs2 hb3 hbB2 HC2 HW2 HIN2 x2 y2_9
  go_wp2
  go_end0
  exact ⟨rfl, hw3, hbB3⟩

set_option maxRecDepth 20000 in
set_option maxHeartbeats 2000000 in
theorem frameW_4 (B : Nat) (w : World) (g : Nat) (st : St) (h : Wr B w g st) (F : PF) (a : Fa) (hin : FIn (fun b => b < B) w F a) (hk : F.kind = 4) (hf0 : 0 ≤ F.frm) (hf15 : F.frm ≤ 15) (ho : POk F) (fi : formV F.idN F.idP = true) (fc : formV F.curN F.curP = true) (fp : formV F.promN F.promP = true)
    (hs : ∀ d ∈ F.st, stOk d = true) (hsl : F.st.length ≤ 4096) (hi : ∀ d ∈ F.it, okF d.1 = true) :
    Calls Try.prog 20 #[.pointer (some ⟨g, 0, none⟩), .agg #[.int .u8 4, .int .i64 F.frm, .int .u64 (F.idN : Nat), .int .i64 F.idP, .int .u16 (F.set : Nat), .int .u64 (F.curN : Nat), .int .i64 F.curP, .int .u64 (F.promN : Nat), .int .i64 F.promP, .slice a.so F.st.length a.sc, .int .u64 (F.base : Nat), .slice a.mo F.ms.length a.mc, .slice a.io F.it.length a.ic, .int .u64 (F.ack : Nat), .int .u64 (F.safe : Nat)]] w fun e w' => e = .returned (.tuple #[]) ∧ Wr B w' g (layS st (wire F)) ∧ Below B w w' := by
  have HIN : Hid (FIn (fun b => b < B) w F a) := hin
  have HS : Hid (∀ d ∈ F.st, stOk d = true ∧ d.1 < 18446744073709551616) := fun d hd => ⟨hs d hd, (ho.st d hd).1⟩
  have HI : Hid (∀ d ∈ F.it, okF d.1 = true) := hi
  have HSL : Hid (F.st.length ≤ 4096) := hsl
  have HO : Hid (POk F) := ho
  have HFS : Hid (formV F.idN F.idP = true ∧ formV F.curN F.curP = true ∧ formV F.promN F.promP = true) := ⟨fi, fc, fp⟩
  have HL : Hid (layS (layS (layS st [UInt8.ofNat 4, pb F.frm]) (encV F.idN F.idP)) (encV F.promN F.promP) = layS st (wire F)) := by
    show _ = _
    repeat rw [layS_layS]
    unfold wire headV body
    rw [hk]
    simp [List.append_assoc]
  obtain ⟨wa, hwa⟩ : ∃ wa, w.alloc (.cells #[.int .u8 4, .int .i64 F.frm, .int .u64 (F.idN : Nat), .int .i64 F.idP, .int .u16 (F.set : Nat), .int .u64 (F.curN : Nat), .int .i64 F.curP, .int .u64 (F.promN : Nat), .int .i64 F.promP, .slice a.so F.st.length a.sc, .int .u64 (F.base : Nat), .slice a.mo F.ms.length a.mc, .slice a.io F.it.length a.ic, .int .u64 (F.ack : Nat), .int .u64 (F.safe : Nat)] 30) = wa := ⟨_, rfl⟩
  obtain ⟨wb, hwb⟩ : ∃ wb, wa.alloc (.cells #[.int .u8 4, .int .u8 F.frm] 5) = wb := ⟨_, rfl⟩
  have hua : Below w.heap.size w wb := by rw [← hwb, ← hwa]; exact bl2 _ _ _
  have hsa : wa.heap.size = w.heap.size + 1 := by rw [← hwa]; simp
  have hsb : wb.heap.size = w.heap.size + 2 := by rw [← hwb]; simp; omega
  have hgl := h.lt
  have hB := h.ge
  have hcb : ∀ (j : Nat) v, #[Value.int .u8 4, .int .u8 F.frm][j]? = some v → wb.cell? ⟨w.heap.size + 1, j, none⟩ = some v := fun j v hj => by
    rw [← hwb, ← hsa]
    exact cell_box wa _ 5 j v hj
  have hc0 : wb.heap[w.heap.size]? = some (.cells #[.int .u8 4, .int .i64 F.frm, .int .u64 (F.idN : Nat), .int .i64 F.idP, .int .u16 (F.set : Nat), .int .u64 (F.curN : Nat), .int .i64 F.curP, .int .u64 (F.promN : Nat), .int .i64 F.promP, .slice a.so F.st.length a.sc, .int .u64 (F.base : Nat), .slice a.mo F.ms.length a.mc, .slice a.io F.it.length a.ic, .int .u64 (F.ack : Nat), .int .u64 (F.safe : Nat)] 30 (0, 0)) := by
    rw [← hwb, Below.heap_alloc wa _ _ (by omega), ← hwa]
    exact heap_alloc_new _ _
  have hpb := pb_num F.frm hf0 hf15
  have hrx : Rx (fun b => b ≠ g) wb (some ⟨w.heap.size + 1, 0, none⟩) 2 2 [UInt8.ofNat 4, pb F.frm] := by
    refine ⟨⟨rfl, by omega, fun e => (by cases e), fun _ => ⟨_, _, rfl, by omega, fun j y hj => ?_⟩⟩, by omega, by omega, fun e => (by cases e)⟩
    have hj2 : j < 2 := (List.getElem?_eq_some_iff.1 hj).1
    rcases (show j = 0 ∨ j = 1 by omega) with rfl | rfl
    · simp at hj
      subst hj
      exact hcb 0 _ rfl
    · simp at hj
      subst hj
      rw [show Value.int IntKind.u8 ((pb F.frm).toNat : Int) = .int .u8 F.frm from hpb]
      exact hcb 1 _ rfl
  have hla := lay_any B wb g st (h.up hua) _ 2 2 _ hrx (by omega)
  have hfree0 : Free wb g w.heap.size := Free.new h hua (Nat.le_refl _) (by omega)
  have hbB0 : Below B w wb := hua.mono (by omega)
  have HIN0 : Hid (FIn (fun b => b < B) wb F a) := HIN.out.up hua
  have HWA : Hid (w.alloc (.cells #[.int .u8 4, .int .i64 F.frm, .int .u64 (F.idN : Nat), .int .i64 F.idP, .int .u16 (F.set : Nat), .int .u64 (F.curN : Nat), .int .i64 F.curP, .int .u64 (F.promN : Nat), .int .i64 F.promP, .slice a.so F.st.length a.sc, .int .u64 (F.base : Nat), .slice a.mo F.ms.length a.mc, .slice a.io F.it.length a.ic, .int .u64 (F.ack : Nat), .int .u64 (F.safe : Nat)] 30) = wa ∧ wa.alloc (.cells #[.int .u8 4, .int .u8 F.frm] 5) = wb) := ⟨hwa, hwb⟩
  clear hrx hcb hua h hwa hwb hsa hsb hpb hin hs hsl hi ho fi fc fp HIN
  go_enter Try.func20, Try.ntmps20
  go_wp2_with fail
  rw [HWA.out.1, HWA.out.2]
  refine hla.mono ?_
  rintro e w1 ⟨rfl, hw1, hb1, hfr1⟩
  have hc1 : w1.heap[w.heap.size]? = some (.cells #[.int .u8 4, .int .i64 F.frm, .int .u64 (F.idN : Nat), .int .i64 F.idP, .int .u16 (F.set : Nat), .int .u64 (F.curN : Nat), .int .i64 F.curP, .int .u64 (F.promN : Nat), .int .i64 F.promP, .slice a.so F.st.length a.sc, .int .u64 (F.base : Nat), .slice a.mo F.ms.length a.mc, .slice a.io F.it.length a.ic, .int .u64 (F.ack : Nat), .int .u64 (F.safe : Nat)] 30 (0, 0)) := (hfr1 _ hfree0).1.trans hc0
  have hfree1 := (hfr1 _ hfree0).2
  have hbB1 := hbB0.trans hb1
  have HIN1 : Hid (FIn (fun b => b < B) w1 F a) := HIN0.out.keep (Kp.below hb1 (fun b hb => hb))
  have HW1 : Hid _ := hw1
  have x1 : w1.cell? ⟨w.heap.size, 0, none⟩ = some (.int .u8 4) := by rw [cell_of_row w1 _ 0 _ 30 (0, 0) hc1]; rfl
  clear hla hw1 hb1 hfr1 hfree0 hc0 hbB0 HIN0 HWA
  have hs1 := view_any B w1 g _ HW1.out F.idN HO.out.idN F.idP HFS.out.1
  unfold vid at hs1
  have y1_2 : w1.cell? ⟨w.heap.size, 2, none⟩ = some (.int .u64 (F.idN : Nat)) := by rw [cell_of_row w1 _ 2 _ 30 (0, 0) hc1]; rfl
  have y1_3 : w1.cell? ⟨w.heap.size, 3, none⟩ = some (.int .i64 F.idP) := by rw [cell_of_row w1 _ 3 _ 30 (0, 0) hc1]; rfl
  have HC1 : Hid (w1.heap[w.heap.size]? = some (.cells #[.int .u8 4, .int .i64 F.frm, .int .u64 (F.idN : Nat), .int .i64 F.idP, .int .u16 (F.set : Nat), .int .u64 (F.curN : Nat), .int .i64 F.curP, .int .u64 (F.promN : Nat), .int .i64 F.promP, .slice a.so F.st.length a.sc, .int .u64 (F.base : Nat), .slice a.mo F.ms.length a.mc, .slice a.io F.it.length a.ic, .int .u64 (F.ack : Nat), .int .u64 (F.safe : Nat)] 30 (0, 0)) ∧ Free w1 g w.heap.size) := ⟨hc1, hfree1⟩
  clear hc1 hfree1
  go_wp2_with fail
  refine hs1.mono ?_
  rintro e w2 ⟨rfl, hw2, hb2, hfr2⟩
  have hc2 : w2.heap[w.heap.size]? = some (.cells #[.int .u8 4, .int .i64 F.frm, .int .u64 (F.idN : Nat), .int .i64 F.idP, .int .u16 (F.set : Nat), .int .u64 (F.curN : Nat), .int .i64 F.curP, .int .u64 (F.promN : Nat), .int .i64 F.promP, .slice a.so F.st.length a.sc, .int .u64 (F.base : Nat), .slice a.mo F.ms.length a.mc, .slice a.io F.it.length a.ic, .int .u64 (F.ack : Nat), .int .u64 (F.safe : Nat)] 30 (0, 0)) := (hfr2 _ HC1.out.2).1.trans HC1.out.1
  have hfree2 := (hfr2 _ HC1.out.2).2
  have hbB2 := hbB1.trans hb2
  have HIN2 : Hid (FIn (fun b => b < B) w2 F a) := HIN1.out.keep (Kp.below hb2 (fun b hb => hb))
  have HW2 : Hid _ := hw2
  have x2 : w2.cell? ⟨w.heap.size, 0, none⟩ = some (.int .u8 4) := by rw [cell_of_row w2 _ 0 _ 30 (0, 0) hc2]; rfl
  clear hs1 hw2 hb2 hfr2 hbB1 HC1 HW1 HIN1 x1 y1_2 y1_3
  have hs2 := view_any B w2 g _ HW2.out F.promN HO.out.promN F.promP HFS.out.2.2
  unfold vid at hs2
  have y2_7 : w2.cell? ⟨w.heap.size, 7, none⟩ = some (.int .u64 (F.promN : Nat)) := by rw [cell_of_row w2 _ 7 _ 30 (0, 0) hc2]; rfl
  have y2_8 : w2.cell? ⟨w.heap.size, 8, none⟩ = some (.int .i64 F.promP) := by rw [cell_of_row w2 _ 8 _ 30 (0, 0) hc2]; rfl
  rw [HL.out] at hs2
  have HC2 : Hid (w2.heap[w.heap.size]? = some (.cells #[.int .u8 4, .int .i64 F.frm, .int .u64 (F.idN : Nat), .int .i64 F.idP, .int .u16 (F.set : Nat), .int .u64 (F.curN : Nat), .int .i64 F.curP, .int .u64 (F.promN : Nat), .int .i64 F.promP, .slice a.so F.st.length a.sc, .int .u64 (F.base : Nat), .slice a.mo F.ms.length a.mc, .slice a.io F.it.length a.ic, .int .u64 (F.ack : Nat), .int .u64 (F.safe : Nat)] 30 (0, 0)) ∧ Free w2 g w.heap.size) := ⟨hc2, hfree2⟩
  clear hc2 hfree2
  go_wp2_with fail
  refine hs2.mono ?_
  rintro e w3 ⟨rfl, hw3, hb3, _⟩
  have hbB3 := hbB2.trans hb3
  clear hs2 hb3 hbB2 HC2 HW2 HIN2 x2 y2_7 y2_8
  go_wp2
  go_end0
  exact ⟨rfl, hw3, hbB3⟩
end Go.Proofs.Ytfemjbaadnjanaa
