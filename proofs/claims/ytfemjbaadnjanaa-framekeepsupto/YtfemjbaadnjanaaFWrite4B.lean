/-
  The writer of package frame: all parts of a frame that is right: kinds 5, 6, 7.
-/
import Derived.Test.YtfemjbaadnjanaaFWrite3
namespace Go.Proofs.Ytfemjbaadnjanaa
open Go.RowKit
set_option linter.unusedVariables false
set_option linter.unusedSimpArgs false

set_option maxRecDepth 20000 in
set_option maxHeartbeats 2000000 in
theorem frameW_5 (B : Nat) (w : World) (g : Nat) (st : St) (h : Wr B w g st) (F : PF) (a : Fa) (hin : FIn (fun b => b < B) w F a) (hk : F.kind = 5) (hf0 : 0 ≤ F.frm) (hf15 : F.frm ≤ 15) (ho : POk F) (fi : formV F.idN F.idP = true) (fc : formV F.curN F.curP = true) (fp : formV F.promN F.promP = true)
    (hs : ∀ d ∈ F.st, stOk d = true) (hsl : F.st.length ≤ 4096) (hi : ∀ d ∈ F.it, okF d.1 = true) :
    Calls Try.prog 20 #[.pointer (some ⟨g, 0, none⟩), .agg #[.int .u8 5, .int .i64 F.frm, .int .u64 (F.idN : Nat), .int .i64 F.idP, .int .u16 (F.set : Nat), .int .u64 (F.curN : Nat), .int .i64 F.curP, .int .u64 (F.promN : Nat), .int .i64 F.promP, .slice a.so F.st.length a.sc, .int .u64 (F.base : Nat), .slice a.mo F.ms.length a.mc, .slice a.io F.it.length a.ic, .int .u64 (F.ack : Nat), .int .u64 (F.safe : Nat)]] w fun e w' => e = .returned (.tuple #[]) ∧ Wr B w' g (layS st (wire F)) ∧ Below B w w' := by
  have HIN : Hid (FIn (fun b => b < B) w F a) := hin
  have HS : Hid (∀ d ∈ F.st, stOk d = true ∧ d.1 < 18446744073709551616) := fun d hd => ⟨hs d hd, (ho.st d hd).1⟩
  have HI : Hid (∀ d ∈ F.it, okF d.1 = true) := hi
  have HSL : Hid (F.st.length ≤ 4096) := hsl
  have HO : Hid (POk F) := ho
  have HFS : Hid (formV F.idN F.idP = true ∧ formV F.curN F.curP = true ∧ formV F.promN F.promP = true) := ⟨fi, fc, fp⟩
  have HL : Hid (layS (layS (layS (layS st [UInt8.ofNat 5, pb F.frm]) (encV F.idN F.idP)) (Cd.enc F.set)) (encL encS F.st) = layS st (wire F)) := by
    show _ = _
    repeat rw [layS_layS]
    unfold wire headV body
    rw [hk]
    simp [List.append_assoc]
  obtain ⟨wa, hwa⟩ : ∃ wa, w.alloc (.cells #[.int .u8 5, .int .i64 F.frm, .int .u64 (F.idN : Nat), .int .i64 F.idP, .int .u16 (F.set : Nat), .int .u64 (F.curN : Nat), .int .i64 F.curP, .int .u64 (F.promN : Nat), .int .i64 F.promP, .slice a.so F.st.length a.sc, .int .u64 (F.base : Nat), .slice a.mo F.ms.length a.mc, .slice a.io F.it.length a.ic, .int .u64 (F.ack : Nat), .int .u64 (F.safe : Nat)] 30) = wa := ⟨_, rfl⟩
  obtain ⟨wb, hwb⟩ : ∃ wb, wa.alloc (.cells #[.int .u8 5, .int .u8 F.frm] 5) = wb := ⟨_, rfl⟩
  have hua : Below w.heap.size w wb := by rw [← hwb, ← hwa]; exact bl2 _ _ _
  have hsa : wa.heap.size = w.heap.size + 1 := by rw [← hwa]; simp
  have hsb : wb.heap.size = w.heap.size + 2 := by rw [← hwb]; simp; omega
  have hgl := h.lt
  have hB := h.ge
  have hcb : ∀ (j : Nat) v, #[Value.int .u8 5, .int .u8 F.frm][j]? = some v → wb.cell? ⟨w.heap.size + 1, j, none⟩ = some v := fun j v hj => by
    rw [← hwb, ← hsa]
    exact cell_box wa _ 5 j v hj
  have hc0 : wb.heap[w.heap.size]? = some (.cells #[.int .u8 5, .int .i64 F.frm, .int .u64 (F.idN : Nat), .int .i64 F.idP, .int .u16 (F.set : Nat), .int .u64 (F.curN : Nat), .int .i64 F.curP, .int .u64 (F.promN : Nat), .int .i64 F.promP, .slice a.so F.st.length a.sc, .int .u64 (F.base : Nat), .slice a.mo F.ms.length a.mc, .slice a.io F.it.length a.ic, .int .u64 (F.ack : Nat), .int .u64 (F.safe : Nat)] 30 (0, 0)) := by
    rw [← hwb, Below.heap_alloc wa _ _ (by omega), ← hwa]
    exact heap_alloc_new _ _
  have hpb := pb_num F.frm hf0 hf15
  have hrx : Rx (fun b => b ≠ g) wb (some ⟨w.heap.size + 1, 0, none⟩) 2 2 [UInt8.ofNat 5, pb F.frm] := by
    refine ⟨⟨rfl, by omega, fun e => (by cases e), fun _ => ⟨_, _, rfl, by omega, fun j y hj => ?_⟩⟩, by omega, by omega, fun e => (by cases e)⟩
    have hj2 : j < 2 := (List.getElem?_eq_some_iff.1 hj).1
    rcases (show j = 0 ∨ j = 1 by omega) with rfl | rfl
    · simp at hj
      subst hj
      exact hcb 0 _ rfl
    · simp at hj
      subst hj
      rw [show Value.int IntKind.u8 ((pb F.frm).toNat : Int) = .int .u8 F.frm from hpb]
      exact hcb 1 _ rfl
  have hla := lay_any B wb g st (h.up hua) _ 2 2 _ hrx (by omega)
  have hfree0 : Free wb g w.heap.size := Free.new h hua (Nat.le_refl _) (by omega)
  have hbB0 : Below B w wb := hua.mono (by omega)
  have HIN0 : Hid (FIn (fun b => b < B) wb F a) := HIN.out.up hua
  have HWA : Hid (w.alloc (.cells #[.int .u8 5, .int .i64 F.frm, .int .u64 (F.idN : Nat), .int .i64 F.idP, .int .u16 (F.set : Nat), .int .u64 (F.curN : Nat), .int .i64 F.curP, .int .u64 (F.promN : Nat), .int .i64 F.promP, .slice a.so F.st.length a.sc, .int .u64 (F.base : Nat), .slice a.mo F.ms.length a.mc, .slice a.io F.it.length a.ic, .int .u64 (F.ack : Nat), .int .u64 (F.safe : Nat)] 30) = wa ∧ wa.alloc (.cells #[.int .u8 5, .int .u8 F.frm] 5) = wb) := ⟨hwa, hwb⟩
  clear hrx hcb hua h hwa hwb hsa hsb hpb hin hs hsl hi ho fi fc fp HIN
  go_enter Try.func20, Try.ntmps20
  go_wp2_with fail
  rw [HWA.out.1, HWA.out.2]
  refine hla.mono ?_
  rintro e w1 ⟨rfl, hw1, hb1, hfr1⟩
  have hc1 : w1.heap[w.heap.size]? = some (.cells #[.int .u8 5, .int .i64 F.frm, .int .u64 (F.idN : Nat), .int .i64 F.idP, .int .u16 (F.set : Nat), .int .u64 (F.curN : Nat), .int .i64 F.curP, .int .u64 (F.promN : Nat), .int .i64 F.promP, .slice a.so F.st.length a.sc, .int .u64 (F.base : Nat), .slice a.mo F.ms.length a.mc, .slice a.io F.it.length a.ic, .int .u64 (F.ack : Nat), .int .u64 (F.safe : Nat)] 30 (0, 0)) := (hfr1 _ hfree0).1.trans hc0
  have hfree1 := (hfr1 _ hfree0).2
  have hbB1 := hbB0.trans hb1
  have HIN1 : Hid (FIn (fun b => b < B) w1 F a) := HIN0.out.keep (Kp.below hb1 (fun b hb => hb))
  have HW1 : Hid _ := hw1
  have x1 : w1.cell? ⟨w.heap.size, 0, none⟩ = some (.int .u8 5) := by rw [cell_of_row w1 _ 0 _ 30 (0, 0) hc1]; rfl
  clear hla hw1 hb1 hfr1 hfree0 hc0 hbB0 HIN0 HWA
  have hs1 := view_any B w1 g _ HW1.out F.idN HO.out.idN F.idP HFS.out.1
  unfold vid at hs1
  have y1_2 : w1.cell? ⟨w.heap.size, 2, none⟩ = some (.int .u64 (F.idN : Nat)) := by rw [cell_of_row w1 _ 2 _ 30 (0, 0) hc1]; rfl
  have y1_3 : w1.cell? ⟨w.heap.size, 3, none⟩ = some (.int .i64 F.idP) := by rw [cell_of_row w1 _ 3 _ 30 (0, 0) hc1]; rfl
  have HC1 : Hid (w1.heap[w.heap.size]? = some (.cells #[.int .u8 5, .int .i64 F.frm, .int .u64 (F.idN : Nat), .int .i64 F.idP, .int .u16 (F.set : Nat), .int .u64 (F.curN : Nat), .int .i64 F.curP, .int .u64 (F.promN : Nat), .int .i64 F.promP, .slice a.so F.st.length a.sc, .int .u64 (F.base : Nat), .slice a.mo F.ms.length a.mc, .slice a.io F.it.length a.ic, .int .u64 (F.ack : Nat), .int .u64 (F.safe : Nat)] 30 (0, 0)) ∧ Free w1 g w.heap.size) := ⟨hc1, hfree1⟩
  clear hc1 hfree1
  go_wp2_with fail
  refine hs1.mono ?_
  rintro e w2 ⟨rfl, hw2, hb2, hfr2⟩
  have hc2 : w2.heap[w.heap.size]? = some (.cells #[.int .u8 5, .int .i64 F.frm, .int .u64 (F.idN : Nat), .int .i64 F.idP, .int .u16 (F.set : Nat), .int .u64 (F.curN : Nat), .int .i64 F.curP, .int .u64 (F.promN : Nat), .int .i64 F.promP, .slice a.so F.st.length a.sc, .int .u64 (F.base : Nat), .slice a.mo F.ms.length a.mc, .slice a.io F.it.length a.ic, .int .u64 (F.ack : Nat), .int .u64 (F.safe : Nat)] 30 (0, 0)) := (hfr2 _ HC1.out.2).1.trans HC1.out.1
  have hfree2 := (hfr2 _ HC1.out.2).2
  have hbB2 := hbB1.trans hb2
  have HIN2 : Hid (FIn (fun b => b < B) w2 F a) := HIN1.out.keep (Kp.below hb2 (fun b hb => hb))
  have HW2 : Hid _ := hw2
  have x2 : w2.cell? ⟨w.heap.size, 0, none⟩ = some (.int .u8 5) := by rw [cell_of_row w2 _ 0 _ 30 (0, 0) hc2]; rfl
  clear hs1 hw2 hb2 hfr2 hbB1 HC1 HW1 HIN1 x1 y1_2 y1_3
  have hs2 := number_any' B w2 g _ HW2.out F.set (by have := HO.out.set; omega)
  have hn2 := HO.out.set
  have y2_4 : w2.cell? ⟨w.heap.size, 4, none⟩ = some (.int .u16 (F.set : Nat)) := by rw [cell_of_row w2 _ 4 _ 30 (0, 0) hc2]; rfl
  have HC2 : Hid (w2.heap[w.heap.size]? = some (.cells #[.int .u8 5, .int .i64 F.frm, .int .u64 (F.idN : Nat), .int .i64 F.idP, .int .u16 (F.set : Nat), .int .u64 (F.curN : Nat), .int .i64 F.curP, .int .u64 (F.promN : Nat), .int .i64 F.promP, .slice a.so F.st.length a.sc, .int .u64 (F.base : Nat), .slice a.mo F.ms.length a.mc, .slice a.io F.it.length a.ic, .int .u64 (F.ack : Nat), .int .u64 (F.safe : Nat)] 30 (0, 0)) ∧ Free w2 g w.heap.size) := ⟨hc2, hfree2⟩
  clear hc2 hfree2
  go_wp2_with fail
  refine hs2.mono ?_
  rintro e w3 ⟨rfl, hw3, hb3, hfr3⟩
  have hc3 : w3.heap[w.heap.size]? = some (.cells #[.int .u8 5, .int .i64 F.frm, .int .u64 (F.idN : Nat), .int .i64 F.idP, .int .u16 (F.set : Nat), .int .u64 (F.curN : Nat), .int .i64 F.curP, .int .u64 (F.promN : Nat), .int .i64 F.promP, .slice a.so F.st.length a.sc, .int .u64 (F.base : Nat), .slice a.mo F.ms.length a.mc, .slice a.io F.it.length a.ic, .int .u64 (F.ack : Nat), .int .u64 (F.safe : Nat)] 30 (0, 0)) := (hfr3 _ HC2.out.2).1.trans HC2.out.1
  have hfree3 := (hfr3 _ HC2.out.2).2
  have hbB3 := hbB2.trans hb3
  have HIN3 : Hid (FIn (fun b => b < B) w3 F a) := HIN2.out.keep (Kp.below hb3 (fun b hb => hb))
  have HW3 : Hid _ := hw3
  have x3 : w3.cell? ⟨w.heap.size, 0, none⟩ = some (.int .u8 5) := by rw [cell_of_row w3 _ 0 _ 30 (0, 0) hc3]; rfl
  clear hs2 hw3 hb3 hfr3 hbB2 HC2 HW2 HIN2 x2 y2_4
  have hs3 := states_any B w3 g _ HW3.out a.so F.st.length a.sc F.st HIN3.out.st HS.out HSL.out
  have y3_9 : w3.cell? ⟨w.heap.size, 9, none⟩ = some (.slice a.so F.st.length a.sc) := by rw [cell_of_row w3 _ 9 _ 30 (0, 0) hc3]; rfl
  rw [HL.out] at hs3
  have HC3 : Hid (w3.heap[w.heap.size]? = some (.cells #[.int .u8 5, .int .i64 F.frm, .int .u64 (F.idN : Nat), .int .i64 F.idP, .int .u16 (F.set : Nat), .int .u64 (F.curN : Nat), .int .i64 F.curP, .int .u64 (F.promN : Nat), .int .i64 F.promP, .slice a.so F.st.length a.sc, .int .u64 (F.base : Nat), .slice a.mo F.ms.length a.mc, .slice a.io F.it.length a.ic, .int .u64 (F.ack : Nat), .int .u64 (F.safe : Nat)] 30 (0, 0)) ∧ Free w3 g w.heap.size) := ⟨hc3, hfree3⟩
  clear hc3 hfree3
  go_wp2_with fail
  refine hs3.mono ?_
  rintro e w4 ⟨rfl, hw4, hb4⟩
  have hbB4 := hbB3.trans hb4
  clear hs3 hb4 hbB3 HC3 HW3 HIN3 x3 y3_9
  go_wp2
  go_end0
  exact ⟨rfl, hw4, hbB4⟩

set_option maxRecDepth 20000 in
set_option maxHeartbeats 2000000 in
theorem frameW_6 (B : Nat) (w : World) (g : Nat) (st : St) (h : Wr B w g st) (F : PF) (a : Fa) (hin : FIn (fun b => b < B) w F a) (hk : F.kind = 6) (hf0 : 0 ≤ F.frm) (hf15 : F.frm ≤ 15) (ho : POk F) (fi : formV F.idN F.idP = true) (fc : formV F.curN F.curP = true) (fp : formV F.promN F.promP = true)
    (hs : ∀ d ∈ F.st, stOk d = true) (hsl : F.st.length ≤ 4096) (hi : ∀ d ∈ F.it, okF d.1 = true) :
    Calls Try.prog 20 #[.pointer (some ⟨g, 0, none⟩), .agg #[.int .u8 6, .int .i64 F.frm, .int .u64 (F.idN : Nat), .int .i64 F.idP, .int .u16 (F.set : Nat), .int .u64 (F.curN : Nat), .int .i64 F.curP, .int .u64 (F.promN : Nat), .int .i64 F.promP, .slice a.so F.st.length a.sc, .int .u64 (F.base : Nat), .slice a.mo F.ms.length a.mc, .slice a.io F.it.length a.ic, .int .u64 (F.ack : Nat), .int .u64 (F.safe : Nat)]] w fun e w' => e = .returned (.tuple #[]) ∧ Wr B w' g (layS st (wire F)) ∧ Below B w w' := by
  have HIN : Hid (FIn (fun b => b < B) w F a) := hin
  have HS : Hid (∀ d ∈ F.st, stOk d = true ∧ d.1 < 18446744073709551616) := fun d hd => ⟨hs d hd, (ho.st d hd).1⟩
  have HI : Hid (∀ d ∈ F.it, okF d.1 = true) := hi
  have HSL : Hid (F.st.length ≤ 4096) := hsl
  have HO : Hid (POk F) := ho
  have HFS : Hid (formV F.idN F.idP = true ∧ formV F.curN F.curP = true ∧ formV F.promN F.promP = true) := ⟨fi, fc, fp⟩
  have HL : Hid (layS (layS (layS (layS (layS st [UInt8.ofNat 6, pb F.frm]) (encV F.idN F.idP)) (Cd.enc F.base)) (Cd.enc F.ack)) (encL encM F.ms) = layS st (wire F)) := by
    show _ = _
    repeat rw [layS_layS]
    unfold wire headV body
    rw [hk]
    simp [List.append_assoc]
  obtain ⟨wa, hwa⟩ : ∃ wa, w.alloc (.cells #[.int .u8 6, .int .i64 F.frm, .int .u64 (F.idN : Nat), .int .i64 F.idP, .int .u16 (F.set : Nat), .int .u64 (F.curN : Nat), .int .i64 F.curP, .int .u64 (F.promN : Nat), .int .i64 F.promP, .slice a.so F.st.length a.sc, .int .u64 (F.base : Nat), .slice a.mo F.ms.length a.mc, .slice a.io F.it.length a.ic, .int .u64 (F.ack : Nat), .int .u64 (F.safe : Nat)] 30) = wa := ⟨_, rfl⟩
  obtain ⟨wb, hwb⟩ : ∃ wb, wa.alloc (.cells #[.int .u8 6, .int .u8 F.frm] 5) = wb := ⟨_, rfl⟩
  have hua : Below w.heap.size w wb := by rw [← hwb, ← hwa]; exact bl2 _ _ _
  have hsa : wa.heap.size = w.heap.size + 1 := by rw [← hwa]; simp
  have hsb : wb.heap.size = w.heap.size + 2 := by rw [← hwb]; simp; omega
  have hgl := h.lt
  have hB := h.ge
  have hcb : ∀ (j : Nat) v, #[Value.int .u8 6, .int .u8 F.frm][j]? = some v → wb.cell? ⟨w.heap.size + 1, j, none⟩ = some v := fun j v hj => by
    rw [← hwb, ← hsa]
    exact cell_box wa _ 5 j v hj
  have hc0 : wb.heap[w.heap.size]? = some (.cells #[.int .u8 6, .int .i64 F.frm, .int .u64 (F.idN : Nat), .int .i64 F.idP, .int .u16 (F.set : Nat), .int .u64 (F.curN : Nat), .int .i64 F.curP, .int .u64 (F.promN : Nat), .int .i64 F.promP, .slice a.so F.st.length a.sc, .int .u64 (F.base : Nat), .slice a.mo F.ms.length a.mc, .slice a.io F.it.length a.ic, .int .u64 (F.ack : Nat), .int .u64 (F.safe : Nat)] 30 (0, 0)) := by
    rw [← hwb, Below.heap_alloc wa _ _ (by omega), ← hwa]
    exact heap_alloc_new _ _
  have hpb := pb_num F.frm hf0 hf15
  have hrx : Rx (fun b => b ≠ g) wb (some ⟨w.heap.size + 1, 0, none⟩) 2 2 [UInt8.ofNat 6, pb F.frm] := by
    refine ⟨⟨rfl, by omega, fun e => (by cases e), fun _ => ⟨_, _, rfl, by omega, fun j y hj => ?_⟩⟩, by omega, by omega, fun e => (by cases e)⟩
    have hj2 : j < 2 := (List.getElem?_eq_some_iff.1 hj).1
    rcases (show j = 0 ∨ j = 1 by omega) with rfl | rfl
    · simp at hj
      subst hj
      exact hcb 0 _ rfl
    · simp at hj
      subst hj
      rw [show Value.int IntKind.u8 ((pb F.frm).toNat : Int) = .int .u8 F.frm from hpb]
      exact hcb 1 _ rfl
  have hla := lay_any B wb g st (h.up hua) _ 2 2 _ hrx (by omega)
  have hfree0 : Free wb g w.heap.size := Free.new h hua (Nat.le_refl _) (by omega)
  have hbB0 : Below B w wb := hua.mono (by omega)
  have HIN0 : Hid (FIn (fun b => b < B) wb F a) := HIN.out.up hua
  have HWA : Hid (w.alloc (.cells #[.int .u8 6, .int .i64 F.frm, .int .u64 (F.idN : Nat), .int .i64 F.idP, .int .u16 (F.set : Nat), .int .u64 (F.curN : Nat), .int .i64 F.curP, .int .u64 (F.promN : Nat), .int .i64 F.promP, .slice a.so F.st.length a.sc, .int .u64 (F.base : Nat), .slice a.mo F.ms.length a.mc, .slice a.io F.it.length a.ic, .int .u64 (F.ack : Nat), .int .u64 (F.safe : Nat)] 30) = wa ∧ wa.alloc (.cells #[.int .u8 6, .int .u8 F.frm] 5) = wb) := ⟨hwa, hwb⟩
  clear hrx hcb hua h hwa hwb hsa hsb hpb hin hs hsl hi ho fi fc fp HIN
  go_enter Try.func20, Try.ntmps20
  go_wp2_with fail
  rw [HWA.out.1, HWA.out.2]
  refine hla.mono ?_
  rintro e w1 ⟨rfl, hw1, hb1, hfr1⟩
  have hc1 : w1.heap[w.heap.size]? = some (.cells #[.int .u8 6, .int .i64 F.frm, .int .u64 (F.idN : Nat), .int .i64 F.idP, .int .u16 (F.set : Nat), .int .u64 (F.curN : Nat), .int .i64 F.curP, .int .u64 (F.promN : Nat), .int .i64 F.promP, .slice a.so F.st.length a.sc, .int .u64 (F.base : Nat), .slice a.mo F.ms.length a.mc, .slice a.io F.it.length a.ic, .int .u64 (F.ack : Nat), .int .u64 (F.safe : Nat)] 30 (0, 0)) := (hfr1 _ hfree0).1.trans hc0
  have hfree1 := (hfr1 _ hfree0).2
  have hbB1 := hbB0.trans hb1
  have HIN1 : Hid (FIn (fun b => b < B) w1 F a) := HIN0.out.keep (Kp.below hb1 (fun b hb => hb))
  have HW1 : Hid _ := hw1
  have x1 : w1.cell? ⟨w.heap.size, 0, none⟩ = some (.int .u8 6) := by rw [cell_of_row w1 _ 0 _ 30 (0, 0) hc1]; rfl
  clear hla hw1 hb1 hfr1 hfree0 hc0 hbB0 HIN0 HWA
  have hs1 := view_any B w1 g _ HW1.out F.idN HO.out.idN F.idP HFS.out.1
  unfold vid at hs1
  have y1_2 : w1.cell? ⟨w.heap.size, 2, none⟩ = some (.int .u64 (F.idN : Nat)) := by rw [cell_of_row w1 _ 2 _ 30 (0, 0) hc1]; rfl
  have y1_3 : w1.cell? ⟨w.heap.size, 3, none⟩ = some (.int .i64 F.idP) := by rw [cell_of_row w1 _ 3 _ 30 (0, 0) hc1]; rfl
  have HC1 : Hid (w1.heap[w.heap.size]? = some (.cells #[.int .u8 6, .int .i64 F.frm, .int .u64 (F.idN : Nat), .int .i64 F.idP, .int .u16 (F.set : Nat), .int .u64 (F.curN : Nat), .int .i64 F.curP, .int .u64 (F.promN : Nat), .int .i64 F.promP, .slice a.so F.st.length a.sc, .int .u64 (F.base : Nat), .slice a.mo F.ms.length a.mc, .slice a.io F.it.length a.ic, .int .u64 (F.ack : Nat), .int .u64 (F.safe : Nat)] 30 (0, 0)) ∧ Free w1 g w.heap.size) := ⟨hc1, hfree1⟩
  clear hc1 hfree1
  go_wp2_with fail
  refine hs1.mono ?_
  rintro e w2 ⟨rfl, hw2, hb2, hfr2⟩
  have hc2 : w2.heap[w.heap.size]? = some (.cells #[.int .u8 6, .int .i64 F.frm, .int .u64 (F.idN : Nat), .int .i64 F.idP, .int .u16 (F.set : Nat), .int .u64 (F.curN : Nat), .int .i64 F.curP, .int .u64 (F.promN : Nat), .int .i64 F.promP, .slice a.so F.st.length a.sc, .int .u64 (F.base : Nat), .slice a.mo F.ms.length a.mc, .slice a.io F.it.length a.ic, .int .u64 (F.ack : Nat), .int .u64 (F.safe : Nat)] 30 (0, 0)) := (hfr2 _ HC1.out.2).1.trans HC1.out.1
  have hfree2 := (hfr2 _ HC1.out.2).2
  have hbB2 := hbB1.trans hb2
  have HIN2 : Hid (FIn (fun b => b < B) w2 F a) := HIN1.out.keep (Kp.below hb2 (fun b hb => hb))
  have HW2 : Hid _ := hw2
  have x2 : w2.cell? ⟨w.heap.size, 0, none⟩ = some (.int .u8 6) := by rw [cell_of_row w2 _ 0 _ 30 (0, 0) hc2]; rfl
  clear hs1 hw2 hb2 hfr2 hbB1 HC1 HW1 HIN1 x1 y1_2 y1_3
  have hs2 := number_any' B w2 g _ HW2.out F.base (by have := HO.out.base; omega)
  have hn2 := HO.out.base
  have y2_10 : w2.cell? ⟨w.heap.size, 10, none⟩ = some (.int .u64 (F.base : Nat)) := by rw [cell_of_row w2 _ 10 _ 30 (0, 0) hc2]; rfl
  have HC2 : Hid (w2.heap[w.heap.size]? = some (.cells #[.int .u8 6, .int .i64 F.frm, .int .u64 (F.idN : Nat), .int .i64 F.idP, .int .u16 (F.set : Nat), .int .u64 (F.curN : Nat), .int .i64 F.curP, .int .u64 (F.promN : Nat), .int .i64 F.promP, .slice a.so F.st.length a.sc, .int .u64 (F.base : Nat), .slice a.mo F.ms.length a.mc, .slice a.io F.it.length a.ic, .int .u64 (F.ack : Nat), .int .u64 (F.safe : Nat)] 30 (0, 0)) ∧ Free w2 g w.heap.size) := ⟨hc2, hfree2⟩
  clear hc2 hfree2
  go_wp2_with fail
  refine hs2.mono ?_
  rintro e w3 ⟨rfl, hw3, hb3, hfr3⟩
  have hc3 : w3.heap[w.heap.size]? = some (.cells #[.int .u8 6, .int .i64 F.frm, .int .u64 (F.idN : Nat), .int .i64 F.idP, .int .u16 (F.set : Nat), .int .u64 (F.curN : Nat), .int .i64 F.curP, .int .u64 (F.promN : Nat), .int .i64 F.promP, .slice a.so F.st.length a.sc, .int .u64 (F.base : Nat), .slice a.mo F.ms.length a.mc, .slice a.io F.it.length a.ic, .int .u64 (F.ack : Nat), .int .u64 (F.safe : Nat)] 30 (0, 0)) := (hfr3 _ HC2.out.2).1.trans HC2.out.1
  have hfree3 := (hfr3 _ HC2.out.2).2
  have hbB3 := hbB2.trans hb3
  have HIN3 : Hid (FIn (fun b => b < B) w3 F a) := HIN2.out.keep (Kp.below hb3 (fun b hb => hb))
  have HW3 : Hid _ := hw3
  have x3 : w3.cell? ⟨w.heap.size, 0, none⟩ = some (.int .u8 6) := by rw [cell_of_row w3 _ 0 _ 30 (0, 0) hc3]; rfl
  clear hs2 hw3 hb3 hfr3 hbB2 HC2 HW2 HIN2 x2 y2_10
  have hs3 := number_any' B w3 g _ HW3.out F.ack (by have := HO.out.ack; omega)
  have hn3 := HO.out.ack
  have y3_13 : w3.cell? ⟨w.heap.size, 13, none⟩ = some (.int .u64 (F.ack : Nat)) := by rw [cell_of_row w3 _ 13 _ 30 (0, 0) hc3]; rfl
  have HC3 : Hid (w3.heap[w.heap.size]? = some (.cells #[.int .u8 6, .int .i64 F.frm, .int .u64 (F.idN : Nat), .int .i64 F.idP, .int .u16 (F.set : Nat), .int .u64 (F.curN : Nat), .int .i64 F.curP, .int .u64 (F.promN : Nat), .int .i64 F.promP, .slice a.so F.st.length a.sc, .int .u64 (F.base : Nat), .slice a.mo F.ms.length a.mc, .slice a.io F.it.length a.ic, .int .u64 (F.ack : Nat), .int .u64 (F.safe : Nat)] 30 (0, 0)) ∧ Free w3 g w.heap.size) := ⟨hc3, hfree3⟩
  clear hc3 hfree3
  go_wp2_with fail
  refine hs3.mono ?_
  rintro e w4 ⟨rfl, hw4, hb4, hfr4⟩
  have hc4 : w4.heap[w.heap.size]? = some (.cells #[.int .u8 6, .int .i64 F.frm, .int .u64 (F.idN : Nat), .int .i64 F.idP, .int .u16 (F.set : Nat), .int .u64 (F.curN : Nat), .int .i64 F.curP, .int .u64 (F.promN : Nat), .int .i64 F.promP, .slice a.so F.st.length a.sc, .int .u64 (F.base : Nat), .slice a.mo F.ms.length a.mc, .slice a.io F.it.length a.ic, .int .u64 (F.ack : Nat), .int .u64 (F.safe : Nat)] 30 (0, 0)) := (hfr4 _ HC3.out.2).1.trans HC3.out.1
  have hfree4 := (hfr4 _ HC3.out.2).2
  have hbB4 := hbB3.trans hb4
  have HIN4 : Hid (FIn (fun b => b < B) w4 F a) := HIN3.out.keep (Kp.below hb4 (fun b hb => hb))
  have HW4 : Hid _ := hw4
  have x4 : w4.cell? ⟨w.heap.size, 0, none⟩ = some (.int .u8 6) := by rw [cell_of_row w4 _ 0 _ 30 (0, 0) hc4]; rfl
  clear hs3 hw4 hb4 hfr4 hbB3 HC3 HW3 HIN3 x3 y3_13
  have hs4 := messages_any B w4 g _ HW4.out a.mo F.ms.length a.mc F.ms HIN4.out.ms
  have y4_11 : w4.cell? ⟨w.heap.size, 11, none⟩ = some (.slice a.mo F.ms.length a.mc) := by rw [cell_of_row w4 _ 11 _ 30 (0, 0) hc4]; rfl
  rw [HL.out] at hs4
  have HC4 : Hid (w4.heap[w.heap.size]? = some (.cells #[.int .u8 6, .int .i64 F.frm, .int .u64 (F.idN : Nat), .int .i64 F.idP, .int .u16 (F.set : Nat), .int .u64 (F.curN : Nat), .int .i64 F.curP, .int .u64 (F.promN : Nat), .int .i64 F.promP, .slice a.so F.st.length a.sc, .int .u64 (F.base : Nat), .slice a.mo F.ms.length a.mc, .slice a.io F.it.length a.ic, .int .u64 (F.ack : Nat), .int .u64 (F.safe : Nat)] 30 (0, 0)) ∧ Free w4 g w.heap.size) := ⟨hc4, hfree4⟩
  clear hc4 hfree4
  go_wp2_with fail
  refine hs4.mono ?_
  rintro e w5 ⟨rfl, hw5, hb5⟩
  have hbB5 := hbB4.trans hb5
  clear hs4 hb5 hbB4 HC4 HW4 HIN4 x4 y4_11
  go_wp2
  go_end0
  exact ⟨rfl, hw5, hbB5⟩

set_option maxRecDepth 20000 in
set_option maxHeartbeats 2000000 in
theorem frameW_7 (B : Nat) (w : World) (g : Nat) (st : St) (h : Wr B w g st) (F : PF) (a : Fa) (hin : FIn (fun b => b < B) w F a) (hk : F.kind = 7) (hf0 : 0 ≤ F.frm) (hf15 : F.frm ≤ 15) (ho : POk F) (fi : formV F.idN F.idP = true) (fc : formV F.curN F.curP = true) (fp : formV F.promN F.promP = true)
    (hs : ∀ d ∈ F.st, stOk d = true) (hsl : F.st.length ≤ 4096) (hi : ∀ d ∈ F.it, okF d.1 = true) :
    Calls Try.prog 20 #[.pointer (some ⟨g, 0, none⟩), .agg #[.int .u8 7, .int .i64 F.frm, .int .u64 (F.idN : Nat), .int .i64 F.idP, .int .u16 (F.set : Nat), .int .u64 (F.curN : Nat), .int .i64 F.curP, .int .u64 (F.promN : Nat), .int .i64 F.promP, .slice a.so F.st.length a.sc, .int .u64 (F.base : Nat), .slice a.mo F.ms.length a.mc, .slice a.io F.it.length a.ic, .int .u64 (F.ack : Nat), .int .u64 (F.safe : Nat)]] w fun e w' => e = .returned (.tuple #[]) ∧ Wr B w' g (layS st (wire F)) ∧ Below B w w' := by
  have HIN : Hid (FIn (fun b => b < B) w F a) := hin
  have HS : Hid (∀ d ∈ F.st, stOk d = true ∧ d.1 < 18446744073709551616) := fun d hd => ⟨hs d hd, (ho.st d hd).1⟩
  have HI : Hid (∀ d ∈ F.it, okF d.1 = true) := hi
  have HSL : Hid (F.st.length ≤ 4096) := hsl
  have HO : Hid (POk F) := ho
  have HFS : Hid (formV F.idN F.idP = true ∧ formV F.curN F.curP = true ∧ formV F.promN F.promP = true) := ⟨fi, fc, fp⟩
  have HL : Hid (layS (layS (layS (layS (layS (layS st [UInt8.ofNat 7, pb F.frm]) (encV F.idN F.idP)) (Cd.enc F.base)) (Cd.enc F.ack)) (Cd.enc F.safe)) (encL encI F.it) = layS st (wire F)) := by
    show _ = _
    repeat rw [layS_layS]
    unfold wire headV body
    rw [hk]
    simp [List.append_assoc]
  obtain ⟨wa, hwa⟩ : ∃ wa, w.alloc (.cells #[.int .u8 7, .int .i64 F.frm, .int .u64 (F.idN : Nat), .int .i64 F.idP, .int .u16 (F.set : Nat), .int .u64 (F.curN : Nat), .int .i64 F.curP, .int .u64 (F.promN : Nat), .int .i64 F.promP, .slice a.so F.st.length a.sc, .int .u64 (F.base : Nat), .slice a.mo F.ms.length a.mc, .slice a.io F.it.length a.ic, .int .u64 (F.ack : Nat), .int .u64 (F.safe : Nat)] 30) = wa := ⟨_, rfl⟩
  obtain ⟨wb, hwb⟩ : ∃ wb, wa.alloc (.cells #[.int .u8 7, .int .u8 F.frm] 5) = wb := ⟨_, rfl⟩
  have hua : Below w.heap.size w wb := by rw [← hwb, ← hwa]; exact bl2 _ _ _
  have hsa : wa.heap.size = w.heap.size + 1 := by rw [← hwa]; simp
  have hsb : wb.heap.size = w.heap.size + 2 := by rw [← hwb]; simp; omega
  have hgl := h.lt
  have hB := h.ge
  have hcb : ∀ (j : Nat) v, #[Value.int .u8 7, .int .u8 F.frm][j]? = some v → wb.cell? ⟨w.heap.size + 1, j, none⟩ = some v := fun j v hj => by
    rw [← hwb, ← hsa]
    exact cell_box wa _ 5 j v hj
  have hc0 : wb.heap[w.heap.size]? = some (.cells #[.int .u8 7, .int .i64 F.frm, .int .u64 (F.idN : Nat), .int .i64 F.idP, .int .u16 (F.set : Nat), .int .u64 (F.curN : Nat), .int .i64 F.curP, .int .u64 (F.promN : Nat), .int .i64 F.promP, .slice a.so F.st.length a.sc, .int .u64 (F.base : Nat), .slice a.mo F.ms.length a.mc, .slice a.io F.it.length a.ic, .int .u64 (F.ack : Nat), .int .u64 (F.safe : Nat)] 30 (0, 0)) := by
    rw [← hwb, Below.heap_alloc wa _ _ (by omega), ← hwa]
    exact heap_alloc_new _ _
  have hpb := pb_num F.frm hf0 hf15
  have hrx : Rx (fun b => b ≠ g) wb (some ⟨w.heap.size + 1, 0, none⟩) 2 2 [UInt8.ofNat 7, pb F.frm] := by
    refine ⟨⟨rfl, by omega, fun e => (by cases e), fun _ => ⟨_, _, rfl, by omega, fun j y hj => ?_⟩⟩, by omega, by omega, fun e => (by cases e)⟩
    have hj2 : j < 2 := (List.getElem?_eq_some_iff.1 hj).1
    rcases (show j = 0 ∨ j = 1 by omega) with rfl | rfl
    · simp at hj
      subst hj
      exact hcb 0 _ rfl
    · simp at hj
      subst hj
      rw [show Value.int IntKind.u8 ((pb F.frm).toNat : Int) = .int .u8 F.frm from hpb]
      exact hcb 1 _ rfl
  have hla := lay_any B wb g st (h.up hua) _ 2 2 _ hrx (by omega)
  have hfree0 : Free wb g w.heap.size := Free.new h hua (Nat.le_refl _) (by omega)
  have hbB0 : Below B w wb := hua.mono (by omega)
  have HIN0 : Hid (FIn (fun b => b < B) wb F a) := HIN.out.up hua
  have HWA : Hid (w.alloc (.cells #[.int .u8 7, .int .i64 F.frm, .int .u64 (F.idN : Nat), .int .i64 F.idP, .int .u16 (F.set : Nat), .int .u64 (F.curN : Nat), .int .i64 F.curP, .int .u64 (F.promN : Nat), .int .i64 F.promP, .slice a.so F.st.length a.sc, .int .u64 (F.base : Nat), .slice a.mo F.ms.length a.mc, .slice a.io F.it.length a.ic, .int .u64 (F.ack : Nat), .int .u64 (F.safe : Nat)] 30) = wa ∧ wa.alloc (.cells #[.int .u8 7, .int .u8 F.frm] 5) = wb) := ⟨hwa, hwb⟩
  clear hrx hcb hua h hwa hwb hsa hsb hpb hin hs hsl hi ho fi fc fp HIN
  go_enter Try.func20, Try.ntmps20
  go_wp2_with fail
  rw [HWA.out.1, HWA.out.2]
  refine hla.mono ?_
  rintro e w1 ⟨rfl, hw1, hb1, hfr1⟩
  have hc1 : w1.heap[w.heap.size]? = some (.cells #[.int .u8 7, .int .i64 F.frm, .int .u64 (F.idN : Nat), .int .i64 F.idP, .int .u16 (F.set : Nat), .int .u64 (F.curN : Nat), .int .i64 F.curP, .int .u64 (F.promN : Nat), .int .i64 F.promP, .slice a.so F.st.length a.sc, .int .u64 (F.base : Nat), .slice a.mo F.ms.length a.mc, .slice a.io F.it.length a.ic, .int .u64 (F.ack : Nat), .int .u64 (F.safe : Nat)] 30 (0, 0)) := (hfr1 _ hfree0).1.trans hc0
  have hfree1 := (hfr1 _ hfree0).2
  have hbB1 := hbB0.trans hb1
  have HIN1 : Hid (FIn (fun b => b < B) w1 F a) := HIN0.out.keep (Kp.below hb1 (fun b hb => hb))
  have HW1 : Hid _ := hw1
  have x1 : w1.cell? ⟨w.heap.size, 0, none⟩ = some (.int .u8 7) := by rw [cell_of_row w1 _ 0 _ 30 (0, 0) hc1]; rfl
  clear hla hw1 hb1 hfr1 hfree0 hc0 hbB0 HIN0 HWA
  have hs1 := view_any B w1 g _ HW1.out F.idN HO.out.idN F.idP HFS.out.1
  unfold vid at hs1
  have y1_2 : w1.cell? ⟨w.heap.size, 2, none⟩ = some (.int .u64 (F.idN : Nat)) := by rw [cell_of_row w1 _ 2 _ 30 (0, 0) hc1]; rfl
  have y1_3 : w1.cell? ⟨w.heap.size, 3, none⟩ = some (.int .i64 F.idP) := by rw [cell_of_row w1 _ 3 _ 30 (0, 0) hc1]; rfl
  have HC1 : Hid (w1.heap[w.heap.size]? = some (.cells #[.int .u8 7, .int .i64 F.frm, .int .u64 (F.idN : Nat), .int .i64 F.idP, .int .u16 (F.set : Nat), .int .u64 (F.curN : Nat), .int .i64 F.curP, .int .u64 (F.promN : Nat), .int .i64 F.promP, .slice a.so F.st.length a.sc, .int .u64 (F.base : Nat), .slice a.mo F.ms.length a.mc, .slice a.io F.it.length a.ic, .int .u64 (F.ack : Nat), .int .u64 (F.safe : Nat)] 30 (0, 0)) ∧ Free w1 g w.heap.size) := ⟨hc1, hfree1⟩
  clear hc1 hfree1
  go_wp2_with fail
  refine hs1.mono ?_
  rintro e w2 ⟨rfl, hw2, hb2, hfr2⟩
  have hc2 : w2.heap[w.heap.size]? = some (.cells #[.int .u8 7, .int .i64 F.frm, .int .u64 (F.idN : Nat), .int .i64 F.idP, .int .u16 (F.set : Nat), .int .u64 (F.curN : Nat), .int .i64 F.curP, .int .u64 (F.promN : Nat), .int .i64 F.promP, .slice a.so F.st.length a.sc, .int .u64 (F.base : Nat), .slice a.mo F.ms.length a.mc, .slice a.io F.it.length a.ic, .int .u64 (F.ack : Nat), .int .u64 (F.safe : Nat)] 30 (0, 0)) := (hfr2 _ HC1.out.2).1.trans HC1.out.1
  have hfree2 := (hfr2 _ HC1.out.2).2
  have hbB2 := hbB1.trans hb2
  have HIN2 : Hid (FIn (fun b => b < B) w2 F a) := HIN1.out.keep (Kp.below hb2 (fun b hb => hb))
  have HW2 : Hid _ := hw2
  have x2 : w2.cell? ⟨w.heap.size, 0, none⟩ = some (.int .u8 7) := by rw [cell_of_row w2 _ 0 _ 30 (0, 0) hc2]; rfl
  clear hs1 hw2 hb2 hfr2 hbB1 HC1 HW1 HIN1 x1 y1_2 y1_3
  have hs2 := number_any' B w2 g _ HW2.out F.base (by have := HO.out.base; omega)
  have hn2 := HO.out.base
  have y2_10 : w2.cell? ⟨w.heap.size, 10, none⟩ = some (.int .u64 (F.base : Nat)) := by rw [cell_of_row w2 _ 10 _ 30 (0, 0) hc2]; rfl
  have HC2 : Hid (w2.heap[w.heap.size]? = some (.cells #[.int .u8 7, .int .i64 F.frm, .int .u64 (F.idN : Nat), .int .i64 F.idP, .int .u16 (F.set : Nat), .int .u64 (F.curN : Nat), .int .i64 F.curP, .int .u64 (F.promN : Nat), .int .i64 F.promP, .slice a.so F.st.length a.sc, .int .u64 (F.base : Nat), .slice a.mo F.ms.length a.mc, .slice a.io F.it.length a.ic, .int .u64 (F.ack : Nat), .int .u64 (F.safe : Nat)] 30 (0, 0)) ∧ Free w2 g w.heap.size) := ⟨hc2, hfree2⟩
  clear hc2 hfree2
  go_wp2_with fail
  refine hs2.mono ?_
  rintro e w3 ⟨rfl, hw3, hb3, hfr3⟩
  have hc3 : w3.heap[w.heap.size]? = some (.cells #[.int .u8 7, .int .i64 F.frm, .int .u64 (F.idN : Nat), .int .i64 F.idP, .int .u16 (F.set : Nat), .int .u64 (F.curN : Nat), .int .i64 F.curP, .int .u64 (F.promN : Nat), .int .i64 F.promP, .slice a.so F.st.length a.sc, .int .u64 (F.base : Nat), .slice a.mo F.ms.length a.mc, .slice a.io F.it.length a.ic, .int .u64 (F.ack : Nat), .int .u64 (F.safe : Nat)] 30 (0, 0)) := (hfr3 _ HC2.out.2).1.trans HC2.out.1
  have hfree3 := (hfr3 _ HC2.out.2).2
  have hbB3 := hbB2.trans hb3
  have HIN3 : Hid (FIn (fun b => b < B) w3 F a) := HIN2.out.keep (Kp.below hb3 (fun b hb => hb))
  have HW3 : Hid _ := hw3
  have x3 : w3.cell? ⟨w.heap.size, 0, none⟩ = some (.int .u8 7) := by rw [cell_of_row w3 _ 0 _ 30 (0, 0) hc3]; rfl
  clear hs2 hw3 hb3 hfr3 hbB2 HC2 HW2 HIN2 x2 y2_10
  have hs3 := number_any' B w3 g _ HW3.out F.ack (by have := HO.out.ack; omega)
  have hn3 := HO.out.ack
  have y3_13 : w3.cell? ⟨w.heap.size, 13, none⟩ = some (.int .u64 (F.ack : Nat)) := by rw [cell_of_row w3 _ 13 _ 30 (0, 0) hc3]; rfl
  have HC3 : Hid (w3.heap[w.heap.size]? = some (.cells #[.int .u8 7, .int .i64 F.frm, .int .u64 (F.idN : Nat), .int .i64 F.idP, .int .u16 (F.set : Nat), .int .u64 (F.curN : Nat), .int .i64 F.curP, .int .u64 (F.promN : Nat), .int .i64 F.promP, .slice a.so F.st.length a.sc, .int .u64 (F.base : Nat), .slice a.mo F.ms.length a.mc, .slice a.io F.it.length a.ic, .int .u64 (F.ack : Nat), .int .u64 (F.safe : Nat)] 30 (0, 0)) ∧ Free w3 g w.heap.size) := ⟨hc3, hfree3⟩
  clear hc3 hfree3
  go_wp2_with fail
  refine hs3.mono ?_
  rintro e w4 ⟨rfl, hw4, hb4, hfr4⟩
  have hc4 : w4.heap[w.heap.size]? = some (.cells #[.int .u8 7, .int .i64 F.frm, .int .u64 (F.idN : Nat), .int .i64 F.idP, .int .u16 (F.set : Nat), .int .u64 (F.curN : Nat), .int .i64 F.curP, .int .u64 (F.promN : Nat), .int .i64 F.promP, .slice a.so F.st.length a.sc, .int .u64 (F.base : Nat), .slice a.mo F.ms.length a.mc, .slice a.io F.it.length a.ic, .int .u64 (F.ack : Nat), .int .u64 (F.safe : Nat)] 30 (0, 0)) := (hfr4 _ HC3.out.2).1.trans HC3.out.1
  have hfree4 := (hfr4 _ HC3.out.2).2
  have hbB4 := hbB3.trans hb4
  have HIN4 : Hid (FIn (fun b => b < B) w4 F a) := HIN3.out.keep (Kp.below hb4 (fun b hb => hb))
  have HW4 : Hid _ := hw4
  have x4 : w4.cell? ⟨w.heap.size, 0, none⟩ = some (.int .u8 7) := by rw [cell_of_row w4 _ 0 _ 30 (0, 0) hc4]; rfl
  clear hs3 hw4 hb4 hfr4 hbB3 HC3 HW3 HIN3 x3 y3_13
  have hs4 := number_any' B w4 g _ HW4.out F.safe (by have := HO.out.safe; omega)
  have hn4 := HO.out.safe
  have y4_14 : w4.cell? ⟨w.heap.size, 14, none⟩ = some (.int .u64 (F.safe : Nat)) := by rw [cell_of_row w4 _ 14 _ 30 (0, 0) hc4]; rfl
  have HC4 : Hid (w4.heap[w.heap.size]? = some (.cells #[.int .u8 7, .int .i64 F.frm, .int .u64 (F.idN : Nat), .int .i64 F.idP, .int .u16 (F.set : Nat), .int .u64 (F.curN : Nat), .int .i64 F.curP, .int .u64 (F.promN : Nat), .int .i64 F.promP, .slice a.so F.st.length a.sc, .int .u64 (F.base : Nat), .slice a.mo F.ms.length a.mc, .slice a.io F.it.length a.ic, .int .u64 (F.ack : Nat), .int .u64 (F.safe : Nat)] 30 (0, 0)) ∧ Free w4 g w.heap.size) := ⟨hc4, hfree4⟩
  clear hc4 hfree4
  go_wp2_with fail
  refine hs4.mono ?_
  rintro e w5 ⟨rfl, hw5, hb5, hfr5⟩
  have hc5 : w5.heap[w.heap.size]? = some (.cells #[.int .u8 7, .int .i64 F.frm, .int .u64 (F.idN : Nat), .int .i64 F.idP, .int .u16 (F.set : Nat), .int .u64 (F.curN : Nat), .int .i64 F.curP, .int .u64 (F.promN : Nat), .int .i64 F.promP, .slice a.so F.st.length a.sc, .int .u64 (F.base : Nat), .slice a.mo F.ms.length a.mc, .slice a.io F.it.length a.ic, .int .u64 (F.ack : Nat), .int .u64 (F.safe : Nat)] 30 (0, 0)) := (hfr5 _ HC4.out.2).1.trans HC4.out.1
  have hfree5 := (hfr5 _ HC4.out.2).2
  have hbB5 := hbB4.trans hb5
  have HIN5 : Hid (FIn (fun b => b < B) w5 F a) := HIN4.out.keep (Kp.below hb5 (fun b hb => hb))
  have HW5 : Hid _ := hw5
  have x5 : w5.cell? ⟨w.heap.size, 0, none⟩ = some (.int .u8 7) := by rw [cell_of_row w5 _ 0 _ 30 (0, 0) hc5]; rfl
  clear hs4 hw5 hb5 hfr5 hbB4 HC4 HW4 HIN4 x4 y4_14
  have hs5 := items_any B w5 g _ HW5.out a.io F.it.length a.ic F.it HIN5.out.it HI.out
  have y5_12 : w5.cell? ⟨w.heap.size, 12, none⟩ = some (.slice a.io F.it.length a.ic) := by rw [cell_of_row w5 _ 12 _ 30 (0, 0) hc5]; rfl
  rw [HL.out] at hs5
  have HC5 : Hid (w5.heap[w.heap.size]? = some (.cells #[.int .u8 7, .int .i64 F.frm, .int .u64 (F.idN : Nat), .int .i64 F.idP, .int .u16 (F.set : Nat), .int .u64 (F.curN : Nat), .int .i64 F.curP, .int .u64 (F.promN : Nat), .int .i64 F.promP, .slice a.so F.st.length a.sc, .int .u64 (F.base : Nat), .slice a.mo F.ms.length a.mc, .slice a.io F.it.length a.ic, .int .u64 (F.ack : Nat), .int .u64 (F.safe : Nat)] 30 (0, 0)) ∧ Free w5 g w.heap.size) := ⟨hc5, hfree5⟩
  clear hc5 hfree5
  go_wp2_with fail
  refine hs5.mono ?_
  rintro e w6 ⟨rfl, hw6, hb6⟩
  have hbB6 := hbB5.trans hb6
  clear hs5 hb6 hbB5 HC5 HW5 HIN5 x5 y5_12
  go_wp2
  go_end0
  exact ⟨rfl, hw6, hbB6⟩
end Go.Proofs.Ytfemjbaadnjanaa
