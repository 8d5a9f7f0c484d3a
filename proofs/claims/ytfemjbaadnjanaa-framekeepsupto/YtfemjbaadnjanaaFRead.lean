/-
  Reading of parts of a frame (package frame): nodes, views' numbers, sets, messages, items.
-/
import Derived.Test.YtfemjbaadnjanaaFBase
import Derived.Test.YtfemjbaadnjanaaFRes
namespace Go.Proofs.Ytfemjbaadnjanaa
open Go.RowKit
set_option linter.unusedVariables false
set_option linter.unusedSimpArgs false

/-- Bytes that are not too many to be copied. -/
def sl (st : St) : Prop := ∀ xs, st = some xs → xs.length ≤ 1048576
theorem sl_int {st : St} {m : Int} (h : sl st) : sl (Cd.rInt st m).2 := fun ys hy => by
  obtain ⟨xs, rfl, hx, _⟩ := rInt_some hy
  have := h xs rfl
  have := congrArg List.length hx
  rw [List.length_append] at this
  omega
theorem sl_uint {st : St} (h : sl st) : sl (Cd.rUint st).2 := fun ys hy => by
  obtain ⟨xs, rfl, hx, _⟩ := rUint_some hy
  have := h xs rfl
  have := congrArg List.length hx
  rw [List.length_append] at this
  omega
theorem sl_dec {st : St} (h : sl st) : sl (decV st).2 := fun ys hy => by
  obtain ⟨xs, rfl, hx, _⟩ := decV_some hy
  have := h xs rfl
  have := congrArg List.length hx
  rw [List.length_append] at this
  omega
theorem sl_msg {st : St} (h : sl st) : sl (rMsg st).2 := fun ys hy => by
  obtain ⟨xs, rfl, hx, _⟩ := rMsg_some hy
  have := h xs rfl
  have := congrArg List.length hx
  rw [List.length_append] at this
  omega
theorem sl_item {st : St} (h : sl st) : sl (rItem st).2 := fun ys hy => by
  obtain ⟨xs, rfl, hx, _⟩ := rItem_some hy
  have := h xs rfl
  have := congrArg List.length hx
  rw [List.length_append] at this
  omega
theorem sl_many {α : Type} {r : St → α × St} {en : α → List UInt8} {P : α → Prop} (hr : ∀ st ys, (r st).2 = some ys → ∃ xs, st = some xs ∧ xs = en (r st).1 ++ ys ∧ P (r st).1) {st : St} (h : sl st) : sl (rMany r st).2 := fun ys hy => by
  obtain ⟨xs, rfl, hx, _⟩ := rMany_some hr hy
  have := h xs rfl
  have := congrArg List.length hx
  rw [List.length_append] at this
  omega
theorem sl_items {st : St} (h : sl st) : sl (rMany rItem st).2 := sl_many (en := encI) (P := fun d => okF d.1 = true ∧ d.2.length ≤ 1048576) (fun st ys h => rItem_some h) h
theorem sl_state {m : Int} {st : St} (h : sl st) : sl (rState m st).2 := fun ys hy => by
  obtain ⟨xs, rfl, hx, _⟩ := rState_some hy
  have := h xs rfl
  have := congrArg List.length hx
  rw [List.length_append] at this
  omega
theorem sl_states {m : Int} {st : St} (h : sl st) : sl (rMany (rState m) st).2 := sl_many (en := encS) (P := fun s => okSt s ∧ s.2.2.1 ≤ m) (fun st ys h => rState_some h) h
theorem sl_msgs {st : St} (h : sl st) : sl (rMany rMsg st).2 := sl_many (en := encM) (P := fun d => d.length ≤ 1048576) (fun st ys h => rMsg_some h) h

theorem rInt_none0 (st : St) (m : Int) : (Cd.rInt st m).2 = none → (Cd.rInt st m).1 = 0 := by
  unfold Cd.rInt
  cases (Cd.rUint st).2 with
  | none => intro _; rfl
  | some ys =>
    simp only
    by_cases hc : m < 0 ∨ m < ((Cd.rUint st).1 : Int)
    · rw [if_pos hc]; intro _; rfl
    · rw [if_neg hc]; intro h; cases h
theorem rInt_small (st : St) (m : Nat) : (Cd.rInt st (m : Int)).1 ≤ m := by
  cases hy : (Cd.rInt st (m : Int)).2 with
  | none => rw [rInt_none0 st m hy]; omega
  | some ys => obtain ⟨_, _, _, h, _⟩ := rInt_some hy; omega
theorem rMsg_small (st : St) : (rMsg st).1.length ≤ 1048576 := by
  have hs := rInt_small st 1048576
  unfold rMsg Cd.rBytes
  cases (Cd.rInt st 1048576).2 with
  | none => simp
  | some ys =>
    simp only
    by_cases hc : ys.length < (Cd.rInt st 1048576).1
    · rw [if_pos hc]; simp
    · rw [if_neg hc, List.length_take]
      have : (Cd.rInt st 1048576).1 ≤ 1048576 := hs
      omega
theorem gr_setRow' {w W : World} {r B : Nat} (h : w.grownBy W (some r)) (hB : w.heap.size ≤ B) (cs : Array Value) : w.grownBy (W.setRow B cs) (some r) :=
  ⟨h.os, h.tape, h.output, by simpa using h.size, fun k hk hne => (setRow_other _ _ _ _ (by omega)).trans (h.block k hk hne)⟩
theorem gr_alloc0 (w : World) (o : Obj) (r : Option Nat) : w.grownBy (w.alloc o) r := Cd.grown_of_below (bl1 w o) r
theorem gr_up {w a b : World} {r : Option Nat} (h : w.grownBy a r) (u : Below a.heap.size a b) : w.grownBy b r := Cd.grown_trans h (Cd.grown_of_below u r)
/-- A reader stays while blocks are written that lie behind it. -/
theorem rd_grown {w w' : World} {r : Nat} {st : St} {g : Option Nat} (h : Cd.Rd w r st) (hgr : w.grownBy w' g) (hg : ∀ b, g = some b → r < b) : Cd.Rd w' r st := by
  have hrl := h.lt
  have he : w'.heap[r]? = w.heap[r]? := hgr.block r hrl (fun e => by have := hg r e.symm; omega)
  cases st with
  | none => exact he.trans h
  | some xs =>
    obtain ⟨ao, n, cap, hh, ⟨h1, h2, h3, h4, h5⟩, hbl⟩ := h
    refine ⟨ao, n, cap, he.trans hh, ⟨h1, h2, h3, h4, fun b hb i hi => ?_⟩, hbl⟩
    have hc := h5 b hb i hi
    have hb2 : (b.add i).block = b.block := by unfold Addr.add; split <;> rfl
    have := hbl b hb
    exact hgr.cell hc (by rw [hb2]; intro e; have := hg _ e.symm; omega)
theorem rd_setRow' {w : World} {r B : Nat} {st : St} {new : Array Value} (h : Cd.Rd w r st) (hr : r < B) : Cd.Rd (w.setRow B new) r st :=
  rd_grown (g := some B) h (gr_setRow w B new) (fun b e => by cases e; exact hr)

set_option maxRecDepth 10000 in
theorem readNode_any (w : World) (r : Nat) (st : St) (h : Cd.Rd w r st) :
    Calls Try.prog 59 #[.pointer (some ⟨r, 0, none⟩)] w fun e w' => e = .returned (.int .i64 ((Cd.rInt st 15).1 : Nat)) ∧ Cd.Rd w' r (Cd.rInt st 15).2 ∧ w.grownBy w' (some r) := by
  have hi := Cd.int_rd w r st h 15 (by omega) (by omega)
  generalize Cd.rInt st 15 = ri at *
  clear h
  go_enter Try.func59, Try.ntmps59
  go_wp2_with fail
  refine hi.mono ?_
  rintro e w1 ⟨rfl, hrd, hg⟩
  clear hi
  go_wp2
  go_ret
  exact ⟨rfl, hrd, hg⟩

set_option maxRecDepth 10000 in
theorem readSet_any (w : World) (r : Nat) (st : St) (h : Cd.Rd w r st) :
    Calls Try.prog 61 #[.pointer (some ⟨r, 0, none⟩)] w fun e w' => e = .returned (.int .u16 ((Cd.rInt st 65535).1 : Nat)) ∧ Cd.Rd w' r (Cd.rInt st 65535).2 ∧ w.grownBy w' (some r) := by
  have hi := Cd.int_rd w r st h 65535 (by omega) (by omega)
  have hle : (Cd.rInt st 65535).1 ≤ 65535 := rInt_small st 65535
  generalize Cd.rInt st 65535 = ri at *
  obtain ⟨n, s⟩ := ri
  simp only at *
  clear h
  go_enter Try.func61, Try.ntmps61
  go_wp2_with fail
  refine hi.mono ?_
  rintro e w1 ⟨rfl, hrd, hg⟩
  clear hi
  go_wp2
  go_ret
  exact ⟨rfl, hrd, hg⟩

set_option maxRecDepth 10000 in
theorem readMessage_any (w : World) (r : Nat) (st : St) (h : Cd.Rd w r st) (hl : sl st) :
    Calls Try.prog 66 #[.pointer (some ⟨r, 0, none⟩)] w fun e w' => ∃ x : Option Addr × Nat × Nat, e = .returned (.slice x.1 x.2.1 x.2.2) ∧ Rx (fun b => w.heap.size ≤ b) w' x.1 x.2.1 x.2.2 (rMsg st).1 ∧ Cd.Rd w' r (rMsg st).2 ∧ w.grownBy w' (some r) := by
  have hi := Cd.bytes_rd w r st h 1048576 (by omega) (by omega) (fun xs hx => by have := hl xs hx; omega)
  have HM : Hid (rMsg st = Cd.rBytes st 1048576) := rfl
  have hml : (Cd.rBytes st 1048576).1.length ≤ 1048576 := rMsg_small st
  rw [HM.out]
  generalize Cd.rBytes st 1048576 = rb at *
  obtain ⟨bs, s⟩ := rb
  simp only at *
  clear h hl HM
  go_enter Try.func66, Try.ntmps66
  go_wp2_with fail
  refine hi.mono ?_
  rintro e w1 ⟨v, rfl, hown, hrd, hg⟩
  obtain ⟨ao, cap, rfl, hrx⟩ := own_rx hown (by omega)
  have HX : Hid (Rx (fun b => w.heap.size ≤ b) w1 ao bs.length cap bs) := hrx.imp (fun b _ hb => hb.1)
  generalize bs.length = n at *
  clear hi hown hrx hml
  go_wp2
  go_ret
  exact ⟨(ao, n, cap), rfl, HX.out, hrd, hg⟩

set_option maxRecDepth 10000 in
set_option maxHeartbeats 1000000 in
theorem readView_any (w : World) (r : Nat) (st : St) (h : Cd.Rd w r st) :
    Calls Try.prog 60 #[.pointer (some ⟨r, 0, none⟩)] w fun e w' => e = .returned (vid (decV st).1.1 ((decV st).1.2 : Nat)) ∧ Cd.Rd w' r (decV st).2 ∧ w.grownBy w' (some r) := by
  have hrl := h.lt
  have hd := decode_rd (w.alloc (.cells #[.int .u64 0, .int .i64 0] 24)) r st (rd_alloc h _)
  generalize decV st = dv at *
  obtain ⟨⟨N, P⟩, s⟩ := dv
  simp only at *
  unfold vid at *
  clear h
  go_enter Try.func60, Try.ntmps60
  go_wp2_with fail
  refine hd.mono ?_
  rintro e w1 ⟨rfl, hrd, hg⟩
  have hg0 : w.grownBy w1 (some r) := Cd.grown_trans (gr_alloc0 w _ _) hg
  have hs1 : w.heap.size < w1.heap.size := by have := hg.size; simp at this; omega
  have b0 := hg.cell (cell_box w #[Value.int .u64 0, .int .i64 0] 24 0 _ rfl) (by simp; omega)
  have b1 := hg.cell (cell_box w #[Value.int .u64 0, .int .i64 0] 24 1 _ rfl) (by simp; omega)
  have f1 : w1.heap[w.heap.size]? = some (.cells #[.int .u64 0, .int .i64 0] 24 (0, 0)) := (hg.block w.heap.size (by simp) (by simp; omega)).trans (heap_alloc_new _ _)
  obtain ⟨w2, hw2⟩ : ∃ w2, w1.alloc (.cells #[.int .u64 (N : Nat), .int .i64 (P : Nat)] 24) = w2 := ⟨_, rfl⟩
  have f2 : w2.heap[w.heap.size]? = some (.cells #[.int .u64 0, .int .i64 0] 24 (0, 0)) := by rw [← hw2, Below.heap_alloc w1 _ _ hs1]; exact f1
  have hrd2 : Cd.Rd w2 r s := by rw [← hw2]; exact rd_alloc hrd _
  have hg2 : w.grownBy w2 (some r) := by rw [← hw2]; exact gr_up hg0 (bl1 _ _)
  have HE : Hid (Cd.Rd (w2.setRow w.heap.size #[.int .u64 (N : Nat), .int .i64 (P : Nat)]) r s ∧ w.grownBy (w2.setRow w.heap.size #[.int .u64 (N : Nat), .int .i64 (P : Nat)]) (some r)) :=
    ⟨rd_setRow' hrd2 (by omega), gr_setRow' hg2 (Nat.le_refl _) _⟩
  have hset := setRow_heap w2 w.heap.size _ #[.int .u64 (N : Nat), .int .i64 (P : Nat)] 24 (0, 0) f2
  have hw2' : w1.alloc (.cells #[.int .u64 (N : Int), .int .i64 (P : Int)] 24) = w2 := hw2
  have e0 : w2.cell? ⟨w1.heap.size, 0, none⟩ = some (.int .u64 (N : Nat)) := by rw [← hw2]; exact cell_box w1 _ 24 0 _ rfl
  have e1 : w2.cell? ⟨w1.heap.size, 1, none⟩ = some (.int .i64 (P : Nat)) := by rw [← hw2]; exact cell_box w1 _ 24 1 _ rfl
  clear hd hrd hg hg0 b0 b1 f1 hrd2 hg2 hw2
  go_wp2_with (first | (refine wpList_store_row rfl 24 (.tmp 2) (.tmp 10) rfl w.heap.size #[.int .u64 (N : Nat), .int .i64 (P : Nat)] rfl rfl 24 _ f2 (by kernel_rfl) rfl (by simp [Value.oneCell']) ?_))
  refine bodyPost_ret (results_cell1 (g := w.heap.size) (cs := #[.int .u64 (N : Nat), .int .i64 (P : Nat)]) Try.results60 rfl (run_loadVar_row _ w.heap.size 24 24 _ (0, 0) _ hset Try.underlying24 rfl (by kernel_rfl))) rfl ?_
  exact ⟨rfl, HE.out⟩

set_option maxRecDepth 10000 in
set_option maxHeartbeats 1000000 in
theorem readItem_any (w : World) (r : Nat) (st : St) (h : Cd.Rd w r st) (hl : sl st) :
    Calls Try.prog 68 #[.pointer (some ⟨r, 0, none⟩)] w fun e w' => ∃ x : Ix, e = .returned (.agg #[.int .i64 x.1, .slice x.2.1 x.2.2.1 x.2.2.2]) ∧ ItX (fun b => w.heap.size ≤ b) w' x (rItem st).1 ∧ Cd.Rd w' r (rItem st).2 ∧ w.grownBy w' (some r) := by
  have hrl := h.lt
  have hn := readNode_any (w.alloc (.cells #[.int .i64 0, .slice none 0 0] 49)) r st (rd_alloc h _)
  have hm := fun W (hW : Cd.Rd W r (Cd.rInt st 15).2) => readMessage_any W r (Cd.rInt st 15).2 hW (sl_int hl)
  have HI : Hid (rItem st = (((((Cd.rInt st 15).1 : Nat) : Int), (rMsg (Cd.rInt st 15).2).1), (rMsg (Cd.rInt st 15).2).2)) := rfl
  rw [HI.out]
  generalize Cd.rInt st 15 = ri at *
  obtain ⟨F, s1⟩ := ri
  simp only at *
  generalize rMsg s1 = rm at *
  obtain ⟨bs, s2⟩ := rm
  simp only at *
  clear h hl HI
  go_enter Try.func68, Try.ntmps68
  go_wp2_with fail
  refine hn.mono ?_
  rintro e w1 ⟨rfl, hrd1, hg1⟩
  have hm1 := hm w1 hrd1
  have f1 : w1.heap[w.heap.size]? = some (.cells #[.int .i64 0, .slice none 0 0] 49 (0, 0)) := (hg1.block w.heap.size (by simp) (by simp; omega)).trans (heap_alloc_new _ _)
  have hg01 : w.grownBy w1 (some r) := Cd.grown_trans (gr_alloc0 w _ _) hg1
  have hs1 : w.heap.size < w1.heap.size := by have := hg1.size; simp at this; omega
  clear hn hm hrd1 hg1
  go_wp2_with fail
  refine hm1.mono ?_
  rintro e w2 ⟨⟨bo, bn, bc⟩, rfl, hrx, hrd2, hg2⟩
  simp only at hrx
  have f2 : w2.heap[w.heap.size]? = some (.cells #[.int .i64 0, .slice none 0 0] 49 (0, 0)) := (hg2.block w.heap.size hs1 (by simp; omega)).trans f1
  have hg02 : w.grownBy w2 (some r) := Cd.grown_trans hg01 hg2
  have HE : Hid (Cd.Rd (w2.setRow w.heap.size #[.int .i64 (F : Nat), .slice bo bn bc]) r s2 ∧ w.grownBy (w2.setRow w.heap.size #[.int .i64 (F : Nat), .slice bo bn bc]) (some r) ∧ Rx (fun b => w.heap.size ≤ b) (w2.setRow w.heap.size #[.int .i64 (F : Nat), .slice bo bn bc]) bo bn bc bs) := by
    refine ⟨rd_setRow' hrd2 (by omega), gr_setRow' hg02 (Nat.le_refl _) _, ?_⟩
    have h1 := hrx.imp (q := fun b => w.heap.size ≤ b ∧ b ≠ w.heap.size) (fun b _ hb => by omega)
    exact (h1.keep (p := fun b => w.heap.size ≤ b ∧ b ≠ w.heap.size) (fun ad v hb hc => by rw [cell_setRow_other _ _ _ _ hb.2]; exact hc)).imp (fun b _ hb => hb.1)
  have hset := setRow_heap w2 w.heap.size _ #[.int .i64 (F : Nat), .slice bo bn bc] 49 (0, 0) f2
  clear hm1 hrx hrd2 hg2 hg01 hg02 f1
  go_wp2_with (first | (refine wpList_store_row rfl 49 (.tmp 2) (.tmp 7) rfl w.heap.size #[.int .i64 (F : Nat), .slice bo bn bc] rfl rfl 49 _ f2 (by kernel_rfl) rfl (by simp [Value.oneCell']) ?_))
  refine bodyPost_ret (results_cell1 (g := w.heap.size) (cs := #[.int .i64 (F : Nat), .slice bo bn bc]) Try.results68 rfl (run_loadVar_row _ w.heap.size 49 49 _ (0, 0) _ hset Try.underlying49 rfl (by kernel_rfl))) rfl ?_
  exact ⟨((F : Nat), bo, bn, bc), rfl, ⟨rfl, HE.out.2.2⟩, HE.out.1, HE.out.2.1⟩
end Go.Proofs.Ytfemjbaadnjanaa
