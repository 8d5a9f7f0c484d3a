/-
  States as they lie in memory, cell by cell, and a block of them that is written to.
-/
import Derived.Test.YtooeemhlpmiceaaFMath
import Derived.Test.YtooeemhlpmiceaaECmp
import Derived.Test.YtooeemhlpmiceaaEOwn
import Derived.Sort.Grow
import Derived.Laws.CopyRow
import Derived.Lib.SliceRun
import Derived.Laws.Tables
namespace Go.Proofs.Ytooeemhlpmiceaa.T
open Go.RowKit Go.Sort
set_option linter.unusedVariables false

/-- A state: its view's number, its floor, and where its items lie. -/
abbrev Sx := Lb × Sl
def cellsS (x : Sx) : List Value := [.int .u64 (x.1.1 : Nat), .int .i64 x.1.2.1, .int .u64 (x.1.2.2.1 : Nat), .int .i64 x.1.2.2.2, .slice x.2.1 x.2.2.1 x.2.2.2]
def flat (ls : List Sx) : List Value := ls.flatMap cellsS
theorem flat_len (ls : List Sx) : (flat ls).length = ls.length * 5 := by
  induction ls with
  | nil => rfl
  | cons a r ih => simp [flat, cellsS] at ih ⊢; omega
theorem flat_cons (x : Sx) (ls : List Sx) : flat (x :: ls) = cellsS x ++ flat ls := by simp [flat]
theorem flat_app (a b : List Sx) : flat (a ++ b) = flat a ++ flat b := by simp [flat]
theorem flat_one {ls : List Sx} {u : Value} (h : u ∈ flat ls) : u.oneCell' = true := by
  obtain ⟨x, _, hx⟩ := List.mem_flatMap.1 h
  simp [cellsS] at hx
  rcases hx with rfl | rfl | rfl | rfl | rfl <;> rfl
theorem flat_get : ∀ (ls : List Sx) (j : Nat) (x : Sx) (i : Nat), ls[j]? = some x → i < 5 → (flat ls)[5 * j + i]? = (cellsS x)[i]?
  | [], j, x, i, h, hi => by simp at h
  | a :: r, 0, x, i, h, hi => by
    simp at h; subst h
    rw [flat_cons, List.getElem?_append_left (by simp [cellsS]; omega)]; simp
  | a :: r, j + 1, x, i, h, hi => by
    rw [flat_cons, List.getElem?_append_right (by simp [cellsS]; omega), show 5 * (j + 1) + i - (cellsS a).length = 5 * j + i by simp [cellsS]; omega]
    exact flat_get r j x i (by simpa using h) hi
theorem gr_refl (w : World) (r : Option Nat) : w.grownBy w r := ⟨rfl, rfl, rfl, Nat.le_refl _, fun _ _ _ => rfl⟩
theorem gr_trans {a b c : World} {r : Option Nat} (h : a.grownBy b r) (k : b.grownBy c r) : a.grownBy c r :=
  ⟨k.os.trans h.os, k.tape.trans h.tape, k.output.trans h.output, Nat.le_trans h.size k.size, fun i hi hne => (k.block i (Nat.lt_of_lt_of_le hi h.size) hne).trans (h.block i hi hne)⟩
theorem gr_below {a b : World} (h : Below a.heap.size a b) (r : Option Nat) : a.grownBy b r := ⟨h.os, h.tape, h.output, h.size, fun i hi _ => h.block i hi⟩
theorem gr_setRow (w : World) (g : Nat) (cs : Array Value) : w.grownBy (w.setRow g cs) (some g) := ⟨rfl, rfl, rfl, by simp, fun i hi hne => setRow_other _ _ _ _ (fun e => hne (by rw [e]))⟩

/-- Block g has these labels, and behind them what is left of its room. -/
def Blk (w : World) (g cap : Nat) (cur : List Sx) : Prop := ∃ rest : List Value, w.heap[g]? = some (.cells (flat cur ++ rest).toArray 37 (0, 0)) ∧ (flat cur ++ rest).length = cap * 5
theorem Blk.of_block {w w' : World} {g cap : Nat} {cur : List Sx} (h : Blk w g cap cur) (e : w'.heap[g]? = w.heap[g]?) : Blk w' g cap cur := by
  obtain ⟨r, h1, h2⟩ := h
  exact ⟨r, by rw [e]; exact h1, h2⟩
theorem Blk.lt {w : World} {g cap : Nat} {cur : List Sx} (h : Blk w g cap cur) : g < w.heap.size := by
  obtain ⟨r, h1, _⟩ := h
  exact (Array.getElem?_eq_some_iff.1 h1).1
theorem Blk.up {w w' : World} {g cap : Nat} {cur : List Sx} (h : Blk w g cap cur) (u : Below w.heap.size w w') : Blk w' g cap cur := h.of_block (u.block g h.lt)
theorem Blk.len {w : World} {g cap : Nat} {cur : List Sx} (h : Blk w g cap cur) : cur.length ≤ cap := by
  obtain ⟨r, _, h2⟩ := h
  rw [List.length_append, flat_len] at h2
  omega
theorem Blk.ofOwn {w : World} {B n g cap : Nat} {ls : List Sx} (h : w.ownsRow B 37 5 (.slice (some ⟨g, 0, none⟩) n cap) n (flat ls)) : Blk w g cap ls ∧ B ≤ g ∧ n ≤ cap ∧ cap ≤ maxLen := by
  rcases h.2 with ⟨h0, _⟩ | ⟨g', cap', cur, h0, a, b, c, d, e, f⟩
  · cases h0
  · simp only [Value.slice.injEq, Option.some.injEq, Addr.mk.injEq] at h0
    obtain ⟨⟨rfl, _, _⟩, _, rfl⟩ := h0
    refine ⟨⟨cur.toList.drop (n * 5), ?_, ?_⟩, a, c, d⟩
    · rw [b, ← f, List.take_append_drop]
    · rw [← f, List.take_append_drop]; simpa using e
theorem Blk.own {w : World} {B g cap : Nat} {cur : List Sx} (h : Blk w g cap cur) (hB : B ≤ g) (hc : cap ≤ maxLen) (i : Nat) (hi : i ≤ cur.length) : w.ownsRow B 37 5 (.slice (some ⟨g, 0, none⟩) i cap) i (flat (cur.take i)) := by
  have hl := h.len
  obtain ⟨r, h1, h2⟩ := h
  refine ⟨by rw [flat_len, List.length_take]; omega, .inr ⟨g, cap, _, rfl, hB, h1, by omega, hc, by simpa using h2, ?_⟩⟩
  have e : flat cur = flat (cur.take i) ++ flat (cur.drop i) := by rw [← flat_app, List.take_append_drop]
  simp only [e, List.append_assoc]
  rw [List.take_append_of_le_length (by rw [flat_len, List.length_take]; omega), List.take_of_length_le (by rw [flat_len, List.length_take]; omega)]
theorem Blk.cell {w : World} {g cap : Nat} {cur : List Sx} (h : Blk w g cap cur) {j : Nat} {x : Sx} (hj : cur[j]? = some x) :
    w.cell? ⟨g, j * 5, none⟩ = some (.int .u64 (x.1.1 : Nat)) ∧ w.cell? ⟨g, j * 5 + 1, none⟩ = some (.int .i64 x.1.2.1) ∧ w.cell? ⟨g, j * 5 + 2, none⟩ = some (.int .u64 (x.1.2.2.1 : Nat)) ∧ w.cell? ⟨g, j * 5 + 3, none⟩ = some (.int .i64 x.1.2.2.2) ∧ w.cell? ⟨g, j * 5 + 4, none⟩ = some (.slice x.2.1 x.2.2.1 x.2.2.2) := by
  obtain ⟨r, h1, h2⟩ := h
  have hjl : j < cur.length := (List.getElem?_eq_some_iff.1 hj).1
  have key : ∀ i, i < 5 → w.cell? ⟨g, j * 5 + i, none⟩ = (cellsS x)[i]? := fun i hi => by
    unfold World.cell?
    rw [h1]
    simp only [List.getElem?_toArray]
    rw [List.getElem?_append_left (by rw [flat_len]; omega), show j * 5 + i = 5 * j + i by omega]
    exact flat_get cur j x i hj hi
  exact ⟨key 0 (by omega), key 1 (by omega), key 2 (by omega), key 3 (by omega), key 4 (by omega)⟩
theorem flat_set (ls : List Sx) (i : Nat) (x : Sx) (hi : i < ls.length) : flat (ls.set i x) = (flat ls).take (i * 5) ++ cellsS x ++ (flat ls).drop (i * 5 + 5) := by
  obtain ⟨a, y, b, rfl, rfl⟩ : ∃ a y b, ls = a ++ y :: b ∧ i = a.length := ⟨ls.take i, ls[i], ls.drop (i + 1), by simp, by rw [List.length_take]; omega⟩
  have l1 := flat_len a
  have e : (a ++ y :: b).set a.length x = a ++ x :: b := by simp
  rw [e, flat_app, flat_cons, flat_app, flat_cons]
  rw [List.take_append_of_le_length (by omega), List.take_of_length_le (by omega), List.drop_append, List.drop_of_length_le (by omega), show a.length * 5 + 5 - (flat a).length = (cellsS y).length by simp [cellsS]; omega]
  simp
theorem Blk.set {w : World} {g cap : Nat} {cur : List Sx} (h : Blk w g cap cur) {i : Nat} (hi : i < cur.length) (x : Sx) :
    ∃ w', Sem.run Try.prog (storeCells ⟨g, i * 5, none⟩ [.int .u64 (x.1.1 : Nat), .int .i64 x.1.2.1, .int .u64 (x.1.2.2.1 : Nat), .int .i64 x.1.2.2.2, .slice x.2.1 x.2.2.1 x.2.2.2] 0) w = .ok () w' ∧ Blk w' g cap (cur.set i x) ∧ w.grownBy w' (some g) := by
  obtain ⟨r, h1, h2⟩ := h
  have hl := flat_len cur
  have hrun := run_storeCells_at (P := Try.prog) g (i * 5) 37 (cellsS x) 0 _ w h1 (by simp [cellsS]; omega) (by simp [cellsS, Value.oneCell'])
  refine ⟨_, hrun, ⟨r, ?_, ?_⟩, gr_setRow _ _ _⟩
  · rw [setRow_heap _ _ _ _ _ _ h1]
    congr 3
    rw [flat_set _ _ _ hi]
    have a1 : (flat cur ++ r).take (i * 5 + 0) = (flat cur).take (i * 5) := List.take_append_of_le_length (by omega)
    have a2 : (flat cur ++ r).drop (i * 5 + 0 + (cellsS x).length) = (flat cur).drop (i * 5 + 5) ++ r := by
      rw [show i * 5 + 0 + (cellsS x).length = i * 5 + 5 by simp [cellsS], List.drop_append_of_le_length (by omega)]
    rw [a1, a2]
    simp
  · rw [← h2, List.length_append, List.length_append, flat_len, flat_len, List.length_set]
theorem infoS31 : (Try.prog.info? 37).map (·.size) = some 5 := by kernel_rfl
theorem Blk.free {w : World} {g cap : Nat} {cur : List Sx} (h : Blk w g cap cur) (j : Nat) : w.frozen? ⟨g, j, none⟩ = false := by
  obtain ⟨r, h1, h2⟩ := h
  simp [World.frozen?, h1]
/-- A store of a thing of several cells, by its run. -/
theorem wpList_store_cells {P : Program} {ops : Array Oper} {rest : List Oper} {o : Oper} {a : Act} {w : World} {Q : Exit → Act → World → Prop} (hgd : o.guard = none) (ty : TypeId) (x y : Operand) (ho : o.op = .store ty x y)
    (ad : Addr) (cells : Array Value) (hx : a.eval x = .pointer (some ad)) (hy : a.eval y = .agg cells) (hi : (P.info? ty).map (·.size) = some cells.size)
    (w' : World) (hrun : (storeCells ad cells.toList 0).run P w = .ok () w') (h : wpList P ops Q rest (a.put o.dst undef) w') : wpList P ops Q (o :: rest) a w := by
  have hsv : (storeVar ty ad (.agg cells)).run P w = .ok () w' := by
    cases hq : P.info? ty with
    | none => simp [hq] at hi
    | some i =>
      have hs : cells.size = i.size := by simp [hq] at hi; omega
      simp [storeVar, sizeOf, typeInfo, hq, Value.cells, hs, hrun]
  refine wpList_plain hgd fun K hK => ?_
  unfold Oper.wp execOp
  simp only [ho, hx, hy, Instr.storeAt, Instr.sureAddr, Sem.run_bind, Sem.run_pure, Result.andThen_ok, hsv]
  exact hK _ _ h
theorem step_store_cells {P : Program} {ops : Array Oper} {o : Oper} {a : Act} {w : World} {K : Act → World → Prop} {Q : Exit → Act → World → Prop} {E : Prop} (hgd : o.guard = none) (ty : TypeId) (x y : Operand) (ho : o.op = .store ty x y)
    (ad : Addr) (cells : Array Value) (hx : a.eval x = .pointer (some ad)) (hy : a.eval y = .agg cells) (hi : (P.info? ty).map (·.size) = some cells.size)
    (w' : World) (hrun : (storeCells ad cells.toList 0).run P w = .ok () w') (h : K (a.put o.dst undef) w') : if Region.wanted o (yielded ops a.tmps) = true then Oper.wp P o a w K Q else E := by
  have hsv : (storeVar ty ad (.agg cells)).run P w = .ok () w' := by
    cases hq : P.info? ty with
    | none => simp [hq] at hi
    | some i =>
      have hs : cells.size = i.size := by simp [hq] at hi; omega
      simp [storeVar, sizeOf, typeInfo, hq, Value.cells, hs, hrun]
  have hw : Region.wanted o (yielded ops a.tmps) = true := by simp [Region.wanted, hgd]
  rw [if_pos hw]
  unfold Oper.wp execOp
  simp only [ho, hx, hy, Instr.storeAt, Instr.sureAddr, Sem.run_bind, Sem.run_pure, Result.andThen_ok, hsv]
  exact h
end Go.Proofs.Ytooeemhlpmiceaa.T
