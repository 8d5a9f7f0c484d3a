/-
  States as they lie in memory, cell by cell, and a block of them that is written to.
  slices' swapRange of states.
  slices' rotate of states.
  By what is sorted, and what stays ahead of its like: plain facts on lists of states that bear where they stood.
  slices' insertion sort of states: those that were told first stay ahead of their like.
  slices' symMerge of states, where the left part is one state.
  slices' symMerge of states, where the right part is one state.
  slices' symMerge of states: two sorted stretches become one.
  slices.SortStableFunc of states.
-/
import Derived.Test.YtlaihgdfedalmaaGreatFMath
import Derived.Test.YtlaihgdfedalmaaGreatECmp
import Derived.Test.YtlaihgdfedalmaaGreatEOwn
import Derived.Sort.Grow
import Derived.Laws.CopyRow
import Derived.Lib.SliceRun
import Derived.Laws.Tables
import Derived.BigRegion
import Derived.Deep.Cut
import Derived.Deep.CutRange
namespace Go.Proofs.YtlaihgdfedalmaaGreat.T
open Go.RowKit Go.Sort
set_option linter.unusedVariables false

/-- A state: its view's number, its floor, and where its items lie. -/
abbrev Sx := Lb × Sl
def cellsS (x : Sx) : List Value := [.int .u64 (x.1.1 : Nat), .int .i64 x.1.2.1, .int .u64 (x.1.2.2.1 : Nat), .int .i64 x.1.2.2.2, .slice x.2.1 x.2.2.1 x.2.2.2]
def flat (ls : List Sx) : List Value := ls.flatMap cellsS
theorem flat_len (ls : List Sx) : (flat ls).length = ls.length * 5 := by
  induction ls with
  | nil => rfl
  | cons a r ih => simp [flat, cellsS] at ih ⊢; omega
theorem flat_cons (x : Sx) (ls : List Sx) : flat (x :: ls) = cellsS x ++ flat ls := by simp [flat]
theorem flat_app (a b : List Sx) : flat (a ++ b) = flat a ++ flat b := by simp [flat]
theorem flat_one {ls : List Sx} {u : Value} (h : u ∈ flat ls) : u.oneCell' = true := by
  obtain ⟨x, _, hx⟩ := List.mem_flatMap.1 h
  simp [cellsS] at hx
  rcases hx with rfl | rfl | rfl | rfl | rfl <;> rfl
theorem flat_get : ∀ (ls : List Sx) (j : Nat) (x : Sx) (i : Nat), ls[j]? = some x → i < 5 → (flat ls)[5 * j + i]? = (cellsS x)[i]?
  | [], j, x, i, h, hi => by simp at h
  | a :: r, 0, x, i, h, hi => by
    simp at h; subst h
    rw [flat_cons, List.getElem?_append_left (by simp [cellsS]; omega)]; simp
  | a :: r, j + 1, x, i, h, hi => by
    rw [flat_cons, List.getElem?_append_right (by simp [cellsS]; omega), show 5 * (j + 1) + i - (cellsS a).length = 5 * j + i by simp [cellsS]; omega]
    exact flat_get r j x i (by simpa using h) hi
theorem gr_refl (w : World) (r : Option Nat) : w.grownBy w r := ⟨rfl, rfl, rfl, Nat.le_refl _, fun _ _ _ => rfl⟩
theorem gr_trans {a b c : World} {r : Option Nat} (h : a.grownBy b r) (k : b.grownBy c r) : a.grownBy c r :=
  ⟨k.os.trans h.os, k.tape.trans h.tape, k.output.trans h.output, Nat.le_trans h.size k.size, fun i hi hne => (k.block i (Nat.lt_of_lt_of_le hi h.size) hne).trans (h.block i hi hne)⟩
theorem gr_below {a b : World} (h : Below a.heap.size a b) (r : Option Nat) : a.grownBy b r := ⟨h.os, h.tape, h.output, h.size, fun i hi _ => h.block i hi⟩
theorem gr_setRow (w : World) (g : Nat) (cs : Array Value) : w.grownBy (w.setRow g cs) (some g) := ⟨rfl, rfl, rfl, by simp, fun i hi hne => setRow_other _ _ _ _ (fun e => hne (by rw [e]))⟩

/-- Block g has these labels, and behind them what is left of its room. -/
def Blk (w : World) (g cap : Nat) (cur : List Sx) : Prop := ∃ rest : List Value, w.heap[g]? = some (.cells (flat cur ++ rest).toArray 41 (0, 0)) ∧ (flat cur ++ rest).length = cap * 5
theorem Blk.of_block {w w' : World} {g cap : Nat} {cur : List Sx} (h : Blk w g cap cur) (e : w'.heap[g]? = w.heap[g]?) : Blk w' g cap cur := by
  obtain ⟨r, h1, h2⟩ := h
  exact ⟨r, by rw [e]; exact h1, h2⟩
theorem Blk.lt {w : World} {g cap : Nat} {cur : List Sx} (h : Blk w g cap cur) : g < w.heap.size := by
  obtain ⟨r, h1, _⟩ := h
  exact (Array.getElem?_eq_some_iff.1 h1).1
theorem Blk.up {w w' : World} {g cap : Nat} {cur : List Sx} (h : Blk w g cap cur) (u : Below w.heap.size w w') : Blk w' g cap cur := h.of_block (u.block g h.lt)
theorem Blk.len {w : World} {g cap : Nat} {cur : List Sx} (h : Blk w g cap cur) : cur.length ≤ cap := by
  obtain ⟨r, _, h2⟩ := h
  rw [List.length_append, flat_len] at h2
  omega
theorem Blk.ofOwn {w : World} {B n g cap : Nat} {ls : List Sx} (h : w.ownsRow B 41 5 (.slice (some ⟨g, 0, none⟩) n cap) n (flat ls)) : Blk w g cap ls ∧ B ≤ g ∧ n ≤ cap ∧ cap ≤ maxLen := by
  rcases h.2 with ⟨h0, _⟩ | ⟨g', cap', cur, h0, a, b, c, d, e, f⟩
  · cases h0
  · simp only [Value.slice.injEq, Option.some.injEq, Addr.mk.injEq] at h0
    obtain ⟨⟨rfl, _, _⟩, _, rfl⟩ := h0
    refine ⟨⟨cur.toList.drop (n * 5), ?_, ?_⟩, a, c, d⟩
    · rw [b, ← f, List.take_append_drop]
    · rw [← f, List.take_append_drop]; simpa using e
theorem Blk.own {w : World} {B g cap : Nat} {cur : List Sx} (h : Blk w g cap cur) (hB : B ≤ g) (hc : cap ≤ maxLen) (i : Nat) (hi : i ≤ cur.length) : w.ownsRow B 41 5 (.slice (some ⟨g, 0, none⟩) i cap) i (flat (cur.take i)) := by
  have hl := h.len
  obtain ⟨r, h1, h2⟩ := h
  refine ⟨by rw [flat_len, List.length_take]; omega, .inr ⟨g, cap, _, rfl, hB, h1, by omega, hc, by simpa using h2, ?_⟩⟩
  have e : flat cur = flat (cur.take i) ++ flat (cur.drop i) := by rw [← flat_app, List.take_append_drop]
  simp only [e, List.append_assoc]
  rw [List.take_append_of_le_length (by rw [flat_len, List.length_take]; omega), List.take_of_length_le (by rw [flat_len, List.length_take]; omega)]
theorem Blk.cell {w : World} {g cap : Nat} {cur : List Sx} (h : Blk w g cap cur) {j : Nat} {x : Sx} (hj : cur[j]? = some x) :
    w.cell? ⟨g, j * 5, none⟩ = some (.int .u64 (x.1.1 : Nat)) ∧ w.cell? ⟨g, j * 5 + 1, none⟩ = some (.int .i64 x.1.2.1) ∧ w.cell? ⟨g, j * 5 + 2, none⟩ = some (.int .u64 (x.1.2.2.1 : Nat)) ∧ w.cell? ⟨g, j * 5 + 3, none⟩ = some (.int .i64 x.1.2.2.2) ∧ w.cell? ⟨g, j * 5 + 4, none⟩ = some (.slice x.2.1 x.2.2.1 x.2.2.2) := by
  obtain ⟨r, h1, h2⟩ := h
  have hjl : j < cur.length := (List.getElem?_eq_some_iff.1 hj).1
  have key : ∀ i, i < 5 → w.cell? ⟨g, j * 5 + i, none⟩ = (cellsS x)[i]? := fun i hi => by
    unfold World.cell?
    rw [h1]
    simp only [List.getElem?_toArray]
    rw [List.getElem?_append_left (by rw [flat_len]; omega), show j * 5 + i = 5 * j + i by omega]
    exact flat_get cur j x i hj hi
  exact ⟨key 0 (by omega), key 1 (by omega), key 2 (by omega), key 3 (by omega), key 4 (by omega)⟩
theorem flat_set (ls : List Sx) (i : Nat) (x : Sx) (hi : i < ls.length) : flat (ls.set i x) = (flat ls).take (i * 5) ++ cellsS x ++ (flat ls).drop (i * 5 + 5) := by
  obtain ⟨a, y, b, rfl, rfl⟩ : ∃ a y b, ls = a ++ y :: b ∧ i = a.length := ⟨ls.take i, ls[i], ls.drop (i + 1), by simp, by rw [List.length_take]; omega⟩
  have l1 := flat_len a
  have e : (a ++ y :: b).set a.length x = a ++ x :: b := by simp
  rw [e, flat_app, flat_cons, flat_app, flat_cons]
  rw [List.take_append_of_le_length (by omega), List.take_of_length_le (by omega), List.drop_append, List.drop_of_length_le (by omega), show a.length * 5 + 5 - (flat a).length = (cellsS y).length by simp [cellsS]; omega]
  simp
theorem Blk.set {w : World} {g cap : Nat} {cur : List Sx} (h : Blk w g cap cur) {i : Nat} (hi : i < cur.length) (x : Sx) :
    ∃ w', Sem.run Tryz.prog (storeCells ⟨g, i * 5, none⟩ [.int .u64 (x.1.1 : Nat), .int .i64 x.1.2.1, .int .u64 (x.1.2.2.1 : Nat), .int .i64 x.1.2.2.2, .slice x.2.1 x.2.2.1 x.2.2.2] 0) w = .ok () w' ∧ Blk w' g cap (cur.set i x) ∧ w.grownBy w' (some g) := by
  obtain ⟨r, h1, h2⟩ := h
  have hl := flat_len cur
  have hrun := run_storeCells_at (P := Tryz.prog) g (i * 5) 41 (cellsS x) 0 _ w h1 (by simp [cellsS]; omega) (by simp [cellsS, Value.oneCell'])
  refine ⟨_, hrun, ⟨r, ?_, ?_⟩, gr_setRow _ _ _⟩
  · rw [setRow_heap _ _ _ _ _ _ h1]
    congr 3
    rw [flat_set _ _ _ hi]
    have a1 : (flat cur ++ r).take (i * 5 + 0) = (flat cur).take (i * 5) := List.take_append_of_le_length (by omega)
    have a2 : (flat cur ++ r).drop (i * 5 + 0 + (cellsS x).length) = (flat cur).drop (i * 5 + 5) ++ r := by
      rw [show i * 5 + 0 + (cellsS x).length = i * 5 + 5 by simp [cellsS], List.drop_append_of_le_length (by omega)]
    rw [a1, a2]
    simp
  · rw [← h2, List.length_append, List.length_append, flat_len, flat_len, List.length_set]
theorem Blk.free {w : World} {g cap : Nat} {cur : List Sx} (h : Blk w g cap cur) (j : Nat) : w.frozen? ⟨g, j, none⟩ = false := by
  obtain ⟨r, h1, h2⟩ := h
  simp [World.frozen?, h1]
/-- A store of a thing of several cells, by its run. -/
theorem wpList_store_cells {P : Program} {ops : Array Oper} {rest : List Oper} {o : Oper} {a : Act} {w : World} {Q : Exit → Act → World → Prop} (hgd : o.guard = none) (ty : TypeId) (x y : Operand) (ho : o.op = .store ty x y)
    (ad : Addr) (cells : Array Value) (hx : a.eval x = .pointer (some ad)) (hy : a.eval y = .agg cells) (hi : (P.info? ty).map (·.size) = some cells.size)
    (w' : World) (hrun : (storeCells ad cells.toList 0).run P w = .ok () w') (h : wpList P ops Q rest (a.put o.dst undef) w') : wpList P ops Q (o :: rest) a w := by
  have hsv : (storeVar ty ad (.agg cells)).run P w = .ok () w' := by
    cases hq : P.info? ty with
    | none => simp [hq] at hi
    | some i =>
      have hs : cells.size = i.size := by simp [hq] at hi; omega
      simp [storeVar, sizeOf, typeInfo, hq, Value.cells, hs, hrun]
  refine wpList_plain hgd fun K hK => ?_
  unfold Oper.wp execOp
  simp only [ho, hx, hy, Instr.storeAt, Instr.sureAddr, Sem.run_bind, Sem.run_pure, Result.andThen_ok, hsv]
  exact hK _ _ h
end Go.Proofs.YtlaihgdfedalmaaGreat.T
namespace Go.Proofs.YtlaihgdfedalmaaGreat.T
open Go.RowKit Go.Sort
set_option linter.unusedVariables false

abbrev Tg := Sx × Nat
def BlkT (w : World) (g cap : Nat) (l : List Tg) : Prop := Blk w g cap (l.map (·.1))

theorem BlkT.drew {w : World} {g cap : Nat} {l : List Tg} (h : BlkT w g cap l) : BlkT w.drew g cap l := h
theorem gr_drew {a w : World} {r : Option Nat} (h : a.grownBy w r) : a.grownBy w.drew r := ⟨h.os, h.tape, h.output, h.size, h.block⟩
theorem mid_get {α : Type} (X : List α) (y : α) (Y : List α) {j : Nat} (h : X.length = j) : (X ++ y :: Y)[j]? = some y := by subst h; simp
theorem mid_set {α : Type} (X : List α) (y z : α) (Y : List α) {j : Nat} (h : X.length = j) : (X ++ y :: Y).set j z = X ++ z :: Y := by subst h; simp
theorem BlkT.get {w : World} {g cap j : Nat} {X Y : List Tg} {y : Tg} (h : BlkT w g cap (X ++ y :: Y)) (hj : X.length = j) :
    w.cell? ⟨g, j * 5, none⟩ = some (.int .u64 (y.1.1.1 : Nat)) ∧ w.cell? ⟨g, j * 5 + 1, none⟩ = some (.int .i64 y.1.1.2.1) ∧ w.cell? ⟨g, j * 5 + 2, none⟩ = some (.int .u64 (y.1.1.2.2.1 : Nat)) ∧ w.cell? ⟨g, j * 5 + 3, none⟩ = some (.int .i64 y.1.1.2.2.2) ∧ w.cell? ⟨g, j * 5 + 4, none⟩ = some (.slice y.1.2.1 y.1.2.2.1 y.1.2.2.2) := by
  refine Blk.cell h (x := y.1) ?_
  rw [List.getElem?_map, mid_get X y Y hj]
  rfl
/-- An element laid, cell by cell. -/
theorem Blk.put {w : World} {g cap : Nat} {cur : List Sx} (h : Blk w g cap cur) {i : Nat} (hi : i < cur.length) (x : Sx) :
    Blk (((((w.setCell ⟨g, i * 5, none⟩ (.int .u64 (x.1.1 : Nat))).setCell ⟨g, i * 5 + 1, none⟩ (.int .i64 x.1.2.1)).setCell ⟨g, i * 5 + 2, none⟩ (.int .u64 (x.1.2.2.1 : Nat))).setCell ⟨g, i * 5 + 3, none⟩ (.int .i64 x.1.2.2.2)).setCell ⟨g, i * 5 + 4, none⟩ (.slice x.2.1 x.2.2.1 x.2.2.2)) g cap (cur.set i x) ∧
    w.grownBy (((((w.setCell ⟨g, i * 5, none⟩ (.int .u64 (x.1.1 : Nat))).setCell ⟨g, i * 5 + 1, none⟩ (.int .i64 x.1.2.1)).setCell ⟨g, i * 5 + 2, none⟩ (.int .u64 (x.1.2.2.1 : Nat))).setCell ⟨g, i * 5 + 3, none⟩ (.int .i64 x.1.2.2.2)).setCell ⟨g, i * 5 + 4, none⟩ (.slice x.2.1 x.2.2.1 x.2.2.2)) (some g) := by
  obtain ⟨w', hrun, hb, hg⟩ := h.set hi x
  obtain ⟨y, hy⟩ : ∃ y, cur[i]? = some y := ⟨cur[i], List.getElem?_eq_getElem hi⟩
  obtain ⟨c0, c1, c2, c3, c4⟩ := h.cell hy
  have h2 := run_storeCells_cells (P := Tryz.prog) g (i * 5) [.int .u64 (x.1.1 : Nat), .int .i64 x.1.2.1, .int .u64 (x.1.2.2.1 : Nat), .int .i64 x.1.2.2.2, .slice x.2.1 x.2.2.1 x.2.2.2] 0 w
    (fun j hj => by
      have : j = 0 ∨ j = 1 ∨ j = 2 ∨ j = 3 ∨ j = 4 := by simp at hj; omega
      rcases this with rfl | rfl | rfl | rfl | rfl <;> simp [c0, c1, c2, c3, c4])
    (fun j _ => h.free _) (by simp [Value.oneCell'])
  rw [hrun] at h2
  have e : w' = w.setCells g (i * 5 + 0) [.int .u64 (x.1.1 : Nat), .int .i64 x.1.2.1, .int .u64 (x.1.2.2.1 : Nat), .int .i64 x.1.2.2.2, .slice x.2.1 x.2.2.1 x.2.2.2] := by injection h2
  rw [e] at hb hg
  exact ⟨hb, hg⟩
theorem BlkT.put {w : World} {g cap j : Nat} {X Y : List Tg} {y : Tg} (h : BlkT w g cap (X ++ y :: Y)) (hj : X.length = j) (z : Tg) :
    BlkT (((((w.setCell ⟨g, j * 5, none⟩ (.int .u64 (z.1.1.1 : Nat))).setCell ⟨g, j * 5 + 1, none⟩ (.int .i64 z.1.1.2.1)).setCell ⟨g, j * 5 + 2, none⟩ (.int .u64 (z.1.1.2.2.1 : Nat))).setCell ⟨g, j * 5 + 3, none⟩ (.int .i64 z.1.1.2.2.2)).setCell ⟨g, j * 5 + 4, none⟩ (.slice z.1.2.1 z.1.2.2.1 z.1.2.2.2)) g cap (X ++ z :: Y) ∧
    w.grownBy (((((w.setCell ⟨g, j * 5, none⟩ (.int .u64 (z.1.1.1 : Nat))).setCell ⟨g, j * 5 + 1, none⟩ (.int .i64 z.1.1.2.1)).setCell ⟨g, j * 5 + 2, none⟩ (.int .u64 (z.1.1.2.2.1 : Nat))).setCell ⟨g, j * 5 + 3, none⟩ (.int .i64 z.1.1.2.2.2)).setCell ⟨g, j * 5 + 4, none⟩ (.slice z.1.2.1 z.1.2.2.1 z.1.2.2.2)) (some g) := by
  have := Blk.put h (i := j) (by simp; omega) z.1
  rw [← List.map_set, mid_set X y z Y hj] at this
  exact this

set_option maxRecDepth 10000 in
set_option maxHeartbeats 1000000 in
theorem swapRange_any (w : World) (g cap n : Nat) (fv : Value) (A U M V Z : List Tg) (hb : BlkT w g cap (A ++ U ++ M ++ V ++ Z)) (hUV : U.length = V.length) (hn : (A ++ U ++ M ++ V ++ Z).length = n) (hmax : n ≤ 1000000) :
    Calls Tryz.prog 195 #[.slice (some ⟨g, 0, none⟩) n cap, .int .i64 (A.length : Nat), .int .i64 ((A.length + U.length + M.length : Nat) : Nat), .int .i64 (U.length : Nat), fv] w fun e w' => e = .returned (.tuple #[]) ∧ BlkT w' g cap (A ++ V ++ M ++ U ++ Z) ∧ w.grownBy w' (some g) := by
  obtain ⟨a, HA⟩ : ∃ a, Hid (A.length = a) := ⟨_, rfl⟩
  obtain ⟨k, HK⟩ : ∃ k, Hid (U.length = k) := ⟨_, rfl⟩
  obtain ⟨b, HB⟩ : ∃ b, Hid (A.length + U.length + M.length = b) := ⟨_, rfl⟩
  rw [HB.out, HA.out, HK.out]
  have hab : a + k ≤ b := by have := HA.out; have := HB.out; have := HK.out; omega
  have hbn : b + k ≤ n := by have := HA.out; have := HB.out; have := HK.out; simp only [List.length_append] at hn; omega
  have HN : Hid ((A ++ U ++ M ++ V ++ Z).length = n) := hn
  have HUV : Hid (U.length = V.length) := hUV
  have HB0 : Hid (BlkT w g cap (A ++ U ++ M ++ V ++ Z)) := hb
  clear hb hn hUV
  go_enter Tryz.func195, Tryz.ntmps195
  go_wp2_with fail
  go_loopw [10] (fun iv wr => ∃ (i : Nat) (U1 U2 V1 V2 : List Tg), iv = .int .i64 i ∧ i ≤ k ∧ U = U1 ++ U2 ∧ V = V1 ++ V2 ∧ U1.length = i ∧ V1.length = i ∧ BlkT wr g cap (A ++ V1 ++ U2 ++ M ++ U1 ++ V2 ++ Z) ∧ w.grownBy wr (some g)) (fun iv _ => k - (intOf iv).toNat)
  case atStart => exact ⟨0, [], U, [], V, rfl, by omega, rfl, rfl, rfl, rfl, by simpa using HB0.out, gr_refl _ _⟩
  case round =>
    obtain ⟨i, U1, U2, V1, V2, rfl, hi, hU, hV, hU1, hV1, hblk, hgr⟩ := hrel
    by_cases hlt : i < k
    · have hltI : (i : Int) < (k : Int) := by omega
      obtain ⟨u, U3, rfl⟩ : ∃ u U3, U2 = u :: U3 := by
        cases U2 with
        | nil => exfalso; have := HK.out; rw [hU] at this; simp at this; omega
        | cons u U3 => exact ⟨u, U3, rfl⟩
      obtain ⟨v, V3, rfl⟩ : ∃ v V3, V2 = v :: V3 := by
        cases V2 with
        | nil => exfalso; have h1 := HK.out; have h2 := HUV.out; rw [hV] at h2; simp at h2; omega
        | cons v V3 => exact ⟨v, V3, rfl⟩
      have el1 : A ++ V1 ++ (u :: U3) ++ M ++ U1 ++ (v :: V3) ++ Z = (A ++ V1) ++ u :: (U3 ++ M ++ U1 ++ (v :: V3) ++ Z) := by simp
      have el2 : (A ++ V1) ++ v :: (U3 ++ M ++ U1 ++ (v :: V3) ++ Z) = (A ++ V1 ++ (v :: U3) ++ M ++ U1) ++ v :: (V3 ++ Z) := by simp
      have el3 : A ++ V1 ++ (u :: U3) ++ M ++ U1 ++ (v :: V3) ++ Z = (A ++ V1 ++ (u :: U3) ++ M ++ U1) ++ v :: (V3 ++ Z) := by simp
      have el4 : (A ++ V1 ++ (v :: U3) ++ M ++ U1) ++ u :: (V3 ++ Z) = A ++ (V1 ++ [v]) ++ U3 ++ M ++ (U1 ++ [u]) ++ V3 ++ Z := by simp
      have hia : (A ++ V1).length = a + i := by have := HA.out; simp; omega
      have hUl : U1.length + (U3.length + 1) = k := by have := HK.out; rw [hU] at this; simpa using this
      have hib : (A ++ V1 ++ (u :: U3) ++ M ++ U1).length = b + i := by have h1 := HA.out; have h2 := HB.out; have h3 := HK.out; simp only [List.length_append, List.length_cons]; omega
      have hib' : (A ++ V1 ++ (v :: U3) ++ M ++ U1).length = b + i := by rw [← hib]; simp
      obtain ⟨c0, c1, c2, c3, c4⟩ := BlkT.get (by rw [el1] at hblk; exact hblk) hia
      obtain ⟨d0, d1, d2, d3, d4⟩ := BlkT.get (by rw [el3] at hblk; exact hblk) hib
      have p1 := BlkT.put (by rw [el1] at hblk; exact hblk) hia v
      rw [el2] at p1
      have p2 := BlkT.put p1.1 hib' u
      rw [el4] at p2
      have HP : Hid _ := And.intro p2.1 (gr_trans hgr (gr_trans p1.2 p2.2))
      have hfz := fun j => Blk.free hblk j
      have hU' : U = (U1 ++ [u]) ++ U3 := by rw [hU]; simp
      have hV' : V = (V1 ++ [v]) ++ V3 := by rw [hV]; simp
      have HU : Hid (U = (U1 ++ [u]) ++ U3 ∧ V = (V1 ++ [v]) ++ V3 ∧ (U1 ++ [u]).length = i + 1 ∧ (V1 ++ [v]).length = i + 1) := ⟨hU', hV', by simp; omega, by simp; omega⟩
      have hi0 : ¬ ((i : Int) < 0) := by omega
      have h1n : (a : Int) + (i : Int) < (n : Int) := by omega
      have h2n : (b : Int) + (i : Int) < (n : Int) := by omega
      have h10 : ¬ ((a : Int) + (i : Int) < 0) := by omega
      have h20 : ¬ ((b : Int) + (i : Int) < 0) := by omega
      clear p1 p2 el1 el2 el3 el4 hblk hU hV hU' hV' hgr hia hib hib' hUl hU1 hV1
      go_wp2_with fail
      go_big_region
      all_goals go_wp2
      go_roundw
      case rel => first | exact ⟨i + 1, U1 ++ [u], U3, V1 ++ [v], V3, by go_num, by omega, HU.out.1, HU.out.2.1, HU.out.2.2.1, HU.out.2.2.2, HP.out.1.drew, gr_drew HP.out.2⟩ | ((repeat apply Exists.intro); exact ⟨⟨i + 1, U1 ++ [u], U3, V1 ++ [v], V3, by go_num, by omega, HU.out.1, HU.out.2.1, HU.out.2.2.1, HU.out.2.2.2, HP.out.1.drew, gr_drew HP.out.2⟩, rfl⟩)
      case measure => simp [intOf]; omega
    · have hik : i = k := by omega
      have hltI : ¬ ((i : Int) < (k : Int)) := by omega
      have HE : Hid (BlkT wr g cap (A ++ V ++ M ++ U ++ Z) ∧ w.grownBy wr (some g)) := by
        have h2 : U2 = [] := by have h1 := HK.out; rw [hU] at h1; simp at h1; exact List.length_eq_zero_iff.1 (by omega)
        have h3 : V2 = [] := by have h1 := HK.out; have h4 := HUV.out; rw [hV] at h4; simp at h4; exact List.length_eq_zero_iff.1 (by omega)
        subst h2 h3
        rw [hU, hV]
        exact ⟨by simpa using hblk, hgr⟩
      clear hblk hgr hU hV
      go_wp2
      go_end0
      exact ⟨rfl, by simpa using HE.out.1, HE.out.2⟩
end Go.Proofs.YtlaihgdfedalmaaGreat.T
namespace Go.Proofs.YtlaihgdfedalmaaGreat.T
open Go.RowKit Go.Sort
set_option linter.unusedVariables false

theorem swapRange_at (w : World) (g cap n : Nat) (fv : Value) (A U M V Z : List Tg) (ia ib ik : Int) (hb : BlkT w g cap (A ++ U ++ M ++ V ++ Z)) (hUV : U.length = V.length) (hn : (A ++ U ++ M ++ V ++ Z).length = n) (hmax : n ≤ 1000000) (h1 : ia = (A.length : Nat)) (h2 : ib = ((A.length + U.length + M.length : Nat) : Nat)) (h3 : ik = (U.length : Nat)) :
    Calls Tryz.prog 195 #[.slice (some ⟨g, 0, none⟩) n cap, .int .i64 ia, .int .i64 ib, .int .i64 ik, fv] w fun e w' => e = .returned (.tuple #[]) ∧ BlkT w' g cap (A ++ V ++ M ++ U ++ Z) ∧ w.grownBy w' (some g) := by
  subst h1 h2 h3
  exact swapRange_any w g cap n fv A U M V Z hb hUV hn hmax

set_option maxRecDepth 10000 in
set_option maxHeartbeats 1000000 in
theorem rotate_any (w : World) (g cap n : Nat) (fv : Value) (A U V Z : List Tg) (ia im ib : Int) (hb : BlkT w g cap (A ++ U ++ V ++ Z)) (hU : 0 < U.length) (hV : 0 < V.length) (hn : (A ++ U ++ V ++ Z).length = n) (hmax : n ≤ 1000000) (h1 : ia = (A.length : Nat)) (h2 : im = ((A.length + U.length : Nat) : Nat)) (h3 : ib = ((A.length + U.length + V.length : Nat) : Nat)) :
    Calls Tryz.prog 184 #[.slice (some ⟨g, 0, none⟩) n cap, .int .i64 ia, .int .i64 im, .int .i64 ib, fv] w fun e w' => e = .returned (.tuple #[]) ∧ BlkT w' g cap (A ++ V ++ U ++ Z) ∧ w.grownBy w' (some g) := by
  obtain ⟨F, HF⟩ : ∃ F, Hid (A ++ V ++ U ++ Z = F) := ⟨_, rfl⟩
  rw [HF.out]
  obtain ⟨m, HM⟩ : ∃ m : Nat, Hid (A.length + U.length = m) := ⟨_, rfl⟩
  rw [HM.out] at h2
  subst h2
  have hFl : F.length = n := by rw [← HF.out, ← hn]; simp; omega
  have hmn : m ≤ n := by have := HM.out; rw [← hn]; simp; omega
  have H0 : Hid (∃ (A' X Y Z' : List Tg), BlkT w g cap (A' ++ X ++ Y ++ Z') ∧ ((X.length : Nat) : Int) = (m : Int) - ia ∧ ((Y.length : Nat) : Int) = ib - (m : Int) ∧ A'.length + X.length = m ∧ 0 < X.length ∧ 0 < Y.length ∧ A' ++ Y ++ X ++ Z' = F) :=
    ⟨A, U, V, Z, hb, by have := HM.out; omega, by have := HM.out; omega, HM.out, hU, hV, HF.out⟩
  have hia : 0 ≤ ia ∧ ia ≤ 1000000 ∧ 0 ≤ ib ∧ ib ≤ 1000000 := by have := HM.out; rw [← hn] at hmax; simp only [List.length_append] at hmax; omega
  obtain ⟨ha0, ha1, hb0, hb1⟩ := hia
  clear hb hn h1 h3 hU hV HM
  go_enter Tryz.func184, Tryz.ntmps184
  go_wp2_with fail
  go_loopw [10, 11] (fun iv jv wr => ∃ (i j : Nat) (A' X Y Z' : List Tg), iv = .int .i64 i ∧ jv = .int .i64 j ∧ BlkT wr g cap (A' ++ X ++ Y ++ Z') ∧ X.length = i ∧ Y.length = j ∧ A'.length + i = m ∧ 0 < i ∧ 0 < j ∧ A' ++ Y ++ X ++ Z' = F ∧ w.grownBy wr (some g)) (fun iv jv _ => (intOf iv).toNat + (intOf jv).toNat)
  case atStart =>
    obtain ⟨A', X, Y, Z', hb, e1, e2, e3, e4, e5, e6⟩ := H0.out
    exact ⟨X.length, Y.length, A', X, Y, Z', by rw [e1], by rw [e2], hb, rfl, rfl, e3, e4, e5, e6, gr_refl _ _⟩
  case round =>
    obtain ⟨i, j, A', X, Y, Z', rfl, rfl, hblk, hX, hY, hA, hi0, hj0, hF, hgr⟩ := hrel
    have hlen : A'.length + Y.length + X.length + Z'.length = n := by rw [← hF] at hFl; simpa [Nat.add_assoc] using hFl
    have hi1 : i ≤ 1000000 := by omega
    have hj1 : j ≤ 1000000 := by omega
    have hm1 : m ≤ 1000000 := by omega
    by_cases hij : i = j
    · subst hij
      have hne : ((i : Int) != (i : Int)) = false := by simp
      have hsw := swapRange_at wr g cap n fv A' X [] Y Z' ((m : Int) - (i : Int)) (m : Int) (i : Int) (by simpa using hblk) (by omega) (by simp; omega) hmax (by omega) (by simp; omega) (by omega)
      have HF' : Hid (A' ++ Y ++ X ++ Z' = F) := hF
      clear hblk hF H0
      go_wp2_with fail
      refine hsw.mono ?_
      rintro e w1 ⟨rfl, hb1', hg1⟩
      have HE : Hid (BlkT w1 g cap F ∧ w.grownBy w1 (some g)) := ⟨by rw [← HF'.out]; simpa using hb1', gr_trans hgr hg1⟩
      clear hsw hb1' hg1 hgr
      go_wp2
      go_end0
      exact ⟨rfl, HE.out⟩
    · have hne : ((i : Int) != (j : Int)) = true := by simp; omega
      by_cases hgt : j < i
      · have hgtI : (j : Int) < (i : Int) := by omega
        obtain ⟨X1, X2, rfl, hX1⟩ : ∃ X1 X2, X = X1 ++ X2 ∧ X1.length = j := ⟨X.take j, X.drop j, by simp, by rw [List.length_take]; omega⟩
        have hX2 : X2.length = i - j := by rw [List.length_append] at hX; omega
        have hsw := swapRange_at wr g cap n fv A' X1 X2 Y Z' ((m : Int) - (i : Int)) (m : Int) (j : Int) (by simpa using hblk) (by omega) (by simp at hlen ⊢; omega) hmax (by omega) (by rw [List.length_append] at hX; omega) (by omega)
        have HF' : Hid ((A' ++ Y) ++ X1 ++ X2 ++ Z' = F) := by show _ = _; rw [← hF]; simp
        have hc : ((i - j : Nat) : Int) = (i : Int) - (j : Int) := by omega
        clear hblk hF H0
        go_wp2_with fail
        refine hsw.mono ?_
        rintro e w1 ⟨rfl, hb1', hg1⟩
        have hb2 : BlkT w1 g cap ((A' ++ Y) ++ X2 ++ X1 ++ Z') := by simpa using hb1'
        have hg2 := gr_trans hgr hg1
        have hA2 : (A' ++ Y).length + (i - j) = m := by simp; omega
        clear hsw hb1' hg1 hgr
        go_wp2
        go_roundw
        case rel => first | exact ⟨i - j, j, A' ++ Y, X2, X1, Z', by rw [hc], rfl, hb2, hX2, hX1, hA2, by omega, hj0, HF'.out, hg2⟩ | ((repeat apply Exists.intro); exact ⟨⟨i - j, j, A' ++ Y, X2, X1, Z', by rw [hc], rfl, hb2, hX2, hX1, hA2, by omega, hj0, HF'.out, hg2⟩, rfl⟩)
        case measure => simp [intOf]; omega
      · have hgtI : ¬ ((j : Int) < (i : Int)) := by omega
        obtain ⟨Y1, Y2, rfl, hY2⟩ : ∃ Y1 Y2, Y = Y1 ++ Y2 ∧ Y2.length = i := ⟨Y.take (j - i), Y.drop (j - i), by simp, by rw [List.length_drop]; omega⟩
        have hY1 : Y1.length = j - i := by rw [List.length_append] at hY; omega
        have hsw := swapRange_at wr g cap n fv A' X Y1 Y2 Z' ((m : Int) - (i : Int)) ((m : Int) + (j : Int) - (i : Int)) (i : Int) (by simpa using hblk) (by omega) (by simp at hlen ⊢; omega) hmax (by omega) (by omega) (by omega)
        have HF' : Hid (A' ++ Y1 ++ Y2 ++ (X ++ Z') = F) := by show _ = _; rw [← hF]; simp
        have hc : ((j - i : Nat) : Int) = (j : Int) - (i : Int) := by omega
        clear hblk hF H0
        go_wp2_with fail
        refine hsw.mono ?_
        rintro e w1 ⟨rfl, hb1', hg1⟩
        have hb2 : BlkT w1 g cap (A' ++ Y2 ++ Y1 ++ (X ++ Z')) := by simpa using hb1'
        have hg2 := gr_trans hgr hg1
        clear hsw hb1' hg1 hgr
        go_wp2
        go_roundw
        case rel => first | exact ⟨i, j - i, A', Y2, Y1, X ++ Z', rfl, by rw [hc], hb2, hY2, hY1, hA, hi0, by omega, HF'.out, hg2⟩ | ((repeat apply Exists.intro); exact ⟨⟨i, j - i, A', Y2, Y1, X ++ Z', rfl, by rw [hc], hb2, hY2, hY1, hA, hi0, by omega, HF'.out, hg2⟩, rfl⟩)
        case measure => simp [intOf]; omega
end Go.Proofs.YtlaihgdfedalmaaGreat.T
namespace Go.Proofs.YtlaihgdfedalmaaGreat.T
open Go.RowKit Go.Sort
set_option linter.unusedVariables false
set_option linter.unusedSimpArgs false

def OkS (x : Sx) : Prop := True
def sta (x : Sx) : Value := .agg #[.int .u64 (x.1.1 : Nat), .int .i64 x.1.2.1, .int .u64 (x.1.2.2.1 : Nat), .int .i64 x.1.2.2.2, .slice x.2.1 x.2.2.1 x.2.2.2]
def cmpS (x y : Sx) : Int := cmpL x.1 y.1
def ltK (x y : Sx) : Prop := ltL x.1 y.1
theorem cmpS_lt (x y : Sx) : cmpS x y < 0 ↔ ltK x y := cmpL_lt x.1 y.1
theorem cmpS_any (w : World) (x y : Sx) (hx : OkS x) (hy : OkS y) : Calls Tryz.prog 143 #[sta x, sta y] w fun e w' => e = .returned (.int .i64 (cmpS x y)) ∧ Up w w' := compareE_any w x.1 y.1 (.slice x.2.1 x.2.2.1 x.2.2.2) (.slice y.2.1 y.2.2.1 y.2.2.2)
/-- Comes a state ahead of another one: by what is sorted, or told first. -/
def ltT (a b : Tg) : Prop := ltK a.1 b.1 ∨ (¬ ltK b.1 a.1 ∧ a.2 < b.2)
theorem ltT_trans {a b c : Tg} (h : ltT a b) (k : ltT b c) : ltT a c := by unfold ltT ltK ltL at *; omega
theorem ltT_tri {a b : Tg} (hne : a.2 ≠ b.2) (h : ¬ ltT a b) : ltT b a := by unfold ltT ltK ltL at *; omega
theorem ltT_of {a b : Tg} (h : a.2 < b.2) : cmpS b.1 a.1 < 0 ↔ ltT b a := by rw [cmpS_lt]; unfold ltT ltK ltL; omega
def Asc (l : List Tg) : Prop := l.Pairwise ltT
def Tags (l : List Tg) : Prop := l.Pairwise (fun a b => a.2 < b.2)
def OkT (l : List Tg) : Prop := ∀ x ∈ l, OkS x.1
/-- Two states' cells. -/
def Two (g i j : Nat) (x y : Tg) (wx : World) : Prop :=
  (wx.cell? ⟨g, i * 5, none⟩ = some (.int .u64 (x.1.1.1 : Nat)) ∧ wx.cell? ⟨g, i * 5 + 1, none⟩ = some (.int .i64 x.1.1.2.1) ∧ wx.cell? ⟨g, i * 5 + 2, none⟩ = some (.int .u64 (x.1.1.2.2.1 : Nat)) ∧ wx.cell? ⟨g, i * 5 + 3, none⟩ = some (.int .i64 x.1.1.2.2.2) ∧ wx.cell? ⟨g, i * 5 + 4, none⟩ = some (.slice x.1.2.1 x.1.2.2.1 x.1.2.2.2)) ∧
  (wx.cell? ⟨g, j * 5, none⟩ = some (.int .u64 (y.1.1.1 : Nat)) ∧ wx.cell? ⟨g, j * 5 + 1, none⟩ = some (.int .i64 y.1.1.2.1) ∧ wx.cell? ⟨g, j * 5 + 2, none⟩ = some (.int .u64 (y.1.1.2.2.1 : Nat)) ∧ wx.cell? ⟨g, j * 5 + 3, none⟩ = some (.int .i64 y.1.1.2.2.2) ∧ wx.cell? ⟨g, j * 5 + 4, none⟩ = some (.slice y.1.2.1 y.1.2.2.1 y.1.2.2.2))
theorem Two.up {g i j : Nat} {x y : Tg} {w w' : World} (h : Two g i j x y w) (u : Up w w') : Two g i j x y w' := by
  obtain ⟨⟨h1, h2, h3, h4, h9⟩, h5, h6, h7, h8, h10⟩ := h
  exact ⟨⟨u.cell h1, u.cell h2, u.cell h3, u.cell h4, u.cell h9⟩, u.cell h5, u.cell h6, u.cell h7, u.cell h8, u.cell h10⟩
theorem BlkT.up {w w' : World} {g cap : Nat} {l : List Tg} (h : BlkT w g cap l) (u : Up w w') : BlkT w' g cap l := Blk.up h u.bl

theorem asc_ins {P1 P2 : List Tg} {x : Tg} (h : Asc (P1 ++ P2)) (h2 : ∀ y ∈ P2, ltT x y) (h1 : ∀ y ∈ P1, ltT y x) : Asc (P1 ++ x :: P2) := by
  unfold Asc at *
  rw [List.pairwise_append] at h ⊢
  obtain ⟨a, b, c⟩ := h
  refine ⟨a, List.pairwise_cons.2 ⟨h2, b⟩, fun u hu v hv => ?_⟩
  rw [List.mem_cons] at hv
  rcases hv with rfl | hv
  · exact h1 u hu
  · exact c u hu v hv

theorem BlkT.at {w : World} {g cap j : Nat} {l : List Tg} {y : Tg} (h : BlkT w g cap l) (hj : l[j]? = some y) :
    w.cell? ⟨g, j * 5, none⟩ = some (.int .u64 (y.1.1.1 : Nat)) ∧ w.cell? ⟨g, j * 5 + 1, none⟩ = some (.int .i64 y.1.1.2.1) ∧ w.cell? ⟨g, j * 5 + 2, none⟩ = some (.int .u64 (y.1.1.2.2.1 : Nat)) ∧ w.cell? ⟨g, j * 5 + 3, none⟩ = some (.int .i64 y.1.1.2.2.2) ∧ w.cell? ⟨g, j * 5 + 4, none⟩ = some (.slice y.1.2.1 y.1.2.2.1 y.1.2.2.2) := by
  refine Blk.cell h (x := y.1) ?_
  rw [List.getElem?_map, hj]
  rfl
theorem BlkT.two {w : World} {g cap i j : Nat} {l : List Tg} {x y : Tg} (h : BlkT w g cap l) (hi : l[i]? = some x) (hj : l[j]? = some y) : Two g i j x y w := ⟨h.at hi, h.at hj⟩

theorem asc_get {l : List Tg} (h : Asc l) {i j : Nat} {x y : Tg} (hi : l[i]? = some x) (hj : l[j]? = some y) (hij : i < j) : ltT x y := by
  obtain ⟨h1, rfl⟩ := List.getElem?_eq_some_iff.1 hi
  obtain ⟨h2, rfl⟩ := List.getElem?_eq_some_iff.1 hj
  exact (List.pairwise_iff_getElem.1 h) i j h1 h2 hij
theorem asc_le {l : List Tg} (h : Asc l) {i j : Nat} {x y : Tg} (hi : l[i]? = some x) (hj : l[j]? = some y) (hij : i ≤ j) : x = y ∨ ltT x y := by
  by_cases e : i = j
  · subst e; rw [hi] at hj; exact .inl (by simpa using hj)
  · exact .inr (asc_get h hi hj (by omega))
theorem mem_take_get {l : List Tg} {k : Nat} {x : Tg} (h : x ∈ l.take k) : ∃ i, i < k ∧ l[i]? = some x := by
  obtain ⟨i, hi, rfl⟩ := List.mem_iff_getElem.1 h
  rw [List.length_take] at hi
  exact ⟨i, by omega, by rw [List.getElem_take]; exact List.getElem?_eq_getElem (by omega)⟩
theorem mem_drop_get {l : List Tg} {k : Nat} {x : Tg} (h : x ∈ l.drop k) : ∃ i, k ≤ i ∧ l[i]? = some x := by
  obtain ⟨i, hi, rfl⟩ := List.mem_iff_getElem.1 h
  rw [List.length_drop] at hi
  exact ⟨k + i, by omega, by rw [List.getElem_drop]; exact List.getElem?_eq_getElem (by omega)⟩
theorem lt_le {a b c : Tg} (h : ltT a b) (k : b = c ∨ ltT b c) : ltT a c := by rcases k with rfl | k; exact h; exact ltT_trans h k
theorem le_lt {a b c : Tg} (h : a = b ∨ ltT a b) (k : ltT b c) : ltT a c := by rcases h with rfl | h; exact k; exact ltT_trans h k
/-- Behind the turn each of the first half is ahead of each of the second one. -/
theorem sm_split {L R : List Tg} (hL : Asc L) (hR : Asc R) (k1 k2 : Nat) (h1 : k1 = 0 ∨ k2 = R.length ∨ ∃ x y, L[k1 - 1]? = some x ∧ R[k2]? = some y ∧ ltT x y)
    (h2 : k1 = L.length ∨ k2 = 0 ∨ ∃ x y, L[k1]? = some x ∧ R[k2 - 1]? = some y ∧ ltT y x) : ∀ x ∈ L.take k1 ++ R.take k2, ∀ y ∈ L.drop k1 ++ R.drop k2, ltT x y := by
  intro x hx y hy
  rw [List.mem_append] at hx hy
  rcases hx with hx | hx <;> rcases hy with hy | hy <;> obtain ⟨i, hi, ei⟩ := mem_take_get hx <;> obtain ⟨j, hj, ej⟩ := mem_drop_get hy
  · exact asc_get hL ei ej (by omega)
  · have hjl := (List.getElem?_eq_some_iff.1 ej).1
    rcases h1 with h | h | ⟨u, v, hu, hv, huv⟩
    · omega
    · omega
    · exact le_lt (asc_le hL ei hu (by omega)) (lt_le huv (asc_le hR hv ej hj))
  · have hjl := (List.getElem?_eq_some_iff.1 ej).1
    rcases h2 with h | h | ⟨u, v, hu, hv, huv⟩
    · omega
    · omega
    · exact le_lt (asc_le hR ei hv (by omega)) (lt_le huv (asc_le hL hu ej hj))
  · exact asc_get hR ei ej (by omega)
theorem asc_app {A B : List Tg} (ha : Asc A) (hb : Asc B) (h : ∀ x ∈ A, ∀ y ∈ B, ltT x y) : Asc (A ++ B) := List.pairwise_append.2 ⟨ha, hb, h⟩
theorem asc_take {A : List Tg} (h : Asc A) (k : Nat) : Asc (A.take k) := List.Pairwise.sublist (List.take_sublist k A) h
theorem asc_drop {A : List Tg} (h : Asc A) (k : Nat) : Asc (A.drop k) := List.Pairwise.sublist (List.drop_sublist k A) h
/-- One put among others: where. -/
theorem asc_put {R : List Tg} {x : Tg} (hR : Asc R) (k : Nat) (h1 : k = 0 ∨ ∃ y, R[k - 1]? = some y ∧ ltT y x) (h2 : k = R.length ∨ ∃ y, R[k]? = some y ∧ ltT x y) : Asc (R.take k ++ x :: R.drop k) := by
  refine asc_ins (by rw [List.take_append_drop]; exact hR) (fun y hy => ?_) (fun y hy => ?_)
  · obtain ⟨j, hj, ej⟩ := mem_drop_get hy
    have hjl := (List.getElem?_eq_some_iff.1 ej).1
    rcases h2 with h | ⟨u, hu, huv⟩
    · omega
    · exact lt_le huv (asc_le hR hu ej hj)
  · obtain ⟨i, hi, ei⟩ := mem_take_get hy
    rcases h1 with h | ⟨u, hu, huv⟩
    · omega
    · exact le_lt (asc_le hR ei hu (by omega)) huv

/-- Sorted stretches of k, the last one maybe shorter, those that stood ahead ahead. -/
inductive Ch (k : Nat) : List Tg → Prop
  | last (c : List Tg) : Asc c → c.length ≤ k → Ch k c
  | cons (c r : List Tg) : Asc c → c.length = k → (∀ x ∈ c, ∀ y ∈ r, x.2 < y.2) → Ch k r → Ch k (c ++ r)
def App (k : Nat) (F : List Tg) : Prop := ∀ T, (∀ x ∈ F, ∀ y ∈ T, x.2 < y.2) → Ch k T → Ch k (F ++ T)
theorem App.nil (k : Nat) : App k [] := fun T _ h => by simpa using h
theorem App.snoc {k : Nat} {F M : List Tg} (h : App k F) (hF : ∀ x ∈ F, ∀ y ∈ M, x.2 < y.2) (hM : Asc M) (hl : M.length = k) : App k (F ++ M) := fun T hT hc => by
  rw [List.append_assoc]
  refine h _ (fun x hx y hy => ?_) (Ch.cons M T hM hl (fun x hx y hy => hT x (by simp [hx]) y hy) hc)
  rw [List.mem_append] at hy
  rcases hy with hy | hy
  · exact hF x hx y hy
  · exact hT x (by simp [hx]) y hy
theorem Ch.two {k : Nat} {T : List Tg} (h : Ch k T) (hl : k < T.length) : ∃ c r, T = c ++ r ∧ Asc c ∧ c.length = k ∧ (∀ x ∈ c, ∀ y ∈ r, x.2 < y.2) ∧ Ch k r := by
  cases h with
  | last _ h1 h2 => omega
  | cons c r h1 h2 h3 h4 => exact ⟨c, r, rfl, h1, h2, h3, h4⟩
theorem Ch.one {k : Nat} {T : List Tg} (h : Ch k T) (hl : T.length ≤ k) : Asc T := by
  cases h with
  | last _ h1 h2 => exact h1
  | cons c r h1 h2 h3 h4 =>
    have : r = [] := List.length_eq_zero_iff.1 (by rw [List.length_append] at hl; omega)
    subst this; simpa using h1
/-- The first stretch, whole. -/
theorem Ch.first {k : Nat} {T : List Tg} (h : Ch k T) (hl : k ≤ T.length) : ∃ c r, T = c ++ r ∧ Asc c ∧ c.length = k ∧ (∀ x ∈ c, ∀ y ∈ r, x.2 < y.2) ∧ Ch k r := by
  cases h with
  | last _ h1 h2 => exact ⟨T, [], by simp, h1, by omega, by simp, Ch.last [] (by unfold Asc; simp) (by simp)⟩
  | cons c r h1 h2 h3 h4 => exact ⟨c, r, rfl, h1, h2, h3, h4⟩
end Go.Proofs.YtlaihgdfedalmaaGreat.T
namespace Go.Proofs.YtlaihgdfedalmaaGreat.T
open Go.RowKit Go.Sort
set_option linter.unusedVariables false
set_option linter.unusedSimpArgs false

set_option maxRecDepth 10000 in
set_option maxHeartbeats 2000000 in
theorem insertion_any (w : World) (g cap n : Nat) (A L Z : List Tg) (ia ib : Int) (hb : BlkT w g cap (A ++ L ++ Z)) (hn : (A ++ L ++ Z).length = n) (hmax : n ≤ 1000000) (htag : Tags L) (hok : OkT L) (h1 : ia = (A.length : Nat)) (h2 : ib = ((A.length + L.length : Nat) : Nat)) :
    Calls Tryz.prog 179 #[.slice (some ⟨g, 0, none⟩) n cap, .int .i64 ia, .int .i64 ib, .func (.func 143) #[] #[]] w fun e w' => e = .returned (.tuple #[]) ∧ ∃ L', L'.Perm L ∧ Asc L' ∧ BlkT w' g cap (A ++ L' ++ Z) ∧ w.grownBy w' (some g) := by
  obtain ⟨a, HA⟩ : ∃ a : Nat, Hid (A.length = a) := ⟨_, rfl⟩
  obtain ⟨b, HB⟩ : ∃ b : Nat, Hid (A.length + L.length = b) := ⟨_, rfl⟩
  rw [HA.out] at h1
  rw [HB.out] at h2
  subst h1 h2
  have hbn : b ≤ n := by have := HB.out; rw [← hn]; simp; omega
  have hab : a ≤ b := by have := HB.out; have := HA.out; omega
  cases L with
  | nil =>
    have hba : b = a := by have := HB.out; have := HA.out; simp at *; omega
    have hlt : ¬ ((a : Int) + 1 < (b : Int)) := by omega
    have hb' : BlkT w g cap (A ++ Z) := by simpa using hb
    have HE : Hid _ := hb'
    clear hb'
    clear hb hn
    go_enter Tryz.func179, Tryz.ntmps179
    go_wp2
    refine wp_loop_rounds 1 ?_
    rw [rounds_succ]
    go_wp2
    go_end0
    exact ⟨rfl, [], by simp, by unfold Asc; simp, by rw [List.append_nil]; exact HE.out, gr_refl _ _⟩
  | cons l0 L0 =>
    have hL : L0.length + 1 + a = b := by have := HB.out; have := HA.out; simp at *; omega
    have HTAG : Hid (Tags (l0 :: L0) ∧ OkT (l0 :: L0)) := ⟨htag, hok⟩
    have hb' : BlkT w g cap (A ++ [l0] ++ L0 ++ Z) := by simpa using hb
    have HB0 : Hid _ := hb'
    clear hb'
    have HNL : Hid ((A ++ (l0 :: L0) ++ Z).length = n) := hn
    clear hb hn htag hok
    go_enter Tryz.func179, Tryz.ntmps179
    go_wp2_with fail
    go_loopw [8, 9] (fun iv _ wr => ∃ (P R L1 : List Tg), iv = .int .i64 ((a : Int) + (P.length : Nat)) ∧ l0 :: L0 = L1 ++ R ∧ P.Perm L1 ∧ Asc P ∧ 0 < P.length ∧ BlkT wr g cap (A ++ P ++ R ++ Z) ∧ w.grownBy wr (some g)) (fun iv _ _ => b - (intOf iv).toNat)
    case atStart => exact ⟨[l0], L0, [l0], rfl, rfl, List.Perm.refl _, by unfold Asc; simp, by simp, HB0.out, gr_refl _ _⟩
    case round =>
      obtain ⟨P, R, L1, rfl, hLR, hperm, hasc, hP0, hblk, hgr⟩ := hrel
      have hPl : P.length = L1.length := hperm.length_eq
      have hlen : P.length + R.length + a = b := by have := congrArg List.length hLR; simp at this; omega
      cases R with
      | nil =>
        have hlt : ¬ ((a : Int) + (P.length : Int) < (b : Int)) := by simp at hlen; omega
        have HE : Hid (P.Perm (l0 :: L0) ∧ Asc P ∧ BlkT wr g cap (A ++ P ++ Z)) := ⟨by rw [hLR]; simpa using hperm, hasc, by simpa using hblk⟩
        clear hblk hLR hperm hasc hlen
        go_wp2
        go_end0
        exact ⟨rfl, P, HE.out.1, HE.out.2.1, (by first | exact HE.out.2.2 | (rw [← List.append_assoc]; exact HE.out.2.2)), hgr⟩
      | cons x R' =>
        have hlt : (a : Int) + (P.length : Int) < (b : Int) := by simp at hlen; omega
        have htags : (∀ y ∈ P, y.2 < x.2) ∧ OkS x.1 ∧ ∀ y ∈ P, OkS y.1 := by
          obtain ⟨ht, ho⟩ := HTAG.out
          rw [hLR] at ht ho
          unfold Tags at ht
          rw [List.pairwise_append] at ht
          refine ⟨fun y hy => ht.2.2 y (hperm.mem_iff.1 hy) x (by simp), ho x (by simp), fun y hy => ho y (by simp [hperm.mem_iff.1 hy])⟩
        have HT : Hid ((∀ y ∈ P, y.2 < x.2) ∧ OkS x.1 ∧ ∀ y ∈ P, OkS y.1) := htags
        have HLR : Hid (l0 :: L0 = (L1 ++ [x]) ++ R' ∧ P.Perm L1 ∧ Asc P) := ⟨by rw [hLR]; simp, hperm, hasc⟩
        have hbk : BlkT wr g cap (A ++ P ++ x :: ([] ++ R' ++ Z)) := by simpa using hblk
        have HBK : Hid _ := hbk
        have HG : Hid (w.grownBy wr (some g)) := hgr
        have hnP : a + P.length + 1 ≤ n := by simp at hlen; omega
        have HLA : Hid (A.length = a) := HA.out
        clear htags hLR hperm hasc hblk hbk hPl hgr HA HB HB0 HNL HTAG hL
        obtain ⟨pl, hpl⟩ : ∃ pl : Nat, P.length = pl := ⟨_, rfl⟩
        rw [hpl] at hnP hlt ⊢
        clear hlen hP0
        go_wp2_with fail
        go_loopw [9] (fun jv wq => ∃ (j : Nat) (P1 P2 : List Tg), jv = .int .i64 (j : Nat) ∧ a + P1.length = j ∧ P = P1 ++ P2 ∧ (∀ y ∈ P2, ltT x y) ∧ BlkT wq g cap (A ++ P1 ++ x :: (P2 ++ R' ++ Z)) ∧ w.grownBy wq (some g)) (fun jv _ => (intOf jv).toNat)
        case atStart => exact ⟨a + pl, P, [], by push_cast; rfl, by omega, by simp, by simp, HBK.out, HG.out⟩
        case round =>
          clear HBK HG
          obtain ⟨j, P1, P2, rfl, hj, hPP, hgt, hblk, hgr1⟩ := hrel
          have hp12 : P1.length + P2.length = pl := by rw [← hpl, hPP]; simp
          rcases List.eq_nil_or_concat P1 with hP1 | ⟨P1', y, hP1⟩
          · subst hP1
            have hja : j = a := by simp at hj; omega
            subst hja
            have hng : ¬ ((j : Int) < (j : Int)) := by omega
            have HE : Hid (Asc (x :: P) ∧ BlkT wr g cap (A ++ (x :: P) ++ R' ++ Z)) := by
              have e : P2 = P := by simpa using hPP.symm
              subst e
              exact ⟨asc_ins (P1 := []) (by simpa using HLR.out.2.2) hgt (by simp), by simpa using hblk⟩
            have HE2 : Hid (l0 :: L0 = (L1 ++ [x]) ++ R' ∧ (x :: P).Perm (L1 ++ [x])) := ⟨HLR.out.1, (List.Perm.cons x HLR.out.2.1).trans (List.perm_append_singleton x L1).symm⟩
            have HG1 : Hid _ := hgr1
            have t0 : True := trivial
            clear hblk hPP hgt hgr1
            go_wp2_with fail
            refine wp_region_noPanic ?_
            refine wp_region_held_drew (S := fun _ => True) (by kernel_rfl) t0 (fun hHeld => ?_)
            refine tq 0 ?_
            refine tq 1 ?_
            refine tq 2 ?_
            refine tq 3 ?_
            refine tqS 4 ?_
            refine tqS 5 ?_
            refine tqS 6 ?_
            refine tqS 7 ?_
            refine tqS 8 ?_
            refine tqS 9 ?_
            refine tqS 10 ?_
            refine tqS 11 ?_
            refine tqS 12 ?_
            refine tqS 13 ?_
            refine tqS 14 ?_
            refine tqS 15 ?_
            refine tq 16 ?_
            refine wpAnyH_done (by kernel_rfl) ?_ _
            refine NoPanic.normal ?_
            clear t0 hHeld
            go_wp2
            go_roundw
            case rel => exact ⟨x :: P, R', L1 ++ [x], by simp only [List.length_cons, hpl]; push_cast; rw [Int.add_assoc], HE2.out.1, HE2.out.2, HE.out.1, by simp, HE.out.2.drew, gr_drew HG1.out⟩
            case measure => simp [intOf]; omega
          · have hP1c : P1 = P1' ++ [y] := by rw [hP1]; simp
            clear hP1
            subst hP1c
            obtain ⟨q, rfl⟩ : ∃ q, j = q + 1 := ⟨a + P1'.length, by simp at hj; omega⟩
            have hq : (A ++ P1').length = q := by have := HLA.out; simp at hj ⊢; omega
            have hq1 : (A ++ P1' ++ [y]).length = q + 1 := by rw [List.length_append, hq]; rfl
            have hyP : y ∈ P := by rw [hPP]; simp
            have el1 : A ++ (P1' ++ [y]) ++ x :: (P2 ++ R' ++ Z) = (A ++ P1' ++ [y]) ++ x :: (P2 ++ R' ++ Z) := by simp
            have el2 : A ++ (P1' ++ [y]) ++ x :: (P2 ++ R' ++ Z) = (A ++ P1') ++ y :: (x :: (P2 ++ R' ++ Z)) := by simp
            have two : Two g (q + 1) q x y wr := ⟨BlkT.get (by rw [el1] at hblk; exact hblk) hq1, BlkT.get (by rw [el2] at hblk; exact hblk) hq⟩
            have hgtI : (a : Int) < (q : Int) + 1 := by simp at hj; omega
            have hqn : q + 1 < n := by simp at hj hp12; omega
            have hqi : (q : Int) + 1 < (n : Int) := by omega
            have hq0 : ¬ ((q : Int) + 1 < 0) := by omega
            have hqi' : (q : Int) < (n : Int) := by omega
            have hwq : IntKind.i64.wrap (q : Int) = (q : Int) := by rw [IntWalk.i64_left, IntWalk.wrap64_in _ (by omega)]
            have hc := fun W => cmpS_any W x.1 y.1 HT.out.2.1 (HT.out.2.2 y hyP)
            have hltT := ltT_of (HT.out.1 y hyP)
            generalize cmpS x.1 y.1 = d at hc hltT
            have HBK1 : Hid (BlkT wr g cap (A ++ (P1' ++ [y]) ++ x :: (P2 ++ R' ++ Z)) ∧ w.grownBy wr (some g)) := ⟨hblk, hgr1⟩
            have HQ : Hid ((A ++ P1').length = q ∧ (A ++ P1' ++ [y]).length = q + 1) := ⟨hq, hq1⟩
            have HPP : Hid (P = P1' ++ [y] ++ P2 ∧ ∀ z ∈ P2, ltT x z) := ⟨hPP, hgt⟩
            unfold sta at hc
            clear el1 el2 hblk hgr1 hPP hgt hq hq1 hp12
            go_wp2_with fail
            refine wp_region_noPanic ?_
            refine wp_region_held_drew (S := fun wx => Two g (q + 1) q x y wx) (by kernel_rfl) two (fun hHeld => ?_)
            refine tq 0 ?_
            refine tq 1 ?_
            refine tq 2 ?_
            refine tq 3 ?_
            refine tq 4 ?_
            refine tq 5 ?_
            refine tq 6 ?_
            refine tq 7 ?_
            refine tq 8 ?_
            refine tq 9 ?_
            refine tq 10 ?_
            refine tq 11 ?_
            refine tq 12 ?_
            refine tq 13 ?_
            refine comes_up 14 rfl (by kernel_rfl) (fun K hK => ?_)
            go_simp
            refine (hc _).mono ?_
            rintro e w1 ⟨rfl, hup⟩
            have two1 := Two.up hHeld hup
            have HB1 : Hid (BlkT w1 g cap (A ++ (P1' ++ [y]) ++ x :: (P2 ++ R' ++ Z)) ∧ w.grownBy w1 (some g)) := ⟨HBK1.out.1.drew.up hup, gr_trans (gr_drew HBK1.out.2) (gr_below hup.bl _)⟩
            clear two hHeld hup HBK1
            go_wp2_with fail
            refine hK.out _ _ two1 (fun hHeld => ?_)
            clear hK K
            (try simp only [Act.put, List.setIfInBounds_toArray, List.set_cons_zero, List.set_cons_succ])
            by_cases hd : d < 0
            · skip
              refine tq 15 ?_
              refine tq 16 ?_
              refine wpAnyH_done (by kernel_rfl) ?_ _
              refine NoPanic.normal ?_
              have hxy := hltT.1 hd
              obtain ⟨hblk, hgr1⟩ := HB1.out
              obtain ⟨hq, hq1⟩ := HQ.out
              have el1 : A ++ (P1' ++ [y]) ++ x :: (P2 ++ R' ++ Z) = (A ++ P1' ++ [y]) ++ x :: (P2 ++ R' ++ Z) := by simp
              have el2 : (A ++ P1' ++ [y]) ++ y :: (P2 ++ R' ++ Z) = (A ++ P1') ++ y :: (y :: (P2 ++ R' ++ Z)) := by simp
              have el3 : (A ++ P1') ++ x :: (y :: (P2 ++ R' ++ Z)) = A ++ P1' ++ x :: ((y :: P2) ++ R' ++ Z) := by simp
              have p1 := BlkT.put (by rw [el1] at hblk; exact hblk) hq1 y
              rw [el2] at p1
              have p2 := BlkT.put p1.1 hq x
              rw [el3] at p2
              have HP : Hid _ := And.intro p2.1 (gr_trans hgr1 (gr_trans p1.2 p2.2))
              have hfz := fun j => Blk.free hblk j
              obtain ⟨⟨c0, c1, c2, c3, c4⟩, d0, d1, d2, d3, d4⟩ := two1
              have HPP' : Hid (P = P1' ++ (y :: P2) ∧ ∀ z ∈ y :: P2, ltT x z) := ⟨by rw [HPP.out.1]; simp, fun z hz => by rw [List.mem_cons] at hz; rcases hz with rfl | hz; exact hxy; exact HPP.out.2 z hz⟩
              clear p1 p2 el1 el2 el3 hblk hgr1 hq hq1 hltT hxy HB1 HPP hHeld
              go_wp2_with fail
              go_big_region
              all_goals go_wp2
              go_roundw
              case rel => first | exact ⟨q, P1', y :: P2, by go_num, by have := HQ.out.1; have := HLA.out; simp at *; omega, HPP'.out.1, HPP'.out.2, HP.out.1.drew, gr_drew HP.out.2⟩ | ((repeat apply Exists.intro); exact ⟨⟨q, P1', y :: P2, by go_num, by have := HQ.out.1; have := HLA.out; simp at *; omega, HPP'.out.1, HPP'.out.2, HP.out.1.drew, gr_drew HP.out.2⟩, rfl⟩)
              case measure => simp [intOf]
            · skip
              refine tq 15 ?_
              refine tq 16 ?_
              refine wpAnyH_done (by kernel_rfl) ?_ _
              refine NoPanic.normal ?_
              have hyx : ltT y x := ltT_tri (by have := HT.out.1 y hyP; omega) (fun h => hd (hltT.2 h))
              have HE : Hid (Asc ((P1' ++ [y]) ++ x :: P2) ∧ BlkT w1 g cap (A ++ ((P1' ++ [y]) ++ x :: P2) ++ R' ++ Z)) := by
                refine ⟨asc_ins (by rw [← HPP.out.1]; exact HLR.out.2.2) HPP.out.2 (fun z hz => ?_), by have := HB1.out.1; simpa using this⟩
                have hA := HLR.out.2.2
                rw [HPP.out.1] at hA
                have hA1 := (List.pairwise_append.1 hA).1
                rw [List.mem_append] at hz
                rcases hz with hz | hz
                · exact ltT_trans ((List.pairwise_append.1 hA1).2.2 z hz y (by simp)) hyx
                · rw [List.mem_singleton] at hz; subst hz; exact hyx
              have HE2 : Hid (l0 :: L0 = (L1 ++ [x]) ++ R' ∧ ((P1' ++ [y]) ++ x :: P2).Perm (L1 ++ [x])) := by
                refine ⟨HLR.out.1, ?_⟩
                have hp := HLR.out.2.1
                rw [HPP.out.1] at hp
                exact (List.perm_middle.trans (List.Perm.cons x hp)).trans (List.perm_append_singleton x L1).symm
              have hpl' : ((P1' ++ [y]) ++ x :: P2).length = pl + 1 := by rw [← hpl, HPP.out.1]; simp; omega
              have HG1 : Hid (w.grownBy w1 (some g)) := HB1.out.2
              clear hltT hyx HB1 HPP hHeld two1
              go_wp2
              go_roundw
              case rel => exact ⟨(P1' ++ [y]) ++ x :: P2, R', L1 ++ [x], by rw [hpl']; push_cast; rw [Int.add_assoc], HE2.out.1, HE2.out.2, HE.out.1, by rw [hpl']; omega, HE.out.2, HG1.out⟩
              case measure => simp [intOf]; omega
end Go.Proofs.YtlaihgdfedalmaaGreat.T
namespace Go.Proofs.YtlaihgdfedalmaaGreat.T
open Go.RowKit Go.Sort
set_option linter.unusedVariables false
set_option linter.unusedSimpArgs false

set_option maxRecDepth 10000 in
set_option maxHeartbeats 2000000 in
theorem sm_left (w : World) (g cap n : Nat) (A R Z : List Tg) (x : Tg) (ia im ib : Int) (hb : BlkT w g cap (A ++ [x] ++ R ++ Z)) (hn : (A ++ [x] ++ R ++ Z).length = n) (hmax : n ≤ 1000000) (hR : Asc R) (htag : ∀ y ∈ R, x.2 < y.2) (hokx : OkS x.1) (hok : OkT R)
    (h1 : ia = (A.length : Nat)) (h2 : im = ((A.length + 1 : Nat) : Nat)) (h3 : ib = ((A.length + 1 + R.length : Nat) : Nat)) :
    Calls Tryz.prog 180 #[.slice (some ⟨g, 0, none⟩) n cap, .int .i64 ia, .int .i64 im, .int .i64 ib, .func (.func 143) #[] #[]] w fun e w' => e = .returned (.tuple #[]) ∧ ∃ M, M.Perm ([x] ++ R) ∧ Asc M ∧ BlkT w' g cap (A ++ M ++ Z) ∧ w.grownBy w' (some g) := by
  obtain ⟨a, HA⟩ : ∃ a : Nat, Hid (A.length = a) := ⟨_, rfl⟩
  obtain ⟨m, HM⟩ : ∃ m : Nat, Hid (A.length + 1 = m) := ⟨_, rfl⟩
  obtain ⟨b, HB⟩ : ∃ b : Nat, Hid (A.length + 1 + R.length = b) := ⟨_, rfl⟩
  rw [HA.out] at h1
  rw [HM.out] at h2
  rw [HB.out] at h3
  subst h1 h2 h3
  have hbn : b ≤ n := by have := HB.out; rw [← hn]; simp; omega
  have hm1 : a + 1 ≤ m := by have := HM.out; have := HA.out; omega
  have hm2 : m ≤ a + 1 := by have := HM.out; have := HA.out; omega
  have hab : m ≤ b := by have := HB.out; have := HM.out; omega
  have hsub : (m : Int) - (a : Int) = 1 := by omega
  have HR : Hid (Asc R ∧ (∀ y ∈ R, x.2 < y.2) ∧ OkS x.1 ∧ OkT R) := ⟨hR, htag, hokx, hok⟩
  have hDj : ∀ j, m ≤ j → j < b → ∃ y, R[j - m]? = some y ∧ y ∈ R ∧ (A ++ [x] ++ R ++ Z)[j]? = some y := fun j h1 h2 => by
    have e1 := HM.out
    have e2 := HB.out
    have hl : j - m < R.length := by omega
    refine ⟨R[j - m], List.getElem?_eq_getElem hl, List.getElem_mem hl, ?_⟩
    rw [List.append_assoc, List.getElem?_append_right (by simp; omega), List.getElem?_append_left (by simp; omega)]
    rw [show j - (A ++ [x]).length = j - m by simp; omega]
    exact List.getElem?_eq_getElem hl
  have hDa : (A ++ [x] ++ R ++ Z)[a]? = some x := by
    have e1 := HA.out
    rw [List.append_assoc, List.append_assoc]
    exact mid_get A x (R ++ Z) e1
  obtain ⟨D, HDD⟩ : ∃ D, Hid (A ++ [x] ++ R ++ Z = D) := ⟨_, rfl⟩
  rw [HDD.out] at hb hDa hDj
  have HD : Hid (∀ j, m ≤ j → j < b → ∃ y, R[j - m]? = some y ∧ y ∈ R ∧ D[j]? = some y) := hDj
  have HDa : Hid (D[a]? = some x) := hDa
  have HB0 : Hid (BlkT w g cap D) := hb
  clear hb hn hR htag hokx hok hDa hDj
  go_enter Tryz.func180, Tryz.ntmps180
  go_wp2_with fail
  go_loopw [10, 11, 12] (fun iv jv _ wr => ∃ (i j : Nat), iv = .int .i64 (i : Nat) ∧ jv = .int .i64 (j : Nat) ∧ m ≤ i ∧ i ≤ j ∧ j ≤ b ∧ (i = m ∨ ∃ y, R[i - 1 - m]? = some y ∧ ltT y x) ∧ (j = b ∨ ∃ y, R[j - m]? = some y ∧ ltT x y) ∧ BlkT wr g cap D ∧ w.grownBy wr (some g)) (fun iv jv _ _ => (intOf jv).toNat - (intOf iv).toNat)
  case atStart => exact ⟨m, b, rfl, rfl, by omega, by omega, by omega, .inl rfl, .inl rfl, HB0.out, gr_refl _ _⟩
  case round =>
    clear HB0
    obtain ⟨i, j, rfl, rfl, hi, hij, hj, hlo, hhi, hblk, hgr⟩ := hrel
    by_cases hlt : i < j
    · have hltI : (i : Int) < (j : Int) := by omega
      obtain ⟨h, hh⟩ : ∃ h : Nat, (i + j) / 2 = h := ⟨_, rfl⟩
      have hhI : ((i : Int) + (j : Int)) / 2 = (h : Int) := by omega
      have hih : i ≤ h := by omega
      have hhj : h < j := by omega
      clear hh
      obtain ⟨y, hyR, hym, hyD⟩ := HD.out h (by omega) (by omega)
      have two : Two g h a y x wr := hblk.two hyD HDa.out
      have hc := fun W => cmpS_any W y.1 x.1 (HR.out.2.2.2 y hym) HR.out.2.2.1
      have hltT := ltT_of (HR.out.2.1 y hym)
      have htri : ¬ ltT y x → ltT x y := ltT_tri (by have := HR.out.2.1 y hym; omega)
      generalize cmpS y.1 x.1 = d at hc hltT
      have hhn : (h : Int) < (n : Int) := by omega
      have han : (a : Int) < (n : Int) := by omega
      have HBK1 : Hid (BlkT wr g cap D ∧ w.grownBy wr (some g)) := ⟨hblk, hgr⟩
      have HLO : Hid ((i = m ∨ ∃ y, R[i - 1 - m]? = some y ∧ ltT y x) ∧ (j = b ∨ ∃ y, R[j - m]? = some y ∧ ltT x y) ∧ R[h - m]? = some y) := ⟨hlo, hhi, hyR⟩
      unfold sta at hc
      clear hblk hgr hlo hhi hyR hyD hym
      go_wp2_with fail
      refine wp_region_noPanic ?_
      refine wp_region_held_drew (S := fun wx => Two g h a y x wx) (by kernel_rfl) two (fun hHeld => ?_)
      refine tq 0 ?_
      refine tq 1 ?_
      refine tq 2 ?_
      refine tq 3 ?_
      refine tq 4 ?_
      refine tq 5 ?_
      refine tq 6 ?_
      refine tq 7 ?_
      refine tq 8 ?_
      refine comes_up 9 rfl (by kernel_rfl) (fun K hK => ?_)
      go_simp
      refine (hc _).mono ?_
      rintro e w1 ⟨rfl, hup⟩
      have two1 := Two.up hHeld hup
      have HB1 : Hid (BlkT w1 g cap D ∧ w.grownBy w1 (some g)) := ⟨HBK1.out.1.drew.up hup, gr_trans (gr_drew HBK1.out.2) (gr_below hup.bl _)⟩
      clear two hHeld hup HBK1
      go_wp2_with fail
      refine hK.out _ _ two1 (fun hHeld => ?_)
      clear hK K
      (try simp only [Act.put, List.setIfInBounds_toArray, List.set_cons_zero, List.set_cons_succ])
      by_cases hd : d < 0
      · skip
        refine tq 10 ?_
        refine wpAnyH_done (by kernel_rfl) ?_ _
        refine NoPanic.normal ?_
        have hyx := hltT.1 hd
        clear hltT htri hHeld two1
        go_wp2
        go_roundw
        case rel =>
          have key : ∃ (i' j' : Nat), (Value.int .i64 ((h : Int) + 1)) = .int .i64 (i' : Nat) ∧ (Value.int .i64 (j : Int)) = .int .i64 (j' : Nat) ∧ m ≤ i' ∧ i' ≤ j' ∧ j' ≤ b ∧ (i' = m ∨ ∃ y, R[i' - 1 - m]? = some y ∧ ltT y x) ∧ (j' = b ∨ ∃ y, R[j' - m]? = some y ∧ ltT x y) ∧ BlkT w1 g cap D ∧ w.grownBy w1 (some g) :=
            ⟨h + 1, j, by push_cast; rfl, rfl, by omega, by omega, hj, .inr ⟨y, HLO.out.2.2, hyx⟩, HLO.out.2.1, HB1.out.1, HB1.out.2⟩
          first | exact key | ((repeat apply Exists.intro); exact ⟨key, rfl⟩)
        case measure => simp [intOf]; omega
      · skip
        refine tq 10 ?_
        refine wpAnyH_done (by kernel_rfl) ?_ _
        refine NoPanic.normal ?_
        have hxy := htri (fun h => hd (hltT.2 h))
        clear hltT htri hHeld two1
        go_wp2
        go_roundw
        case rel =>
          have key : ∃ (i' j' : Nat), (Value.int .i64 (i : Int)) = .int .i64 (i' : Nat) ∧ (Value.int .i64 (h : Int)) = .int .i64 (j' : Nat) ∧ m ≤ i' ∧ i' ≤ j' ∧ j' ≤ b ∧ (i' = m ∨ ∃ y, R[i' - 1 - m]? = some y ∧ ltT y x) ∧ (j' = b ∨ ∃ y, R[j' - m]? = some y ∧ ltT x y) ∧ BlkT w1 g cap D ∧ w.grownBy w1 (some g) :=
            ⟨i, h, rfl, rfl, by omega, by omega, by omega, HLO.out.1, .inr ⟨y, HLO.out.2.2, hxy⟩, HB1.out.1, HB1.out.2⟩
          first | exact key | ((repeat apply Exists.intro); exact ⟨key, rfl⟩)
        case measure => simp [intOf]; omega
    · have hltI : ¬ ((i : Int) < (j : Int)) := by omega
      have hijE : i = j := by omega
      subst hijE
      obtain ⟨t, ht⟩ : ∃ t, i = m + t := ⟨i - m, by omega⟩
      have hbR : m + R.length = b := by have := HM.out; have := HB.out; omega
      have hasc : Asc (R.take t ++ x :: R.drop t) := asc_put HR.out.1 t
        (by rcases hlo with h | ⟨y, h1, h2⟩
            · exact .inl (by omega)
            · by_cases ht0 : t = 0
              · exact .inl ht0
              · exact .inr ⟨y, by rw [show i - 1 - m = t - 1 by omega] at h1; exact h1, h2⟩)
        (by rcases hhi with h | ⟨y, h1, h2⟩
            · exact .inl (by omega)
            · exact .inr ⟨y, by rw [show i - m = t by omega] at h1; exact h1, h2⟩)
      have hlt : (R.take t).length = t := by rw [List.length_take]; omega
      have hpm : (R.take t ++ x :: R.drop t).Perm ([x] ++ R) := by
        have := List.perm_middle (a := x) (l₁ := R.take t) (l₂ := R.drop t)
        rw [List.take_append_drop] at this
        exact this
      have hbk0 : BlkT wr g cap (A ++ [] ++ x :: (R.take t ++ (R.drop t ++ Z))) := by
        rw [← List.append_assoc (R.take t), List.take_append_drop]; rw [← HDD.out] at hblk; simpa using hblk
      generalize R.take t = R1 at *
      generalize R.drop t = R2 at *
      have HE : Hid ((R1 ++ x :: R2).Perm ([x] ++ R) ∧ Asc (R1 ++ x :: R2) ∧ BlkT wr g cap (A ++ [] ++ x :: (R1 ++ (R2 ++ Z))) ∧ w.grownBy wr (some g)) := ⟨hpm, hasc, hbk0, hgr⟩
      obtain ⟨F, HF0⟩ : ∃ F, Hid (R1 ++ x :: R2 = F) := ⟨_, rfl⟩
      have hti1 : m + t ≤ i := by omega
      have hti2 : i ≤ m + t := by omega
      clear ht hblk hgr hlo hhi hpm hasc hbk0 HDa HD
      go_wp2_with fail
      go_loopw [13] (fun kv wq => ∃ (k : Nat) (Ra Rb : List Tg), kv = .int .i64 (k : Nat) ∧ a + Ra.length = k ∧ R1 = Ra ++ Rb ∧ BlkT wq g cap (A ++ Ra ++ x :: (Rb ++ (R2 ++ Z))) ∧ w.grownBy wq (some g)) (fun kv _ => a + t - (intOf kv).toNat)
      case atStart => exact ⟨a, [], R1, rfl, rfl, rfl, HE.out.2.2.1, HE.out.2.2.2⟩
      case round =>
        obtain ⟨k, Ra, Rb, rfl, hk, hRR, hblk, hgr⟩ := hrel
        have hab2 : Ra.length + Rb.length = t := by rw [← hlt, hRR]; simp
        cases Rb with
        | nil =>
          have hkI : ¬ ((k : Int) < (i : Int) - 1) := by simp at hab2; omega
          have HF : Hid (F.Perm ([x] ++ R) ∧ Asc F ∧ BlkT wr g cap (A ++ F ++ Z) ∧ w.grownBy wr (some g)) := ⟨by rw [← HF0.out]; exact HE.out.1, by rw [← HF0.out]; exact HE.out.2.1, by rw [← HF0.out, hRR]; simpa using hblk, hgr⟩
          clear hblk hgr hRR HE HF0
          go_wp2
          (try simp only [Exit.inBlock, Exit.then])
          refine bodyPost_ret (results_none rfl _ _ _) rfl ?_
          exact ⟨rfl, F, HF.out.1, HF.out.2.1, (by first | exact HF.out.2.2.1 | (rw [← List.append_assoc]; exact HF.out.2.2.1)), HF.out.2.2.2⟩
        | cons y Rb' =>
          have hkI : (k : Int) < (i : Int) - 1 := by simp at hab2; omega
          have el1 : A ++ Ra ++ x :: (y :: Rb' ++ (R2 ++ Z)) = (A ++ Ra) ++ x :: (y :: Rb' ++ (R2 ++ Z)) := by simp
          have el1b : A ++ Ra ++ x :: (y :: Rb' ++ (R2 ++ Z)) = (A ++ Ra ++ [x]) ++ y :: (Rb' ++ (R2 ++ Z)) := by simp
          have el2 : (A ++ Ra) ++ y :: (y :: Rb' ++ (R2 ++ Z)) = (A ++ Ra ++ [y]) ++ y :: (Rb' ++ (R2 ++ Z)) := by simp
          have el3 : (A ++ Ra ++ [y]) ++ x :: (Rb' ++ (R2 ++ Z)) = A ++ (Ra ++ [y]) ++ x :: (Rb' ++ (R2 ++ Z)) := by simp
          have hq : (A ++ Ra).length = k := by have := HA.out; simp; omega
          have hq1 : (A ++ Ra ++ [y]).length = k + 1 := by rw [List.length_append, hq]; rfl
          have hq1x : (A ++ Ra ++ [x]).length = k + 1 := by rw [List.length_append, hq]; rfl
          obtain ⟨c0, c1, c2, c3, c4⟩ := BlkT.get (by rw [el1] at hblk; exact hblk) hq
          obtain ⟨d0, d1, d2, d3, d4⟩ := BlkT.get (by rw [el1b] at hblk; exact hblk) hq1x
          have p1 := BlkT.put (by rw [el1] at hblk; exact hblk) hq y
          rw [el2] at p1
          have p2 := BlkT.put p1.1 hq1 x
          rw [el3] at p2
          have HP : Hid _ := And.intro p2.1 (gr_trans hgr (gr_trans p1.2 p2.2))
          have hfz := fun j => Blk.free hblk j
          have HRR : Hid (R1 = (Ra ++ [y]) ++ Rb' ∧ a + (Ra ++ [y]).length = k + 1) := ⟨by rw [hRR]; simp, by simp; omega⟩
          have hkn : (k : Int) + 1 < (n : Int) := by omega
          have hkn' : (k : Int) < (n : Int) := by omega
          have hk0 : ¬ ((k : Int) + 1 < 0) := by omega
          clear p1 p2 el1 el1b el2 el3 hblk hgr hq hq1 hq1x hRR hab2 hk
          go_wp2_with fail
          go_big_region
          all_goals go_wp2
          go_roundw
          case rel => first | exact ⟨k + 1, Ra ++ [y], Rb', by go_num, HRR.out.2, HRR.out.1, HP.out.1.drew, gr_drew HP.out.2⟩ | ((repeat apply Exists.intro); exact ⟨⟨k + 1, Ra ++ [y], Rb', by go_num, HRR.out.2, HRR.out.1, HP.out.1.drew, gr_drew HP.out.2⟩, rfl⟩)
          case measure => simp [intOf]; omega
end Go.Proofs.YtlaihgdfedalmaaGreat.T
namespace Go.Proofs.YtlaihgdfedalmaaGreat.T
open Go.RowKit Go.Sort
set_option linter.unusedVariables false
set_option linter.unusedSimpArgs false

set_option maxRecDepth 10000 in
set_option maxHeartbeats 2000000 in
theorem sm_right (w : World) (g cap n : Nat) (A L Z : List Tg) (y : Tg) (ia im ib : Int) (hb : BlkT w g cap (A ++ L ++ [y] ++ Z)) (hn : (A ++ L ++ [y] ++ Z).length = n) (hmax : n ≤ 1000000) (hL : Asc L) (hL2 : 2 ≤ L.length) (htag : ∀ x ∈ L, x.2 < y.2) (hoky : OkS y.1) (hok : OkT L)
    (h1 : ia = (A.length : Nat)) (h2 : im = ((A.length + L.length : Nat) : Nat)) (h3 : ib = ((A.length + L.length + 1 : Nat) : Nat)) :
    Calls Tryz.prog 180 #[.slice (some ⟨g, 0, none⟩) n cap, .int .i64 ia, .int .i64 im, .int .i64 ib, .func (.func 143) #[] #[]] w fun e w' => e = .returned (.tuple #[]) ∧ ∃ M, M.Perm (L ++ [y]) ∧ Asc M ∧ BlkT w' g cap (A ++ M ++ Z) ∧ w.grownBy w' (some g) := by
  obtain ⟨a, HA⟩ : ∃ a : Nat, Hid (A.length = a) := ⟨_, rfl⟩
  obtain ⟨m, HM⟩ : ∃ m : Nat, Hid (A.length + L.length = m) := ⟨_, rfl⟩
  obtain ⟨b, HB⟩ : ∃ b : Nat, Hid (A.length + L.length + 1 = b) := ⟨_, rfl⟩
  rw [HA.out] at h1
  rw [HM.out] at h2
  rw [HB.out] at h3
  subst h1 h2 h3
  have hbn : b ≤ n := by have := HB.out; rw [← hn]; simp; omega
  have hm1 : m + 1 ≤ b := by have := HM.out; have := HB.out; omega
  have hm2 : b ≤ m + 1 := by have := HM.out; have := HB.out; omega
  have hab : a + 2 ≤ m := by have := HA.out; have := HM.out; omega
  have hsub : (b : Int) - (m : Int) = 1 := by omega
  have hsub0 : ((m : Int) - (a : Int) == 1) = false := by simp; omega
  have HR : Hid (Asc L ∧ (∀ x ∈ L, x.2 < y.2) ∧ OkS y.1 ∧ OkT L) := ⟨hL, htag, hoky, hok⟩
  have hDj : ∀ j, a ≤ j → j < m → ∃ x, L[j - a]? = some x ∧ x ∈ L ∧ (A ++ L ++ [y] ++ Z)[j]? = some x := fun j h1 h2 => by
    have e1 := HM.out
    have e2 := HA.out
    have hl : j - a < L.length := by omega
    refine ⟨L[j - a], List.getElem?_eq_getElem hl, List.getElem_mem hl, ?_⟩
    rw [List.append_assoc, List.append_assoc, List.getElem?_append_right (by omega), List.getElem?_append_left (by omega)]
    rw [show j - A.length = j - a by omega]
    exact List.getElem?_eq_getElem hl
  have hDm : (A ++ L ++ [y] ++ Z)[m]? = some y := by
    have e1 := HM.out
    rw [List.append_assoc (A ++ L)]
    exact mid_get (A ++ L) y Z (by simpa using e1)
  obtain ⟨D, HDD⟩ : ∃ D, Hid (A ++ L ++ [y] ++ Z = D) := ⟨_, rfl⟩
  rw [HDD.out] at hb hDm hDj
  have HD : Hid (∀ j, a ≤ j → j < m → ∃ x, L[j - a]? = some x ∧ x ∈ L ∧ D[j]? = some x) := hDj
  have HDm : Hid (D[m]? = some y) := hDm
  have HB0 : Hid (BlkT w g cap D) := hb
  clear hb hn hL hL2 htag hoky hok hDm hDj
  go_enter Tryz.func180, Tryz.ntmps180
  go_wp2_with fail
  go_loopw [14, 15, 16] (fun iv jv _ wr => ∃ (i j : Nat), iv = .int .i64 (i : Nat) ∧ jv = .int .i64 (j : Nat) ∧ a ≤ i ∧ i ≤ j ∧ j ≤ m ∧ (i = a ∨ a < i ∧ ∃ x, L[i - 1 - a]? = some x ∧ ltT x y) ∧ (j = m ∨ ∃ x, L[j - a]? = some x ∧ ltT y x) ∧ BlkT wr g cap D ∧ w.grownBy wr (some g)) (fun iv jv _ _ => (intOf jv).toNat - (intOf iv).toNat)
  case atStart => exact ⟨a, m, rfl, rfl, by omega, by omega, by omega, .inl rfl, .inl rfl, HB0.out, gr_refl _ _⟩
  case round =>
    clear HB0
    obtain ⟨i, j, rfl, rfl, hi, hij, hj, hlo, hhi, hblk, hgr⟩ := hrel
    by_cases hlt : i < j
    · have hltI : (i : Int) < (j : Int) := by omega
      obtain ⟨h, hh⟩ : ∃ h : Nat, (i + j) / 2 = h := ⟨_, rfl⟩
      have hhI : ((i : Int) + (j : Int)) / 2 = (h : Int) := by omega
      have hih : i ≤ h := by omega
      have hhj : h < j := by omega
      clear hh
      obtain ⟨x, hxL, hxm, hxD⟩ := HD.out h (by omega) (by omega)
      have two : Two g m h y x wr := hblk.two HDm.out hxD
      have hc := fun W => cmpS_any W y.1 x.1 HR.out.2.2.1 (HR.out.2.2.2 x hxm)
      have hltT := ltT_of (HR.out.2.1 x hxm)
      have htri : ¬ ltT y x → ltT x y := ltT_tri (by have := HR.out.2.1 x hxm; omega)
      generalize cmpS y.1 x.1 = d at hc hltT
      have hhn : (h : Int) < (n : Int) := by omega
      have han : (m : Int) < (n : Int) := by omega
      have HBK1 : Hid (BlkT wr g cap D ∧ w.grownBy wr (some g)) := ⟨hblk, hgr⟩
      have HLO : Hid ((i = a ∨ a < i ∧ ∃ x, L[i - 1 - a]? = some x ∧ ltT x y) ∧ (j = m ∨ ∃ x, L[j - a]? = some x ∧ ltT y x) ∧ L[h - a]? = some x) := ⟨hlo, hhi, hxL⟩
      unfold sta at hc
      clear hblk hgr hlo hhi hxL hxD hxm
      go_wp2_with fail
      refine wp_region_noPanic ?_
      refine wp_region_held_drew (S := fun wx => Two g m h y x wx) (by kernel_rfl) two (fun hHeld => ?_)
      refine tq 0 ?_
      refine tq 1 ?_
      refine tq 2 ?_
      refine tq 3 ?_
      refine tq 4 ?_
      refine tq 5 ?_
      refine tq 6 ?_
      refine tq 7 ?_
      refine tq 8 ?_
      refine comes_up 9 rfl (by kernel_rfl) (fun K hK => ?_)
      go_simp
      refine (hc _).mono ?_
      rintro e w1 ⟨rfl, hup⟩
      have two1 := Two.up hHeld hup
      have HB1 : Hid (BlkT w1 g cap D ∧ w.grownBy w1 (some g)) := ⟨HBK1.out.1.drew.up hup, gr_trans (gr_drew HBK1.out.2) (gr_below hup.bl _)⟩
      clear two hHeld hup HBK1
      go_wp2_with fail
      refine hK.out _ _ two1 (fun hHeld => ?_)
      clear hK K
      (try simp only [Act.put, List.setIfInBounds_toArray, List.set_cons_zero, List.set_cons_succ])
      by_cases hd : d < 0
      · skip
        have hdd : decide (d < 0) = true := by simpa using hd
        have hnd : (!decide (d < 0)) = false := by simp [hd]
        refine tq 10 ?_
        refine tq 11 ?_
        refine wpAnyH_done (by kernel_rfl) ?_ _
        refine NoPanic.normal ?_
        have hyx := hltT.1 hd
        clear hltT htri hHeld two1
        go_wp2
        go_roundw
        case rel =>
          have key : ∃ (i' j' : Nat), (Value.int .i64 (i : Int)) = .int .i64 (i' : Nat) ∧ (Value.int .i64 (h : Int)) = .int .i64 (j' : Nat) ∧ a ≤ i' ∧ i' ≤ j' ∧ j' ≤ m ∧ (i' = a ∨ a < i' ∧ ∃ x, L[i' - 1 - a]? = some x ∧ ltT x y) ∧ (j' = m ∨ ∃ x, L[j' - a]? = some x ∧ ltT y x) ∧ BlkT w1 g cap D ∧ w.grownBy w1 (some g) :=
            ⟨i, h, rfl, rfl, by omega, by omega, by omega, HLO.out.1, .inr ⟨x, HLO.out.2.2, hyx⟩, HB1.out.1, HB1.out.2⟩
          first | exact key | ((repeat apply Exists.intro); exact ⟨key, rfl⟩)
        case measure => simp [intOf]; omega
      · skip
        have hdd : decide (d < 0) = false := by simpa using hd
        have hnd : (!decide (d < 0)) = true := by simp [hd]
        refine tq 10 ?_
        refine tq 11 ?_
        refine wpAnyH_done (by kernel_rfl) ?_ _
        refine NoPanic.normal ?_
        have hxy := htri (fun h => hd (hltT.2 h))
        clear hltT htri hHeld two1
        go_wp2
        go_roundw
        case rel =>
          have key : ∃ (i' j' : Nat), (Value.int .i64 ((h : Int) + 1)) = .int .i64 (i' : Nat) ∧ (Value.int .i64 (j : Int)) = .int .i64 (j' : Nat) ∧ a ≤ i' ∧ i' ≤ j' ∧ j' ≤ m ∧ (i' = a ∨ a < i' ∧ ∃ x, L[i' - 1 - a]? = some x ∧ ltT x y) ∧ (j' = m ∨ ∃ x, L[j' - a]? = some x ∧ ltT y x) ∧ BlkT w1 g cap D ∧ w.grownBy w1 (some g) :=
            ⟨h + 1, j, by push_cast; rfl, rfl, by omega, by omega, hj, .inr ⟨by omega, x, HLO.out.2.2, hxy⟩, HLO.out.2.1, HB1.out.1, HB1.out.2⟩
          first | exact key | ((repeat apply Exists.intro); exact ⟨key, rfl⟩)
        case measure => simp [intOf]; omega
    · have hltI : ¬ ((i : Int) < (j : Int)) := by omega
      have hijE : i = j := by omega
      subst hijE
      obtain ⟨t, ht⟩ : ∃ t, i = a + t := ⟨i - a, by omega⟩
      have hbR : a + L.length = m := by have := HM.out; have := HA.out; omega
      have hasc : Asc (L.take t ++ y :: L.drop t) := asc_put HR.out.1 t
        (by rcases hlo with h | ⟨h0, x, h1, h2⟩
            · exact .inl (by omega)
            · exact .inr ⟨x, by rw [show i - 1 - a = t - 1 by omega] at h1; exact h1, h2⟩)
        (by rcases hhi with h | ⟨x, h1, h2⟩
            · exact .inl (by omega)
            · exact .inr ⟨x, by rw [show i - a = t by omega] at h1; exact h1, h2⟩)
      have hpm : (L.take t ++ y :: L.drop t).Perm (L ++ [y]) := by
        have h1 := List.perm_middle (a := y) (l₁ := L.take t) (l₂ := L.drop t)
        rw [List.take_append_drop] at h1
        exact h1.trans (List.perm_append_singleton y L).symm
      obtain ⟨F, HF0⟩ : ∃ F, Hid (L.take t ++ y :: L.drop t = F) := ⟨_, rfl⟩
      have hbk0 : BlkT wr g cap (A ++ L ++ y :: ([] ++ Z)) := by rw [← HDD.out] at hblk; simpa using hblk
      have HE : Hid (F.Perm (L ++ [y]) ∧ Asc F ∧ BlkT wr g cap (A ++ L ++ y :: ([] ++ Z)) ∧ w.grownBy wr (some g)) := ⟨by rw [← HF0.out]; exact hpm, by rw [← HF0.out]; exact hasc, hbk0, hgr⟩
      have hti1 : a + t ≤ i := by omega
      have hti2 : i ≤ a + t := by omega
      clear ht hblk hgr hlo hhi hpm hasc hbk0 HDm HD
      go_wp2_with fail
      go_loopw [17] (fun kv wq => ∃ (k : Nat) (La Lb : List Tg), kv = .int .i64 (k : Nat) ∧ a + La.length = k ∧ t ≤ La.length ∧ L = La ++ Lb ∧ BlkT wq g cap (A ++ La ++ y :: (Lb ++ Z)) ∧ w.grownBy wq (some g)) (fun kv _ => (intOf kv).toNat)
      case atStart => exact ⟨m, L, [], rfl, hbR, by omega, by simp, HE.out.2.2.1, HE.out.2.2.2⟩
      case round =>
        obtain ⟨k, La, Lb, rfl, hk, htl, hLL, hblk, hgr⟩ := hrel
        have hab2 : La.length + Lb.length = L.length := by rw [hLL]; simp
        by_cases hend : La.length = t
        · have hkI : ¬ ((i : Int) < (k : Int)) := by omega
          have HF : Hid (F.Perm (L ++ [y]) ∧ Asc F ∧ BlkT wr g cap (A ++ F ++ Z) ∧ w.grownBy wr (some g)) := by
            refine ⟨HE.out.1, HE.out.2.1, ?_, hgr⟩
            have e1 : L.take t = La := by rw [hLL, ← hend]; simp
            have e2 : L.drop t = Lb := by rw [hLL, ← hend]; simp
            rw [← HF0.out, e1, e2]
            simpa using hblk
          clear hblk hgr hLL HE HF0
          go_wp2
          (try simp only [Exit.inBlock, Exit.then])
          refine bodyPost_ret (results_none rfl _ _ _) rfl ?_
          exact ⟨rfl, F, HF.out.1, HF.out.2.1, (by first | exact HF.out.2.2.1 | (rw [← List.append_assoc]; exact HF.out.2.2.1)), HF.out.2.2.2⟩
        · have hkI : (i : Int) < (k : Int) := by omega
          rcases List.eq_nil_or_concat La with hLa | ⟨La', u, hLa⟩
          · exfalso; subst hLa; simp at htl hend; omega
          have hLac : La = La' ++ [u] := by rw [hLa]; simp
          clear hLa
          subst hLac
          obtain ⟨q, rfl⟩ : ∃ q, k = q + 1 := ⟨a + La'.length, by simp at hk; omega⟩
          have hq : (A ++ La').length = q := by have := HA.out; simp at hk ⊢; omega
          have hq1 : (A ++ La' ++ [u]).length = q + 1 := by rw [List.length_append, hq]; rfl
          have el1 : A ++ (La' ++ [u]) ++ y :: (Lb ++ Z) = (A ++ La' ++ [u]) ++ y :: (Lb ++ Z) := by simp
          have el1b : A ++ (La' ++ [u]) ++ y :: (Lb ++ Z) = (A ++ La') ++ u :: (y :: (Lb ++ Z)) := by simp
          have el2 : (A ++ La' ++ [u]) ++ u :: (Lb ++ Z) = (A ++ La') ++ u :: (u :: (Lb ++ Z)) := by simp
          have el3 : (A ++ La') ++ y :: (u :: (Lb ++ Z)) = A ++ La' ++ y :: ((u :: Lb) ++ Z) := by simp
          obtain ⟨c0, c1, c2, c3, c4⟩ := BlkT.get (by rw [el1] at hblk; exact hblk) hq1
          obtain ⟨d0, d1, d2, d3, d4⟩ := BlkT.get (by rw [el1b] at hblk; exact hblk) hq
          have p1 := BlkT.put (by rw [el1] at hblk; exact hblk) hq1 u
          rw [el2] at p1
          have p2 := BlkT.put p1.1 hq y
          rw [el3] at p2
          have HP : Hid _ := And.intro p2.1 (gr_trans hgr (gr_trans p1.2 p2.2))
          have hfz := fun j => Blk.free hblk j
          have HRR : Hid (L = La' ++ (u :: Lb) ∧ a + La'.length = q ∧ t ≤ La'.length) := ⟨by rw [hLL]; simp, by simp at hk; omega, by simp at htl hend; omega⟩
          have hkn : (q : Int) + 1 < (n : Int) := by simp at hab2 hk; omega
          have hkn' : (q : Int) < (n : Int) := by omega
          have hk0 : ¬ ((q : Int) + 1 < 0) := by omega
          have hkI' : (i : Int) < (q : Int) + 1 := by omega
          have hwq : IntKind.i64.wrap (q : Int) = (q : Int) := by rw [IntWalk.i64_left, IntWalk.wrap64_in _ (by omega)]
          clear p1 p2 el1 el1b el2 el3 hblk hgr hq hq1 hLL hab2 hk hend htl hkI
          go_wp2_with fail
          go_big_region
          all_goals go_wp2
          go_roundw
          case rel => first | exact ⟨q, La', u :: Lb, by go_num, HRR.out.2.1, HRR.out.2.2, HRR.out.1, HP.out.1.drew, gr_drew HP.out.2⟩ | ((repeat apply Exists.intro); exact ⟨⟨q, La', u :: Lb, by go_num, HRR.out.2.1, HRR.out.2.2, HRR.out.1, HP.out.1.drew, gr_drew HP.out.2⟩, rfl⟩)
          case measure => simp [intOf]
end Go.Proofs.YtlaihgdfedalmaaGreat.T
namespace Go.Proofs.YtlaihgdfedalmaaGreat.T
open Go.RowKit Go.Sort
set_option linter.unusedVariables false
set_option linter.unusedSimpArgs false

def SmSaid (g cap n N : Nat) : Prop := ∀ (w : World) (A L R Z : List Tg) (ia im ib : Int), L.length + R.length ≤ N → 0 < L.length → 0 < R.length → BlkT w g cap (A ++ L ++ R ++ Z) → (A ++ L ++ R ++ Z).length = n → Asc L → Asc R → (∀ x ∈ L, ∀ y ∈ R, x.2 < y.2) → OkT L → OkT R →
    ia = (A.length : Nat) → im = ((A.length + L.length : Nat) : Nat) → ib = ((A.length + L.length + R.length : Nat) : Nat) →
    Calls Tryz.prog 180 #[.slice (some ⟨g, 0, none⟩) n cap, .int .i64 ia, .int .i64 im, .int .i64 ib, .func (.func 143) #[] #[]] w fun e w' => e = .returned (.tuple #[]) ∧ ∃ M, M.Perm (L ++ R) ∧ Asc M ∧ BlkT w' g cap (A ++ M ++ Z) ∧ w.grownBy w' (some g)

set_option maxRecDepth 10000 in
set_option maxHeartbeats 4000000 in
theorem sm_step (w : World) (g cap n N : Nat) (ih : SmSaid g cap n N) (A L R Z : List Tg) (ia im ib : Int) (hN : L.length + R.length ≤ N + 1) (hL2 : 2 ≤ L.length) (hR2 : 2 ≤ R.length) (hb : BlkT w g cap (A ++ L ++ R ++ Z)) (hn : (A ++ L ++ R ++ Z).length = n) (hmax : n ≤ 1000000)
    (hL : Asc L) (hR : Asc R) (htag : ∀ x ∈ L, ∀ y ∈ R, x.2 < y.2) (hokL : OkT L) (hokR : OkT R)
    (h1 : ia = (A.length : Nat)) (h2 : im = ((A.length + L.length : Nat) : Nat)) (h3 : ib = ((A.length + L.length + R.length : Nat) : Nat)) :
    Calls Tryz.prog 180 #[.slice (some ⟨g, 0, none⟩) n cap, .int .i64 ia, .int .i64 im, .int .i64 ib, .func (.func 143) #[] #[]] w fun e w' => e = .returned (.tuple #[]) ∧ ∃ M, M.Perm (L ++ R) ∧ Asc M ∧ BlkT w' g cap (A ++ M ++ Z) ∧ w.grownBy w' (some g) := by
  obtain ⟨a, HA⟩ : ∃ a : Nat, Hid (A.length = a) := ⟨_, rfl⟩
  obtain ⟨m, HM⟩ : ∃ m : Nat, Hid (A.length + L.length = m) := ⟨_, rfl⟩
  obtain ⟨b, HB⟩ : ∃ b : Nat, Hid (A.length + L.length + R.length = b) := ⟨_, rfl⟩
  rw [HA.out] at h1
  rw [HM.out] at h2
  rw [HB.out] at h3
  subst h1 h2 h3
  have hbn : b ≤ n := by have := HB.out; rw [← hn]; simp; omega
  have hbm : m + 2 ≤ b := by have := HM.out; have := HB.out; omega
  have hab : a + 2 ≤ m := by have := HA.out; have := HM.out; omega
  have hNb : b ≤ a + N + 1 := by have := HA.out; have := HM.out; have := HB.out; omega
  have hsub0 : ((m : Int) - (a : Int) == 1) = false := by simp; omega
  have hsub1 : ((b : Int) - (m : Int) == 1) = false := by simp; omega
  obtain ⟨mid, hmid⟩ : ∃ mid : Nat, (a + b) / 2 = mid := ⟨_, rfl⟩
  have hmidI : ((a : Int) + (b : Int)) / 2 = (mid : Int) := by omega
  have hmid1 : a + b ≤ mid + mid + 1 := by omega
  have hmid2 : mid + mid ≤ a + b := by omega
  clear hmid
  obtain ⟨q, hq⟩ : ∃ q : Nat, mid + m = q := ⟨_, rfl⟩
  have hqI : (mid : Int) + (m : Int) = (q : Int) := by omega
  have hq1 : mid + m ≤ q := by omega
  have hq2 : q ≤ mid + m := by omega
  clear hq
  obtain ⟨p, hp⟩ : ∃ p : Nat, p + 1 = q := ⟨q - 1, by omega⟩
  have hpI : (q : Int) - 1 = (p : Int) := by omega
  have hp1 : p + 1 ≤ q := by omega
  have hp2 : q ≤ p + 1 := by omega
  clear hp
  have HR : Hid (Asc L ∧ Asc R ∧ (∀ x ∈ L, ∀ y ∈ R, x.2 < y.2) ∧ OkT L ∧ OkT R) := ⟨hL, hR, htag, hokL, hokR⟩
  have HN : Hid ((A ++ L ++ R ++ Z).length = n) := hn
  have HIH : Hid (SmSaid g cap n N) := ih
  have hDl : ∀ j, a ≤ j → j < m → ∃ x, L[j - a]? = some x ∧ x ∈ L ∧ (A ++ L ++ R ++ Z)[j]? = some x := fun j h1 h2 => by
    have e1 := HM.out
    have e2 := HA.out
    have hl : j - a < L.length := by omega
    refine ⟨L[j - a], List.getElem?_eq_getElem hl, List.getElem_mem hl, ?_⟩
    rw [List.append_assoc, List.append_assoc, List.getElem?_append_right (by omega), List.getElem?_append_left (by omega)]
    rw [show j - A.length = j - a by omega]
    exact List.getElem?_eq_getElem hl
  have hDr : ∀ j, m ≤ j → j < b → ∃ y, R[j - m]? = some y ∧ y ∈ R ∧ (A ++ L ++ R ++ Z)[j]? = some y := fun j h1 h2 => by
    have e1 := HM.out
    have e2 := HB.out
    have hl : j - m < R.length := by omega
    refine ⟨R[j - m], List.getElem?_eq_getElem hl, List.getElem_mem hl, ?_⟩
    rw [List.append_assoc, List.getElem?_append_right (by simp; omega), List.getElem?_append_left (by simp; omega)]
    rw [show j - (A ++ L).length = j - m by simp; omega]
    exact List.getElem?_eq_getElem hl
  obtain ⟨D, HDD⟩ : ∃ D, Hid (A ++ L ++ R ++ Z = D) := ⟨_, rfl⟩
  rw [HDD.out] at hb hDl hDr
  have HDl : Hid (∀ j, a ≤ j → j < m → ∃ x, L[j - a]? = some x ∧ x ∈ L ∧ D[j]? = some x) := hDl
  have HDr : Hid (∀ j, m ≤ j → j < b → ∃ y, R[j - m]? = some y ∧ y ∈ R ∧ D[j]? = some y) := hDr
  have HB0 : Hid (BlkT w g cap D) := hb
  clear hb hn hL hR htag hokL hokR hDl hDr ih hL2 hR2 hN
  go_enter Tryz.func180, Tryz.ntmps180
  go_upto_if 140 with fail
  go_cut [20, 21] from 138 to 146 (fun sv rv wx => ∃ (lo hi : Nat), sv = .int .i64 (lo : Nat) ∧ rv = .int .i64 (hi : Nat) ∧ a ≤ lo ∧ hi ≤ m ∧ hi ≤ mid ∧ q ≤ lo + b ∧ lo ≤ hi ∧ (lo = a ∨ lo + b = q) ∧ (hi = m ∨ hi = mid) ∧ wx = w)
  case first =>
    by_cases hgt : mid < m
    · have hgtI : (mid : Int) < (m : Int) := by omega
      have hqb : (q : Int) - (b : Int) = ((q - b : Nat) : Int) := by omega
      go_wp2
      go_meet
      case rel => exact ⟨q - b, mid, by first | rfl | rw [hqb], rfl, by omega, by omega, by omega, by omega, by omega, .inr (by omega), .inr rfl, rfl⟩
    · have hgtI : ¬ ((mid : Int) < (m : Int)) := by omega
      go_wp2
      go_meet
      case rel => exact ⟨a, m, rfl, rfl, by omega, by omega, by omega, by omega, by omega, .inl rfl, .inl rfl, rfl⟩
  case rest =>
    obtain ⟨lo, hi, rfl, rfl, hla, hhm, hhmid, hqb, hlh, hlo0, hhi0, hwc⟩ := hcut
    obtain rfl : w = wc := hwc.symm
    have HC : Hid ((lo = a ∨ lo + b = q) ∧ (hi = m ∨ hi = mid)) := ⟨hlo0, hhi0⟩
    clear hlo0 hhi0
    go_wp2_with fail
    go_loopw [20, 21, 23] (fun iv jv _ wr => ∃ (i j : Nat), iv = .int .i64 (i : Nat) ∧ jv = .int .i64 (j : Nat) ∧ lo ≤ i ∧ i ≤ j ∧ j ≤ hi ∧ (i = lo ∨ lo < i ∧ ∃ x y, L[i - 1 - a]? = some x ∧ R[p + 1 - i - m]? = some y ∧ ltT x y) ∧ (j = hi ∨ j < hi ∧ ∃ x y, L[j - a]? = some x ∧ R[p - j - m]? = some y ∧ ltT y x) ∧ BlkT wr g cap D ∧ w.grownBy wr (some g)) (fun iv jv _ _ => (intOf jv).toNat - (intOf iv).toNat)
    case atStart => exact ⟨lo, hi, rfl, rfl, by omega, by omega, by omega, .inl rfl, .inl rfl, HB0.out, gr_refl _ _⟩
    case round =>
      clear HB0
      obtain ⟨i, j, rfl, rfl, hi', hij, hj, hlo, hhi, hblk, hgr⟩ := hrel
      by_cases hlt : i < j
      · have hltI : (i : Int) < (j : Int) := by omega
        obtain ⟨c, hc0⟩ : ∃ c : Nat, (i + j) / 2 = c := ⟨_, rfl⟩
        have hcI : ((i : Int) + (j : Int)) / 2 = (c : Int) := by omega
        have hic : i ≤ c := by omega
        have hcj : c < j := by omega
        clear hc0
        obtain ⟨e, he⟩ : ∃ e : Nat, p - c = e := ⟨_, rfl⟩
        have heI : (p : Int) - (c : Int) = (e : Int) := by omega
        have he1 : p ≤ e + c := by omega
        have he2 : e + c ≤ p := by omega
        clear he
        obtain ⟨x, hxL, hxm, hxD⟩ := HDl.out c (by omega) (by omega)
        obtain ⟨y, hyR, hym, hyD⟩ := HDr.out e (by omega) (by omega)
        have two : Two g e c y x wr := hblk.two hyD hxD
        have hc := fun W => cmpS_any W y.1 x.1 (HR.out.2.2.2.2 y hym) (HR.out.2.2.2.1 x hxm)
        have htg := HR.out.2.2.1 x hxm y hym
        have hltT := ltT_of htg
        have htri : ¬ ltT y x → ltT x y := ltT_tri (by omega)
        generalize cmpS y.1 x.1 = d at hc hltT
        have hen : (e : Int) < (n : Int) := by omega
        have hwe : IntKind.i64.wrap (e : Int) = (e : Int) := by rw [IntWalk.i64_left, IntWalk.wrap64_in _ (by omega)]
        have hcn : (c : Int) < (n : Int) := by omega
        have HBK1 : Hid (BlkT wr g cap D ∧ w.grownBy wr (some g)) := ⟨hblk, hgr⟩
        have HLO : Hid ((i = lo ∨ lo < i ∧ ∃ x y, L[i - 1 - a]? = some x ∧ R[p + 1 - i - m]? = some y ∧ ltT x y) ∧ (j = hi ∨ j < hi ∧ ∃ x y, L[j - a]? = some x ∧ R[p - j - m]? = some y ∧ ltT y x) ∧ L[c - a]? = some x ∧ R[e - m]? = some y) := ⟨hlo, hhi, hxL, hyR⟩
        unfold sta at hc
        clear hblk hgr hlo hhi hxL hxD hxm hyR hyD hym htg
        go_wp2_with fail
        refine wp_region_noPanic ?_
        refine wp_region_held_drew (S := fun wx => Two g e c y x wx) (by kernel_rfl) two (fun hHeld => ?_)
        refine tq 0 ?_
        refine tq 1 ?_
        refine tq 2 ?_
        refine tq 3 ?_
        refine tq 4 ?_
        refine tq 5 ?_
        refine tq 6 ?_
        refine tq 7 ?_
        refine tq 8 ?_
        refine tq 9 ?_
        refine tq 10 ?_
        refine comes_up 11 rfl (by kernel_rfl) (fun K hK => ?_)
        go_simp
        refine (hc _).mono ?_
        rintro e' w1 ⟨rfl, hup⟩
        have two1 := Two.up hHeld hup
        have HB1 : Hid (BlkT w1 g cap D ∧ w.grownBy w1 (some g)) := ⟨HBK1.out.1.drew.up hup, gr_trans (gr_drew HBK1.out.2) (gr_below hup.bl _)⟩
        clear two hHeld hup HBK1
        go_wp2_with fail
        refine hK.out _ _ two1 (fun hHeld => ?_)
        clear hK K
        (try simp only [Act.put, List.setIfInBounds_toArray, List.set_cons_zero, List.set_cons_succ])
        by_cases hd : d < 0
        · skip
          have hdd : decide (d < 0) = true := by simpa using hd
          have hnd : (!decide (d < 0)) = false := by simp [hd]
          refine tq 12 ?_
          refine tq 13 ?_
          refine wpAnyH_done (by kernel_rfl) ?_ _
          refine NoPanic.normal ?_
          have hyx := hltT.1 hd
          clear hltT htri hHeld two1
          go_wp2
          go_roundw
          case rel =>
            have key : ∃ (i' j' : Nat), (Value.int .i64 (i : Int)) = .int .i64 (i' : Nat) ∧ (Value.int .i64 (c : Int)) = .int .i64 (j' : Nat) ∧ lo ≤ i' ∧ i' ≤ j' ∧ j' ≤ hi ∧ (i' = lo ∨ lo < i' ∧ ∃ x y, L[i' - 1 - a]? = some x ∧ R[p + 1 - i' - m]? = some y ∧ ltT x y) ∧ (j' = hi ∨ j' < hi ∧ ∃ x y, L[j' - a]? = some x ∧ R[p - j' - m]? = some y ∧ ltT y x) ∧ BlkT w1 g cap D ∧ w.grownBy w1 (some g) :=
              ⟨i, c, rfl, rfl, by omega, by omega, by omega, HLO.out.1, .inr ⟨by omega, x, y, HLO.out.2.2.1, by rw [show p - c = e by omega]; exact HLO.out.2.2.2, hyx⟩, HB1.out.1, HB1.out.2⟩
            first | exact key | ((repeat apply Exists.intro); exact ⟨key, rfl⟩)
          case measure => simp [intOf]; omega
        · skip
          have hdd : decide (d < 0) = false := by simpa using hd
          have hnd : (!decide (d < 0)) = true := by simp [hd]
          refine tq 12 ?_
          refine tq 13 ?_
          refine wpAnyH_done (by kernel_rfl) ?_ _
          refine NoPanic.normal ?_
          have hxy := htri (fun h => hd (hltT.2 h))
          clear hltT htri hHeld two1
          go_wp2
          go_roundw
          case rel =>
            have key : ∃ (i' j' : Nat), (Value.int .i64 ((c : Int) + 1)) = .int .i64 (i' : Nat) ∧ (Value.int .i64 (j : Int)) = .int .i64 (j' : Nat) ∧ lo ≤ i' ∧ i' ≤ j' ∧ j' ≤ hi ∧ (i' = lo ∨ lo < i' ∧ ∃ x y, L[i' - 1 - a]? = some x ∧ R[p + 1 - i' - m]? = some y ∧ ltT x y) ∧ (j' = hi ∨ j' < hi ∧ ∃ x y, L[j' - a]? = some x ∧ R[p - j' - m]? = some y ∧ ltT y x) ∧ BlkT w1 g cap D ∧ w.grownBy w1 (some g) :=
              ⟨c + 1, j, by push_cast; rfl, rfl, by omega, by omega, hj, .inr ⟨by omega, x, y, HLO.out.2.2.1, by rw [show p + 1 - (c + 1) = e by omega]; exact HLO.out.2.2.2, hxy⟩, HLO.out.2.1, HB1.out.1, HB1.out.2⟩
            first | exact key | ((repeat apply Exists.intro); exact ⟨key, rfl⟩)
          case measure => simp [intOf]; omega
      · have hltI : ¬ ((i : Int) < (j : Int)) := by omega
        have hijE : i = j := by omega
        subst hijE
        have hlR : m + R.length = b := by have := HM.out; have := HB.out; omega
        have hlL : a + L.length = m := by have := HM.out; have := HA.out; omega
        obtain ⟨en, hen0⟩ : ∃ en : Nat, q - i = en := ⟨_, rfl⟩
        have henI : (q : Int) - (i : Int) = (en : Int) := by omega
        have hen1 : q ≤ en + i := by omega
        have hen2 : en + i ≤ q := by omega
        clear hen0
        have hspl : ∀ x ∈ L.take (i - a) ++ R.take (en - m), ∀ y ∈ L.drop (i - a) ++ R.drop (en - m), ltT x y := by
          refine sm_split HR.out.1 HR.out.2.1 (i - a) (en - m) ?_ ?_
          · rcases hlo with h | ⟨h0, x, y, e1, e2, e3⟩
            · rcases HC.out.1 with h' | h'
              · exact .inl (by omega)
              · exact .inr (.inl (by omega))
            · exact .inr (.inr ⟨x, y, by rw [show i - a - 1 = i - 1 - a by omega]; exact e1, by rw [show en - m = p + 1 - i - m by omega]; exact e2, e3⟩)
          · rcases hhi with h | ⟨h0, x, y, e1, e2, e3⟩
            · rcases HC.out.2 with h' | h'
              · exact .inl (by omega)
              · exact .inr (.inl (by omega))
            · exact .inr (.inr ⟨x, y, e1, by rw [show en - m - 1 = p - i - m by omega]; exact e2, e3⟩)
        obtain ⟨L1, L2, R1, R2, HT⟩ : ∃ L1 L2 R1 R2, Hid ((L1 ++ L2 = L ∧ R1 ++ R2 = R) ∧ (L1.length = i - a ∧ L2.length = m - i ∧ R1.length = en - m ∧ R2.length = b - en) ∧ (Asc L1 ∧ Asc L2 ∧ Asc R1 ∧ Asc R2) ∧ (∀ x ∈ L1 ++ R1, ∀ y ∈ L2 ++ R2, ltT x y)) :=
          ⟨L.take (i - a), L.drop (i - a), R.take (en - m), R.drop (en - m), ⟨List.take_append_drop _ _, List.take_append_drop _ _⟩, ⟨by rw [List.length_take]; omega, by rw [List.length_drop]; omega, by rw [List.length_take]; omega, by rw [List.length_drop]; omega⟩, ⟨asc_take HR.out.1 _, asc_drop HR.out.1 _, asc_take HR.out.2.1 _, asc_drop HR.out.2.1 _⟩, hspl⟩
        have HTG : Hid ((∀ x ∈ L1, ∀ y ∈ R1, x.2 < y.2) ∧ (∀ x ∈ L2, ∀ y ∈ R2, x.2 < y.2) ∧ OkT L1 ∧ OkT L2 ∧ OkT R1 ∧ OkT R2) := by
          obtain ⟨_, _, t, o1, o2⟩ := HR.out
          rw [← HT.out.1.1] at t o1
          rw [← HT.out.1.2] at t o2
          exact ⟨fun x hx y hy => t x (by simp [hx]) y (by simp [hy]), fun x hx y hy => t x (by simp [hx]) y (by simp [hy]), fun x hx => o1 x (by simp [hx]), fun x hx => o1 x (by simp [hx]), fun x hx => o2 x (by simp [hx]), fun x hx => o2 x (by simp [hx])⟩
        have HBK : Hid (BlkT wr g cap ((A ++ L1) ++ L2 ++ R1 ++ (R2 ++ Z)) ∧ w.grownBy wr (some g)) := by
          refine ⟨?_, hgr⟩
          have e : (A ++ L1) ++ L2 ++ R1 ++ (R2 ++ Z) = D := by rw [← HDD.out, ← HT.out.1.1, ← HT.out.1.2]; simp
          rw [e]; exact hblk
        have HNN : Hid ((A ++ L1).length = i ∧ ((A ++ L1) ++ L2 ++ R1 ++ (R2 ++ Z)).length = n ∧ (A ++ L1 ++ R1).length = mid) := by
          have e1 := HA.out
          have e2 := HN.out
          rw [← HT.out.1.1, ← HT.out.1.2] at e2
          obtain ⟨f1, f2, f3, f4⟩ := HT.out.2.1
          refine ⟨by rw [List.length_append]; omega, by rw [← e2]; simp, by rw [List.length_append, List.length_append]; omega⟩
        have him : i ≤ m := by omega
        have himid : i ≤ mid := by omega
        have hia : a ≤ i := by omega
        have hmen : m ≤ en := by omega
        have henb : en ≤ b := by omega
        have hmidb : mid < b := by omega
        have hamid : a < mid := by omega
        clear hspl hblk hgr hlo hhi HDl HDr HR HC HDD hlR hlL
        go_upto_region 39 with fail
        go_cut [185] from 178 to 185 (fun cv wx => cv = .bool (decide (i < m ∧ m < en)) ∧ wx = wr)
        case first =>
          by_cases c1 : i < m
          · have c1I : (i : Int) < (m : Int) := by omega
            by_cases c2 : m < en
            · have c2I : (m : Int) < (en : Int) := by omega
              go_wp2
              go_meet
              case rel => exact ⟨by simp [c1, c2], rfl⟩
            · have c2I : ¬ ((m : Int) < (en : Int)) := by omega
              go_wp2
              go_meet
              case rel => exact ⟨by simp [c1, c2], rfl⟩
          · have c1I : ¬ ((i : Int) < (m : Int)) := by omega
            go_wp2
            go_meet
            case rel => exact ⟨by simp [c1], rfl⟩
        case rest =>
        obtain ⟨rfl, hwc⟩ := hcut
        obtain rfl : wr = wc := hwc.symm
        go_upto_if 185 with fail
        go_cut [] from 185 to 191 (fun wx => BlkT wx g cap ((A ++ L1) ++ R1 ++ L2 ++ (R2 ++ Z)) ∧ w.grownBy wx (some g))
        case first =>
          by_cases hrot : i < m ∧ m < en
          · have hrb : decide (i < m ∧ m < en) = true := by simpa using hrot
            obtain ⟨f1, f2, f3, f4⟩ := HT.out.2.1
            have hro := rotate_any wr g cap n (.func (.func 143) #[] #[]) (A ++ L1) L2 R1 (R2 ++ Z) (i : Int) (m : Int) (en : Int) HBK.out.1 (by omega) (by omega) HNN.out.2.1 hmax (by rw [HNN.out.1]) (by rw [HNN.out.1]; omega) (by rw [HNN.out.1]; omega)
            clear f1 f2 f3 f4
            simp only [hrb]
            go_wp2_with fail
            refine hro.mono ?_
            rintro e' w1 ⟨rfl, hb1, hg1⟩
            have HB1 : Hid (BlkT w1 g cap ((A ++ L1) ++ R1 ++ L2 ++ (R2 ++ Z)) ∧ w.grownBy w1 (some g)) := ⟨hb1, gr_trans HBK.out.2 hg1⟩
            clear hro hb1 hg1
            go_wp2
            go_meet
            case rel => first | exact HB1.out | exact ⟨by have := HB1.out.1; simpa using this, HB1.out.2⟩
          · have hrb : decide (i < m ∧ m < en) = false := by simpa using hrot
            have HB1 : Hid (BlkT wr g cap ((A ++ L1) ++ R1 ++ L2 ++ (R2 ++ Z)) ∧ w.grownBy wr (some g)) := by
              refine ⟨?_, HBK.out.2⟩
              obtain ⟨f1, f2, f3, f4⟩ := HT.out.2.1
              have h0 := HBK.out.1
              by_cases c1 : i < m
              · have : R1 = [] := List.length_eq_zero_iff.1 (by omega)
                subst this; simpa using h0
              · have : L2 = [] := List.length_eq_zero_iff.1 (by omega)
                subst this; simpa using h0
            simp only [hrb]
            go_wp2
            go_meet
            case rel => first | exact HB1.out | exact ⟨by have := HB1.out.1; simpa using this, HB1.out.2⟩
        case rest =>
        rename World => w2
        clear HBK
        have HB1 : Hid (BlkT w2 g cap ((A ++ L1) ++ R1 ++ L2 ++ (R2 ++ Z)) ∧ w.grownBy w2 (some g)) := hcut
        clear hcut
        go_upto_region 41 with fail
        go_cut [199] from 192 to 199 (fun cv wx => cv = .bool (decide (a < i ∧ i < mid)) ∧ wx = w2)
        case first =>
          by_cases c1 : a < i
          · have c1I : (a : Int) < (i : Int) := by omega
            by_cases c2 : i < mid
            · have c2I : (i : Int) < (mid : Int) := by omega
              go_wp2
              go_meet
              case rel => exact ⟨by simp [c1, c2], rfl⟩
            · have c2I : ¬ ((i : Int) < (mid : Int)) := by omega
              go_wp2
              go_meet
              case rel => exact ⟨by simp [c1, c2], rfl⟩
          · have c1I : ¬ ((a : Int) < (i : Int)) := by omega
            go_wp2
            go_meet
            case rel => exact ⟨by simp [c1], rfl⟩
        case rest =>
        obtain ⟨rfl, hwc⟩ := hcut
        obtain rfl : w2 = wc := hwc.symm
        go_upto_if 199 with fail
        go_cut [] from 199 to 205 (fun wx => ∃ M1, M1.Perm (L1 ++ R1) ∧ Asc M1 ∧ BlkT wx g cap (A ++ M1 ++ L2 ++ R2 ++ Z) ∧ w.grownBy wx (some g))
        case first =>
          by_cases hfi : a < i ∧ i < mid
          · have hrb : decide (a < i ∧ i < mid) = true := by simpa using hfi
            obtain ⟨f1, f2, f3, f4⟩ := HT.out.2.1
            obtain ⟨s1, s2, s3, s4⟩ := HT.out.2.2.1
            have hal := HA.out
            have hro := HIH.out w2 A L1 R1 (L2 ++ (R2 ++ Z)) (a : Int) (i : Int) (mid : Int) (by omega) (by omega) (by omega) (by have := HB1.out.1; simpa using this) (by have := HNN.out.2.1; simp at this ⊢; omega) s1 s3 HTG.out.1 HTG.out.2.2.1 HTG.out.2.2.2.2.1 (by omega) (by omega) (by omega)
            clear f1 f2 f3 f4 s1 s2 s3 s4
            simp only [hrb]
            go_wp2_with fail
            refine hro.mono ?_
            rintro e' w3 ⟨rfl, M1, hp1, ha1, hb1, hg1⟩
            have HB3 : Hid (M1.Perm (L1 ++ R1) ∧ Asc M1 ∧ BlkT w3 g cap (A ++ M1 ++ L2 ++ R2 ++ Z) ∧ w.grownBy w3 (some g)) := ⟨hp1, ha1, by simpa using hb1, gr_trans HB1.out.2 hg1⟩
            clear hro hb1 hg1 hp1 ha1
            go_wp2
            go_meet
            case rel => exact ⟨M1, HB3.out.1, HB3.out.2.1, (by first | exact HB3.out.2.2.1 | (have := HB3.out.2.2.1; simpa using this)), HB3.out.2.2.2⟩
          · have hrb : decide (a < i ∧ i < mid) = false := by simpa using hfi
            have HB3 : Hid ((L1 ++ R1).Perm (L1 ++ R1) ∧ Asc (L1 ++ R1) ∧ BlkT w2 g cap (A ++ (L1 ++ R1) ++ L2 ++ R2 ++ Z) ∧ w.grownBy w2 (some g)) := by
              refine ⟨List.Perm.refl _, ?_, by have := HB1.out.1; simpa using this, HB1.out.2⟩
              obtain ⟨f1, f2, f3, f4⟩ := HT.out.2.1
              obtain ⟨s1, s2, s3, s4⟩ := HT.out.2.2.1
              by_cases c1 : a < i
              · have : R1 = [] := List.length_eq_zero_iff.1 (by omega)
                subst this; simpa using s1
              · have : L1 = [] := List.length_eq_zero_iff.1 (by omega)
                subst this; simpa using s3
            simp only [hrb]
            go_wp2
            go_meet
            case rel => exact ⟨L1 ++ R1, HB3.out.1, HB3.out.2.1, (by first | exact HB3.out.2.2.1 | (have := HB3.out.2.2.1; simpa using this)), HB3.out.2.2.2⟩
        case rest =>
        rename World => w3
        clear HB1
        obtain ⟨M1, hp1, ha1, hb1, hg1⟩ := hcut
        have hM1 : (A ++ M1).length = mid := by have := HNN.out.2.2; rw [← this, List.length_append, hp1.length_eq]; simp [Nat.add_assoc]
        have HB3 : Hid (M1.Perm (L1 ++ R1) ∧ Asc M1 ∧ BlkT w3 g cap ((A ++ M1) ++ L2 ++ R2 ++ Z) ∧ w.grownBy w3 (some g) ∧ (A ++ M1).length = mid ∧ ((A ++ M1) ++ L2 ++ R2 ++ Z).length = n) := ⟨hp1, ha1, hb1, hg1, hM1, by have := HNN.out.2.1; have e := hp1.length_eq; simp at this e ⊢; omega⟩
        have HFIN : Hid (∀ M2 : List Tg, M2.Perm (L2 ++ R2) → Asc M2 → (M1 ++ M2).Perm (L ++ R) ∧ Asc (M1 ++ M2)) := fun M2 hp2 ha2 => by
          refine ⟨?_, asc_app ha1 ha2 (fun x hx y hy => HT.out.2.2.2 x (hp1.mem_iff.1 hx) y (hp2.mem_iff.1 hy))⟩
          rw [← HT.out.1.1, ← HT.out.1.2]
          refine (hp1.append hp2).trans ?_
          rw [List.append_assoc, List.append_assoc]
          refine List.Perm.append_left _ ?_
          rw [← List.append_assoc, ← List.append_assoc]
          exact List.Perm.append_right _ List.perm_append_comm
        clear hp1 ha1 hb1 hg1 hM1
        go_upto_region 43 with fail
        go_cut [213] from 206 to 213 (fun cv wx => cv = .bool (decide (mid < en ∧ en < b)) ∧ wx = w3)
        case first =>
          by_cases c1 : mid < en
          · have c1I : (mid : Int) < (en : Int) := by omega
            by_cases c2 : en < b
            · have c2I : (en : Int) < (b : Int) := by omega
              go_wp2
              go_meet
              case rel => exact ⟨by simp [c1, c2], rfl⟩
            · have c2I : ¬ ((en : Int) < (b : Int)) := by omega
              go_wp2
              go_meet
              case rel => exact ⟨by simp [c1, c2], rfl⟩
          · have c1I : ¬ ((mid : Int) < (en : Int)) := by omega
            go_wp2
            go_meet
            case rel => exact ⟨by simp [c1], rfl⟩
        case rest =>
        obtain ⟨rfl, hwc⟩ := hcut
        obtain rfl : w3 = wc := hwc.symm
        go_upto_if 213 with fail
        by_cases hse : mid < en ∧ en < b
        · have hrb : decide (mid < en ∧ en < b) = true := by simpa using hse
          obtain ⟨f1, f2, f3, f4⟩ := HT.out.2.1
          obtain ⟨s1, s2, s3, s4⟩ := HT.out.2.2.1
          have hal := HB3.out.2.2.2.2.1
          have hro := HIH.out w3 (A ++ M1) L2 R2 Z (mid : Int) (en : Int) (b : Int) (by omega) (by omega) (by omega) HB3.out.2.2.1 HB3.out.2.2.2.2.2 s2 s4 HTG.out.2.1 HTG.out.2.2.2.1 HTG.out.2.2.2.2.2 (by omega) (by omega) (by omega)
          clear f1 f2 f3 f4 s1 s2 s3 s4 hal
          simp only [hrb]
          go_wp2_with fail
          refine hro.mono ?_
          rintro e' w4 ⟨rfl, M2, hp2, ha2, hb2, hg2⟩
          have HB4 : Hid ((M1 ++ M2).Perm (L ++ R) ∧ Asc (M1 ++ M2) ∧ BlkT w4 g cap (A ++ (M1 ++ M2) ++ Z) ∧ w.grownBy w4 (some g)) := ⟨(HFIN.out M2 hp2 ha2).1, (HFIN.out M2 hp2 ha2).2, by simpa using hb2, gr_trans HB3.out.2.2.2.1 hg2⟩
          clear hro hb2 hg2 hp2 ha2
          go_wp2
          go_end0
          exact ⟨rfl, M1 ++ M2, HB4.out.1, HB4.out.2.1, (by first | exact HB4.out.2.2.1 | (have := HB4.out.2.2.1; simpa using this)), HB4.out.2.2.2⟩
        · have hrb : decide (mid < en ∧ en < b) = false := by simpa using hse
          have hasc : Asc (L2 ++ R2) := by
            obtain ⟨f1, f2, f3, f4⟩ := HT.out.2.1
            obtain ⟨s1, s2, s3, s4⟩ := HT.out.2.2.1
            by_cases c1 : mid < en
            · have : R2 = [] := List.length_eq_zero_iff.1 (by omega)
              subst this; simpa using s2
            · have : L2 = [] := List.length_eq_zero_iff.1 (by omega)
              subst this; simpa using s4
          have HB4 : Hid ((M1 ++ (L2 ++ R2)).Perm (L ++ R) ∧ Asc (M1 ++ (L2 ++ R2)) ∧ BlkT w3 g cap (A ++ (M1 ++ (L2 ++ R2)) ++ Z) ∧ w.grownBy w3 (some g)) := ⟨(HFIN.out _ (List.Perm.refl _) hasc).1, (HFIN.out _ (List.Perm.refl _) hasc).2, by have := HB3.out.2.2.1; simpa using this, HB3.out.2.2.2.1⟩
          clear hasc
          simp only [hrb]
          go_wp2
          go_end0
          exact ⟨rfl, M1 ++ (L2 ++ R2), HB4.out.1, HB4.out.2.1, (by first | exact HB4.out.2.2.1 | (have := HB4.out.2.2.1; simpa using this)), HB4.out.2.2.2⟩

theorem sm_any (g cap n : Nat) (hmax : n ≤ 1000000) : ∀ N, SmSaid g cap n N
  | 0 => fun w A L R Z ia im ib h hl hr => by omega
  | N + 1 => fun w A L R Z ia im ib h hl hr hb hn hL hR htag hokL hokR h1 h2 h3 => by
    by_cases c1 : L.length = 1
    · obtain ⟨x, rfl⟩ := List.length_eq_one_iff.1 c1
      exact sm_left w g cap n A R Z x ia im ib hb hn hmax hR (fun y hy => htag x (by simp) y hy) (hokL x (by simp)) hokR h1 (by simpa using h2) (by simpa using h3)
    · by_cases c2 : R.length = 1
      · obtain ⟨y, rfl⟩ := List.length_eq_one_iff.1 c2
        exact sm_right w g cap n A L Z y ia im ib hb hn hmax hL (by omega) (fun x hx => htag x hx y (by simp)) (hokR y (by simp)) hokL h1 h2 (by simpa using h3)
      · exact sm_step w g cap n N (sm_any g cap n hmax N) A L R Z ia im ib h (by omega) (by omega) hb hn hmax hL hR htag hokL hokR h1 h2 h3
end Go.Proofs.YtlaihgdfedalmaaGreat.T
namespace Go.Proofs.YtlaihgdfedalmaaGreat.T
open Go.RowKit Go.Sort
set_option linter.unusedVariables false
set_option linter.unusedSimpArgs false

theorem tags_app {A B : List Tg} (h : Tags (A ++ B)) : Tags A ∧ Tags B ∧ ∀ x ∈ A, ∀ y ∈ B, x.2 < y.2 := List.pairwise_append.1 h
theorem perm_lt {F F0 T : List Tg} (hp : F.Perm F0) (h : ∀ x ∈ F0, ∀ y ∈ T, x.2 < y.2) : ∀ x ∈ F, ∀ y ∈ T, x.2 < y.2 := fun x hx y hy => h x (hp.mem_iff.1 hx) y hy

set_option maxRecDepth 10000 in
set_option maxHeartbeats 2000000 in
theorem stable_any (w : World) (g cap n : Nat) (D : List Tg) (hb : BlkT w g cap D) (hn : D.length = n) (hmax : n ≤ 1000000) (htag : Tags D) (hok : OkT D) :
    Calls Tryz.prog 169 #[.slice (some ⟨g, 0, none⟩) n cap, .int .i64 (n : Nat), .func (.func 143) #[] #[]] w fun e w' => e = .returned (.tuple #[]) ∧ ∃ M, M.Perm D ∧ Asc M ∧ BlkT w' g cap M ∧ w.grownBy w' (some g) := by
  have HN : Hid (D.length = n) := hn
  have HD : Hid (Tags D ∧ OkT D) := ⟨htag, hok⟩
  have HB0 : Hid (BlkT w g cap ([] ++ D)) := hb
  clear hb hn htag hok
  go_enter Tryz.func169, Tryz.ntmps169
  go_wp2_with fail
  go_loopw [7, 8] (fun av bv wr => ∃ (f : Nat) (F F0 T : List Tg), av = .int .i64 (f : Nat) ∧ bv = .int .i64 ((f : Int) + 20) ∧ F.length = f ∧ D = F0 ++ T ∧ F.Perm F0 ∧ App 20 F ∧ BlkT wr g cap (F ++ T) ∧ w.grownBy wr (some g)) (fun av _ _ => n - (intOf av).toNat)
  case atStart => exact ⟨0, [], [], D, rfl, rfl, rfl, rfl, List.Perm.refl _, App.nil _, HB0.out, gr_refl _ _⟩
  case round =>
    clear HB0
    obtain ⟨f, F, F0, T, rfl, rfl, hf, hD, hp, happ, hblk, hgr⟩ := hrel
    have hlen : f + T.length = n := by have := HN.out; rw [hD, List.length_append, ← hp.length_eq] at this; omega
    by_cases hle : f + 20 ≤ n
    · have hleI : (f : Int) + 20 ≤ (n : Int) := by omega
      obtain ⟨C, T', rfl, hC⟩ : ∃ C T', T = C ++ T' ∧ C.length = 20 := ⟨T.take 20, T.drop 20, by simp, by rw [List.length_take]; omega⟩
      have ht := HD.out.1
      rw [hD] at ht
      obtain ⟨_, ht2, ht3⟩ := tags_app ht
      obtain ⟨ht4, _, ht5⟩ := tags_app ht2
      have hins := insertion_any wr g cap n F C T' (f : Int) ((f : Int) + 20) (by simpa using hblk) (by simp at hlen ⊢; omega) hmax ht4 (fun x hx => HD.out.2 x (by rw [hD]; simp [hx])) (by rw [hf]) (by rw [hf, hC]; push_cast; rfl)
      have HF : Hid (F.length = f ∧ D = F0 ++ (C ++ T') ∧ F.Perm F0 ∧ App 20 F ∧ w.grownBy wr (some g) ∧ C.length = 20 ∧ (∀ x ∈ F, ∀ y ∈ C, x.2 < y.2)) := ⟨hf, hD, hp, happ, hgr, hC, perm_lt hp (fun x hx y hy => ht3 x hx y (by simp [hy]))⟩
      clear ht ht2 ht3 ht4 ht5 hblk hf hD hp happ hgr hlen hC
      go_wp2_with fail
      refine hins.mono ?_
      rintro e w1 ⟨rfl, C', hpc, hac, hb1, hg1⟩
      have HK : Hid ((F ++ C').length = f + 20 ∧ D = (F0 ++ C) ++ T' ∧ (F ++ C').Perm (F0 ++ C) ∧ App 20 (F ++ C') ∧ BlkT w1 g cap ((F ++ C') ++ T') ∧ w.grownBy w1 (some g)) := by
        obtain ⟨a1, a2, a3, a4, a5, a6, a7⟩ := HF.out
        refine ⟨by rw [List.length_append, hpc.length_eq]; omega, by rw [a2]; simp, a3.append hpc, a4.snoc (fun x hx y hy => a7 x hx y (hpc.mem_iff.1 hy)) hac (by rw [hpc.length_eq]; exact a6), hb1, gr_trans a5 hg1⟩
      clear hins hpc hac hb1 hg1 HF
      go_wp2
      go_roundw
      case rel =>
        have key : ∃ (f' : Nat) (F F0 T : List Tg), (Value.int .i64 ((f : Int) + 20)) = .int .i64 (f' : Nat) ∧ (Value.int .i64 ((f : Int) + 20 + 20)) = .int .i64 ((f' : Int) + 20) ∧ F.length = f' ∧ D = F0 ++ T ∧ F.Perm F0 ∧ App 20 F ∧ BlkT w1 g cap (F ++ T) ∧ w.grownBy w1 (some g) :=
          ⟨f + 20, F ++ C', F0 ++ C, T', by push_cast; rfl, by push_cast; rfl, HK.out.1, HK.out.2.1, HK.out.2.2.1, HK.out.2.2.2.1, HK.out.2.2.2.2.1, HK.out.2.2.2.2.2⟩
        first | exact key | ((repeat apply Exists.intro); exact ⟨key, rfl⟩)
      case measure => simp [intOf]; omega
    · have hleI : ¬ ((f : Int) + 20 ≤ (n : Int)) := by omega
      have ht := HD.out.1
      rw [hD] at ht
      obtain ⟨_, ht2, ht3⟩ := tags_app ht
      have hins := insertion_any wr g cap n F T [] (f : Int) (n : Int) (by simpa using hblk) (by simp; omega) hmax ht2 (fun x hx => HD.out.2 x (by rw [hD]; simp [hx])) (by rw [hf]) (by rw [hf]; omega)
      have HF : Hid (D = F0 ++ T ∧ F.Perm F0 ∧ App 20 F ∧ w.grownBy wr (some g) ∧ T.length ≤ 20 ∧ (∀ x ∈ F, ∀ y ∈ T, x.2 < y.2)) := ⟨hD, hp, happ, hgr, by omega, perm_lt hp ht3⟩
      clear ht ht2 ht3 hblk hf hD hp happ hgr hlen
      go_wp2_with fail
      refine hins.mono ?_
      rintro e w1 ⟨rfl, T', hpc, hac, hb1, hg1⟩
      have HK : Hid ((F ++ T').Perm D ∧ Ch 20 (F ++ T') ∧ BlkT w1 g cap (F ++ T') ∧ w.grownBy w1 (some g)) := by
        obtain ⟨a2, a3, a4, a5, a6, a7⟩ := HF.out
        refine ⟨by rw [a2]; exact a3.append hpc, a4 _ (fun x hx y hy => a7 x hx y (hpc.mem_iff.1 hy)) (Ch.last _ hac (by rw [hpc.length_eq]; exact a6)), by simpa using hb1, gr_trans a5 hg1⟩
      clear hins hpc hac hb1 hg1 HF hle hleI
      obtain ⟨M0, hM0⟩ : ∃ M0, F ++ T' = M0 := ⟨_, rfl⟩
      rw [hM0] at HK
      clear hM0
      go_wp2_with fail
      go_loopw [6, 7, 8, 9] (fun kv _ _ _ wr => ∃ (k : Nat) (M : List Tg), kv = .int .i64 (k : Nat) ∧ 20 ≤ k ∧ M.Perm D ∧ Ch k M ∧ BlkT wr g cap M ∧ w.grownBy wr (some g)) (fun kv _ _ _ _ => n - (intOf kv).toNat)
      case atStart => exact ⟨20, M0, rfl, by omega, HK.out.1, HK.out.2.1, HK.out.2.2.1, HK.out.2.2.2⟩
      case round =>
        clear HK
        obtain ⟨k, M, rfl, hk20, hpM, hch, hblk, hgr⟩ := hrel
        by_cases hkn : k < n
        · have hknI : (k : Int) < (n : Int) := by omega
          obtain ⟨k2, hk2⟩ : ∃ k2 : Nat, 2 * k = k2 := ⟨_, rfl⟩
          have hk2I : (2 : Int) * (k : Int) = (k2 : Int) := by omega
          have hk2J : (k : Int) * 2 = (k2 : Int) := by omega
          have hk2a : 2 * k ≤ k2 := by omega
          have hk2b : k2 ≤ 2 * k := by omega
          clear hk2
          have HK2 : Hid (M.Perm D ∧ Ch k M ∧ BlkT wr g cap ([] ++ M) ∧ w.grownBy wr (some g)) := ⟨hpM, hch, hblk, hgr⟩
          clear hpM hch hblk hgr
          go_wp2_with fail
          go_loopw [7, 8] (fun av bv wr => ∃ (f : Nat) (F T : List Tg), av = .int .i64 (f : Nat) ∧ bv = .int .i64 ((f : Int) + (k2 : Int)) ∧ F.length = f ∧ (F ++ T).Perm D ∧ App k2 F ∧ Ch k T ∧ (∀ x ∈ F, ∀ y ∈ T, x.2 < y.2) ∧ BlkT wr g cap (F ++ T) ∧ w.grownBy wr (some g)) (fun av _ _ => n - (intOf av).toNat)
          case atStart => exact ⟨0, [], M, rfl, by simp, rfl, HK2.out.1, App.nil _, HK2.out.2.1, by simp, HK2.out.2.2.1, HK2.out.2.2.2⟩
          case round =>
            clear HK2
            obtain ⟨f, F, T, rfl, rfl, hf, hp, happ, hch, hFT, hblk, hgr⟩ := hrel
            have hlen : f + T.length = n := by have := HN.out; rw [← hp.length_eq, List.length_append] at this; omega
            by_cases hle : f + k2 ≤ n
            · have hleI : (f : Int) + (k2 : Int) ≤ (n : Int) := by omega
              obtain ⟨c, r, rfl, hac, hlc, hcr, hchr⟩ := hch.first (by omega)
              obtain ⟨d, r', rfl, had, hld, hdr, hchr'⟩ := hchr.first (by rw [List.length_append] at hlen; omega)
              have hsm := sm_any g cap n hmax (c.length + d.length) wr F c d r' (f : Int) ((f : Int) + (k : Int)) ((f : Int) + (k2 : Int)) (by omega) (by omega) (by omega) (by simpa using hblk) (by simp at hlen ⊢; omega) hac had (fun x hx y hy => hcr x hx y (by simp [hy])) (fun x hx => HD.out.2 x (hp.mem_iff.1 (by simp [hx]))) (fun x hx => HD.out.2 x (hp.mem_iff.1 (by simp [hx]))) (by rw [hf]) (by rw [hf, hlc]; push_cast; rfl) (by rw [hf, hlc, hld]; push_cast; omega)
              have HF : Hid (F.length = f ∧ (F ++ (c ++ (d ++ r'))).Perm D ∧ App k2 F ∧ Ch k r' ∧ (∀ x ∈ F, ∀ y ∈ c ++ (d ++ r'), x.2 < y.2) ∧ (∀ x ∈ c, ∀ y ∈ d ++ r', x.2 < y.2) ∧ (∀ x ∈ d, ∀ y ∈ r', x.2 < y.2) ∧ w.grownBy wr (some g) ∧ c.length = k ∧ d.length = k) := ⟨hf, hp, happ, hchr', hFT, hcr, hdr, hgr, hlc, hld⟩
              clear hf hp happ hch hFT hblk hgr hlen hac hlc hcr hchr had hld hdr hchr'
              go_wp2_with fail
              refine hsm.mono ?_
              rintro e w1 ⟨rfl, C', hpc, hac, hb1, hg1⟩
              have HK : Hid ((F ++ C').length = f + k2 ∧ ((F ++ C') ++ r').Perm D ∧ App k2 (F ++ C') ∧ Ch k r' ∧ (∀ x ∈ F ++ C', ∀ y ∈ r', x.2 < y.2) ∧ BlkT w1 g cap ((F ++ C') ++ r') ∧ w.grownBy w1 (some g)) := by
                obtain ⟨a1, a2, a3, a4, a5, a6, a7, a8, a9, a10⟩ := HF.out
                have hCl : C'.length = k2 := by rw [hpc.length_eq, List.length_append]; omega
                refine ⟨by rw [List.length_append]; omega, ?_, a3.snoc (fun x hx y hy => a5 x hx y ?_) hac hCl, a4, fun x hx y hy => ?_, hb1, gr_trans a8 hg1⟩
                · refine List.Perm.trans ?_ a2
                  rw [List.append_assoc]
                  refine List.Perm.append_left _ ?_
                  rw [← List.append_assoc c]
                  exact List.Perm.append_right _ hpc
                · have := hpc.mem_iff.1 hy
                  simp at this ⊢
                  rcases this with h | h
                  · exact .inl h
                  · exact .inr (.inl h)
                · rw [List.mem_append] at hx
                  rcases hx with hx | hx
                  · exact a5 x hx y (by simp [hy])
                  · have := hpc.mem_iff.1 hx
                    rw [List.mem_append] at this
                    rcases this with h | h
                    · exact a6 x h y (by simp [hy])
                    · exact a7 x h y hy
              clear hsm hpc hac hb1 hg1 HF
              go_wp2
              go_roundw
              case rel =>
                have key : ∃ (f' : Nat) (F T : List Tg), (Value.int .i64 ((f : Int) + (k2 : Int))) = .int .i64 (f' : Nat) ∧ (Value.int .i64 ((f : Int) + (k2 : Int) + (k2 : Int))) = .int .i64 ((f' : Int) + (k2 : Int)) ∧ F.length = f' ∧ (F ++ T).Perm D ∧ App k2 F ∧ Ch k T ∧ (∀ x ∈ F, ∀ y ∈ T, x.2 < y.2) ∧ BlkT w1 g cap (F ++ T) ∧ w.grownBy w1 (some g) :=
                  ⟨f + k2, F ++ C', r', by push_cast; rfl, by push_cast; rfl, HK.out⟩
                first | exact key | ((repeat apply Exists.intro); exact ⟨key, rfl⟩)
              case measure => simp [intOf]; omega
            · have hleI : ¬ ((f : Int) + (k2 : Int) ≤ (n : Int)) := by omega
              by_cases hm : f + k < n
              · have hmI : (f : Int) + (k : Int) < (n : Int) := by omega
                obtain ⟨c, r, rfl, hac, hlc, hcr, hchr⟩ := hch.two (by omega)
                have hrl : r.length ≤ k := by rw [List.length_append] at hlen; omega
                have hsm := sm_any g cap n hmax (c.length + r.length) wr F c r [] (f : Int) ((f : Int) + (k : Int)) (n : Int) (by omega) (by omega) (by rw [List.length_append] at hlen; omega) (by simpa using hblk) (by simp at hlen ⊢; omega) hac (hchr.one hrl) hcr (fun x hx => HD.out.2 x (hp.mem_iff.1 (by simp [hx]))) (fun x hx => HD.out.2 x (hp.mem_iff.1 (by simp [hx]))) (by rw [hf]) (by rw [hf, hlc]; push_cast; rfl) (by rw [hf, hlc]; rw [List.length_append] at hlen; omega)
                have HF : Hid ((F ++ (c ++ r)).Perm D ∧ App k2 F ∧ (∀ x ∈ F, ∀ y ∈ c ++ r, x.2 < y.2) ∧ w.grownBy wr (some g) ∧ (c ++ r).length ≤ k2) := ⟨hp, happ, hFT, hgr, by rw [List.length_append]; omega⟩
                clear hf hp happ hch hFT hblk hgr hlen hac hlc hcr hchr hrl
                go_wp2_with fail
                refine hsm.mono ?_
                rintro e w1 ⟨rfl, C', hpc, hac, hb1, hg1⟩
                have HK : Hid ((F ++ C').Perm D ∧ Ch k2 (F ++ C') ∧ BlkT w1 g cap (F ++ C') ∧ w.grownBy w1 (some g)) := by
                  obtain ⟨a2, a3, a5, a8, a9⟩ := HF.out
                  exact ⟨(List.Perm.append_left _ hpc).trans a2, a3 _ (fun x hx y hy => a5 x hx y (hpc.mem_iff.1 hy)) (Ch.last _ hac (by rw [hpc.length_eq]; exact a9)), by simpa using hb1, gr_trans a8 hg1⟩
                clear hsm hpc hac hb1 hg1 HF
                go_wp2
                go_roundw
                case rel =>
                  have key : ∃ (k' : Nat) (M : List Tg), (Value.int .i64 (k2 : Int)) = .int .i64 (k' : Nat) ∧ 20 ≤ k' ∧ M.Perm D ∧ Ch k' M ∧ BlkT w1 g cap M ∧ w.grownBy w1 (some g) := ⟨k2, F ++ C', rfl, by omega, HK.out⟩
                  first | exact key | ((repeat apply Exists.intro); exact ⟨key, rfl⟩)
                case measure => simp [intOf]; omega
              · have hmI : ¬ ((f : Int) + (k : Int) < (n : Int)) := by omega
                have HK : Hid ((F ++ T).Perm D ∧ Ch k2 (F ++ T) ∧ BlkT wr g cap (F ++ T) ∧ w.grownBy wr (some g)) := ⟨hp, happ _ hFT (Ch.last _ (hch.one (by omega)) (by omega)), hblk, hgr⟩
                clear hf hp happ hch hFT hblk hgr
                go_wp2
                go_roundw
                case rel =>
                  have key : ∃ (k' : Nat) (M : List Tg), (Value.int .i64 (k2 : Int)) = .int .i64 (k' : Nat) ∧ 20 ≤ k' ∧ M.Perm D ∧ Ch k' M ∧ BlkT wr g cap M ∧ w.grownBy wr (some g) := ⟨k2, F ++ T, rfl, by omega, HK.out⟩
                  first | exact key | ((repeat apply Exists.intro); exact ⟨key, rfl⟩)
                case measure => simp [intOf]; omega
        · have hknI : ¬ ((k : Int) < (n : Int)) := by omega
          have HE : Hid (M.Perm D ∧ Asc M ∧ BlkT wr g cap M ∧ w.grownBy wr (some g)) := ⟨hpM, hch.one (by rw [hpM.length_eq, HN.out]; omega), hblk, hgr⟩
          clear hpM hch hblk hgr
          go_wp2
          go_end0
          exact ⟨rfl, M, HE.out⟩

set_option maxRecDepth 10000 in
/-- What Join sorts: the first stay ahead of their like. -/
theorem sort_any (w : World) (g cap n : Nat) (D : List Tg) (hb : BlkT w g cap D) (hn : D.length = n) (hmax : n ≤ 1000000) (htag : Tags D) (hok : OkT D) :
    Calls Tryz.prog 142 #[.slice (some ⟨g, 0, none⟩) n cap, .func (.func 143) #[] #[]] w fun e w' => e = .returned (.tuple #[]) ∧ ∃ M, M.Perm D ∧ Asc M ∧ BlkT w' g cap M ∧ w.grownBy w' (some g) := by
  have hst := stable_any w g cap n D hb hn hmax htag hok
  clear hb hn htag hok
  go_enter Tryz.func142, Tryz.ntmps142
  go_wp2_with fail
  refine hst.mono ?_
  rintro e w1 ⟨rfl, M, h1, h2, h3, h4⟩
  clear hst
  go_wp2
  go_end0
  exact ⟨rfl, M, h1, h2, h3, h4⟩
end Go.Proofs.YtlaihgdfedalmaaGreat.T
