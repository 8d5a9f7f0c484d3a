/-
  Texts of the walk, one behind the other.
-/
import Derived.Test.YtlaihgdfedalmaaGreatMix1
import Derived.Sort.Grow
import Derived.Laws.CopyRow
import Derived.Lib.SliceRun
import Derived.Laws.Tables
import Derived.BigRegion
import Derived.Deep.Cut
import Derived.Deep.CutRange
import Derived.Laws.AppendOwnNone
import Derived.OrdersIn
import Derived.OrdersHeld
import Derived.Laws.MakeOwn
import Derived.Deep.MidRow
import Derived.Test.YtlaihgdfedalmaaGreatMix0
import Derived.OwnWalk
/-
  States as they lie in memory, cell by cell, and a block of them that is written to.
  slices' swapRange of states.
  slices' rotate of states.
  By what is sorted, and what stays ahead of its like: plain facts on lists of states that bear where they stood.
  slices' insertion sort of states: those that were told first stay ahead of their like.
  slices' symMerge of states, where the left part is one state.
  slices' symMerge of states, where the right part is one state.
  slices' symMerge of states: two sorted stretches become one.
  slices.SortStableFunc of states.
-/
namespace Go.Proofs.YtlaihgdfedalmaaGreat.T
open Go.RowKit Go.Sort
set_option linter.unusedVariables false

/-- A state: its view's number, its floor, and where its items lie. -/
abbrev Sx := Lb × Sl
def cellsS (x : Sx) : List Value := [.int .u64 (x.1.1 : Nat), .int .i64 x.1.2.1, .int .u64 (x.1.2.2.1 : Nat), .int .i64 x.1.2.2.2, .slice x.2.1 x.2.2.1 x.2.2.2]
def flat (ls : List Sx) : List Value := ls.flatMap cellsS
theorem flat_len (ls : List Sx) : (flat ls).length = ls.length * 5 := by
  induction ls with
  | nil => rfl
  | cons a r ih => simp [flat, cellsS] at ih ⊢; omega
theorem flat_cons (x : Sx) (ls : List Sx) : flat (x :: ls) = cellsS x ++ flat ls := by simp [flat]
theorem flat_app (a b : List Sx) : flat (a ++ b) = flat a ++ flat b := by simp [flat]
theorem flat_one {ls : List Sx} {u : Value} (h : u ∈ flat ls) : u.oneCell' = true := by
  obtain ⟨x, _, hx⟩ := List.mem_flatMap.1 h
  simp [cellsS] at hx
  rcases hx with rfl | rfl | rfl | rfl | rfl <;> rfl
theorem flat_get : ∀ (ls : List Sx) (j : Nat) (x : Sx) (i : Nat), ls[j]? = some x → i < 5 → (flat ls)[5 * j + i]? = (cellsS x)[i]?
  | [], j, x, i, h, hi => by simp at h
  | a :: r, 0, x, i, h, hi => by
    simp at h; subst h
    rw [flat_cons, List.getElem?_append_left (by simp [cellsS]; omega)]; simp
  | a :: r, j + 1, x, i, h, hi => by
    rw [flat_cons, List.getElem?_append_right (by simp [cellsS]; omega), show 5 * (j + 1) + i - (cellsS a).length = 5 * j + i by simp [cellsS]; omega]
    exact flat_get r j x i (by simpa using h) hi
theorem gr_refl (w : World) (r : Option Nat) : w.grownBy w r := ⟨rfl, rfl, rfl, Nat.le_refl _, fun _ _ _ => rfl⟩
theorem gr_trans {a b c : World} {r : Option Nat} (h : a.grownBy b r) (k : b.grownBy c r) : a.grownBy c r :=
  ⟨k.os.trans h.os, k.tape.trans h.tape, k.output.trans h.output, Nat.le_trans h.size k.size, fun i hi hne => (k.block i (Nat.lt_of_lt_of_le hi h.size) hne).trans (h.block i hi hne)⟩
theorem gr_below {a b : World} (h : Below a.heap.size a b) (r : Option Nat) : a.grownBy b r := ⟨h.os, h.tape, h.output, h.size, fun i hi _ => h.block i hi⟩
theorem gr_setRow (w : World) (g : Nat) (cs : Array Value) : w.grownBy (w.setRow g cs) (some g) := ⟨rfl, rfl, rfl, by simp, fun i hi hne => setRow_other _ _ _ _ (fun e => hne (by rw [e]))⟩

/-- Block g has these labels, and behind them what is left of its room. -/
def Blk (w : World) (g cap : Nat) (cur : List Sx) : Prop := ∃ rest : List Value, w.heap[g]? = some (.cells (flat cur ++ rest).toArray 41 (0, 0)) ∧ (flat cur ++ rest).length = cap * 5
theorem Blk.of_block {w w' : World} {g cap : Nat} {cur : List Sx} (h : Blk w g cap cur) (e : w'.heap[g]? = w.heap[g]?) : Blk w' g cap cur := by
  obtain ⟨r, h1, h2⟩ := h
  exact ⟨r, by rw [e]; exact h1, h2⟩
theorem Blk.lt {w : World} {g cap : Nat} {cur : List Sx} (h : Blk w g cap cur) : g < w.heap.size := by
  obtain ⟨r, h1, _⟩ := h
  exact (Array.getElem?_eq_some_iff.1 h1).1
theorem Blk.up {w w' : World} {g cap : Nat} {cur : List Sx} (h : Blk w g cap cur) (u : Below w.heap.size w w') : Blk w' g cap cur := h.of_block (u.block g h.lt)
theorem Blk.len {w : World} {g cap : Nat} {cur : List Sx} (h : Blk w g cap cur) : cur.length ≤ cap := by
  obtain ⟨r, _, h2⟩ := h
  rw [List.length_append, flat_len] at h2
  omega
theorem Blk.ofOwn {w : World} {B n g cap : Nat} {ls : List Sx} (h : w.ownsRow B 41 5 (.slice (some ⟨g, 0, none⟩) n cap) n (flat ls)) : Blk w g cap ls ∧ B ≤ g ∧ n ≤ cap ∧ cap ≤ maxLen := by
  rcases h.2 with ⟨h0, _⟩ | ⟨g', cap', cur, h0, a, b, c, d, e, f⟩
  · cases h0
  · simp only [Value.slice.injEq, Option.some.injEq, Addr.mk.injEq] at h0
    obtain ⟨⟨rfl, _, _⟩, _, rfl⟩ := h0
    refine ⟨⟨cur.toList.drop (n * 5), ?_, ?_⟩, a, c, d⟩
    · rw [b, ← f, List.take_append_drop]
    · rw [← f, List.take_append_drop]; simpa using e
theorem Blk.own {w : World} {B g cap : Nat} {cur : List Sx} (h : Blk w g cap cur) (hB : B ≤ g) (hc : cap ≤ maxLen) (i : Nat) (hi : i ≤ cur.length) : w.ownsRow B 41 5 (.slice (some ⟨g, 0, none⟩) i cap) i (flat (cur.take i)) := by
  have hl := h.len
  obtain ⟨r, h1, h2⟩ := h
  refine ⟨by rw [flat_len, List.length_take]; omega, .inr ⟨g, cap, _, rfl, hB, h1, by omega, hc, by simpa using h2, ?_⟩⟩
  have e : flat cur = flat (cur.take i) ++ flat (cur.drop i) := by rw [← flat_app, List.take_append_drop]
  simp only [e, List.append_assoc]
  rw [List.take_append_of_le_length (by rw [flat_len, List.length_take]; omega), List.take_of_length_le (by rw [flat_len, List.length_take]; omega)]
theorem Blk.cell {w : World} {g cap : Nat} {cur : List Sx} (h : Blk w g cap cur) {j : Nat} {x : Sx} (hj : cur[j]? = some x) :
    w.cell? ⟨g, j * 5, none⟩ = some (.int .u64 (x.1.1 : Nat)) ∧ w.cell? ⟨g, j * 5 + 1, none⟩ = some (.int .i64 x.1.2.1) ∧ w.cell? ⟨g, j * 5 + 2, none⟩ = some (.int .u64 (x.1.2.2.1 : Nat)) ∧ w.cell? ⟨g, j * 5 + 3, none⟩ = some (.int .i64 x.1.2.2.2) ∧ w.cell? ⟨g, j * 5 + 4, none⟩ = some (.slice x.2.1 x.2.2.1 x.2.2.2) := by
  obtain ⟨r, h1, h2⟩ := h
  have hjl : j < cur.length := (List.getElem?_eq_some_iff.1 hj).1
  have key : ∀ i, i < 5 → w.cell? ⟨g, j * 5 + i, none⟩ = (cellsS x)[i]? := fun i hi => by
    unfold World.cell?
    rw [h1]
    simp only [List.getElem?_toArray]
    rw [List.getElem?_append_left (by rw [flat_len]; omega), show j * 5 + i = 5 * j + i by omega]
    exact flat_get cur j x i hj hi
  exact ⟨key 0 (by omega), key 1 (by omega), key 2 (by omega), key 3 (by omega), key 4 (by omega)⟩
theorem flat_set (ls : List Sx) (i : Nat) (x : Sx) (hi : i < ls.length) : flat (ls.set i x) = (flat ls).take (i * 5) ++ cellsS x ++ (flat ls).drop (i * 5 + 5) := by
  obtain ⟨a, y, b, rfl, rfl⟩ : ∃ a y b, ls = a ++ y :: b ∧ i = a.length := ⟨ls.take i, ls[i], ls.drop (i + 1), by simp, by rw [List.length_take]; omega⟩
  have l1 := flat_len a
  have e : (a ++ y :: b).set a.length x = a ++ x :: b := by simp
  rw [e, flat_app, flat_cons, flat_app, flat_cons]
  rw [List.take_append_of_le_length (by omega), List.take_of_length_le (by omega), List.drop_append, List.drop_of_length_le (by omega), show a.length * 5 + 5 - (flat a).length = (cellsS y).length by simp [cellsS]; omega]
  simp
theorem Blk.set {w : World} {g cap : Nat} {cur : List Sx} (h : Blk w g cap cur) {i : Nat} (hi : i < cur.length) (x : Sx) :
    ∃ w', Sem.run Tryz.prog (storeCells ⟨g, i * 5, none⟩ [.int .u64 (x.1.1 : Nat), .int .i64 x.1.2.1, .int .u64 (x.1.2.2.1 : Nat), .int .i64 x.1.2.2.2, .slice x.2.1 x.2.2.1 x.2.2.2] 0) w = .ok () w' ∧ Blk w' g cap (cur.set i x) ∧ w.grownBy w' (some g) := by
  obtain ⟨r, h1, h2⟩ := h
  have hl := flat_len cur
  have hrun := run_storeCells_at (P := Tryz.prog) g (i * 5) 41 (cellsS x) 0 _ w h1 (by simp [cellsS]; omega) (by simp [cellsS, Value.oneCell'])
  refine ⟨_, hrun, ⟨r, ?_, ?_⟩, gr_setRow _ _ _⟩
  · rw [setRow_heap _ _ _ _ _ _ h1]
    congr 3
    rw [flat_set _ _ _ hi]
    have a1 : (flat cur ++ r).take (i * 5 + 0) = (flat cur).take (i * 5) := List.take_append_of_le_length (by omega)
    have a2 : (flat cur ++ r).drop (i * 5 + 0 + (cellsS x).length) = (flat cur).drop (i * 5 + 5) ++ r := by
      rw [show i * 5 + 0 + (cellsS x).length = i * 5 + 5 by simp [cellsS], List.drop_append_of_le_length (by omega)]
    rw [a1, a2]
    simp
  · rw [← h2, List.length_append, List.length_append, flat_len, flat_len, List.length_set]
theorem Blk.free {w : World} {g cap : Nat} {cur : List Sx} (h : Blk w g cap cur) (j : Nat) : w.frozen? ⟨g, j, none⟩ = false := by
  obtain ⟨r, h1, h2⟩ := h
  simp [World.frozen?, h1]
/-- A store of a thing of several cells, by its run. -/
theorem wpList_store_cells {P : Program} {ops : Array Oper} {rest : List Oper} {o : Oper} {a : Act} {w : World} {Q : Exit → Act → World → Prop} (hgd : o.guard = none) (ty : TypeId) (x y : Operand) (ho : o.op = .store ty x y)
    (ad : Addr) (cells : Array Value) (hx : a.eval x = .pointer (some ad)) (hy : a.eval y = .agg cells) (hi : (P.info? ty).map (·.size) = some cells.size)
    (w' : World) (hrun : (storeCells ad cells.toList 0).run P w = .ok () w') (h : wpList P ops Q rest (a.put o.dst undef) w') : wpList P ops Q (o :: rest) a w := by
  have hsv : (storeVar ty ad (.agg cells)).run P w = .ok () w' := by
    cases hq : P.info? ty with
    | none => simp [hq] at hi
    | some i =>
      have hs : cells.size = i.size := by simp [hq] at hi; omega
      simp [storeVar, sizeOf, typeInfo, hq, Value.cells, hs, hrun]
  refine wpList_plain hgd fun K hK => ?_
  unfold Oper.wp execOp
  simp only [ho, hx, hy, Instr.storeAt, Instr.sureAddr, Sem.run_bind, Sem.run_pure, Result.andThen_ok, hsv]
  exact hK _ _ h
end Go.Proofs.YtlaihgdfedalmaaGreat.T
namespace Go.Proofs.YtlaihgdfedalmaaGreat.T
open Go.RowKit Go.Sort
set_option linter.unusedVariables false

abbrev Tg := Sx × Nat
def BlkT (w : World) (g cap : Nat) (l : List Tg) : Prop := Blk w g cap (l.map (·.1))

theorem BlkT.drew {w : World} {g cap : Nat} {l : List Tg} (h : BlkT w g cap l) : BlkT w.drew g cap l := h
theorem gr_drew {a w : World} {r : Option Nat} (h : a.grownBy w r) : a.grownBy w.drew r := ⟨h.os, h.tape, h.output, h.size, h.block⟩
theorem mid_get {α : Type} (X : List α) (y : α) (Y : List α) {j : Nat} (h : X.length = j) : (X ++ y :: Y)[j]? = some y := by subst h; simp
theorem mid_set {α : Type} (X : List α) (y z : α) (Y : List α) {j : Nat} (h : X.length = j) : (X ++ y :: Y).set j z = X ++ z :: Y := by subst h; simp
theorem BlkT.get {w : World} {g cap j : Nat} {X Y : List Tg} {y : Tg} (h : BlkT w g cap (X ++ y :: Y)) (hj : X.length = j) :
    w.cell? ⟨g, j * 5, none⟩ = some (.int .u64 (y.1.1.1 : Nat)) ∧ w.cell? ⟨g, j * 5 + 1, none⟩ = some (.int .i64 y.1.1.2.1) ∧ w.cell? ⟨g, j * 5 + 2, none⟩ = some (.int .u64 (y.1.1.2.2.1 : Nat)) ∧ w.cell? ⟨g, j * 5 + 3, none⟩ = some (.int .i64 y.1.1.2.2.2) ∧ w.cell? ⟨g, j * 5 + 4, none⟩ = some (.slice y.1.2.1 y.1.2.2.1 y.1.2.2.2) := by
  refine Blk.cell h (x := y.1) ?_
  rw [List.getElem?_map, mid_get X y Y hj]
  rfl
/-- An element laid, cell by cell. -/
theorem Blk.put {w : World} {g cap : Nat} {cur : List Sx} (h : Blk w g cap cur) {i : Nat} (hi : i < cur.length) (x : Sx) :
    Blk (((((w.setCell ⟨g, i * 5, none⟩ (.int .u64 (x.1.1 : Nat))).setCell ⟨g, i * 5 + 1, none⟩ (.int .i64 x.1.2.1)).setCell ⟨g, i * 5 + 2, none⟩ (.int .u64 (x.1.2.2.1 : Nat))).setCell ⟨g, i * 5 + 3, none⟩ (.int .i64 x.1.2.2.2)).setCell ⟨g, i * 5 + 4, none⟩ (.slice x.2.1 x.2.2.1 x.2.2.2)) g cap (cur.set i x) ∧
    w.grownBy (((((w.setCell ⟨g, i * 5, none⟩ (.int .u64 (x.1.1 : Nat))).setCell ⟨g, i * 5 + 1, none⟩ (.int .i64 x.1.2.1)).setCell ⟨g, i * 5 + 2, none⟩ (.int .u64 (x.1.2.2.1 : Nat))).setCell ⟨g, i * 5 + 3, none⟩ (.int .i64 x.1.2.2.2)).setCell ⟨g, i * 5 + 4, none⟩ (.slice x.2.1 x.2.2.1 x.2.2.2)) (some g) := by
  obtain ⟨w', hrun, hb, hg⟩ := h.set hi x
  obtain ⟨y, hy⟩ : ∃ y, cur[i]? = some y := ⟨cur[i], List.getElem?_eq_getElem hi⟩
  obtain ⟨c0, c1, c2, c3, c4⟩ := h.cell hy
  have h2 := run_storeCells_cells (P := Tryz.prog) g (i * 5) [.int .u64 (x.1.1 : Nat), .int .i64 x.1.2.1, .int .u64 (x.1.2.2.1 : Nat), .int .i64 x.1.2.2.2, .slice x.2.1 x.2.2.1 x.2.2.2] 0 w
    (fun j hj => by
      have : j = 0 ∨ j = 1 ∨ j = 2 ∨ j = 3 ∨ j = 4 := by simp at hj; omega
      rcases this with rfl | rfl | rfl | rfl | rfl <;> simp [c0, c1, c2, c3, c4])
    (fun j _ => h.free _) (by simp [Value.oneCell'])
  rw [hrun] at h2
  have e : w' = w.setCells g (i * 5 + 0) [.int .u64 (x.1.1 : Nat), .int .i64 x.1.2.1, .int .u64 (x.1.2.2.1 : Nat), .int .i64 x.1.2.2.2, .slice x.2.1 x.2.2.1 x.2.2.2] := by injection h2
  rw [e] at hb hg
  exact ⟨hb, hg⟩
theorem BlkT.put {w : World} {g cap j : Nat} {X Y : List Tg} {y : Tg} (h : BlkT w g cap (X ++ y :: Y)) (hj : X.length = j) (z : Tg) :
    BlkT (((((w.setCell ⟨g, j * 5, none⟩ (.int .u64 (z.1.1.1 : Nat))).setCell ⟨g, j * 5 + 1, none⟩ (.int .i64 z.1.1.2.1)).setCell ⟨g, j * 5 + 2, none⟩ (.int .u64 (z.1.1.2.2.1 : Nat))).setCell ⟨g, j * 5 + 3, none⟩ (.int .i64 z.1.1.2.2.2)).setCell ⟨g, j * 5 + 4, none⟩ (.slice z.1.2.1 z.1.2.2.1 z.1.2.2.2)) g cap (X ++ z :: Y) ∧
    w.grownBy (((((w.setCell ⟨g, j * 5, none⟩ (.int .u64 (z.1.1.1 : Nat))).setCell ⟨g, j * 5 + 1, none⟩ (.int .i64 z.1.1.2.1)).setCell ⟨g, j * 5 + 2, none⟩ (.int .u64 (z.1.1.2.2.1 : Nat))).setCell ⟨g, j * 5 + 3, none⟩ (.int .i64 z.1.1.2.2.2)).setCell ⟨g, j * 5 + 4, none⟩ (.slice z.1.2.1 z.1.2.2.1 z.1.2.2.2)) (some g) := by
  have := Blk.put h (i := j) (by simp; omega) z.1
  rw [← List.map_set, mid_set X y z Y hj] at this
  exact this

set_option maxRecDepth 10000 in
set_option maxHeartbeats 1000000 in
theorem swapRange_any (w : World) (g cap n : Nat) (fv : Value) (A U M V Z : List Tg) (hb : BlkT w g cap (A ++ U ++ M ++ V ++ Z)) (hUV : U.length = V.length) (hn : (A ++ U ++ M ++ V ++ Z).length = n) (hmax : n ≤ 1000000) :
    Calls Tryz.prog 195 #[.slice (some ⟨g, 0, none⟩) n cap, .int .i64 (A.length : Nat), .int .i64 ((A.length + U.length + M.length : Nat) : Nat), .int .i64 (U.length : Nat), fv] w fun e w' => e = .returned (.tuple #[]) ∧ BlkT w' g cap (A ++ V ++ M ++ U ++ Z) ∧ w.grownBy w' (some g) := by
  obtain ⟨a, HA⟩ : ∃ a, Hid (A.length = a) := ⟨_, rfl⟩
  obtain ⟨k, HK⟩ : ∃ k, Hid (U.length = k) := ⟨_, rfl⟩
  obtain ⟨b, HB⟩ : ∃ b, Hid (A.length + U.length + M.length = b) := ⟨_, rfl⟩
  rw [HB.out, HA.out, HK.out]
  have hab : a + k ≤ b := by have := HA.out; have := HB.out; have := HK.out; omega
  have hbn : b + k ≤ n := by have := HA.out; have := HB.out; have := HK.out; simp only [List.length_append] at hn; omega
  have HN : Hid ((A ++ U ++ M ++ V ++ Z).length = n) := hn
  have HUV : Hid (U.length = V.length) := hUV
  have HB0 : Hid (BlkT w g cap (A ++ U ++ M ++ V ++ Z)) := hb
  clear hb hn hUV
  go_enter Tryz.func195, Tryz.ntmps195
  go_wp2_with fail
  go_loopw [10] (fun iv wr => ∃ (i : Nat) (U1 U2 V1 V2 : List Tg), iv = .int .i64 i ∧ i ≤ k ∧ U = U1 ++ U2 ∧ V = V1 ++ V2 ∧ U1.length = i ∧ V1.length = i ∧ BlkT wr g cap (A ++ V1 ++ U2 ++ M ++ U1 ++ V2 ++ Z) ∧ w.grownBy wr (some g)) (fun iv _ => k - (intOf iv).toNat)
  case atStart => exact ⟨0, [], U, [], V, rfl, by omega, rfl, rfl, rfl, rfl, by simpa using HB0.out, gr_refl _ _⟩
  case round =>
    obtain ⟨i, U1, U2, V1, V2, rfl, hi, hU, hV, hU1, hV1, hblk, hgr⟩ := hrel
    by_cases hlt : i < k
    · have hltI : (i : Int) < (k : Int) := by omega
      obtain ⟨u, U3, rfl⟩ : ∃ u U3, U2 = u :: U3 := by
        cases U2 with
        | nil => exfalso; have := HK.out; rw [hU] at this; simp at this; omega
        | cons u U3 => exact ⟨u, U3, rfl⟩
      obtain ⟨v, V3, rfl⟩ : ∃ v V3, V2 = v :: V3 := by
        cases V2 with
        | nil => exfalso; have h1 := HK.out; have h2 := HUV.out; rw [hV] at h2; simp at h2; omega
        | cons v V3 => exact ⟨v, V3, rfl⟩
      have el1 : A ++ V1 ++ (u :: U3) ++ M ++ U1 ++ (v :: V3) ++ Z = (A ++ V1) ++ u :: (U3 ++ M ++ U1 ++ (v :: V3) ++ Z) := by simp
      have el2 : (A ++ V1) ++ v :: (U3 ++ M ++ U1 ++ (v :: V3) ++ Z) = (A ++ V1 ++ (v :: U3) ++ M ++ U1) ++ v :: (V3 ++ Z) := by simp
      have el3 : A ++ V1 ++ (u :: U3) ++ M ++ U1 ++ (v :: V3) ++ Z = (A ++ V1 ++ (u :: U3) ++ M ++ U1) ++ v :: (V3 ++ Z) := by simp
      have el4 : (A ++ V1 ++ (v :: U3) ++ M ++ U1) ++ u :: (V3 ++ Z) = A ++ (V1 ++ [v]) ++ U3 ++ M ++ (U1 ++ [u]) ++ V3 ++ Z := by simp
      have hia : (A ++ V1).length = a + i := by have := HA.out; simp; omega
      have hUl : U1.length + (U3.length + 1) = k := by have := HK.out; rw [hU] at this; simpa using this
      have hib : (A ++ V1 ++ (u :: U3) ++ M ++ U1).length = b + i := by have h1 := HA.out; have h2 := HB.out; have h3 := HK.out; simp only [List.length_append, List.length_cons]; omega
      have hib' : (A ++ V1 ++ (v :: U3) ++ M ++ U1).length = b + i := by rw [← hib]; simp
      obtain ⟨c0, c1, c2, c3, c4⟩ := BlkT.get (by rw [el1] at hblk; exact hblk) hia
      obtain ⟨d0, d1, d2, d3, d4⟩ := BlkT.get (by rw [el3] at hblk; exact hblk) hib
      have p1 := BlkT.put (by rw [el1] at hblk; exact hblk) hia v
      rw [el2] at p1
      have p2 := BlkT.put p1.1 hib' u
      rw [el4] at p2
      have HP : Hid _ := And.intro p2.1 (gr_trans hgr (gr_trans p1.2 p2.2))
      have hfz := fun j => Blk.free hblk j
      have hU' : U = (U1 ++ [u]) ++ U3 := by rw [hU]; simp
      have hV' : V = (V1 ++ [v]) ++ V3 := by rw [hV]; simp
      have HU : Hid (U = (U1 ++ [u]) ++ U3 ∧ V = (V1 ++ [v]) ++ V3 ∧ (U1 ++ [u]).length = i + 1 ∧ (V1 ++ [v]).length = i + 1) := ⟨hU', hV', by simp; omega, by simp; omega⟩
      have hi0 : ¬ ((i : Int) < 0) := by omega
      have h1n : (a : Int) + (i : Int) < (n : Int) := by omega
      have h2n : (b : Int) + (i : Int) < (n : Int) := by omega
      have h10 : ¬ ((a : Int) + (i : Int) < 0) := by omega
      have h20 : ¬ ((b : Int) + (i : Int) < 0) := by omega
      clear p1 p2 el1 el2 el3 el4 hblk hU hV hU' hV' hgr hia hib hib' hUl hU1 hV1
      go_wp2_with fail
      go_big_region
      all_goals go_wp2
      go_roundw
      case rel => first | exact ⟨i + 1, U1 ++ [u], U3, V1 ++ [v], V3, by go_num, by omega, HU.out.1, HU.out.2.1, HU.out.2.2.1, HU.out.2.2.2, HP.out.1.drew, gr_drew HP.out.2⟩ | ((repeat apply Exists.intro); exact ⟨⟨i + 1, U1 ++ [u], U3, V1 ++ [v], V3, by go_num, by omega, HU.out.1, HU.out.2.1, HU.out.2.2.1, HU.out.2.2.2, HP.out.1.drew, gr_drew HP.out.2⟩, rfl⟩)
      case measure => simp [intOf]; omega
    · have hik : i = k := by omega
      have hltI : ¬ ((i : Int) < (k : Int)) := by omega
      have HE : Hid (BlkT wr g cap (A ++ V ++ M ++ U ++ Z) ∧ w.grownBy wr (some g)) := by
        have h2 : U2 = [] := by have h1 := HK.out; rw [hU] at h1; simp at h1; exact List.length_eq_zero_iff.1 (by omega)
        have h3 : V2 = [] := by have h1 := HK.out; have h4 := HUV.out; rw [hV] at h4; simp at h4; exact List.length_eq_zero_iff.1 (by omega)
        subst h2 h3
        rw [hU, hV]
        exact ⟨by simpa using hblk, hgr⟩
      clear hblk hgr hU hV
      go_wp2
      go_end0
      exact ⟨rfl, by simpa using HE.out.1, HE.out.2⟩
end Go.Proofs.YtlaihgdfedalmaaGreat.T
namespace Go.Proofs.YtlaihgdfedalmaaGreat.T
open Go.RowKit Go.Sort
set_option linter.unusedVariables false

theorem swapRange_at (w : World) (g cap n : Nat) (fv : Value) (A U M V Z : List Tg) (ia ib ik : Int) (hb : BlkT w g cap (A ++ U ++ M ++ V ++ Z)) (hUV : U.length = V.length) (hn : (A ++ U ++ M ++ V ++ Z).length = n) (hmax : n ≤ 1000000) (h1 : ia = (A.length : Nat)) (h2 : ib = ((A.length + U.length + M.length : Nat) : Nat)) (h3 : ik = (U.length : Nat)) :
    Calls Tryz.prog 195 #[.slice (some ⟨g, 0, none⟩) n cap, .int .i64 ia, .int .i64 ib, .int .i64 ik, fv] w fun e w' => e = .returned (.tuple #[]) ∧ BlkT w' g cap (A ++ V ++ M ++ U ++ Z) ∧ w.grownBy w' (some g) := by
  subst h1 h2 h3
  exact swapRange_any w g cap n fv A U M V Z hb hUV hn hmax

set_option maxRecDepth 10000 in
set_option maxHeartbeats 1000000 in
theorem rotate_any (w : World) (g cap n : Nat) (fv : Value) (A U V Z : List Tg) (ia im ib : Int) (hb : BlkT w g cap (A ++ U ++ V ++ Z)) (hU : 0 < U.length) (hV : 0 < V.length) (hn : (A ++ U ++ V ++ Z).length = n) (hmax : n ≤ 1000000) (h1 : ia = (A.length : Nat)) (h2 : im = ((A.length + U.length : Nat) : Nat)) (h3 : ib = ((A.length + U.length + V.length : Nat) : Nat)) :
    Calls Tryz.prog 184 #[.slice (some ⟨g, 0, none⟩) n cap, .int .i64 ia, .int .i64 im, .int .i64 ib, fv] w fun e w' => e = .returned (.tuple #[]) ∧ BlkT w' g cap (A ++ V ++ U ++ Z) ∧ w.grownBy w' (some g) := by
  obtain ⟨F, HF⟩ : ∃ F, Hid (A ++ V ++ U ++ Z = F) := ⟨_, rfl⟩
  rw [HF.out]
  obtain ⟨m, HM⟩ : ∃ m : Nat, Hid (A.length + U.length = m) := ⟨_, rfl⟩
  rw [HM.out] at h2
  subst h2
  have hFl : F.length = n := by rw [← HF.out, ← hn]; simp; omega
  have hmn : m ≤ n := by have := HM.out; rw [← hn]; simp; omega
  have H0 : Hid (∃ (A' X Y Z' : List Tg), BlkT w g cap (A' ++ X ++ Y ++ Z') ∧ ((X.length : Nat) : Int) = (m : Int) - ia ∧ ((Y.length : Nat) : Int) = ib - (m : Int) ∧ A'.length + X.length = m ∧ 0 < X.length ∧ 0 < Y.length ∧ A' ++ Y ++ X ++ Z' = F) :=
    ⟨A, U, V, Z, hb, by have := HM.out; omega, by have := HM.out; omega, HM.out, hU, hV, HF.out⟩
  have hia : 0 ≤ ia ∧ ia ≤ 1000000 ∧ 0 ≤ ib ∧ ib ≤ 1000000 := by have := HM.out; rw [← hn] at hmax; simp only [List.length_append] at hmax; omega
  obtain ⟨ha0, ha1, hb0, hb1⟩ := hia
  clear hb hn h1 h3 hU hV HM
  go_enter Tryz.func184, Tryz.ntmps184
  go_wp2_with fail
  go_loopw [10, 11] (fun iv jv wr => ∃ (i j : Nat) (A' X Y Z' : List Tg), iv = .int .i64 i ∧ jv = .int .i64 j ∧ BlkT wr g cap (A' ++ X ++ Y ++ Z') ∧ X.length = i ∧ Y.length = j ∧ A'.length + i = m ∧ 0 < i ∧ 0 < j ∧ A' ++ Y ++ X ++ Z' = F ∧ w.grownBy wr (some g)) (fun iv jv _ => (intOf iv).toNat + (intOf jv).toNat)
  case atStart =>
    obtain ⟨A', X, Y, Z', hb, e1, e2, e3, e4, e5, e6⟩ := H0.out
    exact ⟨X.length, Y.length, A', X, Y, Z', by rw [e1], by rw [e2], hb, rfl, rfl, e3, e4, e5, e6, gr_refl _ _⟩
  case round =>
    obtain ⟨i, j, A', X, Y, Z', rfl, rfl, hblk, hX, hY, hA, hi0, hj0, hF, hgr⟩ := hrel
    have hlen : A'.length + Y.length + X.length + Z'.length = n := by rw [← hF] at hFl; simpa [Nat.add_assoc] using hFl
    have hi1 : i ≤ 1000000 := by omega
    have hj1 : j ≤ 1000000 := by omega
    have hm1 : m ≤ 1000000 := by omega
    by_cases hij : i = j
    · subst hij
      have hne : ((i : Int) != (i : Int)) = false := by simp
      have hsw := swapRange_at wr g cap n fv A' X [] Y Z' ((m : Int) - (i : Int)) (m : Int) (i : Int) (by simpa using hblk) (by omega) (by simp; omega) hmax (by omega) (by simp; omega) (by omega)
      have HF' : Hid (A' ++ Y ++ X ++ Z' = F) := hF
      clear hblk hF H0
      go_wp2_with fail
      refine hsw.mono ?_
      rintro e w1 ⟨rfl, hb1', hg1⟩
      have HE : Hid (BlkT w1 g cap F ∧ w.grownBy w1 (some g)) := ⟨by rw [← HF'.out]; simpa using hb1', gr_trans hgr hg1⟩
      clear hsw hb1' hg1 hgr
      go_wp2
      go_end0
      exact ⟨rfl, HE.out⟩
    · have hne : ((i : Int) != (j : Int)) = true := by simp; omega
      by_cases hgt : j < i
      · have hgtI : (j : Int) < (i : Int) := by omega
        obtain ⟨X1, X2, rfl, hX1⟩ : ∃ X1 X2, X = X1 ++ X2 ∧ X1.length = j := ⟨X.take j, X.drop j, by simp, by rw [List.length_take]; omega⟩
        have hX2 : X2.length = i - j := by rw [List.length_append] at hX; omega
        have hsw := swapRange_at wr g cap n fv A' X1 X2 Y Z' ((m : Int) - (i : Int)) (m : Int) (j : Int) (by simpa using hblk) (by omega) (by simp at hlen ⊢; omega) hmax (by omega) (by rw [List.length_append] at hX; omega) (by omega)
        have HF' : Hid ((A' ++ Y) ++ X1 ++ X2 ++ Z' = F) := by show _ = _; rw [← hF]; simp
        have hc : ((i - j : Nat) : Int) = (i : Int) - (j : Int) := by omega
        clear hblk hF H0
        go_wp2_with fail
        refine hsw.mono ?_
        rintro e w1 ⟨rfl, hb1', hg1⟩
        have hb2 : BlkT w1 g cap ((A' ++ Y) ++ X2 ++ X1 ++ Z') := by simpa using hb1'
        have hg2 := gr_trans hgr hg1
        have hA2 : (A' ++ Y).length + (i - j) = m := by simp; omega
        clear hsw hb1' hg1 hgr
        go_wp2
        go_roundw
        case rel => first | exact ⟨i - j, j, A' ++ Y, X2, X1, Z', by rw [hc], rfl, hb2, hX2, hX1, hA2, by omega, hj0, HF'.out, hg2⟩ | ((repeat apply Exists.intro); exact ⟨⟨i - j, j, A' ++ Y, X2, X1, Z', by rw [hc], rfl, hb2, hX2, hX1, hA2, by omega, hj0, HF'.out, hg2⟩, rfl⟩)
        case measure => simp [intOf]; omega
      · have hgtI : ¬ ((j : Int) < (i : Int)) := by omega
        obtain ⟨Y1, Y2, rfl, hY2⟩ : ∃ Y1 Y2, Y = Y1 ++ Y2 ∧ Y2.length = i := ⟨Y.take (j - i), Y.drop (j - i), by simp, by rw [List.length_drop]; omega⟩
        have hY1 : Y1.length = j - i := by rw [List.length_append] at hY; omega
        have hsw := swapRange_at wr g cap n fv A' X Y1 Y2 Z' ((m : Int) - (i : Int)) ((m : Int) + (j : Int) - (i : Int)) (i : Int) (by simpa using hblk) (by omega) (by simp at hlen ⊢; omega) hmax (by omega) (by omega) (by omega)
        have HF' : Hid (A' ++ Y1 ++ Y2 ++ (X ++ Z') = F) := by show _ = _; rw [← hF]; simp
        have hc : ((j - i : Nat) : Int) = (j : Int) - (i : Int) := by omega
        clear hblk hF H0
        go_wp2_with fail
        refine hsw.mono ?_
        rintro e w1 ⟨rfl, hb1', hg1⟩
        have hb2 : BlkT w1 g cap (A' ++ Y2 ++ Y1 ++ (X ++ Z')) := by simpa using hb1'
        have hg2 := gr_trans hgr hg1
        clear hsw hb1' hg1 hgr
        go_wp2
        go_roundw
        case rel => first | exact ⟨i, j - i, A', Y2, Y1, X ++ Z', rfl, by rw [hc], hb2, hY2, hY1, hA, hi0, by omega, HF'.out, hg2⟩ | ((repeat apply Exists.intro); exact ⟨⟨i, j - i, A', Y2, Y1, X ++ Z', rfl, by rw [hc], hb2, hY2, hY1, hA, hi0, by omega, HF'.out, hg2⟩, rfl⟩)
        case measure => simp [intOf]; omega
end Go.Proofs.YtlaihgdfedalmaaGreat.T
namespace Go.Proofs.YtlaihgdfedalmaaGreat.T
open Go.RowKit Go.Sort
set_option linter.unusedVariables false
set_option linter.unusedSimpArgs false

def OkS (x : Sx) : Prop := True
def sta (x : Sx) : Value := .agg #[.int .u64 (x.1.1 : Nat), .int .i64 x.1.2.1, .int .u64 (x.1.2.2.1 : Nat), .int .i64 x.1.2.2.2, .slice x.2.1 x.2.2.1 x.2.2.2]
def cmpS (x y : Sx) : Int := cmpL x.1 y.1
def ltK (x y : Sx) : Prop := ltL x.1 y.1
theorem cmpS_lt (x y : Sx) : cmpS x y < 0 ↔ ltK x y := cmpL_lt x.1 y.1
theorem cmpS_any (w : World) (x y : Sx) (hx : OkS x) (hy : OkS y) : Calls Tryz.prog 143 #[sta x, sta y] w fun e w' => e = .returned (.int .i64 (cmpS x y)) ∧ Up w w' := compareE_any w x.1 y.1 (.slice x.2.1 x.2.2.1 x.2.2.2) (.slice y.2.1 y.2.2.1 y.2.2.2)
/-- Comes a state ahead of another one: by what is sorted, or told first. -/
def ltT (a b : Tg) : Prop := ltK a.1 b.1 ∨ (¬ ltK b.1 a.1 ∧ a.2 < b.2)
theorem ltT_trans {a b c : Tg} (h : ltT a b) (k : ltT b c) : ltT a c := by unfold ltT ltK ltL at *; omega
theorem ltT_tri {a b : Tg} (hne : a.2 ≠ b.2) (h : ¬ ltT a b) : ltT b a := by unfold ltT ltK ltL at *; omega
theorem ltT_of {a b : Tg} (h : a.2 < b.2) : cmpS b.1 a.1 < 0 ↔ ltT b a := by rw [cmpS_lt]; unfold ltT ltK ltL; omega
def Asc (l : List Tg) : Prop := l.Pairwise ltT
def Tags (l : List Tg) : Prop := l.Pairwise (fun a b => a.2 < b.2)
def OkT (l : List Tg) : Prop := ∀ x ∈ l, OkS x.1
/-- Two states' cells. -/
def Two (g i j : Nat) (x y : Tg) (wx : World) : Prop :=
  (wx.cell? ⟨g, i * 5, none⟩ = some (.int .u64 (x.1.1.1 : Nat)) ∧ wx.cell? ⟨g, i * 5 + 1, none⟩ = some (.int .i64 x.1.1.2.1) ∧ wx.cell? ⟨g, i * 5 + 2, none⟩ = some (.int .u64 (x.1.1.2.2.1 : Nat)) ∧ wx.cell? ⟨g, i * 5 + 3, none⟩ = some (.int .i64 x.1.1.2.2.2) ∧ wx.cell? ⟨g, i * 5 + 4, none⟩ = some (.slice x.1.2.1 x.1.2.2.1 x.1.2.2.2)) ∧
  (wx.cell? ⟨g, j * 5, none⟩ = some (.int .u64 (y.1.1.1 : Nat)) ∧ wx.cell? ⟨g, j * 5 + 1, none⟩ = some (.int .i64 y.1.1.2.1) ∧ wx.cell? ⟨g, j * 5 + 2, none⟩ = some (.int .u64 (y.1.1.2.2.1 : Nat)) ∧ wx.cell? ⟨g, j * 5 + 3, none⟩ = some (.int .i64 y.1.1.2.2.2) ∧ wx.cell? ⟨g, j * 5 + 4, none⟩ = some (.slice y.1.2.1 y.1.2.2.1 y.1.2.2.2))
theorem Two.up {g i j : Nat} {x y : Tg} {w w' : World} (h : Two g i j x y w) (u : Up w w') : Two g i j x y w' := by
  obtain ⟨⟨h1, h2, h3, h4, h9⟩, h5, h6, h7, h8, h10⟩ := h
  exact ⟨⟨u.cell h1, u.cell h2, u.cell h3, u.cell h4, u.cell h9⟩, u.cell h5, u.cell h6, u.cell h7, u.cell h8, u.cell h10⟩
theorem BlkT.up {w w' : World} {g cap : Nat} {l : List Tg} (h : BlkT w g cap l) (u : Up w w') : BlkT w' g cap l := Blk.up h u.bl

theorem asc_ins {P1 P2 : List Tg} {x : Tg} (h : Asc (P1 ++ P2)) (h2 : ∀ y ∈ P2, ltT x y) (h1 : ∀ y ∈ P1, ltT y x) : Asc (P1 ++ x :: P2) := by
  unfold Asc at *
  rw [List.pairwise_append] at h ⊢
  obtain ⟨a, b, c⟩ := h
  refine ⟨a, List.pairwise_cons.2 ⟨h2, b⟩, fun u hu v hv => ?_⟩
  rw [List.mem_cons] at hv
  rcases hv with rfl | hv
  · exact h1 u hu
  · exact c u hu v hv

theorem BlkT.at {w : World} {g cap j : Nat} {l : List Tg} {y : Tg} (h : BlkT w g cap l) (hj : l[j]? = some y) :
    w.cell? ⟨g, j * 5, none⟩ = some (.int .u64 (y.1.1.1 : Nat)) ∧ w.cell? ⟨g, j * 5 + 1, none⟩ = some (.int .i64 y.1.1.2.1) ∧ w.cell? ⟨g, j * 5 + 2, none⟩ = some (.int .u64 (y.1.1.2.2.1 : Nat)) ∧ w.cell? ⟨g, j * 5 + 3, none⟩ = some (.int .i64 y.1.1.2.2.2) ∧ w.cell? ⟨g, j * 5 + 4, none⟩ = some (.slice y.1.2.1 y.1.2.2.1 y.1.2.2.2) := by
  refine Blk.cell h (x := y.1) ?_
  rw [List.getElem?_map, hj]
  rfl
theorem BlkT.two {w : World} {g cap i j : Nat} {l : List Tg} {x y : Tg} (h : BlkT w g cap l) (hi : l[i]? = some x) (hj : l[j]? = some y) : Two g i j x y w := ⟨h.at hi, h.at hj⟩

theorem asc_get {l : List Tg} (h : Asc l) {i j : Nat} {x y : Tg} (hi : l[i]? = some x) (hj : l[j]? = some y) (hij : i < j) : ltT x y := by
  obtain ⟨h1, rfl⟩ := List.getElem?_eq_some_iff.1 hi
  obtain ⟨h2, rfl⟩ := List.getElem?_eq_some_iff.1 hj
  exact (List.pairwise_iff_getElem.1 h) i j h1 h2 hij
theorem asc_le {l : List Tg} (h : Asc l) {i j : Nat} {x y : Tg} (hi : l[i]? = some x) (hj : l[j]? = some y) (hij : i ≤ j) : x = y ∨ ltT x y := by
  by_cases e : i = j
  · subst e; rw [hi] at hj; exact .inl (by simpa using hj)
  · exact .inr (asc_get h hi hj (by omega))
theorem mem_take_get {l : List Tg} {k : Nat} {x : Tg} (h : x ∈ l.take k) : ∃ i, i < k ∧ l[i]? = some x := by
  obtain ⟨i, hi, rfl⟩ := List.mem_iff_getElem.1 h
  rw [List.length_take] at hi
  exact ⟨i, by omega, by rw [List.getElem_take]; exact List.getElem?_eq_getElem (by omega)⟩
theorem mem_drop_get {l : List Tg} {k : Nat} {x : Tg} (h : x ∈ l.drop k) : ∃ i, k ≤ i ∧ l[i]? = some x := by
  obtain ⟨i, hi, rfl⟩ := List.mem_iff_getElem.1 h
  rw [List.length_drop] at hi
  exact ⟨k + i, by omega, by rw [List.getElem_drop]; exact List.getElem?_eq_getElem (by omega)⟩
theorem lt_le {a b c : Tg} (h : ltT a b) (k : b = c ∨ ltT b c) : ltT a c := by rcases k with rfl | k; exact h; exact ltT_trans h k
theorem le_lt {a b c : Tg} (h : a = b ∨ ltT a b) (k : ltT b c) : ltT a c := by rcases h with rfl | h; exact k; exact ltT_trans h k
/-- Behind the turn each of the first half is ahead of each of the second one. -/
theorem sm_split {L R : List Tg} (hL : Asc L) (hR : Asc R) (k1 k2 : Nat) (h1 : k1 = 0 ∨ k2 = R.length ∨ ∃ x y, L[k1 - 1]? = some x ∧ R[k2]? = some y ∧ ltT x y)
    (h2 : k1 = L.length ∨ k2 = 0 ∨ ∃ x y, L[k1]? = some x ∧ R[k2 - 1]? = some y ∧ ltT y x) : ∀ x ∈ L.take k1 ++ R.take k2, ∀ y ∈ L.drop k1 ++ R.drop k2, ltT x y := by
  intro x hx y hy
  rw [List.mem_append] at hx hy
  rcases hx with hx | hx <;> rcases hy with hy | hy <;> obtain ⟨i, hi, ei⟩ := mem_take_get hx <;> obtain ⟨j, hj, ej⟩ := mem_drop_get hy
  · exact asc_get hL ei ej (by omega)
  · have hjl := (List.getElem?_eq_some_iff.1 ej).1
    rcases h1 with h | h | ⟨u, v, hu, hv, huv⟩
    · omega
    · omega
    · exact le_lt (asc_le hL ei hu (by omega)) (lt_le huv (asc_le hR hv ej hj))
  · have hjl := (List.getElem?_eq_some_iff.1 ej).1
    rcases h2 with h | h | ⟨u, v, hu, hv, huv⟩
    · omega
    · omega
    · exact le_lt (asc_le hR ei hv (by omega)) (lt_le huv (asc_le hL hu ej hj))
  · exact asc_get hR ei ej (by omega)
theorem asc_app {A B : List Tg} (ha : Asc A) (hb : Asc B) (h : ∀ x ∈ A, ∀ y ∈ B, ltT x y) : Asc (A ++ B) := List.pairwise_append.2 ⟨ha, hb, h⟩
theorem asc_take {A : List Tg} (h : Asc A) (k : Nat) : Asc (A.take k) := List.Pairwise.sublist (List.take_sublist k A) h
theorem asc_drop {A : List Tg} (h : Asc A) (k : Nat) : Asc (A.drop k) := List.Pairwise.sublist (List.drop_sublist k A) h
/-- One put among others: where. -/
theorem asc_put {R : List Tg} {x : Tg} (hR : Asc R) (k : Nat) (h1 : k = 0 ∨ ∃ y, R[k - 1]? = some y ∧ ltT y x) (h2 : k = R.length ∨ ∃ y, R[k]? = some y ∧ ltT x y) : Asc (R.take k ++ x :: R.drop k) := by
  refine asc_ins (by rw [List.take_append_drop]; exact hR) (fun y hy => ?_) (fun y hy => ?_)
  · obtain ⟨j, hj, ej⟩ := mem_drop_get hy
    have hjl := (List.getElem?_eq_some_iff.1 ej).1
    rcases h2 with h | ⟨u, hu, huv⟩
    · omega
    · exact lt_le huv (asc_le hR hu ej hj)
  · obtain ⟨i, hi, ei⟩ := mem_take_get hy
    rcases h1 with h | ⟨u, hu, huv⟩
    · omega
    · exact le_lt (asc_le hR ei hu (by omega)) huv

/-- Sorted stretches of k, the last one maybe shorter, those that stood ahead ahead. -/
inductive Ch (k : Nat) : List Tg → Prop
  | last (c : List Tg) : Asc c → c.length ≤ k → Ch k c
  | cons (c r : List Tg) : Asc c → c.length = k → (∀ x ∈ c, ∀ y ∈ r, x.2 < y.2) → Ch k r → Ch k (c ++ r)
def App (k : Nat) (F : List Tg) : Prop := ∀ T, (∀ x ∈ F, ∀ y ∈ T, x.2 < y.2) → Ch k T → Ch k (F ++ T)
theorem App.nil (k : Nat) : App k [] := fun T _ h => by simpa using h
theorem App.snoc {k : Nat} {F M : List Tg} (h : App k F) (hF : ∀ x ∈ F, ∀ y ∈ M, x.2 < y.2) (hM : Asc M) (hl : M.length = k) : App k (F ++ M) := fun T hT hc => by
  rw [List.append_assoc]
  refine h _ (fun x hx y hy => ?_) (Ch.cons M T hM hl (fun x hx y hy => hT x (by simp [hx]) y hy) hc)
  rw [List.mem_append] at hy
  rcases hy with hy | hy
  · exact hF x hx y hy
  · exact hT x (by simp [hx]) y hy
theorem Ch.two {k : Nat} {T : List Tg} (h : Ch k T) (hl : k < T.length) : ∃ c r, T = c ++ r ∧ Asc c ∧ c.length = k ∧ (∀ x ∈ c, ∀ y ∈ r, x.2 < y.2) ∧ Ch k r := by
  cases h with
  | last _ h1 h2 => omega
  | cons c r h1 h2 h3 h4 => exact ⟨c, r, rfl, h1, h2, h3, h4⟩
theorem Ch.one {k : Nat} {T : List Tg} (h : Ch k T) (hl : T.length ≤ k) : Asc T := by
  cases h with
  | last _ h1 h2 => exact h1
  | cons c r h1 h2 h3 h4 =>
    have : r = [] := List.length_eq_zero_iff.1 (by rw [List.length_append] at hl; omega)
    subst this; simpa using h1
/-- The first stretch, whole. -/
theorem Ch.first {k : Nat} {T : List Tg} (h : Ch k T) (hl : k ≤ T.length) : ∃ c r, T = c ++ r ∧ Asc c ∧ c.length = k ∧ (∀ x ∈ c, ∀ y ∈ r, x.2 < y.2) ∧ Ch k r := by
  cases h with
  | last _ h1 h2 => exact ⟨T, [], by simp, h1, by omega, by simp, Ch.last [] (by unfold Asc; simp) (by simp)⟩
  | cons c r h1 h2 h3 h4 => exact ⟨c, r, rfl, h1, h2, h3, h4⟩
end Go.Proofs.YtlaihgdfedalmaaGreat.T
namespace Go.Proofs.YtlaihgdfedalmaaGreat.T
open Go.RowKit Go.Sort
set_option linter.unusedVariables false
set_option linter.unusedSimpArgs false

set_option maxRecDepth 10000 in
set_option maxHeartbeats 2000000 in
theorem insertion_any (w : World) (g cap n : Nat) (A L Z : List Tg) (ia ib : Int) (hb : BlkT w g cap (A ++ L ++ Z)) (hn : (A ++ L ++ Z).length = n) (hmax : n ≤ 1000000) (htag : Tags L) (hok : OkT L) (h1 : ia = (A.length : Nat)) (h2 : ib = ((A.length + L.length : Nat) : Nat)) :
    Calls Tryz.prog 179 #[.slice (some ⟨g, 0, none⟩) n cap, .int .i64 ia, .int .i64 ib, .func (.func 143) #[] #[]] w fun e w' => e = .returned (.tuple #[]) ∧ ∃ L', L'.Perm L ∧ Asc L' ∧ BlkT w' g cap (A ++ L' ++ Z) ∧ w.grownBy w' (some g) := by
  obtain ⟨a, HA⟩ : ∃ a : Nat, Hid (A.length = a) := ⟨_, rfl⟩
  obtain ⟨b, HB⟩ : ∃ b : Nat, Hid (A.length + L.length = b) := ⟨_, rfl⟩
  rw [HA.out] at h1
  rw [HB.out] at h2
  subst h1 h2
  have hbn : b ≤ n := by have := HB.out; rw [← hn]; simp; omega
  have hab : a ≤ b := by have := HB.out; have := HA.out; omega
  cases L with
  | nil =>
    have hba : b = a := by have := HB.out; have := HA.out; simp at *; omega
    have hlt : ¬ ((a : Int) + 1 < (b : Int)) := by omega
    have hb' : BlkT w g cap (A ++ Z) := by simpa using hb
    have HE : Hid _ := hb'
    clear hb'
    clear hb hn
    go_enter Tryz.func179, Tryz.ntmps179
    go_wp2
    refine wp_loop_rounds 1 ?_
    rw [rounds_succ]
    go_wp2
    go_end0
    exact ⟨rfl, [], by simp, by unfold Asc; simp, by rw [List.append_nil]; exact HE.out, gr_refl _ _⟩
  | cons l0 L0 =>
    have hL : L0.length + 1 + a = b := by have := HB.out; have := HA.out; simp at *; omega
    have HTAG : Hid (Tags (l0 :: L0) ∧ OkT (l0 :: L0)) := ⟨htag, hok⟩
    have hb' : BlkT w g cap (A ++ [l0] ++ L0 ++ Z) := by simpa using hb
    have HB0 : Hid _ := hb'
    clear hb'
    have HNL : Hid ((A ++ (l0 :: L0) ++ Z).length = n) := hn
    clear hb hn htag hok
    go_enter Tryz.func179, Tryz.ntmps179
    go_wp2_with fail
    go_loopw [8, 9] (fun iv _ wr => ∃ (P R L1 : List Tg), iv = .int .i64 ((a : Int) + (P.length : Nat)) ∧ l0 :: L0 = L1 ++ R ∧ P.Perm L1 ∧ Asc P ∧ 0 < P.length ∧ BlkT wr g cap (A ++ P ++ R ++ Z) ∧ w.grownBy wr (some g)) (fun iv _ _ => b - (intOf iv).toNat)
    case atStart => exact ⟨[l0], L0, [l0], rfl, rfl, List.Perm.refl _, by unfold Asc; simp, by simp, HB0.out, gr_refl _ _⟩
    case round =>
      obtain ⟨P, R, L1, rfl, hLR, hperm, hasc, hP0, hblk, hgr⟩ := hrel
      have hPl : P.length = L1.length := hperm.length_eq
      have hlen : P.length + R.length + a = b := by have := congrArg List.length hLR; simp at this; omega
      cases R with
      | nil =>
        have hlt : ¬ ((a : Int) + (P.length : Int) < (b : Int)) := by simp at hlen; omega
        have HE : Hid (P.Perm (l0 :: L0) ∧ Asc P ∧ BlkT wr g cap (A ++ P ++ Z)) := ⟨by rw [hLR]; simpa using hperm, hasc, by simpa using hblk⟩
        clear hblk hLR hperm hasc hlen
        go_wp2
        go_end0
        exact ⟨rfl, P, HE.out.1, HE.out.2.1, (by first | exact HE.out.2.2 | (rw [← List.append_assoc]; exact HE.out.2.2)), hgr⟩
      | cons x R' =>
        have hlt : (a : Int) + (P.length : Int) < (b : Int) := by simp at hlen; omega
        have htags : (∀ y ∈ P, y.2 < x.2) ∧ OkS x.1 ∧ ∀ y ∈ P, OkS y.1 := by
          obtain ⟨ht, ho⟩ := HTAG.out
          rw [hLR] at ht ho
          unfold Tags at ht
          rw [List.pairwise_append] at ht
          refine ⟨fun y hy => ht.2.2 y (hperm.mem_iff.1 hy) x (by simp), ho x (by simp), fun y hy => ho y (by simp [hperm.mem_iff.1 hy])⟩
        have HT : Hid ((∀ y ∈ P, y.2 < x.2) ∧ OkS x.1 ∧ ∀ y ∈ P, OkS y.1) := htags
        have HLR : Hid (l0 :: L0 = (L1 ++ [x]) ++ R' ∧ P.Perm L1 ∧ Asc P) := ⟨by rw [hLR]; simp, hperm, hasc⟩
        have hbk : BlkT wr g cap (A ++ P ++ x :: ([] ++ R' ++ Z)) := by simpa using hblk
        have HBK : Hid _ := hbk
        have HG : Hid (w.grownBy wr (some g)) := hgr
        have hnP : a + P.length + 1 ≤ n := by simp at hlen; omega
        have HLA : Hid (A.length = a) := HA.out
        clear htags hLR hperm hasc hblk hbk hPl hgr HA HB HB0 HNL HTAG hL
        obtain ⟨pl, hpl⟩ : ∃ pl : Nat, P.length = pl := ⟨_, rfl⟩
        rw [hpl] at hnP hlt ⊢
        clear hlen hP0
        go_wp2_with fail
        go_loopw [9] (fun jv wq => ∃ (j : Nat) (P1 P2 : List Tg), jv = .int .i64 (j : Nat) ∧ a + P1.length = j ∧ P = P1 ++ P2 ∧ (∀ y ∈ P2, ltT x y) ∧ BlkT wq g cap (A ++ P1 ++ x :: (P2 ++ R' ++ Z)) ∧ w.grownBy wq (some g)) (fun jv _ => (intOf jv).toNat)
        case atStart => exact ⟨a + pl, P, [], by push_cast; rfl, by omega, by simp, by simp, HBK.out, HG.out⟩
        case round =>
          clear HBK HG
          obtain ⟨j, P1, P2, rfl, hj, hPP, hgt, hblk, hgr1⟩ := hrel
          have hp12 : P1.length + P2.length = pl := by rw [← hpl, hPP]; simp
          rcases List.eq_nil_or_concat P1 with hP1 | ⟨P1', y, hP1⟩
          · subst hP1
            have hja : j = a := by simp at hj; omega
            subst hja
            have hng : ¬ ((j : Int) < (j : Int)) := by omega
            have HE : Hid (Asc (x :: P) ∧ BlkT wr g cap (A ++ (x :: P) ++ R' ++ Z)) := by
              have e : P2 = P := by simpa using hPP.symm
              subst e
              exact ⟨asc_ins (P1 := []) (by simpa using HLR.out.2.2) hgt (by simp), by simpa using hblk⟩
            have HE2 : Hid (l0 :: L0 = (L1 ++ [x]) ++ R' ∧ (x :: P).Perm (L1 ++ [x])) := ⟨HLR.out.1, (List.Perm.cons x HLR.out.2.1).trans (List.perm_append_singleton x L1).symm⟩
            have HG1 : Hid _ := hgr1
            have t0 : True := trivial
            clear hblk hPP hgt hgr1
            go_wp2_with fail
            refine wp_region_noPanic ?_
            refine wp_region_held_drew (S := fun _ => True) (by kernel_rfl) t0 (fun hHeld => ?_)
            refine tq 0 ?_
            refine tq 1 ?_
            refine tq 2 ?_
            refine tq 3 ?_
            refine tqS 4 ?_
            refine tqS 5 ?_
            refine tqS 6 ?_
            refine tqS 7 ?_
            refine tqS 8 ?_
            refine tqS 9 ?_
            refine tqS 10 ?_
            refine tqS 11 ?_
            refine tqS 12 ?_
            refine tqS 13 ?_
            refine tqS 14 ?_
            refine tqS 15 ?_
            refine tq 16 ?_
            refine wpAnyH_done (by kernel_rfl) ?_ _
            refine NoPanic.normal ?_
            clear t0 hHeld
            go_wp2
            go_roundw
            case rel => exact ⟨x :: P, R', L1 ++ [x], by simp only [List.length_cons, hpl]; push_cast; rw [Int.add_assoc], HE2.out.1, HE2.out.2, HE.out.1, by simp, HE.out.2.drew, gr_drew HG1.out⟩
            case measure => simp [intOf]; omega
          · have hP1c : P1 = P1' ++ [y] := by rw [hP1]; simp
            clear hP1
            subst hP1c
            obtain ⟨q, rfl⟩ : ∃ q, j = q + 1 := ⟨a + P1'.length, by simp at hj; omega⟩
            have hq : (A ++ P1').length = q := by have := HLA.out; simp at hj ⊢; omega
            have hq1 : (A ++ P1' ++ [y]).length = q + 1 := by rw [List.length_append, hq]; rfl
            have hyP : y ∈ P := by rw [hPP]; simp
            have el1 : A ++ (P1' ++ [y]) ++ x :: (P2 ++ R' ++ Z) = (A ++ P1' ++ [y]) ++ x :: (P2 ++ R' ++ Z) := by simp
            have el2 : A ++ (P1' ++ [y]) ++ x :: (P2 ++ R' ++ Z) = (A ++ P1') ++ y :: (x :: (P2 ++ R' ++ Z)) := by simp
            have two : Two g (q + 1) q x y wr := ⟨BlkT.get (by rw [el1] at hblk; exact hblk) hq1, BlkT.get (by rw [el2] at hblk; exact hblk) hq⟩
            have hgtI : (a : Int) < (q : Int) + 1 := by simp at hj; omega
            have hqn : q + 1 < n := by simp at hj hp12; omega
            have hqi : (q : Int) + 1 < (n : Int) := by omega
            have hq0 : ¬ ((q : Int) + 1 < 0) := by omega
            have hqi' : (q : Int) < (n : Int) := by omega
            have hwq : IntKind.i64.wrap (q : Int) = (q : Int) := by rw [IntWalk.i64_left, IntWalk.wrap64_in _ (by omega)]
            have hc := fun W => cmpS_any W x.1 y.1 HT.out.2.1 (HT.out.2.2 y hyP)
            have hltT := ltT_of (HT.out.1 y hyP)
            generalize cmpS x.1 y.1 = d at hc hltT
            have HBK1 : Hid (BlkT wr g cap (A ++ (P1' ++ [y]) ++ x :: (P2 ++ R' ++ Z)) ∧ w.grownBy wr (some g)) := ⟨hblk, hgr1⟩
            have HQ : Hid ((A ++ P1').length = q ∧ (A ++ P1' ++ [y]).length = q + 1) := ⟨hq, hq1⟩
            have HPP : Hid (P = P1' ++ [y] ++ P2 ∧ ∀ z ∈ P2, ltT x z) := ⟨hPP, hgt⟩
            unfold sta at hc
            clear el1 el2 hblk hgr1 hPP hgt hq hq1 hp12
            go_wp2_with fail
            refine wp_region_noPanic ?_
            refine wp_region_held_drew (S := fun wx => Two g (q + 1) q x y wx) (by kernel_rfl) two (fun hHeld => ?_)
            refine tq 0 ?_
            refine tq 1 ?_
            refine tq 2 ?_
            refine tq 3 ?_
            refine tq 4 ?_
            refine tq 5 ?_
            refine tq 6 ?_
            refine tq 7 ?_
            refine tq 8 ?_
            refine tq 9 ?_
            refine tq 10 ?_
            refine tq 11 ?_
            refine tq 12 ?_
            refine tq 13 ?_
            refine comes_up 14 rfl (by kernel_rfl) (fun K hK => ?_)
            go_simp
            refine (hc _).mono ?_
            rintro e w1 ⟨rfl, hup⟩
            have two1 := Two.up hHeld hup
            have HB1 : Hid (BlkT w1 g cap (A ++ (P1' ++ [y]) ++ x :: (P2 ++ R' ++ Z)) ∧ w.grownBy w1 (some g)) := ⟨HBK1.out.1.drew.up hup, gr_trans (gr_drew HBK1.out.2) (gr_below hup.bl _)⟩
            clear two hHeld hup HBK1
            go_wp2_with fail
            refine hK.out _ _ two1 (fun hHeld => ?_)
            clear hK K
            (try simp only [Act.put, List.setIfInBounds_toArray, List.set_cons_zero, List.set_cons_succ])
            by_cases hd : d < 0
            · skip
              refine tq 15 ?_
              refine tq 16 ?_
              refine wpAnyH_done (by kernel_rfl) ?_ _
              refine NoPanic.normal ?_
              have hxy := hltT.1 hd
              obtain ⟨hblk, hgr1⟩ := HB1.out
              obtain ⟨hq, hq1⟩ := HQ.out
              have el1 : A ++ (P1' ++ [y]) ++ x :: (P2 ++ R' ++ Z) = (A ++ P1' ++ [y]) ++ x :: (P2 ++ R' ++ Z) := by simp
              have el2 : (A ++ P1' ++ [y]) ++ y :: (P2 ++ R' ++ Z) = (A ++ P1') ++ y :: (y :: (P2 ++ R' ++ Z)) := by simp
              have el3 : (A ++ P1') ++ x :: (y :: (P2 ++ R' ++ Z)) = A ++ P1' ++ x :: ((y :: P2) ++ R' ++ Z) := by simp
              have p1 := BlkT.put (by rw [el1] at hblk; exact hblk) hq1 y
              rw [el2] at p1
              have p2 := BlkT.put p1.1 hq x
              rw [el3] at p2
              have HP : Hid _ := And.intro p2.1 (gr_trans hgr1 (gr_trans p1.2 p2.2))
              have hfz := fun j => Blk.free hblk j
              obtain ⟨⟨c0, c1, c2, c3, c4⟩, d0, d1, d2, d3, d4⟩ := two1
              have HPP' : Hid (P = P1' ++ (y :: P2) ∧ ∀ z ∈ y :: P2, ltT x z) := ⟨by rw [HPP.out.1]; simp, fun z hz => by rw [List.mem_cons] at hz; rcases hz with rfl | hz; exact hxy; exact HPP.out.2 z hz⟩
              clear p1 p2 el1 el2 el3 hblk hgr1 hq hq1 hltT hxy HB1 HPP hHeld
              go_wp2_with fail
              go_big_region
              all_goals go_wp2
              go_roundw
              case rel => first | exact ⟨q, P1', y :: P2, by go_num, by have := HQ.out.1; have := HLA.out; simp at *; omega, HPP'.out.1, HPP'.out.2, HP.out.1.drew, gr_drew HP.out.2⟩ | ((repeat apply Exists.intro); exact ⟨⟨q, P1', y :: P2, by go_num, by have := HQ.out.1; have := HLA.out; simp at *; omega, HPP'.out.1, HPP'.out.2, HP.out.1.drew, gr_drew HP.out.2⟩, rfl⟩)
              case measure => simp [intOf]
            · skip
              refine tq 15 ?_
              refine tq 16 ?_
              refine wpAnyH_done (by kernel_rfl) ?_ _
              refine NoPanic.normal ?_
              have hyx : ltT y x := ltT_tri (by have := HT.out.1 y hyP; omega) (fun h => hd (hltT.2 h))
              have HE : Hid (Asc ((P1' ++ [y]) ++ x :: P2) ∧ BlkT w1 g cap (A ++ ((P1' ++ [y]) ++ x :: P2) ++ R' ++ Z)) := by
                refine ⟨asc_ins (by rw [← HPP.out.1]; exact HLR.out.2.2) HPP.out.2 (fun z hz => ?_), by have := HB1.out.1; simpa using this⟩
                have hA := HLR.out.2.2
                rw [HPP.out.1] at hA
                have hA1 := (List.pairwise_append.1 hA).1
                rw [List.mem_append] at hz
                rcases hz with hz | hz
                · exact ltT_trans ((List.pairwise_append.1 hA1).2.2 z hz y (by simp)) hyx
                · rw [List.mem_singleton] at hz; subst hz; exact hyx
              have HE2 : Hid (l0 :: L0 = (L1 ++ [x]) ++ R' ∧ ((P1' ++ [y]) ++ x :: P2).Perm (L1 ++ [x])) := by
                refine ⟨HLR.out.1, ?_⟩
                have hp := HLR.out.2.1
                rw [HPP.out.1] at hp
                exact (List.perm_middle.trans (List.Perm.cons x hp)).trans (List.perm_append_singleton x L1).symm
              have hpl' : ((P1' ++ [y]) ++ x :: P2).length = pl + 1 := by rw [← hpl, HPP.out.1]; simp; omega
              have HG1 : Hid (w.grownBy w1 (some g)) := HB1.out.2
              clear hltT hyx HB1 HPP hHeld two1
              go_wp2
              go_roundw
              case rel => exact ⟨(P1' ++ [y]) ++ x :: P2, R', L1 ++ [x], by rw [hpl']; push_cast; rw [Int.add_assoc], HE2.out.1, HE2.out.2, HE.out.1, by rw [hpl']; omega, HE.out.2, HG1.out⟩
              case measure => simp [intOf]; omega
end Go.Proofs.YtlaihgdfedalmaaGreat.T
namespace Go.Proofs.YtlaihgdfedalmaaGreat.T
open Go.RowKit Go.Sort
set_option linter.unusedVariables false
set_option linter.unusedSimpArgs false

set_option maxRecDepth 10000 in
set_option maxHeartbeats 2000000 in
theorem sm_left (w : World) (g cap n : Nat) (A R Z : List Tg) (x : Tg) (ia im ib : Int) (hb : BlkT w g cap (A ++ [x] ++ R ++ Z)) (hn : (A ++ [x] ++ R ++ Z).length = n) (hmax : n ≤ 1000000) (hR : Asc R) (htag : ∀ y ∈ R, x.2 < y.2) (hokx : OkS x.1) (hok : OkT R)
    (h1 : ia = (A.length : Nat)) (h2 : im = ((A.length + 1 : Nat) : Nat)) (h3 : ib = ((A.length + 1 + R.length : Nat) : Nat)) :
    Calls Tryz.prog 180 #[.slice (some ⟨g, 0, none⟩) n cap, .int .i64 ia, .int .i64 im, .int .i64 ib, .func (.func 143) #[] #[]] w fun e w' => e = .returned (.tuple #[]) ∧ ∃ M, M.Perm ([x] ++ R) ∧ Asc M ∧ BlkT w' g cap (A ++ M ++ Z) ∧ w.grownBy w' (some g) := by
  obtain ⟨a, HA⟩ : ∃ a : Nat, Hid (A.length = a) := ⟨_, rfl⟩
  obtain ⟨m, HM⟩ : ∃ m : Nat, Hid (A.length + 1 = m) := ⟨_, rfl⟩
  obtain ⟨b, HB⟩ : ∃ b : Nat, Hid (A.length + 1 + R.length = b) := ⟨_, rfl⟩
  rw [HA.out] at h1
  rw [HM.out] at h2
  rw [HB.out] at h3
  subst h1 h2 h3
  have hbn : b ≤ n := by have := HB.out; rw [← hn]; simp; omega
  have hm1 : a + 1 ≤ m := by have := HM.out; have := HA.out; omega
  have hm2 : m ≤ a + 1 := by have := HM.out; have := HA.out; omega
  have hab : m ≤ b := by have := HB.out; have := HM.out; omega
  have hsub : (m : Int) - (a : Int) = 1 := by omega
  have HR : Hid (Asc R ∧ (∀ y ∈ R, x.2 < y.2) ∧ OkS x.1 ∧ OkT R) := ⟨hR, htag, hokx, hok⟩
  have hDj : ∀ j, m ≤ j → j < b → ∃ y, R[j - m]? = some y ∧ y ∈ R ∧ (A ++ [x] ++ R ++ Z)[j]? = some y := fun j h1 h2 => by
    have e1 := HM.out
    have e2 := HB.out
    have hl : j - m < R.length := by omega
    refine ⟨R[j - m], List.getElem?_eq_getElem hl, List.getElem_mem hl, ?_⟩
    rw [List.append_assoc, List.getElem?_append_right (by simp; omega), List.getElem?_append_left (by simp; omega)]
    rw [show j - (A ++ [x]).length = j - m by simp; omega]
    exact List.getElem?_eq_getElem hl
  have hDa : (A ++ [x] ++ R ++ Z)[a]? = some x := by
    have e1 := HA.out
    rw [List.append_assoc, List.append_assoc]
    exact mid_get A x (R ++ Z) e1
  obtain ⟨D, HDD⟩ : ∃ D, Hid (A ++ [x] ++ R ++ Z = D) := ⟨_, rfl⟩
  rw [HDD.out] at hb hDa hDj
  have HD : Hid (∀ j, m ≤ j → j < b → ∃ y, R[j - m]? = some y ∧ y ∈ R ∧ D[j]? = some y) := hDj
  have HDa : Hid (D[a]? = some x) := hDa
  have HB0 : Hid (BlkT w g cap D) := hb
  clear hb hn hR htag hokx hok hDa hDj
  go_enter Tryz.func180, Tryz.ntmps180
  go_wp2_with fail
  go_loopw [10, 11, 12] (fun iv jv _ wr => ∃ (i j : Nat), iv = .int .i64 (i : Nat) ∧ jv = .int .i64 (j : Nat) ∧ m ≤ i ∧ i ≤ j ∧ j ≤ b ∧ (i = m ∨ ∃ y, R[i - 1 - m]? = some y ∧ ltT y x) ∧ (j = b ∨ ∃ y, R[j - m]? = some y ∧ ltT x y) ∧ BlkT wr g cap D ∧ w.grownBy wr (some g)) (fun iv jv _ _ => (intOf jv).toNat - (intOf iv).toNat)
  case atStart => exact ⟨m, b, rfl, rfl, by omega, by omega, by omega, .inl rfl, .inl rfl, HB0.out, gr_refl _ _⟩
  case round =>
    clear HB0
    obtain ⟨i, j, rfl, rfl, hi, hij, hj, hlo, hhi, hblk, hgr⟩ := hrel
    by_cases hlt : i < j
    · have hltI : (i : Int) < (j : Int) := by omega
      obtain ⟨h, hh⟩ : ∃ h : Nat, (i + j) / 2 = h := ⟨_, rfl⟩
      have hhI : ((i : Int) + (j : Int)) / 2 = (h : Int) := by omega
      have hih : i ≤ h := by omega
      have hhj : h < j := by omega
      clear hh
      obtain ⟨y, hyR, hym, hyD⟩ := HD.out h (by omega) (by omega)
      have two : Two g h a y x wr := hblk.two hyD HDa.out
      have hc := fun W => cmpS_any W y.1 x.1 (HR.out.2.2.2 y hym) HR.out.2.2.1
      have hltT := ltT_of (HR.out.2.1 y hym)
      have htri : ¬ ltT y x → ltT x y := ltT_tri (by have := HR.out.2.1 y hym; omega)
      generalize cmpS y.1 x.1 = d at hc hltT
      have hhn : (h : Int) < (n : Int) := by omega
      have han : (a : Int) < (n : Int) := by omega
      have HBK1 : Hid (BlkT wr g cap D ∧ w.grownBy wr (some g)) := ⟨hblk, hgr⟩
      have HLO : Hid ((i = m ∨ ∃ y, R[i - 1 - m]? = some y ∧ ltT y x) ∧ (j = b ∨ ∃ y, R[j - m]? = some y ∧ ltT x y) ∧ R[h - m]? = some y) := ⟨hlo, hhi, hyR⟩
      unfold sta at hc
      clear hblk hgr hlo hhi hyR hyD hym
      go_wp2_with fail
      refine wp_region_noPanic ?_
      refine wp_region_held_drew (S := fun wx => Two g h a y x wx) (by kernel_rfl) two (fun hHeld => ?_)
      refine tq 0 ?_
      refine tq 1 ?_
      refine tq 2 ?_
      refine tq 3 ?_
      refine tq 4 ?_
      refine tq 5 ?_
      refine tq 6 ?_
      refine tq 7 ?_
      refine tq 8 ?_
      refine comes_up 9 rfl (by kernel_rfl) (fun K hK => ?_)
      go_simp
      refine (hc _).mono ?_
      rintro e w1 ⟨rfl, hup⟩
      have two1 := Two.up hHeld hup
      have HB1 : Hid (BlkT w1 g cap D ∧ w.grownBy w1 (some g)) := ⟨HBK1.out.1.drew.up hup, gr_trans (gr_drew HBK1.out.2) (gr_below hup.bl _)⟩
      clear two hHeld hup HBK1
      go_wp2_with fail
      refine hK.out _ _ two1 (fun hHeld => ?_)
      clear hK K
      (try simp only [Act.put, List.setIfInBounds_toArray, List.set_cons_zero, List.set_cons_succ])
      by_cases hd : d < 0
      · skip
        refine tq 10 ?_
        refine wpAnyH_done (by kernel_rfl) ?_ _
        refine NoPanic.normal ?_
        have hyx := hltT.1 hd
        clear hltT htri hHeld two1
        go_wp2
        go_roundw
        case rel =>
          have key : ∃ (i' j' : Nat), (Value.int .i64 ((h : Int) + 1)) = .int .i64 (i' : Nat) ∧ (Value.int .i64 (j : Int)) = .int .i64 (j' : Nat) ∧ m ≤ i' ∧ i' ≤ j' ∧ j' ≤ b ∧ (i' = m ∨ ∃ y, R[i' - 1 - m]? = some y ∧ ltT y x) ∧ (j' = b ∨ ∃ y, R[j' - m]? = some y ∧ ltT x y) ∧ BlkT w1 g cap D ∧ w.grownBy w1 (some g) :=
            ⟨h + 1, j, by push_cast; rfl, rfl, by omega, by omega, hj, .inr ⟨y, HLO.out.2.2, hyx⟩, HLO.out.2.1, HB1.out.1, HB1.out.2⟩
          first | exact key | ((repeat apply Exists.intro); exact ⟨key, rfl⟩)
        case measure => simp [intOf]; omega
      · skip
        refine tq 10 ?_
        refine wpAnyH_done (by kernel_rfl) ?_ _
        refine NoPanic.normal ?_
        have hxy := htri (fun h => hd (hltT.2 h))
        clear hltT htri hHeld two1
        go_wp2
        go_roundw
        case rel =>
          have key : ∃ (i' j' : Nat), (Value.int .i64 (i : Int)) = .int .i64 (i' : Nat) ∧ (Value.int .i64 (h : Int)) = .int .i64 (j' : Nat) ∧ m ≤ i' ∧ i' ≤ j' ∧ j' ≤ b ∧ (i' = m ∨ ∃ y, R[i' - 1 - m]? = some y ∧ ltT y x) ∧ (j' = b ∨ ∃ y, R[j' - m]? = some y ∧ ltT x y) ∧ BlkT w1 g cap D ∧ w.grownBy w1 (some g) :=
            ⟨i, h, rfl, rfl, by omega, by omega, by omega, HLO.out.1, .inr ⟨y, HLO.out.2.2, hxy⟩, HB1.out.1, HB1.out.2⟩
          first | exact key | ((repeat apply Exists.intro); exact ⟨key, rfl⟩)
        case measure => simp [intOf]; omega
    · have hltI : ¬ ((i : Int) < (j : Int)) := by omega
      have hijE : i = j := by omega
      subst hijE
      obtain ⟨t, ht⟩ : ∃ t, i = m + t := ⟨i - m, by omega⟩
      have hbR : m + R.length = b := by have := HM.out; have := HB.out; omega
      have hasc : Asc (R.take t ++ x :: R.drop t) := asc_put HR.out.1 t
        (by rcases hlo with h | ⟨y, h1, h2⟩
            · exact .inl (by omega)
            · by_cases ht0 : t = 0
              · exact .inl ht0
              · exact .inr ⟨y, by rw [show i - 1 - m = t - 1 by omega] at h1; exact h1, h2⟩)
        (by rcases hhi with h | ⟨y, h1, h2⟩
            · exact .inl (by omega)
            · exact .inr ⟨y, by rw [show i - m = t by omega] at h1; exact h1, h2⟩)
      have hlt : (R.take t).length = t := by rw [List.length_take]; omega
      have hpm : (R.take t ++ x :: R.drop t).Perm ([x] ++ R) := by
        have := List.perm_middle (a := x) (l₁ := R.take t) (l₂ := R.drop t)
        rw [List.take_append_drop] at this
        exact this
      have hbk0 : BlkT wr g cap (A ++ [] ++ x :: (R.take t ++ (R.drop t ++ Z))) := by
        rw [← List.append_assoc (R.take t), List.take_append_drop]; rw [← HDD.out] at hblk; simpa using hblk
      generalize R.take t = R1 at *
      generalize R.drop t = R2 at *
      have HE : Hid ((R1 ++ x :: R2).Perm ([x] ++ R) ∧ Asc (R1 ++ x :: R2) ∧ BlkT wr g cap (A ++ [] ++ x :: (R1 ++ (R2 ++ Z))) ∧ w.grownBy wr (some g)) := ⟨hpm, hasc, hbk0, hgr⟩
      obtain ⟨F, HF0⟩ : ∃ F, Hid (R1 ++ x :: R2 = F) := ⟨_, rfl⟩
      have hti1 : m + t ≤ i := by omega
      have hti2 : i ≤ m + t := by omega
      clear ht hblk hgr hlo hhi hpm hasc hbk0 HDa HD
      go_wp2_with fail
      go_loopw [13] (fun kv wq => ∃ (k : Nat) (Ra Rb : List Tg), kv = .int .i64 (k : Nat) ∧ a + Ra.length = k ∧ R1 = Ra ++ Rb ∧ BlkT wq g cap (A ++ Ra ++ x :: (Rb ++ (R2 ++ Z))) ∧ w.grownBy wq (some g)) (fun kv _ => a + t - (intOf kv).toNat)
      case atStart => exact ⟨a, [], R1, rfl, rfl, rfl, HE.out.2.2.1, HE.out.2.2.2⟩
      case round =>
        obtain ⟨k, Ra, Rb, rfl, hk, hRR, hblk, hgr⟩ := hrel
        have hab2 : Ra.length + Rb.length = t := by rw [← hlt, hRR]; simp
        cases Rb with
        | nil =>
          have hkI : ¬ ((k : Int) < (i : Int) - 1) := by simp at hab2; omega
          have HF : Hid (F.Perm ([x] ++ R) ∧ Asc F ∧ BlkT wr g cap (A ++ F ++ Z) ∧ w.grownBy wr (some g)) := ⟨by rw [← HF0.out]; exact HE.out.1, by rw [← HF0.out]; exact HE.out.2.1, by rw [← HF0.out, hRR]; simpa using hblk, hgr⟩
          clear hblk hgr hRR HE HF0
          go_wp2
          (try simp only [Exit.inBlock, Exit.then])
          refine bodyPost_ret (results_none rfl _ _ _) rfl ?_
          exact ⟨rfl, F, HF.out.1, HF.out.2.1, (by first | exact HF.out.2.2.1 | (rw [← List.append_assoc]; exact HF.out.2.2.1)), HF.out.2.2.2⟩
        | cons y Rb' =>
          have hkI : (k : Int) < (i : Int) - 1 := by simp at hab2; omega
          have el1 : A ++ Ra ++ x :: (y :: Rb' ++ (R2 ++ Z)) = (A ++ Ra) ++ x :: (y :: Rb' ++ (R2 ++ Z)) := by simp
          have el1b : A ++ Ra ++ x :: (y :: Rb' ++ (R2 ++ Z)) = (A ++ Ra ++ [x]) ++ y :: (Rb' ++ (R2 ++ Z)) := by simp
          have el2 : (A ++ Ra) ++ y :: (y :: Rb' ++ (R2 ++ Z)) = (A ++ Ra ++ [y]) ++ y :: (Rb' ++ (R2 ++ Z)) := by simp
          have el3 : (A ++ Ra ++ [y]) ++ x :: (Rb' ++ (R2 ++ Z)) = A ++ (Ra ++ [y]) ++ x :: (Rb' ++ (R2 ++ Z)) := by simp
          have hq : (A ++ Ra).length = k := by have := HA.out; simp; omega
          have hq1 : (A ++ Ra ++ [y]).length = k + 1 := by rw [List.length_append, hq]; rfl
          have hq1x : (A ++ Ra ++ [x]).length = k + 1 := by rw [List.length_append, hq]; rfl
          obtain ⟨c0, c1, c2, c3, c4⟩ := BlkT.get (by rw [el1] at hblk; exact hblk) hq
          obtain ⟨d0, d1, d2, d3, d4⟩ := BlkT.get (by rw [el1b] at hblk; exact hblk) hq1x
          have p1 := BlkT.put (by rw [el1] at hblk; exact hblk) hq y
          rw [el2] at p1
          have p2 := BlkT.put p1.1 hq1 x
          rw [el3] at p2
          have HP : Hid _ := And.intro p2.1 (gr_trans hgr (gr_trans p1.2 p2.2))
          have hfz := fun j => Blk.free hblk j
          have HRR : Hid (R1 = (Ra ++ [y]) ++ Rb' ∧ a + (Ra ++ [y]).length = k + 1) := ⟨by rw [hRR]; simp, by simp; omega⟩
          have hkn : (k : Int) + 1 < (n : Int) := by omega
          have hkn' : (k : Int) < (n : Int) := by omega
          have hk0 : ¬ ((k : Int) + 1 < 0) := by omega
          clear p1 p2 el1 el1b el2 el3 hblk hgr hq hq1 hq1x hRR hab2 hk
          go_wp2_with fail
          go_big_region
          all_goals go_wp2
          go_roundw
          case rel => first | exact ⟨k + 1, Ra ++ [y], Rb', by go_num, HRR.out.2, HRR.out.1, HP.out.1.drew, gr_drew HP.out.2⟩ | ((repeat apply Exists.intro); exact ⟨⟨k + 1, Ra ++ [y], Rb', by go_num, HRR.out.2, HRR.out.1, HP.out.1.drew, gr_drew HP.out.2⟩, rfl⟩)
          case measure => simp [intOf]; omega
end Go.Proofs.YtlaihgdfedalmaaGreat.T
namespace Go.Proofs.YtlaihgdfedalmaaGreat.T
open Go.RowKit Go.Sort
set_option linter.unusedVariables false
set_option linter.unusedSimpArgs false

set_option maxRecDepth 10000 in
set_option maxHeartbeats 2000000 in
theorem sm_right (w : World) (g cap n : Nat) (A L Z : List Tg) (y : Tg) (ia im ib : Int) (hb : BlkT w g cap (A ++ L ++ [y] ++ Z)) (hn : (A ++ L ++ [y] ++ Z).length = n) (hmax : n ≤ 1000000) (hL : Asc L) (hL2 : 2 ≤ L.length) (htag : ∀ x ∈ L, x.2 < y.2) (hoky : OkS y.1) (hok : OkT L)
    (h1 : ia = (A.length : Nat)) (h2 : im = ((A.length + L.length : Nat) : Nat)) (h3 : ib = ((A.length + L.length + 1 : Nat) : Nat)) :
    Calls Tryz.prog 180 #[.slice (some ⟨g, 0, none⟩) n cap, .int .i64 ia, .int .i64 im, .int .i64 ib, .func (.func 143) #[] #[]] w fun e w' => e = .returned (.tuple #[]) ∧ ∃ M, M.Perm (L ++ [y]) ∧ Asc M ∧ BlkT w' g cap (A ++ M ++ Z) ∧ w.grownBy w' (some g) := by
  obtain ⟨a, HA⟩ : ∃ a : Nat, Hid (A.length = a) := ⟨_, rfl⟩
  obtain ⟨m, HM⟩ : ∃ m : Nat, Hid (A.length + L.length = m) := ⟨_, rfl⟩
  obtain ⟨b, HB⟩ : ∃ b : Nat, Hid (A.length + L.length + 1 = b) := ⟨_, rfl⟩
  rw [HA.out] at h1
  rw [HM.out] at h2
  rw [HB.out] at h3
  subst h1 h2 h3
  have hbn : b ≤ n := by have := HB.out; rw [← hn]; simp; omega
  have hm1 : m + 1 ≤ b := by have := HM.out; have := HB.out; omega
  have hm2 : b ≤ m + 1 := by have := HM.out; have := HB.out; omega
  have hab : a + 2 ≤ m := by have := HA.out; have := HM.out; omega
  have hsub : (b : Int) - (m : Int) = 1 := by omega
  have hsub0 : ((m : Int) - (a : Int) == 1) = false := by simp; omega
  have HR : Hid (Asc L ∧ (∀ x ∈ L, x.2 < y.2) ∧ OkS y.1 ∧ OkT L) := ⟨hL, htag, hoky, hok⟩
  have hDj : ∀ j, a ≤ j → j < m → ∃ x, L[j - a]? = some x ∧ x ∈ L ∧ (A ++ L ++ [y] ++ Z)[j]? = some x := fun j h1 h2 => by
    have e1 := HM.out
    have e2 := HA.out
    have hl : j - a < L.length := by omega
    refine ⟨L[j - a], List.getElem?_eq_getElem hl, List.getElem_mem hl, ?_⟩
    rw [List.append_assoc, List.append_assoc, List.getElem?_append_right (by omega), List.getElem?_append_left (by omega)]
    rw [show j - A.length = j - a by omega]
    exact List.getElem?_eq_getElem hl
  have hDm : (A ++ L ++ [y] ++ Z)[m]? = some y := by
    have e1 := HM.out
    rw [List.append_assoc (A ++ L)]
    exact mid_get (A ++ L) y Z (by simpa using e1)
  obtain ⟨D, HDD⟩ : ∃ D, Hid (A ++ L ++ [y] ++ Z = D) := ⟨_, rfl⟩
  rw [HDD.out] at hb hDm hDj
  have HD : Hid (∀ j, a ≤ j → j < m → ∃ x, L[j - a]? = some x ∧ x ∈ L ∧ D[j]? = some x) := hDj
  have HDm : Hid (D[m]? = some y) := hDm
  have HB0 : Hid (BlkT w g cap D) := hb
  clear hb hn hL hL2 htag hoky hok hDm hDj
  go_enter Tryz.func180, Tryz.ntmps180
  go_wp2_with fail
  go_loopw [14, 15, 16] (fun iv jv _ wr => ∃ (i j : Nat), iv = .int .i64 (i : Nat) ∧ jv = .int .i64 (j : Nat) ∧ a ≤ i ∧ i ≤ j ∧ j ≤ m ∧ (i = a ∨ a < i ∧ ∃ x, L[i - 1 - a]? = some x ∧ ltT x y) ∧ (j = m ∨ ∃ x, L[j - a]? = some x ∧ ltT y x) ∧ BlkT wr g cap D ∧ w.grownBy wr (some g)) (fun iv jv _ _ => (intOf jv).toNat - (intOf iv).toNat)
  case atStart => exact ⟨a, m, rfl, rfl, by omega, by omega, by omega, .inl rfl, .inl rfl, HB0.out, gr_refl _ _⟩
  case round =>
    clear HB0
    obtain ⟨i, j, rfl, rfl, hi, hij, hj, hlo, hhi, hblk, hgr⟩ := hrel
    by_cases hlt : i < j
    · have hltI : (i : Int) < (j : Int) := by omega
      obtain ⟨h, hh⟩ : ∃ h : Nat, (i + j) / 2 = h := ⟨_, rfl⟩
      have hhI : ((i : Int) + (j : Int)) / 2 = (h : Int) := by omega
      have hih : i ≤ h := by omega
      have hhj : h < j := by omega
      clear hh
      obtain ⟨x, hxL, hxm, hxD⟩ := HD.out h (by omega) (by omega)
      have two : Two g m h y x wr := hblk.two HDm.out hxD
      have hc := fun W => cmpS_any W y.1 x.1 HR.out.2.2.1 (HR.out.2.2.2 x hxm)
      have hltT := ltT_of (HR.out.2.1 x hxm)
      have htri : ¬ ltT y x → ltT x y := ltT_tri (by have := HR.out.2.1 x hxm; omega)
      generalize cmpS y.1 x.1 = d at hc hltT
      have hhn : (h : Int) < (n : Int) := by omega
      have han : (m : Int) < (n : Int) := by omega
      have HBK1 : Hid (BlkT wr g cap D ∧ w.grownBy wr (some g)) := ⟨hblk, hgr⟩
      have HLO : Hid ((i = a ∨ a < i ∧ ∃ x, L[i - 1 - a]? = some x ∧ ltT x y) ∧ (j = m ∨ ∃ x, L[j - a]? = some x ∧ ltT y x) ∧ L[h - a]? = some x) := ⟨hlo, hhi, hxL⟩
      unfold sta at hc
      clear hblk hgr hlo hhi hxL hxD hxm
      go_wp2_with fail
      refine wp_region_noPanic ?_
      refine wp_region_held_drew (S := fun wx => Two g m h y x wx) (by kernel_rfl) two (fun hHeld => ?_)
      refine tq 0 ?_
      refine tq 1 ?_
      refine tq 2 ?_
      refine tq 3 ?_
      refine tq 4 ?_
      refine tq 5 ?_
      refine tq 6 ?_
      refine tq 7 ?_
      refine tq 8 ?_
      refine comes_up 9 rfl (by kernel_rfl) (fun K hK => ?_)
      go_simp
      refine (hc _).mono ?_
      rintro e w1 ⟨rfl, hup⟩
      have two1 := Two.up hHeld hup
      have HB1 : Hid (BlkT w1 g cap D ∧ w.grownBy w1 (some g)) := ⟨HBK1.out.1.drew.up hup, gr_trans (gr_drew HBK1.out.2) (gr_below hup.bl _)⟩
      clear two hHeld hup HBK1
      go_wp2_with fail
      refine hK.out _ _ two1 (fun hHeld => ?_)
      clear hK K
      (try simp only [Act.put, List.setIfInBounds_toArray, List.set_cons_zero, List.set_cons_succ])
      by_cases hd : d < 0
      · skip
        have hdd : decide (d < 0) = true := by simpa using hd
        have hnd : (!decide (d < 0)) = false := by simp [hd]
        refine tq 10 ?_
        refine tq 11 ?_
        refine wpAnyH_done (by kernel_rfl) ?_ _
        refine NoPanic.normal ?_
        have hyx := hltT.1 hd
        clear hltT htri hHeld two1
        go_wp2
        go_roundw
        case rel =>
          have key : ∃ (i' j' : Nat), (Value.int .i64 (i : Int)) = .int .i64 (i' : Nat) ∧ (Value.int .i64 (h : Int)) = .int .i64 (j' : Nat) ∧ a ≤ i' ∧ i' ≤ j' ∧ j' ≤ m ∧ (i' = a ∨ a < i' ∧ ∃ x, L[i' - 1 - a]? = some x ∧ ltT x y) ∧ (j' = m ∨ ∃ x, L[j' - a]? = some x ∧ ltT y x) ∧ BlkT w1 g cap D ∧ w.grownBy w1 (some g) :=
            ⟨i, h, rfl, rfl, by omega, by omega, by omega, HLO.out.1, .inr ⟨x, HLO.out.2.2, hyx⟩, HB1.out.1, HB1.out.2⟩
          first | exact key | ((repeat apply Exists.intro); exact ⟨key, rfl⟩)
        case measure => simp [intOf]; omega
      · skip
        have hdd : decide (d < 0) = false := by simpa using hd
        have hnd : (!decide (d < 0)) = true := by simp [hd]
        refine tq 10 ?_
        refine tq 11 ?_
        refine wpAnyH_done (by kernel_rfl) ?_ _
        refine NoPanic.normal ?_
        have hxy := htri (fun h => hd (hltT.2 h))
        clear hltT htri hHeld two1
        go_wp2
        go_roundw
        case rel =>
          have key : ∃ (i' j' : Nat), (Value.int .i64 ((h : Int) + 1)) = .int .i64 (i' : Nat) ∧ (Value.int .i64 (j : Int)) = .int .i64 (j' : Nat) ∧ a ≤ i' ∧ i' ≤ j' ∧ j' ≤ m ∧ (i' = a ∨ a < i' ∧ ∃ x, L[i' - 1 - a]? = some x ∧ ltT x y) ∧ (j' = m ∨ ∃ x, L[j' - a]? = some x ∧ ltT y x) ∧ BlkT w1 g cap D ∧ w.grownBy w1 (some g) :=
            ⟨h + 1, j, by push_cast; rfl, rfl, by omega, by omega, hj, .inr ⟨by omega, x, HLO.out.2.2, hxy⟩, HLO.out.2.1, HB1.out.1, HB1.out.2⟩
          first | exact key | ((repeat apply Exists.intro); exact ⟨key, rfl⟩)
        case measure => simp [intOf]; omega
    · have hltI : ¬ ((i : Int) < (j : Int)) := by omega
      have hijE : i = j := by omega
      subst hijE
      obtain ⟨t, ht⟩ : ∃ t, i = a + t := ⟨i - a, by omega⟩
      have hbR : a + L.length = m := by have := HM.out; have := HA.out; omega
      have hasc : Asc (L.take t ++ y :: L.drop t) := asc_put HR.out.1 t
        (by rcases hlo with h | ⟨h0, x, h1, h2⟩
            · exact .inl (by omega)
            · exact .inr ⟨x, by rw [show i - 1 - a = t - 1 by omega] at h1; exact h1, h2⟩)
        (by rcases hhi with h | ⟨x, h1, h2⟩
            · exact .inl (by omega)
            · exact .inr ⟨x, by rw [show i - a = t by omega] at h1; exact h1, h2⟩)
      have hpm : (L.take t ++ y :: L.drop t).Perm (L ++ [y]) := by
        have h1 := List.perm_middle (a := y) (l₁ := L.take t) (l₂ := L.drop t)
        rw [List.take_append_drop] at h1
        exact h1.trans (List.perm_append_singleton y L).symm
      obtain ⟨F, HF0⟩ : ∃ F, Hid (L.take t ++ y :: L.drop t = F) := ⟨_, rfl⟩
      have hbk0 : BlkT wr g cap (A ++ L ++ y :: ([] ++ Z)) := by rw [← HDD.out] at hblk; simpa using hblk
      have HE : Hid (F.Perm (L ++ [y]) ∧ Asc F ∧ BlkT wr g cap (A ++ L ++ y :: ([] ++ Z)) ∧ w.grownBy wr (some g)) := ⟨by rw [← HF0.out]; exact hpm, by rw [← HF0.out]; exact hasc, hbk0, hgr⟩
      have hti1 : a + t ≤ i := by omega
      have hti2 : i ≤ a + t := by omega
      clear ht hblk hgr hlo hhi hpm hasc hbk0 HDm HD
      go_wp2_with fail
      go_loopw [17] (fun kv wq => ∃ (k : Nat) (La Lb : List Tg), kv = .int .i64 (k : Nat) ∧ a + La.length = k ∧ t ≤ La.length ∧ L = La ++ Lb ∧ BlkT wq g cap (A ++ La ++ y :: (Lb ++ Z)) ∧ w.grownBy wq (some g)) (fun kv _ => (intOf kv).toNat)
      case atStart => exact ⟨m, L, [], rfl, hbR, by omega, by simp, HE.out.2.2.1, HE.out.2.2.2⟩
      case round =>
        obtain ⟨k, La, Lb, rfl, hk, htl, hLL, hblk, hgr⟩ := hrel
        have hab2 : La.length + Lb.length = L.length := by rw [hLL]; simp
        by_cases hend : La.length = t
        · have hkI : ¬ ((i : Int) < (k : Int)) := by omega
          have HF : Hid (F.Perm (L ++ [y]) ∧ Asc F ∧ BlkT wr g cap (A ++ F ++ Z) ∧ w.grownBy wr (some g)) := by
            refine ⟨HE.out.1, HE.out.2.1, ?_, hgr⟩
            have e1 : L.take t = La := by rw [hLL, ← hend]; simp
            have e2 : L.drop t = Lb := by rw [hLL, ← hend]; simp
            rw [← HF0.out, e1, e2]
            simpa using hblk
          clear hblk hgr hLL HE HF0
          go_wp2
          (try simp only [Exit.inBlock, Exit.then])
          refine bodyPost_ret (results_none rfl _ _ _) rfl ?_
          exact ⟨rfl, F, HF.out.1, HF.out.2.1, (by first | exact HF.out.2.2.1 | (rw [← List.append_assoc]; exact HF.out.2.2.1)), HF.out.2.2.2⟩
        · have hkI : (i : Int) < (k : Int) := by omega
          rcases List.eq_nil_or_concat La with hLa | ⟨La', u, hLa⟩
          · exfalso; subst hLa; simp at htl hend; omega
          have hLac : La = La' ++ [u] := by rw [hLa]; simp
          clear hLa
          subst hLac
          obtain ⟨q, rfl⟩ : ∃ q, k = q + 1 := ⟨a + La'.length, by simp at hk; omega⟩
          have hq : (A ++ La').length = q := by have := HA.out; simp at hk ⊢; omega
          have hq1 : (A ++ La' ++ [u]).length = q + 1 := by rw [List.length_append, hq]; rfl
          have el1 : A ++ (La' ++ [u]) ++ y :: (Lb ++ Z) = (A ++ La' ++ [u]) ++ y :: (Lb ++ Z) := by simp
          have el1b : A ++ (La' ++ [u]) ++ y :: (Lb ++ Z) = (A ++ La') ++ u :: (y :: (Lb ++ Z)) := by simp
          have el2 : (A ++ La' ++ [u]) ++ u :: (Lb ++ Z) = (A ++ La') ++ u :: (u :: (Lb ++ Z)) := by simp
          have el3 : (A ++ La') ++ y :: (u :: (Lb ++ Z)) = A ++ La' ++ y :: ((u :: Lb) ++ Z) := by simp
          obtain ⟨c0, c1, c2, c3, c4⟩ := BlkT.get (by rw [el1] at hblk; exact hblk) hq1
          obtain ⟨d0, d1, d2, d3, d4⟩ := BlkT.get (by rw [el1b] at hblk; exact hblk) hq
          have p1 := BlkT.put (by rw [el1] at hblk; exact hblk) hq1 u
          rw [el2] at p1
          have p2 := BlkT.put p1.1 hq y
          rw [el3] at p2
          have HP : Hid _ := And.intro p2.1 (gr_trans hgr (gr_trans p1.2 p2.2))
          have hfz := fun j => Blk.free hblk j
          have HRR : Hid (L = La' ++ (u :: Lb) ∧ a + La'.length = q ∧ t ≤ La'.length) := ⟨by rw [hLL]; simp, by simp at hk; omega, by simp at htl hend; omega⟩
          have hkn : (q : Int) + 1 < (n : Int) := by simp at hab2 hk; omega
          have hkn' : (q : Int) < (n : Int) := by omega
          have hk0 : ¬ ((q : Int) + 1 < 0) := by omega
          have hkI' : (i : Int) < (q : Int) + 1 := by omega
          have hwq : IntKind.i64.wrap (q : Int) = (q : Int) := by rw [IntWalk.i64_left, IntWalk.wrap64_in _ (by omega)]
          clear p1 p2 el1 el1b el2 el3 hblk hgr hq hq1 hLL hab2 hk hend htl hkI
          go_wp2_with fail
          go_big_region
          all_goals go_wp2
          go_roundw
          case rel => first | exact ⟨q, La', u :: Lb, by go_num, HRR.out.2.1, HRR.out.2.2, HRR.out.1, HP.out.1.drew, gr_drew HP.out.2⟩ | ((repeat apply Exists.intro); exact ⟨⟨q, La', u :: Lb, by go_num, HRR.out.2.1, HRR.out.2.2, HRR.out.1, HP.out.1.drew, gr_drew HP.out.2⟩, rfl⟩)
          case measure => simp [intOf]
end Go.Proofs.YtlaihgdfedalmaaGreat.T
namespace Go.Proofs.YtlaihgdfedalmaaGreat.T
open Go.RowKit Go.Sort
set_option linter.unusedVariables false
set_option linter.unusedSimpArgs false

def SmSaid (g cap n N : Nat) : Prop := ∀ (w : World) (A L R Z : List Tg) (ia im ib : Int), L.length + R.length ≤ N → 0 < L.length → 0 < R.length → BlkT w g cap (A ++ L ++ R ++ Z) → (A ++ L ++ R ++ Z).length = n → Asc L → Asc R → (∀ x ∈ L, ∀ y ∈ R, x.2 < y.2) → OkT L → OkT R →
    ia = (A.length : Nat) → im = ((A.length + L.length : Nat) : Nat) → ib = ((A.length + L.length + R.length : Nat) : Nat) →
    Calls Tryz.prog 180 #[.slice (some ⟨g, 0, none⟩) n cap, .int .i64 ia, .int .i64 im, .int .i64 ib, .func (.func 143) #[] #[]] w fun e w' => e = .returned (.tuple #[]) ∧ ∃ M, M.Perm (L ++ R) ∧ Asc M ∧ BlkT w' g cap (A ++ M ++ Z) ∧ w.grownBy w' (some g)

set_option maxRecDepth 10000 in
set_option maxHeartbeats 4000000 in
theorem sm_step (w : World) (g cap n N : Nat) (ih : SmSaid g cap n N) (A L R Z : List Tg) (ia im ib : Int) (hN : L.length + R.length ≤ N + 1) (hL2 : 2 ≤ L.length) (hR2 : 2 ≤ R.length) (hb : BlkT w g cap (A ++ L ++ R ++ Z)) (hn : (A ++ L ++ R ++ Z).length = n) (hmax : n ≤ 1000000)
    (hL : Asc L) (hR : Asc R) (htag : ∀ x ∈ L, ∀ y ∈ R, x.2 < y.2) (hokL : OkT L) (hokR : OkT R)
    (h1 : ia = (A.length : Nat)) (h2 : im = ((A.length + L.length : Nat) : Nat)) (h3 : ib = ((A.length + L.length + R.length : Nat) : Nat)) :
    Calls Tryz.prog 180 #[.slice (some ⟨g, 0, none⟩) n cap, .int .i64 ia, .int .i64 im, .int .i64 ib, .func (.func 143) #[] #[]] w fun e w' => e = .returned (.tuple #[]) ∧ ∃ M, M.Perm (L ++ R) ∧ Asc M ∧ BlkT w' g cap (A ++ M ++ Z) ∧ w.grownBy w' (some g) := by
  obtain ⟨a, HA⟩ : ∃ a : Nat, Hid (A.length = a) := ⟨_, rfl⟩
  obtain ⟨m, HM⟩ : ∃ m : Nat, Hid (A.length + L.length = m) := ⟨_, rfl⟩
  obtain ⟨b, HB⟩ : ∃ b : Nat, Hid (A.length + L.length + R.length = b) := ⟨_, rfl⟩
  rw [HA.out] at h1
  rw [HM.out] at h2
  rw [HB.out] at h3
  subst h1 h2 h3
  have hbn : b ≤ n := by have := HB.out; rw [← hn]; simp; omega
  have hbm : m + 2 ≤ b := by have := HM.out; have := HB.out; omega
  have hab : a + 2 ≤ m := by have := HA.out; have := HM.out; omega
  have hNb : b ≤ a + N + 1 := by have := HA.out; have := HM.out; have := HB.out; omega
  have hsub0 : ((m : Int) - (a : Int) == 1) = false := by simp; omega
  have hsub1 : ((b : Int) - (m : Int) == 1) = false := by simp; omega
  obtain ⟨mid, hmid⟩ : ∃ mid : Nat, (a + b) / 2 = mid := ⟨_, rfl⟩
  have hmidI : ((a : Int) + (b : Int)) / 2 = (mid : Int) := by omega
  have hmid1 : a + b ≤ mid + mid + 1 := by omega
  have hmid2 : mid + mid ≤ a + b := by omega
  clear hmid
  obtain ⟨q, hq⟩ : ∃ q : Nat, mid + m = q := ⟨_, rfl⟩
  have hqI : (mid : Int) + (m : Int) = (q : Int) := by omega
  have hq1 : mid + m ≤ q := by omega
  have hq2 : q ≤ mid + m := by omega
  clear hq
  obtain ⟨p, hp⟩ : ∃ p : Nat, p + 1 = q := ⟨q - 1, by omega⟩
  have hpI : (q : Int) - 1 = (p : Int) := by omega
  have hp1 : p + 1 ≤ q := by omega
  have hp2 : q ≤ p + 1 := by omega
  clear hp
  have HR : Hid (Asc L ∧ Asc R ∧ (∀ x ∈ L, ∀ y ∈ R, x.2 < y.2) ∧ OkT L ∧ OkT R) := ⟨hL, hR, htag, hokL, hokR⟩
  have HN : Hid ((A ++ L ++ R ++ Z).length = n) := hn
  have HIH : Hid (SmSaid g cap n N) := ih
  have hDl : ∀ j, a ≤ j → j < m → ∃ x, L[j - a]? = some x ∧ x ∈ L ∧ (A ++ L ++ R ++ Z)[j]? = some x := fun j h1 h2 => by
    have e1 := HM.out
    have e2 := HA.out
    have hl : j - a < L.length := by omega
    refine ⟨L[j - a], List.getElem?_eq_getElem hl, List.getElem_mem hl, ?_⟩
    rw [List.append_assoc, List.append_assoc, List.getElem?_append_right (by omega), List.getElem?_append_left (by omega)]
    rw [show j - A.length = j - a by omega]
    exact List.getElem?_eq_getElem hl
  have hDr : ∀ j, m ≤ j → j < b → ∃ y, R[j - m]? = some y ∧ y ∈ R ∧ (A ++ L ++ R ++ Z)[j]? = some y := fun j h1 h2 => by
    have e1 := HM.out
    have e2 := HB.out
    have hl : j - m < R.length := by omega
    refine ⟨R[j - m], List.getElem?_eq_getElem hl, List.getElem_mem hl, ?_⟩
    rw [List.append_assoc, List.getElem?_append_right (by simp; omega), List.getElem?_append_left (by simp; omega)]
    rw [show j - (A ++ L).length = j - m by simp; omega]
    exact List.getElem?_eq_getElem hl
  obtain ⟨D, HDD⟩ : ∃ D, Hid (A ++ L ++ R ++ Z = D) := ⟨_, rfl⟩
  rw [HDD.out] at hb hDl hDr
  have HDl : Hid (∀ j, a ≤ j → j < m → ∃ x, L[j - a]? = some x ∧ x ∈ L ∧ D[j]? = some x) := hDl
  have HDr : Hid (∀ j, m ≤ j → j < b → ∃ y, R[j - m]? = some y ∧ y ∈ R ∧ D[j]? = some y) := hDr
  have HB0 : Hid (BlkT w g cap D) := hb
  clear hb hn hL hR htag hokL hokR hDl hDr ih hL2 hR2 hN
  go_enter Tryz.func180, Tryz.ntmps180
  go_upto_if 140 with fail
  go_cut [20, 21] from 138 to 146 (fun sv rv wx => ∃ (lo hi : Nat), sv = .int .i64 (lo : Nat) ∧ rv = .int .i64 (hi : Nat) ∧ a ≤ lo ∧ hi ≤ m ∧ hi ≤ mid ∧ q ≤ lo + b ∧ lo ≤ hi ∧ (lo = a ∨ lo + b = q) ∧ (hi = m ∨ hi = mid) ∧ wx = w)
  case first =>
    by_cases hgt : mid < m
    · have hgtI : (mid : Int) < (m : Int) := by omega
      have hqb : (q : Int) - (b : Int) = ((q - b : Nat) : Int) := by omega
      go_wp2
      go_meet
      case rel => exact ⟨q - b, mid, by first | rfl | rw [hqb], rfl, by omega, by omega, by omega, by omega, by omega, .inr (by omega), .inr rfl, rfl⟩
    · have hgtI : ¬ ((mid : Int) < (m : Int)) := by omega
      go_wp2
      go_meet
      case rel => exact ⟨a, m, rfl, rfl, by omega, by omega, by omega, by omega, by omega, .inl rfl, .inl rfl, rfl⟩
  case rest =>
    obtain ⟨lo, hi, rfl, rfl, hla, hhm, hhmid, hqb, hlh, hlo0, hhi0, hwc⟩ := hcut
    obtain rfl : w = wc := hwc.symm
    have HC : Hid ((lo = a ∨ lo + b = q) ∧ (hi = m ∨ hi = mid)) := ⟨hlo0, hhi0⟩
    clear hlo0 hhi0
    go_wp2_with fail
    go_loopw [20, 21, 23] (fun iv jv _ wr => ∃ (i j : Nat), iv = .int .i64 (i : Nat) ∧ jv = .int .i64 (j : Nat) ∧ lo ≤ i ∧ i ≤ j ∧ j ≤ hi ∧ (i = lo ∨ lo < i ∧ ∃ x y, L[i - 1 - a]? = some x ∧ R[p + 1 - i - m]? = some y ∧ ltT x y) ∧ (j = hi ∨ j < hi ∧ ∃ x y, L[j - a]? = some x ∧ R[p - j - m]? = some y ∧ ltT y x) ∧ BlkT wr g cap D ∧ w.grownBy wr (some g)) (fun iv jv _ _ => (intOf jv).toNat - (intOf iv).toNat)
    case atStart => exact ⟨lo, hi, rfl, rfl, by omega, by omega, by omega, .inl rfl, .inl rfl, HB0.out, gr_refl _ _⟩
    case round =>
      clear HB0
      obtain ⟨i, j, rfl, rfl, hi', hij, hj, hlo, hhi, hblk, hgr⟩ := hrel
      by_cases hlt : i < j
      · have hltI : (i : Int) < (j : Int) := by omega
        obtain ⟨c, hc0⟩ : ∃ c : Nat, (i + j) / 2 = c := ⟨_, rfl⟩
        have hcI : ((i : Int) + (j : Int)) / 2 = (c : Int) := by omega
        have hic : i ≤ c := by omega
        have hcj : c < j := by omega
        clear hc0
        obtain ⟨e, he⟩ : ∃ e : Nat, p - c = e := ⟨_, rfl⟩
        have heI : (p : Int) - (c : Int) = (e : Int) := by omega
        have he1 : p ≤ e + c := by omega
        have he2 : e + c ≤ p := by omega
        clear he
        obtain ⟨x, hxL, hxm, hxD⟩ := HDl.out c (by omega) (by omega)
        obtain ⟨y, hyR, hym, hyD⟩ := HDr.out e (by omega) (by omega)
        have two : Two g e c y x wr := hblk.two hyD hxD
        have hc := fun W => cmpS_any W y.1 x.1 (HR.out.2.2.2.2 y hym) (HR.out.2.2.2.1 x hxm)
        have htg := HR.out.2.2.1 x hxm y hym
        have hltT := ltT_of htg
        have htri : ¬ ltT y x → ltT x y := ltT_tri (by omega)
        generalize cmpS y.1 x.1 = d at hc hltT
        have hen : (e : Int) < (n : Int) := by omega
        have hwe : IntKind.i64.wrap (e : Int) = (e : Int) := by rw [IntWalk.i64_left, IntWalk.wrap64_in _ (by omega)]
        have hcn : (c : Int) < (n : Int) := by omega
        have HBK1 : Hid (BlkT wr g cap D ∧ w.grownBy wr (some g)) := ⟨hblk, hgr⟩
        have HLO : Hid ((i = lo ∨ lo < i ∧ ∃ x y, L[i - 1 - a]? = some x ∧ R[p + 1 - i - m]? = some y ∧ ltT x y) ∧ (j = hi ∨ j < hi ∧ ∃ x y, L[j - a]? = some x ∧ R[p - j - m]? = some y ∧ ltT y x) ∧ L[c - a]? = some x ∧ R[e - m]? = some y) := ⟨hlo, hhi, hxL, hyR⟩
        unfold sta at hc
        clear hblk hgr hlo hhi hxL hxD hxm hyR hyD hym htg
        go_wp2_with fail
        refine wp_region_noPanic ?_
        refine wp_region_held_drew (S := fun wx => Two g e c y x wx) (by kernel_rfl) two (fun hHeld => ?_)
        refine tq 0 ?_
        refine tq 1 ?_
        refine tq 2 ?_
        refine tq 3 ?_
        refine tq 4 ?_
        refine tq 5 ?_
        refine tq 6 ?_
        refine tq 7 ?_
        refine tq 8 ?_
        refine tq 9 ?_
        refine tq 10 ?_
        refine comes_up 11 rfl (by kernel_rfl) (fun K hK => ?_)
        go_simp
        refine (hc _).mono ?_
        rintro e' w1 ⟨rfl, hup⟩
        have two1 := Two.up hHeld hup
        have HB1 : Hid (BlkT w1 g cap D ∧ w.grownBy w1 (some g)) := ⟨HBK1.out.1.drew.up hup, gr_trans (gr_drew HBK1.out.2) (gr_below hup.bl _)⟩
        clear two hHeld hup HBK1
        go_wp2_with fail
        refine hK.out _ _ two1 (fun hHeld => ?_)
        clear hK K
        (try simp only [Act.put, List.setIfInBounds_toArray, List.set_cons_zero, List.set_cons_succ])
        by_cases hd : d < 0
        · skip
          have hdd : decide (d < 0) = true := by simpa using hd
          have hnd : (!decide (d < 0)) = false := by simp [hd]
          refine tq 12 ?_
          refine tq 13 ?_
          refine wpAnyH_done (by kernel_rfl) ?_ _
          refine NoPanic.normal ?_
          have hyx := hltT.1 hd
          clear hltT htri hHeld two1
          go_wp2
          go_roundw
          case rel =>
            have key : ∃ (i' j' : Nat), (Value.int .i64 (i : Int)) = .int .i64 (i' : Nat) ∧ (Value.int .i64 (c : Int)) = .int .i64 (j' : Nat) ∧ lo ≤ i' ∧ i' ≤ j' ∧ j' ≤ hi ∧ (i' = lo ∨ lo < i' ∧ ∃ x y, L[i' - 1 - a]? = some x ∧ R[p + 1 - i' - m]? = some y ∧ ltT x y) ∧ (j' = hi ∨ j' < hi ∧ ∃ x y, L[j' - a]? = some x ∧ R[p - j' - m]? = some y ∧ ltT y x) ∧ BlkT w1 g cap D ∧ w.grownBy w1 (some g) :=
              ⟨i, c, rfl, rfl, by omega, by omega, by omega, HLO.out.1, .inr ⟨by omega, x, y, HLO.out.2.2.1, by rw [show p - c = e by omega]; exact HLO.out.2.2.2, hyx⟩, HB1.out.1, HB1.out.2⟩
            first | exact key | ((repeat apply Exists.intro); exact ⟨key, rfl⟩)
          case measure => simp [intOf]; omega
        · skip
          have hdd : decide (d < 0) = false := by simpa using hd
          have hnd : (!decide (d < 0)) = true := by simp [hd]
          refine tq 12 ?_
          refine tq 13 ?_
          refine wpAnyH_done (by kernel_rfl) ?_ _
          refine NoPanic.normal ?_
          have hxy := htri (fun h => hd (hltT.2 h))
          clear hltT htri hHeld two1
          go_wp2
          go_roundw
          case rel =>
            have key : ∃ (i' j' : Nat), (Value.int .i64 ((c : Int) + 1)) = .int .i64 (i' : Nat) ∧ (Value.int .i64 (j : Int)) = .int .i64 (j' : Nat) ∧ lo ≤ i' ∧ i' ≤ j' ∧ j' ≤ hi ∧ (i' = lo ∨ lo < i' ∧ ∃ x y, L[i' - 1 - a]? = some x ∧ R[p + 1 - i' - m]? = some y ∧ ltT x y) ∧ (j' = hi ∨ j' < hi ∧ ∃ x y, L[j' - a]? = some x ∧ R[p - j' - m]? = some y ∧ ltT y x) ∧ BlkT w1 g cap D ∧ w.grownBy w1 (some g) :=
              ⟨c + 1, j, by push_cast; rfl, rfl, by omega, by omega, hj, .inr ⟨by omega, x, y, HLO.out.2.2.1, by rw [show p + 1 - (c + 1) = e by omega]; exact HLO.out.2.2.2, hxy⟩, HLO.out.2.1, HB1.out.1, HB1.out.2⟩
            first | exact key | ((repeat apply Exists.intro); exact ⟨key, rfl⟩)
          case measure => simp [intOf]; omega
      · have hltI : ¬ ((i : Int) < (j : Int)) := by omega
        have hijE : i = j := by omega
        subst hijE
        have hlR : m + R.length = b := by have := HM.out; have := HB.out; omega
        have hlL : a + L.length = m := by have := HM.out; have := HA.out; omega
        obtain ⟨en, hen0⟩ : ∃ en : Nat, q - i = en := ⟨_, rfl⟩
        have henI : (q : Int) - (i : Int) = (en : Int) := by omega
        have hen1 : q ≤ en + i := by omega
        have hen2 : en + i ≤ q := by omega
        clear hen0
        have hspl : ∀ x ∈ L.take (i - a) ++ R.take (en - m), ∀ y ∈ L.drop (i - a) ++ R.drop (en - m), ltT x y := by
          refine sm_split HR.out.1 HR.out.2.1 (i - a) (en - m) ?_ ?_
          · rcases hlo with h | ⟨h0, x, y, e1, e2, e3⟩
            · rcases HC.out.1 with h' | h'
              · exact .inl (by omega)
              · exact .inr (.inl (by omega))
            · exact .inr (.inr ⟨x, y, by rw [show i - a - 1 = i - 1 - a by omega]; exact e1, by rw [show en - m = p + 1 - i - m by omega]; exact e2, e3⟩)
          · rcases hhi with h | ⟨h0, x, y, e1, e2, e3⟩
            · rcases HC.out.2 with h' | h'
              · exact .inl (by omega)
              · exact .inr (.inl (by omega))
            · exact .inr (.inr ⟨x, y, e1, by rw [show en - m - 1 = p - i - m by omega]; exact e2, e3⟩)
        obtain ⟨L1, L2, R1, R2, HT⟩ : ∃ L1 L2 R1 R2, Hid ((L1 ++ L2 = L ∧ R1 ++ R2 = R) ∧ (L1.length = i - a ∧ L2.length = m - i ∧ R1.length = en - m ∧ R2.length = b - en) ∧ (Asc L1 ∧ Asc L2 ∧ Asc R1 ∧ Asc R2) ∧ (∀ x ∈ L1 ++ R1, ∀ y ∈ L2 ++ R2, ltT x y)) :=
          ⟨L.take (i - a), L.drop (i - a), R.take (en - m), R.drop (en - m), ⟨List.take_append_drop _ _, List.take_append_drop _ _⟩, ⟨by rw [List.length_take]; omega, by rw [List.length_drop]; omega, by rw [List.length_take]; omega, by rw [List.length_drop]; omega⟩, ⟨asc_take HR.out.1 _, asc_drop HR.out.1 _, asc_take HR.out.2.1 _, asc_drop HR.out.2.1 _⟩, hspl⟩
        have HTG : Hid ((∀ x ∈ L1, ∀ y ∈ R1, x.2 < y.2) ∧ (∀ x ∈ L2, ∀ y ∈ R2, x.2 < y.2) ∧ OkT L1 ∧ OkT L2 ∧ OkT R1 ∧ OkT R2) := by
          obtain ⟨_, _, t, o1, o2⟩ := HR.out
          rw [← HT.out.1.1] at t o1
          rw [← HT.out.1.2] at t o2
          exact ⟨fun x hx y hy => t x (by simp [hx]) y (by simp [hy]), fun x hx y hy => t x (by simp [hx]) y (by simp [hy]), fun x hx => o1 x (by simp [hx]), fun x hx => o1 x (by simp [hx]), fun x hx => o2 x (by simp [hx]), fun x hx => o2 x (by simp [hx])⟩
        have HBK : Hid (BlkT wr g cap ((A ++ L1) ++ L2 ++ R1 ++ (R2 ++ Z)) ∧ w.grownBy wr (some g)) := by
          refine ⟨?_, hgr⟩
          have e : (A ++ L1) ++ L2 ++ R1 ++ (R2 ++ Z) = D := by rw [← HDD.out, ← HT.out.1.1, ← HT.out.1.2]; simp
          rw [e]; exact hblk
        have HNN : Hid ((A ++ L1).length = i ∧ ((A ++ L1) ++ L2 ++ R1 ++ (R2 ++ Z)).length = n ∧ (A ++ L1 ++ R1).length = mid) := by
          have e1 := HA.out
          have e2 := HN.out
          rw [← HT.out.1.1, ← HT.out.1.2] at e2
          obtain ⟨f1, f2, f3, f4⟩ := HT.out.2.1
          refine ⟨by rw [List.length_append]; omega, by rw [← e2]; simp, by rw [List.length_append, List.length_append]; omega⟩
        have him : i ≤ m := by omega
        have himid : i ≤ mid := by omega
        have hia : a ≤ i := by omega
        have hmen : m ≤ en := by omega
        have henb : en ≤ b := by omega
        have hmidb : mid < b := by omega
        have hamid : a < mid := by omega
        clear hspl hblk hgr hlo hhi HDl HDr HR HC HDD hlR hlL
        go_upto_region 39 with fail
        go_cut [185] from 178 to 185 (fun cv wx => cv = .bool (decide (i < m ∧ m < en)) ∧ wx = wr)
        case first =>
          by_cases c1 : i < m
          · have c1I : (i : Int) < (m : Int) := by omega
            by_cases c2 : m < en
            · have c2I : (m : Int) < (en : Int) := by omega
              go_wp2
              go_meet
              case rel => exact ⟨by simp [c1, c2], rfl⟩
            · have c2I : ¬ ((m : Int) < (en : Int)) := by omega
              go_wp2
              go_meet
              case rel => exact ⟨by simp [c1, c2], rfl⟩
          · have c1I : ¬ ((i : Int) < (m : Int)) := by omega
            go_wp2
            go_meet
            case rel => exact ⟨by simp [c1], rfl⟩
        case rest =>
        obtain ⟨rfl, hwc⟩ := hcut
        obtain rfl : wr = wc := hwc.symm
        go_upto_if 185 with fail
        go_cut [] from 185 to 191 (fun wx => BlkT wx g cap ((A ++ L1) ++ R1 ++ L2 ++ (R2 ++ Z)) ∧ w.grownBy wx (some g))
        case first =>
          by_cases hrot : i < m ∧ m < en
          · have hrb : decide (i < m ∧ m < en) = true := by simpa using hrot
            obtain ⟨f1, f2, f3, f4⟩ := HT.out.2.1
            have hro := rotate_any wr g cap n (.func (.func 143) #[] #[]) (A ++ L1) L2 R1 (R2 ++ Z) (i : Int) (m : Int) (en : Int) HBK.out.1 (by omega) (by omega) HNN.out.2.1 hmax (by rw [HNN.out.1]) (by rw [HNN.out.1]; omega) (by rw [HNN.out.1]; omega)
            clear f1 f2 f3 f4
            simp only [hrb]
            go_wp2_with fail
            refine hro.mono ?_
            rintro e' w1 ⟨rfl, hb1, hg1⟩
            have HB1 : Hid (BlkT w1 g cap ((A ++ L1) ++ R1 ++ L2 ++ (R2 ++ Z)) ∧ w.grownBy w1 (some g)) := ⟨hb1, gr_trans HBK.out.2 hg1⟩
            clear hro hb1 hg1
            go_wp2
            go_meet
            case rel => first | exact HB1.out | exact ⟨by have := HB1.out.1; simpa using this, HB1.out.2⟩
          · have hrb : decide (i < m ∧ m < en) = false := by simpa using hrot
            have HB1 : Hid (BlkT wr g cap ((A ++ L1) ++ R1 ++ L2 ++ (R2 ++ Z)) ∧ w.grownBy wr (some g)) := by
              refine ⟨?_, HBK.out.2⟩
              obtain ⟨f1, f2, f3, f4⟩ := HT.out.2.1
              have h0 := HBK.out.1
              by_cases c1 : i < m
              · have : R1 = [] := List.length_eq_zero_iff.1 (by omega)
                subst this; simpa using h0
              · have : L2 = [] := List.length_eq_zero_iff.1 (by omega)
                subst this; simpa using h0
            simp only [hrb]
            go_wp2
            go_meet
            case rel => first | exact HB1.out | exact ⟨by have := HB1.out.1; simpa using this, HB1.out.2⟩
        case rest =>
        rename World => w2
        clear HBK
        have HB1 : Hid (BlkT w2 g cap ((A ++ L1) ++ R1 ++ L2 ++ (R2 ++ Z)) ∧ w.grownBy w2 (some g)) := hcut
        clear hcut
        go_upto_region 41 with fail
        go_cut [199] from 192 to 199 (fun cv wx => cv = .bool (decide (a < i ∧ i < mid)) ∧ wx = w2)
        case first =>
          by_cases c1 : a < i
          · have c1I : (a : Int) < (i : Int) := by omega
            by_cases c2 : i < mid
            · have c2I : (i : Int) < (mid : Int) := by omega
              go_wp2
              go_meet
              case rel => exact ⟨by simp [c1, c2], rfl⟩
            · have c2I : ¬ ((i : Int) < (mid : Int)) := by omega
              go_wp2
              go_meet
              case rel => exact ⟨by simp [c1, c2], rfl⟩
          · have c1I : ¬ ((a : Int) < (i : Int)) := by omega
            go_wp2
            go_meet
            case rel => exact ⟨by simp [c1], rfl⟩
        case rest =>
        obtain ⟨rfl, hwc⟩ := hcut
        obtain rfl : w2 = wc := hwc.symm
        go_upto_if 199 with fail
        go_cut [] from 199 to 205 (fun wx => ∃ M1, M1.Perm (L1 ++ R1) ∧ Asc M1 ∧ BlkT wx g cap (A ++ M1 ++ L2 ++ R2 ++ Z) ∧ w.grownBy wx (some g))
        case first =>
          by_cases hfi : a < i ∧ i < mid
          · have hrb : decide (a < i ∧ i < mid) = true := by simpa using hfi
            obtain ⟨f1, f2, f3, f4⟩ := HT.out.2.1
            obtain ⟨s1, s2, s3, s4⟩ := HT.out.2.2.1
            have hal := HA.out
            have hro := HIH.out w2 A L1 R1 (L2 ++ (R2 ++ Z)) (a : Int) (i : Int) (mid : Int) (by omega) (by omega) (by omega) (by have := HB1.out.1; simpa using this) (by have := HNN.out.2.1; simp at this ⊢; omega) s1 s3 HTG.out.1 HTG.out.2.2.1 HTG.out.2.2.2.2.1 (by omega) (by omega) (by omega)
            clear f1 f2 f3 f4 s1 s2 s3 s4
            simp only [hrb]
            go_wp2_with fail
            refine hro.mono ?_
            rintro e' w3 ⟨rfl, M1, hp1, ha1, hb1, hg1⟩
            have HB3 : Hid (M1.Perm (L1 ++ R1) ∧ Asc M1 ∧ BlkT w3 g cap (A ++ M1 ++ L2 ++ R2 ++ Z) ∧ w.grownBy w3 (some g)) := ⟨hp1, ha1, by simpa using hb1, gr_trans HB1.out.2 hg1⟩
            clear hro hb1 hg1 hp1 ha1
            go_wp2
            go_meet
            case rel => exact ⟨M1, HB3.out.1, HB3.out.2.1, (by first | exact HB3.out.2.2.1 | (have := HB3.out.2.2.1; simpa using this)), HB3.out.2.2.2⟩
          · have hrb : decide (a < i ∧ i < mid) = false := by simpa using hfi
            have HB3 : Hid ((L1 ++ R1).Perm (L1 ++ R1) ∧ Asc (L1 ++ R1) ∧ BlkT w2 g cap (A ++ (L1 ++ R1) ++ L2 ++ R2 ++ Z) ∧ w.grownBy w2 (some g)) := by
              refine ⟨List.Perm.refl _, ?_, by have := HB1.out.1; simpa using this, HB1.out.2⟩
              obtain ⟨f1, f2, f3, f4⟩ := HT.out.2.1
              obtain ⟨s1, s2, s3, s4⟩ := HT.out.2.2.1
              by_cases c1 : a < i
              · have : R1 = [] := List.length_eq_zero_iff.1 (by omega)
                subst this; simpa using s1
              · have : L1 = [] := List.length_eq_zero_iff.1 (by omega)
                subst this; simpa using s3
            simp only [hrb]
            go_wp2
            go_meet
            case rel => exact ⟨L1 ++ R1, HB3.out.1, HB3.out.2.1, (by first | exact HB3.out.2.2.1 | (have := HB3.out.2.2.1; simpa using this)), HB3.out.2.2.2⟩
        case rest =>
        rename World => w3
        clear HB1
        obtain ⟨M1, hp1, ha1, hb1, hg1⟩ := hcut
        have hM1 : (A ++ M1).length = mid := by have := HNN.out.2.2; rw [← this, List.length_append, hp1.length_eq]; simp [Nat.add_assoc]
        have HB3 : Hid (M1.Perm (L1 ++ R1) ∧ Asc M1 ∧ BlkT w3 g cap ((A ++ M1) ++ L2 ++ R2 ++ Z) ∧ w.grownBy w3 (some g) ∧ (A ++ M1).length = mid ∧ ((A ++ M1) ++ L2 ++ R2 ++ Z).length = n) := ⟨hp1, ha1, hb1, hg1, hM1, by have := HNN.out.2.1; have e := hp1.length_eq; simp at this e ⊢; omega⟩
        have HFIN : Hid (∀ M2 : List Tg, M2.Perm (L2 ++ R2) → Asc M2 → (M1 ++ M2).Perm (L ++ R) ∧ Asc (M1 ++ M2)) := fun M2 hp2 ha2 => by
          refine ⟨?_, asc_app ha1 ha2 (fun x hx y hy => HT.out.2.2.2 x (hp1.mem_iff.1 hx) y (hp2.mem_iff.1 hy))⟩
          rw [← HT.out.1.1, ← HT.out.1.2]
          refine (hp1.append hp2).trans ?_
          rw [List.append_assoc, List.append_assoc]
          refine List.Perm.append_left _ ?_
          rw [← List.append_assoc, ← List.append_assoc]
          exact List.Perm.append_right _ List.perm_append_comm
        clear hp1 ha1 hb1 hg1 hM1
        go_upto_region 43 with fail
        go_cut [213] from 206 to 213 (fun cv wx => cv = .bool (decide (mid < en ∧ en < b)) ∧ wx = w3)
        case first =>
          by_cases c1 : mid < en
          · have c1I : (mid : Int) < (en : Int) := by omega
            by_cases c2 : en < b
            · have c2I : (en : Int) < (b : Int) := by omega
              go_wp2
              go_meet
              case rel => exact ⟨by simp [c1, c2], rfl⟩
            · have c2I : ¬ ((en : Int) < (b : Int)) := by omega
              go_wp2
              go_meet
              case rel => exact ⟨by simp [c1, c2], rfl⟩
          · have c1I : ¬ ((mid : Int) < (en : Int)) := by omega
            go_wp2
            go_meet
            case rel => exact ⟨by simp [c1], rfl⟩
        case rest =>
        obtain ⟨rfl, hwc⟩ := hcut
        obtain rfl : w3 = wc := hwc.symm
        go_upto_if 213 with fail
        by_cases hse : mid < en ∧ en < b
        · have hrb : decide (mid < en ∧ en < b) = true := by simpa using hse
          obtain ⟨f1, f2, f3, f4⟩ := HT.out.2.1
          obtain ⟨s1, s2, s3, s4⟩ := HT.out.2.2.1
          have hal := HB3.out.2.2.2.2.1
          have hro := HIH.out w3 (A ++ M1) L2 R2 Z (mid : Int) (en : Int) (b : Int) (by omega) (by omega) (by omega) HB3.out.2.2.1 HB3.out.2.2.2.2.2 s2 s4 HTG.out.2.1 HTG.out.2.2.2.1 HTG.out.2.2.2.2.2 (by omega) (by omega) (by omega)
          clear f1 f2 f3 f4 s1 s2 s3 s4 hal
          simp only [hrb]
          go_wp2_with fail
          refine hro.mono ?_
          rintro e' w4 ⟨rfl, M2, hp2, ha2, hb2, hg2⟩
          have HB4 : Hid ((M1 ++ M2).Perm (L ++ R) ∧ Asc (M1 ++ M2) ∧ BlkT w4 g cap (A ++ (M1 ++ M2) ++ Z) ∧ w.grownBy w4 (some g)) := ⟨(HFIN.out M2 hp2 ha2).1, (HFIN.out M2 hp2 ha2).2, by simpa using hb2, gr_trans HB3.out.2.2.2.1 hg2⟩
          clear hro hb2 hg2 hp2 ha2
          go_wp2
          go_end0
          exact ⟨rfl, M1 ++ M2, HB4.out.1, HB4.out.2.1, (by first | exact HB4.out.2.2.1 | (have := HB4.out.2.2.1; simpa using this)), HB4.out.2.2.2⟩
        · have hrb : decide (mid < en ∧ en < b) = false := by simpa using hse
          have hasc : Asc (L2 ++ R2) := by
            obtain ⟨f1, f2, f3, f4⟩ := HT.out.2.1
            obtain ⟨s1, s2, s3, s4⟩ := HT.out.2.2.1
            by_cases c1 : mid < en
            · have : R2 = [] := List.length_eq_zero_iff.1 (by omega)
              subst this; simpa using s2
            · have : L2 = [] := List.length_eq_zero_iff.1 (by omega)
              subst this; simpa using s4
          have HB4 : Hid ((M1 ++ (L2 ++ R2)).Perm (L ++ R) ∧ Asc (M1 ++ (L2 ++ R2)) ∧ BlkT w3 g cap (A ++ (M1 ++ (L2 ++ R2)) ++ Z) ∧ w.grownBy w3 (some g)) := ⟨(HFIN.out _ (List.Perm.refl _) hasc).1, (HFIN.out _ (List.Perm.refl _) hasc).2, by have := HB3.out.2.2.1; simpa using this, HB3.out.2.2.2.1⟩
          clear hasc
          simp only [hrb]
          go_wp2
          go_end0
          exact ⟨rfl, M1 ++ (L2 ++ R2), HB4.out.1, HB4.out.2.1, (by first | exact HB4.out.2.2.1 | (have := HB4.out.2.2.1; simpa using this)), HB4.out.2.2.2⟩

theorem sm_any (g cap n : Nat) (hmax : n ≤ 1000000) : ∀ N, SmSaid g cap n N
  | 0 => fun w A L R Z ia im ib h hl hr => by omega
  | N + 1 => fun w A L R Z ia im ib h hl hr hb hn hL hR htag hokL hokR h1 h2 h3 => by
    by_cases c1 : L.length = 1
    · obtain ⟨x, rfl⟩ := List.length_eq_one_iff.1 c1
      exact sm_left w g cap n A R Z x ia im ib hb hn hmax hR (fun y hy => htag x (by simp) y hy) (hokL x (by simp)) hokR h1 (by simpa using h2) (by simpa using h3)
    · by_cases c2 : R.length = 1
      · obtain ⟨y, rfl⟩ := List.length_eq_one_iff.1 c2
        exact sm_right w g cap n A L Z y ia im ib hb hn hmax hL (by omega) (fun x hx => htag x hx y (by simp)) (hokR y (by simp)) hokL h1 h2 (by simpa using h3)
      · exact sm_step w g cap n N (sm_any g cap n hmax N) A L R Z ia im ib h (by omega) (by omega) hb hn hmax hL hR htag hokL hokR h1 h2 h3
end Go.Proofs.YtlaihgdfedalmaaGreat.T
namespace Go.Proofs.YtlaihgdfedalmaaGreat.T
open Go.RowKit Go.Sort
set_option linter.unusedVariables false
set_option linter.unusedSimpArgs false

theorem tags_app {A B : List Tg} (h : Tags (A ++ B)) : Tags A ∧ Tags B ∧ ∀ x ∈ A, ∀ y ∈ B, x.2 < y.2 := List.pairwise_append.1 h
theorem perm_lt {F F0 T : List Tg} (hp : F.Perm F0) (h : ∀ x ∈ F0, ∀ y ∈ T, x.2 < y.2) : ∀ x ∈ F, ∀ y ∈ T, x.2 < y.2 := fun x hx y hy => h x (hp.mem_iff.1 hx) y hy

set_option maxRecDepth 10000 in
set_option maxHeartbeats 2000000 in
theorem stable_any (w : World) (g cap n : Nat) (D : List Tg) (hb : BlkT w g cap D) (hn : D.length = n) (hmax : n ≤ 1000000) (htag : Tags D) (hok : OkT D) :
    Calls Tryz.prog 169 #[.slice (some ⟨g, 0, none⟩) n cap, .int .i64 (n : Nat), .func (.func 143) #[] #[]] w fun e w' => e = .returned (.tuple #[]) ∧ ∃ M, M.Perm D ∧ Asc M ∧ BlkT w' g cap M ∧ w.grownBy w' (some g) := by
  have HN : Hid (D.length = n) := hn
  have HD : Hid (Tags D ∧ OkT D) := ⟨htag, hok⟩
  have HB0 : Hid (BlkT w g cap ([] ++ D)) := hb
  clear hb hn htag hok
  go_enter Tryz.func169, Tryz.ntmps169
  go_wp2_with fail
  go_loopw [7, 8] (fun av bv wr => ∃ (f : Nat) (F F0 T : List Tg), av = .int .i64 (f : Nat) ∧ bv = .int .i64 ((f : Int) + 20) ∧ F.length = f ∧ D = F0 ++ T ∧ F.Perm F0 ∧ App 20 F ∧ BlkT wr g cap (F ++ T) ∧ w.grownBy wr (some g)) (fun av _ _ => n - (intOf av).toNat)
  case atStart => exact ⟨0, [], [], D, rfl, rfl, rfl, rfl, List.Perm.refl _, App.nil _, HB0.out, gr_refl _ _⟩
  case round =>
    clear HB0
    obtain ⟨f, F, F0, T, rfl, rfl, hf, hD, hp, happ, hblk, hgr⟩ := hrel
    have hlen : f + T.length = n := by have := HN.out; rw [hD, List.length_append, ← hp.length_eq] at this; omega
    by_cases hle : f + 20 ≤ n
    · have hleI : (f : Int) + 20 ≤ (n : Int) := by omega
      obtain ⟨C, T', rfl, hC⟩ : ∃ C T', T = C ++ T' ∧ C.length = 20 := ⟨T.take 20, T.drop 20, by simp, by rw [List.length_take]; omega⟩
      have ht := HD.out.1
      rw [hD] at ht
      obtain ⟨_, ht2, ht3⟩ := tags_app ht
      obtain ⟨ht4, _, ht5⟩ := tags_app ht2
      have hins := insertion_any wr g cap n F C T' (f : Int) ((f : Int) + 20) (by simpa using hblk) (by simp at hlen ⊢; omega) hmax ht4 (fun x hx => HD.out.2 x (by rw [hD]; simp [hx])) (by rw [hf]) (by rw [hf, hC]; push_cast; rfl)
      have HF : Hid (F.length = f ∧ D = F0 ++ (C ++ T') ∧ F.Perm F0 ∧ App 20 F ∧ w.grownBy wr (some g) ∧ C.length = 20 ∧ (∀ x ∈ F, ∀ y ∈ C, x.2 < y.2)) := ⟨hf, hD, hp, happ, hgr, hC, perm_lt hp (fun x hx y hy => ht3 x hx y (by simp [hy]))⟩
      clear ht ht2 ht3 ht4 ht5 hblk hf hD hp happ hgr hlen hC
      go_wp2_with fail
      refine hins.mono ?_
      rintro e w1 ⟨rfl, C', hpc, hac, hb1, hg1⟩
      have HK : Hid ((F ++ C').length = f + 20 ∧ D = (F0 ++ C) ++ T' ∧ (F ++ C').Perm (F0 ++ C) ∧ App 20 (F ++ C') ∧ BlkT w1 g cap ((F ++ C') ++ T') ∧ w.grownBy w1 (some g)) := by
        obtain ⟨a1, a2, a3, a4, a5, a6, a7⟩ := HF.out
        refine ⟨by rw [List.length_append, hpc.length_eq]; omega, by rw [a2]; simp, a3.append hpc, a4.snoc (fun x hx y hy => a7 x hx y (hpc.mem_iff.1 hy)) hac (by rw [hpc.length_eq]; exact a6), hb1, gr_trans a5 hg1⟩
      clear hins hpc hac hb1 hg1 HF
      go_wp2
      go_roundw
      case rel =>
        have key : ∃ (f' : Nat) (F F0 T : List Tg), (Value.int .i64 ((f : Int) + 20)) = .int .i64 (f' : Nat) ∧ (Value.int .i64 ((f : Int) + 20 + 20)) = .int .i64 ((f' : Int) + 20) ∧ F.length = f' ∧ D = F0 ++ T ∧ F.Perm F0 ∧ App 20 F ∧ BlkT w1 g cap (F ++ T) ∧ w.grownBy w1 (some g) :=
          ⟨f + 20, F ++ C', F0 ++ C, T', by push_cast; rfl, by push_cast; rfl, HK.out.1, HK.out.2.1, HK.out.2.2.1, HK.out.2.2.2.1, HK.out.2.2.2.2.1, HK.out.2.2.2.2.2⟩
        first | exact key | ((repeat apply Exists.intro); exact ⟨key, rfl⟩)
      case measure => simp [intOf]; omega
    · have hleI : ¬ ((f : Int) + 20 ≤ (n : Int)) := by omega
      have ht := HD.out.1
      rw [hD] at ht
      obtain ⟨_, ht2, ht3⟩ := tags_app ht
      have hins := insertion_any wr g cap n F T [] (f : Int) (n : Int) (by simpa using hblk) (by simp; omega) hmax ht2 (fun x hx => HD.out.2 x (by rw [hD]; simp [hx])) (by rw [hf]) (by rw [hf]; omega)
      have HF : Hid (D = F0 ++ T ∧ F.Perm F0 ∧ App 20 F ∧ w.grownBy wr (some g) ∧ T.length ≤ 20 ∧ (∀ x ∈ F, ∀ y ∈ T, x.2 < y.2)) := ⟨hD, hp, happ, hgr, by omega, perm_lt hp ht3⟩
      clear ht ht2 ht3 hblk hf hD hp happ hgr hlen
      go_wp2_with fail
      refine hins.mono ?_
      rintro e w1 ⟨rfl, T', hpc, hac, hb1, hg1⟩
      have HK : Hid ((F ++ T').Perm D ∧ Ch 20 (F ++ T') ∧ BlkT w1 g cap (F ++ T') ∧ w.grownBy w1 (some g)) := by
        obtain ⟨a2, a3, a4, a5, a6, a7⟩ := HF.out
        refine ⟨by rw [a2]; exact a3.append hpc, a4 _ (fun x hx y hy => a7 x hx y (hpc.mem_iff.1 hy)) (Ch.last _ hac (by rw [hpc.length_eq]; exact a6)), by simpa using hb1, gr_trans a5 hg1⟩
      clear hins hpc hac hb1 hg1 HF hle hleI
      obtain ⟨M0, hM0⟩ : ∃ M0, F ++ T' = M0 := ⟨_, rfl⟩
      rw [hM0] at HK
      clear hM0
      go_wp2_with fail
      go_loopw [6, 7, 8, 9] (fun kv _ _ _ wr => ∃ (k : Nat) (M : List Tg), kv = .int .i64 (k : Nat) ∧ 20 ≤ k ∧ M.Perm D ∧ Ch k M ∧ BlkT wr g cap M ∧ w.grownBy wr (some g)) (fun kv _ _ _ _ => n - (intOf kv).toNat)
      case atStart => exact ⟨20, M0, rfl, by omega, HK.out.1, HK.out.2.1, HK.out.2.2.1, HK.out.2.2.2⟩
      case round =>
        clear HK
        obtain ⟨k, M, rfl, hk20, hpM, hch, hblk, hgr⟩ := hrel
        by_cases hkn : k < n
        · have hknI : (k : Int) < (n : Int) := by omega
          obtain ⟨k2, hk2⟩ : ∃ k2 : Nat, 2 * k = k2 := ⟨_, rfl⟩
          have hk2I : (2 : Int) * (k : Int) = (k2 : Int) := by omega
          have hk2J : (k : Int) * 2 = (k2 : Int) := by omega
          have hk2a : 2 * k ≤ k2 := by omega
          have hk2b : k2 ≤ 2 * k := by omega
          clear hk2
          have HK2 : Hid (M.Perm D ∧ Ch k M ∧ BlkT wr g cap ([] ++ M) ∧ w.grownBy wr (some g)) := ⟨hpM, hch, hblk, hgr⟩
          clear hpM hch hblk hgr
          go_wp2_with fail
          go_loopw [7, 8] (fun av bv wr => ∃ (f : Nat) (F T : List Tg), av = .int .i64 (f : Nat) ∧ bv = .int .i64 ((f : Int) + (k2 : Int)) ∧ F.length = f ∧ (F ++ T).Perm D ∧ App k2 F ∧ Ch k T ∧ (∀ x ∈ F, ∀ y ∈ T, x.2 < y.2) ∧ BlkT wr g cap (F ++ T) ∧ w.grownBy wr (some g)) (fun av _ _ => n - (intOf av).toNat)
          case atStart => exact ⟨0, [], M, rfl, by simp, rfl, HK2.out.1, App.nil _, HK2.out.2.1, by simp, HK2.out.2.2.1, HK2.out.2.2.2⟩
          case round =>
            clear HK2
            obtain ⟨f, F, T, rfl, rfl, hf, hp, happ, hch, hFT, hblk, hgr⟩ := hrel
            have hlen : f + T.length = n := by have := HN.out; rw [← hp.length_eq, List.length_append] at this; omega
            by_cases hle : f + k2 ≤ n
            · have hleI : (f : Int) + (k2 : Int) ≤ (n : Int) := by omega
              obtain ⟨c, r, rfl, hac, hlc, hcr, hchr⟩ := hch.first (by omega)
              obtain ⟨d, r', rfl, had, hld, hdr, hchr'⟩ := hchr.first (by rw [List.length_append] at hlen; omega)
              have hsm := sm_any g cap n hmax (c.length + d.length) wr F c d r' (f : Int) ((f : Int) + (k : Int)) ((f : Int) + (k2 : Int)) (by omega) (by omega) (by omega) (by simpa using hblk) (by simp at hlen ⊢; omega) hac had (fun x hx y hy => hcr x hx y (by simp [hy])) (fun x hx => HD.out.2 x (hp.mem_iff.1 (by simp [hx]))) (fun x hx => HD.out.2 x (hp.mem_iff.1 (by simp [hx]))) (by rw [hf]) (by rw [hf, hlc]; push_cast; rfl) (by rw [hf, hlc, hld]; push_cast; omega)
              have HF : Hid (F.length = f ∧ (F ++ (c ++ (d ++ r'))).Perm D ∧ App k2 F ∧ Ch k r' ∧ (∀ x ∈ F, ∀ y ∈ c ++ (d ++ r'), x.2 < y.2) ∧ (∀ x ∈ c, ∀ y ∈ d ++ r', x.2 < y.2) ∧ (∀ x ∈ d, ∀ y ∈ r', x.2 < y.2) ∧ w.grownBy wr (some g) ∧ c.length = k ∧ d.length = k) := ⟨hf, hp, happ, hchr', hFT, hcr, hdr, hgr, hlc, hld⟩
              clear hf hp happ hch hFT hblk hgr hlen hac hlc hcr hchr had hld hdr hchr'
              go_wp2_with fail
              refine hsm.mono ?_
              rintro e w1 ⟨rfl, C', hpc, hac, hb1, hg1⟩
              have HK : Hid ((F ++ C').length = f + k2 ∧ ((F ++ C') ++ r').Perm D ∧ App k2 (F ++ C') ∧ Ch k r' ∧ (∀ x ∈ F ++ C', ∀ y ∈ r', x.2 < y.2) ∧ BlkT w1 g cap ((F ++ C') ++ r') ∧ w.grownBy w1 (some g)) := by
                obtain ⟨a1, a2, a3, a4, a5, a6, a7, a8, a9, a10⟩ := HF.out
                have hCl : C'.length = k2 := by rw [hpc.length_eq, List.length_append]; omega
                refine ⟨by rw [List.length_append]; omega, ?_, a3.snoc (fun x hx y hy => a5 x hx y ?_) hac hCl, a4, fun x hx y hy => ?_, hb1, gr_trans a8 hg1⟩
                · refine List.Perm.trans ?_ a2
                  rw [List.append_assoc]
                  refine List.Perm.append_left _ ?_
                  rw [← List.append_assoc c]
                  exact List.Perm.append_right _ hpc
                · have := hpc.mem_iff.1 hy
                  simp at this ⊢
                  rcases this with h | h
                  · exact .inl h
                  · exact .inr (.inl h)
                · rw [List.mem_append] at hx
                  rcases hx with hx | hx
                  · exact a5 x hx y (by simp [hy])
                  · have := hpc.mem_iff.1 hx
                    rw [List.mem_append] at this
                    rcases this with h | h
                    · exact a6 x h y (by simp [hy])
                    · exact a7 x h y hy
              clear hsm hpc hac hb1 hg1 HF
              go_wp2
              go_roundw
              case rel =>
                have key : ∃ (f' : Nat) (F T : List Tg), (Value.int .i64 ((f : Int) + (k2 : Int))) = .int .i64 (f' : Nat) ∧ (Value.int .i64 ((f : Int) + (k2 : Int) + (k2 : Int))) = .int .i64 ((f' : Int) + (k2 : Int)) ∧ F.length = f' ∧ (F ++ T).Perm D ∧ App k2 F ∧ Ch k T ∧ (∀ x ∈ F, ∀ y ∈ T, x.2 < y.2) ∧ BlkT w1 g cap (F ++ T) ∧ w.grownBy w1 (some g) :=
                  ⟨f + k2, F ++ C', r', by push_cast; rfl, by push_cast; rfl, HK.out⟩
                first | exact key | ((repeat apply Exists.intro); exact ⟨key, rfl⟩)
              case measure => simp [intOf]; omega
            · have hleI : ¬ ((f : Int) + (k2 : Int) ≤ (n : Int)) := by omega
              by_cases hm : f + k < n
              · have hmI : (f : Int) + (k : Int) < (n : Int) := by omega
                obtain ⟨c, r, rfl, hac, hlc, hcr, hchr⟩ := hch.two (by omega)
                have hrl : r.length ≤ k := by rw [List.length_append] at hlen; omega
                have hsm := sm_any g cap n hmax (c.length + r.length) wr F c r [] (f : Int) ((f : Int) + (k : Int)) (n : Int) (by omega) (by omega) (by rw [List.length_append] at hlen; omega) (by simpa using hblk) (by simp at hlen ⊢; omega) hac (hchr.one hrl) hcr (fun x hx => HD.out.2 x (hp.mem_iff.1 (by simp [hx]))) (fun x hx => HD.out.2 x (hp.mem_iff.1 (by simp [hx]))) (by rw [hf]) (by rw [hf, hlc]; push_cast; rfl) (by rw [hf, hlc]; rw [List.length_append] at hlen; omega)
                have HF : Hid ((F ++ (c ++ r)).Perm D ∧ App k2 F ∧ (∀ x ∈ F, ∀ y ∈ c ++ r, x.2 < y.2) ∧ w.grownBy wr (some g) ∧ (c ++ r).length ≤ k2) := ⟨hp, happ, hFT, hgr, by rw [List.length_append]; omega⟩
                clear hf hp happ hch hFT hblk hgr hlen hac hlc hcr hchr hrl
                go_wp2_with fail
                refine hsm.mono ?_
                rintro e w1 ⟨rfl, C', hpc, hac, hb1, hg1⟩
                have HK : Hid ((F ++ C').Perm D ∧ Ch k2 (F ++ C') ∧ BlkT w1 g cap (F ++ C') ∧ w.grownBy w1 (some g)) := by
                  obtain ⟨a2, a3, a5, a8, a9⟩ := HF.out
                  exact ⟨(List.Perm.append_left _ hpc).trans a2, a3 _ (fun x hx y hy => a5 x hx y (hpc.mem_iff.1 hy)) (Ch.last _ hac (by rw [hpc.length_eq]; exact a9)), by simpa using hb1, gr_trans a8 hg1⟩
                clear hsm hpc hac hb1 hg1 HF
                go_wp2
                go_roundw
                case rel =>
                  have key : ∃ (k' : Nat) (M : List Tg), (Value.int .i64 (k2 : Int)) = .int .i64 (k' : Nat) ∧ 20 ≤ k' ∧ M.Perm D ∧ Ch k' M ∧ BlkT w1 g cap M ∧ w.grownBy w1 (some g) := ⟨k2, F ++ C', rfl, by omega, HK.out⟩
                  first | exact key | ((repeat apply Exists.intro); exact ⟨key, rfl⟩)
                case measure => simp [intOf]; omega
              · have hmI : ¬ ((f : Int) + (k : Int) < (n : Int)) := by omega
                have HK : Hid ((F ++ T).Perm D ∧ Ch k2 (F ++ T) ∧ BlkT wr g cap (F ++ T) ∧ w.grownBy wr (some g)) := ⟨hp, happ _ hFT (Ch.last _ (hch.one (by omega)) (by omega)), hblk, hgr⟩
                clear hf hp happ hch hFT hblk hgr
                go_wp2
                go_roundw
                case rel =>
                  have key : ∃ (k' : Nat) (M : List Tg), (Value.int .i64 (k2 : Int)) = .int .i64 (k' : Nat) ∧ 20 ≤ k' ∧ M.Perm D ∧ Ch k' M ∧ BlkT wr g cap M ∧ w.grownBy wr (some g) := ⟨k2, F ++ T, rfl, by omega, HK.out⟩
                  first | exact key | ((repeat apply Exists.intro); exact ⟨key, rfl⟩)
                case measure => simp [intOf]; omega
        · have hknI : ¬ ((k : Int) < (n : Int)) := by omega
          have HE : Hid (M.Perm D ∧ Asc M ∧ BlkT wr g cap M ∧ w.grownBy wr (some g)) := ⟨hpM, hch.one (by rw [hpM.length_eq, HN.out]; omega), hblk, hgr⟩
          clear hpM hch hblk hgr
          go_wp2
          go_end0
          exact ⟨rfl, M, HE.out⟩

set_option maxRecDepth 10000 in
/-- What Join sorts: the first stay ahead of their like. -/
theorem sort_any (w : World) (g cap n : Nat) (D : List Tg) (hb : BlkT w g cap D) (hn : D.length = n) (hmax : n ≤ 1000000) (htag : Tags D) (hok : OkT D) :
    Calls Tryz.prog 142 #[.slice (some ⟨g, 0, none⟩) n cap, .func (.func 143) #[] #[]] w fun e w' => e = .returned (.tuple #[]) ∧ ∃ M, M.Perm D ∧ Asc M ∧ BlkT w' g cap M ∧ w.grownBy w' (some g) := by
  have hst := stable_any w g cap n D hb hn hmax htag hok
  clear hb hn htag hok
  go_enter Tryz.func142, Tryz.ntmps142
  go_wp2_with fail
  refine hst.mono ?_
  rintro e w1 ⟨rfl, M, h1, h2, h3, h4⟩
  clear hst
  go_wp2
  go_end0
  exact ⟨rfl, M, h1, h2, h3, h4⟩
end Go.Proofs.YtlaihgdfedalmaaGreat.T

/-
  slices.Grow and slices.Concat of entries.
-/
namespace Go.Proofs.YtlaihgdfedalmaaGreat.T
open Go.RowKit Go.Sort
set_option linter.unusedVariables false

/-- Entries in memory, but their messages. -/
def XR (w : World) (ao : Option Addr) (n : Nat) (xs : List Sx) : Prop :=
  xs.length = n ∧ (0 < n → ∃ b off, ao = some ⟨b, off, none⟩ ∧ ∀ j x, xs[j]? = some x → C5 w b (off + j * 5) x)
theorem XR.up {w w' : World} {ao : Option Addr} {n : Nat} {xs : List Sx} (h : XR w ao n xs) (u : Below w.heap.size w w') : XR w' ao n xs := by
  refine ⟨h.1, fun hn => ?_⟩
  obtain ⟨b, off, e, hc⟩ := h.2 hn
  refine ⟨b, off, e, fun j x hj => ?_⟩
  obtain ⟨c0, c1, c2, c3, c4⟩ := hc j x hj
  exact ⟨bl_cell u c0, bl_cell u c1, bl_cell u c2, bl_cell u c3, bl_cell u c4⟩
theorem flat_at : ∀ (xs : List Sx) (i : Nat) (u : Value), (flat xs)[i]? = some u → ∃ x, xs[i / 5]? = some x ∧ (cellsS x)[i % 5]? = some u := fun xs i u h => by
  have hi := (List.getElem?_eq_some_iff.1 h).1
  rw [flat_len] at hi
  have hj : i / 5 < xs.length := by omega
  refine ⟨xs[i / 5], List.getElem?_eq_getElem hj, ?_⟩
  have := flat_get xs (i / 5) _ (i % 5) (List.getElem?_eq_getElem hj) (Nat.mod_lt _ (by omega))
  rw [show 5 * (i / 5) + i % 5 = i by omega, h] at this
  exact this.symm
theorem XR.cells {w : World} {ad : Addr} {n : Nat} {xs : List Sx} (h : XR w (some ad) n xs) : ∀ j u, (flat xs)[j]? = some u → w.cell? (ad.add j) = some u := fun j u hu => by
  obtain ⟨x, hx, hc⟩ := flat_at xs j u hu
  have hn : 0 < n := by
    have := (List.getElem?_eq_some_iff.1 hx).1
    have := h.1
    omega
  obtain ⟨b, off, e, hcs⟩ := h.2 hn
  cases e
  obtain ⟨c0, c1, c2, c3, c4⟩ := hcs _ x hx
  rw [Addr.add_lit]
  have hm : j % 5 < 5 := Nat.mod_lt _ (by omega)
  have key : ∀ k, j % 5 = k → off + j = off + j / 5 * 5 + k := fun k hk => by omega
  have h5 : j % 5 = 0 ∨ j % 5 = 1 ∨ j % 5 = 2 ∨ j % 5 = 3 ∨ j % 5 = 4 := by omega
  rcases h5 with e | e | e | e | e <;> rw [e] at hc <;> simp [cellsS] at hc <;> subst hc <;> rw [key _ e]
  · simpa using c0
  · exact c1
  · exact c2
  · exact c3
  · exact c4
theorem run_append_zeros (n : Nat) (h0 : 0 < n) (hn : n ≤ 100000) (ty : TypeId) (w : World) : ∃ cap cur, Sem.run Tryz.prog (Builtin.append_ #[42, 3] ty #[.slice none 0 0, .int .i64 (n : Nat)]) w = .ok (.slice (some ⟨w.heap.size, 0, none⟩) n cap) (w.drew.alloc (.cells cur 41)) ∧ cur.size = cap * 5 ∧ n ≤ cap ∧ cap ≤ maxLen := by
  obtain ⟨i, hi, hz, hz1, hz2⟩ := info_parts infoE29
  have hn0 : n ≠ 0 := by omega
  have h63' : ¬ (9223372036854775807 < (n : Int)) := by omega
  have h48' : ¬ (281474976710656 < Builtin.nextslicecap n 0 * i.bytes) := by rw [nextslicecap_zero h0, hz2]; omega
  have hw : IntKind.i64.wrap (n : Int) = n := by simp [IntKind.wrap, IntKind.bits, IntKind.signed]; omega
  have hneg : ¬ ((n : Int) < 0) := by omega
  have hbig : ¬ (281474976710656 < (n : Int) * (i.bytes : Int)) := by rw [hz2]; omega
  have ha : ∀ W, Sem.run Tryz.prog (asIntOf (.int .i64 (n : Nat))) W = .ok (.i64, (n : Int)) W := fun _ => rfl
  refine ⟨grownCap w n 0 41, Builtin.zeroCells (Value.agg #[.int .u64 0, .int .i64 0, .int .u64 0, .int .i64 0, .slice none 0 0]).cells n ++ Builtin.zeroCells (Value.agg #[.int .u64 0, .int .i64 0, .int .u64 0, .int .i64 0, .slice none 0 0]).cells (grownCap w n 0 41 - n), ?_, ?_, grownCap_ge _ _ _ _, grownCap_le_maxLen _ _ _ _ (by unfold maxLen; omega)⟩
  · simp [Builtin.append_, run_underlying und35, run_underlying Tryz.underlying3, sizeOf, typeInfo, zeroValue, hi, hz, hz1, asInt, ha, hw, hneg, hbig, hn0, h63', h48', Question.forced, run_firstCells_none, newRow, grownCap]
    intro h4
    omega
  · have := grownCap_ge w n 0 41
    rw [Array.size_append, size_zeroCells, size_zeroCells]
    simp [Value.cells]
    omega

/-- An append by its run. -/
theorem wpList_append_run {P : Program} {w : World} {ops : Array Oper} {rest : List Oper} {o : Oper} {a : Act} {Q : Exit → Act → World → Prop} (hgd : o.guard = none) (s x : Operand) (t u : TypeId)
    (ho : o.op = .call { callee := .builtin .append, args := #[s, x], argTypes := #[t, u] }) (v y v' : Value) (w' : World) (hs : a.eval s = v) (hx : a.eval x = y) (hrun : (Builtin.append_ #[t, u] o.type #[v, y]).run P w = .ok v' w')
    (h : wpList P ops Q rest (a.put o.dst v') w') : wpList P ops Q (o :: rest) a w := by
  refine wpList_plain hgd fun K hK => ?_
  unfold Oper.wp execOp
  simp only [ho, resolve, invoke, builtin, Sem.run_bind, Sem.run_pure, Result.andThen_ok, List.map_toArray, List.map_cons, List.map_nil, hs, hx, hrun]
  exact hK _ _ h
set_option maxRecDepth 10000 in
set_option maxHeartbeats 1000000 in
theorem grow_any (w : World) (n : Nat) (hn : n ≤ 100000) : Calls Tryz.prog 168 #[.slice none 0 0, .int .i64 (n : Nat)] w fun e w' => ∃ v, e = .returned v ∧ w'.ownsRow w.heap.size 41 5 v 0 [] ∧ Below w.heap.size w w' := by
  by_cases h0 : n = 0
  · subst h0
    go_enter Tryz.func168, Tryz.ntmps168
    go_wp2
    go_ret
    exact ⟨_, rfl, World.ownsRow_nil _ _ _ _, Below.refl _ _⟩
  · have h0I : (0 : Int) < (n : Int) := by omega
    have hneg : ¬ ((n : Int) < 0) := by omega
    obtain ⟨cap, cur, hrun, hcs, hnc, hcm⟩ := run_append_zeros n (by omega) hn 42 w
    have HE : Hid ((w.drew.alloc (.cells cur 41)).ownsRow w.heap.size 41 5 (.slice (some ⟨w.heap.size, 0, none⟩) 0 cap) 0 [] ∧ Below w.heap.size w (w.drew.alloc (.cells cur 41))) :=
      ⟨World.ownsRow_made w.drew cur cap (Nat.le_refl _) hcm hcs, (Below.refl _ w).drew.alloc (Nat.le_refl _) _⟩
    clear hcs
    go_enter Tryz.func168, Tryz.ntmps168
    go_wp2_with (at_builtin; refine wpList_append_run rfl _ _ 42 3 rfl _ _ _ _ rfl rfl hrun ?_)
    go_ret
    exact ⟨_, rfl, HE.out⟩

/-- Any labels behind a row of one's own. -/
theorem wpList_append_XR {w : World} {ops : Array Oper} {rest : List Oper} {o : Oper} {a : Act} {Q : Exit → Act → World → Prop} (hgd : o.guard = none) (s x : Operand)
    (ho : o.op = .call { callee := .builtin .append, args := #[s, x], argTypes := #[42, 42] }) (base : Nat)
    (v : Value) (n : Nat) (xs : List Sx) (hs : a.eval s = v) (hown : w.ownsRow base 41 5 v n (flat xs))
    (bo : Option Addr) (m c : Nat) (ms : List Sx) (hx : a.eval x = .slice bo m c) (hu : XR w bo m ms) (hz : bo = none → m = 0 ∧ c = 0)
    (hnm : n + m ≤ 1000000) (hbase : base ≤ w.heap.size)
    (h : ∀ v' w', w'.ownsRow base 41 5 v' (n + m) (flat (xs ++ ms)) → w.grownBy w' v.ownBlock → wpList Tryz.prog ops Q rest (a.put o.dst v') w') :
    wpList Tryz.prog ops Q (o :: rest) a w := by
  obtain ⟨i0, hi0, hz0, hz1, hz2⟩ := info_parts infoE29
  cases bo with
  | none =>
    obtain ⟨rfl, rfl⟩ := hz rfl
    obtain rfl : ms = [] := List.length_eq_zero_iff.1 hu.1
    refine wpList_append_own_none hgd s x 42 ho base 41 i0 5 und35 hi0 v n (flat xs) hs hown hx ?_
    exact h v w (by simpa using hown) ⟨rfl, rfl, rfl, Nat.le_refl _, fun _ _ _ => rfl⟩
  | some ad =>
    refine wpList_append_own_at _ hgd s x 42 ho base 41 i0 (.agg #[.int .u64 0, .int .i64 0, .int .u64 0, .int .i64 0, .slice none 0 0]) 5 56 und35 hi0 hz0 hz1 hz2 rfl (by decide) v n (flat xs) hs hown ad m c (flat ms) hx (by rw [flat_len, hu.1]) hu.cells (fun u hu' => flat_one hu') (by unfold maxLen; omega) (by omega) hbase (fun v' w' a b _ _ => h v' w' (by rw [flat_app]; exact a) b)

set_option maxRecDepth 10000 in
set_option maxHeartbeats 2000000 in
theorem concat_any (w : World) (B : Nat) (ao : Option Addr) (n cap : Nat) (ls : List Sx) (hA : XR w ao n ls) (hz : ao = none → n = 0 ∧ cap = 0) (bo : Option Addr) (m cbp : Nat) (ms : List Sx) (hM : XR w bo m ms) (hzm : bo = none → m = 0 ∧ cbp = 0) (hn : n + m ≤ 100000)
    (h0 : w.cell? ⟨B, 0, none⟩ = some (.slice ao n cap)) (h1 : w.cell? ⟨B, 1, none⟩ = some (.slice bo m cbp)) :
    Calls Tryz.prog 141 #[.slice (some ⟨B, 0, none⟩) 2 2] w fun e w' => ∃ v, e = .returned v ∧ w'.ownsRow w.heap.size 41 5 v (n + m) (flat (ls ++ ms)) ∧ Below w.heap.size w w' := by
  have hgr := fun W => grow_any W (n + m) (by omega)
  have hneg : ¬ ((n : Int) < 0) := by omega
  have hneg2 : ¬ ((n : Int) + (m : Int) < 0) := by omega
  have hcast : ((n + m : Nat) : Int) = (n : Int) + (m : Int) := by omega
  rw [hcast] at hgr
  clear hcast
  have HA : Hid (XR w ao n ls) := hA
  have HM : Hid (XR w bo m ms) := hM
  clear hA hM
  go_enter Tryz.func141, Tryz.ntmps141
  go_wp2
  refine wp_loop_rounds 3 ?_
  rw [rounds_succ]
  go_wp2
  rw [rounds_succ]
  go_wp2
  rw [rounds_succ]
  go_wp2_with fail
  refine (hgr _).mono ?_
  rintro e w1 ⟨v, rfl, hown, hb1⟩
  have c0 := (hb1.cell (World.block_lt_of_cell? w _ h0)).trans h0
  have c1 := (hb1.cell (World.block_lt_of_cell? w _ h1)).trans h1
  have hA1 := HA.out.up hb1
  have hs1 := hb1.size
  clear hgr
  go_wp2
  refine wp_loop_rounds 3 ?_
  rw [rounds_succ]
  go_wp2_with (at_builtin; refine wpList_append_XR rfl _ _ rfl w.heap.size _ 0 [] rfl ?d1 ao n cap ls rfl ?d2 hz ?d3 ?d4 ?_)
  case d1 => exact hown
  case d2 => exact hA1
  case d3 => omega
  case d4 => exact hs1
  intro v2 w2 hown2 hg2
  have hne : ∀ k, v.ownBlock = some k → w.heap.size ≤ k := fun k hk => (hown.lt k hk).1
  have hb2 : Below w.heap.size w w2 := bl_grown hb1 hs1 hg2 hne
  have d0 := (hb2.cell (World.block_lt_of_cell? w _ h0)).trans h0
  have d1 := (hb2.cell (World.block_lt_of_cell? w _ h1)).trans h1
  have hM2 := HM.out.up hb2
  have hs2 := hb2.size
  clear hown hg2 hne hA1 c0 c1 hb1 hs1
  go_wp2
  rw [rounds_succ]
  go_wp2_with (at_builtin; refine wpList_append_XR rfl _ _ rfl w.heap.size _ n ls rfl ?d1 bo m cbp ms rfl ?d2 hzm ?d3 ?d4 ?_)
  case d1 => exact hown2
  case d2 => exact hM2
  case d3 => omega
  case d4 => exact hs2
  intro v3 w3 hown3 hg3
  have hne : ∀ k, v2.ownBlock = some k → w.heap.size ≤ k := fun k hk => (hown2.lt k hk).1
  have hb3 : Below w.heap.size w w3 := bl_grown hb2 hs2 hg3 hne
  have HE : Hid (w3.ownsRow w.heap.size 41 5 v3 (n + m) (flat (ls ++ ms)) ∧ Below w.heap.size w w3) := ⟨hown3, hb3⟩
  clear hown2 hown3 hg3 hne hM2 d0 d1 hb2 hs2 hb3
  go_wp2
  rw [rounds_succ]
  go_wp2
  go_ret
  exact ⟨v3, rfl, HE.out⟩
end Go.Proofs.YtlaihgdfedalmaaGreat.T

/-
  What is sorted, the first of each label, is what the document merges.
-/
namespace Go.Proofs.YtlaihgdfedalmaaGreat
open Go.RowKit
set_option linter.unusedVariables false
set_option linter.unusedSimpArgs false

theorem findE_some_iff {l : List En} {x : Lb} : (findE l x).isSome = true ↔ ∃ e ∈ l, e.1 = x := by
  unfold findE
  rw [Option.isSome_map, List.find?_isSome]
  simp
theorem mstep_mem (l : List En) (e z : En) : z ∈ mstep l e ↔ z ∈ l ∨ (z = e ∧ ∀ y ∈ l, y.1 ≠ e.1) := by
  unfold mstep
  split
  · rename_i h
    obtain ⟨y, hy, he⟩ := findE_some_iff.1 h
    constructor
    · exact .inl
    · rintro (h | ⟨_, h⟩)
      · exact h
      · exact absurd he (h y hy)
  · rename_i h
    rw [insR_mem]
    have hn : ∀ y ∈ l, y.1 ≠ e.1 := fun y hy hh => h (findE_some_iff.2 ⟨y, hy, hh⟩)
    constructor
    · rintro (h | h)
      · exact .inr ⟨h, hn⟩
      · exact .inl h
    · rintro (h | ⟨h, _⟩)
      · exact .inr h
      · exact .inl h
/-- Of each label the first one. -/
def Fst (es : List En) (z : En) : Prop := ∃ i : Nat, es[i]? = some z ∧ ∀ (j : Nat) (y : En), j < i → es[j]? = some y → y.1 ≠ z.1
theorem mergeE_snoc (l more : List En) (e : En) : mergeE l (more ++ [e]) = mstep (mergeE l more) e := by unfold mergeE; simp
theorem mergeE_lab : ∀ (k : Nat) (es : List En), es.length = k → ∀ x, (∃ z ∈ mergeE [] es, z.1 = x) ↔ ∃ z ∈ es, z.1 = x
  | 0, es, hk, x => by
    obtain rfl : es = [] := List.eq_nil_of_length_eq_zero hk
    simp [mergeE]
  | k + 1, es, hk, x => by
    obtain ⟨es', e, rfl⟩ : ∃ es' e, es = es' ++ [e] := ⟨es.dropLast, es.getLast (by intro h; subst h; simp at hk), (List.dropLast_concat_getLast _).symm⟩
    have hl : es'.length = k := by simpa using hk
    have ih := mergeE_lab k es' hl
    rw [mergeE_snoc]
    constructor
    · rintro ⟨z, hz, hx⟩
      rcases (mstep_mem _ e z).1 hz with h | ⟨rfl, _⟩
      · obtain ⟨y, hy, hyx⟩ := (ih x).1 ⟨z, h, hx⟩
        exact ⟨y, by simp [hy], hyx⟩
      · exact ⟨z, by simp, hx⟩
    · rintro ⟨z, hz, hx⟩
      rw [List.mem_append, List.mem_singleton] at hz
      rcases hz with hz | rfl
      · obtain ⟨y, hy, hyx⟩ := (ih x).2 ⟨z, hz, hx⟩
        exact ⟨y, (mstep_mem _ e y).2 (.inl hy), hyx⟩
      · by_cases h : ∃ y ∈ mergeE [] es', y.1 = z.1
        · obtain ⟨y, hy, hyz⟩ := h
          exact ⟨y, (mstep_mem _ z y).2 (.inl hy), hyz.trans hx⟩
        · exact ⟨z, (mstep_mem _ z z).2 (.inr ⟨rfl, fun y hy hh => h ⟨y, hy, hh⟩⟩), hx⟩
theorem mergeE_fst : ∀ (k : Nat) (es : List En), es.length = k → ∀ z, z ∈ mergeE [] es ↔ Fst es z
  | 0, es, hk, z => by
    obtain rfl : es = [] := List.eq_nil_of_length_eq_zero hk
    simp [mergeE, Fst]
  | k + 1, es, hk, z => by
    obtain ⟨es', e, rfl⟩ : ∃ es' e, es = es' ++ [e] := ⟨es.dropLast, es.getLast (by intro h; subst h; simp at hk), (List.dropLast_concat_getLast _).symm⟩
    have hl : es'.length = k := by simpa using hk
    have ih := mergeE_fst k es' hl
    rw [mergeE_snoc, mstep_mem, ih z]
    constructor
    · rintro (⟨i, hi, hf⟩ | ⟨rfl, hn⟩)
      · have hil := (List.getElem?_eq_some_iff.1 hi).1
        refine ⟨i, by rw [List.getElem?_append_left hil]; exact hi, fun j y hj hy => hf j y hj ?_⟩
        rw [List.getElem?_append_left (by omega)] at hy
        exact hy
      · refine ⟨es'.length, by simp, fun j y hj hy hyz => ?_⟩
        rw [List.getElem?_append_left hj] at hy
        obtain ⟨y', hy', e'⟩ := (mergeE_lab k es' hl z.1).2 ⟨y, List.mem_of_getElem? hy, hyz⟩
        exact hn y' hy' e'
    · rintro ⟨i, hi, hf⟩
      by_cases hil : i < es'.length
      · refine .inl ⟨i, by rw [List.getElem?_append_left hil] at hi; exact hi, fun j y hj hy => hf j y hj ?_⟩
        rw [List.getElem?_append_left (by omega)]
        exact hy
      · have hie : i = es'.length := by
          have := (List.getElem?_eq_some_iff.1 hi).1
          simp at this
          omega
        subst hie
        simp at hi
        subst hi
        refine .inr ⟨rfl, fun y hy hyz => ?_⟩
        obtain ⟨y', hy', e'⟩ := (mergeE_lab k es' hl e.1).1 ⟨y, hy, hyz⟩
        obtain ⟨j, hj, hje⟩ := List.getElem_of_mem hy'
        exact hf j y' hj (by rw [List.getElem?_append_left hj, ← hje]; exact List.getElem?_eq_getElem hj) e'
theorem asc_ext : ∀ {a b : List En}, Asc a → Asc b → (∀ z, z ∈ a ↔ z ∈ b) → a = b
  | [], [], _, _, _ => rfl
  | [], y :: r, _, _, h => by have := (h y).2 (by simp); simp at this
  | x :: r, [], _, _, h => by have := (h x).1 (by simp); simp at this
  | x :: r, y :: s, ha, hb, h => by
    have ha' := List.pairwise_cons.1 ha
    have hb' := List.pairwise_cons.1 hb
    have e : x = y := by
      have h1 := (h x).1 (by simp)
      have h2 := (h y).2 (by simp)
      rw [List.mem_cons] at h1 h2
      rcases h1 with h1 | h1
      · exact h1
      · rcases h2 with h2 | h2
        · exact h2.symm
        · exact absurd (ltL_trans (hb'.1 x h1) (ha'.1 y h2)) (ltL_irr _)
    subst e
    congr 1
    refine asc_ext ha'.2 hb'.2 (fun z => ⟨fun hz => ?_, fun hz => ?_⟩)
    · have := (h z).1 (by simp [hz])
      rw [List.mem_cons] at this
      rcases this with rfl | h
      · exact absurd (ha'.1 z hz) (ltL_irr _)
      · exact h
    · have := (h z).2 (by simp [hz])
      rw [List.mem_cons] at this
      rcases this with rfl | h
      · exact absurd (hb'.1 z hz) (ltL_irr _)
      · exact h
/-- Is the k-th the first of its label? -/
def abvE (m : List En) (k : Nat) : Bool := decide (k = 0) || decide (0 < cmpL ((m[k]?.map (·.1)).getD (0, 0, 0, 0)) ((m[k - 1]?.map (·.1)).getD (0, 0, 0, 0)))
def keptE (m : List En) (k : Nat) : List En := ((List.range k).filter (abvE m)).filterMap (fun i => m[i]?)
theorem keptE_succ (m : List En) (k : Nat) (e : En) (h : m[k]? = some e) : keptE m (k + 1) = if abvE m k then keptE m k ++ [e] else keptE m k := by
  unfold keptE
  rw [List.range_succ, List.filter_append]
  cases hb : abvE m k <;> simp [hb, h]
theorem keptE_mem (m : List En) (k : Nat) (z : En) : z ∈ keptE m k ↔ ∃ i, i < k ∧ abvE m i = true ∧ m[i]? = some z := by
  unfold keptE
  simp only [List.mem_filterMap, List.mem_filter, List.mem_range]
  constructor
  · rintro ⟨i, ⟨h1, h2⟩, h3⟩
    exact ⟨i, h1, h2, h3⟩
  · rintro ⟨i, h1, h2, h3⟩
    exact ⟨i, ⟨h1, h2⟩, h3⟩
/-- Entries that bear where they stood, in the order of the sort. -/
def Ord (m : List (En × Nat)) : Prop := m.Pairwise (fun a b => ltL a.1.1 b.1.1 ∨ (¬ ltL b.1.1 a.1.1 ∧ a.2 < b.2))
theorem abvE_at {m : List En} {i : Nat} {x y : En} (hi : m[i + 1]? = some x) (hy : m[i]? = some y) : abvE m (i + 1) = true ↔ ltL y.1 x.1 := by
  unfold abvE
  simp only [Nat.add_one_ne_zero, decide_false, Bool.false_or, Nat.add_sub_cancel, hi, hy, Option.map_some, Option.getD_some]
  rw [decide_eq_true_iff]
  have h1 := cmpL_lt y.1 x.1
  have h2 : cmpL x.1 y.1 > 0 ↔ cmpL y.1 x.1 < 0 := by
    unfold cmpL cmpV sgn
    repeat' split
    all_goals omega
  rw [← h1, ← h2]
theorem kept_is {es : List En} {m : List (En × Nat)} (ho : Ord m) (hm : ∀ x, x ∈ m ↔ es[x.2]? = some x.1) : keptE (m.map (·.1)) m.length = mergeE [] es := by
  have hp := List.pairwise_iff_getElem.1 ho
  have get : ∀ i (h : i < m.length), (m.map (·.1))[i]? = some (m[i]).1 := fun i h => by rw [List.getElem?_map, List.getElem?_eq_getElem h]; rfl
  refine asc_ext ?_ (mergeE_asc es [] (by unfold Asc; simp)) (fun z => ?_)
  · -- it rises
    have key : ∀ k, k ≤ m.length → Asc (keptE (m.map (·.1)) k) := fun k => by
      induction k with
      | zero => intro _; unfold keptE Asc; simp
      | succ k ih =>
        intro hk
        rw [keptE_succ _ k _ (get k (by omega))]
        split
        · rename_i hab
          refine List.pairwise_append.2 ⟨ih (by omega), by simp, fun a ha b hb => ?_⟩
          rw [List.mem_singleton] at hb
          subst hb
          obtain ⟨i, hik, _, hi⟩ := (keptE_mem _ k a).1 ha
          rw [get i (by omega)] at hi
          simp only [Option.some.injEq] at hi
          subst hi
          obtain ⟨k', rfl⟩ : ∃ k', k = k' + 1 := ⟨k - 1, by omega⟩
          have h1 := (abvE_at (get (k' + 1) (by omega)) (get k' (by omega))).1 hab
          by_cases e : i = k'
          · subst e; exact h1
          · have h2 := hp i k' (by omega) (by omega) (by omega)
            rcases h2 with h2 | ⟨h2, _⟩
            · exact ltL_trans h2 h1
            · by_cases h3 : (m[i]).1.1 = (m[k']).1.1
              · rw [h3]; exact h1
              · exact ltL_trans (ltL_tri h2 h3) h1
        · exact ih (by omega)
    exact key _ (Nat.le_refl _)
  · rw [mergeE_fst es.length es rfl z, keptE_mem]
    constructor
    · rintro ⟨i, hi, hab, hz⟩
      rw [get i hi] at hz
      simp only [Option.some.injEq] at hz
      have hin := (hm (m[i])).1 (List.getElem_mem hi)
      rw [hz] at hin
      refine ⟨(m[i]).2, hin, fun j y hj hy hyz => ?_⟩
      obtain ⟨i', hi', he⟩ := List.getElem_of_mem ((hm (y, j)).2 hy)
      have hlt : i' < i := by
        rcases Nat.lt_trichotomy i' i with h | h | h
        · exact h
        · subst h
          rw [he] at hj
          exact absurd hj (Nat.lt_irrefl _)
        · have := hp i i' hi hi' h
          rw [he, hz] at this
          simp only at this
          rcases this with h | ⟨_, h⟩
          · rw [hyz] at h; exact absurd h (ltL_irr _)
          · omega
      obtain ⟨k', rfl⟩ : ∃ k', i = k' + 1 := ⟨i - 1, by omega⟩
      have h1 := (abvE_at (get (k' + 1) hi) (get k' (by omega))).1 hab
      rw [hz] at h1
      by_cases e : i' = k'
      · subst e
        rw [he] at h1
        simp only at h1
        rw [hyz] at h1
        exact ltL_irr _ h1
      · have h2 := hp i' k' hi' (by omega) (by omega)
        rw [he] at h2
        simp only at h2
        rw [hyz] at h2
        rcases h2 with h2 | ⟨h2, _⟩
        · exact ltL_irr _ (ltL_trans h2 h1)
        · exact h2 h1
    · rintro ⟨i, hi, hf⟩
      obtain ⟨k, hk, he⟩ := List.getElem_of_mem ((hm (z, i)).2 hi)
      refine ⟨k, hk, ?_, by rw [get k hk, he]⟩
      by_cases hk0 : k = 0
      · subst hk0; simp [abvE]
      · obtain ⟨k', rfl⟩ : ∃ k', k = k' + 1 := ⟨k - 1, by omega⟩
        refine (abvE_at (get (k' + 1) hk) (get k' (by omega))).2 ?_
        have h2 := hp k' (k' + 1) (by omega) hk (by omega)
        rw [he] at h2
        simp only at h2
        rw [he]
        simp only
        rcases h2 with h2 | ⟨h2, h3⟩
        · exact h2
        · by_cases hq : (m[k']).1.1 = z.1
          · exact absurd hq (hf _ _ h3 ((hm _).1 (List.getElem_mem _)))
          · exact ltL_tri h2 hq
end Go.Proofs.YtlaihgdfedalmaaGreat

/-
  A region that draws its order, in a round of a range over a function: walked by the plain kit.
-/
namespace Go.Proofs.YtlaihgdfedalmaaGreat
open Go.RowKit
set_option linter.unusedVariables false

theorem oper_in {l n : Nat} {P : Program} {o : Oper} {a : Act} {w : World} {K : Act → World → Prop} {Q : Exit → Act → World → Prop} (hd : ∀ c, o.op ≠ .defer c) (h : o.wp P a w K Q) : o.wpIn (Fence.wide.inRound l) n P a w K Q := by
  refine ⟨fun f _ => trivial, ?_⟩
  unfold Oper.wp at h
  rw [show (Fence.wide.inRound l).round = some l from rfl, Oper.semAt_some l _ _ hd]
  generalize (execOp a.eval o).run P w = r at h ⊢
  cases r with
  | ok x w' =>
    cases x <;> simp only [Oper.upon, Oper.uponIn] at h ⊢
    all_goals first
      | exact h
      | exact ⟨fun hh => by simp [Fence.wide] at hh, (CallsIn.inRound l (callsIn_wide.2 h)).mono (fun e w'' he => by cases e <;> exact he)⟩
      | exact ⟨fun hh => by simp [Fence.wide] at hh, fun c cs _ => let ⟨v, w', r, s⟩ := h c cs; ⟨v, w', r, stepsIn_wide.2 s⟩⟩
      | exact h.elim
  | halt x w' => cases x <;> simp only [Oper.upon, Oper.uponIn] at h ⊢ <;> first | exact h | exact h.elim
def noDefer (ops : Array Oper) : Bool := ops.all fun o => match o.op with | .defer _ => false | _ => true
theorem noDefer_at {ops : Array Oper} (h : noDefer ops = true) {i : Nat} {o : Oper} (ho : ops[i]? = some o) : ∀ c, o.op ≠ .defer c := fun c e => by
  have := (Array.all_eq_true_iff_forall_mem.1 h) o (Array.mem_of_getElem? ho)
  simp [e] at this
theorem any_in {l n : Nat} {P : Program} {md : Region.Mode} {ops : Array Oper} {Q : Exit → Act → World → Prop} (hd : noDefer ops = true) (hQ : ¬ LetsOut Q) :
    ∀ (fuel : Nat) (listed : Array Bool) (a : Act) (w : World), wpAny P md ops Q fuel listed a w → wpAnyIn (Fence.wide.inRound l) n P md ops Q fuel listed a w
  | 0, listed, a, w, h => h
  | fuel + 1, listed, a, w, h => by
    refine ⟨h.1, fun i hi => ?_⟩
    have h1 := h.2 i hi
    unfold wpOp at h1
    unfold wpOpIn
    cases ho : ops[i]? with
    | none =>
      simp only [ho] at h1
      exact any_in hd hQ fuel _ a w h1
    | some o =>
      simp only [ho] at h1 ⊢
      by_cases hw : Region.wanted o (yielded ops a.tmps) = true
      · simp only [hw, if_true] at h1 ⊢
        rcases h1 with h1 | h1
        · exact Oper.wpIn_mono (fun a w h => any_in hd hQ fuel _ a w h) (oper_in (noDefer_at hd ho) h1)
        · exact absurd h1.2 hQ
      · simp only [hw, if_false, Bool.false_eq_true] at h1 ⊢
        exact ⟨fun f _ => trivial, any_in hd hQ fuel _ _ w h1⟩
/-- The code goes on; it goes nowhere else. -/
def Nrm (Q : Exit → Act → World → Prop) : Exit → Act → World → Prop
  | .normal, a, w => Q .normal a w
  | _, _, _ => False
theorem Nrm.normal {Q : Exit → Act → World → Prop} {a : Act} {w : World} (h : Q .normal a w) : Nrm Q .normal a w := h
theorem Nrm.of {Q : Exit → Act → World → Prop} : ∀ e a w, Nrm Q e a w → Q e a w := fun e a w h => by cases e <;> first | exact h | exact h.elim
theorem Nrm.shut {Q : Exit → Act → World → Prop} : ¬ LetsOut (Nrm Q) := fun ⟨_, _, h⟩ => h
end Go.Proofs.YtlaihgdfedalmaaGreat

/-
  Sorting a row of entries of one's own; what the sorted row says.
-/
namespace Go.Proofs.YtlaihgdfedalmaaGreat
open Go.RowKit Go.Sort
set_option linter.unusedVariables false
set_option linter.unusedSimpArgs false

theorem sort_nil (w : World) : Calls Tryz.prog 142 #[.slice none 0 0, .func (.func 143) #[] #[]] w fun e w' => e = .returned (.tuple #[]) ∧ w' = w := by
  have hin : ∀ W, Calls Tryz.prog 179 #[.slice none 0 0, .int .i64 0, .int .i64 0, .func (.func 143) #[] #[]] W fun e w' => e = .returned (.tuple #[]) ∧ w' = W := fun W => by
    go_enter Tryz.func179, Tryz.ntmps179
    go_wp2
    refine wp_loop_rounds 1 ?_
    rw [rounds_succ]
    go_wp2
    go_end0
    exact ⟨rfl, rfl⟩
  have hst : Calls Tryz.prog 169 #[.slice none 0 0, .int .i64 0, .func (.func 143) #[] #[]] w fun e w' => e = .returned (.tuple #[]) ∧ w' = w := by
    go_enter Tryz.func169, Tryz.ntmps169
    go_wp2
    refine wp_loop_rounds 1 ?_
    rw [rounds_succ]
    go_wp2_with fail
    refine (hin _).mono ?_
    rintro e w1 ⟨rfl, rfl⟩
    go_wp2
    refine wp_loop_rounds 1 ?_
    rw [rounds_succ]
    go_wp2
    go_end0
    exact ⟨rfl, rfl⟩
  clear hin
  go_enter Tryz.func142, Tryz.ntmps142
  go_wp2_with fail
  refine hst.mono ?_
  rintro e w1 ⟨rfl, rfl⟩
  go_wp2
  go_end0
  exact ⟨rfl, rfl⟩
theorem tags_zip (xs : List T.Sx) : T.Tags xs.zipIdx := by
  unfold T.Tags
  rw [List.pairwise_iff_getElem]
  intro i j hi hj hij
  simpa using hij
/-- A row of entries of one's own, sorted. -/
theorem sort_own (w : World) (B n : Nat) (v : Value) (xs : List T.Sx) (h : w.ownsRow B 41 5 v n (T.flat xs)) (hx : xs.length = n) (hmax : n ≤ 1000000) :
    Calls Tryz.prog 142 #[v, .func (.func 143) #[] #[]] w fun e w' => e = .returned (.tuple #[]) ∧ ∃ M : List T.Tg, M.Perm xs.zipIdx ∧ T.Asc M ∧ w'.ownsRow B 41 5 v n (T.flat (M.map (·.1))) ∧ w.grownBy w' v.ownBlock := by
  rcases id h.2 with ⟨rfl, h0⟩ | ⟨g, cap, cur, rfl, hg, hh, hnc, hcm, hcs, htk⟩
  · obtain rfl : xs = [] := List.eq_nil_of_length_eq_zero (by omega)
    refine (sort_nil w).mono ?_
    rintro e w' ⟨rfl, rfl⟩
    exact ⟨rfl, [], by simp, by unfold T.Asc; simp, h, T.gr_refl _ _⟩
  · obtain ⟨hb, _, _, _⟩ := T.Blk.ofOwn h
    have hb2 : T.BlkT w g cap xs.zipIdx := by
      unfold T.BlkT
      rw [List.zipIdx_map_fst]
      exact hb
    refine (T.sort_any w g cap n xs.zipIdx hb2 (by simpa using hx) hmax (tags_zip xs) (fun _ _ => trivial)).mono ?_
    rintro e w' ⟨rfl, M, hp, ha, hb', hgr⟩
    have hl : (M.map (·.1)).length = n := by rw [List.length_map, hp.length_eq]; simpa using hx
    refine ⟨rfl, M, hp, ha, ?_, hgr⟩
    have := T.Blk.own (B := B) hb' hg hcm n (by omega)
    rw [List.take_of_length_le (by omega)] at this
    exact this
/-- Its cells. -/
theorem own_c5 {w : World} {B n : Nat} {v : Value} {xs : List T.Sx} (h : w.ownsRow B 41 5 v n (T.flat xs)) (hx : xs.length = n) :
    ∃ go cap g, v = .slice go n cap ∧ (0 < n → go = some ⟨g, 0, none⟩ ∧ v.ownBlock = some g ∧ B ≤ g ∧ g < w.heap.size) ∧ ∀ j x, xs[j]? = some x → C5 w g (0 + j * 5) x := by
  rcases id h.2 with ⟨rfl, h0⟩ | ⟨g, cap, cur, rfl, hg, hh, hnc, hcm, hcs, htk⟩
  · obtain rfl : xs = [] := List.eq_nil_of_length_eq_zero (by omega)
    exact ⟨none, 0, 0, by rw [h0], fun hn => by omega, fun j x hj => by simp at hj⟩
  · obtain ⟨hb, _, _, _⟩ := T.Blk.ofOwn h
    refine ⟨_, _, g, rfl, fun _ => ⟨rfl, rfl, hg, hb.lt⟩, fun j x hj => ?_⟩
    have := T.Blk.cell hb hj
    rw [Nat.zero_add]
    exact this
/-- Blocks that are no cells may turn. -/
theorem row_gr2 {w w' : World} {ao : Option Addr} {n cap : Nat} {xs : List UInt8} {row : Option Nat} (h : Cd.Row w ao n cap xs) (g : w.grownBy w' row) (hr : ∀ r, row = some r → ∃ o : Obj, w.heap[r]? = some o ∧ o.isCells = false) : Cd.Row w' ao n cap xs := by
  refine row_grown h g (fun a ha hn e => ?_)
  obtain ⟨o, h1, h2⟩ := hr _ e
  have hc := h.2.2.2.2 a ha 0 hn
  unfold World.cell? at hc
  rw [add_block, h1] at hc
  cases o <;> simp_all [Obj.isCells]
theorem EO.gr2 {B : Nat} {w w' : World} {v : Value} {es : List En} {row : Option Nat} (h : EO B w v es) (g : w.grownBy w' row) (hr : ∀ r, row = some r → ∃ o : Obj, w.heap[r]? = some o ∧ o.isCells = false) : EO B w' v es := by
  obtain ⟨xs, hl, ho, hm⟩ := h
  refine ⟨xs, hl, ho.kept (row := row) g ?_, fun j e x he hx => ?_⟩
  · rcases id ho.2 with ⟨rfl, h0⟩ | ⟨b, cap, cur, rfl, hg, hh, _⟩
    · exact Or.inl rfl
    · refine Or.inr (fun e => ?_)
      obtain ⟨o, h1, h2⟩ := hr b e.symm
      rw [hh] at h1
      cases h1
      simp [Obj.isCells] at h2
  · obtain ⟨h1, h2, h3⟩ := hm j e x he hx
    exact ⟨h1, row_gr2 h2 g hr, fun a ha hn => ⟨(h3 a ha hn).1, Nat.lt_of_lt_of_le (h3 a ha hn).2.1 g.size, (h3 a ha hn).2.2⟩⟩
theorem dft_getD {xs : List T.Sx} {k : Nat} {x : T.Sx} (h : xs[k]? = some x) : xs.getD k dsl = x := by simp [List.getD, h]
/-- What the sorted row says. -/
theorem sorted_says {w : World} {E : List En} {xs : List T.Sx} {M : List T.Tg} (hl : xs.length = E.length)
    (hx : ∀ (j : Nat) e x, E[j]? = some e → xs[j]? = some x → x.1 = e.1 ∧ Cd.Row w x.2.1 x.2.2.1 x.2.2.2 e.2) (hp : M.Perm xs.zipIdx) (ha : T.Asc M) :
    ∃ F : List En, F.length = E.length ∧ M.length = E.length ∧ keptE F E.length = mergeE [] E ∧ (∀ (k : Nat) e x, F[k]? = some e → (M.map (·.1))[k]? = some x → x.1 = e.1 ∧ Cd.Row w x.2.1 x.2.2.1 x.2.2.2 e.2 ∧ e ∈ E) ∧ ∀ k, k < E.length → abv (M.map (·.1)) k = abvE F k := by
  have hml : M.length = E.length := by rw [hp.length_eq]; simpa using hl
  have mem : ∀ t : T.Tg, t ∈ M ↔ xs[t.2]? = some t.1 := fun t => by
    rw [hp.mem_iff]
    have := List.mem_zipIdx_iff_getElem? (x := t) (l := xs)
    exact this
  have each : ∀ i (h : i < M.length), ∃ e, E[(M[i]).2]? = some e ∧ (M[i]).1.1 = e.1 ∧ Cd.Row w (M[i]).1.2.1 (M[i]).1.2.2.1 (M[i]).1.2.2.2 e.2 := fun i h => by
    have h1 := (mem (M[i])).1 (List.getElem_mem h)
    have h2 := (List.getElem?_eq_some_iff.1 h1).1
    refine ⟨E[(M[i]).2]'(by omega), List.getElem?_eq_getElem (by omega), ?_⟩
    exact hx _ _ _ (List.getElem?_eq_getElem (by omega)) h1
  let f : T.Tg → En := fun t => (E[t.2]?).getD ((0, 0, 0, 0), [])
  have hf : ∀ i (h : i < M.length) e, E[(M[i]).2]? = some e → f (M[i]) = e := fun i h e he => by
    show (E[(M[i]).2]?).getD _ = e
    rw [he]
    rfl
  have hlab : ∀ i (h : i < M.length), (f (M[i])).1 = (M[i]).1.1 := fun i h => by
    obtain ⟨e, h1, h2, _⟩ := each i h
    rw [hf i h e h1]
    exact h2.symm
  have hfl : (M.map f).length = E.length := by rw [List.length_map]; exact hml
  have hget : ∀ k (h : k < M.length), (M.map f)[k]? = some (f (M[k])) := fun k h => by rw [List.getElem?_map, List.getElem?_eq_getElem h]; rfl
  have hget2 : ∀ k (h : k < M.length), (M.map (·.1))[k]? = some (M[k]).1 := fun k h => by rw [List.getElem?_map, List.getElem?_eq_getElem h]; rfl
  refine ⟨M.map f, hfl, hml, ?_, fun k e x he hxk => ?_, fun k hk => ?_⟩
  · have ho : Ord (M.map fun t => (f t, t.2)) := by
      unfold Ord
      rw [List.pairwise_iff_getElem]
      intro i j hi hj hij
      simp only [List.length_map] at hi hj
      simp only [List.getElem_map]
      rw [hlab i hi, hlab j hj]
      have := (List.pairwise_iff_getElem.1 ha) i j hi hj hij
      unfold T.ltT T.ltK at this
      exact this
    have hmm : ∀ x, x ∈ (M.map fun t => (f t, t.2)) ↔ E[x.2]? = some x.1 := fun x => by
      constructor
      · intro hxm
        obtain ⟨t, ht, rfl⟩ := List.mem_map.1 hxm
        obtain ⟨i, hi, rfl⟩ := List.getElem_of_mem ht
        obtain ⟨e, h1, _⟩ := each i hi
        show E[(M[i]).2]? = some (f (M[i]))
        rw [hf i hi e h1]
        exact h1
      · intro hE
        have hlt := (List.getElem?_eq_some_iff.1 hE).1
        have hxs : xs[x.2]? = some (xs[x.2]'(by omega)) := List.getElem?_eq_getElem (by omega)
        have ht := (mem (xs[x.2]'(by omega), x.2)).2 hxs
        refine List.mem_map.2 ⟨_, ht, ?_⟩
        have : f (xs[x.2]'(by omega), x.2) = x.1 := by
          show (E[x.2]?).getD _ = x.1
          rw [hE]
          rfl
        rw [this]
    have := kept_is ho hmm
    rw [List.map_map, List.length_map, hml] at this
    exact this
  · have hk : k < M.length := by have := (List.getElem?_eq_some_iff.1 he).1; simpa using this
    rw [hget k hk] at he
    rw [hget2 k hk] at hxk
    simp only [Option.some.injEq] at he hxk
    subst he hxk
    obtain ⟨e, h1, h2, h3⟩ := each k hk
    rw [hf k hk e h1]
    exact ⟨h2, h3, List.mem_of_getElem? h1⟩
  · have hk' : k < M.length := by omega
    unfold abv abvE
    have h1 : ((M.map (·.1)).getD k dsl).1 = ((M.map f)[k]?.map (·.1)).getD (0, 0, 0, 0) := by
      rw [dft_getD (hget2 k hk'), hget k hk']
      exact (hlab k hk').symm
    have h2 : ((M.map (·.1)).getD (k - 1) dsl).1 = ((M.map f)[k - 1]?.map (·.1)).getD (0, 0, 0, 0) := by
      rw [dft_getD (hget2 (k - 1) (by omega)), hget (k - 1) (by omega)]
      exact (hlab (k - 1) (by omega)).symm
    rw [h1, h2]
end Go.Proofs.YtlaihgdfedalmaaGreat

/-
  A law on regions that draw their order, beside the library's: what is held of the world need not hold behind the region's last operation, for which all that leans on it must wait (a store into what was read: 'x.f = append(x.f, y)').
-/
namespace Go.Proofs.YtlaihgdfedalmaaGreat
open Go.RowKit
set_option linter.unusedVariables false

section
variable {P : Program} {ops : Array Oper} {Q : Exit → Act → World → Prop} {md : Region.Mode} {S : World → Prop} {last : Nat}

def wpAnyE (P : Program) (md : Region.Mode) (ops : Array Oper) (Q : Exit → Act → World → Prop) (S : World → Prop) (last : Nat) : Nat → Array Bool → Act → World → Prop
  | 0, listed, a, w => Region.ready md ops listed = [] ∧ Q .normal a w
  | fuel + 1, listed, a, w =>
    (Region.ready md ops listed = [] → Q .normal a w) ∧
    ∀ i ∈ Region.ready md ops listed, wpOp P ops Q i (fun a' w' => ((listed.setIfInBounds i true).getD last true = false → S w') ∧ wpAnyE P md ops Q S last fuel (listed.setIfInBounds i true) a' w') a w

theorem wpAny_of_E : ∀ (fuel : Nat) (listed : Array Bool) (a : Act) (w : World), wpAnyE P md ops Q S last fuel listed a w → wpAny P md ops Q fuel listed a w
  | 0, _, _, _, h => h
  | fuel + 1, _, _, _, h => ⟨h.1, fun i hi => wpOp_mono (fun a' w' h' => wpAny_of_E fuel _ a' w' h'.2) (h.2 i hi)⟩

/-- The last one waits for number i. -/
def waits (md : Region.Mode) (ops : Array Oper) (last i : Nat) : Bool := match ops[last]? with
  | none => false
  | some o => o.after.any (fun e => Region.binds md e && e.on == i)
theorem waits_spec {i : Nat} (h : waits md ops last i = true) : ∃ o, ops[last]? = some o ∧ ∃ e ∈ o.after, Region.binds md e = true ∧ e.on = i := by
  unfold waits at h
  cases ho : ops[last]? with
  | none => rw [ho] at h; cases h
  | some o =>
    rw [ho] at h
    simp only [Array.any_eq_true] at h
    obtain ⟨k, hk, h1⟩ := h
    rw [Bool.and_eq_true, beq_iff_eq] at h1
    exact ⟨o, rfl, o.after[k], Array.getElem_mem hk, h1.1, h1.2⟩

theorem wpAnyE_first {i : Nat} {oi : Oper} {v : Value} (hi : ops[i]? = some oi) (hsel : ∀ (j : Nat) (o : Oper) cs b, ops[j]? = some o → o.op ≠ .select cs b)
    (hQ : ∀ c a w, Q (.panic c) (a.put oi.dst v) w → Q (.panic c) a w) (hw : waits md ops last i = true) :
    ∀ (fuel : Nat) (listed : Array Bool) (a : Act) (w : World),
      (∀ j oj, ops[j]? = some oj → j ≠ i → listed.getD j true = false → (∀ e ∈ oj.after, Region.binds md e = true → e.on ≠ i) → oi.apart ops oj = true) →
      i ∈ Region.ready md ops listed → YieldsIf P ops S oi v a → listed.getD last true = false → S w →
      wpAnyE P md ops Q S last fuel (listed.setIfInBounds i true) (a.put oi.dst v) w → wpAnyE P md ops Q S last (fuel + 1) listed a w := by
  intro fuel
  induction fuel with
  | zero =>
    intro listed a w _ hr hy hlu hS H
    refine ⟨fun h => (by rw [h] at hr; cases hr), fun j hj => ?_⟩
    by_cases hji : j = i
    · subst hji; exact hy.wpOp hi hS ⟨fun _ => hS, H⟩
    · have := ready_mono hj hji
      rw [H.1] at this
      cases this
  | succ fuel ih =>
    intro listed a w hfree hr hy hlu hS H
    refine ⟨fun h => (by rw [h] at hr; cases hr), fun j hj => ?_⟩
    by_cases hji : j = i
    · subst hji; exact hy.wpOp hi hS ⟨fun _ => hS, H⟩
    · have h1 := H.2 j (ready_mono hj hji)
      obtain ⟨hjun, oj, hoj, hall⟩ := mem_ready.1 hj
      have hnot : ∀ e ∈ oj.after, Region.binds md e = true → e.on ≠ i := fun e he hb heq => by
        have h1 := hall e he hb
        have h0 := (mem_ready.1 hr).1
        rw [heq] at h1
        rcases Nat.lt_or_ge i listed.size with h' | h'
        · simp [h'] at h0 h1; rw [h0] at h1; cases h1
        · simp [Array.getElem?_eq_none h'] at h1
      have hjl : j ≠ last := fun e => by
        obtain ⟨o, ho, e', he', hb, hon⟩ := waits_spec hw
        subst e
        rw [hoj] at ho
        cases ho
        exact hnot e' he' hb hon
      have h2 := wpOp_putIf hoj (hfree j oj hoj hji hjun hnot) (fun cs b => hsel i oi cs b hi) (fun cs b => hsel j oj cs b hoj) hQ hy h1
      have hfree' : ∀ k ok, ops[k]? = some ok → k ≠ i → (listed.setIfInBounds j true).getD k true = false →
          (∀ e ∈ ok.after, Region.binds md e = true → e.on ≠ i) → oi.apart ops ok = true := fun k ok hk hki hun hno => by
        refine hfree k ok hk hki ?_ hno
        by_cases hjk : j = k
        · subst hjk; exact hjun
        · rw [getD_set_ne true hjk] at hun; exact hun
      have hil : i ≠ last := fun e => by
        obtain ⟨o, ho, e', he', hb, hon⟩ := waits_spec hw
        rw [← e, hi] at ho
        cases ho
        have h0 := (mem_ready.1 hr)
        obtain ⟨h01, o', ho', hall'⟩ := h0
        rw [hi] at ho'
        cases ho'
        have h1 := hall' e' he' hb
        rw [hon] at h1
        rcases Nat.lt_or_ge i listed.size with h' | h'
        · simp [h'] at h01 h1; rw [h01] at h1; cases h1
        · simp [Array.getElem?_eq_none h'] at h1
      have e1 : (listed.setIfInBounds j true).getD last true = false := by rw [getD_set_ne true hjl]; exact hlu
      have e2 : ((listed.setIfInBounds i true).setIfInBounds j true).getD last true = false := by rw [getD_set_ne true hjl, getD_set_ne true hil]; exact hlu
      refine wpOp_mono (fun a' w' h3 => ⟨fun _ => h3.2.1 e2, ih (listed.setIfInBounds j true) a' w' hfree' (ready_mono hr (Ne.symm hji)) h3.1 e1 (h3.2.1 e2) ?_⟩) h2
      rw [Array.setIfInBounds_comm _ _ hji]
      exact h3.2.2

/-- What yields in whatever world is taken first, also where the last one does not wait for it. -/
theorem wpAnyE_pure {i : Nat} {oi : Oper} {v : Value} (hi : ops[i]? = some oi) (hsel : ∀ (j : Nat) (o : Oper) cs b, ops[j]? = some o → o.op ≠ .select cs b)
    (hQ : ∀ c a w, Q (.panic c) (a.put oi.dst v) w → Q (.panic c) a w) (hil : i ≠ last) :
    ∀ (fuel : Nat) (listed : Array Bool) (a : Act) (w : World),
      (∀ j oj, ops[j]? = some oj → j ≠ i → listed.getD j true = false → (∀ e ∈ oj.after, Region.binds md e = true → e.on ≠ i) → oi.apart ops oj = true) →
      i ∈ Region.ready md ops listed → YieldsIf P ops (fun _ => True) oi v a → (listed.getD last true = false → S w) →
      wpAnyE P md ops Q S last fuel (listed.setIfInBounds i true) (a.put oi.dst v) w → wpAnyE P md ops Q S last (fuel + 1) listed a w := by
  intro fuel
  induction fuel with
  | zero =>
    intro listed a w _ hr hy hS H
    refine ⟨fun h => (by rw [h] at hr; cases hr), fun j hj => ?_⟩
    by_cases hji : j = i
    · subst hji; exact hy.wpOp hi trivial ⟨fun h => hS (by rwa [getD_set_ne true hil] at h), H⟩
    · have := ready_mono hj hji
      rw [H.1] at this
      cases this
  | succ fuel ih =>
    intro listed a w hfree hr hy hS H
    refine ⟨fun h => (by rw [h] at hr; cases hr), fun j hj => ?_⟩
    by_cases hji : j = i
    · subst hji; exact hy.wpOp hi trivial ⟨fun h => hS (by rwa [getD_set_ne true hil] at h), H⟩
    · have h1 := H.2 j (ready_mono hj hji)
      obtain ⟨hjun, oj, hoj, hall⟩ := mem_ready.1 hj
      have hnot : ∀ e ∈ oj.after, Region.binds md e = true → e.on ≠ i := fun e he hb heq => by
        have h1 := hall e he hb
        have h0 := (mem_ready.1 hr).1
        rw [heq] at h1
        rcases Nat.lt_or_ge i listed.size with h' | h'
        · simp [h'] at h0 h1; rw [h0] at h1; cases h1
        · simp [Array.getElem?_eq_none h'] at h1
      have h2 := wpOp_putIf hoj (hfree j oj hoj hji hjun hnot) (fun cs b => hsel i oi cs b hi) (fun cs b => hsel j oj cs b hoj) hQ hy h1
      have hfree' : ∀ k ok, ops[k]? = some ok → k ≠ i → (listed.setIfInBounds j true).getD k true = false →
          (∀ e ∈ ok.after, Region.binds md e = true → e.on ≠ i) → oi.apart ops ok = true := fun k ok hk hki hun hno => by
        refine hfree k ok hk hki ?_ hno
        by_cases hjk : j = k
        · subst hjk; exact hjun
        · rw [getD_set_ne true hjk] at hun; exact hun
      have e2 : ((listed.setIfInBounds i true).setIfInBounds j true).getD last true = (listed.setIfInBounds j true).getD last true := by
        rw [Array.setIfInBounds_comm _ _ (Ne.symm hji), getD_set_ne true hil]
      refine wpOp_mono (fun a' w' h3 => ⟨fun h => h3.2.1 (e2.trans h), ih (listed.setIfInBounds j true) a' w' hfree' (ready_mono hr (Ne.symm hji)) h3.1 (fun h => h3.2.1 (e2.trans h)) ?_⟩) h2
      rw [Array.setIfInBounds_comm _ _ hji]
      exact h3.2.2
end

theorem beginE {P : Program} {l : List Oper} {Q : Exit → Act → World → Prop} {id : Nat} {a : Act} {w : World} (S : World → Prop) (last : Nat) (hm : P.follows .mixedOrders = true) (hS : S w.drew)
    (h : S w.drew → wpAnyE P .any l.toArray Q S last l.length (Array.replicate l.length false) a w.drew) : (Code.region id l.toArray true).wp P Q a w := by
  refine wp_region_any hm (wpAny_of_E (S := S) (last := last) _ _ _ _ ?_)
  have := h hS
  simpa using this
theorem takeE {P : Program} {md : Region.Mode} {l : List Oper} {Q : Exit → Act → World → Prop} {S : World → Prop} {last : Nat} (i : Nat) {oi : Oper} {v : Value} {fuel : Nat} {listed : Array Bool} {a : Act} {w : World} (hi : l[i]? = some oi)
    (hs : Region.noSelect l.toArray = true) (hf : Region.free md l.toArray listed i = true) (hr : (Region.ready md l.toArray listed).contains i = true) (hw : waits md l.toArray last i = true) (hlu : listed.getD last true = false)
    (hQ : ∀ c a w, Q (.panic c) (a.put oi.dst v) w → Q (.panic c) a w) (hy : YieldsIf P l.toArray S oi v a) (hS : S w)
    (h : wpAnyE P md l.toArray Q S last fuel (listed.setIfInBounds i true) (a.put oi.dst v) w) : wpAnyE P md l.toArray Q S last (fuel + 1) listed a w := by
  have hi' : l.toArray[i]? = some oi := by simpa using hi
  exact wpAnyE_first hi' (Region.noSelect_spec hs) hQ hw fuel listed a w (Region.free_spec hi' hf) (by simpa using hr) hy hlu hS h
theorem pureE {P : Program} {md : Region.Mode} {l : List Oper} {Q : Exit → Act → World → Prop} {S : World → Prop} {last : Nat} (i : Nat) {oi : Oper} {v : Value} {fuel : Nat} {listed : Array Bool} {a : Act} {w : World} (hi : l[i]? = some oi)
    (hs : Region.noSelect l.toArray = true) (hf : Region.free md l.toArray listed i = true) (hr : (Region.ready md l.toArray listed).contains i = true) (hil : (i != last) = true)
    (hQ : ∀ c a w, Q (.panic c) (a.put oi.dst v) w → Q (.panic c) a w) (hy : YieldsIf P l.toArray (fun _ => True) oi v a) (hS : S w)
    (h : wpAnyE P md l.toArray Q S last fuel (listed.setIfInBounds i true) (a.put oi.dst v) w) : wpAnyE P md l.toArray Q S last (fuel + 1) listed a w := by
  have hi' : l.toArray[i]? = some oi := by simpa using hi
  exact wpAnyE_pure hi' (Region.noSelect_spec hs) hQ (by simpa using hil) fuel listed a w (Region.free_spec hi' hf) (by simpa using hr) hy (fun _ => hS) h
theorem upE {P : Program} {md : Region.Mode} {l : List Oper} {Q : Exit → Act → World → Prop} {S : World → Prop} {last : Nat} (i : Nat) {o : Oper} {fuel : Nat} {listed : Array Bool} {a : Act} {w : World} (hi : l[i]? = some o) (hr : Region.ready md l.toArray listed = [i])
    (h : ∀ K' : Act → World → Prop, Shut (∀ a w, S w → (S w → wpAnyE P md l.toArray Q S last fuel (listed.setIfInBounds i true) a w) → K' a w) → if Region.wanted o (yielded l.toArray a.tmps) = true then Oper.wp P o a w K' Q else K' (a.put o.dst undef) w) :
    wpAnyE P md l.toArray Q S last (fuel + 1) listed a w := by
  refine ⟨fun h0 => absurd (hr ▸ h0) (by simp), fun j hj => ?_⟩
  rw [hr, List.mem_singleton] at hj
  subst hj
  have hi' : l.toArray[j]? = some o := by simpa using hi
  exact wpOp_step hi' (fun K' hK => h K' (fun a w hS hW => hK a w ⟨fun _ => hS, hW hS⟩))
theorem lastE {P : Program} {md : Region.Mode} {l : List Oper} {Q : Exit → Act → World → Prop} {S : World → Prop} {last : Nat} (i : Nat) {o : Oper} {fuel : Nat} {listed : Array Bool} {a : Act} {w : World} (hi : l[i]? = some o) (hr : Region.ready md l.toArray listed = [i]) (hil : (i == last) = true)
    (h : ∀ K' : Act → World → Prop, Shut (∀ a w, wpAnyE P md l.toArray Q S last fuel (listed.setIfInBounds i true) a w → K' a w) → if Region.wanted o (yielded l.toArray a.tmps) = true then Oper.wp P o a w K' Q else K' (a.put o.dst undef) w) :
    wpAnyE P md l.toArray Q S last (fuel + 1) listed a w := by
  refine ⟨fun h0 => absurd (hr ▸ h0) (by simp), fun j hj => ?_⟩
  rw [hr, List.mem_singleton] at hj
  subst hj
  have hi' : l.toArray[j]? = some o := by simpa using hi
  have hl : j = last := by simpa using hil
  exact wpOp_step hi' (fun K' hK => h K' (fun a w hW => hK a w ⟨fun hn => absurd hn (by
    subst hl
    rw [Array.getD_eq_getD_getElem?, Array.getElem?_setIfInBounds]
    rw [if_pos rfl]
    by_cases hlt : j < listed.size
    · rw [if_pos hlt]; simp
    · rw [if_neg hlt]; simp), hW⟩))
theorem doneE {P : Program} {md : Region.Mode} {l : List Oper} {Q : Exit → Act → World → Prop} {S : World → Prop} {last : Nat} {listed : Array Bool} {a : Act} {w : World} (hr : Region.ready md l.toArray listed = []) (h : Q .normal a w) :
    ∀ fuel, wpAnyE P md l.toArray Q S last fuel listed a w
  | 0 => ⟨hr, h⟩
  | _ + 1 => ⟨fun _ => h, by rw [hr]; simp⟩
theorem tqE {P : Program} {md : Region.Mode} {l : List Oper} {Q : Exit → Act → World → Prop} {S : World → Prop} {last : Nat} (i : Nat) {oi : Oper} {v : Value} {fuel : Nat} {listed : Array Bool} {a a' : Act} {w : World}
    (h : wpAnyE P md l.toArray Q S last fuel (listed.setIfInBounds i true) a' w) (hi : l[i]? = some oi := by rfl) (hy : ∀ w, S w → (execOp a.eval oi).run P w = .ok (.value v) w := by intro wx hSw; (try dsimp only at hSw); (repeat (have hSx := hSw.1; replace hSw := hSw.2)); go_simp; try with_reducible rfl) (hwd : Region.wanted oi (yielded l.toArray a.tmps) = true := by rfl) (hs : Region.noSelect l.toArray = true := by kernel_rfl) (hf : Region.free md l.toArray listed i = true := by kernel_rfl) (hr : (Region.ready md l.toArray listed).contains i = true := by kernel_rfl) (hw : waits md l.toArray last i = true := by kernel_rfl) (hlu : listed.getD last true = false := by kernel_rfl)
    (hQ : ∀ c a w, Q (.panic c) (a.put oi.dst v) w → Q (.panic c) a w := by exact fun _ _ _ h => h) (hS : S w := by assumption) (ha : a.put oi.dst v = a' := by (try simp only [Act.put, List.setIfInBounds_toArray, List.set_cons_zero, List.set_cons_succ]) <;> rfl) : wpAnyE P md l.toArray Q S last (fuel + 1) listed a w :=
  takeE i hi hs hf hr hw hlu hQ (.inl ⟨hwd, hy⟩) hS (ha ▸ h)
/-- A drawn region in a round, whose last operation breaks what is held. -/
theorem beginR {k n : Nat} {P : Program} {l : List Oper} {Q : Exit → Act → World → Prop} {id : Nat} {a : Act} {w : World} (S : World → Prop) (last : Nat) (hd : noDefer l.toArray = true) (hm : P.follows .mixedOrders = true) (hS : S w.drew)
    (h : S w.drew → wpAnyE P .any l.toArray (Nrm Q) S last l.length (Array.replicate l.length false) a w.drew) : (Code.region id l.toArray true).wpIn (Fence.wide.inRound k) n P Q a w := by
  refine wpIn_mono (wpIn_region_any hm (any_in hd Nrm.shut _ _ _ _ (wpAny_of_E (S := S) (last := last) _ _ _ _ ?_))) Nrm.of
  have := h hS
  simpa using this
end Go.Proofs.YtlaihgdfedalmaaGreat

/-
  The document's Find; a copy of bytes.
-/
namespace Go.Proofs.YtlaihgdfedalmaaGreat
open Go.RowKit
set_option linter.unusedVariables false
set_option linter.unusedSimpArgs false

/-- What Find tells. -/
def FindIs (w w' : World) (es : List En) (x : Lb) (e : Ending) : Prop :=
  ∃ v b, e = .returned (.tuple #[v, .bool b]) ∧ b = (findE es x).isSome ∧ (∃ so sn sc, v = .slice so sn sc ∧ Cd.Row w' so sn sc ((findE es x).getD []))

set_option maxRecDepth 10000 in
set_option maxHeartbeats 1000000 in
theorem bclone_any (w : World) (ao : Option Addr) (n cap : Nat) (xs : List UInt8) (h : Cd.Row w ao n cap xs) (hn : n ≤ 140737488355328) :
    Calls Tryz.prog 47 #[.slice ao n cap] w fun e w' => ∃ v, e = .returned v ∧ w'.ownsRow w.heap.size 5 1 v xs.length (xs.map Cd.by8) ∧ Below w.heap.size w w' := by
  have q := fun (w : World) (a : Option Addr) (n c n' c' : Nat) => Lib.run_eql_slice_nil (P := Tryz.prog) w 37 5 a n c n' c' und34
  have hl := h.1
  cases ao with
  | none =>
    obtain ⟨rfl, rfl⟩ := h.2.2.2.1 rfl
    have : xs = [] := List.eq_nil_of_length_eq_zero hl
    subst this
    clear h
    go_enter Tryz.func47, Tryz.ntmps47
    go_wp2
    go_ret
    exact ⟨_, rfl, World.ownsRow_nil _ _ _ _, Below.refl _ _⟩
  | some a =>
    have hal := bl1 w (.cells #[] 5)
    have hown : (w.alloc (.cells #[] 5)).ownsRow w.heap.size 5 1 (.slice (some ⟨w.heap.size, 0, none⟩) 0 0) ([] : List UInt8).length (([] : List UInt8).map Cd.by8) := by
      have := World.ownsRow_lit (base := w.heap.size) (e := 5) (size := 1) w #[] 0 (Nat.le_refl _) (by unfold maxLen; omega) rfl
      simpa using this
    have hcs : ∀ j u, (xs.map Cd.by8)[j]? = some u → (w.alloc (.cells #[] 5)).cell? (a.add j) = some u := fun j u hj => bl_cell hal (h.olds a rfl j u hj)
    have hs : w.heap.size ≤ (w.alloc (.cells #[] 5)).heap.size := hal.size
    have hnil := q
    clear h
    go_enter Tryz.func47, Tryz.ntmps47
    go_wp2_with (at_builtin; refine wpList_append_adds rfl (.tmp 5) (.tmp 6) rfl w.heap.size _ [] rfl ?d1 a n cap xs rfl ?d0 ?d2 ?d3 ?d4 ?_)
    case d1 => exact hown
    case d0 => exact hl
    case d2 => exact hcs
    case d3 => simpa using hn
    case d4 => exact hs
    intro v w1 ha
    have hb := hal.trans (ha.below hs (fun k hk => (own_lt hown k hk).1))
    have ho := ha.own
    clear hown hcs hs ha
    go_wp2
    go_ret
    exact ⟨v, rfl, by simpa using ho, hb⟩
end Go.Proofs.YtlaihgdfedalmaaGreat

/-
  One more entry behind a row of one's own, its row in a box.
-/
namespace Go.Proofs.YtlaihgdfedalmaaGreat
open Go.RowKit
set_option linter.unusedVariables false
set_option linter.unusedSimpArgs false

/-- Those of some places that are the first of their label. -/
def keptL {N : Nat} (F : List En) (pre : List { k : Nat // k < N }) : List En := (pre.filter (fun x => abvE F x.1)).filterMap (fun x => F[x.1]?)
theorem keptL_snoc {N : Nat} (F : List En) (pre : List { k : Nat // k < N }) (x : { k : Nat // k < N }) (e : En) (h : F[x.1]? = some e) : keptL F (pre ++ [x]) = if abvE F x.1 then keptL F pre ++ [e] else keptL F pre := by
  unfold keptL
  rw [List.filter_append]
  cases hb : abvE F x.1 <;> simp [hb, h]
theorem keptL_len {N : Nat} (F : List En) (pre : List { k : Nat // k < N }) : (keptL F pre).length ≤ pre.length := by
  unfold keptL
  exact Nat.le_trans (List.length_filterMap_le _ _) (List.length_filter_le _ _)
theorem keptL_firsts {N : Nat} (F : List En) : ∀ (k : Nat) (h : k ≤ N), N = F.length → keptL F (firsts N k h) = keptE F k
  | 0, _, _ => by simp [firsts, keptL, keptE]
  | k + 1, h, hN => by
    have he : F[k]? = some (F[k]'(by omega)) := List.getElem?_eq_getElem (by omega)
    show keptL F (firsts N k (by omega) ++ [⟨k, by omega⟩]) = _
    rw [keptL_snoc F _ ⟨k, by omega⟩ _ he, keptE_succ F k _ he, keptL_firsts F k (by omega) hN]
theorem run_append_EO {B : Nat} {w : World} {v : Value} {es : List En} (h : EO B w v es) (ad : Addr) (c : Nat) (x : Lb) (s : Sl) (em : List UInt8) (hcs : ∀ j u, (cells5 (x, s))[j]? = some u → w.cell? (ad.add j) = some u)
    (hrow : Cd.Row w s.1 s.2.1 s.2.2 em) (hb : ∀ a, s.1 = some a → 0 < s.2.1 → B ≤ a.block ∧ v.ownBlock ≠ some a.block) (hn : es.length ≤ 1000000) (hB : B ≤ w.heap.size) (ty : TypeId) :
    ∃ v' w', (Builtin.append_ #[42, 42] ty #[v, .slice (some ad) 1 c]).run Tryz.prog w = .ok v' w' ∧ EO B w' v' (es ++ [(x, em)]) ∧ w.grownBy w' v.ownBlock ∧ (v'.ownBlock = v.ownBlock ∨ v'.ownBlock = some w.heap.size) := by
  obtain ⟨xs, hl, ho, hm⟩ := h
  obtain ⟨i0, hi0, hz0, hz1, hz2⟩ := info_parts infoE29
  obtain ⟨v', w', hr, ho', hg, _, hat⟩ := run_append_own_at (P := Tryz.prog) w B 42 ty 41 i0 (.agg #[.int .u64 0, .int .i64 0, .int .u64 0, .int .i64 0, .slice none 0 0]) 5 56 und35 hi0 hz0 hz1 hz2 rfl (by decide) v es.length (flatE xs) ho ad 1 c (cells5 (x, s)) (by simp [cells5]) hcs (fun u hu => by simp [cells5] at hu; rcases hu with rfl | rfl | rfl | rfl | rfl <;> rfl) (by unfold maxLen; omega) (by omega) hB
  exact ⟨v', w', hr, EO.snoc (e := (x, em)) hl hm hrow hb ho' hg hat, hg, hat⟩
/-- A box turns that is none of its blocks. -/
theorem EO.box {B : Nat} {w : World} {v : Value} {es : List En} (h : EO B w v es) (b : Nat) (u u' : Value) (t : TypeId) (hb : w.heap[b]? = some (.cells #[u] t (0, 0))) (hu : ∀ k i, u ≠ .int k i) (hv : v.ownBlock ≠ some b) : EO B (w.setRow b #[u']) v es := by
  have hg : w.grownBy (w.setRow b #[u']) (some b) := T.gr_setRow _ _ _
  obtain ⟨xs, hl, ho, hm⟩ := h
  refine ⟨xs, hl, ho.kept (row := some b) hg (Or.inr hv), fun j e x he hx => ?_⟩
  obtain ⟨h1, h2, h3⟩ := hm j e x he hx
  refine ⟨h1, row_grown h2 hg (fun a ha hn e' => ?_), fun a ha hn => ⟨(h3 a ha hn).1, by rw [setRow_size]; exact (h3 a ha hn).2.1, (h3 a ha hn).2.2⟩⟩
  have hc := h2.2.2.2.2 a ha 0 hn
  simp only [Option.some.injEq] at e'
  unfold World.cell? at hc
  rw [add_block, ← e', hb] at hc
  simp only at hc
  split at hc
  · cases hc
  · obtain ⟨hlt, hv'⟩ := Array.getElem?_eq_some_iff.1 hc
    simp at hlt hv'
    exact hu _ _ hv'
/-- Where a copy of bytes lies. -/
theorem own_bytes {w : World} {B : Nat} {v : Value} {xs : List UInt8} (h : w.ownsRow B 5 1 v xs.length (xs.map Cd.by8)) : ∃ so sc, v = .slice so xs.length sc ∧ Cd.Row w so xs.length sc xs ∧ ∀ a, so = some a → B ≤ a.block ∧ a.block < w.heap.size := by
  obtain ⟨so, sc, e, hr, _⟩ := Cd.owns_row h
  subst e
  refine ⟨so, sc, rfl, hr, fun a ha => ?_⟩
  subst ha
  exact h.lt a.block rfl
end Go.Proofs.YtlaihgdfedalmaaGreat

/-
  content.Merge: entries, by their labels, with others.
-/
namespace Go.Proofs.YtlaihgdfedalmaaGreat
open Go.RowKit Go.Shelf
set_option linter.unusedVariables false
set_option linter.unusedSimpArgs false
attribute [local go_sem] Oper.semAt_some

theorem ER.xr {p : Nat → Prop} {w : World} {ao : Option Addr} {n : Nat} {es : List En} (h : ER p w ao n es) :
    ∃ xs : List T.Sx, T.XR w ao n xs ∧ ∀ (j : Nat) e x, es[j]? = some e → xs[j]? = some x → x.1 = e.1 ∧ Cd.Row w x.2.1 x.2.2.1 x.2.2.2 e.2 := by
  obtain ⟨xs, hl, hx, b, off, hb, hc⟩ := h.split
  exact ⟨xs, ⟨hl, fun hn => ⟨b, off, (hb hn).1, hc⟩⟩, fun j e x he hj => ⟨(hx j e x he hj).1, (hx j e x he hj).2.1⟩⟩

theorem make22 (n m : Nat) (hc : n + m ≤ 100000) (w : World) : ∃ cur, (Instr.makeSlice 42 (.int .i64 0) (.int .i64 ((n : Int) + (m : Int)))).run Tryz.prog w = .ok (.slice (some ⟨w.heap.size, 0, none⟩) 0 (n + m)) (w.alloc (.cells cur 41)) ∧ cur.size = (n + m) * 5 := by
  obtain ⟨i0, hi, hz0, hz1, hz2⟩ := info_parts infoE29
  have h := run_make (P := Tryz.prog) w 42 41 i0 _ und35 hi hz0 .i64 .i64 0 ((n : Int) + (m : Int)) (by omega) (by omega) (by rw [hz2]; omega) (by omega)
  rw [show ((n : Int) + (m : Int)).toNat = n + m by omega] at h
  exact ⟨_, h, by rw [size_madeCells, hz1]⟩
theorem own_base {w : World} {B B' n s : Nat} {t : TypeId} {v : Value} {xs : List Value} (h : w.ownsRow B t s v n xs) (hb : B' ≤ B) : w.ownsRow B' t s v n xs := by
  refine ⟨h.1, ?_⟩
  rcases h.2 with h | ⟨g, cap, cur, e, hg, r⟩
  · exact .inl h
  · exact .inr ⟨g, cap, cur, e, Nat.le_trans hb hg, r⟩
theorem EO.base {B B' : Nat} {w : World} {v : Value} {es : List En} (h : EO B w v es) (hb : B' ≤ B) : EO B' w v es := by
  obtain ⟨xs, hl, ho, hm⟩ := h
  exact ⟨xs, hl, own_base ho hb, fun j e x he hx => ⟨(hm j e x he hx).1, (hm j e x he hx).2.1, fun a ha hn => ⟨Nat.le_trans hb ((hm j e x he hx).2.2 a ha hn).1, ((hm j e x he hx).2.2 a ha hn).2⟩⟩⟩
theorem EO.er2 {B : Nat} {w : World} {v : Value} {es : List En} (h : EO B w v es) : ∃ ao cap, v = .slice ao es.length cap ∧ (ao = none → es.length = 0 ∧ cap = 0) ∧ ER (fun _ => True) w ao es.length es := by
  obtain ⟨ao, cap, hv, h0, h1, h2⟩ := h.er
  refine ⟨ao, cap, hv, fun e => ?_, h2.mono (fun _ _ => trivial)⟩
  obtain ⟨_, _, ho, _⟩ := h
  rcases id ho.2 with ⟨hn, h3⟩ | ⟨g, cap', cur, hs, _⟩
  · rw [hn] at hv
    simp at hv
    exact ⟨h3, hv.2.2.symm⟩
  · rw [hs] at hv
    simp at hv
    rw [e] at hv
    simp at hv
/-- What a round reads. -/
def Sm (Bx Bm : Nat) (x : Lb) (so : Option Addr) (sn sc : Nat) (v : Value) (w : World) : Prop :=
  w.cell? ⟨Bx, 0, none⟩ = some (.int .u64 (x.1 : Nat)) ∧ w.cell? ⟨Bx, 1, none⟩ = some (.int .i64 x.2.1) ∧ w.cell? ⟨Bx, 2, none⟩ = some (.int .u64 (x.2.2.1 : Nat)) ∧ w.cell? ⟨Bx, 3, none⟩ = some (.int .i64 x.2.2.2) ∧ w.cell? ⟨Bx, 4, none⟩ = some (.slice so sn sc) ∧
  w.cell? ⟨Bm, 0, none⟩ = some v
theorem keeps_grown {B : Nat} {W W' : World} {row : Option Nat} (g : W.grownBy W' row) (hr : ∀ r, row = some r → ∃ c t f, W.heap[r]? = some (.cells c t f)) : KeepsFrom B W W' :=
  ⟨g.size, fun k o _ hk hc => (g.block k (Array.getElem?_eq_some_iff.1 hk).1 (fun e => by
    obtain ⟨c, t, f, h⟩ := hr k e.symm
    rw [h] at hk
    cases hk
    cases hc)).trans hk⟩
theorem own_cells {w : World} {B n : Nat} {v : Value} {xs : List Value} (h : w.ownsRow B 41 5 v n xs) : ∀ r, v.ownBlock = some r → ∃ c t f, w.heap[r]? = some (.cells c t f) := fun r hr => by
  rcases id h.2 with ⟨rfl, _⟩ | ⟨g, cap, cur, rfl, hg, hh, _⟩
  · cases hr
  · cases hr
    exact ⟨_, _, _, hh⟩
set_option maxRecDepth 100000 in
set_option maxHeartbeats 4000000 in
theorem merge_any (w : World) (ao : Option Addr) (n cap : Nat) (es : List En) (h : ER (fun _ => True) w ao n es) (hz : ao = none → n = 0 ∧ cap = 0)
    (bo : Option Addr) (m cbp : Nat) (ms : List En) (hm : ER (fun _ => True) w bo m ms) (hzm : bo = none → m = 0 ∧ cbp = 0) (hn : n + m ≤ 100000) (hml : ∀ e ∈ es ++ ms, e.2.length ≤ 140737488355328) :
    Calls Tryz.prog 110 #[.slice ao n cap, .slice bo m cbp] w fun e w' => ∃ v, e = .returned v ∧ EO w.heap.size w' v (mergeE [] (es ++ ms)) ∧ Below w.heap.size w w' := by
  obtain ⟨xs, hxr, hxs⟩ := h.xr
  obtain ⟨ys, hyr, hys⟩ := hm.xr
  have hel := h.1
  have hxl := hxr.1
  have hml2 := hm.1
  have hyl := hyr.1
  have HALL : Hid (∀ (j : Nat) e x, (es ++ ms)[j]? = some e → (xs ++ ys)[j]? = some x → x.1 = e.1 ∧ Cd.Row w x.2.1 x.2.2.1 x.2.2.2 e.2) := fun j e x he hx => by
    by_cases hj : j < n
    · rw [List.getElem?_append_left (by omega)] at he hx
      exact hxs j e x he hx
    · rw [List.getElem?_append_right (by omega)] at he hx
      rw [hel] at he
      rw [hxl] at hx
      exact hys _ e x he hx
  have HN : Hid ((xs ++ ys).length = (es ++ ms).length ∧ (es ++ ms).length = n + m) := ⟨by simp; omega, by simp; omega⟩
  have HML : Hid (∀ e ∈ es ++ ms, e.2.length ≤ 140737488355328) := hml
  have ba : Below w.heap.size w (w.alloc (.cells #[.slice ao n cap, .slice bo m cbp] 42)) := bl1 _ _
  have hcc := T.concat_any (w.alloc (.cells #[.slice ao n cap, .slice bo m cbp] 42)) w.heap.size ao n cap xs (hxr.up ba) hz bo m cbp ys (hyr.up ba) hzm hn (cell_box w _ 42 0 _ rfl) (cell_box w _ 42 1 _ rfl)
  generalize xs ++ ys = zs at *
  generalize es ++ ms = E at *
  clear h hm hxs hys hxr hyr hel hxl hml2 hyl hml hz hzm
  refine (callsIn_wide (n := 6)).1 ?_
  refine callsIn_of_wp_marks Tryz.func110 rfl trivial ?_ rfl
  simp only [Tryz.ntmps110, List.size_toArray, List.length_cons, List.length_nil, Nat.reduceAdd, Nat.reduceSub, Array.replicate_succ, Array.replicate_zero, List.push_toArray, List.append_toArray, List.nil_append, List.cons_append]
  gi_wp2_with (refine ⟨trivial, ?_⟩; gi_at_call 141; refine (callsIn_wide.2 hcc).mono ?_)
  rintro e w1 ⟨v, rfl, hown, hb1⟩
  have hb01 := ba.trans (hb1.mono ba.size)
  have hs0 : (w.alloc (.cells #[.slice ao n cap, .slice bo m cbp] 42)).heap.size = w.heap.size + 1 := by simp
  rw [hs0] at hown hb1
  have hso := sort_own w1 (w.heap.size + 1) (n + m) v zs hown (by have := HN.out; omega) (by omega)
  have hsz1 := hb1.size
  clear hcc ba hs0
  gi_wp2_with (refine ⟨trivial, ?_⟩; gi_at_call 142; refine (callsIn_wide.2 hso).mono ?_)
  rintro e w2 ⟨rfl, M, hp, ha, hown2, hgr2⟩
  obtain ⟨F, hFl, hMl, hK, hFx, hab⟩ := sorted_says HN.out.1 HALL.out hp ha
  obtain ⟨go, capg, g, rfl, hgo, hc5⟩ := own_c5 hown2 (by rw [List.length_map, hMl]; exact HN.out.2)
  obtain ⟨cur, hmk, hcur⟩ := make22 n m hn w2
  clear hso hown
  gi_wp2_with (refine ⟨trivial, ?_⟩; gi_at_call 144; refine (callsIn_wide.2 (climb_any _ _ _ _)).mono ?_; rintro e w' ⟨rfl, rfl⟩)
  obtain ⟨zM, hzM⟩ : ∃ zM, M.map (·.1) = zM := ⟨_, rfl⟩
  rw [hzM] at hown2 hFx hab hc5
  have hzl : zM.length = n + m := by rw [← hzM, List.length_map, hMl]; exact HN.out.2
  have hEl := HN.out.2
  obtain ⟨r0, hr0⟩ : ∃ r, w2.heap.size = r := ⟨_, rfl⟩
  have hB2 : Below w.heap.size w w2 := bl_grown hb01 hb01.size hgr2 (fun k hk => by have := (hown2.lt k hk).1; omega)
  have hr0w : w.heap.size ≤ r0 := by rw [← hr0]; exact hB2.size
  have hmd : (w2.alloc (.cells cur 41)).ownsRow r0 41 5 (.slice (some ⟨r0, 0, none⟩) 0 (n + m)) 0 [] := by
    rw [← hr0]
    exact World.ownsRow_made w2 cur (n + m) (Nat.le_refl _) (by unfold maxLen; omega) hcur
  obtain ⟨W0, hW0⟩ : ∃ W0, ((w2.alloc (.cells cur 41)).alloc (.cells #[.slice (some ⟨r0, 0, none⟩) 0 (n + m)] 42)).alloc (.cells #[.slice go (n + m) capg] 42) = W0 := ⟨_, rfl⟩
  have hb20 : Below w2.heap.size w2 W0 := by rw [← hW0]; exact bl_step (bl_step (bl1 _ _) (bl1 _ _)) (bl1 _ _)
  have hsz : W0.heap.size = r0 + 3 := by rw [← hW0, ← hr0]; simp
  have hs1 : (w2.alloc (.cells cur 41)).heap.size = r0 + 1 := by rw [← hr0]; simp
  have hs2 : ((w2.alloc (.cells cur 41)).alloc (.cells #[.slice (some ⟨r0, 0, none⟩) 0 (n + m)] 42)).heap.size = r0 + 2 := by rw [← hr0]; simp
  have hbx0 : W0.heap[r0 + 1]? = some (.cells #[.slice (some ⟨r0, 0, none⟩) 0 (n + m)] 42 (0, 0)) := by
    rw [← hW0, Below.heap_alloc _ _ _ (by rw [hs2]; omega), ← hs1]
    exact heap_alloc_new _ _
  have hBs0 : W0.cell? ⟨r0 + 2, 0, none⟩ = some (.slice go zM.length capg) := by
    rw [← hW0, ← hs2, hzl]
    exact cell_box _ _ 42 0 _ rfl
  have hEO0 : EO r0 W0 (.slice (some ⟨r0, 0, none⟩) 0 (n + m)) [] := by
    have h1 : EO r0 (w2.alloc (.cells cur 41)) (.slice (some ⟨r0, 0, none⟩) 0 (n + m)) [] := ⟨[], rfl, hmd, fun j e x he => by simp at he⟩
    rw [← hW0]
    exact h1.bl (bl_step (bl1 _ _) (bl1 _ _))
  have hB0 : Below w.heap.size w W0 := bl_step hB2 hb20
  have hc0 : ∀ j x, zM[j]? = some x → C5 W0 g (0 + j * 5) x := fun j x hj => by
    obtain ⟨c0, c1, c2, c3, c4⟩ := hc5 j x hj
    exact ⟨bl_cell hb20 c0, bl_cell hb20 c1, bl_cell hb20 c2, bl_cell hb20 c3, bl_cell hb20 c4⟩
  have hg0 : 0 < zM.length → g < r0 := fun h => by rw [← hr0]; exact (hgo (by omega)).2.2.2
  have hgo' : 0 < zM.length → go = some ⟨g, 0, none⟩ := fun h => (hgo (by omega)).1
  obtain ⟨g, hg0, hgo', hc0⟩ : ∃ g, g < r0 + 1 ∧ (0 < zM.length → go = some ⟨g, 0, none⟩ ∧ g < r0) ∧ ∀ j x, zM[j]? = some x → C5 W0 g (0 + j * 5) x := by
    by_cases h0 : zM.length = 0
    · have e : zM = [] := List.eq_nil_of_length_eq_zero h0
      subst e
      exact ⟨0, by omega, fun h => absurd h (by simp), fun j x hx => (by simp at hx)⟩
    · exact ⟨g, by have := hg0 (by omega); omega, fun h => ⟨hgo' h, hg0 h⟩, hc0⟩
  rw [hr0, hW0]
  have hEk : ∀ (A B : World) (row : Option Nat) (v : Value) (l : List En), EO r0 A v l → A.grownBy B row → (∀ r, row = some r → W0.heap.size ≤ r ∧ ∃ o : Obj, A.heap[r]? = some o ∧ o.isCells = false) → EO r0 B v l := fun A B row v l h hg hr => h.gr2 hg (fun r e => (hr r e).2)
  have hRk : ∀ (A B : World) (row : Option Nat) (v : Value), A.heap[r0 + 1]? = some (.cells #[v] 42 (0, 0)) → A.grownBy B row → (∀ r, row = some r → W0.heap.size ≤ r ∧ ∃ o : Obj, A.heap[r]? = some o ∧ o.isCells = false) → B.heap[r0 + 1]? = some (.cells #[v] 42 (0, 0)) := fun A B row v h hg hr =>
    (hg.block _ (Array.getElem?_eq_some_iff.1 h).1 (fun e => by have := (hr _ e.symm).1; omega)).trans h
  have hBk : ∀ (A B : World) (row : Option Nat), Below w.heap.size w A → A.grownBy B row → (∀ r, row = some r → W0.heap.size ≤ r ∧ ∃ o : Obj, A.heap[r]? = some o ∧ o.isCells = false) → Below w.heap.size w B := fun A B row h hg hr =>
    bl_grown h h.size hg (fun k hk => by have := (hr _ hk).1; omega)
  have hmaxM : zM.length ≤ 140737488355328 := by omega
  clear hc5 hgo hmk hW0 hmd hs1 hs2 hb20 hr0 hcur hgr2 hB2 hown2 hb01 hb1 hsz1 HALL hp ha hzM
  refine wpIn_rangeFunc_ownH rfl (by omega) (gf := 171) (lb := #[.pointer (some ⟨r0 + 2, 0, none⟩)]) rfl trivial (enters_of Tryz.func171 (by kernel_rfl) rfl)
    (climb_stops 5 (by omega) (r0 + 2) g 0 capg go zM hmaxM W0 hBs0 (fun h => (hgo' h).1) hc0) (fun h k => Kb.trans h k)
    (fun W l o o' hl ho _ _ => ⟨World.putObj_heap_other (by omega), World.putObj_heap_other (by omega)⟩) (Below.refl _ _) (fun _ => rfl)
    (fun pre W => (Below w.heap.size w W ∧ W0.heap.size ≤ W.heap.size) ∧ ∃ v, W.heap[r0 + 1]? = some (.cells #[v] 42 (0, 0)) ∧ EO r0 W v (keptL F pre) ∧ v.ownBlock ≠ some (r0 + 1) ∧ v.ownBlock ≠ some (r0 + 2))
    (fun c pre W => False)
    (fun s A B row hs hg hr => by
      obtain ⟨⟨h1, h2⟩, v, h3, h4, h5⟩ := hs
      exact ⟨⟨hBk A B row h1 hg hr, Nat.le_trans h2 hg.size⟩, v, hRk A B row v h3 hg hr, hEk A B row v _ h4 hg hr, h5⟩)
    (fun c s A B row hs hg hr => hs)
    ⟨⟨hB0, Nat.le_refl _⟩, _, hbx0, hEO0, by simp [Value.ownBlock], by simp [Value.ownBlock]⟩
    (fun x a' W => ∃ Bx, W0.heap.size ≤ Bx ∧ W.heap[Bx]? = some (.cells (entS (zM.getD x.1 dsl)).cells 41 (0, 0)) ∧ (∀ v, W.heap[r0 + 1]? = some (.cells #[v] 42 (0, 0)) → v.ownBlock ≠ some Bx) ∧ a' = { tmps := #[.slice ao n cap, .slice bo m cbp, undef, undef, .slice none 0 0, .slice go (n + m) capg, .pointer (some ⟨r0 + 1, 0, none⟩), .pointer (some ⟨Bx, 0, none⟩), .bool (abv zM x.1), .slice ao n cap, .slice bo m cbp, .slice (some ⟨w.heap.size, 0, none⟩) 2 2, .slice go (n + m) capg, .slice go (n + m) capg, .tuple #[], .slice go (n + m) capg, .int .i64 ((n : Int) + (m : Int)), .slice (some ⟨r0, 0, none⟩) 0 (n + m), .slice go (n + m) capg, .func (.func 171) #[] #[.pointer (some ⟨r0 + 2, 0, none⟩)], entS (zM.getD x.1 dsl), .bool (abv zM x.1), undef, undef, undef, undef, undef, undef, undef, undef, undef, undef, undef], defers := [] })
    (fun x a' _ A B row hs hg hr => by
      obtain ⟨Bx, e1, e2, e4, e3⟩ := hs
      refine ⟨Bx, e1, (hg.block _ (Array.getElem?_eq_some_iff.1 e2).1 (fun e => ?_)).trans e2, fun v hv => e4 v ?_, e3⟩
      · obtain ⟨_, o, h1, h2⟩ := hr _ e.symm
        rw [e2] at h1
        cases h1
        cases h2
      · have := (Array.getElem?_eq_some_iff.1 e2).1
        rw [hg.block _ (by omega) (fun e => by have := (hr _ e.symm).1; omega)] at hv
        exact hv)
    ?assign ?body ?done ?stop
  case assign =>
    rintro l pre x W K ⟨⟨hb1, hz1⟩, v, hr1, hE1, hv1, hv2⟩ hK
    unfold encs
    generalize hE : zM.getD x.1 dsl = E at hK ⊢
    obtain ⟨⟨a0, a1, a2, a3⟩, so, sn, sc⟩ := E
    unfold entS ent at hK ⊢
    simp only [Value.cells] at hK ⊢
    gi_wp2
    have hs1 := hb1.size
    have hrl := (Array.getElem?_eq_some_iff.1 hr1).1
    obtain ⟨_, _, ho1, _⟩ := id hE1
    refine hK _ _ (keeps_bl (bl1 _ _)) ⟨Below.heap_alloc _ _ _ (by omega), Below.heap_alloc _ _ _ (by omega)⟩ ⟨⟨bl_step hb1 (bl1 _ _), by simp; omega⟩, v, (Below.heap_alloc _ _ _ hrl).trans hr1, hE1.bl (bl1 _ _), hv1, hv2⟩ ⟨W.heap.size, hz1, heap_alloc_new _ _, fun u hu hc => ?_, rfl⟩
    rw [Below.heap_alloc _ _ _ hrl, hr1] at hu
    simp only [Option.some.injEq, Obj.cells.injEq, Array.mk.injEq, List.cons.injEq] at hu
    obtain ⟨⟨rfl, _⟩, _⟩ := hu
    have := (ownE_lt ho1 _ hc).2
    omega
  case body =>
    rintro l pre x a' W hl ⟨r, hr⟩ ⟨⟨hb1, hz1⟩, v, hr1, hE1, hv1, hv2⟩ ⟨Bx, hBx, hX, hvx, rfl⟩ hlt
    have hxl := x.2
    obtain ⟨e, he⟩ : ∃ e, F[x.1]? = some e := ⟨F[x.1]'(by omega), List.getElem?_eq_getElem (by omega)⟩
    have hzx : zM[x.1]? = some (zM.getD x.1 dsl) := by rw [List.getD_eq_getElem?_getD, List.getElem?_eq_getElem hxl]; rfl
    obtain ⟨hlab, hrow, heE⟩ := hFx x.1 e _ he hzx
    have hme := HML.out e heE
    have hsnoc := keptL_snoc F pre x e he
    have habx := hab x.1 (by omega)
    have hkl := keptL_len F pre
    have hgl := (hgo' (by omega)).2
    have hvx1 := hvx v hr1
    rw [habx]
    clear hab hFx hc0 hgo' hzx hvx he HML hEk hRk hBk habx
    generalize zM.getD x.1 dsl = X at *
    obtain ⟨⟨a0, a1, a2, a3⟩, so, sn, sc⟩ := X
    obtain ⟨ex, em⟩ := e
    simp only at hlab hrow hme
    subst hlab
    unfold entS ent at *
    simp only [Value.cells] at *
    cases hq : abvE F x.1 with
    | false =>
      rw [hq] at hsnoc
      simp only [Bool.false_eq_true, if_false] at hsnoc
      have fin : KeepsFrom W0.heap.size W W ∧ Kb g (r0 + 2) W W ∧ (Below w.heap.size w W ∧ W0.heap.size ≤ W.heap.size) ∧ ∃ v, W.heap[r0 + 1]? = some (.cells #[v] 42 (0, 0)) ∧ EO r0 W v (keptL F (pre ++ [x])) ∧ v.ownBlock ≠ some (r0 + 1) ∧ v.ownBlock ≠ some (r0 + 2) :=
        ⟨keeps_bl (Below.refl _ _), ⟨rfl, rfl⟩, ⟨hb1, hz1⟩, v, hr1, by rw [hsnoc]; exact hE1, hv1, hv2⟩
      clear hsnoc
      gi_wp2
      exact fin
    | true =>
      rw [hq] at hsnoc
      simp only [if_true] at hsnoc
      have kX := fun j => cell_of_row W Bx j _ 41 (0, 0) hX
      have k0 := kX 0
      have k1 := kX 1
      have k2 := kX 2
      have k3 := kX 3
      have k4 := kX 4
      simp at k0 k1 k2 k3 k4
      have kR := cell_of_row W (r0 + 1) 0 _ 42 (0, 0) hr1
      simp at kR
      obtain ⟨vo, vc, hv, _⟩ := hE1.er
      have HVN : Hid (∀ k i, v ≠ .int k i) := fun k i e => by rw [hv] at e; cases e
      clear hv
      have u0 : Below W.heap.size W W.drew := (Below.refl _ _).drew
      have HS : Hid (∀ W', Below W.heap.size W W' → Sm Bx (r0 + 1) (a0, a1, a2, a3) so sn sc v W') := fun W' u => ⟨bl_cell u k0, bl_cell u k1, bl_cell u k2, bl_cell u k3, bl_cell u k4, bl_cell u kR⟩
      have s0 := HS.out _ u0
      have hcl := bclone_any W.drew so sn sc em ((hrow.below hb1 (Nat.le_refl _)).below u0 (Nat.le_refl _)) (by have := hrow.1; omega)
      have hol : ∀ k, v.ownBlock = some k → r0 ≤ k ∧ k < W.heap.size := by
        obtain ⟨_, _, ho1, _⟩ := id hE1
        exact ownE_lt ho1
      have HOC : Hid (∀ r, v.ownBlock = some r → ∃ c t f, W.heap[r]? = some (.cells c t f)) := by
        obtain ⟨_, _, ho1, _⟩ := id hE1
        exact own_cells ho1
      clear k0 k1 k2 k3 k4 kX kR hX
      unfold Sm at s0
      gi_wp2_with fail
      refine beginR (Sm Bx (r0 + 1) (a0, a1, a2, a3) so sn sc v) 9 (by kernel_rfl) (by kernel_rfl) s0 (fun hHeld => ?_)
      unfold Sm at hHeld
      refine tqE 0 ?_
      refine tqE 1 ?_
      refine tqE 2 ?_
      refine tqE 3 ?_
      refine tqE 4 ?_
      refine upE 5 rfl (by kernel_rfl) (fun K hK => ?_)
      go_simp
      refine hcl.mono ?_
      rintro eo W1 ⟨v1, rfl, hown1, hu1⟩
      obtain ⟨qo, qc, rfl, hrow1, hblk1⟩ := own_bytes hown1
      have u1 := bl_step u0 hu1
      have s1 := HS.out _ u1
      have ua := bl_step u1 (bl1 W1 (.cells #[.int .u64 (a0 : Nat), .int .i64 a1, .int .u64 (a2 : Nat), .int .i64 a3, .slice qo em.length qc] 41))
      have hcells : ∀ j u, (cells5 ((a0, a1, a2, a3), (qo, em.length, qc)))[j]? = some u → (W1.alloc (.cells #[.int .u64 (a0 : Nat), .int .i64 a1, .int .u64 (a2 : Nat), .int .i64 a3, .slice qo em.length qc] 41)).cell? ((⟨W1.heap.size, 0, none⟩ : Addr).add j) = some u := fun j u hj => by
        rw [Addr.add_lit, Nat.zero_add]
        exact cell_box W1 _ 41 j u (by simpa [cells5] using hj)
      have hrow2 := hrow1.below (bl1 W1 (.cells #[.int .u64 (a0 : Nat), .int .i64 a1, .int .u64 (a2 : Nat), .int .i64 a3, .slice qo em.length qc] 41)) (Nat.le_refl _)
      have hEa := hE1.bl ua
      obtain ⟨W2, hW2⟩ : ∃ W, Hid (W1.alloc (.cells #[.int .u64 (a0 : Nat), .int .i64 a1, .int .u64 (a2 : Nat), .int .i64 a3, .slice qo em.length qc] 41) = W) := ⟨_, rfl⟩
      rw [hW2.out] at ua hcells hrow2 hEa
      have hsW := ua.size
      obtain ⟨v', W3, hrun, hE3, hg3, hat3⟩ := run_append_EO hEa ⟨W1.heap.size, 0, none⟩ 1 (a0, a1, a2, a3) (qo, em.length, qc) em hcells hrow2 (fun a ha hn => ⟨by have := (hblk1 a ha).1; have : W.drew.heap.size = W.heap.size := rfl; omega, fun e => by have h1 := (hblk1 a ha).1; have h2 := (hol _ e).2; have : W.drew.heap.size = W.heap.size := rfl; omega⟩) (by omega) (by omega) 42
      obtain ⟨vo', vc', hv', -⟩ := id hE3.er
      generalize (keptL F pre ++ [((a0, a1, a2, a3), em)]).length = vl at hv'
      subst hv'
      have hkeep : ∀ k, k < W.heap.size → v.ownBlock ≠ some k → W3.heap[k]? = W.heap[k]? := fun k hk hne => (hg3.block k (by omega) (fun e => hne e.symm)).trans (ua.block k hk)
      have hr3 : W3.heap[r0 + 1]? = some (.cells #[v] 42 (0, 0)) := (hkeep _ (by omega) hv1).trans hr1
      have hsW3 := hg3.size
      have hvo' : ∀ k, k < W.heap.size → v.ownBlock ≠ some k → (Value.slice vo' vl vc').ownBlock ≠ some k := fun k hk hne e => by
        rcases hat3 with h | h
        · exact hne (h ▸ e)
        · rw [h] at e; simp at e; omega
      have s3 : Sm Bx (r0 + 1) (a0, a1, a2, a3) so sn sc v W3 := by
        have hxl := s0.1
        have hBl : Bx < W.heap.size := World.block_lt_of_cell? W.drew ⟨Bx, 0, none⟩ hxl
        have hkx : ∀ j u, W.drew.cell? ⟨Bx, j, none⟩ = some u → W3.cell? ⟨Bx, j, none⟩ = some u := fun j u hu => (World.cell?_of_block (a := ⟨Bx, j, none⟩) (w := W.drew) (hkeep Bx hBl hvx1)).trans hu
        exact ⟨hkx 0 _ s0.1, hkx 1 _ s0.2.1, hkx 2 _ s0.2.2.1, hkx 3 _ s0.2.2.2.1, hkx 4 _ s0.2.2.2.2.1, (World.cell?_of_block (a := ⟨r0 + 1, 0, none⟩) (w := W.drew) (hkeep (r0 + 1) (by omega) hv1)).trans s0.2.2.2.2.2⟩
      have s2 := HS.out _ ua
      have he3 := setCell_eq_setRow W3 (r0 + 1) 0 _ 42 (0, 0) (.slice vo' vl vc') hr3
      have kR3 := cell_of_row W3 (r0 + 1) 0 _ 42 (0, 0) hr3
      have zR3 := frozen_of_row W3 (r0 + 1) 0 _ 42 hr3
      simp at kR3
      have FIN : Hid (KeepsFrom W0.heap.size W (W3.setCell ⟨r0 + 1, 0, none⟩ (.slice vo' vl vc')) ∧ Kb g (r0 + 2) W (W3.setCell ⟨r0 + 1, 0, none⟩ (.slice vo' vl vc')) ∧ (Below w.heap.size w (W3.setCell ⟨r0 + 1, 0, none⟩ (.slice vo' vl vc')) ∧ W0.heap.size ≤ (W3.setCell ⟨r0 + 1, 0, none⟩ (.slice vo' vl vc')).heap.size) ∧ ∃ v, (W3.setCell ⟨r0 + 1, 0, none⟩ (.slice vo' vl vc')).heap[r0 + 1]? = some (.cells #[v] 42 (0, 0)) ∧ EO r0 (W3.setCell ⟨r0 + 1, 0, none⟩ (.slice vo' vl vc')) v (keptL F (pre ++ [x])) ∧ v.ownBlock ≠ some (r0 + 1) ∧ v.ownBlock ≠ some (r0 + 2)) := by
        have hset : #[v].setIfInBounds 0 (.slice vo' vl vc') = #[.slice vo' vl vc'] := rfl
        rw [he3, hset]
        refine ⟨((keeps_bl ua).trans (keeps_grown hg3 (fun r hr => ?_))).trans (keeps_grown (T.gr_setRow _ _ _) (fun r hr => ?_)), ⟨?_, ?_⟩, ⟨bl_row (bl_grown (bl_step hb1 ua) (Nat.le_trans hb1.size ua.size) hg3 (fun k hk => by have := (hol k hk).1; omega)) (by omega) _, by rw [setRow_size]; omega⟩, _, setRow_heap _ _ _ _ _ _ hr3, ?_, hvo' _ (by omega) hv1, hvo' _ (by omega) hv2⟩
        · obtain ⟨c, t, f, h⟩ := HOC.out r hr
          exact ⟨c, t, f, (ua.block r (hol r hr).2).trans h⟩
        · cases hr
          exact ⟨_, _, _, hr3⟩
        · exact (setRow_other _ _ _ _ (by omega)).trans (hkeep g (by omega) (fun e => by have := (hol g e).1; omega))
        · exact (setRow_other _ _ _ _ (by omega)).trans (hkeep (r0 + 2) (by omega) hv2)
        · rw [hsnoc]
          exact hE3.box (r0 + 1) v (.slice vo' vl vc') 42 hr3 HVN.out (hvo' _ (by omega) hv1)
      clear hcl hown1 hu1 s0 hblk1 hcells hrow2 hEa hrow1 hE3 hg3 hat3 hkeep hr3 hvo' he3 hr1 hE1 hrow hsnoc u1 hol
      go_wp2_with fail
      refine hK.out _ _ s1 (fun hHeld => ?_)
      clear hK K
      (try simp only [Act.put, List.setIfInBounds_toArray, List.set_cons_zero, List.set_cons_succ])
      refine tqE 6 ?_
      refine upE 7 rfl (by kernel_rfl) (fun K hK => ?_)
      go_simp
      rw [hW2.out]
      refine hK.out _ _ s2 (fun hHeld => ?_)
      clear hK K
      (try simp only [Act.put, List.setIfInBounds_toArray, List.set_cons_zero, List.set_cons_succ])
      refine upE 8 rfl (by kernel_rfl) (fun K hK => ?_)
      refine step_append_run rfl (.tmp 23) (.tmp 30) 42 rfl _ _ (.slice vo' vl vc') W3 rfl rfl hrun ?_
      refine hK.out _ _ s3 (fun hHeld => ?_)
      clear hK K
      (try simp only [Act.put, List.setIfInBounds_toArray, List.set_cons_zero, List.set_cons_succ])
      refine lastE 9 rfl (by kernel_rfl) (by kernel_rfl) (fun K hK => ?_)
      go_simp
      refine hK.out _ _ ?_
      clear hK K
      (try simp only [Act.put, List.setIfInBounds_toArray, List.set_cons_zero, List.set_cons_succ])
      refine doneE (by kernel_rfl) ?_ _
      refine Nrm.normal ?_
      gi_wp2
      exact FIN.out
  case done =>
    rintro D ps W hD rfl ⟨⟨hb, hz⟩, v, hr, hE, hv1, hv2⟩ hK2
    rw [keptL_firsts F zM.length (Nat.le_refl _) (by omega), hzl, ← hEl, hK] at hE
    have hDl := (Array.getElem?_eq_some_iff.1 hK2).1
    have hB' : Below w.heap.size w (W.putObj D (.deferred none)) := hb.trans (belowK_b (w := w) (Nat.le_refl _) _ D _ _ (by omega) hK2 rfl rfl)
    have hgp : W.grownBy (W.putObj D (.deferred none)) (some D) := ⟨rfl, rfl, rfl, by simp [World.putObj], fun i hi hne => World.putObj_heap_other (fun e => hne (by rw [e]))⟩
    have hE' : EO w.heap.size (W.putObj D (.deferred none)) v (mergeE [] E) := by
      exact (hE.gr2 hgp (fun r hr => by cases hr; exact ⟨_, hK2, rfl⟩)).base hr0w
    have kR := cell_of_row W (r0 + 1) 0 _ 42 (0, 0) hr
    simp at kR
    gi_wp2
    refine ⟨by simp, .inl ⟨_, _, rfl, run_takeDeferred hK2, ?_⟩⟩
    refine ⟨v, ?_, v, rfl, hE', hB'⟩
    simp [results, Tryz.results110, go_sem]
  case stop =>
    rintro D c pre W hD hpre h hK2
    exact h.elim
end Go.Proofs.YtlaihgdfedalmaaGreat

/-
  The document's Merge: entries by their labels, with others.
-/
namespace Go.Proofs.YtlaihgdfedalmaaGreat
open Go.RowKit
set_option linter.unusedVariables false
set_option linter.unusedSimpArgs false

/-- A row of entries that is being laid behind the world w1; their messages lay there before. -/
def OB (p : Nat → Prop) (w1 w : World) (v : Value) (out : List En) : Prop :=
  ∃ xs : List (Lb × Sl), xs.length = out.length ∧ w.ownsRow w1.heap.size 41 5 v out.length (flatE xs) ∧ (∀ (j : Nat) e x, out[j]? = some e → xs[j]? = some x → x.1 = e.1 ∧ Cd.Row w1 x.2.1 x.2.2.1 x.2.2.2 e.2 ∧ ∀ a, x.2.1 = some a → 0 < x.2.2.1 → p a.block) ∧ Below w1.heap.size w1 w
theorem OB.nil (p : Nat → Prop) (w1 : World) : OB p w1 w1 (.slice none 0 0) [] := ⟨[], rfl, World.ownsRow_nil _ _ _ _, fun j e x he => by simp at he, Below.refl _ _⟩
theorem OB.bl {p : Nat → Prop} {w1 w w' : World} {v : Value} {out : List En} (h : OB p w1 w v out) (u : Below w.heap.size w w') : OB p w1 w' v out := by
  obtain ⟨xs, h1, h2, h3, h4⟩ := h
  refine ⟨xs, h1, h2.kept (row := none) ⟨u.os, u.tape, u.output, u.size, fun i hi _ => u.block i hi⟩ ?_, h3, h4.trans (u.mono h4.size)⟩
  cases v.ownBlock with
  | none => exact Or.inl rfl
  | some k => exact Or.inr (by simp)
theorem OB.shape {p : Nat → Prop} {w1 w : World} {v : Value} {out : List En} (h : OB p w1 w v out) : ∃ ao cap, v = .slice ao out.length cap := by
  obtain ⟨xs, h1, h2, _⟩ := h
  rcases h2.2 with ⟨rfl, h0⟩ | ⟨g, cap, cur, rfl, _⟩
  · exact ⟨_, _, by rw [h0]⟩
  · exact ⟨_, _, rfl⟩
theorem OB.er {p : Nat → Prop} {w1 w : World} {v : Value} {out : List En} (h : OB p w1 w v out) (hp : ∀ k, w1.heap.size ≤ k → p k) : ∃ ao cap, v = .slice ao out.length cap ∧ ER p w ao out.length out ∧ (ao = none → cap = 0) := by
  obtain ⟨xs, hl, ho, hm, hb⟩ := h
  rcases id ho.2 with ⟨rfl, h0⟩ | ⟨g, cap, cur, rfl, hg, hh, hnc, hcm, hcs, htk⟩
  · exact ⟨none, 0, by rw [h0], ⟨rfl, by omega, fun hn => by omega⟩, fun _ => rfl⟩
  · refine ⟨_, _, rfl, ⟨rfl, by unfold maxLen at hcm; omega, fun hn => ⟨g, 0, rfl, hp g hg, fun j e he => ?_⟩⟩, fun e => by cases e⟩
    have hj : j < out.length := (List.getElem?_eq_some_iff.1 he).1
    obtain ⟨x, hx⟩ : ∃ x, xs[j]? = some x := ⟨xs[j]'(by omega), List.getElem?_eq_getElem (by omega)⟩
    obtain ⟨h1, h2, h3⟩ := hm j e x he hx
    have hcell : ∀ i, i < 5 → w.cell? ⟨g, 0 + j * 5 + i, none⟩ = (cells5 x)[i]? := fun i hi => by
      have e := flatE_get xs j x i hx hi
      have hlt : i < (cells5 x).length := by simpa [cells5] using hi
      rw [List.getElem?_eq_getElem hlt] at e ⊢
      have := ho.cells (g := g) rfl (5 * j + i) _ e
      rw [Addr.add_lit] at this
      rw [show 0 + j * 5 + i = 0 + (5 * j + i) by omega]
      exact this
    obtain ⟨x1, so, sn, sc⟩ := x
    simp only at h1
    subst h1
    exact ⟨so, sn, sc, hcell 0 (by omega), hcell 1 (by omega), hcell 2 (by omega), hcell 3 (by omega), hcell 4 (by omega), row_bl h2 hb (row_lt h2), h3⟩
/-- Where laying stands. -/
def LaidE (e : En) (l out : List En) (d : Bool) (i : Nat) : Prop :=
  (d = false ∧ out = l.take i ∧ ∀ j z, j < i → l[j]? = some z → ¬ ltL e.1 z.1) ∨ (d = true ∧ out ++ l.drop i = insR e l)
theorem drop_getE {l : List En} {i : Nat} {y : En} (h : l[i]? = some y) : l.drop i = y :: l.drop (i + 1) := by
  obtain ⟨h1, h2⟩ := List.getElem?_eq_some_iff.1 h
  rw [← h2]
  exact List.drop_eq_getElem_cons h1
theorem LaidE.behind {e y : En} {l out : List En} {i : Nat} (h : LaidE e l out true i) (hy : l[i]? = some y) : LaidE e l (out ++ [y]) true (i + 1) := by
  rcases h with ⟨h, _⟩ | ⟨_, h⟩
  · cases h
  · refine .inr ⟨rfl, ?_⟩
    rw [← h, drop_getE hy]
    simp
theorem LaidE.not {e y : En} {l out : List En} {i : Nat} (h : LaidE e l out false i) (hy : l[i]? = some y) (hlt : ¬ ltL e.1 y.1) : LaidE e l (out ++ [y]) false (i + 1) := by
  rcases h with ⟨_, h1, h2⟩ | ⟨h, _⟩
  · refine .inl ⟨rfl, by rw [h1, List.take_add_one, hy]; rfl, fun j z hj hz => ?_⟩
    by_cases e' : j = i
    · subst e'
      rw [hy] at hz
      cases hz
      exact hlt
    · exact h2 j z (by omega) hz
  · cases h
theorem und37s : (Tryz.prog.underlying 41).any (·.isRow) = true := by kernel_rfl
theorem info37 : (Tryz.prog.info? 41).map (·.size) = some 5 := by kernel_rfl
/-- An entry is read. -/
theorem wpList_load_E {ops : Array Oper} {rest : List Oper} {o : Oper} {a : Act} {w : World} {Q : Exit → Act → World → Prop} (hgd : o.guard = none) (x : Operand) (ho : o.op = .load 41 x) (b of : Nat) (hx : a.eval x = .pointer (some ⟨b, of, none⟩))
    (y : Lb) (v : Value) (h0 : w.cell? ⟨b, of, none⟩ = some (.int .u64 (y.1 : Nat))) (h1 : w.cell? ⟨b, of + 1, none⟩ = some (.int .i64 y.2.1)) (h2 : w.cell? ⟨b, of + 2, none⟩ = some (.int .u64 (y.2.2.1 : Nat))) (h3 : w.cell? ⟨b, of + 3, none⟩ = some (.int .i64 y.2.2.2)) (h4 : w.cell? ⟨b, of + 4, none⟩ = some v)
    (h : wpList Tryz.prog ops Q rest (a.put o.dst (.agg #[.int .u64 (y.1 : Nat), .int .i64 y.2.1, .int .u64 (y.2.2.1 : Nat), .int .i64 y.2.2.2, v])) w) : wpList Tryz.prog ops Q (o :: rest) a w := by
  obtain ⟨d, hd, hr⟩ := (Option.any_eq_true _ _).1 und37s
  refine wpList_load_mid hgd 41 x ho b of hx [.int .u64 (y.1 : Nat), .int .i64 y.2.1, .int .u64 (y.2.2.1 : Nat), .int .i64 y.2.2.2, v] d (fun j u hj => ?_) hd hr info37 h
  match j, hj with
  | 0, hj => simp at hj; subst hj; simpa using h0
  | 1, hj => simp at hj; subst hj; exact h1
  | 2, hj => simp at hj; subst hj; exact h2
  | 3, hj => simp at hj; subst hj; exact h3
  | 4, hj => simp at hj; subst hj; exact h4
  | n + 5, hj => simp at hj
end Go.Proofs.YtlaihgdfedalmaaGreat

/-
  Package total's store: the list of all that it holds, by their labels.
-/
namespace Go.Proofs.YtlaihgdfedalmaaGreat
open Go.RowKit Go.Sort
open Go.Maps (Keyed has size Tidy IsMap)
set_option linter.unusedVariables false

/-- What a range over the store has met so far. -/
structure Met (w : World) (b r n : Nat) (m : Lb → Option Sv) (D : DataW Value) (v : Value) (out : List (Lb × Sv)) (left : Lit → Bool) (cnt : Nat) (wr : World) : Prop where
  rg : wr.ranges Tryz.prog 39 vE b r n D left cnt
  row : wr.ownsRow w.heap.size 41 5 v out.length (flatE out)
  bl : Below w.heap.size w wr
  ne : v.ownBlock ≠ some r
  rb : w.heap.size ≤ r
  ins : ∀ y ∈ out, OkL y.1 ∧ m y.1 = some y.2 ∧ ∀ k, keyOf Tryz.prog 39 (lab y.1) = some k → left k = false
  all : ∀ x k, OkL x → keyOf Tryz.prog 39 (lab x) = some k → left k = false → ∀ s, m x = some s → (x, s) ∈ out
  nd : (out.map (·.1)).Nodup
  bound : out.length + cnt ≤ n
theorem Met.start {w w1 w2 : World} {b n : Nat} {m : Lb → Option Sv} {D : DataW Value} {v : Value}
    (hD : ∀ x k, OkL x → keyOf Tryz.prog 39 (lab x) = some k → has D k = (m x).isSome ∧ D.atKey k (.held (sv (none, 0, 0))) = .held (sv ((m x).getD (none, 0, 0))))
    (hrow : w1.ownsRow w.heap.size 41 5 v 0 []) (hg1 : w.grownBy w1 none) (hrg : w2.ranges Tryz.prog 39 vE b w1.heap.size n D (has D) (size D)) (hg2 : w1.grownBy w2 none) (hs : size D ≤ n) (hv : ∀ k, v.ownBlock = some k → k < w1.heap.size) :
    Met w b w1.heap.size n m D v [] (has D) (size D) w2 where
  rg := hrg
  row := hrow.kept hg2 (by cases hq : v.ownBlock with
    | none => exact Or.inl rfl
    | some k => exact Or.inr (by simp))
  bl := ⟨(hg1.trans hg2).os, (hg1.trans hg2).tape, (hg1.trans hg2).output, (hg1.trans hg2).size, fun k hk => (hg1.trans hg2).block k hk (by simp)⟩
  ne := fun e => by have := hv _ e; omega
  rb := hg1.size
  ins := fun y hy => by simp at hy
  all := fun x k hx hk hl s hs => by
    have := (hD x k hx hk).1
    rw [hl, hs] at this
    simp at this
  nd := by simp
  bound := by simpa using hs
/-- One more has come. -/
theorem Met.came {w wr w1 w2 : World} {b r n : Nat} {m : Lb → Option Sv} {D : DataW Value} {v v' : Value} {out : List (Lb × Sv)} {left : Lit → Bool} {cnt cnt' : Nat} {x : Lb} {s : Sv} {kl : Lit} {A B : Obj} (h : Met w b r n m D v out left cnt wr)
    (hx : OkL x) (hm : m x = some s) (hk : keyOf Tryz.prog 39 (lab x) = some kl) (hl : left kl = true) (hb : b < w.heap.size)
    (hrg : w1.ranges Tryz.prog 39 vE b r n D (fun z => left z && !z.sameKey kl) cnt') (hlt : cnt' < cnt) (hg : wr.grownBy w1 (some r)) (hs : w1.heap.size = wr.heap.size)
    (ho : w2.ownsRow w.heap.size 41 5 v' (out.length + 1) (flatE out ++ cells5 (x, s))) (hg2 : ((w1.alloc A).alloc B).grownBy w2 v.ownBlock) (hat : v'.ownBlock = v.ownBlock ∨ v'.ownBlock = some ((w1.alloc A).alloc B).heap.size) :
    Met w b r n m D v' (out ++ [(x, s)]) (fun z => left z && !z.sameKey kl) cnt' w2 where
  rg := ((hrg.alloc A).alloc B).kept hg2 (fun e => by have := (h.row.lt _ e.symm).1; omega) (fun e => h.ne e.symm)
  row := by rw [flatE_snoc, List.length_append]; exact ho
  bl := by
    have b1 : Below w.heap.size w w1 := bl_grown h.bl h.bl.size hg (fun k e => by cases e; exact h.rb)
    have b2 : Below w.heap.size w ((w1.alloc A).alloc B) := (b1.alloc b1.size A).alloc (by have := b1.size; simp; omega) B
    exact bl_grown b2 b2.size hg2 (fun k e => (h.row.lt k e).1)
  ne := by
    rcases hat with e | e
    · rw [e]; exact h.ne
    · rw [e]
      intro e
      have := hrg.lt
      simp at e
      omega
  rb := h.rb
  ins := fun y hy => by
    rcases List.mem_append.1 hy with hy | hy
    · obtain ⟨h1, h2, h3⟩ := h.ins y hy
      exact ⟨h1, h2, fun k hk => by simp [h3 k hk]⟩
    · simp at hy
      subst hy
      refine ⟨hx, hm, fun k hk' => ?_⟩
      obtain rfl : kl = k := by rw [hk] at hk'; exact Option.some.inj hk'
      have hss : kl.sameKey kl = true := by
        by_cases e : kl.sameKey kl = true
        · exact e
        · exfalso
          have := Q.keyed26.key hk
          cases kl <;> simp [Lit.sameKey] at e
          all_goals simp [WideAt.IsKeyLit] at this
      simp [hss]
  all := fun y k hy hk' hlf s' hs' => by
    by_cases e : y = x
    · subst e
      rw [hm] at hs'
      cases hs'
      simp
    · have hne : k ≠ kl := fun he => e (Q.lab_inj (Q.keyed26.inj hk' (he ▸ hk)))
      rw [Maps.sameKey_ne hne] at hlf
      simp at hlf
      exact List.mem_append_left _ (h.all y k hy hk' hlf s' hs')
  nd := by
    rw [List.map_append, List.nodup_append]
    refine ⟨h.nd, by simp, fun a ha c hc => ?_⟩
    simp at hc
    subst hc
    obtain ⟨y, hy, rfl⟩ := List.mem_map.1 ha
    intro e
    have := (h.ins y hy).2.2 kl (by rw [e]; exact hk)
    rw [this] at hl
    cases hl
  bound := by have := h.bound; simp; omega

/-- What the store holds: by their labels. -/
def Con (w : World) (m : Lb → Option Sv) (es : List En) : Prop :=
  Asc es ∧ (∀ e ∈ es, OkL e.1) ∧ (∀ x, OkL x → m x = none → findE es x = none) ∧ ∀ x s, OkL x → m x = some s → ∃ bs, findE es x = some bs ∧ Cd.Row w s.1 s.2.1 s.2.2 bs
/-- The entries of what a range has met. -/
def entsOf (es : List En) (out : List (Lb × Sv)) : List En := out.map (fun y => (y.1, (findE es y.1).getD []))
theorem find_mem {es : List En} {x : Lb} {bs : List UInt8} (h : findE es x = some bs) : (x, bs) ∈ es := by
  unfold findE at h
  cases hf : es.find? (fun e => decide (e.1 = x)) with
  | none => rw [hf] at h; simp at h
  | some e =>
    rw [hf] at h
    simp at h
    have h1 := List.mem_of_find?_eq_some hf
    have h2 := List.find?_some hf
    simp at h2
    rw [← h2, ← h]
    exact h1
theorem asc_uniq : ∀ {es : List En}, Asc es → ∀ {a b : En}, a ∈ es → b ∈ es → a.1 = b.1 → a = b
  | [], _, a, b, ha, _, _ => by simp at ha
  | x :: r, h, a, b, ha, hb, e => by
    have h' := List.pairwise_cons.1 h
    rw [List.mem_cons] at ha hb
    rcases ha with rfl | ha
    · rcases hb with rfl | hb
      · rfl
      · exact absurd (h'.1 b hb) (by rw [e]; exact ltL_irr _)
    · rcases hb with rfl | hb
      · exact absurd (h'.1 a ha) (by rw [e]; exact ltL_irr _)
      · exact asc_uniq h'.2 ha hb e
theorem mem_find {es : List En} (ha : Asc es) {e : En} (h : e ∈ es) : findE es e.1 = some e.2 := by
  unfold findE
  cases hf : es.find? (fun y => decide (y.1 = e.1)) with
  | none =>
    rw [List.find?_eq_none] at hf
    have := hf e h
    simp at this
  | some y =>
    have h1 := List.mem_of_find?_eq_some hf
    have h2 := List.find?_some hf
    simp at h2
    simp
    by_cases hy : y = e
    · rw [hy]
    · exact absurd (asc_uniq ha h1 h h2) hy
theorem ents_all {w : World} {b r n : Nat} {m : Lb → Option Sv} {D : DataW Value} {v : Value} {out : List (Lb × Sv)} {left : Lit → Bool} {cnt : Nat} {wr : World} (h : Met w b r n m D v out left cnt wr) (hl : ∀ k, left k = false) {es : List En} (hc : Con w m es) :
    mergeE [] (entsOf es out) = es := by
  refine asc_ext (mergeE_asc _ _ (by simp [Asc])) hc.1 (fun z => ?_)
  rw [mergeE_fst _ _ rfl]
  constructor
  · rintro ⟨i, hi, _⟩
    have hz := List.mem_of_getElem? hi
    unfold entsOf at hz
    obtain ⟨y, hy, rfl⟩ := List.mem_map.1 hz
    obtain ⟨h1, h2, _⟩ := h.ins y hy
    obtain ⟨bs, h3, _⟩ := hc.2.2.2 _ _ h1 h2
    rw [h3]
    exact find_mem h3
  · intro hz
    have hok := hc.2.1 z hz
    have hf := mem_find hc.1 hz
    have hm : ∃ s, m z.1 = some s := by
      cases hm : m z.1 with
      | none => have := hc.2.2.1 _ hok hm; rw [hf] at this; cases this
      | some s => exact ⟨s, rfl⟩
    obtain ⟨s, hm⟩ := hm
    obtain ⟨k, hk⟩ := Q.key26 hok
    have hin := h.all z.1 k hok hk (hl k) s hm
    obtain ⟨i, hi⟩ := List.getElem?_of_mem hin
    refine ⟨i, ?_, fun j y hj hy => ?_⟩
    · unfold entsOf
      rw [List.getElem?_map, hi]
      simp [hf]
    · unfold entsOf at hy
      rw [List.getElem?_map] at hy
      cases hj' : out[j]? with
      | none => rw [hj'] at hy; cases hy
      | some u =>
        rw [hj'] at hy
        simp at hy
        subst hy
        simp
        intro e
        have hnd := h.nd
        have hj2 := (List.getElem?_eq_some_iff.1 hj')
        have hi2 := (List.getElem?_eq_some_iff.1 hi)
        have := List.pairwise_iff_getElem.1 hnd j i (by rw [List.length_map]; exact hj2.1) (by rw [List.length_map]; exact hi2.1) hj
        rw [List.getElem_map, List.getElem_map, hj2.2, hi2.2] at this
        exact this e
theorem ents_er {w : World} {b r n : Nat} {m : Lb → Option Sv} {D : DataW Value} {v : Value} {out : List (Lb × Sv)} {left : Lit → Bool} {cnt : Nat} {wr : World} (h : Met w b r n m D v out left cnt wr) {es : List En} (hc : Con w m es) :
    ∃ ao cap, v = .slice ao out.length cap ∧ ER (fun _ => True) wr ao out.length (entsOf es out) ∧ (ao = none → out.length = 0 ∧ cap = 0) := by
  have hOB : OB (fun _ => True) w wr v (entsOf es out) := by
    refine ⟨out, by simp [entsOf], by rw [show (entsOf es out).length = out.length by simp [entsOf]]; exact h.row, fun j e x he hx => ?_, h.bl⟩
    unfold entsOf at he
    rw [List.getElem?_map, hx] at he
    simp at he
    subst he
    obtain ⟨h1, h2, _⟩ := h.ins x (List.mem_of_getElem? hx)
    obtain ⟨bs, h3, h4⟩ := hc.2.2.2 _ _ h1 h2
    rw [h3]
    exact ⟨rfl, h4, fun _ _ _ => trivial⟩
  obtain ⟨ao, cap, h1, h2, h3⟩ := hOB.er (fun _ _ => trivial)
  rw [show (entsOf es out).length = out.length by simp [entsOf]] at h1 h2
  refine ⟨ao, cap, h1, h2, fun e => ⟨?_, h3 e⟩⟩
  by_cases h0 : out.length = 0
  · exact h0
  · obtain ⟨b, off, e', _⟩ := h2.2.2 (by omega)
    rw [e] at e'
    cases e'
set_option maxRecDepth 10000 in
set_option maxHeartbeats 1000000 in
/-- All that the store holds, by their labels, in new memory. -/
theorem list_any (w : World) (b n : Nat) (m : Lb → Option Sv) (es : List En) (h : StoIs w b n m) (hn : n ≤ 100000) (hc : Con w m es) (hml : ∀ e ∈ es, e.2.length ≤ 140737488355328) :
    Calls Tryz.prog 77 #[.map (some b)] w fun e w' => ∃ v B, e = .returned v ∧ w.heap.size ≤ B ∧ EO B w' v es ∧ Below w.heap.size w w' := by
  have hb := h.lt
  obtain ⟨D, ho, hD⟩ := h
  have hlen := fun ty => ho.len und95 ty
  have hsz : size D ≤ n := by
    obtain ⟨es, clock, hb, F, hle, rfl⟩ := ho
    simpa [Maps.size, DataW.length_sorted] using hle
  obtain ⟨i0, hi0, hz0, hz1, hz2⟩ := info_parts infoE29
  go_enter Tryz.func77, Tryz.ntmps77
  go_wp2_with (first | (at_make; refine wpList_make_own _ rfl _ _ 42 rfl w.heap.size 41 i0 (.agg #[.int .u64 0, .int .i64 0, .int .u64 0, .int .i64 0, .slice none 0 0]) 5 und35 hi0 hz0 hz1 _ _ _ (size D) rfl rfl rfl (by rw [hz2]; omega) (by unfold maxLen; omega) (Nat.le_refl _) ?_; intro w1 hrow hg1) | (at_range; refine wpList_range_own _ rfl _ 95 rfl 39 37 Q.keyed26 und95 vE b n D rfl (ho.kept hg1 (by simp)) ?_; intro w2 hrg hg2 hs2))
  go_frame
  have hM0 : Met w b w1.heap.size n m D (.slice (some ⟨w.heap.size, 0, none⟩) 0 (size D)) [] (has D) (size D) w2 := Met.start hD hrow hg1 hrg hg2 hsz (fun k hk => (hrow.lt k hk).2)
  generalize hr : w1.heap.size = r at *
  clear hrow hg1 hrg hg2 hs2 hlen
  go_loopw [3] (fun v wr => ∃ out left cnt, Met w b r n m D v out left cnt wr) (fun _ wr => wr.rangeLeft b r)
  case atStart => exact ⟨_, _, _, hM0⟩
  case round =>
    obtain ⟨out, left, cnt, hM⟩ := hrel
    clear hM0
    go_wp2_with (at_next; refine wpList_next_ranges _ rfl _ rfl 39 Q.keyed26 vE (fun x : { x : Lb // OkL x } => lab x.1) (fun s : Sv => sv s) (fun key kl hk => key_inv hk) (fun v y hv => ?iv) b r n _ _ _ rfl hM.rg ?_ ?_)
    case iv =>
      cases v <;> simp [vE] at hv
      exact ⟨(_, _, _), rfl⟩
    case refine_1 =>
      intro h0 hl
      have he := ents_all hM hl hc
      obtain ⟨ao, cap, rfl, hER, hz⟩ := ents_er hM hc
      have hbnd := hM.bound
      have HB : Hid (Below w.heap.size w wr) := hM.bl
      have hel : (entsOf es out).length = out.length := by simp [entsOf]
      have hmg := merge_any wr none 0 0 [] (ER.nil _ _ _) (fun _ => ⟨rfl, rfl⟩) ao out.length cap (entsOf es out) hER hz (by omega) (fun e he' => by
        rw [List.nil_append] at he'
        unfold entsOf at he'
        obtain ⟨y, hy, rfl⟩ := List.mem_map.1 he'
        obtain ⟨q1, q2, _⟩ := hM.ins y hy
        obtain ⟨bs, q3, _⟩ := hc.2.2.2 _ _ q1 q2
        simp only [q3, Option.getD_some]
        exact hml _ (find_mem q3))
      rw [List.nil_append, he] at hmg
      clear hM he hER hz hD ho hc hml
      go_wp2_with fail
      refine hmg.mono ?_
      rintro e w4 ⟨v, rfl, hE, hb4⟩
      clear hmg
      go_wp2
      go_ret
      exact ⟨_, _, rfl, HB.out.size, hE, HB.out.trans (hb4.mono HB.out.size)⟩
    case refine_2 =>
      intro a0 a1 a2 a3 hx s0 s1 s2 kl yd yp w3 cnt' hk hlk hv hat hrg' hlt hg3 hs3 hen
      have hm : m (a0, a1, a2, a3) = some (s0, s1, s2) := by
        obtain ⟨q1, q2⟩ := hD _ kl hx hk
        rw [Maps.has_true_of_atKey hat] at q1
        rw [hat] at q2
        simp [vE, sv] at hv
        obtain ⟨rfl, _⟩ := hv
        cases hq : m (a0, a1, a2, a3) with
        | none => rw [hq] at q1; cases q1
        | some s =>
          rw [hq] at q2
          simp [sv] at q2
          obtain ⟨t0, t1, t2⟩ := s
          simp at q2
          obtain ⟨rfl, rfl, rfl⟩ := q2
          rfl
      have hbnd := hM.bound
      have hne : ∀ k, u3.ownBlock = some k → k ≠ r := fun k hq e => hM.ne (by rw [hq, e])
      have hrow3 : w3.ownsRow w.heap.size 41 5 u3 out.length (flatE out) := hM.row.kept hg3 (by
        cases hq : u3.ownBlock with
        | none => exact Or.inl rfl
        | some k => exact Or.inr (by simp; exact hne k hq))
      have hrowA : ((w3.alloc (.cells #[.int .u64 (a0 : Nat), .int .i64 a1, .int .u64 (a2 : Nat), .int .i64 a3] 39)).alloc (.cells #[.int .u64 (a0 : Nat), .int .i64 a1, .int .u64 (a2 : Nat), .int .i64 a3, .slice s0 s1 s2] 41)).ownsRow w.heap.size 41 5 u3 out.length (flatE out) := (hrow3.alloc _).alloc _
      have hcA : ∀ j u, (cells5 ((a0, a1, a2, a3), (s0, s1, s2)))[j]? = some u → ((w3.alloc (.cells #[.int .u64 (a0 : Nat), .int .i64 a1, .int .u64 (a2 : Nat), .int .i64 a3] 39)).alloc (.cells #[.int .u64 (a0 : Nat), .int .i64 a1, .int .u64 (a2 : Nat), .int .i64 a3, .slice s0 s1 s2] 41)).cell? ((⟨w3.heap.size + 1, 0, none⟩ : Addr).add j) = some u := fun j u hj => by
        rw [Addr.add_lit, Nat.zero_add]
        have := cell_box (w3.alloc (.cells #[.int .u64 (a0 : Nat), .int .i64 a1, .int .u64 (a2 : Nat), .int .i64 a3] 39)) #[.int .u64 (a0 : Nat), .int .i64 a1, .int .u64 (a2 : Nat), .int .i64 a3, .slice s0 s1 s2] 41 j u (by simpa [cells5] using hj)
        simpa using this
      have hsB : w.heap.size ≤ ((w3.alloc (.cells #[.int .u64 (a0 : Nat), .int .i64 a1, .int .u64 (a2 : Nat), .int .i64 a3] 39)).alloc (.cells #[.int .u64 (a0 : Nat), .int .i64 a1, .int .u64 (a2 : Nat), .int .i64 a3, .slice s0 s1 s2] 41)).heap.size := by have := hM.bl.size; simp; omega
      have hfin : ∀ v' w4, w4.ownsRow w.heap.size 41 5 v' (out.length + 1) (flatE out ++ cells5 ((a0, a1, a2, a3), (s0, s1, s2))) → ((w3.alloc (.cells #[.int .u64 (a0 : Nat), .int .i64 a1, .int .u64 (a2 : Nat), .int .i64 a3] 39)).alloc (.cells #[.int .u64 (a0 : Nat), .int .i64 a1, .int .u64 (a2 : Nat), .int .i64 a3, .slice s0 s1 s2] 41)).grownBy w4 u3.ownBlock → (v'.ownBlock = u3.ownBlock ∨ v'.ownBlock = some ((w3.alloc (.cells #[.int .u64 (a0 : Nat), .int .i64 a1, .int .u64 (a2 : Nat), .int .i64 a3] 39)).alloc (.cells #[.int .u64 (a0 : Nat), .int .i64 a1, .int .u64 (a2 : Nat), .int .i64 a3, .slice s0 s1 s2] 41)).heap.size) → Hid (Met w b r n m D v' (out ++ [((a0, a1, a2, a3), (s0, s1, s2))]) (fun z => left z && !z.sameKey kl) cnt' w4 ∧ w4.rangeLeft b r < wr.rangeLeft b r) := fun v' w4 q1 q2 q3 => by
        have M' := hM.came hx hm hk hlk hb hrg' hlt hg3 hs3 q1 q2 q3
        refine ⟨M', ?_⟩
        rw [M'.rg.left_eq, hM.rg.left_eq]
        exact hlt
      unfold lab at hen
      unfold sv at hen
      simp only at hen
      have HOUT : Hid (out.length ≤ 100000) := by unfold Hid; omega
      clear hM hrow3 hm hD hc hml ho hx hk hlk hv hat hrg' hlt hg3 hs3 hne hbnd hb hsz
      unfold lab sv
      simp only
      go_wp2_with (at_builtin; refine wpList_append_own_at _ rfl (.tmp 16) (.tmp 20) 42 rfl w.heap.size 41 i0 (.agg #[.int .u64 0, .int .i64 0, .int .u64 0, .int .i64 0, .slice none 0 0]) 5 56 und35 hi0 hz0 hz1 hz2 rfl (by decide) _ out.length (flatE out) rfl hrowA ⟨w3.heap.size + 1, 0, none⟩ 1 1 (cells5 ((a0, a1, a2, a3), (s0, s1, s2))) ?d7 ?d0 hcA ?d3 ?d4 ?d5 hsB ?_)
      case d7 => rfl
      case d0 => simp [cells5]
      case d3 => intro u hu; simp [cells5] at hu; rcases hu with rfl | rfl | rfl | rfl | rfl <;> rfl
      case d4 => have := HOUT.out; unfold maxLen; omega
      case d5 => have := HOUT.out; omega
      intro v' w4 q1 q2 _ q3
      have HF := hfin v' w4 q1 q2 (by simpa using q3)
      clear hfin q1 q2 q3 hrowA hcA hsB hen
      go_wp2
      go_roundw
      case rel => first | exact ⟨_, _, _, HF.out.1⟩ | ((repeat apply Exists.intro); exact ⟨⟨_, _, _, HF.out.1⟩, rfl⟩)
      case measure => exact HF.out.2
end Go.Proofs.YtlaihgdfedalmaaGreat

/-
  Package total's line: an order of labels, none twice, with the set of those that are in it.
-/
namespace Go.Proofs.YtlaihgdfedalmaaGreat
open Go.RowKit Go.Sort
set_option linter.unusedVariables false

theorem bl_rowL {B : Nat} {w W : World} (h : Below B w W) {g : Nat} (hg : B ≤ g) (cs : Array Value) : Below B w (W.setRow g cs) := h.trans ⟨rfl, rfl, rfl, by simp, fun k hk => setRow_other _ _ _ _ (by omega)⟩
theorem infoS98 : (Tryz.prog.info? 98).map (·.size) = some 2 := by kernel_rfl
set_option maxRecDepth 10000 in
set_option maxHeartbeats 1000000 in
/-- newLine: the order, and the set of its labels. -/
theorem newLine_any (w : World) (ao : Option Addr) (n cap : Nat) (ls : List Lb) (h : LR w ao n ls) (hok : ∀ x ∈ ls, OkL x) (hn : n < 4294967296) :
    Calls Tryz.prog 42 #[.slice ao n cap] w fun e w' => ∃ m ls', e = .returned (.agg #[.slice ao n cap, .map (some m)]) ∧ w.heap.size ≤ m ∧ Q.SetIs w' m n ls' ∧ (∀ x, x ∈ ls' ↔ x ∈ ls) ∧ Below w.heap.size w w' := by
  have hl := h.1
  have hmm := fun W => Q.run_makeMap_hint (n : Int) W
  go_enter Tryz.func42, Tryz.ntmps42
  go_wp2_with fail
  go_loopw [11] (fun iv wr => ∃ k : Nat, k ≤ n ∧ iv = .int .i64 k ∧ wr.heap[w.heap.size]? = some (.cells #[.slice none 0 0, .map none] 98 (0, 0)) ∧ (∃ ls', Q.SetIs wr (w.heap.size + 1) k ls' ∧ ∀ x, x ∈ ls' ↔ x ∈ ls.take k) ∧ Below w.heap.size w wr) (fun iv _ => n - (intOf iv).toNat)
  case atStart =>
    refine ⟨0, by omega, rfl, ?_, ⟨[], ?_, by simp⟩, bl2 _ _ _⟩
    · rw [Below.heap_alloc _ _ _ (by simp)]
      exact heap_alloc_new w _
    · have := Q.set_made (w.alloc (.cells #[.slice none 0 0, .map none] 98))
      rw [World.size_alloc] at this
      exact this
  case round =>
    obtain ⟨k, hk, rfl, hB, ⟨ls', hS, hmem⟩, hb⟩ := hrel
    by_cases hlt : k < n
    · have hltI : (k : Int) < (n : Int) := by omega
      obtain ⟨y, hy⟩ : ∃ y, ls[k]? = some y := ⟨ls[k]'(by omega), List.getElem?_eq_getElem (by omega)⟩
      obtain ⟨b, off, hao, hc⟩ := (h.up hb).2.2 (by omega)
      obtain ⟨c0, c1, c2, c3⟩ := hc k y hy
      have hyok := hok y (List.mem_of_getElem? hy)
      have hS1 : Q.SetIs (wr.alloc (.cells #[.int .u64 (y.1 : Nat), .int .i64 y.2.1, .int .u64 (y.2.2.1 : Nat), .int .i64 y.2.2.2] 39)) (w.heap.size + 1) k ls' := hS.of_block (Below.heap_alloc _ _ _ hS.lt)
      obtain ⟨w2, hrun, hS2, hg2⟩ := hS1.store (by unfold maxLen; omega) hyok
      unfold lab at hrun
      have hBlt : w.heap.size < wr.heap.size := (Array.getElem?_eq_some_iff.1 hB).1
      have hB2 : w2.heap[w.heap.size]? = some (.cells #[.slice none 0 0, .map none] 98 (0, 0)) := (hg2.block _ (by simp; omega) (by simp)).trans ((Below.heap_alloc _ _ _ hBlt).trans hB)
      have hb2 : Below w.heap.size w w2 := bl_grown (hb.alloc hb.size _) (by have := hb.size; simp; omega) hg2 (fun j hj => by cases hj; omega)
      have HM : Hid (∀ x, x ∈ y :: ls' ↔ x ∈ ls.take (k + 1)) := by
        intro x
        rw [List.take_add_one, hy]
        simp [hmem x, or_comm]
      subst hao
      clear hc hy hS hmem hS1 hg2 hyok hb hB h hok hmm hBlt
      have hk0 : ¬ ((k : Int) < 0) := by omega
      go_wp2
      go_roundw
      case rel => first | exact ⟨k + 1, by omega, by go_num, hB2, ⟨_, hS2, HM.out⟩, hb2⟩ | ((repeat apply Exists.intro); exact ⟨⟨k + 1, by omega, by go_num, hB2, ⟨_, hS2, HM.out⟩, hb2⟩, rfl⟩)
      case measure => simp [intOf]; omega
    · obtain rfl : k = n := by omega
      rw [List.take_of_length_le (by omega)] at hmem
      have HH : Hid (Q.SetIs wr (w.heap.size + 1) k ls' ∧ (∀ x, x ∈ ls' ↔ x ∈ ls) ∧ Below w.heap.size w wr) := ⟨hS, hmem, hb⟩
      clear h hok hmm hS hmem hb
      go_wp2_with (refine wpList_store_row rfl 98 (.tmp 2) (.tmp 21) rfl w.heap.size #[.slice ao k cap, .map (some (w.heap.size + 1))] rfl rfl 98 _ hB infoS98 rfl (by simp [Value.oneCell']) ?_)
      have k0 : (wr.setRow w.heap.size #[.slice ao k cap, .map (some (w.heap.size + 1))]).cell? ⟨w.heap.size, 0, none⟩ = some (.slice ao k cap) := cell_setRow_same _ _ 0 _ _ _ _ hB
      have k1 : (wr.setRow w.heap.size #[.slice ao k cap, .map (some (w.heap.size + 1))]).cell? ⟨w.heap.size, 1, none⟩ = some (.map (some (w.heap.size + 1))) := cell_setRow_same _ _ 1 _ _ _ _ hB
      refine bodyPost_ret (v := .agg #[.slice ao k cap, .map (some (w.heap.size + 1))]) ?_ rfl ?_
      · simp [results, Tryz.results42, go_sem, k0, k1]
      · refine ⟨_, _, rfl, by omega, HH.out.1.of_block ?_, HH.out.2.1, ?_⟩
        · exact setRow_other _ _ _ _ (by omega)
        · exact bl_rowL HH.out.2.2 (Nat.le_refl _) _

/-- The label at a place, the first of which is 1. -/
def atL (ls : List Lb) (p : Int) : Option Lb := if p < 1 then none else ls[(p - 1).toNat]?
theorem infoS39 : (Tryz.prog.info? 39).map (·.size) = some 4 := by kernel_rfl
set_option maxRecDepth 10000 in
theorem at_any (w : World) (q o : Nat) (ao : Option Addr) (n cap : Nat) (ls : List Lb) (hq : w.cell? ⟨q, o, none⟩ = some (.slice ao n cap)) (h : LR w ao n ls) (p : Int) (hp : In p) :
    Calls Tryz.prog 73 #[.pointer (some ⟨q, o, none⟩), .int .i64 p] w fun e w' => e = .returned (.tuple #[lab ((atL ls p).getD (0, 0, 0, 0)), .bool (atL ls p).isSome]) ∧ Below w.heap.size w w' := by
  have hl := h.1
  have hB : (w.alloc (.cells #[.int .u64 0, .int .i64 0, .int .u64 0, .int .i64 0] 39)).heap[w.heap.size]? = some (.cells #[.int .u64 0, .int .i64 0, .int .u64 0, .int .i64 0] 39 (0, 0)) := heap_alloc_new w _
  have hq1 : (w.alloc (.cells #[.int .u64 0, .int .i64 0, .int .u64 0, .int .i64 0] 39)).cell? ⟨q, o, none⟩ = some (.slice ao n cap) := bl_cell (bl1 w _) hq
  by_cases hc : p < 1 ∨ (n : Int) < p
  · have ha : atL ls p = none := by
      unfold atL
      split
      · rfl
      · exact List.getElem?_eq_none (by omega)
    rw [ha]
    have hpk : (decide (p < 1) = true) ∨ (decide (p < 1) = false ∧ decide ((n : Int) < p) = true) := by
      by_cases h1 : p < 1
      · exact .inl (by simp [h1])
      · exact .inr ⟨by simp [h1], by simp; omega⟩
    have k : ∀ j v, #[Value.int .u64 0, .int .i64 0, .int .u64 0, .int .i64 0][j]? = some v → ((w.alloc (.cells #[.int .u64 0, .int .i64 0, .int .u64 0, .int .i64 0] 39)).setRow w.heap.size #[.int .u64 0, .int .i64 0, .int .u64 0, .int .i64 0]).cell? ⟨w.heap.size, j, none⟩ = some v := fun j v hj => (cell_setRow_same _ _ j _ #[.int .u64 0, .int .i64 0, .int .u64 0, .int .i64 0] _ _ hB).trans hj
    have k0 := k 0 _ rfl
    have k1 := k 1 _ rfl
    have k2 := k 2 _ rfl
    have k3 := k 3 _ rfl
    clear k hc hl h hq ha
    rcases hpk with h1 | ⟨h1, h2⟩
    · go_enter Tryz.func73, Tryz.ntmps73
      go_wp2_with (refine wpList_store_row rfl 39 (.tmp 4) (.tmp 17) rfl w.heap.size #[.int .u64 0, .int .i64 0, .int .u64 0, .int .i64 0] rfl rfl 39 _ hB infoS39 rfl (by simp [Value.oneCell']) ?_)
      refine bodyPost_ret (v := .tuple #[.agg #[.int .u64 0, .int .i64 0, .int .u64 0, .int .i64 0], .bool false]) ?_ rfl ?_
      · simp [results, Tryz.results73, go_sem, k0, k1, k2, k3]
      · exact ⟨rfl, bl_rowL (bl1 w _) (Nat.le_refl _) _⟩
    · go_enter Tryz.func73, Tryz.ntmps73
      go_wp2_with (refine wpList_store_row rfl 39 (.tmp 4) (.tmp 17) rfl w.heap.size #[.int .u64 0, .int .i64 0, .int .u64 0, .int .i64 0] rfl rfl 39 _ hB infoS39 rfl (by simp [Value.oneCell']) ?_)
      refine bodyPost_ret (v := .tuple #[.agg #[.int .u64 0, .int .i64 0, .int .u64 0, .int .i64 0], .bool false]) ?_ rfl ?_
      · simp [results, Tryz.results73, go_sem, k0, k1, k2, k3]
      · exact ⟨rfl, bl_rowL (bl1 w _) (Nat.le_refl _) _⟩
  · obtain ⟨i, rfl⟩ : ∃ i : Nat, p = (i : Int) + 1 := ⟨(p - 1).toNat, by omega⟩
    have hi : i < n := by omega
    obtain ⟨y, hy⟩ : ∃ y, ls[i]? = some y := ⟨ls[i]'(by omega), List.getElem?_eq_getElem (by omega)⟩
    have ha : atL ls ((i : Int) + 1) = some y := by
      unfold atL
      rw [if_neg (by omega), show (((i : Int) + 1 - 1).toNat) = i by omega]
      exact hy
    rw [ha]
    obtain ⟨b, off, hao, hcs⟩ := (h.up (bl1 w (.cells #[.int .u64 0, .int .i64 0, .int .u64 0, .int .i64 0] 39))).2.2 (by omega)
    obtain ⟨c0, c1, c2, c3⟩ := hcs i y hy
    subst hao
    have k : ∀ j v, #[Value.int .u64 (y.1 : Nat), .int .i64 y.2.1, .int .u64 (y.2.2.1 : Nat), .int .i64 y.2.2.2][j]? = some v → ((w.alloc (.cells #[.int .u64 0, .int .i64 0, .int .u64 0, .int .i64 0] 39)).setRow w.heap.size #[.int .u64 (y.1 : Nat), .int .i64 y.2.1, .int .u64 (y.2.2.1 : Nat), .int .i64 y.2.2.2]).cell? ⟨w.heap.size, j, none⟩ = some v := fun j v hj => (cell_setRow_same _ _ j _ #[.int .u64 (y.1 : Nat), .int .i64 y.2.1, .int .u64 (y.2.2.1 : Nat), .int .i64 y.2.2.2] _ _ hB).trans hj
    have k0 := k 0 _ rfl
    have k1 := k 1 _ rfl
    have k2 := k 2 _ rfl
    have k3 := k 3 _ rfl
    have h1 : decide ((i : Int) + 1 < 1) = false := by simp; omega
    have h2 : decide ((n : Int) < (i : Int) + 1) = false := by simp; omega
    have h3 := h.2.1
    have h6 : (i : Int) + 1 - 1 = (i : Int) := by omega
    have h4 : ¬ ((i : Int) < 0) := by omega
    have h5 : (i : Int) < (n : Int) := by omega
    clear k hc hl h hq ha hcs hy hp
    go_enter Tryz.func73, Tryz.ntmps73
    go_wp2_with (refine wpList_store_row rfl 39 (.tmp 4) (.tmp 25) rfl w.heap.size #[.int .u64 (y.1 : Nat), .int .i64 y.2.1, .int .u64 (y.2.2.1 : Nat), .int .i64 y.2.2.2] rfl rfl 39 _ hB infoS39 rfl (by simp [Value.oneCell']) ?_)
    refine bodyPost_ret (v := .tuple #[.agg #[.int .u64 (y.1 : Nat), .int .i64 y.2.1, .int .u64 (y.2.2.1 : Nat), .int .i64 y.2.2.2], .bool true]) ?_ rfl ?_
    · simp [results, Tryz.results73, go_sem, k0, k1, k2, k3]
    · exact ⟨rfl, bl_rowL (bl1 w _) (Nat.le_refl _) _⟩
/-- All of the order, in new memory. -/
theorem lineList_any (w : World) (q o : Nat) (ao : Option Addr) (n cap : Nat) (ls : List Lb) (hq : w.cell? ⟨q, o, none⟩ = some (.slice ao n cap)) (h : LR w ao n ls) (hn : n ≤ 5000) (hz : ao = none → n = 0) :
    Calls Tryz.prog 78 #[.pointer (some ⟨q, o, none⟩)] w fun e w' => ∃ v, e = .returned v ∧ w'.ownsRow w.heap.size 39 4 v n (flat ls) ∧ Below w.heap.size w w' := by
  have hcl := Q.clone_any w ao n cap ls h hn hz
  clear h
  go_enter Tryz.func78, Tryz.ntmps78
  go_wp2_with fail
  refine hcl.mono ?_
  rintro e w1 ⟨v, rfl, hv, hb⟩
  clear hcl
  go_wp2
  go_ret
  exact ⟨_, rfl, hv, hb⟩
end Go.Proofs.YtlaihgdfedalmaaGreat
