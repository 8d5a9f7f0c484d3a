/-
  What the texts of package cut lean on: steps of a drawn region, and worlds that have grown.
  States as they lie in memory, cell by cell, and a block of them that is written to.
  slices' swapRange of states.
  Views' numbers: which of two is greater, and which are right (package ident), and the document's answers.
  By what cut.Join sorts: views' numbers, and of one view's states those that have more.
  slices' rotate of states.
  By what is sorted, and what stays ahead of its like: plain facts on lists of states that bear where they stood.
  Items and their bytes as they lie in memory, and copies of them (slices.Clone, bytes.Clone).
  Rows of states in memory; which of two numbers of views are one; the closures of cut.
  Of each view the state that has the most: what that is, and how the document lays it.
  slices.IndexFunc of states, at what cut asks of them; what the statements ask of states.
  The document's Items and Same, of lists that say the same.
  Joined states of the document.
  cut's copied: the same items in memory of their own.
  Copies of items once more: with their room told.
  The document's Join.
-/
import Derived.Test.YtlonbbepoamnmaaDoorProg
import Derived.WalkKit
import Derived.WalkSpells
import Derived.WalkLawsBesides
import Derived.Outline
import Derived.BigQuiet
import Derived.Below
import Derived.OwnWalk
import Derived.Deep.QuietTactic
import Derived.Deep.RegionHeld3
import Derived.Laws.AppendOwn
import Derived.Laws.OwnMore
import Derived.Laws.StructEq
import Derived.Maps.AppendAt
import Derived.Sort.Grow
import Derived.Laws.CopyRow
import Derived.Lib.SliceRun
import Derived.Laws.Tables
import Derived.BigRegion
import Derived.Laws.AppendOwnNone
import Derived.Lib.SlBytesConst
import Derived.Laws.BytesArg
import Derived.Deep.Cut
import Derived.Deep.CutRange
namespace Go.Proofs.YtlonbbepoamnmaaDoor
open Go.RowKit Go.Sort
set_option linter.unusedVariables false

theorem ret_int {k : IntKind} {a b : Int} (h : a = b) : Ending.returned (.int k a) = .returned (.int k b) := by rw [h]
theorem ret_bool {a b : Bool} (h : a = b) : Ending.returned (.bool a) = .returned (.bool b) := by rw [h]
theorem take_first {P : Program} {md : Region.Mode} {l : List Oper} {Q : Exit → Act → World → Prop} {S : World → Prop} (i : Nat) {oi : Oper} {v : Value} {fuel : Nat} {listed : Array Bool} {a : Act} {w : World} (hi : l[i]? = some oi)
    (hs : Region.noSelect l.toArray = true) (hf : Region.free md l.toArray listed i = true) (hr : (Region.ready md l.toArray listed).contains i = true)
    (hQ : ∀ c a w, Q (.panic c) (a.put oi.dst v) w → Q (.panic c) a w) (hy : YieldsIf P l.toArray S oi v a) (hS : S w)
    (h : wpAnyH P md l.toArray Q S fuel (listed.setIfInBounds i true) (a.put oi.dst v) w) : wpAnyH P md l.toArray Q S (fuel + 1) listed a w :=
  wpAnyH_take (by simpa using hi) hs hf hr hQ hy hS h
theorem comes_up {P : Program} {md : Region.Mode} {l : List Oper} {Q : Exit → Act → World → Prop} {S : World → Prop} (i : Nat) {o : Oper} {fuel : Nat} {listed : Array Bool} {a : Act} {w : World} (hi : l[i]? = some o) (hr : Region.ready md l.toArray listed = [i])
    (h : ∀ K' : Act → World → Prop, Shut (∀ a w, S w → (S w → wpAnyH P md l.toArray Q S fuel (listed.setIfInBounds i true) a w) → K' a w) → if Region.wanted o (yielded l.toArray a.tmps) = true then Oper.wp P o a w K' Q else K' (a.put o.dst undef) w) :
    wpAnyH P md l.toArray Q S (fuel + 1) listed a w :=
  wpAnyH_ready (rs := [i]) hr (by simp) (AllReadyH.cons (by simpa using hi) h AllReadyH.nil)
theorem comes_up2 {P : Program} {md : Region.Mode} {l : List Oper} {Q : Exit → Act → World → Prop} {S : World → Prop} (i j : Nat) {o o' : Oper} {fuel : Nat} {listed : Array Bool} {a : Act} {w : World} (hi : l[i]? = some o) (hj : l[j]? = some o') (hr : Region.ready md l.toArray listed = [i, j])
    (h : ∀ K' : Act → World → Prop, Shut (∀ a w, S w → (S w → wpAnyH P md l.toArray Q S fuel (listed.setIfInBounds i true) a w) → K' a w) → if Region.wanted o (yielded l.toArray a.tmps) = true then Oper.wp P o a w K' Q else K' (a.put o.dst undef) w)
    (h' : ∀ K' : Act → World → Prop, Shut (∀ a w, S w → (S w → wpAnyH P md l.toArray Q S fuel (listed.setIfInBounds j true) a w) → K' a w) → if Region.wanted o' (yielded l.toArray a.tmps) = true then Oper.wp P o' a w K' Q else K' (a.put o'.dst undef) w) :
    wpAnyH P md l.toArray Q S (fuel + 1) listed a w :=
  wpAnyH_ready (rs := [i, j]) hr (by simp) (AllReadyH.cons (by simpa using hi) h (AllReadyH.cons (by simpa using hj) h' AllReadyH.nil))
theorem step_append_run {P : Program} {ops : Array Oper} {o : Oper} {a : Act} {w : World} {K : Act → World → Prop} {Q : Exit → Act → World → Prop} {E : Prop}
    (hg : o.guard = none) (s x : Operand) (t : TypeId) (hop : o.op = Op.call { callee := Callee.builtin Builtin.append, args := #[s, x], argTypes := #[t, t] })
    (v y v' : Value) (w' : World) (hs : a.eval s = v) (hx : a.eval x = y) (hrun : (Builtin.append_ #[t, t] o.type #[v, y]).run P w = .ok v' w')
    (hK : K (a.put o.dst v') w') : if Region.wanted o (yielded ops a.tmps) = true then Oper.wp P o a w K Q else E := by
  have hw : Region.wanted o (yielded ops a.tmps) = true := by simp [Region.wanted, hg]
  rw [if_pos hw]
  unfold Oper.wp
  simp [execOp, hop, resolve, invoke, builtin, hs, hx, hrun, Result.andThen]
  exact hK
theorem info_parts {e : TypeId} {z : Value} {s b : Nat} (h : (Tryd.prog.info? e).map (fun i => (i.zero, i.size, i.bytes)) = some (some z, s, b)) : ∃ i, Tryd.prog.info? e = some i ∧ i.zero = some z ∧ i.size = s ∧ i.bytes = b := by
  obtain ⟨i, hi, hz⟩ := Option.map_eq_some_iff.1 h
  simp only [Prod.mk.injEq] at hz
  exact ⟨i, hi, hz.1, hz.2.1, hz.2.2⟩

theorem bl_drewN {B : Nat} {w w' : World} (h : Below B w w') (q : Nat) : Below B w (w'.drewN q) := ⟨h.os, h.tape, h.output, h.size, h.block⟩
theorem bl_grown {B : Nat} {w a b : World} {row : Option Nat} (h : Below B w a) (hB : B ≤ a.heap.size) (g : a.grownBy b row) (hr : ∀ k, row = some k → B ≤ k) : Below B w b :=
  ⟨g.os.trans h.os, g.tape.trans h.tape, g.output.trans h.output, Nat.le_trans h.size g.size, fun k hk => (g.block k (by omega) (fun e => by have := hr k e.symm; omega)).trans (h.block k hk)⟩
theorem bl_step {w a b : World} (h : Below w.heap.size w a) (k : Below a.heap.size a b) : Below w.heap.size w b := h.trans (k.mono h.size)
theorem bl2 (w : World) (o1 o2 : Obj) : Below w.heap.size w ((w.alloc o1).alloc o2) := ((Below.refl _ _).alloc (Nat.le_refl _) _).alloc (by simp) _
theorem bl1 (w : World) (o1 : Obj) : Below w.heap.size w (w.alloc o1) := (Below.refl _ _).alloc (Nat.le_refl _) _

/-- Nothing of old has turned, and no draw was taken back. -/
structure Up (w w' : World) : Prop where
  bl : Below w.heap.size w w'
  dr : w.drawn ≤ w'.drawn
theorem Up.refl (w : World) : Up w w := ⟨Below.refl _ _, Nat.le_refl _⟩
theorem Up.trans {a b c : World} (h : Up a b) (k : Up b c) : Up a c := ⟨bl_step h.bl k.bl, Nat.le_trans h.dr k.dr⟩
theorem Up.alloc {a b : World} (h : Up a b) (o : Obj) : Up a (b.alloc o) := ⟨h.bl.alloc h.bl.size o, h.dr⟩
theorem Up.drewN {a b : World} (h : Up a b) (n : Nat) : Up a (b.drewN n) := ⟨bl_drewN h.bl n, Nat.le_trans h.dr (Nat.le_add_right _ _)⟩
theorem Up.drew {a b : World} (h : Up a b) : Up a b.drew := ⟨h.bl.drew, Nat.le_trans h.dr (Nat.le_add_right _ _)⟩
theorem Up.cell {a b : World} (h : Up a b) {ad : Addr} {v : Value} (hc : a.cell? ad = some v) : b.cell? ad = some v := (h.bl.cell (World.block_lt_of_cell? a _ hc)).trans hc
theorem Up.grow {w w' : World} (h : Up w w') : ∃ q os, w' = grow (w.drewN q) os := by
  refine ⟨w'.drawn - w.drawn, w'.heap.extract w.heap.size w'.heap.size, ?_⟩
  obtain ⟨hb, hd⟩ := h
  have he : w'.heap = w.heap ++ w'.heap.extract w.heap.size w'.heap.size := by
    apply Array.ext_getElem?
    intro i
    rw [Array.getElem?_append]
    split
    · rename_i hi; exact hb.block i hi
    · rename_i hi
      rw [Array.getElem?_extract]
      have hs := hb.size
      by_cases h2 : i < w'.heap.size
      · rw [if_pos (by simp; omega), show w.heap.size + (i - w.heap.size) = i by omega]
      · rw [if_neg (by simp; omega), Array.getElem?_eq_none (by omega)]
  have e1 := hb.os
  have e2 := hb.tape
  have e3 := hb.output
  cases w'
  cases w
  simp only [Sort.grow, World.drewN] at *
  simp only [World.mk.injEq]
  exact ⟨he, e2, by omega, e1, e3⟩
theorem cell_box (w : World) (c : Array Value) (t : TypeId) (j : Nat) (v : Value) (hj : c[j]? = some v) : (w.alloc (.cells c t)).cell? ⟨w.heap.size, j, none⟩ = some v := by
  have hb : (w.alloc (.cells c t)).heap[w.heap.size]? = some (.cells c t (0, 0)) := heap_alloc_new _ _
  unfold World.cell?; rw [hb]; simpa using hj
end Go.Proofs.YtlonbbepoamnmaaDoor
namespace Go.Proofs.YtlonbbepoamnmaaDoor
open Go.RowKit Go.Sort
set_option linter.unusedVariables false

/-- A state: its view's number, its floor, and where its items lie. -/
abbrev Sx := Nat × Int × Int × Option Addr × Nat × Nat
def cellsS (x : Sx) : List Value := [.int .u64 (x.1 : Nat), .int .i64 x.2.1, .int .i64 x.2.2.1, .slice x.2.2.2.1 x.2.2.2.2.1 x.2.2.2.2.2]
def flat (ls : List Sx) : List Value := ls.flatMap cellsS
theorem flat_len (ls : List Sx) : (flat ls).length = ls.length * 4 := by
  induction ls with
  | nil => rfl
  | cons a r ih => simp [flat, cellsS] at ih ⊢; omega
theorem flat_cons (x : Sx) (ls : List Sx) : flat (x :: ls) = cellsS x ++ flat ls := by simp [flat]
theorem flat_app (a b : List Sx) : flat (a ++ b) = flat a ++ flat b := by simp [flat]
theorem flat_one {ls : List Sx} {u : Value} (h : u ∈ flat ls) : u.oneCell' = true := by
  obtain ⟨x, _, hx⟩ := List.mem_flatMap.1 h
  simp [cellsS] at hx
  rcases hx with rfl | rfl | rfl | rfl <;> rfl
theorem flat_get : ∀ (ls : List Sx) (j : Nat) (x : Sx) (i : Nat), ls[j]? = some x → i < 4 → (flat ls)[4 * j + i]? = (cellsS x)[i]?
  | [], j, x, i, h, hi => by simp at h
  | a :: r, 0, x, i, h, hi => by
    simp at h; subst h
    rw [flat_cons, List.getElem?_append_left (by simp [cellsS]; omega)]; simp
  | a :: r, j + 1, x, i, h, hi => by
    rw [flat_cons, List.getElem?_append_right (by simp [cellsS]; omega), show 4 * (j + 1) + i - (cellsS a).length = 4 * j + i by simp [cellsS]; omega]
    exact flat_get r j x i (by simpa using h) hi
theorem gr_refl (w : World) (r : Option Nat) : w.grownBy w r := ⟨rfl, rfl, rfl, Nat.le_refl _, fun _ _ _ => rfl⟩
theorem gr_trans {a b c : World} {r : Option Nat} (h : a.grownBy b r) (k : b.grownBy c r) : a.grownBy c r :=
  ⟨k.os.trans h.os, k.tape.trans h.tape, k.output.trans h.output, Nat.le_trans h.size k.size, fun i hi hne => (k.block i (Nat.lt_of_lt_of_le hi h.size) hne).trans (h.block i hi hne)⟩
theorem gr_below {a b : World} (h : Below a.heap.size a b) (r : Option Nat) : a.grownBy b r := ⟨h.os, h.tape, h.output, h.size, fun i hi _ => h.block i hi⟩
theorem gr_setRow (w : World) (g : Nat) (cs : Array Value) : w.grownBy (w.setRow g cs) (some g) := ⟨rfl, rfl, rfl, by simp, fun i hi hne => setRow_other _ _ _ _ (fun e => hne (by rw [e]))⟩

/-- Block g has these labels, and behind them what is left of its room. -/
def Blk (w : World) (g cap : Nat) (cur : List Sx) : Prop := ∃ rest : List Value, w.heap[g]? = some (.cells (flat cur ++ rest).toArray 45 (0, 0)) ∧ (flat cur ++ rest).length = cap * 4
theorem Blk.of_block {w w' : World} {g cap : Nat} {cur : List Sx} (h : Blk w g cap cur) (e : w'.heap[g]? = w.heap[g]?) : Blk w' g cap cur := by
  obtain ⟨r, h1, h2⟩ := h
  exact ⟨r, by rw [e]; exact h1, h2⟩
theorem Blk.lt {w : World} {g cap : Nat} {cur : List Sx} (h : Blk w g cap cur) : g < w.heap.size := by
  obtain ⟨r, h1, _⟩ := h
  exact (Array.getElem?_eq_some_iff.1 h1).1
theorem Blk.up {w w' : World} {g cap : Nat} {cur : List Sx} (h : Blk w g cap cur) (u : Below w.heap.size w w') : Blk w' g cap cur := h.of_block (u.block g h.lt)
theorem Blk.len {w : World} {g cap : Nat} {cur : List Sx} (h : Blk w g cap cur) : cur.length ≤ cap := by
  obtain ⟨r, _, h2⟩ := h
  rw [List.length_append, flat_len] at h2
  omega
theorem Blk.ofOwn {w : World} {B n g cap : Nat} {ls : List Sx} (h : w.ownsRow B 45 4 (.slice (some ⟨g, 0, none⟩) n cap) n (flat ls)) : Blk w g cap ls ∧ B ≤ g ∧ n ≤ cap ∧ cap ≤ maxLen := by
  rcases h.2 with ⟨h0, _⟩ | ⟨g', cap', cur, h0, a, b, c, d, e, f⟩
  · cases h0
  · simp only [Value.slice.injEq, Option.some.injEq, Addr.mk.injEq] at h0
    obtain ⟨⟨rfl, _, _⟩, _, rfl⟩ := h0
    refine ⟨⟨cur.toList.drop (n * 4), ?_, ?_⟩, a, c, d⟩
    · rw [b, ← f, List.take_append_drop]
    · rw [← f, List.take_append_drop]; simpa using e
theorem Blk.own {w : World} {B g cap : Nat} {cur : List Sx} (h : Blk w g cap cur) (hB : B ≤ g) (hc : cap ≤ maxLen) (i : Nat) (hi : i ≤ cur.length) : w.ownsRow B 45 4 (.slice (some ⟨g, 0, none⟩) i cap) i (flat (cur.take i)) := by
  have hl := h.len
  obtain ⟨r, h1, h2⟩ := h
  refine ⟨by rw [flat_len, List.length_take]; omega, .inr ⟨g, cap, _, rfl, hB, h1, by omega, hc, by simpa using h2, ?_⟩⟩
  have e : flat cur = flat (cur.take i) ++ flat (cur.drop i) := by rw [← flat_app, List.take_append_drop]
  simp only [e, List.append_assoc]
  rw [List.take_append_of_le_length (by rw [flat_len, List.length_take]; omega), List.take_of_length_le (by rw [flat_len, List.length_take]; omega)]
theorem Blk.cell {w : World} {g cap : Nat} {cur : List Sx} (h : Blk w g cap cur) {j : Nat} {x : Sx} (hj : cur[j]? = some x) :
    w.cell? ⟨g, j * 4, none⟩ = some (.int .u64 (x.1 : Nat)) ∧ w.cell? ⟨g, j * 4 + 1, none⟩ = some (.int .i64 x.2.1) ∧ w.cell? ⟨g, j * 4 + 2, none⟩ = some (.int .i64 x.2.2.1) ∧ w.cell? ⟨g, j * 4 + 3, none⟩ = some (.slice x.2.2.2.1 x.2.2.2.2.1 x.2.2.2.2.2) := by
  obtain ⟨r, h1, h2⟩ := h
  have hjl : j < cur.length := (List.getElem?_eq_some_iff.1 hj).1
  have key : ∀ i, i < 4 → w.cell? ⟨g, j * 4 + i, none⟩ = (cellsS x)[i]? := fun i hi => by
    unfold World.cell?
    rw [h1]
    simp only [List.getElem?_toArray]
    rw [List.getElem?_append_left (by rw [flat_len]; omega), show j * 4 + i = 4 * j + i by omega]
    exact flat_get cur j x i hj hi
  exact ⟨key 0 (by omega), key 1 (by omega), key 2 (by omega), key 3 (by omega)⟩
theorem flat_set (ls : List Sx) (i : Nat) (x : Sx) (hi : i < ls.length) : flat (ls.set i x) = (flat ls).take (i * 4) ++ cellsS x ++ (flat ls).drop (i * 4 + 4) := by
  obtain ⟨a, y, b, rfl, rfl⟩ : ∃ a y b, ls = a ++ y :: b ∧ i = a.length := ⟨ls.take i, ls[i], ls.drop (i + 1), by simp, by rw [List.length_take]; omega⟩
  have l1 := flat_len a
  have e : (a ++ y :: b).set a.length x = a ++ x :: b := by simp
  rw [e, flat_app, flat_cons, flat_app, flat_cons]
  rw [List.take_append_of_le_length (by omega), List.take_of_length_le (by omega), List.drop_append, List.drop_of_length_le (by omega), show a.length * 4 + 4 - (flat a).length = (cellsS y).length by simp [cellsS]; omega]
  simp
theorem Blk.set {w : World} {g cap : Nat} {cur : List Sx} (h : Blk w g cap cur) {i : Nat} (hi : i < cur.length) (x : Sx) :
    ∃ w', Sem.run Tryd.prog (storeCells ⟨g, i * 4, none⟩ [.int .u64 (x.1 : Nat), .int .i64 x.2.1, .int .i64 x.2.2.1, .slice x.2.2.2.1 x.2.2.2.2.1 x.2.2.2.2.2] 0) w = .ok () w' ∧ Blk w' g cap (cur.set i x) ∧ w.grownBy w' (some g) := by
  obtain ⟨r, h1, h2⟩ := h
  have hl := flat_len cur
  have hrun := run_storeCells_at (P := Tryd.prog) g (i * 4) 45 (cellsS x) 0 _ w h1 (by simp [cellsS]; omega) (by simp [cellsS, Value.oneCell'])
  refine ⟨_, hrun, ⟨r, ?_, ?_⟩, gr_setRow _ _ _⟩
  · rw [setRow_heap _ _ _ _ _ _ h1]
    congr 3
    rw [flat_set _ _ _ hi]
    have a1 : (flat cur ++ r).take (i * 4 + 0) = (flat cur).take (i * 4) := List.take_append_of_le_length (by omega)
    have a2 : (flat cur ++ r).drop (i * 4 + 0 + (cellsS x).length) = (flat cur).drop (i * 4 + 4) ++ r := by
      rw [show i * 4 + 0 + (cellsS x).length = i * 4 + 4 by simp [cellsS], List.drop_append_of_le_length (by omega)]
    rw [a1, a2]
    simp
  · rw [← h2, List.length_append, List.length_append, flat_len, flat_len, List.length_set]
theorem zero31 (w : World) : (zeroValue 45).run Tryd.prog w = .ok (.agg #[.int .u64 0, .int .i64 0, .int .i64 0, .slice none 0 0]) w := Tryd.zeroValue45 w
theorem und22 : Tryd.prog.underlying 36 = some (.slice 45) := by kernel_rfl
theorem zeroL (n : Nat) : (Builtin.zeroCells (Value.agg #[.int .u64 0, .int .i64 0, .int .i64 0, .slice none 0 0]).cells n).toList.length = n * 4 := by
  simp [Builtin.zeroCells, Value.cells]
/-- What stands from i on is cleared. -/
theorem Blk.clear {w : World} {g cap : Nat} {cur : List Sx} (h : Blk w g cap cur) {i n : Nat} (hi : i ≤ cur.length) (hn : n = cur.length - i) (c : Nat) (ty : TypeId) :
    ∃ w', Sem.run Tryd.prog (Builtin.clear_ #[36] ty #[.slice (some ⟨g, i * 4, none⟩) n c]) w = .ok (.tuple #[]) w' ∧ Blk w' g cap (cur.take i) ∧ w.grownBy w' (some g) := by
  by_cases h0 : n = 0
  · subst h0
    refine ⟨w, ?_, ?_, gr_refl _ _⟩
    · simp [Builtin.clear_, run_underlying und22]
    · rw [List.take_of_length_le (by omega)]; exact h
  · obtain ⟨m, rfl⟩ : ∃ m, n = m + 1 := ⟨n - 1, by omega⟩
    obtain ⟨r, h1, h2⟩ := h
    have hl := flat_len cur
    have hzl := zeroL (m + 1)
    have hone : ∀ v ∈ (Builtin.zeroCells (Value.agg #[.int .u64 0, .int .i64 0, .int .i64 0, .slice none 0 0]).cells (m + 1)).toList, v.oneCell' = true := by
      intro v hv
      simp only [Builtin.zeroCells, Value.cells, Array.toList_map, List.mem_map] at hv
      obtain ⟨k, _, rfl⟩ := hv
      have hk : k % 4 < 4 := Nat.mod_lt _ (by omega)
      have : k % 4 = 0 ∨ k % 4 = 1 ∨ k % 4 = 2 ∨ k % 4 = 3 := by omega
      rcases this with e | e | e | e <;> simp [e, Value.oneCell']
    have hrun := run_storeCells_at (P := Tryd.prog) g (i * 4) 45 _ 0 _ w h1 (by rw [hzl]; simp; omega) hone
    have hcl : ∀ w', Sem.run Tryd.prog (storeCells ⟨g, i * 4, none⟩ (Builtin.zeroCells (Value.agg #[.int .u64 0, .int .i64 0, .int .i64 0, .slice none 0 0]).cells (m + 1)).toList 0) w = .ok () w' → Sem.run Tryd.prog (Builtin.clear_ #[36] ty #[.slice (some ⟨g, i * 4, none⟩) (m + 1) c]) w = .ok (.tuple #[]) w' := fun w' hw => by
      simp [Builtin.clear_, run_underlying und22, hw]
    refine ⟨_, hcl _ hrun, ⟨(Builtin.zeroCells (Value.agg #[.int .u64 0, .int .i64 0, .int .i64 0, .slice none 0 0]).cells (m + 1)).toList ++ r, ?_, ?_⟩, gr_setRow _ _ _⟩
    · rw [setRow_heap _ _ _ _ _ _ h1]
      congr 3
      generalize (Builtin.zeroCells (Value.agg #[.int .u64 0, .int .i64 0, .int .i64 0, .slice none 0 0]).cells (m + 1)).toList = zs at *
      have e : flat cur = flat (cur.take i) ++ flat (cur.drop i) := by rw [← flat_app, List.take_append_drop]
      have l1 : (flat (cur.take i)).length = i * 4 := by rw [flat_len, List.length_take]; omega
      have l2 : (flat (cur.drop i)).length = (m + 1) * 4 := by rw [flat_len, List.length_drop]; omega
      have a1 : (flat cur ++ r).take (i * 4 + 0) = flat (cur.take i) := by
        rw [e, List.append_assoc, List.take_append_of_le_length (by omega), List.take_of_length_le (by omega)]
      have a2 : (flat cur ++ r).drop (i * 4 + 0 + zs.length) = r := by
        rw [List.drop_append, List.drop_of_length_le (by omega), show i * 4 + 0 + zs.length - (flat cur).length = 0 by omega]; simp
      rw [a1, a2]
      simp
    · rw [← h2, List.length_append, List.length_append, List.length_append, flat_len, flat_len, hzl, List.length_take]
      omega

theorem infoS31 : (Tryd.prog.info? 45).map (·.size) = some 4 := by kernel_rfl
theorem Blk.free {w : World} {g cap : Nat} {cur : List Sx} (h : Blk w g cap cur) (j : Nat) : w.frozen? ⟨g, j, none⟩ = false := by
  obtain ⟨r, h1, h2⟩ := h
  simp [World.frozen?, h1]
/-- A store of a thing of several cells, by its run. -/
theorem wpList_store_cells {P : Program} {ops : Array Oper} {rest : List Oper} {o : Oper} {a : Act} {w : World} {Q : Exit → Act → World → Prop} (hgd : o.guard = none) (ty : TypeId) (x y : Operand) (ho : o.op = .store ty x y)
    (ad : Addr) (cells : Array Value) (hx : a.eval x = .pointer (some ad)) (hy : a.eval y = .agg cells) (hi : (P.info? ty).map (·.size) = some cells.size)
    (w' : World) (hrun : (storeCells ad cells.toList 0).run P w = .ok () w') (h : wpList P ops Q rest (a.put o.dst undef) w') : wpList P ops Q (o :: rest) a w := by
  have hsv : (storeVar ty ad (.agg cells)).run P w = .ok () w' := by
    cases hq : P.info? ty with
    | none => simp [hq] at hi
    | some i =>
      have hs : cells.size = i.size := by simp [hq] at hi; omega
      simp [storeVar, sizeOf, typeInfo, hq, Value.cells, hs, hrun]
  refine wpList_plain hgd fun K hK => ?_
  unfold Oper.wp execOp
  simp only [ho, hx, hy, Instr.storeAt, Instr.sureAddr, Sem.run_bind, Sem.run_pure, Result.andThen_ok, hsv]
  exact hK _ _ h
theorem step_store_cells {P : Program} {ops : Array Oper} {o : Oper} {a : Act} {w : World} {K : Act → World → Prop} {Q : Exit → Act → World → Prop} {E : Prop} (hgd : o.guard = none) (ty : TypeId) (x y : Operand) (ho : o.op = .store ty x y)
    (ad : Addr) (cells : Array Value) (hx : a.eval x = .pointer (some ad)) (hy : a.eval y = .agg cells) (hi : (P.info? ty).map (·.size) = some cells.size)
    (w' : World) (hrun : (storeCells ad cells.toList 0).run P w = .ok () w') (h : K (a.put o.dst undef) w') : if Region.wanted o (yielded ops a.tmps) = true then Oper.wp P o a w K Q else E := by
  have hsv : (storeVar ty ad (.agg cells)).run P w = .ok () w' := by
    cases hq : P.info? ty with
    | none => simp [hq] at hi
    | some i =>
      have hs : cells.size = i.size := by simp [hq] at hi; omega
      simp [storeVar, sizeOf, typeInfo, hq, Value.cells, hs, hrun]
  have hw : Region.wanted o (yielded ops a.tmps) = true := by simp [Region.wanted, hgd]
  rw [if_pos hw]
  unfold Oper.wp execOp
  simp only [ho, hx, hy, Instr.storeAt, Instr.sureAddr, Sem.run_bind, Sem.run_pure, Result.andThen_ok, hsv]
  exact h
end Go.Proofs.YtlonbbepoamnmaaDoor
namespace Go.Proofs.YtlonbbepoamnmaaDoor
open Go.RowKit Go.Sort
set_option linter.unusedVariables false

abbrev Tg := Sx × Nat
def BlkT (w : World) (g cap : Nat) (l : List Tg) : Prop := Blk w g cap (l.map (·.1))

theorem BlkT.drew {w : World} {g cap : Nat} {l : List Tg} (h : BlkT w g cap l) : BlkT w.drew g cap l := h
theorem gr_drew {a w : World} {r : Option Nat} (h : a.grownBy w r) : a.grownBy w.drew r := ⟨h.os, h.tape, h.output, h.size, h.block⟩
theorem mid_get {α : Type} (X : List α) (y : α) (Y : List α) {j : Nat} (h : X.length = j) : (X ++ y :: Y)[j]? = some y := by subst h; simp
theorem mid_set {α : Type} (X : List α) (y z : α) (Y : List α) {j : Nat} (h : X.length = j) : (X ++ y :: Y).set j z = X ++ z :: Y := by subst h; simp
theorem BlkT.get {w : World} {g cap j : Nat} {X Y : List Tg} {y : Tg} (h : BlkT w g cap (X ++ y :: Y)) (hj : X.length = j) :
    w.cell? ⟨g, j * 4, none⟩ = some (.int .u64 (y.1.1 : Nat)) ∧ w.cell? ⟨g, j * 4 + 1, none⟩ = some (.int .i64 y.1.2.1) ∧ w.cell? ⟨g, j * 4 + 2, none⟩ = some (.int .i64 y.1.2.2.1) ∧ w.cell? ⟨g, j * 4 + 3, none⟩ = some (.slice y.1.2.2.2.1 y.1.2.2.2.2.1 y.1.2.2.2.2.2) := by
  refine Blk.cell h (x := y.1) ?_
  rw [List.getElem?_map, mid_get X y Y hj]
  rfl
/-- An element laid, cell by cell. -/
theorem Blk.put {w : World} {g cap : Nat} {cur : List Sx} (h : Blk w g cap cur) {i : Nat} (hi : i < cur.length) (x : Sx) :
    Blk ((((w.setCell ⟨g, i * 4, none⟩ (.int .u64 (x.1 : Nat))).setCell ⟨g, i * 4 + 1, none⟩ (.int .i64 x.2.1)).setCell ⟨g, i * 4 + 2, none⟩ (.int .i64 x.2.2.1)).setCell ⟨g, i * 4 + 3, none⟩ (.slice x.2.2.2.1 x.2.2.2.2.1 x.2.2.2.2.2)) g cap (cur.set i x) ∧
    w.grownBy ((((w.setCell ⟨g, i * 4, none⟩ (.int .u64 (x.1 : Nat))).setCell ⟨g, i * 4 + 1, none⟩ (.int .i64 x.2.1)).setCell ⟨g, i * 4 + 2, none⟩ (.int .i64 x.2.2.1)).setCell ⟨g, i * 4 + 3, none⟩ (.slice x.2.2.2.1 x.2.2.2.2.1 x.2.2.2.2.2)) (some g) := by
  obtain ⟨w', hrun, hb, hg⟩ := h.set hi x
  obtain ⟨y, hy⟩ : ∃ y, cur[i]? = some y := ⟨cur[i], List.getElem?_eq_getElem hi⟩
  obtain ⟨c0, c1, c2, c3⟩ := h.cell hy
  have h2 := run_storeCells_cells (P := Tryd.prog) g (i * 4) [.int .u64 (x.1 : Nat), .int .i64 x.2.1, .int .i64 x.2.2.1, .slice x.2.2.2.1 x.2.2.2.2.1 x.2.2.2.2.2] 0 w
    (fun j hj => by
      have : j = 0 ∨ j = 1 ∨ j = 2 ∨ j = 3 := by simp at hj; omega
      rcases this with rfl | rfl | rfl | rfl <;> simp [c0, c1, c2, c3])
    (fun j _ => h.free _) (by simp [Value.oneCell'])
  rw [hrun] at h2
  have e : w' = w.setCells g (i * 4 + 0) [.int .u64 (x.1 : Nat), .int .i64 x.2.1, .int .i64 x.2.2.1, .slice x.2.2.2.1 x.2.2.2.2.1 x.2.2.2.2.2] := by injection h2
  rw [e] at hb hg
  exact ⟨hb, hg⟩
theorem BlkT.put {w : World} {g cap j : Nat} {X Y : List Tg} {y : Tg} (h : BlkT w g cap (X ++ y :: Y)) (hj : X.length = j) (z : Tg) :
    BlkT ((((w.setCell ⟨g, j * 4, none⟩ (.int .u64 (z.1.1 : Nat))).setCell ⟨g, j * 4 + 1, none⟩ (.int .i64 z.1.2.1)).setCell ⟨g, j * 4 + 2, none⟩ (.int .i64 z.1.2.2.1)).setCell ⟨g, j * 4 + 3, none⟩ (.slice z.1.2.2.2.1 z.1.2.2.2.2.1 z.1.2.2.2.2.2)) g cap (X ++ z :: Y) ∧
    w.grownBy ((((w.setCell ⟨g, j * 4, none⟩ (.int .u64 (z.1.1 : Nat))).setCell ⟨g, j * 4 + 1, none⟩ (.int .i64 z.1.2.1)).setCell ⟨g, j * 4 + 2, none⟩ (.int .i64 z.1.2.2.1)).setCell ⟨g, j * 4 + 3, none⟩ (.slice z.1.2.2.2.1 z.1.2.2.2.2.1 z.1.2.2.2.2.2)) (some g) := by
  have := Blk.put h (i := j) (by simp; omega) z.1
  rw [← List.map_set, mid_set X y z Y hj] at this
  exact this

set_option maxRecDepth 10000 in
set_option maxHeartbeats 1000000 in
theorem swapRange_any (w : World) (g cap n : Nat) (fv : Value) (A U M V Z : List Tg) (hb : BlkT w g cap (A ++ U ++ M ++ V ++ Z)) (hUV : U.length = V.length) (hn : (A ++ U ++ M ++ V ++ Z).length = n) (hmax : n ≤ 1000000) :
    Calls Tryd.prog 110 #[.slice (some ⟨g, 0, none⟩) n cap, .int .i64 (A.length : Nat), .int .i64 ((A.length + U.length + M.length : Nat) : Nat), .int .i64 (U.length : Nat), fv] w fun e w' => e = .returned (.tuple #[]) ∧ BlkT w' g cap (A ++ V ++ M ++ U ++ Z) ∧ w.grownBy w' (some g) := by
  obtain ⟨a, HA⟩ : ∃ a, Hid (A.length = a) := ⟨_, rfl⟩
  obtain ⟨k, HK⟩ : ∃ k, Hid (U.length = k) := ⟨_, rfl⟩
  obtain ⟨b, HB⟩ : ∃ b, Hid (A.length + U.length + M.length = b) := ⟨_, rfl⟩
  rw [HB.out, HA.out, HK.out]
  have hab : a + k ≤ b := by have := HA.out; have := HB.out; have := HK.out; omega
  have hbn : b + k ≤ n := by have := HA.out; have := HB.out; have := HK.out; simp only [List.length_append] at hn; omega
  have HN : Hid ((A ++ U ++ M ++ V ++ Z).length = n) := hn
  have HUV : Hid (U.length = V.length) := hUV
  have HB0 : Hid (BlkT w g cap (A ++ U ++ M ++ V ++ Z)) := hb
  clear hb hn hUV
  go_enter Tryd.func110, Tryd.ntmps110
  go_wp2_with fail
  go_loopw [10] (fun iv wr => ∃ (i : Nat) (U1 U2 V1 V2 : List Tg), iv = .int .i64 i ∧ i ≤ k ∧ U = U1 ++ U2 ∧ V = V1 ++ V2 ∧ U1.length = i ∧ V1.length = i ∧ BlkT wr g cap (A ++ V1 ++ U2 ++ M ++ U1 ++ V2 ++ Z) ∧ w.grownBy wr (some g)) (fun iv _ => k - (intOf iv).toNat)
  case atStart => exact ⟨0, [], U, [], V, rfl, by omega, rfl, rfl, rfl, rfl, by simpa using HB0.out, gr_refl _ _⟩
  case round =>
    obtain ⟨i, U1, U2, V1, V2, rfl, hi, hU, hV, hU1, hV1, hblk, hgr⟩ := hrel
    by_cases hlt : i < k
    · have hltI : (i : Int) < (k : Int) := by omega
      obtain ⟨u, U3, rfl⟩ : ∃ u U3, U2 = u :: U3 := by
        cases U2 with
        | nil => exfalso; have := HK.out; rw [hU] at this; simp at this; omega
        | cons u U3 => exact ⟨u, U3, rfl⟩
      obtain ⟨v, V3, rfl⟩ : ∃ v V3, V2 = v :: V3 := by
        cases V2 with
        | nil => exfalso; have h1 := HK.out; have h2 := HUV.out; rw [hV] at h2; simp at h2; omega
        | cons v V3 => exact ⟨v, V3, rfl⟩
      have el1 : A ++ V1 ++ (u :: U3) ++ M ++ U1 ++ (v :: V3) ++ Z = (A ++ V1) ++ u :: (U3 ++ M ++ U1 ++ (v :: V3) ++ Z) := by simp
      have el2 : (A ++ V1) ++ v :: (U3 ++ M ++ U1 ++ (v :: V3) ++ Z) = (A ++ V1 ++ (v :: U3) ++ M ++ U1) ++ v :: (V3 ++ Z) := by simp
      have el3 : A ++ V1 ++ (u :: U3) ++ M ++ U1 ++ (v :: V3) ++ Z = (A ++ V1 ++ (u :: U3) ++ M ++ U1) ++ v :: (V3 ++ Z) := by simp
      have el4 : (A ++ V1 ++ (v :: U3) ++ M ++ U1) ++ u :: (V3 ++ Z) = A ++ (V1 ++ [v]) ++ U3 ++ M ++ (U1 ++ [u]) ++ V3 ++ Z := by simp
      have hia : (A ++ V1).length = a + i := by have := HA.out; simp; omega
      have hUl : U1.length + (U3.length + 1) = k := by have := HK.out; rw [hU] at this; simpa using this
      have hib : (A ++ V1 ++ (u :: U3) ++ M ++ U1).length = b + i := by have h1 := HA.out; have h2 := HB.out; have h3 := HK.out; simp only [List.length_append, List.length_cons]; omega
      have hib' : (A ++ V1 ++ (v :: U3) ++ M ++ U1).length = b + i := by rw [← hib]; simp
      obtain ⟨c0, c1, c2, c3⟩ := BlkT.get (by rw [el1] at hblk; exact hblk) hia
      obtain ⟨d0, d1, d2, d3⟩ := BlkT.get (by rw [el3] at hblk; exact hblk) hib
      have p1 := BlkT.put (by rw [el1] at hblk; exact hblk) hia v
      rw [el2] at p1
      have p2 := BlkT.put p1.1 hib' u
      rw [el4] at p2
      have HP : Hid _ := And.intro p2.1 (gr_trans hgr (gr_trans p1.2 p2.2))
      have hfz := fun j => Blk.free hblk j
      have hU' : U = (U1 ++ [u]) ++ U3 := by rw [hU]; simp
      have hV' : V = (V1 ++ [v]) ++ V3 := by rw [hV]; simp
      have HU : Hid (U = (U1 ++ [u]) ++ U3 ∧ V = (V1 ++ [v]) ++ V3 ∧ (U1 ++ [u]).length = i + 1 ∧ (V1 ++ [v]).length = i + 1) := ⟨hU', hV', by simp; omega, by simp; omega⟩
      have hi0 : ¬ ((i : Int) < 0) := by omega
      have h1n : (a : Int) + (i : Int) < (n : Int) := by omega
      have h2n : (b : Int) + (i : Int) < (n : Int) := by omega
      have h10 : ¬ ((a : Int) + (i : Int) < 0) := by omega
      have h20 : ¬ ((b : Int) + (i : Int) < 0) := by omega
      clear p1 p2 el1 el2 el3 el4 hblk hU hV hU' hV' hgr hia hib hib' hUl hU1 hV1
      go_wp2_with fail
      go_big_region
      all_goals go_wp2
      go_roundw
      case rel => first | exact ⟨i + 1, U1 ++ [u], U3, V1 ++ [v], V3, by go_num, by omega, HU.out.1, HU.out.2.1, HU.out.2.2.1, HU.out.2.2.2, HP.out.1.drew, gr_drew HP.out.2⟩ | ((repeat apply Exists.intro); exact ⟨⟨i + 1, U1 ++ [u], U3, V1 ++ [v], V3, by go_num, by omega, HU.out.1, HU.out.2.1, HU.out.2.2.1, HU.out.2.2.2, HP.out.1.drew, gr_drew HP.out.2⟩, rfl⟩)
      case measure => simp [intOf]; omega
    · have hik : i = k := by omega
      have hltI : ¬ ((i : Int) < (k : Int)) := by omega
      have HE : Hid (BlkT wr g cap (A ++ V ++ M ++ U ++ Z) ∧ w.grownBy wr (some g)) := by
        have h2 : U2 = [] := by have h1 := HK.out; rw [hU] at h1; simp at h1; exact List.length_eq_zero_iff.1 (by omega)
        have h3 : V2 = [] := by have h1 := HK.out; have h4 := HUV.out; rw [hV] at h4; simp at h4; exact List.length_eq_zero_iff.1 (by omega)
        subst h2 h3
        rw [hU, hV]
        exact ⟨by simpa using hblk, hgr⟩
      clear hblk hgr hU hV
      go_wp2
      go_end0
      exact ⟨rfl, by simpa using HE.out.1, HE.out.2⟩
end Go.Proofs.YtlonbbepoamnmaaDoor
namespace Go.Proofs.YtlonbbepoamnmaaDoor
open Go.RowKit
set_option linter.unusedVariables false

/-- Which of two numbers is greater. -/
def sgn (x y : Int) : Int := if x < y then -1 else if y < x then 1 else 0
/-- Which of two views' numbers is greater. -/
def cmpV (n1 : Nat) (p1 : Int) (n2 : Nat) (p2 : Int) : Int := if n1 < n2 then -1 else if n2 < n1 then 1 else sgn p1 p2
def vid (n : Nat) (p : Int) : Value := .agg #[.int .u64 (n : Nat), .int .i64 p]

theorem nanU (w : World) (x : Int) : Calls Tryd.prog 106 #[.int .u64 x] w fun e w' => e = .returned (.bool false) ∧ w = w' := by
  go_enter Tryd.func106, Tryd.ntmps106
  go_wp2
  go_ret
  exact ⟨ret_bool (by simp), rfl⟩
theorem nanI (w : World) (x : Int) : Calls Tryd.prog 104 #[.int .i64 x] w fun e w' => e = .returned (.bool false) ∧ w = w' := by
  go_enter Tryd.func104, Tryd.ntmps104
  go_wp2
  go_ret
  exact ⟨ret_bool (by simp), rfl⟩
theorem cmpU (w : World) (x y : Int) : Calls Tryd.prog 100 #[.int .u64 x, .int .u64 y] w fun e w' => e = .returned (.int .i64 (sgn x y)) ∧ w = w' := by
  unfold sgn
  by_cases h1 : x < y
  · rw [if_pos h1]
    go_enter Tryd.func100, Tryd.ntmps100
    go_wp2_with (first | (go_at_call 106; refine (nanU _ _).mono ?_; rintro e w' ⟨rfl, rfl⟩))
    go_ret
    exact ⟨rfl, rfl⟩
  · rw [if_neg h1]
    by_cases h2 : y < x
    · rw [if_pos h2]
      go_enter Tryd.func100, Tryd.ntmps100
      go_wp2_with (first | (go_at_call 106; refine (nanU _ _).mono ?_; rintro e w' ⟨rfl, rfl⟩))
      go_ret
      exact ⟨rfl, rfl⟩
    · rw [if_neg h2]
      go_enter Tryd.func100, Tryd.ntmps100
      go_wp2_with (first | (go_at_call 106; refine (nanU _ _).mono ?_; rintro e w' ⟨rfl, rfl⟩))
      go_ret
      exact ⟨rfl, rfl⟩
theorem cmpI (w : World) (x y : Int) : Calls Tryd.prog 94 #[.int .i64 x, .int .i64 y] w fun e w' => e = .returned (.int .i64 (sgn x y)) ∧ w = w' := by
  unfold sgn
  by_cases h1 : x < y
  · rw [if_pos h1]
    go_enter Tryd.func94, Tryd.ntmps94
    go_wp2_with (first | (go_at_call 104; refine (nanI _ _).mono ?_; rintro e w' ⟨rfl, rfl⟩))
    go_ret
    exact ⟨rfl, rfl⟩
  · rw [if_neg h1]
    by_cases h2 : y < x
    · rw [if_pos h2]
      go_enter Tryd.func94, Tryd.ntmps94
      go_wp2_with (first | (go_at_call 104; refine (nanI _ _).mono ?_; rintro e w' ⟨rfl, rfl⟩))
      go_ret
      exact ⟨rfl, rfl⟩
    · rw [if_neg h2]
      go_enter Tryd.func94, Tryd.ntmps94
      go_wp2_with (first | (go_at_call 104; refine (nanI _ _).mono ?_; rintro e w' ⟨rfl, rfl⟩))
      go_ret
      exact ⟨rfl, rfl⟩


theorem compare_any (w : World) (n1 : Nat) (p1 : Int) (n2 : Nat) (p2 : Int) : Calls Tryd.prog 82 #[vid n1 p1, vid n2 p2] w fun e w' => e = .returned (.int .i64 (cmpV n1 p1 n2 p2)) ∧ Up w w' := by
  have h1 := fun W => cmpU W n1 n2
  have h2 := fun W => cmpI W p1 p2
  have hs : sgn (n1 : Int) (n2 : Int) = if n1 < n2 then -1 else if n2 < n1 then 1 else 0 := by
    unfold sgn; by_cases a : n1 < n2
    · rw [if_pos a, if_pos (by omega)]
    · rw [if_neg a, if_neg (by omega)]
      by_cases b : n2 < n1
      · rw [if_pos b, if_pos (by omega)]
      · rw [if_neg b, if_neg (by omega)]
  rw [hs] at h1
  clear hs
  unfold cmpV vid
  generalize sgn p1 p2 = c2 at *
  by_cases a : n1 < n2
  · simp only [if_pos a] at h1 ⊢
    clear a
    go_enter Tryd.func82, Tryd.ntmps82
    go_wp2_with fail
    refine (h1 _).mono ?_
    rintro e w' ⟨rfl, rfl⟩
    go_wp2
    go_ret
    exact ⟨rfl, ((Up.refl _).alloc _).alloc _⟩
  · simp only [if_neg a] at h1 ⊢
    by_cases b : n2 < n1
    · simp only [if_pos b] at h1 ⊢
      clear a b
      go_enter Tryd.func82, Tryd.ntmps82
      go_wp2_with fail
      refine (h1 _).mono ?_
      rintro e w' ⟨rfl, rfl⟩
      go_wp2
      go_ret
      exact ⟨rfl, ((Up.refl _).alloc _).alloc _⟩
    · simp only [if_neg b] at h1 ⊢
      clear a b
      go_enter Tryd.func82, Tryd.ntmps82
      go_wp2_with fail
      refine (h1 _).mono ?_
      rintro e w' ⟨rfl, rfl⟩
      go_wp2_with fail
      refine (h2 _).mono ?_
      rintro e w' ⟨rfl, rfl⟩
      go_wp2
      go_ret
      exact ⟨rfl, ((Up.refl _).alloc _).alloc _⟩

end Go.Proofs.YtlonbbepoamnmaaDoor
namespace Go.Proofs.YtlonbbepoamnmaaDoor
open Go.RowKit Go.Sort
set_option linter.unusedVariables false

def sta (x : Sx) : Value := .agg #[.int .u64 (x.1 : Nat), .int .i64 x.2.1, .int .i64 x.2.2.1, .slice x.2.2.2.1 x.2.2.2.2.1 x.2.2.2.2.2]
/-- How many messages a state has. -/
def endS (x : Sx) : Int := wrap64 (x.2.2.1 + (x.2.2.2.2.1 : Nat))
/-- A floor and a length that are not too far. -/
def OkS (x : Sx) : Prop := True
def cmpS (x y : Sx) : Int := if cmpV x.1 x.2.1 y.1 y.2.1 ≠ 0 then cmpV x.1 x.2.1 y.1 y.2.1 else sgn (endS y) (endS x)
/-- Comes a state ahead of another one, whichever was told first? -/
def ltK (x y : Sx) : Prop := x.1 < y.1 ∨ x.1 = y.1 ∧ (x.2.1 < y.2.1 ∨ x.2.1 = y.2.1 ∧ endS y < endS x)
theorem cmpS_lt (x y : Sx) : cmpS x y < 0 ↔ ltK x y := by
  unfold cmpS cmpV sgn ltK
  repeat' split
  all_goals omega

set_option maxRecDepth 10000 in
theorem or2_any (w : World) (B : Nat) (c0 c1 : Int) (h0 : w.cell? ⟨B, 0, none⟩ = some (.int .i64 c0)) (h1 : w.cell? ⟨B, 1, none⟩ = some (.int .i64 c1)) :
    Calls Tryd.prog 93 #[.slice (some ⟨B, 0, none⟩) 2 2] w fun e w' => e = .returned (.int .i64 (if c0 ≠ 0 then c0 else c1)) ∧ w = w' := by
  by_cases a0 : c0 = 0
  · subst a0
    simp only [ne_eq, not_true_eq_false, if_false]
    by_cases a1 : c1 = 0
    · subst a1
      go_enter Tryd.func93, Tryd.ntmps93
      go_wp2
      refine wp_loop_rounds 3 ?_
      rw [rounds_succ]
      go_wp2
      rw [rounds_succ]
      go_wp2
      rw [rounds_succ]
      go_wp2
      go_ret
      exact ⟨rfl, rfl⟩
    · have a1' : (c1 != 0) = true := by simpa using a1
      go_enter Tryd.func93, Tryd.ntmps93
      go_wp2
      refine wp_loop_rounds 2 ?_
      rw [rounds_succ]
      go_wp2
      rw [rounds_succ]
      go_wp2
      go_ret
      exact ⟨rfl, rfl⟩
  · have a0' : (c0 != 0) = true := by simpa using a0
    rw [if_pos a0]
    go_enter Tryd.func93, Tryd.ntmps93
    go_wp2
    refine wp_loop_rounds 1 ?_
    rw [rounds_succ]
    go_wp2
    go_ret
    exact ⟨rfl, rfl⟩

set_option maxRecDepth 10000 in
theorem end_any (w : World) (x : Sx) (hx : OkS x) : Calls Tryd.prog 95 #[sta x] w fun e w' => e = .returned (.int .i64 (endS x)) ∧ Up w w' := by
  clear hx
  obtain ⟨n, p, f, ao, l, c⟩ := x
  unfold sta endS
  simp only at *
  go_enter Tryd.func95, Tryd.ntmps95
  go_wp2
  go_ret
  exact ⟨rfl, (Up.refl _).alloc _⟩

/-- A state in a block. -/
def Bs (B : Nat) (x : Sx) (wx : World) : Prop :=
  wx.cell? ⟨B, 0, none⟩ = some (.int .u64 (x.1 : Nat)) ∧ wx.cell? ⟨B, 1, none⟩ = some (.int .i64 x.2.1) ∧ wx.cell? ⟨B, 2, none⟩ = some (.int .i64 x.2.2.1) ∧ wx.cell? ⟨B, 3, none⟩ = some (.slice x.2.2.2.1 x.2.2.2.2.1 x.2.2.2.2.2)
theorem Bs.up {B : Nat} {x : Sx} {w w' : World} (h : Bs B x w) (hb : Up w w') : Bs B x w' := ⟨hb.cell h.1, hb.cell h.2.1, hb.cell h.2.2.1, hb.cell h.2.2.2⟩
theorem bs_new (w : World) (x : Sx) (t : TypeId) : Bs w.heap.size x (w.alloc (.cells #[.int .u64 (x.1 : Nat), .int .i64 x.2.1, .int .i64 x.2.2.1, .slice x.2.2.2.1 x.2.2.2.2.1 x.2.2.2.2.2] t)) :=
  ⟨cell_box w _ t 0 _ rfl, cell_box w _ t 1 _ rfl, cell_box w _ t 2 _ rfl, cell_box w _ t 3 _ rfl⟩

set_option maxRecDepth 10000 in
set_option maxHeartbeats 2000000 in
theorem cmpS_any (w : World) (x y : Sx) (hx : OkS x) (hy : OkS y) : Calls Tryd.prog 92 #[sta x, sta y] w fun e w' => e = .returned (.int .i64 (cmpS x y)) ∧ Up w w' := by
  unfold cmpS
  have c1 := fun W => compare_any W x.1 x.2.1 y.1 y.2.1
  have c2 := fun W => end_any W y hy
  have c3 := fun W => end_any W x hx
  have c4 := fun W => cmpI W (endS y) (endS x)
  have c5 := fun W B h0 h1 => or2_any W B (cmpV x.1 x.2.1 y.1 y.2.1) (sgn (endS y) (endS x)) h0 h1
  unfold vid at c1
  unfold sta at *
  generalize cmpV x.1 x.2.1 y.1 y.2.1 = d1 at *
  generalize sgn (endS y) (endS x) = d2 at *
  generalize endS y = ey at *
  generalize endS x = ex at *
  generalize (if d1 ≠ 0 then d1 else d2) = d4 at *
  have b1 := (bs_new w x 45).up ((Up.refl _).alloc (.cells #[.int .u64 (y.1 : Nat), .int .i64 y.2.1, .int .i64 y.2.2.1, .slice y.2.2.2.1 y.2.2.2.2.1 y.2.2.2.2.2] 45))
  have b2 := bs_new (w.alloc (.cells #[.int .u64 (x.1 : Nat), .int .i64 x.2.1, .int .i64 x.2.2.1, .slice x.2.2.2.1 x.2.2.2.2.1 x.2.2.2.2.2] 45)) y 45
  have hsz : (w.alloc (.cells #[.int .u64 (x.1 : Nat), .int .i64 x.2.1, .int .i64 x.2.2.1, .slice x.2.2.2.1 x.2.2.2.2.1 x.2.2.2.2.2] 45)).heap.size = w.heap.size + 1 := by simp
  rw [hsz] at b2
  have at0 : Bs w.heap.size x _ ∧ Bs (w.heap.size + 1) y _ := ⟨b1, b2⟩
  have bl0 : Up w ((w.alloc (.cells #[.int .u64 (x.1 : Nat), .int .i64 x.2.1, .int .i64 x.2.2.1, .slice x.2.2.2.1 x.2.2.2.2.1 x.2.2.2.2.2] 45)).alloc (.cells #[.int .u64 (y.1 : Nat), .int .i64 y.2.1, .int .i64 y.2.2.1, .slice y.2.2.2.1 y.2.2.2.2.1 y.2.2.2.2.2] 45)).drew := (((Up.refl _).alloc _).alloc _).drew
  clear b1 b2 hsz hx hy
  go_enter Tryd.func92, Tryd.ntmps92
  go_wp2_with fail
  refine wp_region_noPanic ?_
  refine wp_region_held_drew (S := fun wx => Bs w.heap.size x wx ∧ Bs (w.heap.size + 1) y wx) (by kernel_rfl) at0 (fun hHeld => ?_)
  refine take_first 0 (v := ?_) rfl (by kernel_rfl) (by kernel_rfl) (by kernel_rfl) (fun _ _ _ h => h) (Or.inl ⟨by rfl, by intro wx hSw; obtain ⟨⟨hSw1, hSw2, hSw3, hSw4⟩, hSw5, hSw6, hSw7, hSw8⟩ := hSw; go_simp; try with_reducible rfl⟩) (by assumption) ?_
  (try simp only [Act.put, List.setIfInBounds_toArray, List.set_cons_zero, List.set_cons_succ])
  refine take_first 1 (v := ?_) rfl (by kernel_rfl) (by kernel_rfl) (by kernel_rfl) (fun _ _ _ h => h) (Or.inl ⟨by rfl, by intro wx hSw; obtain ⟨⟨hSw1, hSw2, hSw3, hSw4⟩, hSw5, hSw6, hSw7, hSw8⟩ := hSw; go_simp; try with_reducible rfl⟩) (by assumption) ?_
  (try simp only [Act.put, List.setIfInBounds_toArray, List.set_cons_zero, List.set_cons_succ])
  refine take_first 2 (v := ?_) rfl (by kernel_rfl) (by kernel_rfl) (by kernel_rfl) (fun _ _ _ h => h) (Or.inl ⟨by rfl, by intro wx hSw; obtain ⟨⟨hSw1, hSw2, hSw3, hSw4⟩, hSw5, hSw6, hSw7, hSw8⟩ := hSw; go_simp; try with_reducible rfl⟩) (by assumption) ?_
  (try simp only [Act.put, List.setIfInBounds_toArray, List.set_cons_zero, List.set_cons_succ])
  refine take_first 3 (v := ?_) rfl (by kernel_rfl) (by kernel_rfl) (by kernel_rfl) (fun _ _ _ h => h) (Or.inl ⟨by rfl, by intro wx hSw; obtain ⟨⟨hSw1, hSw2, hSw3, hSw4⟩, hSw5, hSw6, hSw7, hSw8⟩ := hSw; go_simp; try with_reducible rfl⟩) (by assumption) ?_
  (try simp only [Act.put, List.setIfInBounds_toArray, List.set_cons_zero, List.set_cons_succ])
  refine take_first 5 (v := ?_) rfl (by kernel_rfl) (by kernel_rfl) (by kernel_rfl) (fun _ _ _ h => h) (Or.inl ⟨by rfl, by intro wx hSw; obtain ⟨⟨hSw1, hSw2, hSw3, hSw4⟩, hSw5, hSw6, hSw7, hSw8⟩ := hSw; go_simp; try with_reducible rfl⟩) (by assumption) ?_
  (try simp only [Act.put, List.setIfInBounds_toArray, List.set_cons_zero, List.set_cons_succ])
  refine take_first 7 (v := ?_) rfl (by kernel_rfl) (by kernel_rfl) (by kernel_rfl) (fun _ _ _ h => h) (Or.inl ⟨by rfl, by intro wx hSw; obtain ⟨⟨hSw1, hSw2, hSw3, hSw4⟩, hSw5, hSw6, hSw7, hSw8⟩ := hSw; go_simp; try with_reducible rfl⟩) (by assumption) ?_
  (try simp only [Act.put, List.setIfInBounds_toArray, List.set_cons_zero, List.set_cons_succ])
  refine comes_up 4 rfl (by kernel_rfl) (fun K hK => ?_)
  go_simp
  refine (c1 _).mono ?_
  rintro e w1 ⟨rfl, hb1⟩
  have at1 : Bs w.heap.size x w1 ∧ Bs (w.heap.size + 1) y w1 := ⟨Bs.up (hHeld.1) hb1, Bs.up (hHeld.2) hb1⟩
  have bl1' := bl0.trans hb1
  clear at0 bl0 hb1 hHeld
  go_wp2_with fail
  refine hK.out _ _ at1 (fun hHeld => ?_)
  clear hK K
  (try simp only [Act.put, List.setIfInBounds_toArray, List.set_cons_zero, List.set_cons_succ])
  refine comes_up 6 rfl (by kernel_rfl) (fun K hK => ?_)
  go_simp
  refine (c2 _).mono ?_
  rintro e w2 ⟨rfl, hb2⟩
  have at2 : Bs w.heap.size x w2 ∧ Bs (w.heap.size + 1) y w2 := ⟨Bs.up (at1.1) hb2, Bs.up (at1.2) hb2⟩
  have bl2' := bl1'.trans hb2
  clear at1 bl1' hb2 hHeld
  go_wp2_with fail
  refine hK.out _ _ at2 (fun hHeld => ?_)
  clear hK K
  (try simp only [Act.put, List.setIfInBounds_toArray, List.set_cons_zero, List.set_cons_succ])
  refine comes_up 8 rfl (by kernel_rfl) (fun K hK => ?_)
  go_simp
  refine (c3 _).mono ?_
  rintro e w3 ⟨rfl, hb3⟩
  have at3 : Bs w.heap.size x w3 ∧ Bs (w.heap.size + 1) y w3 := ⟨Bs.up (at2.1) hb3, Bs.up (at2.2) hb3⟩
  have bl3' := bl2'.trans hb3
  clear at2 bl2' hb3 hHeld
  go_wp2_with fail
  refine hK.out _ _ at3 (fun hHeld => ?_)
  clear hK K
  (try simp only [Act.put, List.setIfInBounds_toArray, List.set_cons_zero, List.set_cons_succ])
  refine comes_up 9 rfl (by kernel_rfl) (fun K hK => ?_)
  go_simp
  refine (c4 _).mono ?_
  rintro e w4 ⟨rfl, rfl⟩
  go_wp2_with fail
  refine hK.out _ _ at3 (fun hHeld => ?_)
  clear hK K
  (try simp only [Act.put, List.setIfInBounds_toArray, List.set_cons_zero, List.set_cons_succ])
  refine comes_up 10 rfl (by kernel_rfl) (fun K hK => ?_)
  go_simp
  have up3 : Up w3 (w3.alloc (.cells #[.int .i64 d1, .int .i64 d2] 3)) := (Up.refl _).alloc _
  have at4 : Bs w.heap.size x (w3.alloc (.cells #[.int .i64 d1, .int .i64 d2] 3)) ∧ Bs (w.heap.size + 1) y (w3.alloc (.cells #[.int .i64 d1, .int .i64 d2] 3)) := ⟨Bs.up (at3.1) up3, Bs.up (at3.2) up3⟩
  refine hK.out _ _ at4 (fun hHeld => ?_)
  clear hK K
  (try simp only [Act.put, List.setIfInBounds_toArray, List.set_cons_zero, List.set_cons_succ])
  refine comes_up 11 rfl (by kernel_rfl) (fun K hK => ?_)
  go_simp
  refine (c5 _ _ (cell_box w3 _ 3 0 _ rfl) (cell_box w3 _ 3 1 _ rfl)).mono ?_
  rintro e w4 ⟨rfl, rfl⟩
  go_wp2_with fail
  refine hK.out _ _ at4 (fun hHeld => ?_)
  clear hK K
  (try simp only [Act.put, List.setIfInBounds_toArray, List.set_cons_zero, List.set_cons_succ])
  refine take_first 12 (v := ?_) rfl (by kernel_rfl) (by kernel_rfl) (by kernel_rfl) (fun _ _ _ h => h) (Or.inl ⟨by rfl, by intro wx hSw; obtain ⟨⟨hSw1, hSw2, hSw3, hSw4⟩, hSw5, hSw6, hSw7, hSw8⟩ := hSw; go_simp; try with_reducible rfl⟩) (by assumption) ?_
  (try simp only [Act.put, List.setIfInBounds_toArray, List.set_cons_zero, List.set_cons_succ])
  refine wpAnyH_done (by kernel_rfl) ?_ _
  refine NoPanic.normal ?_
  go_wp2
  go_ret
  exact ⟨rfl, bl3'.alloc _⟩
end Go.Proofs.YtlonbbepoamnmaaDoor
namespace Go.Proofs.YtlonbbepoamnmaaDoor
open Go.RowKit Go.Sort
set_option linter.unusedVariables false

theorem swapRange_at (w : World) (g cap n : Nat) (fv : Value) (A U M V Z : List Tg) (ia ib ik : Int) (hb : BlkT w g cap (A ++ U ++ M ++ V ++ Z)) (hUV : U.length = V.length) (hn : (A ++ U ++ M ++ V ++ Z).length = n) (hmax : n ≤ 1000000) (h1 : ia = (A.length : Nat)) (h2 : ib = ((A.length + U.length + M.length : Nat) : Nat)) (h3 : ik = (U.length : Nat)) :
    Calls Tryd.prog 110 #[.slice (some ⟨g, 0, none⟩) n cap, .int .i64 ia, .int .i64 ib, .int .i64 ik, fv] w fun e w' => e = .returned (.tuple #[]) ∧ BlkT w' g cap (A ++ V ++ M ++ U ++ Z) ∧ w.grownBy w' (some g) := by
  subst h1 h2 h3
  exact swapRange_any w g cap n fv A U M V Z hb hUV hn hmax

set_option maxRecDepth 10000 in
set_option maxHeartbeats 1000000 in
theorem rotate_any (w : World) (g cap n : Nat) (fv : Value) (A U V Z : List Tg) (ia im ib : Int) (hb : BlkT w g cap (A ++ U ++ V ++ Z)) (hU : 0 < U.length) (hV : 0 < V.length) (hn : (A ++ U ++ V ++ Z).length = n) (hmax : n ≤ 1000000) (h1 : ia = (A.length : Nat)) (h2 : im = ((A.length + U.length : Nat) : Nat)) (h3 : ib = ((A.length + U.length + V.length : Nat) : Nat)) :
    Calls Tryd.prog 109 #[.slice (some ⟨g, 0, none⟩) n cap, .int .i64 ia, .int .i64 im, .int .i64 ib, fv] w fun e w' => e = .returned (.tuple #[]) ∧ BlkT w' g cap (A ++ V ++ U ++ Z) ∧ w.grownBy w' (some g) := by
  obtain ⟨F, HF⟩ : ∃ F, Hid (A ++ V ++ U ++ Z = F) := ⟨_, rfl⟩
  rw [HF.out]
  obtain ⟨m, HM⟩ : ∃ m : Nat, Hid (A.length + U.length = m) := ⟨_, rfl⟩
  rw [HM.out] at h2
  subst h2
  have hFl : F.length = n := by rw [← HF.out, ← hn]; simp; omega
  have hmn : m ≤ n := by have := HM.out; rw [← hn]; simp; omega
  have H0 : Hid (∃ (A' X Y Z' : List Tg), BlkT w g cap (A' ++ X ++ Y ++ Z') ∧ ((X.length : Nat) : Int) = (m : Int) - ia ∧ ((Y.length : Nat) : Int) = ib - (m : Int) ∧ A'.length + X.length = m ∧ 0 < X.length ∧ 0 < Y.length ∧ A' ++ Y ++ X ++ Z' = F) :=
    ⟨A, U, V, Z, hb, by have := HM.out; omega, by have := HM.out; omega, HM.out, hU, hV, HF.out⟩
  have hia : 0 ≤ ia ∧ ia ≤ 1000000 ∧ 0 ≤ ib ∧ ib ≤ 1000000 := by have := HM.out; rw [← hn] at hmax; simp only [List.length_append] at hmax; omega
  obtain ⟨ha0, ha1, hb0, hb1⟩ := hia
  clear hb hn h1 h3 hU hV HM
  go_enter Tryd.func109, Tryd.ntmps109
  go_wp2_with fail
  go_loopw [10, 11] (fun iv jv wr => ∃ (i j : Nat) (A' X Y Z' : List Tg), iv = .int .i64 i ∧ jv = .int .i64 j ∧ BlkT wr g cap (A' ++ X ++ Y ++ Z') ∧ X.length = i ∧ Y.length = j ∧ A'.length + i = m ∧ 0 < i ∧ 0 < j ∧ A' ++ Y ++ X ++ Z' = F ∧ w.grownBy wr (some g)) (fun iv jv _ => (intOf iv).toNat + (intOf jv).toNat)
  case atStart =>
    obtain ⟨A', X, Y, Z', hb, e1, e2, e3, e4, e5, e6⟩ := H0.out
    exact ⟨X.length, Y.length, A', X, Y, Z', by rw [e1], by rw [e2], hb, rfl, rfl, e3, e4, e5, e6, gr_refl _ _⟩
  case round =>
    obtain ⟨i, j, A', X, Y, Z', rfl, rfl, hblk, hX, hY, hA, hi0, hj0, hF, hgr⟩ := hrel
    have hlen : A'.length + Y.length + X.length + Z'.length = n := by rw [← hF] at hFl; simpa [Nat.add_assoc] using hFl
    have hi1 : i ≤ 1000000 := by omega
    have hj1 : j ≤ 1000000 := by omega
    have hm1 : m ≤ 1000000 := by omega
    by_cases hij : i = j
    · subst hij
      have hne : ((i : Int) != (i : Int)) = false := by simp
      have hsw := swapRange_at wr g cap n fv A' X [] Y Z' ((m : Int) - (i : Int)) (m : Int) (i : Int) (by simpa using hblk) (by omega) (by simp; omega) hmax (by omega) (by simp; omega) (by omega)
      have HF' : Hid (A' ++ Y ++ X ++ Z' = F) := hF
      clear hblk hF H0
      go_wp2_with fail
      refine hsw.mono ?_
      rintro e w1 ⟨rfl, hb1', hg1⟩
      have HE : Hid (BlkT w1 g cap F ∧ w.grownBy w1 (some g)) := ⟨by rw [← HF'.out]; simpa using hb1', gr_trans hgr hg1⟩
      clear hsw hb1' hg1 hgr
      go_wp2
      go_end0
      exact ⟨rfl, HE.out⟩
    · have hne : ((i : Int) != (j : Int)) = true := by simp; omega
      by_cases hgt : j < i
      · have hgtI : (j : Int) < (i : Int) := by omega
        obtain ⟨X1, X2, rfl, hX1⟩ : ∃ X1 X2, X = X1 ++ X2 ∧ X1.length = j := ⟨X.take j, X.drop j, by simp, by rw [List.length_take]; omega⟩
        have hX2 : X2.length = i - j := by rw [List.length_append] at hX; omega
        have hsw := swapRange_at wr g cap n fv A' X1 X2 Y Z' ((m : Int) - (i : Int)) (m : Int) (j : Int) (by simpa using hblk) (by omega) (by simp at hlen ⊢; omega) hmax (by omega) (by rw [List.length_append] at hX; omega) (by omega)
        have HF' : Hid ((A' ++ Y) ++ X1 ++ X2 ++ Z' = F) := by show _ = _; rw [← hF]; simp
        have hc : ((i - j : Nat) : Int) = (i : Int) - (j : Int) := by omega
        clear hblk hF H0
        go_wp2_with fail
        refine hsw.mono ?_
        rintro e w1 ⟨rfl, hb1', hg1⟩
        have hb2 : BlkT w1 g cap ((A' ++ Y) ++ X2 ++ X1 ++ Z') := by simpa using hb1'
        have hg2 := gr_trans hgr hg1
        have hA2 : (A' ++ Y).length + (i - j) = m := by simp; omega
        clear hsw hb1' hg1 hgr
        go_wp2
        go_roundw
        case rel => first | exact ⟨i - j, j, A' ++ Y, X2, X1, Z', by rw [hc], rfl, hb2, hX2, hX1, hA2, by omega, hj0, HF'.out, hg2⟩ | ((repeat apply Exists.intro); exact ⟨⟨i - j, j, A' ++ Y, X2, X1, Z', by rw [hc], rfl, hb2, hX2, hX1, hA2, by omega, hj0, HF'.out, hg2⟩, rfl⟩)
        case measure => simp [intOf]; omega
      · have hgtI : ¬ ((j : Int) < (i : Int)) := by omega
        obtain ⟨Y1, Y2, rfl, hY2⟩ : ∃ Y1 Y2, Y = Y1 ++ Y2 ∧ Y2.length = i := ⟨Y.take (j - i), Y.drop (j - i), by simp, by rw [List.length_drop]; omega⟩
        have hY1 : Y1.length = j - i := by rw [List.length_append] at hY; omega
        have hsw := swapRange_at wr g cap n fv A' X Y1 Y2 Z' ((m : Int) - (i : Int)) ((m : Int) + (j : Int) - (i : Int)) (i : Int) (by simpa using hblk) (by omega) (by simp at hlen ⊢; omega) hmax (by omega) (by omega) (by omega)
        have HF' : Hid (A' ++ Y1 ++ Y2 ++ (X ++ Z') = F) := by show _ = _; rw [← hF]; simp
        have hc : ((j - i : Nat) : Int) = (j : Int) - (i : Int) := by omega
        clear hblk hF H0
        go_wp2_with fail
        refine hsw.mono ?_
        rintro e w1 ⟨rfl, hb1', hg1⟩
        have hb2 : BlkT w1 g cap (A' ++ Y2 ++ Y1 ++ (X ++ Z')) := by simpa using hb1'
        have hg2 := gr_trans hgr hg1
        clear hsw hb1' hg1 hgr
        go_wp2
        go_roundw
        case rel => first | exact ⟨i, j - i, A', Y2, Y1, X ++ Z', rfl, by rw [hc], hb2, hY2, hY1, hA, hi0, by omega, HF'.out, hg2⟩ | ((repeat apply Exists.intro); exact ⟨⟨i, j - i, A', Y2, Y1, X ++ Z', rfl, by rw [hc], hb2, hY2, hY1, hA, hi0, by omega, HF'.out, hg2⟩, rfl⟩)
        case measure => simp [intOf]; omega
end Go.Proofs.YtlonbbepoamnmaaDoor
namespace Go.Proofs.YtlonbbepoamnmaaDoor
open Go.RowKit Go.Sort
set_option linter.unusedVariables false
set_option linter.unusedSimpArgs false

/-- Comes a state ahead of another one: by what is sorted, or told first. -/
def ltT (a b : Tg) : Prop := ltK a.1 b.1 ∨ (¬ ltK b.1 a.1 ∧ a.2 < b.2)
theorem ltT_trans {a b c : Tg} (h : ltT a b) (k : ltT b c) : ltT a c := by unfold ltT ltK at *; omega
theorem ltT_tri {a b : Tg} (hne : a.2 ≠ b.2) (h : ¬ ltT a b) : ltT b a := by unfold ltT ltK at *; omega
theorem ltT_irr (a : Tg) : ¬ ltT a a := by unfold ltT ltK; omega
theorem ltT_of {a b : Tg} (h : a.2 < b.2) : cmpS b.1 a.1 < 0 ↔ ltT b a := by rw [cmpS_lt]; unfold ltT ltK; omega
def Asc (l : List Tg) : Prop := l.Pairwise ltT
def Tags (l : List Tg) : Prop := l.Pairwise (fun a b => a.2 < b.2)
def OkT (l : List Tg) : Prop := ∀ x ∈ l, OkS x.1
def fv31 : Value := .func (.func 92) #[] #[]

/-- Two states' cells. -/
def Two (g i j : Nat) (x y : Tg) (wx : World) : Prop :=
  (wx.cell? ⟨g, i * 4, none⟩ = some (.int .u64 (x.1.1 : Nat)) ∧ wx.cell? ⟨g, i * 4 + 1, none⟩ = some (.int .i64 x.1.2.1) ∧ wx.cell? ⟨g, i * 4 + 2, none⟩ = some (.int .i64 x.1.2.2.1) ∧ wx.cell? ⟨g, i * 4 + 3, none⟩ = some (.slice x.1.2.2.2.1 x.1.2.2.2.2.1 x.1.2.2.2.2.2)) ∧
  (wx.cell? ⟨g, j * 4, none⟩ = some (.int .u64 (y.1.1 : Nat)) ∧ wx.cell? ⟨g, j * 4 + 1, none⟩ = some (.int .i64 y.1.2.1) ∧ wx.cell? ⟨g, j * 4 + 2, none⟩ = some (.int .i64 y.1.2.2.1) ∧ wx.cell? ⟨g, j * 4 + 3, none⟩ = some (.slice y.1.2.2.2.1 y.1.2.2.2.2.1 y.1.2.2.2.2.2))
theorem Two.up {g i j : Nat} {x y : Tg} {w w' : World} (h : Two g i j x y w) (u : Up w w') : Two g i j x y w' := by
  obtain ⟨⟨h1, h2, h3, h4⟩, h5, h6, h7, h8⟩ := h
  exact ⟨⟨u.cell h1, u.cell h2, u.cell h3, u.cell h4⟩, u.cell h5, u.cell h6, u.cell h7, u.cell h8⟩
theorem BlkT.up {w w' : World} {g cap : Nat} {l : List Tg} (h : BlkT w g cap l) (u : Up w w') : BlkT w' g cap l := Blk.up h u.bl

theorem asc_ins {P1 P2 : List Tg} {x : Tg} (h : Asc (P1 ++ P2)) (h2 : ∀ y ∈ P2, ltT x y) (h1 : ∀ y ∈ P1, ltT y x) : Asc (P1 ++ x :: P2) := by
  unfold Asc at *
  rw [List.pairwise_append] at h ⊢
  obtain ⟨a, b, c⟩ := h
  refine ⟨a, List.pairwise_cons.2 ⟨h2, b⟩, fun u hu v hv => ?_⟩
  rw [List.mem_cons] at hv
  rcases hv with rfl | hv
  · exact h1 u hu
  · exact c u hu v hv

theorem BlkT.at {w : World} {g cap j : Nat} {l : List Tg} {y : Tg} (h : BlkT w g cap l) (hj : l[j]? = some y) :
    w.cell? ⟨g, j * 4, none⟩ = some (.int .u64 (y.1.1 : Nat)) ∧ w.cell? ⟨g, j * 4 + 1, none⟩ = some (.int .i64 y.1.2.1) ∧ w.cell? ⟨g, j * 4 + 2, none⟩ = some (.int .i64 y.1.2.2.1) ∧ w.cell? ⟨g, j * 4 + 3, none⟩ = some (.slice y.1.2.2.2.1 y.1.2.2.2.2.1 y.1.2.2.2.2.2) := by
  refine Blk.cell h (x := y.1) ?_
  rw [List.getElem?_map, hj]
  rfl
theorem BlkT.two {w : World} {g cap i j : Nat} {l : List Tg} {x y : Tg} (h : BlkT w g cap l) (hi : l[i]? = some x) (hj : l[j]? = some y) : Two g i j x y w := ⟨h.at hi, h.at hj⟩

theorem asc_get {l : List Tg} (h : Asc l) {i j : Nat} {x y : Tg} (hi : l[i]? = some x) (hj : l[j]? = some y) (hij : i < j) : ltT x y := by
  obtain ⟨h1, rfl⟩ := List.getElem?_eq_some_iff.1 hi
  obtain ⟨h2, rfl⟩ := List.getElem?_eq_some_iff.1 hj
  exact (List.pairwise_iff_getElem.1 h) i j h1 h2 hij
theorem asc_le {l : List Tg} (h : Asc l) {i j : Nat} {x y : Tg} (hi : l[i]? = some x) (hj : l[j]? = some y) (hij : i ≤ j) : x = y ∨ ltT x y := by
  by_cases e : i = j
  · subst e; rw [hi] at hj; exact .inl (by simpa using hj)
  · exact .inr (asc_get h hi hj (by omega))
theorem mem_take_get {l : List Tg} {k : Nat} {x : Tg} (h : x ∈ l.take k) : ∃ i, i < k ∧ l[i]? = some x := by
  obtain ⟨i, hi, rfl⟩ := List.mem_iff_getElem.1 h
  rw [List.length_take] at hi
  exact ⟨i, by omega, by rw [List.getElem_take]; exact List.getElem?_eq_getElem (by omega)⟩
theorem mem_drop_get {l : List Tg} {k : Nat} {x : Tg} (h : x ∈ l.drop k) : ∃ i, k ≤ i ∧ l[i]? = some x := by
  obtain ⟨i, hi, rfl⟩ := List.mem_iff_getElem.1 h
  rw [List.length_drop] at hi
  exact ⟨k + i, by omega, by rw [List.getElem_drop]; exact List.getElem?_eq_getElem (by omega)⟩
theorem lt_le {a b c : Tg} (h : ltT a b) (k : b = c ∨ ltT b c) : ltT a c := by rcases k with rfl | k; exact h; exact ltT_trans h k
theorem le_lt {a b c : Tg} (h : a = b ∨ ltT a b) (k : ltT b c) : ltT a c := by rcases h with rfl | h; exact k; exact ltT_trans h k
/-- Behind the turn each of the first half is ahead of each of the second one. -/
theorem sm_split {L R : List Tg} (hL : Asc L) (hR : Asc R) (k1 k2 : Nat) (h1 : k1 = 0 ∨ k2 = R.length ∨ ∃ x y, L[k1 - 1]? = some x ∧ R[k2]? = some y ∧ ltT x y)
    (h2 : k1 = L.length ∨ k2 = 0 ∨ ∃ x y, L[k1]? = some x ∧ R[k2 - 1]? = some y ∧ ltT y x) : ∀ x ∈ L.take k1 ++ R.take k2, ∀ y ∈ L.drop k1 ++ R.drop k2, ltT x y := by
  intro x hx y hy
  rw [List.mem_append] at hx hy
  rcases hx with hx | hx <;> rcases hy with hy | hy <;> obtain ⟨i, hi, ei⟩ := mem_take_get hx <;> obtain ⟨j, hj, ej⟩ := mem_drop_get hy
  · exact asc_get hL ei ej (by omega)
  · have hjl := (List.getElem?_eq_some_iff.1 ej).1
    rcases h1 with h | h | ⟨u, v, hu, hv, huv⟩
    · omega
    · omega
    · exact le_lt (asc_le hL ei hu (by omega)) (lt_le huv (asc_le hR hv ej hj))
  · have hjl := (List.getElem?_eq_some_iff.1 ej).1
    rcases h2 with h | h | ⟨u, v, hu, hv, huv⟩
    · omega
    · omega
    · exact le_lt (asc_le hR ei hv (by omega)) (lt_le huv (asc_le hL hu ej hj))
  · exact asc_get hR ei ej (by omega)
theorem asc_app {A B : List Tg} (ha : Asc A) (hb : Asc B) (h : ∀ x ∈ A, ∀ y ∈ B, ltT x y) : Asc (A ++ B) := List.pairwise_append.2 ⟨ha, hb, h⟩
theorem asc_take {A : List Tg} (h : Asc A) (k : Nat) : Asc (A.take k) := List.Pairwise.sublist (List.take_sublist k A) h
theorem asc_drop {A : List Tg} (h : Asc A) (k : Nat) : Asc (A.drop k) := List.Pairwise.sublist (List.drop_sublist k A) h
/-- One put among others: where. -/
theorem asc_put {R : List Tg} {x : Tg} (hR : Asc R) (k : Nat) (h1 : k = 0 ∨ ∃ y, R[k - 1]? = some y ∧ ltT y x) (h2 : k = R.length ∨ ∃ y, R[k]? = some y ∧ ltT x y) : Asc (R.take k ++ x :: R.drop k) := by
  refine asc_ins (by rw [List.take_append_drop]; exact hR) (fun y hy => ?_) (fun y hy => ?_)
  · obtain ⟨j, hj, ej⟩ := mem_drop_get hy
    have hjl := (List.getElem?_eq_some_iff.1 ej).1
    rcases h2 with h | ⟨u, hu, huv⟩
    · omega
    · exact lt_le huv (asc_le hR hu ej hj)
  · obtain ⟨i, hi, ei⟩ := mem_take_get hy
    rcases h1 with h | ⟨u, hu, huv⟩
    · omega
    · exact le_lt (asc_le hR ei hu (by omega)) huv

/-- Sorted stretches of k, the last one maybe shorter, those that stood ahead ahead. -/
inductive Ch (k : Nat) : List Tg → Prop
  | last (c : List Tg) : Asc c → c.length ≤ k → Ch k c
  | cons (c r : List Tg) : Asc c → c.length = k → (∀ x ∈ c, ∀ y ∈ r, x.2 < y.2) → Ch k r → Ch k (c ++ r)
def App (k : Nat) (F : List Tg) : Prop := ∀ T, (∀ x ∈ F, ∀ y ∈ T, x.2 < y.2) → Ch k T → Ch k (F ++ T)
theorem App.nil (k : Nat) : App k [] := fun T _ h => by simpa using h
theorem App.snoc {k : Nat} {F M : List Tg} (h : App k F) (hF : ∀ x ∈ F, ∀ y ∈ M, x.2 < y.2) (hM : Asc M) (hl : M.length = k) : App k (F ++ M) := fun T hT hc => by
  rw [List.append_assoc]
  refine h _ (fun x hx y hy => ?_) (Ch.cons M T hM hl (fun x hx y hy => hT x (by simp [hx]) y hy) hc)
  rw [List.mem_append] at hy
  rcases hy with hy | hy
  · exact hF x hx y hy
  · exact hT x (by simp [hx]) y hy
theorem Ch.two {k : Nat} {T : List Tg} (h : Ch k T) (hl : k < T.length) : ∃ c r, T = c ++ r ∧ Asc c ∧ c.length = k ∧ (∀ x ∈ c, ∀ y ∈ r, x.2 < y.2) ∧ Ch k r := by
  cases h with
  | last _ h1 h2 => omega
  | cons c r h1 h2 h3 h4 => exact ⟨c, r, rfl, h1, h2, h3, h4⟩
theorem Ch.one {k : Nat} {T : List Tg} (h : Ch k T) (hl : T.length ≤ k) : Asc T := by
  cases h with
  | last _ h1 h2 => exact h1
  | cons c r h1 h2 h3 h4 =>
    have : r = [] := List.length_eq_zero_iff.1 (by rw [List.length_append] at hl; omega)
    subst this; simpa using h1
/-- The first stretch, whole. -/
theorem Ch.first {k : Nat} {T : List Tg} (h : Ch k T) (hl : k ≤ T.length) : ∃ c r, T = c ++ r ∧ Asc c ∧ c.length = k ∧ (∀ x ∈ c, ∀ y ∈ r, x.2 < y.2) ∧ Ch k r := by
  cases h with
  | last _ h1 h2 => exact ⟨T, [], by simp, h1, by omega, by simp, Ch.last [] (by unfold Asc; simp) (by simp)⟩
  | cons c r h1 h2 h3 h4 => exact ⟨c, r, rfl, h1, h2, h3, h4⟩
end Go.Proofs.YtlonbbepoamnmaaDoor
namespace Go.Proofs.YtlonbbepoamnmaaDoor
open Go.RowKit Go.Sort
set_option linter.unusedVariables false

/-- An item: whom it is from, and where its bytes lie. -/
abbrev Ix := Int × Option Addr × Nat × Nat
/-- .. and what it says. -/
abbrev Di := Int × List UInt8
/-- What is read in blocks of a kind is read as before. -/
def Kp (p : Nat → Prop) (w w' : World) : Prop := ∀ ad v, p ad.block → w.cell? ad = some v → w'.cell? ad = some v
theorem Kp.below {p : Nat → Prop} {w w' : World} {B : Nat} (h : Below B w w') (hp : ∀ b, p b → b < B) : Kp p w w' := fun ad v hb hc => (h.cell (hp _ hb)).trans hc
theorem Kp.up {p : Nat → Prop} {w w' : World} (h : Below w.heap.size w w') : Kp p w w' := fun ad v hb hc => (h.cell (World.block_lt_of_cell? w _ hc)).trans hc
theorem Kp.grown {p : Nat → Prop} {w w' : World} {g : Nat} (h : w.grownBy w' (some g)) (hp : ∀ b, p b → b ≠ g) : Kp p w w' := fun ad v hb hc => h.cell hc (by simpa using hp _ hb)
theorem Kp.trans {p : Nat → Prop} {a b c : World} (h : Kp p a b) (k : Kp p b c) : Kp p a c := fun ad v hb hc => k ad v hb (h ad v hb hc)
theorem Kp.imp {p q : Nat → Prop} {a b : World} (h : Kp q a b) (hpq : ∀ n, p n → q n) : Kp p a b := fun ad v hb hc => h ad v (hpq _ hb) hc

/-- Bytes that lie in memory. -/
def Rw (p : Nat → Prop) (w : World) (ao : Option Addr) (n : Nat) (xs : List UInt8) : Prop :=
  xs.length = n ∧ n ≤ 140737488355328 ∧ (ao = none → n = 0) ∧ (0 < n → ∃ b off, ao = some ⟨b, off, none⟩ ∧ p b ∧ ∀ j x, xs[j]? = some x → w.cell? ⟨b, off + j, none⟩ = some (.int .u8 (x.toNat : Int)))
theorem Rw.keep {p : Nat → Prop} {w w' : World} {ao : Option Addr} {n : Nat} {xs : List UInt8} (h : Rw p w ao n xs) (k : Kp p w w') : Rw p w' ao n xs := by
  obtain ⟨h1, h2, h3, h4⟩ := h
  refine ⟨h1, h2, h3, fun h0 => ?_⟩
  obtain ⟨b, off, e, hp, hc⟩ := h4 h0
  exact ⟨b, off, e, hp, fun j x hj => k _ _ hp (hc j x hj)⟩
theorem Rw.imp {p q : Nat → Prop} {w : World} {ao : Option Addr} {n : Nat} {xs : List UInt8} (h : Rw p w ao n xs) (k : ∀ b, b < w.heap.size → p b → q b) : Rw q w ao n xs := by
  obtain ⟨h1, h2, h3, h4⟩ := h
  refine ⟨h1, h2, h3, fun h0 => ?_⟩
  obtain ⟨b, off, e, hp, hc⟩ := h4 h0
  refine ⟨b, off, e, k b ?_ hp, hc⟩
  have := hc 0 xs[0] (List.getElem?_eq_getElem (by omega))
  exact World.block_lt_of_cell? w _ this
/-- Items that lie in memory. -/
def IR (p : Nat → Prop) (w : World) (ao : Option Addr) (n : Nat) (xs : List Ix) : Prop :=
  xs.length = n ∧ n ≤ 4398046511104 ∧ (ao = none → n = 0) ∧ (0 < n → ∃ b off, ao = some ⟨b, off, none⟩ ∧ p b ∧ ∀ j x, xs[j]? = some x → w.cell? ⟨b, off + j * 2, none⟩ = some (.int .i64 x.1) ∧ w.cell? ⟨b, off + j * 2 + 1, none⟩ = some (.slice x.2.1 x.2.2.1 x.2.2.2))
theorem IR.keep {p : Nat → Prop} {w w' : World} {ao : Option Addr} {n : Nat} {xs : List Ix} (h : IR p w ao n xs) (k : Kp p w w') : IR p w' ao n xs := by
  obtain ⟨h1, h2, h3, h4⟩ := h
  refine ⟨h1, h2, h3, fun h0 => ?_⟩
  obtain ⟨b, off, e, hp, hc⟩ := h4 h0
  exact ⟨b, off, e, hp, fun j x hj => ⟨k _ _ hp (hc j x hj).1, k _ _ hp (hc j x hj).2⟩⟩
theorem IR.imp {p q : Nat → Prop} {w : World} {ao : Option Addr} {n : Nat} {xs : List Ix} (h : IR p w ao n xs) (k : ∀ b, b < w.heap.size → p b → q b) : IR q w ao n xs := by
  obtain ⟨h1, h2, h3, h4⟩ := h
  refine ⟨h1, h2, h3, fun h0 => ?_⟩
  obtain ⟨b, off, e, hp, hc⟩ := h4 h0
  refine ⟨b, off, e, k b ?_ hp, hc⟩
  have := (hc 0 xs[0] (List.getElem?_eq_getElem (by omega))).1
  exact World.block_lt_of_cell? w _ this
def It (p : Nat → Prop) (w : World) (x : Ix) (d : Di) : Prop := x.1 = d.1 ∧ Rw p w x.2.1 x.2.2.1 d.2
theorem It.keep {p : Nat → Prop} {w w' : World} {x : Ix} {d : Di} (h : It p w x d) (k : Kp p w w') : It p w' x d := ⟨h.1, h.2.keep k⟩
theorem It.imp {p q : Nat → Prop} {w : World} {x : Ix} {d : Di} (h : It p w x d) (k : ∀ b, b < w.heap.size → p b → q b) : It q w x d := ⟨h.1, h.2.imp k⟩
/-- Items that lie in memory, and what they say. -/
def Its (p : Nat → Prop) (w : World) (ao : Option Addr) (n : Nat) (ds : List Di) : Prop := ∃ xs, IR p w ao n xs ∧ ds.length = n ∧ ∀ (j : Nat) (x : Ix) (d : Di), xs[j]? = some x → ds[j]? = some d → It p w x d
theorem Its.keep {p : Nat → Prop} {w w' : World} {ao : Option Addr} {n : Nat} {ds : List Di} (h : Its p w ao n ds) (k : Kp p w w') : Its p w' ao n ds := by
  obtain ⟨xs, h1, h2, h3⟩ := h
  exact ⟨xs, h1.keep k, h2, fun j x d hx hd => (h3 j x d hx hd).keep k⟩
theorem Its.imp {p q : Nat → Prop} {w : World} {ao : Option Addr} {n : Nat} {ds : List Di} (h : Its p w ao n ds) (k : ∀ b, b < w.heap.size → p b → q b) : Its q w ao n ds := by
  obtain ⟨xs, h1, h2, h3⟩ := h
  exact ⟨xs, h1.imp k, h2, fun j x d hx hd => (h3 j x d hx hd).imp k⟩
theorem Its.len {p : Nat → Prop} {w : World} {ao : Option Addr} {n : Nat} {ds : List Di} (h : Its p w ao n ds) : ds.length = n := by obtain ⟨xs, _, h2, _⟩ := h; exact h2

theorem own_cell {w : World} {B e size n g cap : Nat} {vs : List Value} (h : w.ownsRow B e size (.slice (some ⟨g, 0, none⟩) n cap) n vs) : ∀ j u, vs[j]? = some u → w.cell? ⟨g, j, none⟩ = some u := by
  intro j u hj
  rcases h.2 with ⟨h0, _⟩ | ⟨g', cap', cur, h0, a, b, c, d, e', f⟩
  · cases h0
  · simp only [Value.slice.injEq, Option.some.injEq, Addr.mk.injEq] at h0
    obtain ⟨⟨rfl, _, _⟩, _, rfl⟩ := h0
    unfold World.cell?
    rw [b]
    have : cur.toList[j]? = some u := by
      rw [← f, List.getElem?_take] at hj
      split at hj
      · exact hj
      · cases hj
    simpa using this
theorem own_shape {w : World} {B e size n : Nat} {v : Value} {vs : List Value} (h : w.ownsRow B e size v n vs) : v = .slice none 0 0 ∧ n = 0 ∨ ∃ g cap, v = .slice (some ⟨g, 0, none⟩) n cap ∧ B ≤ g ∧ g < w.heap.size := by
  rcases h.2 with ⟨rfl, rfl⟩ | ⟨g, cap, cur, rfl, a, b, _⟩
  · exact .inl ⟨rfl, rfl⟩
  · exact .inr ⟨g, cap, rfl, a, (Array.getElem?_eq_some_iff.1 b).1⟩

def cellB (xs : List UInt8) : List Value := xs.map (fun x => Value.int .u8 (x.toNat : Int))
theorem infoB : (Tryd.prog.info? 5).map (fun i => (i.zero, i.size, i.bytes)) = some (some (.int .u8 0), 1, 1) := by kernel_rfl
theorem und42 : Tryd.prog.underlying 96 = some (.slice 5) := by kernel_rfl
theorem und29 : Tryd.prog.underlying 41 = some (.slice 98) := by kernel_rfl
theorem Rw.cells {p : Nat → Prop} {w : World} {a : Addr} {n : Nat} {xs : List UInt8} (h : Rw p w (some a) n xs) : ∀ j u, (cellB xs)[j]? = some u → w.cell? (a.add j) = some u := by
  intro j u hj
  obtain ⟨h1, h2, h3, h4⟩ := h
  unfold cellB at hj
  rw [List.getElem?_map] at hj
  obtain ⟨x, hx, rfl⟩ := Option.map_eq_some_iff.1 hj
  have := (List.getElem?_eq_some_iff.1 hx).1
  obtain ⟨b, off, e, hp, hc⟩ := h4 (by omega)
  cases e
  rw [Addr.add_lit]
  exact hc j x hx
theorem Rw.own {w : World} {B n : Nat} {v : Value} {xs : List UInt8} (h : w.ownsRow B 5 1 v n (cellB xs)) (hm : n ≤ 140737488355328) : ∃ ao cap, v = .slice ao n cap ∧ Rw (fun b => B ≤ b) w ao n xs := by
  have hl : xs.length = n := by have := h.1; simp [cellB] at this; omega
  rcases own_shape h with ⟨rfl, rfl⟩ | ⟨g, cap, rfl, hg, _⟩
  · exact ⟨none, 0, rfl, hl, by omega, fun _ => rfl, fun h => by omega⟩
  · refine ⟨some ⟨g, 0, none⟩, cap, rfl, hl, hm, fun e => (by cases e), fun _ => ⟨g, 0, rfl, hg, fun j x hj => ?_⟩⟩
    rw [Nat.zero_add]
    refine own_cell h j _ ?_
    unfold cellB
    rw [List.getElem?_map, hj]
    rfl

set_option maxRecDepth 10000 in
set_option maxHeartbeats 1000000 in
theorem cloneB_any (p : Nat → Prop) (w : World) (ao : Option Addr) (n cap : Nat) (xs : List UInt8) (h : Rw p w ao n xs) :
    Calls Tryd.prog 84 #[.slice ao n cap] w fun e w' => ∃ ao' cap', e = .returned (.slice ao' n cap') ∧ Rw (fun b => w.heap.size ≤ b) w' ao' n xs ∧ Below w.heap.size w w' := by
  obtain ⟨i0, hi0, hz0, hz1, hz2⟩ := info_parts infoB
  have q42 := fun (w : World) (a : Option Addr) (n c n' c' : Nat) => Lib.run_eql_slice_nil (P := Tryd.prog) w 96 5 a n c n' c' und42
  have hl := h.1
  have hm := h.2.1
  cases ao with
  | none =>
    obtain rfl := h.2.2.1 rfl
    obtain rfl : xs = [] := List.length_eq_zero_iff.1 hl
    clear h
    go_enter Tryd.func84, Tryd.ntmps84
    go_wp2
    go_ret
    exact ⟨none, 0, rfl, ⟨rfl, by omega, fun _ => rfl, fun h => by omega⟩, Below.refl _ _⟩
  | some ad =>
    have hA : Hid (∀ j u, (cellB xs)[j]? = some u → w.cell? (ad.add j) = some u) := h.cells
    have HF : Hid ((cellB xs).length = n * 1) := by show _ = _; simp [cellB, hl]
    have HO : Hid (∀ u ∈ cellB xs, u.oneCell' = true) := fun u hu => by
      obtain ⟨x, _, rfl⟩ := List.mem_map.1 hu
      rfl
    clear h
    go_enter Tryd.func84, Tryd.ntmps84
    go_wp2_with (at_builtin; refine wpList_append_own_at _ rfl _ _ 96 rfl w.heap.size 5 i0 (.int .u8 0) 1 1 und42 hi0 hz0 hz1 hz2 rfl (by decide) _ 0 [] rfl ?d1 ad n cap (cellB xs) rfl ?d2 ?d3 ?d4 ?d6 ?d7 ?d8 ?_)
    case d1 => exact World.ownsRow_made w #[] 0 (Nat.le_refl _) (Nat.zero_le _) (by simp)
    case d2 => exact HF.out
    case d3 => exact fun j u hj => ((bl1 w _).cell (World.block_lt_of_cell? w _ (hA.out j u hj))).trans (hA.out j u hj)
    case d4 => exact HO.out
    case d6 => unfold maxLen; omega
    case d7 => omega
    case d8 => simp
    intro v' w1 hown hgrow hnil hat
    obtain ⟨ao', cap', rfl, hr⟩ := Rw.own (xs := xs) (B := w.heap.size) (n := n) (v := v') (w := w1) (by simpa using hown) hm
    have HE : Hid (Rw (fun b => w.heap.size ≤ b) w1 ao' n xs ∧ Below w.heap.size w w1) := ⟨hr, bl_grown (bl1 w _) (by simp) hgrow (by intro k hk; simp [Value.ownBlock] at hk; omega)⟩
    clear hown hgrow hnil hat hr
    go_wp2
    go_ret
    exact ⟨ao', cap', rfl, HE.out⟩

def cellI (xs : List Ix) : List Value := xs.flatMap (fun x => [.int .i64 x.1, .slice x.2.1 x.2.2.1 x.2.2.2])
theorem cellI_len (xs : List Ix) : (cellI xs).length = xs.length * 2 := by
  induction xs with
  | nil => rfl
  | cons a r ih => simp [cellI] at ih ⊢; omega
theorem cellI_get : ∀ (xs : List Ix) (j : Nat) (x : Ix) (i : Nat), xs[j]? = some x → i < 2 → (cellI xs)[2 * j + i]? = [Value.int .i64 x.1, .slice x.2.1 x.2.2.1 x.2.2.2][i]?
  | [], j, x, i, h, hi => by simp at h
  | a :: r, 0, x, i, h, hi => by
    simp at h; subst h
    rw [show cellI (a :: r) = [Value.int .i64 a.1, .slice a.2.1 a.2.2.1 a.2.2.2] ++ cellI r from rfl, List.getElem?_append_left (by simp; omega)]; simp
  | a :: r, j + 1, x, i, h, hi => by
    rw [show cellI (a :: r) = [Value.int .i64 a.1, .slice a.2.1 a.2.2.1 a.2.2.2] ++ cellI r from rfl, List.getElem?_append_right (by simp; omega), show 2 * (j + 1) + i - [Value.int .i64 a.1, Value.slice a.2.1 a.2.2.1 a.2.2.2].length = 2 * j + i by simp; omega]
    exact cellI_get r j x i (by simpa using h) hi
theorem cellI_one {xs : List Ix} {u : Value} (h : u ∈ cellI xs) : u.oneCell' = true := by
  obtain ⟨x, _, hx⟩ := List.mem_flatMap.1 h
  simp at hx
  rcases hx with rfl | rfl <;> rfl
theorem infoI : (Tryd.prog.info? 98).map (fun i => (i.zero, i.size, i.bytes)) = some (some (.agg #[.int .i64 0, .slice none 0 0]), 2, 32) := by kernel_rfl
theorem IR.cells {p : Nat → Prop} {w : World} {a : Addr} {n : Nat} {xs : List Ix} (h : IR p w (some a) n xs) : ∀ j u, (cellI xs)[j]? = some u → w.cell? (a.add j) = some u := by
  intro j u hj
  obtain ⟨h1, h2, h3, h4⟩ := h
  have hjl : j < xs.length * 2 := by
    have := (List.getElem?_eq_some_iff.1 hj).1
    rwa [cellI_len] at this
  obtain ⟨b, off, e, hp, hc⟩ := h4 (by omega)
  cases e
  rw [Addr.add_lit]
  obtain ⟨x, hx⟩ : ∃ x, xs[j / 2]? = some x := ⟨xs[j / 2]'(by omega), List.getElem?_eq_getElem (by omega)⟩
  have hf := cellI_get xs (j / 2) x (j % 2) hx (by omega)
  rw [show 2 * (j / 2) + j % 2 = j by omega, hj] at hf
  obtain ⟨c0, c1⟩ := hc _ x hx
  have hm : j % 2 = 0 ∨ j % 2 = 1 := by omega
  rcases hm with e | e
  · rw [e] at hf; simp at hf; rw [hf, show off + j = off + j / 2 * 2 by omega]; exact c0
  · rw [e] at hf; simp at hf; rw [hf, show off + j = off + j / 2 * 2 + 1 by omega]; exact c1
theorem IR.own {w : World} {B n : Nat} {v : Value} {xs : List Ix} (h : w.ownsRow B 98 2 v n (cellI xs)) (hm : n ≤ 4398046511104) : (v = .slice none 0 0 ∧ n = 0) ∨ ∃ g cap, v = .slice (some ⟨g, 0, none⟩) n cap ∧ B ≤ g ∧ g < w.heap.size ∧ (∀ i, w.frozen? ⟨g, i, none⟩ = false) ∧ IR (fun b => b = g) w (some ⟨g, 0, none⟩) n xs := by
  have hl : xs.length = n := by have := h.1; rw [cellI_len] at this; omega
  rcases own_shape h with ⟨rfl, rfl⟩ | ⟨g, cap, rfl, hg, hg2⟩
  · exact .inl ⟨rfl, rfl⟩
  · refine .inr ⟨g, cap, rfl, hg, hg2, fun i => ?_, hl, hm, fun e => (by cases e), fun _ => ⟨g, 0, rfl, rfl, fun j x hj => ⟨?_, ?_⟩⟩⟩
    · rcases h.2 with ⟨h0, _⟩ | ⟨g', cap', cur, h0, a, b, _⟩
      · cases h0
      · simp only [Value.slice.injEq, Option.some.injEq, Addr.mk.injEq] at h0
        obtain ⟨⟨rfl, _, _⟩, _, rfl⟩ := h0
        simp [World.frozen?, b]
    · rw [Nat.zero_add]
      refine own_cell h _ _ ?_
      have := cellI_get xs j x 0 hj (by omega)
      rw [show 2 * j + 0 = j * 2 by omega] at this
      exact this
    · rw [Nat.zero_add]
      refine own_cell h _ _ ?_
      have := cellI_get xs j x 1 hj (by omega)
      rw [show 2 * j + 1 = j * 2 + 1 by omega] at this
      exact this

set_option maxRecDepth 10000 in
set_option maxHeartbeats 1000000 in
theorem cloneI_any (p : Nat → Prop) (w : World) (ao : Option Addr) (n cap : Nat) (xs : List Ix) (h : IR p w ao n xs) :
    Calls Tryd.prog 83 #[.slice ao n cap] w fun e w' => (∃ v, e = .returned v ∧ ((v = .slice none 0 0 ∧ n = 0) ∨ ∃ g cap', v = .slice (some ⟨g, 0, none⟩) n cap' ∧ w.heap.size ≤ g ∧ g < w'.heap.size ∧ (∀ i, w'.frozen? ⟨g, i, none⟩ = false) ∧ IR (fun b => b = g) w' (some ⟨g, 0, none⟩) n xs)) ∧ Below w.heap.size w w' := by
  obtain ⟨i0, hi0, hz0, hz1, hz2⟩ := info_parts infoI
  have q29 := fun (w : World) (a : Option Addr) (n c n' c' : Nat) => Lib.run_eql_slice_nil (P := Tryd.prog) w 41 98 a n c n' c' und29
  have hl := h.1
  have hm := h.2.1
  cases ao with
  | none =>
    obtain rfl := h.2.2.1 rfl
    clear h
    go_enter Tryd.func83, Tryd.ntmps83
    go_wp2
    go_ret
    exact ⟨⟨_, rfl, .inl (by simp)⟩, Below.refl _ _⟩
  | some ad =>
    have hA : Hid (∀ j u, (cellI xs)[j]? = some u → w.cell? (ad.add j) = some u) := h.cells
    have HF : Hid ((cellI xs).length = n * 2) := by show _ = _; rw [cellI_len, hl]
    clear h
    go_enter Tryd.func83, Tryd.ntmps83
    go_wp2_with (at_builtin; refine wpList_append_own_at _ rfl _ _ 41 rfl w.heap.size 98 i0 (.agg #[.int .i64 0, .slice none 0 0]) 2 32 und29 hi0 hz0 hz1 hz2 rfl (by decide) _ 0 [] rfl ?d1 ad n cap (cellI xs) rfl ?d2 ?d3 ?d4 ?d6 ?d7 ?d8 ?_)
    case d1 => exact World.ownsRow_made w #[] 0 (Nat.le_refl _) (Nat.zero_le _) (by simp)
    case d2 => exact HF.out
    case d3 => exact fun j u hj => ((bl1 w _).cell (World.block_lt_of_cell? w _ (hA.out j u hj))).trans (hA.out j u hj)
    case d4 => exact fun u hu => cellI_one hu
    case d6 => unfold maxLen; omega
    case d7 => omega
    case d8 => simp
    intro v' w1 hown hgrow hnil hat
    have hr := IR.own (xs := xs) (B := w.heap.size) (n := n) (v := v') (w := w1) (by simpa using hown) hm
    have HE : Hid (((v' = .slice none 0 0 ∧ n = 0) ∨ ∃ g cap', v' = .slice (some ⟨g, 0, none⟩) n cap' ∧ w.heap.size ≤ g ∧ g < w1.heap.size ∧ (∀ i, w1.frozen? ⟨g, i, none⟩ = false) ∧ IR (fun b => b = g) w1 (some ⟨g, 0, none⟩) n xs) ∧ Below w.heap.size w w1) := ⟨hr, bl_grown (bl1 w _) (by simp) hgrow (by intro k hk; simp [Value.ownBlock] at hk; omega)⟩
    clear hown hgrow hnil hat hr
    go_wp2
    go_ret
    exact ⟨⟨v', rfl, HE.out.1⟩, HE.out.2⟩
end Go.Proofs.YtlonbbepoamnmaaDoor
namespace Go.Proofs.YtlonbbepoamnmaaDoor
open Go.RowKit Go.Sort
set_option linter.unusedVariables false

/-- A list of states that lies in memory. -/
def SR (p : Nat → Prop) (w : World) (ao : Option Addr) (n : Nat) (ss : List Sx) : Prop :=
  ss.length = n ∧ n ≤ 9223372036854775807 ∧ (ao = none → n = 0) ∧ (0 < n → ∃ b off, ao = some ⟨b, off, none⟩ ∧ p b ∧ ∀ j x, ss[j]? = some x →
    w.cell? ⟨b, off + j * 4, none⟩ = some (.int .u64 (x.1 : Nat)) ∧ w.cell? ⟨b, off + j * 4 + 1, none⟩ = some (.int .i64 x.2.1) ∧ w.cell? ⟨b, off + j * 4 + 2, none⟩ = some (.int .i64 x.2.2.1) ∧ w.cell? ⟨b, off + j * 4 + 3, none⟩ = some (.slice x.2.2.2.1 x.2.2.2.2.1 x.2.2.2.2.2))
theorem SR.keep {p : Nat → Prop} {w w' : World} {ao : Option Addr} {n : Nat} {ss : List Sx} (h : SR p w ao n ss) (k : Kp p w w') : SR p w' ao n ss := by
  obtain ⟨h1, h2, h3, h4⟩ := h
  refine ⟨h1, h2, h3, fun h0 => ?_⟩
  obtain ⟨b, off, e, hp, hc⟩ := h4 h0
  exact ⟨b, off, e, hp, fun j x hj => ⟨k _ _ hp (hc j x hj).1, k _ _ hp (hc j x hj).2.1, k _ _ hp (hc j x hj).2.2.1, k _ _ hp (hc j x hj).2.2.2⟩⟩
theorem SR.up {p : Nat → Prop} {w w' : World} {ao : Option Addr} {n : Nat} {ss : List Sx} (h : SR p w ao n ss) (u : Below w.heap.size w w') : SR p w' ao n ss := h.keep (Kp.up u)
theorem SR.imp {p q : Nat → Prop} {w : World} {ao : Option Addr} {n : Nat} {ss : List Sx} (h : SR p w ao n ss) (k : ∀ b, b < w.heap.size → p b → q b) : SR q w ao n ss := by
  obtain ⟨h1, h2, h3, h4⟩ := h
  refine ⟨h1, h2, h3, fun h0 => ?_⟩
  obtain ⟨b, off, e, hp, hc⟩ := h4 h0
  refine ⟨b, off, e, k b ?_ hp, hc⟩
  have := (hc 0 ss[0] (List.getElem?_eq_getElem (by omega))).1
  exact World.block_lt_of_cell? w _ this
theorem SR.own {w : World} {B n : Nat} {v : Value} {ss : List Sx} (h : w.ownsRow B 45 4 v n (flat ss)) : ∃ ao cap, v = .slice ao n cap ∧ SR (fun b => some b = v.ownBlock ∧ B ≤ b) w ao n ss ∧ n ≤ cap ∧ cap ≤ 9223372036854775807 := by
  have hl : ss.length = n := by have := h.1; rw [flat_len] at this; omega
  rcases h.2 with ⟨rfl, rfl⟩ | ⟨g, cap, cur, rfl, hg, hh, hnc, hcm, hcs, htk⟩
  · exact ⟨_, _, rfl, ⟨hl, by omega, fun _ => rfl, fun h => by omega⟩, by omega, by omega⟩
  · have hcm' : cap ≤ 9223372036854775807 := by unfold maxLen at hcm; omega
    refine ⟨_, _, rfl, ⟨hl, by omega, fun e => (by cases e), fun h0 => ⟨g, 0, rfl, ⟨rfl, hg⟩, fun j x hj => ?_⟩⟩, hnc, hcm'⟩
    have key : ∀ i, i < 4 → w.cell? ⟨g, 0 + j * 4 + i, none⟩ = (cellsS x)[i]? := fun i hi => by
      rw [Nat.zero_add]
      have hf := flat_get ss j x i hj hi
      have hu : (cellsS x)[i]? = some ((cellsS x)[i]'(by simp [cellsS]; omega)) := List.getElem?_eq_getElem _
      rw [hu] at hf ⊢
      rw [show j * 4 + i = 4 * j + i by omega]
      exact own_cell h _ _ hf
    exact ⟨key 0 (by omega), key 1 (by omega), key 2 (by omega), key 3 (by omega)⟩
theorem SR.cells {p : Nat → Prop} {w : World} {a : Addr} {n : Nat} {ss : List Sx} (h : SR p w (some a) n ss) : ∀ j u, (flat ss)[j]? = some u → w.cell? (a.add j) = some u := by
  intro j u hj
  obtain ⟨hl, _, _, hc⟩ := h
  have hjl : j < ss.length * 4 := by
    have := (List.getElem?_eq_some_iff.1 hj).1
    rwa [flat_len] at this
  obtain ⟨b, off, e, hp, hcell⟩ := hc (by omega)
  cases e
  rw [Addr.add_lit]
  obtain ⟨x, hx⟩ : ∃ x, ss[j / 4]? = some x := ⟨ss[j / 4]'(by omega), List.getElem?_eq_getElem (by omega)⟩
  have hf := flat_get ss (j / 4) x (j % 4) hx (by omega)
  rw [show 4 * (j / 4) + j % 4 = j by omega, hj] at hf
  obtain ⟨c0, c1, c2, c3⟩ := hcell _ x hx
  have hm : j % 4 = 0 ∨ j % 4 = 1 ∨ j % 4 = 2 ∨ j % 4 = 3 := by omega
  rcases hm with e | e | e | e
  · rw [e] at hf; simp [cellsS] at hf; rw [hf, show off + j = off + j / 4 * 4 by omega]; exact c0
  · rw [e] at hf; simp [cellsS] at hf; rw [hf, show off + j = off + j / 4 * 4 + 1 by omega]; exact c1
  · rw [e] at hf; simp [cellsS] at hf; rw [hf, show off + j = off + j / 4 * 4 + 2 by omega]; exact c2
  · rw [e] at hf; simp [cellsS] at hf; rw [hf, show off + j = off + j / 4 * 4 + 3 by omega]; exact c3

/-- States that lie in memory, and what their items say. -/
def Sts (p : Nat → Prop) (w : World) (ao : Option Addr) (n : Nat) (ss : List Sx) (es : List (List Di)) : Prop :=
  SR p w ao n ss ∧ es.length = n ∧ ∀ (j : Nat) (x : Sx) (e : List Di), ss[j]? = some x → es[j]? = some e → Its p w x.2.2.2.1 x.2.2.2.2.1 e
theorem Sts.keep {p : Nat → Prop} {w w' : World} {ao : Option Addr} {n : Nat} {ss : List Sx} {es : List (List Di)} (h : Sts p w ao n ss es) (k : Kp p w w') : Sts p w' ao n ss es :=
  ⟨h.1.keep k, h.2.1, fun j x e hx he => (h.2.2 j x e hx he).keep k⟩
theorem Sts.up {p : Nat → Prop} {w w' : World} {ao : Option Addr} {n : Nat} {ss : List Sx} {es : List (List Di)} (h : Sts p w ao n ss es) (u : Below w.heap.size w w') : Sts p w' ao n ss es := h.keep (Kp.up u)
theorem Sts.imp {p q : Nat → Prop} {w : World} {ao : Option Addr} {n : Nat} {ss : List Sx} {es : List (List Di)} (h : Sts p w ao n ss es) (k : ∀ b, b < w.heap.size → p b → q b) : Sts q w ao n ss es :=
  ⟨h.1.imp k, h.2.1, fun j x e hx he => (h.2.2 j x e hx he).imp k⟩

theorem cells28 : Tryd.prog.cellsOf 31 = 2 := by kernel_rfl
theorem vid_equalIn (d : Nat) (n1 : Nat) (p1 : Int) (n2 : Nat) (p2 : Int) (w : World) : Sem.run Tryd.prog (Op.equalIn (d + 2) 31 (.agg #[.int .u64 (n1 : Nat), .int .i64 p1]) (.agg #[.int .u64 (n2 : Nat), .int .i64 p2])) w = .ok (decide (n1 = n2 ∧ p1 = p2)) w := by
  have u3 := Tryd.underlying3
  have a3 := Tryd.isAgg3
  have z3 := Tryd.sizeOf3
  have u26 := Tryd.underlying29
  have a26 := Tryd.isAgg29
  have z26 := Tryd.sizeOf29
  rw [run_equalIn_agg w (d + 1) 31 _ _ (by kernel_rfl) (by kernel_rfl)]
  simp only [Program.fieldsOf, Tryd.underlying31]
  go_simp
  by_cases h1 : n1 = n2
  · by_cases h2 : p1 = p2 <;> simp [h1, h2]
  · have : ¬ ((n1 : Int) = n2) := by omega
    simp [h1, this]
theorem vid_equal (n1 : Nat) (p1 : Int) (n2 : Nat) (p2 : Int) (w : World) : Sem.run Tryd.prog (Op.equalIn 10000 31 (.agg #[.int .u64 (n1 : Nat), .int .i64 p1]) (.agg #[.int .u64 (n2 : Nat), .int .i64 p2])) w = .ok (decide (n1 = n2 ∧ p1 = p2)) w := vid_equalIn 9998 n1 p1 n2 p2 w

theorem isNone_any (w : World) (n : Nat) (p : Int) : Calls Tryd.prog 90 #[vid n p] w fun e w' => e = .returned (.bool (decide (n = 0))) ∧ Up w w' := by
  unfold vid
  have h : ((n : Int) == 0) = decide (n = 0) := by
    by_cases e : n = 0
    · subst e; rfl
    · simp [e]
  generalize hd : decide (n = 0) = r at *
  clear hd
  go_enter Tryd.func90, Tryd.ntmps90
  go_wp2
  go_ret
  exact ⟨rfl, (Up.refl _).alloc _⟩
/-- Is it a state of no view? -/
theorem none1_any (w : World) (x : Sx) : Calls Tryd.prog 89 #[sta x] w fun e w' => e = .returned (.bool (decide (x.1 = 0))) ∧ Up w w' := by
  have h := fun W => isNone_any W x.1 x.2.1
  unfold vid at h
  unfold sta
  go_enter Tryd.func89, Tryd.ntmps89
  go_wp2_with fail
  refine (h _).mono ?_
  rintro e w1 ⟨rfl, hu⟩
  have hu1 := ((Up.refl w).alloc _).trans hu
  clear h
  go_wp2
  go_ret
  exact ⟨rfl, hu1⟩
/-- Are two states of one view? -/
theorem same3_any (w : World) (x y : Sx) : Calls Tryd.prog 97 #[sta x, sta y] w fun e w' => e = .returned (.bool (decide (x.1 = y.1 ∧ x.2.1 = y.2.1))) ∧ Up w w' := by
  have heq := fun W => vid_equal x.1 x.2.1 y.1 y.2.1 W
  generalize decide (x.1 = y.1 ∧ x.2.1 = y.2.1) = r at *
  unfold sta
  go_enter Tryd.func97, Tryd.ntmps97
  go_wp2
  go_ret
  exact ⟨rfl, ((Up.refl _).alloc _).alloc _⟩
end Go.Proofs.YtlonbbepoamnmaaDoor
namespace Go.Proofs.YtlonbbepoamnmaaDoor
open Go.RowKit Go.Sort
set_option linter.unusedVariables false

/-- Is a view's number less? -/
def ltV (a b : Tg) : Prop := a.1.1 < b.1.1 ∨ a.1.1 = b.1.1 ∧ a.1.2.1 < b.1.2.1
instance (a b : Tg) : Decidable (ltV a b) := by unfold ltV; infer_instance
def sameV (a b : Tg) : Prop := a.1.1 = b.1.1 ∧ a.1.2.1 = b.1.2.1
instance (a b : Tg) : Decidable (sameV a b) := by unfold sameV; infer_instance
theorem ltV_trans {a b c : Tg} (h : ltV a b) (k : ltV b c) : ltV a c := by unfold ltV at *; omega
theorem ltV_irr (a : Tg) : ¬ ltV a a := by unfold ltV; omega
theorem ltV_tri {a b : Tg} (h : ¬ ltV a b) (k : ¬ ltV b a) : sameV a b := by unfold ltV sameV at *; omega
theorem ltV_ne {a b : Tg} (h : ltV a b) : ¬ sameV a b := by unfold ltV sameV at *; omega
theorem cmpV_gt (x y : Tg) : cmpV y.1.1 y.1.2.1 x.1.1 x.1.2.1 > 0 ↔ ltV x y := by
  unfold cmpV sgn ltV
  repeat' split
  all_goals omega

/-- A state laid into the first k of a list: what is there, and whether it is laid. -/
def insK (x : Tg) (rs : List Tg) : Nat → List Tg × Bool
  | 0 => ([], false)
  | k + 1 => match rs[k]? with
    | some y => if ((insK x rs k).2 == false && decide (ltV x y)) = true then ((insK x rs k).1 ++ [x] ++ [y], true) else ((insK x rs k).1 ++ [y], (insK x rs k).2)
    | none => insK x rs k
theorem insK_done {x : Tg} {rs : List Tg} {k : Nat} {y : Tg} (h : rs[k]? = some y) (hd : (insK x rs k).2 = true) : insK x rs (k + 1) = ((insK x rs k).1 ++ [y], true) := by
  rw [insK, h]; simp only; rw [hd]; simp
theorem insK_now {x : Tg} {rs : List Tg} {k : Nat} {y : Tg} (h : rs[k]? = some y) (hd : (insK x rs k).2 = false) (hl : decide (ltV x y) = true) : insK x rs (k + 1) = ((insK x rs k).1 ++ [x] ++ [y], true) := by
  rw [insK, h]; simp only; rw [hd, hl]; simp
theorem insK_not {x : Tg} {rs : List Tg} {k : Nat} {y : Tg} (h : rs[k]? = some y) (hd : (insK x rs k).2 = false) (hl : decide (ltV x y) = false) : insK x rs (k + 1) = ((insK x rs k).1 ++ [y], false) := by
  rw [insK, h]; simp only; rw [hd, hl]; simp
theorem insK_len (x : Tg) (rs : List Tg) : ∀ k, k ≤ rs.length → (insK x rs k).1.length ≤ k + 1 ∧ ((insK x rs k).2 = false → (insK x rs k).1.length = k)
  | 0, _ => by simp [insK]
  | k + 1, hk => by
    have ih := insK_len x rs k (by omega)
    obtain ⟨y, hy⟩ : ∃ y, rs[k]? = some y := ⟨rs[k]'(by omega), List.getElem?_eq_getElem (by omega)⟩
    cases hd : (insK x rs k).2 with
    | true => rw [insK_done hy hd]; simp; omega
    | false =>
      have := ih.2 hd
      cases hl : decide (ltV x y) with
      | true => rw [insK_now hy hd hl]; simp; omega
      | false => rw [insK_not hy hd hl]; simp; omega
theorem insK_asc {x : Tg} {rs : List Tg} (h : rs.Pairwise ltV) (hx : ∀ y ∈ rs, ¬ sameV x y) : ∀ k, k ≤ rs.length → (insK x rs k).1.Pairwise ltV ∧ (∀ z, z ∈ (insK x rs k).1 ↔ z ∈ rs.take k ∨ ((insK x rs k).2 = true ∧ z = x)) ∧ ((insK x rs k).2 = false → ∀ z ∈ rs.take k, ltV z x) ∧ ((insK x rs k).2 = true → ∀ z ∈ rs.drop k, ltV x z)
  | 0, _ => by simp [insK]
  | k + 1, hk => by
    obtain ⟨h1, h2, h3, h4⟩ := insK_asc h hx k (by omega)
    obtain ⟨y, hy⟩ : ∃ y, rs[k]? = some y := ⟨rs[k]'(by omega), List.getElem?_eq_getElem (by omega)⟩
    have hyk : rs[k]'(by omega) = y := (List.getElem?_eq_some_iff.1 hy).2
    have ht : ∀ z, z ∈ rs.take (k + 1) ↔ z ∈ rs.take k ∨ z = y := fun z => by rw [List.take_add_one, hy]; simp
    have hdr : rs.drop k = y :: rs.drop (k + 1) := by rw [List.drop_eq_getElem_cons (by omega), hyk]
    have hpa : ∀ z ∈ rs.take k, ltV z y := fun z hz => by
      obtain ⟨j, hj, rfl⟩ := List.mem_iff_getElem.1 hz
      rw [List.length_take] at hj
      have := List.pairwise_iff_getElem.1 h j k (by omega) (by omega) (by omega)
      rw [hyk] at this
      simpa using this
    have hpb : ∀ z ∈ rs.drop (k + 1), ltV y z := fun z hz => by
      have hp : (rs.drop k).Pairwise ltV := h.drop
      rw [hdr] at hp
      exact (List.pairwise_cons.1 hp).1 z hz
    have hyr : y ∈ rs := List.mem_of_getElem? hy
    cases hd : (insK x rs k).2 with
    | true =>
      have h4' := h4 hd
      rw [insK_done hy hd]
      refine ⟨?_, fun z => ?_, fun e => by simp at e, fun _ z hz => h4' z (by rw [hdr]; exact List.mem_cons_of_mem _ hz)⟩
      · rw [List.pairwise_append]
        refine ⟨h1, by simp, fun a ha b hb => ?_⟩
        simp at hb
        subst hb
        rcases (h2 a).1 ha with ha | ⟨_, rfl⟩
        · exact hpa a ha
        · exact h4' b (by rw [hdr]; simp)
      · simp only [List.mem_append, h2 z, ht z, hd, List.mem_singleton]
        simp only [true_and]
        constructor
        · rintro ((a | a) | a)
          · exact Or.inl (Or.inl a)
          · exact Or.inr a
          · exact Or.inl (Or.inr a)
        · rintro ((a | a) | a)
          · exact Or.inl (Or.inl a)
          · exact Or.inr a
          · exact Or.inl (Or.inr a)
    | false =>
      have h3' := h3 hd
      cases hl : decide (ltV x y) with
      | true =>
        have hxy : ltV x y := (by simpa using hl)
        rw [insK_now hy hd hl]
        refine ⟨?_, fun z => ?_, fun e => by simp at e, fun _ z hz => ltV_trans hxy (hpb z hz)⟩
        · rw [List.pairwise_append, List.pairwise_append]
          refine ⟨⟨h1, by simp, fun a ha b hb => ?_⟩, by simp, fun a ha b hb => ?_⟩
          · simp at hb; subst hb
            rcases (h2 a).1 ha with ha | ⟨e, _⟩
            · exact h3' a ha
            · rw [hd] at e; cases e
          · simp at hb; subst hb
            rw [List.mem_append] at ha
            rcases ha with ha | ha
            · rcases (h2 a).1 ha with ha | ⟨e, _⟩
              · exact hpa a ha
              · rw [hd] at e; cases e
            · simp at ha; subst ha; exact hxy
        · simp only [List.mem_append, h2 z, ht z, hd, List.mem_singleton]
          simp only [Bool.false_eq_true, false_and, or_false, true_and]
          constructor
          · rintro ((a | a) | a)
            · exact Or.inl (Or.inl a)
            · exact Or.inr a
            · exact Or.inl (Or.inr a)
          · rintro ((a | a) | a)
            · exact Or.inl (Or.inl a)
            · exact Or.inr a
            · exact Or.inl (Or.inr a)
      | false =>
        have hnxy : ¬ ltV x y := fun e => by simp [e] at hl
        have hyx : ltV y x := Classical.byContradiction fun hn => hx y hyr (ltV_tri hnxy hn)
        rw [insK_not hy hd hl]
        refine ⟨?_, fun z => ?_, fun _ z hz => ?_, fun e => by simp at e⟩
        · rw [List.pairwise_append]
          refine ⟨h1, by simp, fun a ha b hb => ?_⟩
          simp at hb
          subst hb
          rcases (h2 a).1 ha with ha | ⟨e, _⟩
          · exact hpa a ha
          · rw [hd] at e; cases e
        · simp only [List.mem_append, h2 z, ht z, hd, List.mem_singleton]
          simp
        · rcases (ht z).1 hz with hz | rfl
          · exact h3' z hz
          · exact hyx
/-- A state laid into a list. -/
def ins (x : Tg) (rs : List Tg) : List Tg := if (insK x rs rs.length).2 then (insK x rs rs.length).1 else (insK x rs rs.length).1 ++ [x]
theorem ins_asc {x : Tg} {rs : List Tg} (h : rs.Pairwise ltV) (hx : ∀ y ∈ rs, ¬ sameV x y) : (ins x rs).Pairwise ltV ∧ ∀ z, z ∈ ins x rs ↔ z ∈ rs ∨ z = x := by
  obtain ⟨h1, h2, h3, h4⟩ := insK_asc h hx rs.length (Nat.le_refl _)
  rw [List.take_of_length_le (Nat.le_refl _)] at h2 h3
  unfold ins
  cases hd : (insK x rs rs.length).2 with
  | true =>
    rw [if_pos rfl]
    refine ⟨h1, fun z => ?_⟩
    rw [h2 z, hd]; simp
  | false =>
    rw [if_neg (by simp)]
    refine ⟨?_, fun z => ?_⟩
    · rw [List.pairwise_append]
      refine ⟨h1, by simp, fun a ha b hb => ?_⟩
      simp at hb
      subst hb
      rcases (h2 a).1 ha with ha | ⟨e, _⟩
      · exact h3 hd a ha
      · rw [hd] at e; cases e
    · rw [List.mem_append, h2 z, hd]; simp
theorem ascV_eq : ∀ {a b : List Tg}, a.Pairwise ltV → b.Pairwise ltV → (∀ x, x ∈ a ↔ x ∈ b) → a = b
  | [], [], _, _, _ => rfl
  | [], y :: b, _, _, h => by have := (h y).2 (by simp); simp at this
  | x :: a, [], _, _, h => by have := (h x).1 (by simp); simp at this
  | x :: a, y :: b, ha, hb, h => by
    obtain ⟨ha1, ha2⟩ := List.pairwise_cons.1 ha
    obtain ⟨hb1, hb2⟩ := List.pairwise_cons.1 hb
    have hxy : x = y := by
      have h1 := (h x).1 (by simp)
      have h2 := (h y).2 (by simp)
      rw [List.mem_cons] at h1 h2
      rcases h1 with e | h1
      · exact e
      · rcases h2 with e | h2
        · exact e.symm
        · exact absurd (ltV_trans (ha1 y h2) (hb1 x h1)) (ltV_irr x)
    subst hxy
    have hna : x ∉ a := fun hm => ltV_irr x (ha1 x hm)
    have hnb : x ∉ b := fun hm => ltV_irr x (hb1 x hm)
    rw [ascV_eq ha2 hb2 (fun z => ?_)]
    have := h z
    rw [List.mem_cons, List.mem_cons] at this
    constructor
    · intro hz
      rcases this.1 (Or.inr hz) with e | hz'
      · subst e; exact absurd hz hna
      · exact hz'
    · intro hz
      rcases this.2 (Or.inr hz) with e | hz'
      · subst e; exact absurd hz hnb
      · exact hz'
theorem ascV_nodup {a : List Tg} (h : a.Pairwise ltV) : a.Nodup := h.imp (fun {x y} hxy e => by subst e; exact ltV_irr _ hxy)
theorem nodup_len : ∀ {a b : List Tg}, a.Nodup → (∀ x ∈ a, x ∈ b) → a.length ≤ b.length
  | [], b, _, _ => by simp
  | x :: a, b, h, hs => by
    obtain ⟨h1, h2⟩ := List.nodup_cons.1 h
    have hxb := hs x (by simp)
    have := nodup_len (b := b.erase x) h2 (fun y hy => (List.mem_erase_of_ne (fun (e : y = x) => h1 (e ▸ hy))).2 (hs y (by simp [hy])))
    rw [List.length_erase_of_mem hxb] at this
    have : 0 < b.length := List.length_pos_of_mem hxb
    simp
    omega

/-- Does none of its view come ahead of it? -/
def Best (tl : List Tg) (t : Tg) : Prop := t.1.1 ≠ 0 ∧ ∀ u ∈ tl, sameV u t → ¬ ltT u t
/-- Of each view the state that has the most, by the views' numbers. -/
def IsJoin (tl J : List Tg) : Prop := J.Pairwise ltV ∧ ∀ t, t ∈ J ↔ t ∈ tl ∧ Best tl t
theorem IsJoin.unique {tl J J' : List Tg} (h : IsJoin tl J) (h' : IsJoin tl J') : J = J' := ascV_eq h.1 h'.1 (fun t => by rw [h.2 t, h'.2 t])

def beats (u t : Tg) : Bool := decide (u.1.1 = t.1.1 ∧ u.1.2.1 = t.1.2.1) && (decide (endS t.1 < endS u.1) || (decide (endS u.1 = endS t.1) && decide (u.2 < t.2)))
theorem beats_iff (u t : Tg) : beats u t = true ↔ sameV u t ∧ ltT u t := by
  unfold beats sameV ltT ltK
  simp only [Bool.and_eq_true, Bool.or_eq_true, decide_eq_true_eq]
  omega
/-- So far none came ahead. -/
def bestK (tl : List Tg) (t : Tg) (k : Nat) : Bool := decide (0 < t.1.1) && (tl.take k).all (fun u => !(beats u t))
theorem bestK_step {tl : List Tg} {t u : Tg} {k : Nat} (h : tl[k]? = some u) : bestK tl t (k + 1) = (bestK tl t k && !(beats u t)) := by
  unfold bestK
  rw [List.take_add_one, h]
  simp [Bool.and_assoc]
theorem bestK_all {tl : List Tg} {t : Tg} {k : Nat} (h : tl.length ≤ k) : bestK tl t k = true ↔ Best tl t := by
  unfold bestK Best
  rw [List.take_of_length_le h]
  simp only [Bool.and_eq_true, decide_eq_true_eq, List.all_eq_true, Bool.not_eq_true']
  constructor
  · rintro ⟨h1, h2⟩
    refine ⟨by omega, fun u hu hs hl => ?_⟩
    have := h2 u hu
    rw [(beats_iff u t).2 ⟨hs, hl⟩] at this
    cases this
  · rintro ⟨h1, h2⟩
    refine ⟨by omega, fun u hu => ?_⟩
    cases hb : beats u t with
    | false => rfl
    | true => exact absurd ((beats_iff u t).1 hb).2 (h2 u hu ((beats_iff u t).1 hb).1)
theorem best_one {tl : List Tg} {a b : Tg} (ha : a ∈ tl) (hb : b ∈ tl) (h1 : Best tl a) (h2 : Best tl b) (hne : a.2 ≠ b.2) : ¬ sameV a b := fun hs =>
  h1.2 b hb ⟨hs.1.symm, hs.2.symm⟩ (ltT_tri hne (h2.2 a ha hs))

/-- States with where they stand. -/
def tagl (ss : List Sx) : List Tg := ss.zipIdx
theorem tagl_get {ss : List Sx} {k : Nat} {x : Sx} (h : ss[k]? = some x) : (tagl ss)[k]? = some (x, k) := by
  unfold tagl
  rw [List.getElem?_zipIdx, h]
  simp
theorem tagl_len (ss : List Sx) : (tagl ss).length = ss.length := by simp [tagl]
theorem tagl_mem {ss : List Sx} {t : Tg} (h : t ∈ tagl ss) : ss[t.2]? = some t.1 := by
  obtain ⟨k, hk⟩ := List.mem_iff_getElem?.1 h
  unfold tagl at hk
  rw [List.getElem?_zipIdx] at hk
  obtain ⟨x, hx, e⟩ := Option.map_eq_some_iff.1 hk
  subst e
  simpa using hx
theorem tagl_take {ss : List Sx} {t : Tg} {k : Nat} (h : t ∈ (tagl ss).take k) : t.2 < k := by
  obtain ⟨j, hj, e⟩ := List.mem_iff_getElem.1 h
  rw [List.length_take, tagl_len] at hj
  rw [List.getElem_take] at e
  have hx : ss[j]? = some (ss[j]'(by omega)) := List.getElem?_eq_getElem (by omega)
  have := tagl_get hx
  obtain ⟨h1, h2⟩ := List.getElem?_eq_some_iff.1 this
  rw [h2] at e
  subst e
  show j < k
  omega
theorem tagl_map (ss : List Sx) : (tagl ss).map (·.1) = ss := by simp [tagl]
theorem tagl_tags (ss : List Sx) : Tags (tagl ss) := by
  unfold Tags
  rw [List.pairwise_iff_getElem]
  intro i j hi hj hij
  simp [tagl]
  omega
/-- One more of the document's: it is not the best of its view. -/
theorem join_skip {ss : List Sx} {J : List Tg} {i : Nat} {x : Sx} (hx : ss[i]? = some x) (h : J.Pairwise ltV ∧ ∀ t, t ∈ J ↔ t ∈ (tagl ss).take i ∧ Best (tagl ss) t) (hb : ¬ Best (tagl ss) (x, i)) :
    J.Pairwise ltV ∧ ∀ t, t ∈ J ↔ t ∈ (tagl ss).take (i + 1) ∧ Best (tagl ss) t := by
  refine ⟨h.1, fun t => ?_⟩
  rw [h.2 t, List.take_add_one, tagl_get hx]
  simp only [Option.toList_some, List.mem_append, List.mem_singleton]
  constructor
  · rintro ⟨a, b⟩; exact ⟨.inl a, b⟩
  · rintro ⟨a | a, b⟩
    · exact ⟨a, b⟩
    · subst a; exact absurd b hb
/-- .. it is. -/
theorem join_take {ss : List Sx} {J : List Tg} {i : Nat} {x : Sx} (hx : ss[i]? = some x) (h : J.Pairwise ltV ∧ ∀ t, t ∈ J ↔ t ∈ (tagl ss).take i ∧ Best (tagl ss) t) (hb : Best (tagl ss) (x, i)) :
    (ins (x, i) J).Pairwise ltV ∧ ∀ t, t ∈ ins (x, i) J ↔ t ∈ (tagl ss).take (i + 1) ∧ Best (tagl ss) t := by
  have hin : ((x, i) : Tg) ∈ tagl ss := List.mem_of_getElem? (tagl_get hx)
  obtain ⟨a1, a2⟩ := ins_asc h.1 (x := (x, i)) (fun y hy => by
    obtain ⟨b1, b2⟩ := (h.2 y).1 hy
    have hlt := tagl_take b1
    exact best_one hin (List.mem_of_mem_take b1) hb b2 (by show i ≠ y.2; omega))
  refine ⟨a1, fun t => ?_⟩
  rw [a2 t, h.2 t, List.take_add_one, tagl_get hx]
  simp only [Option.toList_some, List.mem_append, List.mem_singleton]
  constructor
  · rintro (⟨a, b⟩ | rfl)
    · exact ⟨.inl a, b⟩
    · exact ⟨.inr rfl, hb⟩
  · rintro ⟨a | a, b⟩
    · exact .inl ⟨a, b⟩
    · exact .inr a

/-! ### Rows of one's own -/
def fl (J : List Tg) : List Value := flat (J.map (·.1))
theorem fl_app (A B : List Tg) : fl (A ++ B) = fl A ++ fl B := by unfold fl; rw [List.map_append, flat_app]
theorem infoS : (Tryd.prog.info? 45).map (fun i => (i.zero, i.size, i.bytes)) = some (some (.agg #[.int .u64 0, .int .i64 0, .int .i64 0, .slice none 0 0]), 4, 48) := by kernel_rfl
theorem SR.one (w : World) (x : Sx) : SR (fun _ => True) (w.alloc (.cells #[.int .u64 (x.1 : Nat), .int .i64 x.2.1, .int .i64 x.2.2.1, .slice x.2.2.2.1 x.2.2.2.2.1 x.2.2.2.2.2] 45)) (some ⟨w.heap.size, 0, none⟩) 1 [x] := by
  refine ⟨rfl, by omega, fun e => (by cases e), fun _ => ⟨w.heap.size, 0, rfl, trivial, fun j y hj => ?_⟩⟩
  obtain rfl : j = 0 := by have := (List.getElem?_eq_some_iff.1 hj).1; simp at this; omega
  simp at hj
  subst hj
  exact ⟨cell_box w _ 45 0 _ rfl, cell_box w _ 45 1 _ rfl, cell_box w _ 45 2 _ rfl, cell_box w _ 45 3 _ rfl⟩
theorem own_mono {w : World} {B B' n : Nat} {v : Value} {xs : List Value} (h : w.ownsRow B 45 4 v n xs) (hB : B' ≤ B) : w.ownsRow B' 45 4 v n xs := by
  refine ⟨h.1, ?_⟩
  rcases h.2 with h0 | ⟨g, cap', cur, h0, h1, h2⟩
  · exact Or.inl h0
  · exact Or.inr ⟨g, cap', cur, h0, Nat.le_trans hB h1, h2⟩
theorem own_below {w w' : World} {B n : Nat} {v : Value} {xs : List Value} (h : w.ownsRow B 45 4 v n xs) (u : Below w.heap.size w w') : w'.ownsRow B 45 4 v n xs := by
  refine h.kept (gr_below u none) ?_
  cases v.ownBlock with
  | none => exact Or.inl rfl
  | some g => exact Or.inr (by simp)
/-- Any states behind a row of one's own. -/
theorem wpList_append_S {w : World} {ops : Array Oper} {rest : List Oper} {o : Oper} {a : Act} {Q : Exit → Act → World → Prop} (hgd : o.guard = none) (s x : Operand)
    (ho : o.op = .call { callee := .builtin .append, args := #[s, x], argTypes := #[36, 36] }) (base : Nat)
    (v : Value) (n : Nat) (xs : List Sx) (hs : a.eval s = v) (hown : w.ownsRow base 45 4 v n (flat xs)) (p : Nat → Prop)
    (bo : Option Addr) (m c : Nat) (ms : List Sx) (hx : a.eval x = .slice bo m c) (hu : SR p w bo m ms) (hz : bo = none → m = 0 ∧ c = 0)
    (hnm : n + m ≤ 1000000) (hbase : base ≤ w.heap.size)
    (h : ∀ v' w', w'.ownsRow base 45 4 v' (n + m) (flat (xs ++ ms)) → w.grownBy w' v.ownBlock → wpList Tryd.prog ops Q rest (a.put o.dst v') w') :
    wpList Tryd.prog ops Q (o :: rest) a w := by
  obtain ⟨i0, hi0, hz0, hz1, hz2⟩ := info_parts infoS
  cases bo with
  | none =>
    obtain ⟨rfl, rfl⟩ := hz rfl
    obtain rfl : ms = [] := List.length_eq_zero_iff.1 hu.1
    refine wpList_append_own_none hgd s x 36 ho base 45 i0 4 und22 hi0 v n (flat xs) hs hown hx ?_
    exact h v w (by simpa using hown) ⟨rfl, rfl, rfl, Nat.le_refl _, fun _ _ _ => rfl⟩
  | some ad =>
    refine wpList_append_own_at _ hgd s x 36 ho base 45 i0 (.agg #[.int .u64 0, .int .i64 0, .int .i64 0, .slice none 0 0]) 4 48 und22 hi0 hz0 hz1 hz2 rfl (by decide) v n (flat xs) hs hown ad m c (flat ms) hx (by rw [flat_len, hu.1]) hu.cells (fun u hu' => flat_one hu') (by unfold maxLen; omega) (by omega) hbase (fun v' w' a b _ _ => h v' w' (by rw [flat_app]; exact a) b)
end Go.Proofs.YtlonbbepoamnmaaDoor
namespace Go.Proofs.YtlonbbepoamnmaaDoor
open Go.RowKit Go.Sort
set_option linter.unusedVariables false

set_option maxRecDepth 10000 in
set_option maxHeartbeats 1000000 in
theorem index_none (p : Nat → Prop) (w : World) (ao : Option Addr) (n cap : Nat) (ss : List Sx) (h : SR p w ao n ss) :
    Calls Tryd.prog 102 #[.slice ao n cap, .func (.func 89) #[] #[]] w fun e w' => ((e = .returned (.int .i64 (-1)) ∧ ∀ x ∈ ss, ¬ (x.1 = 0)) ∨ ∃ i y, i < n ∧ e = .returned (.int .i64 (i : Nat)) ∧ (∀ x ∈ ss.take i, ¬ (x.1 = 0)) ∧ ss[i]? = some y ∧ (y.1 = 0)) ∧ Up w w' := by
  have hl := h.1
  have hmax := h.2.1
  go_enter Tryd.func102, Tryd.ntmps102
  go_wp2_with fail
  go_loopw [5, 8] (fun _ iv wr => ∃ k : Nat, k ≤ n ∧ iv = .int .i64 k ∧ (∀ x ∈ ss.take k, ¬ (x.1 = 0)) ∧ Up w wr) (fun _ iv _ => n - (intOf iv).toNat)
  case atStart => exact ⟨0, by omega, rfl, by simp, Up.refl _⟩
  case round =>
    obtain ⟨k, hk, rfl, hno, hu⟩ := hrel
    have HN : Hid (∀ x ∈ ss.take k, ¬ (x.1 = 0)) := hno
    clear hno
    by_cases hlt : k < n
    · have hltI : (k : Int) < (n : Int) := by omega
      obtain ⟨y, hy⟩ : ∃ y, ss[k]? = some y := ⟨ss[k]'(by omega), List.getElem?_eq_getElem (by omega)⟩
      obtain ⟨b, off, hao, _, hc⟩ := (h.up hu.bl).2.2.2 (by omega)
      obtain ⟨c0, c1, c2, c3⟩ := hc k y hy
      have HY : Hid (ss[k]? = some y) := hy
      have hcl := none1_any wr y
      unfold sta at hcl
      subst hao
      clear hc hy h
      have hk0 : ¬ ((k : Int) < 0) := by omega
      cases hd : decide (y.1 = 0) with
      | true =>
        rw [hd] at hcl
        have hin : Hid (y.1 = 0) := by simpa [Hid] using hd
        clear hd
        go_wp2_with fail
        refine hcl.mono ?_
        rintro e w1 ⟨rfl, hb1⟩
        have hu1 := hu.trans hb1
        clear hcl c0 c1 c2 c3 hb1
        go_wp2
        go_ret
        exact ⟨Or.inr ⟨k, y, hlt, rfl, HN.out, HY.out, hin.out⟩, hu1⟩
      | false =>
        rw [hd] at hcl
        have hin : ¬ (y.1 = 0) := by simpa using hd
        have HN' : Hid (∀ x ∈ ss.take (k + 1), ¬ (x.1 = 0)) := by
          intro x hx
          rw [List.take_add_one, HY.out] at hx
          simp only [Option.toList_some, List.mem_append, List.mem_singleton] at hx
          rcases hx with hx | rfl
          · exact HN.out x hx
          · exact hin
        clear hd
        go_wp2_with fail
        refine hcl.mono ?_
        rintro e w1 ⟨rfl, hb1⟩
        have hu1 := hu.trans hb1
        clear hcl c0 c1 c2 c3 hb1 hin
        go_wp2
        go_roundw
        case rel => first | exact ⟨k + 1, by omega, by go_num, HN'.out, hu1⟩ | ((repeat apply Exists.intro); exact ⟨⟨k + 1, by omega, by go_num, HN'.out, hu1⟩, rfl⟩)
        case measure => simp [intOf]; omega
    · obtain rfl : k = n := by omega
      clear h
      go_wp2
      go_ret
      refine ⟨Or.inl ⟨rfl, ?_⟩, hu⟩
      have := HN.out
      rwa [List.take_of_length_le (by omega)] at this

end Go.Proofs.YtlonbbepoamnmaaDoor
namespace Go.Proofs.YtlonbbepoamnmaaDoor
open Go.RowKit Go.Sort
set_option linter.unusedVariables false

def str (xs : List UInt8) : ByteArray := ⟨xs.toArray⟩
theorem str_of (xs : List UInt8) : (xs.map fun x => (x.toNat : Int)).foldl (fun r n => r.push (UInt8.ofNat n.toNat)) ByteArray.empty = str xs := by
  rw [foldl_push_bytes]
  simp [str, ByteArray.empty, ByteArray.emptyWithCapacity, Function.comp_def]
  try rfl
theorem conv_rw {p : Nat → Prop} {w : World} {ao : Option Addr} {n cap : Nat} {xs : List UInt8} (h : Rw p w ao n xs) : (convert 96 9 (.slice ao n cap)).run Tryd.prog w = .ok (.string (str xs)) w := by
  cases ao with
  | none =>
    have hx : xs = [] := List.eq_nil_of_length_eq_zero (by have := h.1; have := h.2.2.1 rfl; omega)
    subst hx
    exact run_convert_bytes_nil w 96 5 Tryd.underlying96 Tryd.underlying5 _ _ 9 Tryd.underlying9
  | some a =>
    have hl : (loadCells a n).run Tryd.prog w = .ok (((xs.map fun x => (x.toNat : Int))).map (Value.int .u8)).toArray w := by
      have := run_loadCells_list (P := Tryd.prog) w a ((xs.map fun x => (x.toNat : Int)).map (Value.int .u8)) (fun j v hj => h.cells j v (by unfold cellB; simpa [Function.comp_def] using hj))
      simpa [h.1] using this
    rw [run_convert_bytes_string w 96 9 5 _ n cap Tryd.underlying96 Tryd.underlying5 Tryd.underlying9, run_bytesToString w a n cap _ hl, str_of]

/-- Two items that say the same. -/
def TwoI (b1 o1 b2 o2 : Nat) (x y : Ix) (s : ByteArray) (wx : World) : Prop :=
  (wx.cell? ⟨b1, o1, none⟩ = some (.int .i64 x.1) ∧ wx.cell? ⟨b1, o1 + 1, none⟩ = some (.slice x.2.1 x.2.2.1 x.2.2.2) ∧ (convert 96 9 (.slice x.2.1 x.2.2.1 x.2.2.2)).run Tryd.prog wx = .ok (.string s) wx) ∧
  (wx.cell? ⟨b2, o2, none⟩ = some (.int .i64 x.1) ∧ wx.cell? ⟨b2, o2 + 1, none⟩ = some (.slice y.2.1 y.2.2.1 y.2.2.2) ∧ (convert 96 9 (.slice y.2.1 y.2.2.1 y.2.2.2)).run Tryd.prog wx = .ok (.string s) wx)

set_option maxRecDepth 10000 in
set_option maxHeartbeats 2000000 in
theorem items_true (p q : Nat → Prop) (w : World) (ao bo : Option Addr) (n c1 c2 : Nat) (ds : List Di) (h : Its p w ao n ds) (h' : Its q w bo n ds) :
    Calls Tryd.prog 68 #[.slice ao n c1, .slice bo n c2] w fun e w' => e = .returned (.bool true) ∧ Up w w' := by
  obtain ⟨xs, hI, hd, hit⟩ := h
  obtain ⟨ys, hJ, _, hjt⟩ := h'
  have hxl := hI.1
  have hyl := hJ.1
  have hm := hI.2.1
  have HX : Hid (IR p w ao n xs ∧ (∀ (j : Nat) (x : Ix) (d : Di), xs[j]? = some x → ds[j]? = some d → It p w x d)) := ⟨hI, hit⟩
  have HY : Hid (IR q w bo n ys ∧ (∀ (j : Nat) (x : Ix) (d : Di), ys[j]? = some x → ds[j]? = some d → It q w x d)) := ⟨hJ, hjt⟩
  clear hI hit hJ hjt
  go_enter Tryd.func68, Tryd.ntmps68
  go_wp2_with fail
  go_loopw [5] (fun iv wr => ∃ k : Nat, k ≤ n ∧ iv = .int .i64 k ∧ Up w wr) (fun iv _ => n - (intOf iv).toNat)
  case atStart => exact ⟨0, by omega, rfl, Up.refl _⟩
  case round =>
    obtain ⟨k, hk, rfl, hu⟩ := hrel
    by_cases hlt : k < n
    · have hltI : (k : Int) < (n : Int) := by omega
      obtain ⟨x, hx⟩ : ∃ x, xs[k]? = some x := ⟨xs[k]'(by omega), List.getElem?_eq_getElem (by omega)⟩
      obtain ⟨y, hy⟩ : ∃ y, ys[k]? = some y := ⟨ys[k]'(by omega), List.getElem?_eq_getElem (by omega)⟩
      obtain ⟨d, hdk⟩ : ∃ d, ds[k]? = some d := ⟨ds[k]'(by omega), List.getElem?_eq_getElem (by omega)⟩
      have hud : Below w.heap.size w wr.drew := hu.drew.bl
      obtain ⟨b1, o1, e1, _, hc1⟩ := (HX.out.1.keep (Kp.up hud)).2.2.2 (by omega)
      obtain ⟨b2, o2, e2, _, hc2⟩ := (HY.out.1.keep (Kp.up hud)).2.2.2 (by omega)
      have i1 := (HX.out.2 k x d hx hdk).keep (Kp.up hud)
      have i2 := (HY.out.2 k y d hy hdk).keep (Kp.up hud)
      have hxy : y.1 = x.1 := by rw [i1.1, i2.1]
      have two : TwoI b1 (o1 + k * 2) b2 (o2 + k * 2) x y (str d.2) wr.drew := ⟨⟨(hc1 k x hx).1, (hc1 k x hx).2, conv_rw i1.2⟩, by rw [← hxy]; exact (hc2 k y hy).1, (hc2 k y hy).2, conv_rw i2.2⟩
      generalize str d.2 = s at two
      subst e1 e2
      clear hx hy hdk hc1 hc2 i1 i2 hxy HX HY hud
      have hk0 : ¬ ((k : Int) < 0) := by omega
      go_wp2_with fail
      refine wp_region_noPanic ?_
      refine wp_region_held_drew (S := fun wx => TwoI b1 (o1 + k * 2) b2 (o2 + k * 2) x y s wx) (by kernel_rfl) two (fun hHeld => ?_)
      refine take_first 0 (v := ?_) rfl (by kernel_rfl) (by kernel_rfl) (by kernel_rfl) (fun _ _ _ h => h) (Or.inl ⟨by rfl, by intro wx hSw; obtain ⟨⟨hSw1, hSw2, hSw3⟩, hSw4, hSw5, hSw6⟩ := hSw; go_simp; try with_reducible rfl⟩) (by assumption) ?_
      (try simp only [Act.put, List.setIfInBounds_toArray, List.set_cons_zero, List.set_cons_succ])
      refine take_first 1 (v := ?_) rfl (by kernel_rfl) (by kernel_rfl) (by kernel_rfl) (fun _ _ _ h => h) (Or.inl ⟨by rfl, by intro wx hSw; obtain ⟨⟨hSw1, hSw2, hSw3⟩, hSw4, hSw5, hSw6⟩ := hSw; go_simp; try with_reducible rfl⟩) (by assumption) ?_
      (try simp only [Act.put, List.setIfInBounds_toArray, List.set_cons_zero, List.set_cons_succ])
      refine take_first 2 (v := ?_) rfl (by kernel_rfl) (by kernel_rfl) (by kernel_rfl) (fun _ _ _ h => h) (Or.inl ⟨by rfl, by intro wx hSw; obtain ⟨⟨hSw1, hSw2, hSw3⟩, hSw4, hSw5, hSw6⟩ := hSw; go_simp; try with_reducible rfl⟩) (by assumption) ?_
      (try simp only [Act.put, List.setIfInBounds_toArray, List.set_cons_zero, List.set_cons_succ])
      refine take_first 3 (v := ?_) rfl (by kernel_rfl) (by kernel_rfl) (by kernel_rfl) (fun _ _ _ h => h) (Or.inl ⟨by rfl, by intro wx hSw; obtain ⟨⟨hSw1, hSw2, hSw3⟩, hSw4, hSw5, hSw6⟩ := hSw; go_simp; try with_reducible rfl⟩) (by assumption) ?_
      (try simp only [Act.put, List.setIfInBounds_toArray, List.set_cons_zero, List.set_cons_succ])
      refine take_first 4 (v := ?_) rfl (by kernel_rfl) (by kernel_rfl) (by kernel_rfl) (fun _ _ _ h => h) (Or.inl ⟨by rfl, by intro wx hSw; obtain ⟨⟨hSw1, hSw2, hSw3⟩, hSw4, hSw5, hSw6⟩ := hSw; go_simp; try with_reducible rfl⟩) (by assumption) ?_
      (try simp only [Act.put, List.setIfInBounds_toArray, List.set_cons_zero, List.set_cons_succ])
      refine take_first 5 (v := ?_) rfl (by kernel_rfl) (by kernel_rfl) (by kernel_rfl) (fun _ _ _ h => h) (Or.inl ⟨by rfl, by intro wx hSw; obtain ⟨⟨hSw1, hSw2, hSw3⟩, hSw4, hSw5, hSw6⟩ := hSw; go_simp; try with_reducible rfl⟩) (by assumption) ?_
      (try simp only [Act.put, List.setIfInBounds_toArray, List.set_cons_zero, List.set_cons_succ])
      refine take_first 6 (v := ?_) rfl (by kernel_rfl) (by kernel_rfl) (by kernel_rfl) (fun _ _ _ h => h) (Or.inl ⟨by rfl, by intro wx hSw; obtain ⟨⟨hSw1, hSw2, hSw3⟩, hSw4, hSw5, hSw6⟩ := hSw; go_simp; try with_reducible rfl⟩) (by assumption) ?_
      (try simp only [Act.put, List.setIfInBounds_toArray, List.set_cons_zero, List.set_cons_succ])
      refine take_first 7 (v := ?_) rfl (by kernel_rfl) (by kernel_rfl) (by kernel_rfl) (fun _ _ _ h => h) (Or.inl ⟨by rfl, by intro wx hSw; obtain ⟨⟨hSw1, hSw2, hSw3⟩, hSw4, hSw5, hSw6⟩ := hSw; go_simp; try with_reducible rfl⟩) (by assumption) ?_
      (try simp only [Act.put, List.setIfInBounds_toArray, List.set_cons_zero, List.set_cons_succ])
      refine take_first 8 (v := ?_) rfl (by kernel_rfl) (by kernel_rfl) (by kernel_rfl) (fun _ _ _ h => h) (Or.inl ⟨by rfl, by intro wx hSw; obtain ⟨⟨hSw1, hSw2, hSw3⟩, hSw4, hSw5, hSw6⟩ := hSw; go_simp; try with_reducible rfl⟩) (by assumption) ?_
      (try simp only [Act.put, List.setIfInBounds_toArray, List.set_cons_zero, List.set_cons_succ])
      refine take_first 9 (v := ?_) rfl (by kernel_rfl) (by kernel_rfl) (by kernel_rfl) (fun _ _ _ h => h) (Or.inl ⟨by rfl, by intro wx hSw; obtain ⟨⟨hSw1, hSw2, hSw3⟩, hSw4, hSw5, hSw6⟩ := hSw; go_simp; try with_reducible rfl⟩) (by assumption) ?_
      (try simp only [Act.put, List.setIfInBounds_toArray, List.set_cons_zero, List.set_cons_succ])
      refine take_first 10 (v := ?_) rfl (by kernel_rfl) (by kernel_rfl) (by kernel_rfl) (fun _ _ _ h => h) (Or.inl ⟨by rfl, by intro wx hSw; obtain ⟨⟨hSw1, hSw2, hSw3⟩, hSw4, hSw5, hSw6⟩ := hSw; go_simp; try with_reducible rfl⟩) (by assumption) ?_
      (try simp only [Act.put, List.setIfInBounds_toArray, List.set_cons_zero, List.set_cons_succ])
      refine take_first 11 (v := ?_) rfl (by kernel_rfl) (by kernel_rfl) (by kernel_rfl) (fun _ _ _ h => h) (Or.inl ⟨by rfl, by intro wx hSw; obtain ⟨⟨hSw1, hSw2, hSw3⟩, hSw4, hSw5, hSw6⟩ := hSw; go_simp; try with_reducible rfl⟩) (by assumption) ?_
      (try simp only [Act.put, List.setIfInBounds_toArray, List.set_cons_zero, List.set_cons_succ])
      refine take_first 12 (v := ?_) rfl (by kernel_rfl) (by kernel_rfl) (by kernel_rfl) (fun _ _ _ h => h) (Or.inl ⟨by rfl, by intro wx hSw; obtain ⟨⟨hSw1, hSw2, hSw3⟩, hSw4, hSw5, hSw6⟩ := hSw; go_simp; try with_reducible rfl⟩) (by assumption) ?_
      (try simp only [Act.put, List.setIfInBounds_toArray, List.set_cons_zero, List.set_cons_succ])
      refine take_first 13 (v := ?_) rfl (by kernel_rfl) (by kernel_rfl) (by kernel_rfl) (fun _ _ _ h => h) (Or.inl ⟨by rfl, by intro wx hSw; obtain ⟨⟨hSw1, hSw2, hSw3⟩, hSw4, hSw5, hSw6⟩ := hSw; go_simp; try with_reducible rfl⟩) (by assumption) ?_
      (try simp only [Act.put, List.setIfInBounds_toArray, List.set_cons_zero, List.set_cons_succ])
      refine take_first 14 (v := ?_) rfl (by kernel_rfl) (by kernel_rfl) (by kernel_rfl) (fun _ _ _ h => h) (Or.inl ⟨by rfl, by intro wx hSw; obtain ⟨⟨hSw1, hSw2, hSw3⟩, hSw4, hSw5, hSw6⟩ := hSw; go_simp; try with_reducible rfl⟩) (by assumption) ?_
      (try simp only [Act.put, List.setIfInBounds_toArray, List.set_cons_zero, List.set_cons_succ])
      refine take_first 15 (v := ?_) rfl (by kernel_rfl) (by kernel_rfl) (by kernel_rfl) (fun _ _ _ h => h) (Or.inl ⟨by rfl, by intro wx hSw; obtain ⟨⟨hSw1, hSw2, hSw3⟩, hSw4, hSw5, hSw6⟩ := hSw; go_simp; try with_reducible rfl⟩) (by assumption) ?_
      (try simp only [Act.put, List.setIfInBounds_toArray, List.set_cons_zero, List.set_cons_succ])
      refine take_first 16 (v := ?_) rfl (by kernel_rfl) (by kernel_rfl) (by kernel_rfl) (fun _ _ _ h => h) (Or.inl ⟨by rfl, by intro wx hSw; obtain ⟨⟨hSw1, hSw2, hSw3⟩, hSw4, hSw5, hSw6⟩ := hSw; go_simp; try with_reducible rfl⟩) (by assumption) ?_
      (try simp only [Act.put, List.setIfInBounds_toArray, List.set_cons_zero, List.set_cons_succ])
      refine take_first 17 (v := ?_) rfl (by kernel_rfl) (by kernel_rfl) (by kernel_rfl) (fun _ _ _ h => h) (Or.inl ⟨by rfl, by intro wx hSw; obtain ⟨⟨hSw1, hSw2, hSw3⟩, hSw4, hSw5, hSw6⟩ := hSw; go_simp; try with_reducible rfl⟩) (by assumption) ?_
      (try simp only [Act.put, List.setIfInBounds_toArray, List.set_cons_zero, List.set_cons_succ])
      refine take_first 18 (v := ?_) rfl (by kernel_rfl) (by kernel_rfl) (by kernel_rfl) (fun _ _ _ h => h) (Or.inl ⟨by rfl, by intro wx hSw; obtain ⟨⟨hSw1, hSw2, hSw3⟩, hSw4, hSw5, hSw6⟩ := hSw; go_simp; try with_reducible rfl⟩) (by assumption) ?_
      (try simp only [Act.put, List.setIfInBounds_toArray, List.set_cons_zero, List.set_cons_succ])
      refine take_first 19 (v := ?_) rfl (by kernel_rfl) (by kernel_rfl) (by kernel_rfl) (fun _ _ _ h => h) (Or.inl ⟨by rfl, by intro wx hSw; obtain ⟨⟨hSw1, hSw2, hSw3⟩, hSw4, hSw5, hSw6⟩ := hSw; go_simp; try with_reducible rfl⟩) (by assumption) ?_
      (try simp only [Act.put, List.setIfInBounds_toArray, List.set_cons_zero, List.set_cons_succ])
      refine take_first 20 (v := ?_) rfl (by kernel_rfl) (by kernel_rfl) (by kernel_rfl) (fun _ _ _ h => h) (Or.inl ⟨by rfl, by intro wx hSw; obtain ⟨⟨hSw1, hSw2, hSw3⟩, hSw4, hSw5, hSw6⟩ := hSw; go_simp; try with_reducible rfl⟩) (by assumption) ?_
      (try simp only [Act.put, List.setIfInBounds_toArray, List.set_cons_zero, List.set_cons_succ])
      refine take_first 21 (v := ?_) rfl (by kernel_rfl) (by kernel_rfl) (by kernel_rfl) (fun _ _ _ h => h) (Or.inl ⟨by rfl, by intro wx hSw; obtain ⟨⟨hSw1, hSw2, hSw3⟩, hSw4, hSw5, hSw6⟩ := hSw; go_simp; try with_reducible rfl⟩) (by assumption) ?_
      (try simp only [Act.put, List.setIfInBounds_toArray, List.set_cons_zero, List.set_cons_succ])
      refine take_first 22 (v := ?_) rfl (by kernel_rfl) (by kernel_rfl) (by kernel_rfl) (fun _ _ _ h => h) (Or.inl ⟨by rfl, by intro wx hSw; obtain ⟨⟨hSw1, hSw2, hSw3⟩, hSw4, hSw5, hSw6⟩ := hSw; go_simp; try with_reducible rfl⟩) (by assumption) ?_
      (try simp only [Act.put, List.setIfInBounds_toArray, List.set_cons_zero, List.set_cons_succ])
      refine take_first 23 (v := ?_) rfl (by kernel_rfl) (by kernel_rfl) (by kernel_rfl) (fun _ _ _ h => h) (Or.inl ⟨by rfl, by intro wx hSw; obtain ⟨⟨hSw1, hSw2, hSw3⟩, hSw4, hSw5, hSw6⟩ := hSw; go_simp; try with_reducible rfl⟩) (by assumption) ?_
      (try simp only [Act.put, List.setIfInBounds_toArray, List.set_cons_zero, List.set_cons_succ])
      refine take_first 24 (v := ?_) rfl (by kernel_rfl) (by kernel_rfl) (by kernel_rfl) (fun _ _ _ h => h) (Or.inl ⟨by rfl, by intro wx hSw; obtain ⟨⟨hSw1, hSw2, hSw3⟩, hSw4, hSw5, hSw6⟩ := hSw; go_simp; try with_reducible rfl⟩) (by assumption) ?_
      (try simp only [Act.put, List.setIfInBounds_toArray, List.set_cons_zero, List.set_cons_succ])
      refine take_first 25 (v := ?_) rfl (by kernel_rfl) (by kernel_rfl) (by kernel_rfl) (fun _ _ _ h => h) (Or.inl ⟨by rfl, by intro wx hSw; obtain ⟨⟨hSw1, hSw2, hSw3⟩, hSw4, hSw5, hSw6⟩ := hSw; go_simp; try with_reducible rfl⟩) (by assumption) ?_
      (try simp only [Act.put, List.setIfInBounds_toArray, List.set_cons_zero, List.set_cons_succ])
      refine wpAnyH_done (by kernel_rfl) ?_ _
      refine NoPanic.normal ?_
      clear two hHeld
      go_wp2
      go_roundw
      case rel => first | exact ⟨k + 1, by omega, by go_num, hu.drew⟩ | ((repeat apply Exists.intro); exact ⟨⟨k + 1, by omega, by go_num, hu.drew⟩, rfl⟩)
      case measure => simp [intOf]; omega
    · obtain rfl : k = n := by omega
      clear HX HY
      go_wp2
      go_ret
      exact ⟨rfl, hu⟩

/-- Two states whose numbers are the same. -/
def TwoS (b1 o1 b2 o2 : Nat) (x y : Sx) (wx : World) : Prop :=
  (wx.cell? ⟨b1, o1, none⟩ = some (.int .u64 (x.1 : Nat)) ∧ wx.cell? ⟨b1, o1 + 1, none⟩ = some (.int .i64 x.2.1) ∧ wx.cell? ⟨b1, o1 + 2, none⟩ = some (.int .i64 x.2.2.1) ∧ wx.cell? ⟨b1, o1 + 3, none⟩ = some (.slice x.2.2.2.1 x.2.2.2.2.1 x.2.2.2.2.2)) ∧
  (wx.cell? ⟨b2, o2, none⟩ = some (.int .u64 (x.1 : Nat)) ∧ wx.cell? ⟨b2, o2 + 1, none⟩ = some (.int .i64 x.2.1) ∧ wx.cell? ⟨b2, o2 + 2, none⟩ = some (.int .i64 x.2.2.1) ∧ wx.cell? ⟨b2, o2 + 3, none⟩ = some (.slice y.2.2.2.1 x.2.2.2.2.1 y.2.2.2.2.2))
theorem TwoS.up {b1 o1 b2 o2 : Nat} {x y : Sx} {w w' : World} (h : TwoS b1 o1 b2 o2 x y w) (u : Up w w') : TwoS b1 o1 b2 o2 x y w' := by
  obtain ⟨⟨h1, h2, h3, h4⟩, h5, h6, h7, h8⟩ := h
  exact ⟨⟨u.cell h1, u.cell h2, u.cell h3, u.cell h4⟩, u.cell h5, u.cell h6, u.cell h7, u.cell h8⟩
/-- Two lists of states of which each has its like's numbers. -/
def Alike (ss ts : List Sx) : Prop := ss.length = ts.length ∧ ∀ (j : Nat) (x y : Sx), ss[j]? = some x → ts[j]? = some y → y.1 = x.1 ∧ y.2.1 = x.2.1 ∧ y.2.2.1 = x.2.2.1
theorem Alike.refl (ss : List Sx) : Alike ss ss := ⟨rfl, fun j x y hx hy => by rw [hx] at hy; cases hy; exact ⟨rfl, rfl, rfl⟩⟩

set_option maxRecDepth 10000 in
set_option maxHeartbeats 4000000 in
theorem same_true (p q : Nat → Prop) (w : World) (ao bo : Option Addr) (n c1 c2 : Nat) (ss ts : List Sx) (es : List (List Di)) (h : Sts p w ao n ss es) (h' : Sts q w bo n ts es) (hal : Alike ss ts) :
    Calls Tryd.prog 37 #[.slice ao n c1, .slice bo n c2] w fun e w' => e = .returned (.bool true) ∧ Up w w' := by
  have hxl := h.1.1
  have hyl := h'.1.1
  have hel := h.2.1
  have hm := h.1.2.1
  have HX : Hid (Sts p w ao n ss es) := h
  have HY : Hid (Sts q w bo n ts es) := h'
  have HA : Hid (Alike ss ts) := hal
  clear h h' hal
  go_enter Tryd.func37, Tryd.ntmps37
  go_wp2_with fail
  go_loopw [5] (fun iv wr => ∃ k : Nat, k ≤ n ∧ iv = .int .i64 k ∧ Up w wr) (fun iv _ => n - (intOf iv).toNat)
  case atStart => exact ⟨0, by omega, rfl, Up.refl _⟩
  case round =>
    obtain ⟨k, hk, rfl, hu⟩ := hrel
    by_cases hlt : k < n
    · have hltI : (k : Int) < (n : Int) := by omega
      obtain ⟨x, hx⟩ : ∃ x, ss[k]? = some x := ⟨ss[k]'(by omega), List.getElem?_eq_getElem (by omega)⟩
      obtain ⟨y, hy⟩ : ∃ y, ts[k]? = some y := ⟨ts[k]'(by omega), List.getElem?_eq_getElem (by omega)⟩
      obtain ⟨e, hek⟩ : ∃ e, es[k]? = some e := ⟨es[k]'(by omega), List.getElem?_eq_getElem (by omega)⟩
      have hud : Below w.heap.size w wr.drew := hu.drew.bl
      obtain ⟨b1, o1, e1, _, hc1⟩ := (HX.out.1.up hud).2.2.2 (by omega)
      obtain ⟨b2, o2, e2, _, hc2⟩ := (HY.out.1.up hud).2.2.2 (by omega)
      have i1 := (HX.out.2.2 k x e hx hek).keep (Kp.up hud)
      have i2 := (HY.out.2.2 k y e hy hek).keep (Kp.up hud)
      obtain ⟨a1, a2, a3⟩ := HA.out.2 k x y hx hy
      have a4 : y.2.2.2.2.1 = x.2.2.2.2.1 := by rw [← i1.len, ← i2.len]
      have two : TwoS b1 (o1 + k * 4) b2 (o2 + k * 4) x y wr.drew ∧ Its p wr.drew x.2.2.2.1 x.2.2.2.2.1 e ∧ Its q wr.drew y.2.2.2.1 x.2.2.2.2.1 e := by
        refine ⟨⟨hc1 k x hx, ?_⟩, i1, by rw [← a4]; exact i2⟩
        have := hc2 k y hy
        rw [a1, a2, a3, a4] at this
        exact this
      have heq := fun W => vid_equal x.1 x.2.1 x.1 x.2.1 W
      rw [show decide (x.1 = x.1 ∧ x.2.1 = x.2.1) = true by simp] at heq
      subst e1 e2
      clear hx hy hek hc1 hc2 i1 i2 a1 a2 a3 a4 HX HY HA hud
      have hk0 : ¬ ((k : Int) < 0) := by omega
      have hud := hu.drew
      go_wp2_with fail
      refine wp_region_noPanic ?_
      refine wp_region_held_drew (S := fun wx => TwoS b1 (o1 + k * 4) b2 (o2 + k * 4) x y wx ∧ Its p wx x.2.2.2.1 x.2.2.2.2.1 e ∧ Its q wx y.2.2.2.1 x.2.2.2.2.1 e) (by kernel_rfl) two (fun hHeld => ?_)
      refine take_first 0 (v := ?_) rfl (by kernel_rfl) (by kernel_rfl) (by kernel_rfl) (fun _ _ _ h => h) (Or.inl ⟨by rfl, by intro wx hSw; obtain ⟨⟨⟨hSw1, hSw2, hSw3, hSw4⟩, hSw5, hSw6, hSw7, hSw8⟩, hSw9⟩ := hSw; go_simp; try with_reducible rfl⟩) (by assumption) ?_
      (try simp only [Act.put, List.setIfInBounds_toArray, List.set_cons_zero, List.set_cons_succ])
      refine take_first 1 (v := ?_) rfl (by kernel_rfl) (by kernel_rfl) (by kernel_rfl) (fun _ _ _ h => h) (Or.inl ⟨by rfl, by intro wx hSw; obtain ⟨⟨⟨hSw1, hSw2, hSw3, hSw4⟩, hSw5, hSw6, hSw7, hSw8⟩, hSw9⟩ := hSw; go_simp; try with_reducible rfl⟩) (by assumption) ?_
      (try simp only [Act.put, List.setIfInBounds_toArray, List.set_cons_zero, List.set_cons_succ])
      refine take_first 2 (v := ?_) rfl (by kernel_rfl) (by kernel_rfl) (by kernel_rfl) (fun _ _ _ h => h) (Or.inl ⟨by rfl, by intro wx hSw; obtain ⟨⟨⟨hSw1, hSw2, hSw3, hSw4⟩, hSw5, hSw6, hSw7, hSw8⟩, hSw9⟩ := hSw; go_simp; try with_reducible rfl⟩) (by assumption) ?_
      (try simp only [Act.put, List.setIfInBounds_toArray, List.set_cons_zero, List.set_cons_succ])
      refine take_first 3 (v := ?_) rfl (by kernel_rfl) (by kernel_rfl) (by kernel_rfl) (fun _ _ _ h => h) (Or.inl ⟨by rfl, by intro wx hSw; obtain ⟨⟨⟨hSw1, hSw2, hSw3, hSw4⟩, hSw5, hSw6, hSw7, hSw8⟩, hSw9⟩ := hSw; go_simp; try with_reducible rfl⟩) (by assumption) ?_
      (try simp only [Act.put, List.setIfInBounds_toArray, List.set_cons_zero, List.set_cons_succ])
      refine take_first 4 (v := ?_) rfl (by kernel_rfl) (by kernel_rfl) (by kernel_rfl) (fun _ _ _ h => h) (Or.inl ⟨by rfl, by intro wx hSw; obtain ⟨⟨⟨hSw1, hSw2, hSw3, hSw4⟩, hSw5, hSw6, hSw7, hSw8⟩, hSw9⟩ := hSw; go_simp; try with_reducible rfl⟩) (by assumption) ?_
      (try simp only [Act.put, List.setIfInBounds_toArray, List.set_cons_zero, List.set_cons_succ])
      refine take_first 5 (v := ?_) rfl (by kernel_rfl) (by kernel_rfl) (by kernel_rfl) (fun _ _ _ h => h) (Or.inl ⟨by rfl, by intro wx hSw; obtain ⟨⟨⟨hSw1, hSw2, hSw3, hSw4⟩, hSw5, hSw6, hSw7, hSw8⟩, hSw9⟩ := hSw; go_simp; try with_reducible rfl⟩) (by assumption) ?_
      (try simp only [Act.put, List.setIfInBounds_toArray, List.set_cons_zero, List.set_cons_succ])
      refine take_first 6 (v := ?_) rfl (by kernel_rfl) (by kernel_rfl) (by kernel_rfl) (fun _ _ _ h => h) (Or.inl ⟨by rfl, by intro wx hSw; obtain ⟨⟨⟨hSw1, hSw2, hSw3, hSw4⟩, hSw5, hSw6, hSw7, hSw8⟩, hSw9⟩ := hSw; go_simp; try with_reducible rfl⟩) (by assumption) ?_
      (try simp only [Act.put, List.setIfInBounds_toArray, List.set_cons_zero, List.set_cons_succ])
      refine take_first 7 (v := ?_) rfl (by kernel_rfl) (by kernel_rfl) (by kernel_rfl) (fun _ _ _ h => h) (Or.inl ⟨by rfl, by intro wx hSw; obtain ⟨⟨⟨hSw1, hSw2, hSw3, hSw4⟩, hSw5, hSw6, hSw7, hSw8⟩, hSw9⟩ := hSw; go_simp; try with_reducible rfl⟩) (by assumption) ?_
      (try simp only [Act.put, List.setIfInBounds_toArray, List.set_cons_zero, List.set_cons_succ])
      refine take_first 8 (v := ?_) rfl (by kernel_rfl) (by kernel_rfl) (by kernel_rfl) (fun _ _ _ h => h) (Or.inl ⟨by rfl, by intro wx hSw; obtain ⟨⟨⟨hSw1, hSw2, hSw3, hSw4⟩, hSw5, hSw6, hSw7, hSw8⟩, hSw9⟩ := hSw; go_simp; try with_reducible rfl⟩) (by assumption) ?_
      (try simp only [Act.put, List.setIfInBounds_toArray, List.set_cons_zero, List.set_cons_succ])
      refine take_first 9 (v := ?_) rfl (by kernel_rfl) (by kernel_rfl) (by kernel_rfl) (fun _ _ _ h => h) (Or.inl ⟨by rfl, by intro wx hSw; obtain ⟨⟨⟨hSw1, hSw2, hSw3, hSw4⟩, hSw5, hSw6, hSw7, hSw8⟩, hSw9⟩ := hSw; go_simp; try with_reducible rfl⟩) (by assumption) ?_
      (try simp only [Act.put, List.setIfInBounds_toArray, List.set_cons_zero, List.set_cons_succ])
      refine take_first 10 (v := ?_) rfl (by kernel_rfl) (by kernel_rfl) (by kernel_rfl) (fun _ _ _ h => h) (Or.inl ⟨by rfl, by intro wx hSw; obtain ⟨⟨⟨hSw1, hSw2, hSw3, hSw4⟩, hSw5, hSw6, hSw7, hSw8⟩, hSw9⟩ := hSw; go_simp; try with_reducible rfl⟩) (by assumption) ?_
      (try simp only [Act.put, List.setIfInBounds_toArray, List.set_cons_zero, List.set_cons_succ])
      refine take_first 11 (v := ?_) rfl (by kernel_rfl) (by kernel_rfl) (by kernel_rfl) (fun _ _ _ h => h) (Or.inl ⟨by rfl, by intro wx hSw; obtain ⟨⟨⟨hSw1, hSw2, hSw3, hSw4⟩, hSw5, hSw6, hSw7, hSw8⟩, hSw9⟩ := hSw; go_simp; try with_reducible rfl⟩) (by assumption) ?_
      (try simp only [Act.put, List.setIfInBounds_toArray, List.set_cons_zero, List.set_cons_succ])
      refine take_first 12 (v := ?_) rfl (by kernel_rfl) (by kernel_rfl) (by kernel_rfl) (fun _ _ _ h => h) (Or.inl ⟨by rfl, by intro wx hSw; obtain ⟨⟨⟨hSw1, hSw2, hSw3, hSw4⟩, hSw5, hSw6, hSw7, hSw8⟩, hSw9⟩ := hSw; go_simp; try with_reducible rfl⟩) (by assumption) ?_
      (try simp only [Act.put, List.setIfInBounds_toArray, List.set_cons_zero, List.set_cons_succ])
      refine take_first 13 (v := ?_) rfl (by kernel_rfl) (by kernel_rfl) (by kernel_rfl) (fun _ _ _ h => h) (Or.inl ⟨by rfl, by intro wx hSw; obtain ⟨⟨⟨hSw1, hSw2, hSw3, hSw4⟩, hSw5, hSw6, hSw7, hSw8⟩, hSw9⟩ := hSw; go_simp; try with_reducible rfl⟩) (by assumption) ?_
      (try simp only [Act.put, List.setIfInBounds_toArray, List.set_cons_zero, List.set_cons_succ])
      refine take_first 14 (v := ?_) rfl (by kernel_rfl) (by kernel_rfl) (by kernel_rfl) (fun _ _ _ h => h) (Or.inl ⟨by rfl, by intro wx hSw; obtain ⟨⟨⟨hSw1, hSw2, hSw3, hSw4⟩, hSw5, hSw6, hSw7, hSw8⟩, hSw9⟩ := hSw; go_simp; try with_reducible rfl⟩) (by assumption) ?_
      (try simp only [Act.put, List.setIfInBounds_toArray, List.set_cons_zero, List.set_cons_succ])
      refine take_first 15 (v := ?_) rfl (by kernel_rfl) (by kernel_rfl) (by kernel_rfl) (fun _ _ _ h => h) (Or.inl ⟨by rfl, by intro wx hSw; obtain ⟨⟨⟨hSw1, hSw2, hSw3, hSw4⟩, hSw5, hSw6, hSw7, hSw8⟩, hSw9⟩ := hSw; go_simp; try with_reducible rfl⟩) (by assumption) ?_
      (try simp only [Act.put, List.setIfInBounds_toArray, List.set_cons_zero, List.set_cons_succ])
      refine take_first 16 (v := ?_) rfl (by kernel_rfl) (by kernel_rfl) (by kernel_rfl) (fun _ _ _ h => h) (Or.inl ⟨by rfl, by intro wx hSw; obtain ⟨⟨⟨hSw1, hSw2, hSw3, hSw4⟩, hSw5, hSw6, hSw7, hSw8⟩, hSw9⟩ := hSw; go_simp; try with_reducible rfl⟩) (by assumption) ?_
      (try simp only [Act.put, List.setIfInBounds_toArray, List.set_cons_zero, List.set_cons_succ])
      refine take_first 17 (v := ?_) rfl (by kernel_rfl) (by kernel_rfl) (by kernel_rfl) (fun _ _ _ h => h) (Or.inl ⟨by rfl, by intro wx hSw; obtain ⟨⟨⟨hSw1, hSw2, hSw3, hSw4⟩, hSw5, hSw6, hSw7, hSw8⟩, hSw9⟩ := hSw; go_simp; try with_reducible rfl⟩) (by assumption) ?_
      (try simp only [Act.put, List.setIfInBounds_toArray, List.set_cons_zero, List.set_cons_succ])
      refine take_first 18 (v := ?_) rfl (by kernel_rfl) (by kernel_rfl) (by kernel_rfl) (fun _ _ _ h => h) (Or.inl ⟨by rfl, by intro wx hSw; obtain ⟨⟨⟨hSw1, hSw2, hSw3, hSw4⟩, hSw5, hSw6, hSw7, hSw8⟩, hSw9⟩ := hSw; go_simp; try with_reducible rfl⟩) (by assumption) ?_
      (try simp only [Act.put, List.setIfInBounds_toArray, List.set_cons_zero, List.set_cons_succ])
      refine take_first 19 (v := ?_) rfl (by kernel_rfl) (by kernel_rfl) (by kernel_rfl) (fun _ _ _ h => h) (Or.inl ⟨by rfl, by intro wx hSw; obtain ⟨⟨⟨hSw1, hSw2, hSw3, hSw4⟩, hSw5, hSw6, hSw7, hSw8⟩, hSw9⟩ := hSw; go_simp; try with_reducible rfl⟩) (by assumption) ?_
      (try simp only [Act.put, List.setIfInBounds_toArray, List.set_cons_zero, List.set_cons_succ])
      refine take_first 20 (v := ?_) rfl (by kernel_rfl) (by kernel_rfl) (by kernel_rfl) (fun _ _ _ h => h) (Or.inl ⟨by rfl, by intro wx hSw; obtain ⟨⟨⟨hSw1, hSw2, hSw3, hSw4⟩, hSw5, hSw6, hSw7, hSw8⟩, hSw9⟩ := hSw; go_simp; try with_reducible rfl⟩) (by assumption) ?_
      (try simp only [Act.put, List.setIfInBounds_toArray, List.set_cons_zero, List.set_cons_succ])
      refine take_first 21 (v := ?_) rfl (by kernel_rfl) (by kernel_rfl) (by kernel_rfl) (fun _ _ _ h => h) (Or.inl ⟨by rfl, by intro wx hSw; obtain ⟨⟨⟨hSw1, hSw2, hSw3, hSw4⟩, hSw5, hSw6, hSw7, hSw8⟩, hSw9⟩ := hSw; go_simp; try with_reducible rfl⟩) (by assumption) ?_
      (try simp only [Act.put, List.setIfInBounds_toArray, List.set_cons_zero, List.set_cons_succ])
      refine take_first 22 (v := ?_) rfl (by kernel_rfl) (by kernel_rfl) (by kernel_rfl) (fun _ _ _ h => h) (Or.inl ⟨by rfl, by intro wx hSw; obtain ⟨⟨⟨hSw1, hSw2, hSw3, hSw4⟩, hSw5, hSw6, hSw7, hSw8⟩, hSw9⟩ := hSw; go_simp; try with_reducible rfl⟩) (by assumption) ?_
      (try simp only [Act.put, List.setIfInBounds_toArray, List.set_cons_zero, List.set_cons_succ])
      refine take_first 23 (v := ?_) rfl (by kernel_rfl) (by kernel_rfl) (by kernel_rfl) (fun _ _ _ h => h) (Or.inl ⟨by rfl, by intro wx hSw; obtain ⟨⟨⟨hSw1, hSw2, hSw3, hSw4⟩, hSw5, hSw6, hSw7, hSw8⟩, hSw9⟩ := hSw; go_simp; try with_reducible rfl⟩) (by assumption) ?_
      (try simp only [Act.put, List.setIfInBounds_toArray, List.set_cons_zero, List.set_cons_succ])
      refine take_first 24 (v := ?_) rfl (by kernel_rfl) (by kernel_rfl) (by kernel_rfl) (fun _ _ _ h => h) (Or.inl ⟨by rfl, by intro wx hSw; obtain ⟨⟨⟨hSw1, hSw2, hSw3, hSw4⟩, hSw5, hSw6, hSw7, hSw8⟩, hSw9⟩ := hSw; go_simp; try with_reducible rfl⟩) (by assumption) ?_
      (try simp only [Act.put, List.setIfInBounds_toArray, List.set_cons_zero, List.set_cons_succ])
      refine take_first 25 (v := ?_) rfl (by kernel_rfl) (by kernel_rfl) (by kernel_rfl) (fun _ _ _ h => h) (Or.inl ⟨by rfl, by intro wx hSw; obtain ⟨⟨⟨hSw1, hSw2, hSw3, hSw4⟩, hSw5, hSw6, hSw7, hSw8⟩, hSw9⟩ := hSw; go_simp; try with_reducible rfl⟩) (by assumption) ?_
      (try simp only [Act.put, List.setIfInBounds_toArray, List.set_cons_zero, List.set_cons_succ])
      refine take_first 26 (v := ?_) rfl (by kernel_rfl) (by kernel_rfl) (by kernel_rfl) (fun _ _ _ h => h) (Or.inl ⟨by rfl, by intro wx hSw; obtain ⟨⟨⟨hSw1, hSw2, hSw3, hSw4⟩, hSw5, hSw6, hSw7, hSw8⟩, hSw9⟩ := hSw; go_simp; try with_reducible rfl⟩) (by assumption) ?_
      (try simp only [Act.put, List.setIfInBounds_toArray, List.set_cons_zero, List.set_cons_succ])
      refine take_first 27 (v := ?_) rfl (by kernel_rfl) (by kernel_rfl) (by kernel_rfl) (fun _ _ _ h => h) (Or.inl ⟨by rfl, by intro wx hSw; obtain ⟨⟨⟨hSw1, hSw2, hSw3, hSw4⟩, hSw5, hSw6, hSw7, hSw8⟩, hSw9⟩ := hSw; go_simp; try with_reducible rfl⟩) (by assumption) ?_
      (try simp only [Act.put, List.setIfInBounds_toArray, List.set_cons_zero, List.set_cons_succ])
      refine take_first 28 (v := ?_) rfl (by kernel_rfl) (by kernel_rfl) (by kernel_rfl) (fun _ _ _ h => h) (Or.inl ⟨by rfl, by intro wx hSw; obtain ⟨⟨⟨hSw1, hSw2, hSw3, hSw4⟩, hSw5, hSw6, hSw7, hSw8⟩, hSw9⟩ := hSw; go_simp; try with_reducible rfl⟩) (by assumption) ?_
      (try simp only [Act.put, List.setIfInBounds_toArray, List.set_cons_zero, List.set_cons_succ])
      refine take_first 29 (v := ?_) rfl (by kernel_rfl) (by kernel_rfl) (by kernel_rfl) (fun _ _ _ h => h) (Or.inl ⟨by rfl, by intro wx hSw; obtain ⟨⟨⟨hSw1, hSw2, hSw3, hSw4⟩, hSw5, hSw6, hSw7, hSw8⟩, hSw9⟩ := hSw; go_simp; try with_reducible rfl⟩) (by assumption) ?_
      (try simp only [Act.put, List.setIfInBounds_toArray, List.set_cons_zero, List.set_cons_succ])
      refine take_first 30 (v := ?_) rfl (by kernel_rfl) (by kernel_rfl) (by kernel_rfl) (fun _ _ _ h => h) (Or.inl ⟨by rfl, by intro wx hSw; obtain ⟨⟨⟨hSw1, hSw2, hSw3, hSw4⟩, hSw5, hSw6, hSw7, hSw8⟩, hSw9⟩ := hSw; go_simp; try with_reducible rfl⟩) (by assumption) ?_
      (try simp only [Act.put, List.setIfInBounds_toArray, List.set_cons_zero, List.set_cons_succ])
      refine take_first 31 (v := ?_) rfl (by kernel_rfl) (by kernel_rfl) (by kernel_rfl) (fun _ _ _ h => h) (Or.inl ⟨by rfl, by intro wx hSw; obtain ⟨⟨⟨hSw1, hSw2, hSw3, hSw4⟩, hSw5, hSw6, hSw7, hSw8⟩, hSw9⟩ := hSw; go_simp; try with_reducible rfl⟩) (by assumption) ?_
      (try simp only [Act.put, List.setIfInBounds_toArray, List.set_cons_zero, List.set_cons_succ])
      refine take_first 32 (v := ?_) rfl (by kernel_rfl) (by kernel_rfl) (by kernel_rfl) (fun _ _ _ h => h) (Or.inl ⟨by rfl, by intro wx hSw; obtain ⟨⟨⟨hSw1, hSw2, hSw3, hSw4⟩, hSw5, hSw6, hSw7, hSw8⟩, hSw9⟩ := hSw; go_simp; try with_reducible rfl⟩) (by assumption) ?_
      (try simp only [Act.put, List.setIfInBounds_toArray, List.set_cons_zero, List.set_cons_succ])
      refine take_first 33 (v := ?_) rfl (by kernel_rfl) (by kernel_rfl) (by kernel_rfl) (fun _ _ _ h => h) (Or.inl ⟨by rfl, by intro wx hSw; obtain ⟨⟨⟨hSw1, hSw2, hSw3, hSw4⟩, hSw5, hSw6, hSw7, hSw8⟩, hSw9⟩ := hSw; go_simp; try with_reducible rfl⟩) (by assumption) ?_
      (try simp only [Act.put, List.setIfInBounds_toArray, List.set_cons_zero, List.set_cons_succ])
      refine take_first 34 (v := ?_) rfl (by kernel_rfl) (by kernel_rfl) (by kernel_rfl) (fun _ _ _ h => h) (Or.inl ⟨by rfl, by intro wx hSw; obtain ⟨⟨⟨hSw1, hSw2, hSw3, hSw4⟩, hSw5, hSw6, hSw7, hSw8⟩, hSw9⟩ := hSw; go_simp; try with_reducible rfl⟩) (by assumption) ?_
      (try simp only [Act.put, List.setIfInBounds_toArray, List.set_cons_zero, List.set_cons_succ])
      refine comes_up 35 rfl (by kernel_rfl) (fun K hK => ?_)
      go_simp
      refine (items_true p q _ _ _ _ _ _ e hHeld.2.1 hHeld.2.2).mono ?_
      rintro e' w1 ⟨rfl, hup⟩
      have two1 : TwoS b1 (o1 + k * 4) b2 (o2 + k * 4) x y w1 ∧ Its p w1 x.2.2.2.1 x.2.2.2.2.1 e ∧ Its q w1 y.2.2.2.1 x.2.2.2.2.1 e := ⟨hHeld.1.up hup, hHeld.2.1.keep (Kp.up hup.bl), hHeld.2.2.keep (Kp.up hup.bl)⟩
      have hu1 := hud.trans hup
      clear two hHeld hup hud
      go_wp2_with fail
      refine hK.out _ _ two1 (fun hHeld => ?_)
      clear hK K
      (try simp only [Act.put, List.setIfInBounds_toArray, List.set_cons_zero, List.set_cons_succ])
      refine take_first 36 (v := ?_) rfl (by kernel_rfl) (by kernel_rfl) (by kernel_rfl) (fun _ _ _ h => h) (Or.inl ⟨by rfl, by intro wx hSw; obtain ⟨⟨⟨hSw1, hSw2, hSw3, hSw4⟩, hSw5, hSw6, hSw7, hSw8⟩, hSw9⟩ := hSw; go_simp; try with_reducible rfl⟩) (by assumption) ?_
      (try simp only [Act.put, List.setIfInBounds_toArray, List.set_cons_zero, List.set_cons_succ])
      refine take_first 37 (v := ?_) rfl (by kernel_rfl) (by kernel_rfl) (by kernel_rfl) (fun _ _ _ h => h) (Or.inl ⟨by rfl, by intro wx hSw; obtain ⟨⟨⟨hSw1, hSw2, hSw3, hSw4⟩, hSw5, hSw6, hSw7, hSw8⟩, hSw9⟩ := hSw; go_simp; try with_reducible rfl⟩) (by assumption) ?_
      (try simp only [Act.put, List.setIfInBounds_toArray, List.set_cons_zero, List.set_cons_succ])
      refine wpAnyH_done (by kernel_rfl) ?_ _
      refine NoPanic.normal ?_
      clear two1 hHeld heq
      go_wp2
      go_roundw
      case rel => first | exact ⟨k + 1, by omega, by go_num, hu1⟩ | ((repeat apply Exists.intro); exact ⟨⟨k + 1, by omega, by go_num, hu1⟩, rfl⟩)
      case measure => simp [intOf]; omega
    · obtain rfl : k = n := by omega
      clear HX HY HA
      go_wp2
      go_ret
      exact ⟨rfl, hu⟩
end Go.Proofs.YtlonbbepoamnmaaDoor
namespace Go.Proofs.YtlonbbepoamnmaaDoor
open Go.RowKit
set_option linter.unusedVariables false
/-- A state's cells. -/
def C4 (b o : Nat) (x : Sx) (wx : World) : Prop :=
  wx.cell? ⟨b, o, none⟩ = some (.int .u64 (x.1 : Nat)) ∧ wx.cell? ⟨b, o + 1, none⟩ = some (.int .i64 x.2.1) ∧ wx.cell? ⟨b, o + 2, none⟩ = some (.int .i64 x.2.2.1) ∧ wx.cell? ⟨b, o + 3, none⟩ = some (.slice x.2.2.2.1 x.2.2.2.2.1 x.2.2.2.2.2)
theorem C4.up {b o : Nat} {x : Sx} {w w' : World} (h : C4 b o x w) (u : Below w.heap.size w w') : C4 b o x w' :=
  ⟨Kp.up (p := fun _ => True) u _ _ trivial h.1, Kp.up (p := fun _ => True) u _ _ trivial h.2.1, Kp.up (p := fun _ => True) u _ _ trivial h.2.2.1, Kp.up (p := fun _ => True) u _ _ trivial h.2.2.2⟩
theorem Its.small {p : Nat → Prop} {w : World} {ao : Option Addr} {n : Nat} {ds : List Di} (h : Its p w ao n ds) : n ≤ 4398046511104 := by obtain ⟨xs, h1, _⟩ := h; exact h1.2.1
theorem Sts.its {p : Nat → Prop} {w : World} {ao : Option Addr} {n : Nat} {ss : List Sx} {es : List (List Di)} (h : Sts p w ao n ss es) {x : Sx} (hx : x ∈ ss) : ∃ e, Its p w x.2.2.2.1 x.2.2.2.2.1 e := by
  obtain ⟨j, hj⟩ := List.mem_iff_getElem?.1 hx
  have := (List.getElem?_eq_some_iff.1 hj).1
  have h1 := h.1.1
  have h2 := h.2.1
  exact ⟨es[j]'(by omega), h.2.2 j x _ hj (List.getElem?_eq_getElem (by omega))⟩
/-- What the items of a state say that stood in a list. -/
def esAt (es : List (List Di)) (J : List Tg) : List (List Di) := J.map (fun t => es.getD t.2 [])
theorem join_sts {p q : Nat → Prop} {w w' : World} {ao jo : Option Addr} {n m : Nat} {ss : List Sx} {es : List (List Di)} {J : List Tg} (h : Sts p w ao n ss es) (hk : Kp p w w') (hJ : ∀ t ∈ J, t ∈ tagl ss) (hs : SR q w' jo m (J.map (·.1))) :
    Sts (fun b => p b ∨ q b) w' jo m (J.map (·.1)) (esAt es J) := by
  refine ⟨hs.imp (fun _ _ hb => .inr hb), by unfold esAt; rw [List.length_map, ← hs.1, List.length_map], fun j x e hx he => ?_⟩
  unfold esAt at he
  rw [List.getElem?_map] at hx he
  obtain ⟨t, ht, rfl⟩ := Option.map_eq_some_iff.1 hx
  rw [ht] at he
  simp at he
  subst he
  have hm := tagl_mem (hJ t (List.mem_of_getElem? ht))
  have hl := (List.getElem?_eq_some_iff.1 hm).1
  have h1 := h.1.1
  have h2 := h.2.1
  have hes : es[t.2]? = some (es[t.2]?.getD []) := by rw [List.getElem?_eq_getElem (by omega)]; rfl
  exact ((h.2.2 t.2 t.1 _ hm hes).keep hk).imp (fun _ _ hb => .inl hb)
theorem join_mem {ss : List Sx} {J : List Tg} (hJ : ∀ t ∈ J, t ∈ tagl ss) : ∀ x ∈ J.map (·.1), x ∈ ss := fun x hx => by
  obtain ⟨t, ht, rfl⟩ := List.mem_map.1 hx
  exact List.mem_of_getElem? (tagl_mem (hJ t ht))
end Go.Proofs.YtlonbbepoamnmaaDoor
namespace Go.Proofs.YtlonbbepoamnmaaDoor
open Go.RowKit Go.Sort
set_option linter.unusedVariables false

theorem setCell_other' {w : World} {g i : Nat} {v : Value} {ad : Addr} {u : Value} (h : ad ≠ ⟨g, i, none⟩) (hc : w.cell? ad = some u) : (w.setCell ⟨g, i, none⟩ v).cell? ad = some u := by
  rw [World.cell?_setCell_other _ _ _ _ (fun e => h e.symm)]; exact hc
theorem Kp.setCell {p : Nat → Prop} {w : World} {g i : Nat} {v : Value} (hp : ∀ b, p b → b ≠ g) : Kp p w (w.setCell ⟨g, i, none⟩ v) := fun ad u hb hc => setCell_other' (fun e => hp _ hb (by rw [e])) hc
/-- One of the items gets other bytes. -/
theorem IR.set {w : World} {g n k : Nat} {xs : List Ix} {x : Ix} (h : IR (fun b => b = g) w (some ⟨g, 0, none⟩) n xs) (hk : xs[k]? = some x) (ao : Option Addr) (l c : Nat) :
    IR (fun b => b = g) (w.setCell ⟨g, k * 2 + 1, none⟩ (.slice ao l c)) (some ⟨g, 0, none⟩) n (xs.set k (x.1, ao, l, c)) := by
  obtain ⟨h1, h2, h3, h4⟩ := h
  have hkl := (List.getElem?_eq_some_iff.1 hk).1
  refine ⟨by simpa using h1, h2, h3, fun h0 => ?_⟩
  obtain ⟨b, off, e, hp, hc⟩ := h4 h0
  cases e
  refine ⟨_, _, rfl, rfl, fun j y hj => ?_⟩
  simp only [Nat.zero_add] at hc ⊢
  by_cases e : j = k
  · subst e
    rw [List.getElem?_set_self hkl] at hj
    cases hj
    obtain ⟨c0, c1⟩ := hc j x hk
    exact ⟨setCell_other' (by simp <;> omega) c0, World.cell?_setCell_same' _ _ _ (by rw [c1]; rfl)⟩
  · rw [List.getElem?_set_ne (by omega)] at hj
    obtain ⟨c0, c1⟩ := hc j y hj
    exact ⟨setCell_other' (by simp <;> omega) c0, setCell_other' (by simp <;> omega) c1⟩

set_option maxRecDepth 10000 in
set_option maxHeartbeats 1000000 in
theorem copied_any (p : Nat → Prop) (w : World) (ao : Option Addr) (n cap : Nat) (ds : List Di) (h : Its p w ao n ds) :
    Calls Tryd.prog 98 #[.slice ao n cap] w fun e w' => ∃ ao' cap', e = .returned (.slice ao' n cap') ∧ Its (fun b => w.heap.size ≤ b) w' ao' n ds ∧ Below w.heap.size w w' := by
  obtain ⟨xs, hI, hd, hit⟩ := h
  have hcl := cloneI_any p w ao n cap xs hI
  have hxl := hI.1
  have hm := hI.2.1
  have HIT : Hid (∀ (j : Nat) (x : Ix) (d : Di), xs[j]? = some x → ds[j]? = some d → It p w x d) := hit
  clear hI hit
  go_enter Tryd.func98, Tryd.ntmps98
  go_wp2_with fail
  refine hcl.mono ?_
  rintro e w0 ⟨⟨v, rfl, hv⟩, hb0⟩
  clear hcl
  rcases hv with ⟨rfl, rfl⟩ | ⟨g, cap', rfl, hg, hg2, hfz, hIR⟩
  · go_wp2
    refine wp_loop_rounds 1 ?_
    rw [rounds_succ]
    go_wp2
    go_ret
    refine ⟨none, 0, rfl, ⟨[], ⟨rfl, by omega, fun _ => rfl, fun h => by omega⟩, hd, fun j x d hx => by simp at hx⟩, hb0⟩
  · have H0 : Hid (IR (fun b => b = g) w0 (some ⟨g, 0, none⟩) n xs ∧ (∀ i, w0.frozen? ⟨g, i, none⟩ = false)) := ⟨hIR, hfz⟩
    clear hIR hfz
    go_wp2_with fail
    go_loopw [4, 9] (fun _ kv wr => ∃ (k : Nat) (ys : List Ix), k ≤ n ∧ kv = .int .i64 (k : Nat) ∧ IR (fun b => b = g) wr (some ⟨g, 0, none⟩) n ys ∧ (∀ j, k ≤ j → ys[j]? = xs[j]?) ∧ (∀ (j : Nat) (y : Ix) (d : Di), j < k → ys[j]? = some y → ds[j]? = some d → It (fun b => w.heap.size ≤ b ∧ b ≠ g) wr y d) ∧ Below w.heap.size w wr ∧ g < wr.heap.size ∧ (∀ i, wr.frozen? ⟨g, i, none⟩ = false)) (fun _ kv _ => n - (intOf kv).toNat)
    case atStart => exact ⟨0, xs, by omega, rfl, H0.out.1, fun _ _ => rfl, fun j y d hj => by omega, hb0, hg2, H0.out.2⟩
    case round =>
      clear H0
      obtain ⟨k, ys, hk, rfl, hIR, hys, hits, hbl, hgl, hfz⟩ := hrel
      by_cases hlt : k < n
      · have hltI : (k : Int) < (n : Int) := by omega
        obtain ⟨x, hx⟩ : ∃ x, xs[k]? = some x := ⟨xs[k]'(by omega), List.getElem?_eq_getElem (by omega)⟩
        obtain ⟨d, hdk⟩ : ∃ d, ds[k]? = some d := ⟨ds[k]'(by omega), List.getElem?_eq_getElem (by omega)⟩
        have hyk : ys[k]? = some x := by rw [hys k (Nat.le_refl _)]; exact hx
        obtain ⟨b, off, e, hp, hc⟩ := hIR.2.2.2 (by omega)
        cases e
        obtain ⟨c0, c1⟩ := hc k x hyk
        simp only [Nat.zero_add] at c0 c1
        have hcb := cloneB_any p wr x.2.1 x.2.2.1 x.2.2.2 d.2 ((HIT.out k x d hx hdk).2.keep (Kp.up hbl))
        have hxd := (HIT.out k x d hx hdk).1
        have HIN : Hid (IR (fun b => b = g) wr (some ⟨g, 0, none⟩) n ys ∧ (∀ j, k ≤ j → ys[j]? = xs[j]?) ∧ (∀ (j : Nat) (y : Ix) (d : Di), j < k → ys[j]? = some y → ds[j]? = some d → It (fun b => w.heap.size ≤ b ∧ b ≠ g) wr y d) ∧ ys[k]? = some x ∧ ds[k]? = some d ∧ x.1 = d.1) := ⟨hIR, hys, hits, hyk, hdk, hxd⟩
        have hfz1 := hfz
        have hk0 : ¬ ((k : Int) < 0) := by omega
        clear hIR hys hits hc hx hdk hyk hxd hp
        go_wp2_with fail
        refine hcb.mono ?_
        rintro e w1 ⟨ao1, cap1, rfl, hrw, hb1⟩
        have c1' : w1.cell? ⟨g, k * 2 + 1, none⟩ = some (.slice x.2.1 x.2.2.1 x.2.2.2) := (hb1.cell hgl).trans c1
        have hf1 : ∀ i, w1.frozen? ⟨g, i, none⟩ = false := fun i => (hb1.frozen hgl).trans (hfz i)
        obtain ⟨w2, hw2⟩ : ∃ w2, w1.setCell ⟨g, k * 2 + 1, none⟩ (.slice ao1 x.2.2.1 cap1) = w2 := ⟨_, rfl⟩
        have HN : Hid (∃ ys' : List Ix, IR (fun b => b = g) w2 (some ⟨g, 0, none⟩) n ys' ∧ (∀ j, k + 1 ≤ j → ys'[j]? = xs[j]?) ∧ (∀ (j : Nat) (y : Ix) (d : Di), j < k + 1 → ys'[j]? = some y → ds[j]? = some d → It (fun b => w.heap.size ≤ b ∧ b ≠ g) w2 y d) ∧ Below w.heap.size w w2 ∧ g < w2.heap.size ∧ (∀ i, w2.frozen? ⟨g, i, none⟩ = false)) := by
          obtain ⟨i1, i2, i3, i4, i5, i6⟩ := HIN.out
          rw [← hw2]
          have hkl := (List.getElem?_eq_some_iff.1 i4).1
          have hbw : Below w.heap.size w w1 := bl_step hbl hb1
          have kp1 : Kp (fun b => w.heap.size ≤ b ∧ b ≠ g) w1 (w1.setCell ⟨g, k * 2 + 1, none⟩ (.slice ao1 x.2.2.1 cap1)) := Kp.setCell (fun b hb => hb.2)
          refine ⟨ys.set k (x.1, ao1, x.2.2.1, cap1), (i1.keep (Kp.up hb1)).set i4 ao1 x.2.2.1 cap1, fun j hj => by rw [List.getElem?_set_ne (by omega)]; exact i2 j (by omega), fun j y d' hj hy hd' => ?_, hbw.setCell (by omega) _, ?_, fun i => by rw [World.frozen?_setCell]; exact hf1 i⟩
          · by_cases e : j = k
            · subst e
              rw [List.getElem?_set_self hkl] at hy
              cases hy
              rw [i5] at hd'
              cases hd'
              refine ⟨i6, ?_⟩
              refine (hrw.imp (fun b _ hb => ?_)).keep kp1
              have := hbl.size
              exact ⟨by omega, by omega⟩
            · rw [List.getElem?_set_ne (by omega)] at hy
              exact ((i3 j y d' (by omega) hy hd').keep (Kp.up hb1)).keep kp1
          · have := hb1.size
            simp [World.setCell]; omega
        clear hcb hrw hb1 HIN hbl
        go_wp2_with fail
        (try simp only [hw2])
        clear hw2
        go_roundw
        case rel =>
          obtain ⟨ys', n1, n2, n3, n4, n5, n6⟩ := HN.out
          first | exact ⟨k + 1, ys', by omega, by go_num, n1, n2, n3, n4, n5, n6⟩ | ((repeat apply Exists.intro); exact ⟨⟨k + 1, ys', by omega, by go_num, n1, n2, n3, n4, n5, n6⟩, rfl⟩)
        case measure => simp [intOf]; omega
      · obtain rfl : k = n := by omega
        have HE : Hid (Its (fun b => w.heap.size ≤ b) wr (some ⟨g, 0, none⟩) k ds ∧ Below w.heap.size w wr) := by
          refine ⟨⟨ys, hIR.imp (fun b _ hb => by rw [hb]; exact hg), hd, fun j y d hy hd' => (hits j y d ?_ hy hd').imp (fun b _ hb => hb.1)⟩, hbl⟩
          have := (List.getElem?_eq_some_iff.1 hy).1
          have := hIR.1
          omega
        clear hIR hys hits hbl hfz
        go_wp2
        go_ret
        exact ⟨some ⟨g, 0, none⟩, cap', rfl, HE.out⟩
end Go.Proofs.YtlonbbepoamnmaaDoor
namespace Go.Proofs.YtlonbbepoamnmaaDoor
open Go.RowKit Go.Sort
set_option linter.unusedVariables false

theorem IR.own2 {w : World} {B n : Nat} {v : Value} {xs : List Ix} (h : w.ownsRow B 98 2 v n (cellI xs)) (hm : n ≤ 4398046511104) : (v = .slice none 0 0 ∧ n = 0) ∨ ∃ g cap, v = .slice (some ⟨g, 0, none⟩) n cap ∧ B ≤ g ∧ g < w.heap.size ∧ n ≤ cap ∧ cap ≤ 9223372036854775807 ∧ (∀ i, w.frozen? ⟨g, i, none⟩ = false) ∧ IR (fun b => b = g) w (some ⟨g, 0, none⟩) n xs := by
  have hl : xs.length = n := by have := h.1; rw [cellI_len] at this; omega
  rcases own_shape h with ⟨rfl, rfl⟩ | ⟨g, cap, rfl, hg, hg2⟩
  · exact .inl ⟨rfl, rfl⟩
  · have hcc : n ≤ cap ∧ cap ≤ 9223372036854775807 := by
      rcases h.2 with ⟨h0, _⟩ | ⟨g', cap', cur, h0, a, b, c, d, _⟩
      · cases h0
      · simp only [Value.slice.injEq] at h0
        obtain ⟨_, _, rfl⟩ := h0
        exact ⟨c, by unfold maxLen at d; omega⟩
    refine .inr ⟨g, cap, rfl, hg, hg2, hcc.1, hcc.2, fun i => ?_, hl, hm, fun e => (by cases e), fun _ => ⟨g, 0, rfl, rfl, fun j x hj => ⟨?_, ?_⟩⟩⟩
    · rcases h.2 with ⟨h0, _⟩ | ⟨g', cap', cur, h0, a, b, _⟩
      · cases h0
      · simp only [Value.slice.injEq, Option.some.injEq, Addr.mk.injEq] at h0
        obtain ⟨⟨rfl, _, _⟩, _, rfl⟩ := h0
        simp [World.frozen?, b]
    · rw [Nat.zero_add]
      refine own_cell h _ _ ?_
      have := cellI_get xs j x 0 hj (by omega)
      rw [show 2 * j + 0 = j * 2 by omega] at this
      exact this
    · rw [Nat.zero_add]
      refine own_cell h _ _ ?_
      have := cellI_get xs j x 1 hj (by omega)
      rw [show 2 * j + 1 = j * 2 + 1 by omega] at this
      exact this

set_option maxRecDepth 10000 in
set_option maxHeartbeats 1000000 in
theorem cloneI2_any (p : Nat → Prop) (w : World) (ao : Option Addr) (n cap : Nat) (xs : List Ix) (h : IR p w ao n xs) :
    Calls Tryd.prog 83 #[.slice ao n cap] w fun e w' => (∃ v, e = .returned v ∧ ((v = .slice none 0 0 ∧ n = 0) ∨ ∃ g cap', v = .slice (some ⟨g, 0, none⟩) n cap' ∧ w.heap.size ≤ g ∧ g < w'.heap.size ∧ n ≤ cap' ∧ cap' ≤ 9223372036854775807 ∧ (∀ i, w'.frozen? ⟨g, i, none⟩ = false) ∧ IR (fun b => b = g) w' (some ⟨g, 0, none⟩) n xs)) ∧ Below w.heap.size w w' := by
  obtain ⟨i0, hi0, hz0, hz1, hz2⟩ := info_parts infoI
  have q29 := fun (w : World) (a : Option Addr) (n c n' c' : Nat) => Lib.run_eql_slice_nil (P := Tryd.prog) w 41 98 a n c n' c' und29
  have hl := h.1
  have hm := h.2.1
  cases ao with
  | none =>
    obtain rfl := h.2.2.1 rfl
    clear h
    go_enter Tryd.func83, Tryd.ntmps83
    go_wp2
    go_ret
    exact ⟨⟨_, rfl, .inl (by simp)⟩, Below.refl _ _⟩
  | some ad =>
    have hA : Hid (∀ j u, (cellI xs)[j]? = some u → w.cell? (ad.add j) = some u) := h.cells
    have HF : Hid ((cellI xs).length = n * 2) := by show _ = _; rw [cellI_len, hl]
    clear h
    go_enter Tryd.func83, Tryd.ntmps83
    go_wp2_with (at_builtin; refine wpList_append_own_at _ rfl _ _ 41 rfl w.heap.size 98 i0 (.agg #[.int .i64 0, .slice none 0 0]) 2 32 und29 hi0 hz0 hz1 hz2 rfl (by decide) _ 0 [] rfl ?d1 ad n cap (cellI xs) rfl ?d2 ?d3 ?d4 ?d6 ?d7 ?d8 ?_)
    case d1 => exact World.ownsRow_made w #[] 0 (Nat.le_refl _) (Nat.zero_le _) (by simp)
    case d2 => exact HF.out
    case d3 => exact fun j u hj => ((bl1 w _).cell (World.block_lt_of_cell? w _ (hA.out j u hj))).trans (hA.out j u hj)
    case d4 => exact fun u hu => cellI_one hu
    case d6 => unfold maxLen; omega
    case d7 => omega
    case d8 => simp
    intro v' w1 hown hgrow hnil hat
    have hr := IR.own2 (xs := xs) (B := w.heap.size) (n := n) (v := v') (w := w1) (by simpa using hown) hm
    have HE : Hid (((v' = .slice none 0 0 ∧ n = 0) ∨ ∃ g cap', v' = .slice (some ⟨g, 0, none⟩) n cap' ∧ w.heap.size ≤ g ∧ g < w1.heap.size ∧ n ≤ cap' ∧ cap' ≤ 9223372036854775807 ∧ (∀ i, w1.frozen? ⟨g, i, none⟩ = false) ∧ IR (fun b => b = g) w1 (some ⟨g, 0, none⟩) n xs) ∧ Below w.heap.size w w1) := ⟨hr, bl_grown (bl1 w _) (by simp) hgrow (by intro k hk; simp [Value.ownBlock] at hk; omega)⟩
    clear hown hgrow hnil hat hr
    go_wp2
    go_ret
    exact ⟨⟨v', rfl, HE.out.1⟩, HE.out.2⟩
set_option maxRecDepth 10000 in
set_option maxHeartbeats 1000000 in
theorem copied2_any (p : Nat → Prop) (w : World) (ao : Option Addr) (n cap : Nat) (ds : List Di) (h : Its p w ao n ds) :
    Calls Tryd.prog 98 #[.slice ao n cap] w fun e w' => ∃ ao' cap', e = .returned (.slice ao' n cap') ∧ n ≤ cap' ∧ cap' ≤ 9223372036854775807 ∧ Its (fun b => w.heap.size ≤ b) w' ao' n ds ∧ Below w.heap.size w w' := by
  obtain ⟨xs, hI, hd, hit⟩ := h
  have hcl := cloneI2_any p w ao n cap xs hI
  have hxl := hI.1
  have hm := hI.2.1
  have HIT : Hid (∀ (j : Nat) (x : Ix) (d : Di), xs[j]? = some x → ds[j]? = some d → It p w x d) := hit
  clear hI hit
  go_enter Tryd.func98, Tryd.ntmps98
  go_wp2_with fail
  refine hcl.mono ?_
  rintro e w0 ⟨⟨v, rfl, hv⟩, hb0⟩
  clear hcl
  rcases hv with ⟨rfl, rfl⟩ | ⟨g, cap', rfl, hg, hg2, hcc1, hcc2, hfz, hIR⟩
  · go_wp2
    refine wp_loop_rounds 1 ?_
    rw [rounds_succ]
    go_wp2
    go_ret
    refine ⟨none, 0, rfl, by omega, by omega, ⟨[], ⟨rfl, by omega, fun _ => rfl, fun h => by omega⟩, hd, fun j x d hx => by simp at hx⟩, hb0⟩
  · have H0 : Hid (IR (fun b => b = g) w0 (some ⟨g, 0, none⟩) n xs ∧ (∀ i, w0.frozen? ⟨g, i, none⟩ = false)) := ⟨hIR, hfz⟩
    clear hIR hfz
    go_wp2_with fail
    go_loopw [4, 9] (fun _ kv wr => ∃ (k : Nat) (ys : List Ix), k ≤ n ∧ kv = .int .i64 (k : Nat) ∧ IR (fun b => b = g) wr (some ⟨g, 0, none⟩) n ys ∧ (∀ j, k ≤ j → ys[j]? = xs[j]?) ∧ (∀ (j : Nat) (y : Ix) (d : Di), j < k → ys[j]? = some y → ds[j]? = some d → It (fun b => w.heap.size ≤ b ∧ b ≠ g) wr y d) ∧ Below w.heap.size w wr ∧ g < wr.heap.size ∧ (∀ i, wr.frozen? ⟨g, i, none⟩ = false)) (fun _ kv _ => n - (intOf kv).toNat)
    case atStart => exact ⟨0, xs, by omega, rfl, H0.out.1, fun _ _ => rfl, fun j y d hj => by omega, hb0, hg2, H0.out.2⟩
    case round =>
      clear H0
      obtain ⟨k, ys, hk, rfl, hIR, hys, hits, hbl, hgl, hfz⟩ := hrel
      by_cases hlt : k < n
      · have hltI : (k : Int) < (n : Int) := by omega
        obtain ⟨x, hx⟩ : ∃ x, xs[k]? = some x := ⟨xs[k]'(by omega), List.getElem?_eq_getElem (by omega)⟩
        obtain ⟨d, hdk⟩ : ∃ d, ds[k]? = some d := ⟨ds[k]'(by omega), List.getElem?_eq_getElem (by omega)⟩
        have hyk : ys[k]? = some x := by rw [hys k (Nat.le_refl _)]; exact hx
        obtain ⟨b, off, e, hp, hc⟩ := hIR.2.2.2 (by omega)
        cases e
        obtain ⟨c0, c1⟩ := hc k x hyk
        simp only [Nat.zero_add] at c0 c1
        have hcb := cloneB_any p wr x.2.1 x.2.2.1 x.2.2.2 d.2 ((HIT.out k x d hx hdk).2.keep (Kp.up hbl))
        have hxd := (HIT.out k x d hx hdk).1
        have HIN : Hid (IR (fun b => b = g) wr (some ⟨g, 0, none⟩) n ys ∧ (∀ j, k ≤ j → ys[j]? = xs[j]?) ∧ (∀ (j : Nat) (y : Ix) (d : Di), j < k → ys[j]? = some y → ds[j]? = some d → It (fun b => w.heap.size ≤ b ∧ b ≠ g) wr y d) ∧ ys[k]? = some x ∧ ds[k]? = some d ∧ x.1 = d.1) := ⟨hIR, hys, hits, hyk, hdk, hxd⟩
        have hfz1 := hfz
        have hk0 : ¬ ((k : Int) < 0) := by omega
        clear hIR hys hits hc hx hdk hyk hxd hp
        go_wp2_with fail
        refine hcb.mono ?_
        rintro e w1 ⟨ao1, cap1, rfl, hrw, hb1⟩
        have c1' : w1.cell? ⟨g, k * 2 + 1, none⟩ = some (.slice x.2.1 x.2.2.1 x.2.2.2) := (hb1.cell hgl).trans c1
        have hf1 : ∀ i, w1.frozen? ⟨g, i, none⟩ = false := fun i => (hb1.frozen hgl).trans (hfz i)
        obtain ⟨w2, hw2⟩ : ∃ w2, w1.setCell ⟨g, k * 2 + 1, none⟩ (.slice ao1 x.2.2.1 cap1) = w2 := ⟨_, rfl⟩
        have HN : Hid (∃ ys' : List Ix, IR (fun b => b = g) w2 (some ⟨g, 0, none⟩) n ys' ∧ (∀ j, k + 1 ≤ j → ys'[j]? = xs[j]?) ∧ (∀ (j : Nat) (y : Ix) (d : Di), j < k + 1 → ys'[j]? = some y → ds[j]? = some d → It (fun b => w.heap.size ≤ b ∧ b ≠ g) w2 y d) ∧ Below w.heap.size w w2 ∧ g < w2.heap.size ∧ (∀ i, w2.frozen? ⟨g, i, none⟩ = false)) := by
          obtain ⟨i1, i2, i3, i4, i5, i6⟩ := HIN.out
          rw [← hw2]
          have hkl := (List.getElem?_eq_some_iff.1 i4).1
          have hbw : Below w.heap.size w w1 := bl_step hbl hb1
          have kp1 : Kp (fun b => w.heap.size ≤ b ∧ b ≠ g) w1 (w1.setCell ⟨g, k * 2 + 1, none⟩ (.slice ao1 x.2.2.1 cap1)) := Kp.setCell (fun b hb => hb.2)
          refine ⟨ys.set k (x.1, ao1, x.2.2.1, cap1), (i1.keep (Kp.up hb1)).set i4 ao1 x.2.2.1 cap1, fun j hj => by rw [List.getElem?_set_ne (by omega)]; exact i2 j (by omega), fun j y d' hj hy hd' => ?_, hbw.setCell (by omega) _, ?_, fun i => by rw [World.frozen?_setCell]; exact hf1 i⟩
          · by_cases e : j = k
            · subst e
              rw [List.getElem?_set_self hkl] at hy
              cases hy
              rw [i5] at hd'
              cases hd'
              refine ⟨i6, ?_⟩
              refine (hrw.imp (fun b _ hb => ?_)).keep kp1
              have := hbl.size
              exact ⟨by omega, by omega⟩
            · rw [List.getElem?_set_ne (by omega)] at hy
              exact ((i3 j y d' (by omega) hy hd').keep (Kp.up hb1)).keep kp1
          · have := hb1.size
            simp [World.setCell]; omega
        clear hcb hrw hb1 HIN hbl
        go_wp2_with fail
        (try simp only [hw2])
        clear hw2
        go_roundw
        case rel =>
          obtain ⟨ys', n1, n2, n3, n4, n5, n6⟩ := HN.out
          first | exact ⟨k + 1, ys', by omega, by go_num, n1, n2, n3, n4, n5, n6⟩ | ((repeat apply Exists.intro); exact ⟨⟨k + 1, ys', by omega, by go_num, n1, n2, n3, n4, n5, n6⟩, rfl⟩)
        case measure => simp [intOf]; omega
      · obtain rfl : k = n := by omega
        have HE : Hid (Its (fun b => w.heap.size ≤ b) wr (some ⟨g, 0, none⟩) k ds ∧ Below w.heap.size w wr) := by
          refine ⟨⟨ys, hIR.imp (fun b _ hb => by rw [hb]; exact hg), hd, fun j y d hy hd' => (hits j y d ?_ hy hd').imp (fun b _ hb => hb.1)⟩, hbl⟩
          have := (List.getElem?_eq_some_iff.1 hy).1
          have := hIR.1
          omega
        clear hIR hys hits hbl hfz
        go_wp2
        go_ret
        exact ⟨some ⟨g, 0, none⟩, cap', rfl, hcc1, hcc2, HE.out⟩
end Go.Proofs.YtlonbbepoamnmaaDoor
namespace Go.Proofs.YtlonbbepoamnmaaDoor
open Go.RowKit Go.Sort
set_option linter.unusedVariables false

set_option maxRecDepth 10000 in
theorem refEnd_any (w : World) (x : Sx) (hx : OkS x) : Calls Tryd.prog 81 #[sta x] w fun e w' => e = .returned (.int .i64 (endS x)) ∧ Up w w' := by
  clear hx
  obtain ⟨n, p, f, ao, l, c⟩ := x
  unfold sta endS
  simp only at *
  go_enter Tryd.func81, Tryd.ntmps81
  go_wp2
  go_ret
  exact ⟨rfl, (Up.refl _).alloc _⟩

theorem refCompare_any (w : World) (n1 : Nat) (p1 : Int) (n2 : Nat) (p2 : Int) : Calls Tryd.prog 26 #[vid n1 p1, vid n2 p2] w fun e w' => e = .returned (.int .i64 (cmpV n1 p1 n2 p2)) ∧ Up w w' := by
  unfold cmpV sgn vid
  by_cases a : n1 < n2
  · simp only [if_pos a]
    have aI : (n1 : Int) < n2 := by omega
    go_enter Tryd.func26, Tryd.ntmps26
    go_wp2
    go_ret
    exact ⟨rfl, ((Up.refl _).alloc _).alloc _⟩
  · simp only [if_neg a]
    have aI : ¬ ((n1 : Int) < n2) := by omega
    by_cases b : n2 < n1
    · simp only [if_pos b]
      have bI : ((n1 : Int) == n2) = false := by simp; omega
      go_enter Tryd.func26, Tryd.ntmps26
      go_wp2
      go_ret
      exact ⟨rfl, ((Up.refl _).alloc _).alloc _⟩
    · simp only [if_neg b]
      have hn : n1 = n2 := by omega
      subst hn
      clear a b aI
      by_cases c : p1 < p2
      · simp only [if_pos c]
        go_enter Tryd.func26, Tryd.ntmps26
        go_wp2
        go_ret
        exact ⟨rfl, ((Up.refl _).alloc _).alloc _⟩
      · simp only [if_neg c]
        by_cases d : p2 < p1
        · simp only [if_pos d]
          have dI : (p1 == p2) = false := by simp; omega
          go_enter Tryd.func26, Tryd.ntmps26
          go_wp2
          go_ret
          exact ⟨rfl, ((Up.refl _).alloc _).alloc _⟩
        · simp only [if_neg d]
          have hp : p1 = p2 := by omega
          subst hp
          clear c d
          go_enter Tryd.func26, Tryd.ntmps26
          go_wp2
          go_ret
          exact ⟨rfl, ((Up.refl _).alloc _).alloc _⟩

/-- Is a view's number right? -/
def formV (n : Nat) (p : Int) : Bool := decide (0 ≤ p) && decide (p ≤ if n = 0 then 0 else 15)
end Go.Proofs.YtlonbbepoamnmaaDoor
