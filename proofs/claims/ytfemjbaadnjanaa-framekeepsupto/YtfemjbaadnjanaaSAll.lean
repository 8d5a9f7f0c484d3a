/-
  What the texts of package cut lean on: steps of a drawn region, and worlds that have grown.
  States as they lie in memory, cell by cell, and a block of them that is written to.
  Items and their bytes as they lie in memory, and copies of them (slices.Clone, bytes.Clone).
  Views' numbers: which of two is greater, and which are right (package ident), and the document's answers.
  By what cut.Join sorts: views' numbers, and of one view's states those that have more.
  Rows of states in memory; which of two numbers of views are one; the closures of cut.
  The document's Join.
  Which states are right, by cut.Form and by the document.
  Which states are right, by cut.Form and by the document.
-/
import Derived.Test.YtfemjbaadnjanaaProg
import Derived.WalkKit
import Derived.WalkSpells
import Derived.WalkLawsBesides
import Derived.Outline
import Derived.BigQuiet
import Derived.Below
import Derived.OwnWalk
import Derived.Deep.QuietTactic
import Derived.Deep.RegionHeld3
import Derived.Laws.AppendOwn
import Derived.Laws.OwnMore
import Derived.Laws.StructEq
import Derived.Maps.AppendAt
import Derived.Sort.Grow
import Derived.Laws.CopyRow
import Derived.Lib.SliceRun
import Derived.Laws.Tables
import Derived.Deep.Cut
import Derived.Deep.CutRange
namespace Go.Proofs.Ytfemjbaadnjanaa
open Go.RowKit Go.Sort
set_option linter.unusedVariables false

theorem ret_int {k : IntKind} {a b : Int} (h : a = b) : Ending.returned (.int k a) = .returned (.int k b) := by rw [h]
theorem ret_bool {a b : Bool} (h : a = b) : Ending.returned (.bool a) = .returned (.bool b) := by rw [h]
theorem take_first {P : Program} {md : Region.Mode} {l : List Oper} {Q : Exit → Act → World → Prop} {S : World → Prop} (i : Nat) {oi : Oper} {v : Value} {fuel : Nat} {listed : Array Bool} {a : Act} {w : World} (hi : l[i]? = some oi)
    (hs : Region.noSelect l.toArray = true) (hf : Region.free md l.toArray listed i = true) (hr : (Region.ready md l.toArray listed).contains i = true)
    (hQ : ∀ c a w, Q (.panic c) (a.put oi.dst v) w → Q (.panic c) a w) (hy : YieldsIf P l.toArray S oi v a) (hS : S w)
    (h : wpAnyH P md l.toArray Q S fuel (listed.setIfInBounds i true) (a.put oi.dst v) w) : wpAnyH P md l.toArray Q S (fuel + 1) listed a w :=
  wpAnyH_take (by simpa using hi) hs hf hr hQ hy hS h
theorem comes_up {P : Program} {md : Region.Mode} {l : List Oper} {Q : Exit → Act → World → Prop} {S : World → Prop} (i : Nat) {o : Oper} {fuel : Nat} {listed : Array Bool} {a : Act} {w : World} (hi : l[i]? = some o) (hr : Region.ready md l.toArray listed = [i])
    (h : ∀ K' : Act → World → Prop, Shut (∀ a w, S w → (S w → wpAnyH P md l.toArray Q S fuel (listed.setIfInBounds i true) a w) → K' a w) → if Region.wanted o (yielded l.toArray a.tmps) = true then Oper.wp P o a w K' Q else K' (a.put o.dst undef) w) :
    wpAnyH P md l.toArray Q S (fuel + 1) listed a w :=
  wpAnyH_ready (rs := [i]) hr (by simp) (AllReadyH.cons (by simpa using hi) h AllReadyH.nil)
theorem comes_up2 {P : Program} {md : Region.Mode} {l : List Oper} {Q : Exit → Act → World → Prop} {S : World → Prop} (i j : Nat) {o o' : Oper} {fuel : Nat} {listed : Array Bool} {a : Act} {w : World} (hi : l[i]? = some o) (hj : l[j]? = some o') (hr : Region.ready md l.toArray listed = [i, j])
    (h : ∀ K' : Act → World → Prop, Shut (∀ a w, S w → (S w → wpAnyH P md l.toArray Q S fuel (listed.setIfInBounds i true) a w) → K' a w) → if Region.wanted o (yielded l.toArray a.tmps) = true then Oper.wp P o a w K' Q else K' (a.put o.dst undef) w)
    (h' : ∀ K' : Act → World → Prop, Shut (∀ a w, S w → (S w → wpAnyH P md l.toArray Q S fuel (listed.setIfInBounds j true) a w) → K' a w) → if Region.wanted o' (yielded l.toArray a.tmps) = true then Oper.wp P o' a w K' Q else K' (a.put o'.dst undef) w) :
    wpAnyH P md l.toArray Q S (fuel + 1) listed a w :=
  wpAnyH_ready (rs := [i, j]) hr (by simp) (AllReadyH.cons (by simpa using hi) h (AllReadyH.cons (by simpa using hj) h' AllReadyH.nil))
theorem step_append_run {P : Program} {ops : Array Oper} {o : Oper} {a : Act} {w : World} {K : Act → World → Prop} {Q : Exit → Act → World → Prop} {E : Prop}
    (hg : o.guard = none) (s x : Operand) (t : TypeId) (hop : o.op = Op.call { callee := Callee.builtin Builtin.append, args := #[s, x], argTypes := #[t, t] })
    (v y v' : Value) (w' : World) (hs : a.eval s = v) (hx : a.eval x = y) (hrun : (Builtin.append_ #[t, t] o.type #[v, y]).run P w = .ok v' w')
    (hK : K (a.put o.dst v') w') : if Region.wanted o (yielded ops a.tmps) = true then Oper.wp P o a w K Q else E := by
  have hw : Region.wanted o (yielded ops a.tmps) = true := by simp [Region.wanted, hg]
  rw [if_pos hw]
  unfold Oper.wp
  simp [execOp, hop, resolve, invoke, builtin, hs, hx, hrun, Result.andThen]
  exact hK
theorem info_parts {e : TypeId} {z : Value} {s b : Nat} (h : (Try.prog.info? e).map (fun i => (i.zero, i.size, i.bytes)) = some (some z, s, b)) : ∃ i, Try.prog.info? e = some i ∧ i.zero = some z ∧ i.size = s ∧ i.bytes = b := by
  obtain ⟨i, hi, hz⟩ := Option.map_eq_some_iff.1 h
  simp only [Prod.mk.injEq] at hz
  exact ⟨i, hi, hz.1, hz.2.1, hz.2.2⟩

theorem bl_drewN {B : Nat} {w w' : World} (h : Below B w w') (q : Nat) : Below B w (w'.drewN q) := ⟨h.os, h.tape, h.output, h.size, h.block⟩
theorem bl_grown {B : Nat} {w a b : World} {row : Option Nat} (h : Below B w a) (hB : B ≤ a.heap.size) (g : a.grownBy b row) (hr : ∀ k, row = some k → B ≤ k) : Below B w b :=
  ⟨g.os.trans h.os, g.tape.trans h.tape, g.output.trans h.output, Nat.le_trans h.size g.size, fun k hk => (g.block k (by omega) (fun e => by have := hr k e.symm; omega)).trans (h.block k hk)⟩
theorem bl_step {w a b : World} (h : Below w.heap.size w a) (k : Below a.heap.size a b) : Below w.heap.size w b := h.trans (k.mono h.size)
theorem bl2 (w : World) (o1 o2 : Obj) : Below w.heap.size w ((w.alloc o1).alloc o2) := ((Below.refl _ _).alloc (Nat.le_refl _) _).alloc (by simp) _
theorem bl1 (w : World) (o1 : Obj) : Below w.heap.size w (w.alloc o1) := (Below.refl _ _).alloc (Nat.le_refl _) _

/-- Nothing of old has turned, and no draw was taken back. -/
structure Up (w w' : World) : Prop where
  bl : Below w.heap.size w w'
  dr : w.drawn ≤ w'.drawn
theorem Up.refl (w : World) : Up w w := ⟨Below.refl _ _, Nat.le_refl _⟩
theorem Up.trans {a b c : World} (h : Up a b) (k : Up b c) : Up a c := ⟨bl_step h.bl k.bl, Nat.le_trans h.dr k.dr⟩
theorem Up.alloc {a b : World} (h : Up a b) (o : Obj) : Up a (b.alloc o) := ⟨h.bl.alloc h.bl.size o, h.dr⟩
theorem Up.drewN {a b : World} (h : Up a b) (n : Nat) : Up a (b.drewN n) := ⟨bl_drewN h.bl n, Nat.le_trans h.dr (Nat.le_add_right _ _)⟩
theorem Up.drew {a b : World} (h : Up a b) : Up a b.drew := ⟨h.bl.drew, Nat.le_trans h.dr (Nat.le_add_right _ _)⟩
theorem Up.cell {a b : World} (h : Up a b) {ad : Addr} {v : Value} (hc : a.cell? ad = some v) : b.cell? ad = some v := (h.bl.cell (World.block_lt_of_cell? a _ hc)).trans hc
theorem Up.grow {w w' : World} (h : Up w w') : ∃ q os, w' = grow (w.drewN q) os := by
  refine ⟨w'.drawn - w.drawn, w'.heap.extract w.heap.size w'.heap.size, ?_⟩
  obtain ⟨hb, hd⟩ := h
  have he : w'.heap = w.heap ++ w'.heap.extract w.heap.size w'.heap.size := by
    apply Array.ext_getElem?
    intro i
    rw [Array.getElem?_append]
    split
    · rename_i hi; exact hb.block i hi
    · rename_i hi
      rw [Array.getElem?_extract]
      have hs := hb.size
      by_cases h2 : i < w'.heap.size
      · rw [if_pos (by simp; omega), show w.heap.size + (i - w.heap.size) = i by omega]
      · rw [if_neg (by simp; omega), Array.getElem?_eq_none (by omega)]
  have e1 := hb.os
  have e2 := hb.tape
  have e3 := hb.output
  cases w'
  cases w
  simp only [Sort.grow, World.drewN] at *
  simp only [World.mk.injEq]
  exact ⟨he, e2, by omega, e1, e3⟩
theorem cell_box (w : World) (c : Array Value) (t : TypeId) (j : Nat) (v : Value) (hj : c[j]? = some v) : (w.alloc (.cells c t)).cell? ⟨w.heap.size, j, none⟩ = some v := by
  have hb : (w.alloc (.cells c t)).heap[w.heap.size]? = some (.cells c t (0, 0)) := heap_alloc_new _ _
  unfold World.cell?; rw [hb]; simpa using hj
end Go.Proofs.Ytfemjbaadnjanaa
namespace Go.Proofs.Ytfemjbaadnjanaa
open Go.RowKit Go.Sort
set_option linter.unusedVariables false

/-- A state: its view's number, its floor, and where its items lie. -/
abbrev Sx := Nat × Int × Int × Option Addr × Nat × Nat
def cellsS (x : Sx) : List Value := [.int .u64 (x.1 : Nat), .int .i64 x.2.1, .int .i64 x.2.2.1, .slice x.2.2.2.1 x.2.2.2.2.1 x.2.2.2.2.2]
def flat (ls : List Sx) : List Value := ls.flatMap cellsS
theorem flat_len (ls : List Sx) : (flat ls).length = ls.length * 4 := by
  induction ls with
  | nil => rfl
  | cons a r ih => simp [flat, cellsS] at ih ⊢; omega
theorem flat_cons (x : Sx) (ls : List Sx) : flat (x :: ls) = cellsS x ++ flat ls := by simp [flat]
theorem flat_app (a b : List Sx) : flat (a ++ b) = flat a ++ flat b := by simp [flat]
theorem flat_one {ls : List Sx} {u : Value} (h : u ∈ flat ls) : u.oneCell' = true := by
  obtain ⟨x, _, hx⟩ := List.mem_flatMap.1 h
  simp [cellsS] at hx
  rcases hx with rfl | rfl | rfl | rfl <;> rfl
theorem flat_get : ∀ (ls : List Sx) (j : Nat) (x : Sx) (i : Nat), ls[j]? = some x → i < 4 → (flat ls)[4 * j + i]? = (cellsS x)[i]?
  | [], j, x, i, h, hi => by simp at h
  | a :: r, 0, x, i, h, hi => by
    simp at h; subst h
    rw [flat_cons, List.getElem?_append_left (by simp [cellsS]; omega)]; simp
  | a :: r, j + 1, x, i, h, hi => by
    rw [flat_cons, List.getElem?_append_right (by simp [cellsS]; omega), show 4 * (j + 1) + i - (cellsS a).length = 4 * j + i by simp [cellsS]; omega]
    exact flat_get r j x i (by simpa using h) hi
theorem gr_refl (w : World) (r : Option Nat) : w.grownBy w r := ⟨rfl, rfl, rfl, Nat.le_refl _, fun _ _ _ => rfl⟩
theorem gr_trans {a b c : World} {r : Option Nat} (h : a.grownBy b r) (k : b.grownBy c r) : a.grownBy c r :=
  ⟨k.os.trans h.os, k.tape.trans h.tape, k.output.trans h.output, Nat.le_trans h.size k.size, fun i hi hne => (k.block i (Nat.lt_of_lt_of_le hi h.size) hne).trans (h.block i hi hne)⟩
theorem gr_below {a b : World} (h : Below a.heap.size a b) (r : Option Nat) : a.grownBy b r := ⟨h.os, h.tape, h.output, h.size, fun i hi _ => h.block i hi⟩
theorem gr_setRow (w : World) (g : Nat) (cs : Array Value) : w.grownBy (w.setRow g cs) (some g) := ⟨rfl, rfl, rfl, by simp, fun i hi hne => setRow_other _ _ _ _ (fun e => hne (by rw [e]))⟩

/-- Block g has these labels, and behind them what is left of its room. -/
def Blk (w : World) (g cap : Nat) (cur : List Sx) : Prop := ∃ rest : List Value, w.heap[g]? = some (.cells (flat cur ++ rest).toArray 52 (0, 0)) ∧ (flat cur ++ rest).length = cap * 4
theorem Blk.of_block {w w' : World} {g cap : Nat} {cur : List Sx} (h : Blk w g cap cur) (e : w'.heap[g]? = w.heap[g]?) : Blk w' g cap cur := by
  obtain ⟨r, h1, h2⟩ := h
  exact ⟨r, by rw [e]; exact h1, h2⟩
theorem Blk.lt {w : World} {g cap : Nat} {cur : List Sx} (h : Blk w g cap cur) : g < w.heap.size := by
  obtain ⟨r, h1, _⟩ := h
  exact (Array.getElem?_eq_some_iff.1 h1).1
theorem Blk.up {w w' : World} {g cap : Nat} {cur : List Sx} (h : Blk w g cap cur) (u : Below w.heap.size w w') : Blk w' g cap cur := h.of_block (u.block g h.lt)
theorem Blk.len {w : World} {g cap : Nat} {cur : List Sx} (h : Blk w g cap cur) : cur.length ≤ cap := by
  obtain ⟨r, _, h2⟩ := h
  rw [List.length_append, flat_len] at h2
  omega
theorem Blk.ofOwn {w : World} {B n g cap : Nat} {ls : List Sx} (h : w.ownsRow B 52 4 (.slice (some ⟨g, 0, none⟩) n cap) n (flat ls)) : Blk w g cap ls ∧ B ≤ g ∧ n ≤ cap ∧ cap ≤ maxLen := by
  rcases h.2 with ⟨h0, _⟩ | ⟨g', cap', cur, h0, a, b, c, d, e, f⟩
  · cases h0
  · simp only [Value.slice.injEq, Option.some.injEq, Addr.mk.injEq] at h0
    obtain ⟨⟨rfl, _, _⟩, _, rfl⟩ := h0
    refine ⟨⟨cur.toList.drop (n * 4), ?_, ?_⟩, a, c, d⟩
    · rw [b, ← f, List.take_append_drop]
    · rw [← f, List.take_append_drop]; simpa using e
theorem Blk.own {w : World} {B g cap : Nat} {cur : List Sx} (h : Blk w g cap cur) (hB : B ≤ g) (hc : cap ≤ maxLen) (i : Nat) (hi : i ≤ cur.length) : w.ownsRow B 52 4 (.slice (some ⟨g, 0, none⟩) i cap) i (flat (cur.take i)) := by
  have hl := h.len
  obtain ⟨r, h1, h2⟩ := h
  refine ⟨by rw [flat_len, List.length_take]; omega, .inr ⟨g, cap, _, rfl, hB, h1, by omega, hc, by simpa using h2, ?_⟩⟩
  have e : flat cur = flat (cur.take i) ++ flat (cur.drop i) := by rw [← flat_app, List.take_append_drop]
  simp only [e, List.append_assoc]
  rw [List.take_append_of_le_length (by rw [flat_len, List.length_take]; omega), List.take_of_length_le (by rw [flat_len, List.length_take]; omega)]
theorem Blk.cell {w : World} {g cap : Nat} {cur : List Sx} (h : Blk w g cap cur) {j : Nat} {x : Sx} (hj : cur[j]? = some x) :
    w.cell? ⟨g, j * 4, none⟩ = some (.int .u64 (x.1 : Nat)) ∧ w.cell? ⟨g, j * 4 + 1, none⟩ = some (.int .i64 x.2.1) ∧ w.cell? ⟨g, j * 4 + 2, none⟩ = some (.int .i64 x.2.2.1) ∧ w.cell? ⟨g, j * 4 + 3, none⟩ = some (.slice x.2.2.2.1 x.2.2.2.2.1 x.2.2.2.2.2) := by
  obtain ⟨r, h1, h2⟩ := h
  have hjl : j < cur.length := (List.getElem?_eq_some_iff.1 hj).1
  have key : ∀ i, i < 4 → w.cell? ⟨g, j * 4 + i, none⟩ = (cellsS x)[i]? := fun i hi => by
    unfold World.cell?
    rw [h1]
    simp only [List.getElem?_toArray]
    rw [List.getElem?_append_left (by rw [flat_len]; omega), show j * 4 + i = 4 * j + i by omega]
    exact flat_get cur j x i hj hi
  exact ⟨key 0 (by omega), key 1 (by omega), key 2 (by omega), key 3 (by omega)⟩
theorem flat_set (ls : List Sx) (i : Nat) (x : Sx) (hi : i < ls.length) : flat (ls.set i x) = (flat ls).take (i * 4) ++ cellsS x ++ (flat ls).drop (i * 4 + 4) := by
  obtain ⟨a, y, b, rfl, rfl⟩ : ∃ a y b, ls = a ++ y :: b ∧ i = a.length := ⟨ls.take i, ls[i], ls.drop (i + 1), by simp, by rw [List.length_take]; omega⟩
  have l1 := flat_len a
  have e : (a ++ y :: b).set a.length x = a ++ x :: b := by simp
  rw [e, flat_app, flat_cons, flat_app, flat_cons]
  rw [List.take_append_of_le_length (by omega), List.take_of_length_le (by omega), List.drop_append, List.drop_of_length_le (by omega), show a.length * 4 + 4 - (flat a).length = (cellsS y).length by simp [cellsS]; omega]
  simp
theorem Blk.set {w : World} {g cap : Nat} {cur : List Sx} (h : Blk w g cap cur) {i : Nat} (hi : i < cur.length) (x : Sx) :
    ∃ w', Sem.run Try.prog (storeCells ⟨g, i * 4, none⟩ [.int .u64 (x.1 : Nat), .int .i64 x.2.1, .int .i64 x.2.2.1, .slice x.2.2.2.1 x.2.2.2.2.1 x.2.2.2.2.2] 0) w = .ok () w' ∧ Blk w' g cap (cur.set i x) ∧ w.grownBy w' (some g) := by
  obtain ⟨r, h1, h2⟩ := h
  have hl := flat_len cur
  have hrun := run_storeCells_at (P := Try.prog) g (i * 4) 52 (cellsS x) 0 _ w h1 (by simp [cellsS]; omega) (by simp [cellsS, Value.oneCell'])
  refine ⟨_, hrun, ⟨r, ?_, ?_⟩, gr_setRow _ _ _⟩
  · rw [setRow_heap _ _ _ _ _ _ h1]
    congr 3
    rw [flat_set _ _ _ hi]
    have a1 : (flat cur ++ r).take (i * 4 + 0) = (flat cur).take (i * 4) := List.take_append_of_le_length (by omega)
    have a2 : (flat cur ++ r).drop (i * 4 + 0 + (cellsS x).length) = (flat cur).drop (i * 4 + 4) ++ r := by
      rw [show i * 4 + 0 + (cellsS x).length = i * 4 + 4 by simp [cellsS], List.drop_append_of_le_length (by omega)]
    rw [a1, a2]
    simp
  · rw [← h2, List.length_append, List.length_append, flat_len, flat_len, List.length_set]
theorem zero31 (w : World) : (zeroValue 52).run Try.prog w = .ok (.agg #[.int .u64 0, .int .i64 0, .int .i64 0, .slice none 0 0]) w := Try.zeroValue52 w
theorem und22 : Try.prog.underlying 26 = some (.slice 52) := by kernel_rfl
theorem zeroL (n : Nat) : (Builtin.zeroCells (Value.agg #[.int .u64 0, .int .i64 0, .int .i64 0, .slice none 0 0]).cells n).toList.length = n * 4 := by
  simp [Builtin.zeroCells, Value.cells]
/-- What stands from i on is cleared. -/
theorem Blk.clear {w : World} {g cap : Nat} {cur : List Sx} (h : Blk w g cap cur) {i n : Nat} (hi : i ≤ cur.length) (hn : n = cur.length - i) (c : Nat) (ty : TypeId) :
    ∃ w', Sem.run Try.prog (Builtin.clear_ #[26] ty #[.slice (some ⟨g, i * 4, none⟩) n c]) w = .ok (.tuple #[]) w' ∧ Blk w' g cap (cur.take i) ∧ w.grownBy w' (some g) := by
  by_cases h0 : n = 0
  · subst h0
    refine ⟨w, ?_, ?_, gr_refl _ _⟩
    · simp [Builtin.clear_, run_underlying und22]
    · rw [List.take_of_length_le (by omega)]; exact h
  · obtain ⟨m, rfl⟩ : ∃ m, n = m + 1 := ⟨n - 1, by omega⟩
    obtain ⟨r, h1, h2⟩ := h
    have hl := flat_len cur
    have hzl := zeroL (m + 1)
    have hone : ∀ v ∈ (Builtin.zeroCells (Value.agg #[.int .u64 0, .int .i64 0, .int .i64 0, .slice none 0 0]).cells (m + 1)).toList, v.oneCell' = true := by
      intro v hv
      simp only [Builtin.zeroCells, Value.cells, Array.toList_map, List.mem_map] at hv
      obtain ⟨k, _, rfl⟩ := hv
      have hk : k % 4 < 4 := Nat.mod_lt _ (by omega)
      have : k % 4 = 0 ∨ k % 4 = 1 ∨ k % 4 = 2 ∨ k % 4 = 3 := by omega
      rcases this with e | e | e | e <;> simp [e, Value.oneCell']
    have hrun := run_storeCells_at (P := Try.prog) g (i * 4) 52 _ 0 _ w h1 (by rw [hzl]; simp; omega) hone
    have hcl : ∀ w', Sem.run Try.prog (storeCells ⟨g, i * 4, none⟩ (Builtin.zeroCells (Value.agg #[.int .u64 0, .int .i64 0, .int .i64 0, .slice none 0 0]).cells (m + 1)).toList 0) w = .ok () w' → Sem.run Try.prog (Builtin.clear_ #[26] ty #[.slice (some ⟨g, i * 4, none⟩) (m + 1) c]) w = .ok (.tuple #[]) w' := fun w' hw => by
      simp [Builtin.clear_, run_underlying und22, hw]
    refine ⟨_, hcl _ hrun, ⟨(Builtin.zeroCells (Value.agg #[.int .u64 0, .int .i64 0, .int .i64 0, .slice none 0 0]).cells (m + 1)).toList ++ r, ?_, ?_⟩, gr_setRow _ _ _⟩
    · rw [setRow_heap _ _ _ _ _ _ h1]
      congr 3
      generalize (Builtin.zeroCells (Value.agg #[.int .u64 0, .int .i64 0, .int .i64 0, .slice none 0 0]).cells (m + 1)).toList = zs at *
      have e : flat cur = flat (cur.take i) ++ flat (cur.drop i) := by rw [← flat_app, List.take_append_drop]
      have l1 : (flat (cur.take i)).length = i * 4 := by rw [flat_len, List.length_take]; omega
      have l2 : (flat (cur.drop i)).length = (m + 1) * 4 := by rw [flat_len, List.length_drop]; omega
      have a1 : (flat cur ++ r).take (i * 4 + 0) = flat (cur.take i) := by
        rw [e, List.append_assoc, List.take_append_of_le_length (by omega), List.take_of_length_le (by omega)]
      have a2 : (flat cur ++ r).drop (i * 4 + 0 + zs.length) = r := by
        rw [List.drop_append, List.drop_of_length_le (by omega), show i * 4 + 0 + zs.length - (flat cur).length = 0 by omega]; simp
      rw [a1, a2]
      simp
    · rw [← h2, List.length_append, List.length_append, List.length_append, flat_len, flat_len, hzl, List.length_take]
      omega

theorem infoS31 : (Try.prog.info? 52).map (·.size) = some 4 := by kernel_rfl
theorem Blk.free {w : World} {g cap : Nat} {cur : List Sx} (h : Blk w g cap cur) (j : Nat) : w.frozen? ⟨g, j, none⟩ = false := by
  obtain ⟨r, h1, h2⟩ := h
  simp [World.frozen?, h1]
/-- A store of a thing of several cells, by its run. -/
theorem wpList_store_cells {P : Program} {ops : Array Oper} {rest : List Oper} {o : Oper} {a : Act} {w : World} {Q : Exit → Act → World → Prop} (hgd : o.guard = none) (ty : TypeId) (x y : Operand) (ho : o.op = .store ty x y)
    (ad : Addr) (cells : Array Value) (hx : a.eval x = .pointer (some ad)) (hy : a.eval y = .agg cells) (hi : (P.info? ty).map (·.size) = some cells.size)
    (w' : World) (hrun : (storeCells ad cells.toList 0).run P w = .ok () w') (h : wpList P ops Q rest (a.put o.dst undef) w') : wpList P ops Q (o :: rest) a w := by
  have hsv : (storeVar ty ad (.agg cells)).run P w = .ok () w' := by
    cases hq : P.info? ty with
    | none => simp [hq] at hi
    | some i =>
      have hs : cells.size = i.size := by simp [hq] at hi; omega
      simp [storeVar, sizeOf, typeInfo, hq, Value.cells, hs, hrun]
  refine wpList_plain hgd fun K hK => ?_
  unfold Oper.wp execOp
  simp only [ho, hx, hy, Instr.storeAt, Instr.sureAddr, Sem.run_bind, Sem.run_pure, Result.andThen_ok, hsv]
  exact hK _ _ h
theorem step_store_cells {P : Program} {ops : Array Oper} {o : Oper} {a : Act} {w : World} {K : Act → World → Prop} {Q : Exit → Act → World → Prop} {E : Prop} (hgd : o.guard = none) (ty : TypeId) (x y : Operand) (ho : o.op = .store ty x y)
    (ad : Addr) (cells : Array Value) (hx : a.eval x = .pointer (some ad)) (hy : a.eval y = .agg cells) (hi : (P.info? ty).map (·.size) = some cells.size)
    (w' : World) (hrun : (storeCells ad cells.toList 0).run P w = .ok () w') (h : K (a.put o.dst undef) w') : if Region.wanted o (yielded ops a.tmps) = true then Oper.wp P o a w K Q else E := by
  have hsv : (storeVar ty ad (.agg cells)).run P w = .ok () w' := by
    cases hq : P.info? ty with
    | none => simp [hq] at hi
    | some i =>
      have hs : cells.size = i.size := by simp [hq] at hi; omega
      simp [storeVar, sizeOf, typeInfo, hq, Value.cells, hs, hrun]
  have hw : Region.wanted o (yielded ops a.tmps) = true := by simp [Region.wanted, hgd]
  rw [if_pos hw]
  unfold Oper.wp execOp
  simp only [ho, hx, hy, Instr.storeAt, Instr.sureAddr, Sem.run_bind, Sem.run_pure, Result.andThen_ok, hsv]
  exact h
end Go.Proofs.Ytfemjbaadnjanaa
namespace Go.Proofs.Ytfemjbaadnjanaa
open Go.RowKit Go.Sort
set_option linter.unusedVariables false

/-- An item: whom it is from, and where its bytes lie. -/
abbrev Ix := Int × Option Addr × Nat × Nat
/-- .. and what it says. -/
abbrev Di := Int × List UInt8
/-- What is read in blocks of a kind is read as before. -/
def Kp (p : Nat → Prop) (w w' : World) : Prop := ∀ ad v, p ad.block → w.cell? ad = some v → w'.cell? ad = some v
theorem Kp.below {p : Nat → Prop} {w w' : World} {B : Nat} (h : Below B w w') (hp : ∀ b, p b → b < B) : Kp p w w' := fun ad v hb hc => (h.cell (hp _ hb)).trans hc
theorem Kp.up {p : Nat → Prop} {w w' : World} (h : Below w.heap.size w w') : Kp p w w' := fun ad v hb hc => (h.cell (World.block_lt_of_cell? w _ hc)).trans hc
theorem Kp.grown {p : Nat → Prop} {w w' : World} {g : Nat} (h : w.grownBy w' (some g)) (hp : ∀ b, p b → b ≠ g) : Kp p w w' := fun ad v hb hc => h.cell hc (by simpa using hp _ hb)
theorem Kp.trans {p : Nat → Prop} {a b c : World} (h : Kp p a b) (k : Kp p b c) : Kp p a c := fun ad v hb hc => k ad v hb (h ad v hb hc)
theorem Kp.imp {p q : Nat → Prop} {a b : World} (h : Kp q a b) (hpq : ∀ n, p n → q n) : Kp p a b := fun ad v hb hc => h ad v (hpq _ hb) hc

/-- Bytes that lie in memory. -/
def Rw (p : Nat → Prop) (w : World) (ao : Option Addr) (n : Nat) (xs : List UInt8) : Prop :=
  xs.length = n ∧ n ≤ 140737488355328 ∧ (ao = none → n = 0) ∧ (0 < n → ∃ b off, ao = some ⟨b, off, none⟩ ∧ p b ∧ ∀ j x, xs[j]? = some x → w.cell? ⟨b, off + j, none⟩ = some (.int .u8 (x.toNat : Int)))
theorem Rw.keep {p : Nat → Prop} {w w' : World} {ao : Option Addr} {n : Nat} {xs : List UInt8} (h : Rw p w ao n xs) (k : Kp p w w') : Rw p w' ao n xs := by
  obtain ⟨h1, h2, h3, h4⟩ := h
  refine ⟨h1, h2, h3, fun h0 => ?_⟩
  obtain ⟨b, off, e, hp, hc⟩ := h4 h0
  exact ⟨b, off, e, hp, fun j x hj => k _ _ hp (hc j x hj)⟩
theorem Rw.imp {p q : Nat → Prop} {w : World} {ao : Option Addr} {n : Nat} {xs : List UInt8} (h : Rw p w ao n xs) (k : ∀ b, b < w.heap.size → p b → q b) : Rw q w ao n xs := by
  obtain ⟨h1, h2, h3, h4⟩ := h
  refine ⟨h1, h2, h3, fun h0 => ?_⟩
  obtain ⟨b, off, e, hp, hc⟩ := h4 h0
  refine ⟨b, off, e, k b ?_ hp, hc⟩
  have := hc 0 xs[0] (List.getElem?_eq_getElem (by omega))
  exact World.block_lt_of_cell? w _ this
/-- Items that lie in memory. -/
def IR (p : Nat → Prop) (w : World) (ao : Option Addr) (n : Nat) (xs : List Ix) : Prop :=
  xs.length = n ∧ n ≤ 4398046511104 ∧ (ao = none → n = 0) ∧ (0 < n → ∃ b off, ao = some ⟨b, off, none⟩ ∧ p b ∧ ∀ j x, xs[j]? = some x → w.cell? ⟨b, off + j * 2, none⟩ = some (.int .i64 x.1) ∧ w.cell? ⟨b, off + j * 2 + 1, none⟩ = some (.slice x.2.1 x.2.2.1 x.2.2.2))
theorem IR.keep {p : Nat → Prop} {w w' : World} {ao : Option Addr} {n : Nat} {xs : List Ix} (h : IR p w ao n xs) (k : Kp p w w') : IR p w' ao n xs := by
  obtain ⟨h1, h2, h3, h4⟩ := h
  refine ⟨h1, h2, h3, fun h0 => ?_⟩
  obtain ⟨b, off, e, hp, hc⟩ := h4 h0
  exact ⟨b, off, e, hp, fun j x hj => ⟨k _ _ hp (hc j x hj).1, k _ _ hp (hc j x hj).2⟩⟩
theorem IR.imp {p q : Nat → Prop} {w : World} {ao : Option Addr} {n : Nat} {xs : List Ix} (h : IR p w ao n xs) (k : ∀ b, b < w.heap.size → p b → q b) : IR q w ao n xs := by
  obtain ⟨h1, h2, h3, h4⟩ := h
  refine ⟨h1, h2, h3, fun h0 => ?_⟩
  obtain ⟨b, off, e, hp, hc⟩ := h4 h0
  refine ⟨b, off, e, k b ?_ hp, hc⟩
  have := (hc 0 xs[0] (List.getElem?_eq_getElem (by omega))).1
  exact World.block_lt_of_cell? w _ this
def It (p : Nat → Prop) (w : World) (x : Ix) (d : Di) : Prop := x.1 = d.1 ∧ Rw p w x.2.1 x.2.2.1 d.2
theorem It.keep {p : Nat → Prop} {w w' : World} {x : Ix} {d : Di} (h : It p w x d) (k : Kp p w w') : It p w' x d := ⟨h.1, h.2.keep k⟩
theorem It.imp {p q : Nat → Prop} {w : World} {x : Ix} {d : Di} (h : It p w x d) (k : ∀ b, b < w.heap.size → p b → q b) : It q w x d := ⟨h.1, h.2.imp k⟩
/-- Items that lie in memory, and what they say. -/
def Its (p : Nat → Prop) (w : World) (ao : Option Addr) (n : Nat) (ds : List Di) : Prop := ∃ xs, IR p w ao n xs ∧ ds.length = n ∧ ∀ (j : Nat) (x : Ix) (d : Di), xs[j]? = some x → ds[j]? = some d → It p w x d
theorem Its.keep {p : Nat → Prop} {w w' : World} {ao : Option Addr} {n : Nat} {ds : List Di} (h : Its p w ao n ds) (k : Kp p w w') : Its p w' ao n ds := by
  obtain ⟨xs, h1, h2, h3⟩ := h
  exact ⟨xs, h1.keep k, h2, fun j x d hx hd => (h3 j x d hx hd).keep k⟩
theorem Its.imp {p q : Nat → Prop} {w : World} {ao : Option Addr} {n : Nat} {ds : List Di} (h : Its p w ao n ds) (k : ∀ b, b < w.heap.size → p b → q b) : Its q w ao n ds := by
  obtain ⟨xs, h1, h2, h3⟩ := h
  exact ⟨xs, h1.imp k, h2, fun j x d hx hd => (h3 j x d hx hd).imp k⟩
theorem Its.len {p : Nat → Prop} {w : World} {ao : Option Addr} {n : Nat} {ds : List Di} (h : Its p w ao n ds) : ds.length = n := by obtain ⟨xs, _, h2, _⟩ := h; exact h2

theorem own_cell {w : World} {B e size n g cap : Nat} {vs : List Value} (h : w.ownsRow B e size (.slice (some ⟨g, 0, none⟩) n cap) n vs) : ∀ j u, vs[j]? = some u → w.cell? ⟨g, j, none⟩ = some u := by
  intro j u hj
  rcases h.2 with ⟨h0, _⟩ | ⟨g', cap', cur, h0, a, b, c, d, e', f⟩
  · cases h0
  · simp only [Value.slice.injEq, Option.some.injEq, Addr.mk.injEq] at h0
    obtain ⟨⟨rfl, _, _⟩, _, rfl⟩ := h0
    unfold World.cell?
    rw [b]
    have : cur.toList[j]? = some u := by
      rw [← f, List.getElem?_take] at hj
      split at hj
      · exact hj
      · cases hj
    simpa using this
theorem own_shape {w : World} {B e size n : Nat} {v : Value} {vs : List Value} (h : w.ownsRow B e size v n vs) : v = .slice none 0 0 ∧ n = 0 ∨ ∃ g cap, v = .slice (some ⟨g, 0, none⟩) n cap ∧ B ≤ g ∧ g < w.heap.size := by
  rcases h.2 with ⟨rfl, rfl⟩ | ⟨g, cap, cur, rfl, a, b, _⟩
  · exact .inl ⟨rfl, rfl⟩
  · exact .inr ⟨g, cap, rfl, a, (Array.getElem?_eq_some_iff.1 b).1⟩

def cellB (xs : List UInt8) : List Value := xs.map (fun x => Value.int .u8 (x.toNat : Int))
theorem infoB : (Try.prog.info? 5).map (fun i => (i.zero, i.size, i.bytes)) = some (some (.int .u8 0), 1, 1) := by kernel_rfl
theorem und42 : Try.prog.underlying 33 = some (.slice 5) := by kernel_rfl
theorem und29 : Try.prog.underlying 28 = some (.slice 49) := by kernel_rfl
theorem Rw.cells {p : Nat → Prop} {w : World} {a : Addr} {n : Nat} {xs : List UInt8} (h : Rw p w (some a) n xs) : ∀ j u, (cellB xs)[j]? = some u → w.cell? (a.add j) = some u := by
  intro j u hj
  obtain ⟨h1, h2, h3, h4⟩ := h
  unfold cellB at hj
  rw [List.getElem?_map] at hj
  obtain ⟨x, hx, rfl⟩ := Option.map_eq_some_iff.1 hj
  have := (List.getElem?_eq_some_iff.1 hx).1
  obtain ⟨b, off, e, hp, hc⟩ := h4 (by omega)
  cases e
  rw [Addr.add_lit]
  exact hc j x hx
theorem Rw.own {w : World} {B n : Nat} {v : Value} {xs : List UInt8} (h : w.ownsRow B 5 1 v n (cellB xs)) (hm : n ≤ 140737488355328) : ∃ ao cap, v = .slice ao n cap ∧ Rw (fun b => B ≤ b) w ao n xs := by
  have hl : xs.length = n := by have := h.1; simp [cellB] at this; omega
  rcases own_shape h with ⟨rfl, rfl⟩ | ⟨g, cap, rfl, hg, _⟩
  · exact ⟨none, 0, rfl, hl, by omega, fun _ => rfl, fun h => by omega⟩
  · refine ⟨some ⟨g, 0, none⟩, cap, rfl, hl, hm, fun e => (by cases e), fun _ => ⟨g, 0, rfl, hg, fun j x hj => ?_⟩⟩
    rw [Nat.zero_add]
    refine own_cell h j _ ?_
    unfold cellB
    rw [List.getElem?_map, hj]
    rfl

def cellI (xs : List Ix) : List Value := xs.flatMap (fun x => [.int .i64 x.1, .slice x.2.1 x.2.2.1 x.2.2.2])
theorem cellI_len (xs : List Ix) : (cellI xs).length = xs.length * 2 := by
  induction xs with
  | nil => rfl
  | cons a r ih => simp [cellI] at ih ⊢; omega
theorem cellI_get : ∀ (xs : List Ix) (j : Nat) (x : Ix) (i : Nat), xs[j]? = some x → i < 2 → (cellI xs)[2 * j + i]? = [Value.int .i64 x.1, .slice x.2.1 x.2.2.1 x.2.2.2][i]?
  | [], j, x, i, h, hi => by simp at h
  | a :: r, 0, x, i, h, hi => by
    simp at h; subst h
    rw [show cellI (a :: r) = [Value.int .i64 a.1, .slice a.2.1 a.2.2.1 a.2.2.2] ++ cellI r from rfl, List.getElem?_append_left (by simp; omega)]; simp
  | a :: r, j + 1, x, i, h, hi => by
    rw [show cellI (a :: r) = [Value.int .i64 a.1, .slice a.2.1 a.2.2.1 a.2.2.2] ++ cellI r from rfl, List.getElem?_append_right (by simp; omega), show 2 * (j + 1) + i - [Value.int .i64 a.1, Value.slice a.2.1 a.2.2.1 a.2.2.2].length = 2 * j + i by simp; omega]
    exact cellI_get r j x i (by simpa using h) hi
theorem cellI_one {xs : List Ix} {u : Value} (h : u ∈ cellI xs) : u.oneCell' = true := by
  obtain ⟨x, _, hx⟩ := List.mem_flatMap.1 h
  simp at hx
  rcases hx with rfl | rfl <;> rfl
theorem infoI : (Try.prog.info? 49).map (fun i => (i.zero, i.size, i.bytes)) = some (some (.agg #[.int .i64 0, .slice none 0 0]), 2, 32) := by kernel_rfl
theorem IR.cells {p : Nat → Prop} {w : World} {a : Addr} {n : Nat} {xs : List Ix} (h : IR p w (some a) n xs) : ∀ j u, (cellI xs)[j]? = some u → w.cell? (a.add j) = some u := by
  intro j u hj
  obtain ⟨h1, h2, h3, h4⟩ := h
  have hjl : j < xs.length * 2 := by
    have := (List.getElem?_eq_some_iff.1 hj).1
    rwa [cellI_len] at this
  obtain ⟨b, off, e, hp, hc⟩ := h4 (by omega)
  cases e
  rw [Addr.add_lit]
  obtain ⟨x, hx⟩ : ∃ x, xs[j / 2]? = some x := ⟨xs[j / 2]'(by omega), List.getElem?_eq_getElem (by omega)⟩
  have hf := cellI_get xs (j / 2) x (j % 2) hx (by omega)
  rw [show 2 * (j / 2) + j % 2 = j by omega, hj] at hf
  obtain ⟨c0, c1⟩ := hc _ x hx
  have hm : j % 2 = 0 ∨ j % 2 = 1 := by omega
  rcases hm with e | e
  · rw [e] at hf; simp at hf; rw [hf, show off + j = off + j / 2 * 2 by omega]; exact c0
  · rw [e] at hf; simp at hf; rw [hf, show off + j = off + j / 2 * 2 + 1 by omega]; exact c1
theorem IR.own {w : World} {B n : Nat} {v : Value} {xs : List Ix} (h : w.ownsRow B 49 2 v n (cellI xs)) (hm : n ≤ 4398046511104) : (v = .slice none 0 0 ∧ n = 0) ∨ ∃ g cap, v = .slice (some ⟨g, 0, none⟩) n cap ∧ B ≤ g ∧ g < w.heap.size ∧ (∀ i, w.frozen? ⟨g, i, none⟩ = false) ∧ IR (fun b => b = g) w (some ⟨g, 0, none⟩) n xs := by
  have hl : xs.length = n := by have := h.1; rw [cellI_len] at this; omega
  rcases own_shape h with ⟨rfl, rfl⟩ | ⟨g, cap, rfl, hg, hg2⟩
  · exact .inl ⟨rfl, rfl⟩
  · refine .inr ⟨g, cap, rfl, hg, hg2, fun i => ?_, hl, hm, fun e => (by cases e), fun _ => ⟨g, 0, rfl, rfl, fun j x hj => ⟨?_, ?_⟩⟩⟩
    · rcases h.2 with ⟨h0, _⟩ | ⟨g', cap', cur, h0, a, b, _⟩
      · cases h0
      · simp only [Value.slice.injEq, Option.some.injEq, Addr.mk.injEq] at h0
        obtain ⟨⟨rfl, _, _⟩, _, rfl⟩ := h0
        simp [World.frozen?, b]
    · rw [Nat.zero_add]
      refine own_cell h _ _ ?_
      have := cellI_get xs j x 0 hj (by omega)
      rw [show 2 * j + 0 = j * 2 by omega] at this
      exact this
    · rw [Nat.zero_add]
      refine own_cell h _ _ ?_
      have := cellI_get xs j x 1 hj (by omega)
      rw [show 2 * j + 1 = j * 2 + 1 by omega] at this
      exact this

end Go.Proofs.Ytfemjbaadnjanaa
namespace Go.Proofs.Ytfemjbaadnjanaa
open Go.RowKit
set_option linter.unusedVariables false

def vid (n : Nat) (p : Int) : Value := .agg #[.int .u64 (n : Nat), .int .i64 p]

end Go.Proofs.Ytfemjbaadnjanaa
namespace Go.Proofs.Ytfemjbaadnjanaa
open Go.RowKit Go.Sort
set_option linter.unusedVariables false

def sta (x : Sx) : Value := .agg #[.int .u64 (x.1 : Nat), .int .i64 x.2.1, .int .i64 x.2.2.1, .slice x.2.2.2.1 x.2.2.2.2.1 x.2.2.2.2.2]
/-- How many messages a state has. -/
def endS (x : Sx) : Int := x.2.2.1 + (x.2.2.2.2.1 : Nat)
/-- A floor and a length that are not too far. -/
def OkS (x : Sx) : Prop := 0 ≤ x.2.2.1 ∧ x.2.2.1 ≤ 1099511627776 ∧ x.2.2.2.2.1 ≤ 281474976710656
set_option maxRecDepth 10000 in
theorem end_any (w : World) (x : Sx) (hx : OkS x) : Calls Try.prog 89 #[sta x] w fun e w' => e = .returned (.int .i64 (endS x)) ∧ Up w w' := by
  obtain ⟨h1, h2, h3⟩ := hx
  obtain ⟨n, p, f, ao, l, c⟩ := x
  unfold sta endS
  simp only at *
  have hr : -9223372036854775808 ≤ f + (l : Int) ∧ f + (l : Int) ≤ 9223372036854775807 := by omega
  go_enter Try.func89, Try.ntmps89
  go_wp2
  go_ret
  exact ⟨rfl, (Up.refl _).alloc _⟩

/-- A state in a block. -/
def Bs (B : Nat) (x : Sx) (wx : World) : Prop :=
  wx.cell? ⟨B, 0, none⟩ = some (.int .u64 (x.1 : Nat)) ∧ wx.cell? ⟨B, 1, none⟩ = some (.int .i64 x.2.1) ∧ wx.cell? ⟨B, 2, none⟩ = some (.int .i64 x.2.2.1) ∧ wx.cell? ⟨B, 3, none⟩ = some (.slice x.2.2.2.1 x.2.2.2.2.1 x.2.2.2.2.2)
theorem Bs.up {B : Nat} {x : Sx} {w w' : World} (h : Bs B x w) (hb : Up w w') : Bs B x w' := ⟨hb.cell h.1, hb.cell h.2.1, hb.cell h.2.2.1, hb.cell h.2.2.2⟩
theorem bs_new (w : World) (x : Sx) (t : TypeId) : Bs w.heap.size x (w.alloc (.cells #[.int .u64 (x.1 : Nat), .int .i64 x.2.1, .int .i64 x.2.2.1, .slice x.2.2.2.1 x.2.2.2.2.1 x.2.2.2.2.2] t)) :=
  ⟨cell_box w _ t 0 _ rfl, cell_box w _ t 1 _ rfl, cell_box w _ t 2 _ rfl, cell_box w _ t 3 _ rfl⟩

end Go.Proofs.Ytfemjbaadnjanaa
namespace Go.Proofs.Ytfemjbaadnjanaa
open Go.RowKit Go.Sort
set_option linter.unusedVariables false

/-- A list of states that lies in memory. -/
def SR (p : Nat → Prop) (w : World) (ao : Option Addr) (n : Nat) (ss : List Sx) : Prop :=
  ss.length = n ∧ n ≤ 9223372036854775807 ∧ (ao = none → n = 0) ∧ (0 < n → ∃ b off, ao = some ⟨b, off, none⟩ ∧ p b ∧ ∀ j x, ss[j]? = some x →
    w.cell? ⟨b, off + j * 4, none⟩ = some (.int .u64 (x.1 : Nat)) ∧ w.cell? ⟨b, off + j * 4 + 1, none⟩ = some (.int .i64 x.2.1) ∧ w.cell? ⟨b, off + j * 4 + 2, none⟩ = some (.int .i64 x.2.2.1) ∧ w.cell? ⟨b, off + j * 4 + 3, none⟩ = some (.slice x.2.2.2.1 x.2.2.2.2.1 x.2.2.2.2.2))
theorem SR.keep {p : Nat → Prop} {w w' : World} {ao : Option Addr} {n : Nat} {ss : List Sx} (h : SR p w ao n ss) (k : Kp p w w') : SR p w' ao n ss := by
  obtain ⟨h1, h2, h3, h4⟩ := h
  refine ⟨h1, h2, h3, fun h0 => ?_⟩
  obtain ⟨b, off, e, hp, hc⟩ := h4 h0
  exact ⟨b, off, e, hp, fun j x hj => ⟨k _ _ hp (hc j x hj).1, k _ _ hp (hc j x hj).2.1, k _ _ hp (hc j x hj).2.2.1, k _ _ hp (hc j x hj).2.2.2⟩⟩
theorem SR.up {p : Nat → Prop} {w w' : World} {ao : Option Addr} {n : Nat} {ss : List Sx} (h : SR p w ao n ss) (u : Below w.heap.size w w') : SR p w' ao n ss := h.keep (Kp.up u)
theorem SR.imp {p q : Nat → Prop} {w : World} {ao : Option Addr} {n : Nat} {ss : List Sx} (h : SR p w ao n ss) (k : ∀ b, b < w.heap.size → p b → q b) : SR q w ao n ss := by
  obtain ⟨h1, h2, h3, h4⟩ := h
  refine ⟨h1, h2, h3, fun h0 => ?_⟩
  obtain ⟨b, off, e, hp, hc⟩ := h4 h0
  refine ⟨b, off, e, k b ?_ hp, hc⟩
  have := (hc 0 ss[0] (List.getElem?_eq_getElem (by omega))).1
  exact World.block_lt_of_cell? w _ this
theorem SR.own {w : World} {B n : Nat} {v : Value} {ss : List Sx} (h : w.ownsRow B 52 4 v n (flat ss)) : ∃ ao cap, v = .slice ao n cap ∧ SR (fun b => some b = v.ownBlock ∧ B ≤ b) w ao n ss ∧ n ≤ cap ∧ cap ≤ 9223372036854775807 := by
  have hl : ss.length = n := by have := h.1; rw [flat_len] at this; omega
  rcases h.2 with ⟨rfl, rfl⟩ | ⟨g, cap, cur, rfl, hg, hh, hnc, hcm, hcs, htk⟩
  · exact ⟨_, _, rfl, ⟨hl, by omega, fun _ => rfl, fun h => by omega⟩, by omega, by omega⟩
  · have hcm' : cap ≤ 9223372036854775807 := by unfold maxLen at hcm; omega
    refine ⟨_, _, rfl, ⟨hl, by omega, fun e => (by cases e), fun h0 => ⟨g, 0, rfl, ⟨rfl, hg⟩, fun j x hj => ?_⟩⟩, hnc, hcm'⟩
    have key : ∀ i, i < 4 → w.cell? ⟨g, 0 + j * 4 + i, none⟩ = (cellsS x)[i]? := fun i hi => by
      rw [Nat.zero_add]
      have hf := flat_get ss j x i hj hi
      have hu : (cellsS x)[i]? = some ((cellsS x)[i]'(by simp [cellsS]; omega)) := List.getElem?_eq_getElem _
      rw [hu] at hf ⊢
      rw [show j * 4 + i = 4 * j + i by omega]
      exact own_cell h _ _ hf
    exact ⟨key 0 (by omega), key 1 (by omega), key 2 (by omega), key 3 (by omega)⟩
theorem SR.cells {p : Nat → Prop} {w : World} {a : Addr} {n : Nat} {ss : List Sx} (h : SR p w (some a) n ss) : ∀ j u, (flat ss)[j]? = some u → w.cell? (a.add j) = some u := by
  intro j u hj
  obtain ⟨hl, _, _, hc⟩ := h
  have hjl : j < ss.length * 4 := by
    have := (List.getElem?_eq_some_iff.1 hj).1
    rwa [flat_len] at this
  obtain ⟨b, off, e, hp, hcell⟩ := hc (by omega)
  cases e
  rw [Addr.add_lit]
  obtain ⟨x, hx⟩ : ∃ x, ss[j / 4]? = some x := ⟨ss[j / 4]'(by omega), List.getElem?_eq_getElem (by omega)⟩
  have hf := flat_get ss (j / 4) x (j % 4) hx (by omega)
  rw [show 4 * (j / 4) + j % 4 = j by omega, hj] at hf
  obtain ⟨c0, c1, c2, c3⟩ := hcell _ x hx
  have hm : j % 4 = 0 ∨ j % 4 = 1 ∨ j % 4 = 2 ∨ j % 4 = 3 := by omega
  rcases hm with e | e | e | e
  · rw [e] at hf; simp [cellsS] at hf; rw [hf, show off + j = off + j / 4 * 4 by omega]; exact c0
  · rw [e] at hf; simp [cellsS] at hf; rw [hf, show off + j = off + j / 4 * 4 + 1 by omega]; exact c1
  · rw [e] at hf; simp [cellsS] at hf; rw [hf, show off + j = off + j / 4 * 4 + 2 by omega]; exact c2
  · rw [e] at hf; simp [cellsS] at hf; rw [hf, show off + j = off + j / 4 * 4 + 3 by omega]; exact c3

/-- States that lie in memory, and what their items say. -/
def Sts (p : Nat → Prop) (w : World) (ao : Option Addr) (n : Nat) (ss : List Sx) (es : List (List Di)) : Prop :=
  SR p w ao n ss ∧ es.length = n ∧ ∀ (j : Nat) (x : Sx) (e : List Di), ss[j]? = some x → es[j]? = some e → Its p w x.2.2.2.1 x.2.2.2.2.1 e
theorem Sts.keep {p : Nat → Prop} {w w' : World} {ao : Option Addr} {n : Nat} {ss : List Sx} {es : List (List Di)} (h : Sts p w ao n ss es) (k : Kp p w w') : Sts p w' ao n ss es :=
  ⟨h.1.keep k, h.2.1, fun j x e hx he => (h.2.2 j x e hx he).keep k⟩
theorem Sts.up {p : Nat → Prop} {w w' : World} {ao : Option Addr} {n : Nat} {ss : List Sx} {es : List (List Di)} (h : Sts p w ao n ss es) (u : Below w.heap.size w w') : Sts p w' ao n ss es := h.keep (Kp.up u)
theorem Sts.imp {p q : Nat → Prop} {w : World} {ao : Option Addr} {n : Nat} {ss : List Sx} {es : List (List Di)} (h : Sts p w ao n ss es) (k : ∀ b, b < w.heap.size → p b → q b) : Sts q w ao n ss es :=
  ⟨h.1.imp k, h.2.1, fun j x e hx he => (h.2.2 j x e hx he).imp k⟩

theorem cells28 : Try.prog.cellsOf 24 = 2 := by kernel_rfl
theorem vid_equalIn (d : Nat) (n1 : Nat) (p1 : Int) (n2 : Nat) (p2 : Int) (w : World) : Sem.run Try.prog (Op.equalIn (d + 2) 24 (.agg #[.int .u64 (n1 : Nat), .int .i64 p1]) (.agg #[.int .u64 (n2 : Nat), .int .i64 p2])) w = .ok (decide (n1 = n2 ∧ p1 = p2)) w := by
  have u3 := Try.underlying3
  have a3 := Try.isAgg3
  have z3 := Try.sizeOf3
  have u26 := Try.underlying22
  have a26 := Try.isAgg22
  have z26 := Try.sizeOf22
  rw [run_equalIn_agg w (d + 1) 24 _ _ (by kernel_rfl) (by kernel_rfl)]
  simp only [Program.fieldsOf, Try.underlying24]
  go_simp
  by_cases h1 : n1 = n2
  · by_cases h2 : p1 = p2 <;> simp [h1, h2]
  · have : ¬ ((n1 : Int) = n2) := by omega
    simp [h1, this]
theorem vid_equal (n1 : Nat) (p1 : Int) (n2 : Nat) (p2 : Int) (w : World) : Sem.run Try.prog (Op.equalIn 10000 24 (.agg #[.int .u64 (n1 : Nat), .int .i64 p1]) (.agg #[.int .u64 (n2 : Nat), .int .i64 p2])) w = .ok (decide (n1 = n2 ∧ p1 = p2)) w := vid_equalIn 9998 n1 p1 n2 p2 w

theorem isNone_any (w : World) (n : Nat) (p : Int) : Calls Try.prog 88 #[vid n p] w fun e w' => e = .returned (.bool (decide (n = 0))) ∧ Up w w' := by
  unfold vid
  have h : ((n : Int) == 0) = decide (n = 0) := by
    by_cases e : n = 0
    · subst e; rfl
    · simp [e]
  generalize hd : decide (n = 0) = r at *
  clear hd
  go_enter Try.func88, Try.ntmps88
  go_wp2
  go_ret
  exact ⟨rfl, (Up.refl _).alloc _⟩
end Go.Proofs.Ytfemjbaadnjanaa
namespace Go.Proofs.Ytfemjbaadnjanaa
open Go.RowKit Go.Sort
set_option linter.unusedVariables false

/-- Is a view's number right? -/
def formV (n : Nat) (p : Int) : Bool := decide (0 ≤ p) && decide (p ≤ if n = 0 then 0 else 15)
end Go.Proofs.Ytfemjbaadnjanaa
namespace Go.Proofs.Ytfemjbaadnjanaa
open Go.RowKit Go.Sort
set_option linter.unusedVariables false
set_option linter.unusedSimpArgs false

set_option maxRecDepth 10000 in
theorem refForm_any (w : World) (n : Nat) (p : Int) : Calls Try.prog 22 #[vid n p] w fun e w' => e = .returned (.bool (formV n p)) ∧ Up w w' := by
  unfold formV vid
  by_cases h0 : n = 0
  · subst h0
    have e : (decide (0 ≤ p) && decide (p ≤ if (0 : Nat) = 0 then 0 else 15)) = (p == 0) := by
      rw [Bool.eq_iff_iff]; simp; omega
    rw [e]
    clear e
    go_enter Try.func22, Try.ntmps22
    go_wp2
    go_ret
    exact ⟨rfl, (Up.refl _).alloc _⟩
  · rw [if_neg h0]
    have hI : ((n : Int) == 0) = false := by simp; omega
    by_cases h1 : 0 ≤ p
    · rw [show decide (0 ≤ p) = true by simpa using h1]
      go_enter Try.func22, Try.ntmps22
      go_wp2
      go_ret
      exact ⟨ret_bool (by simp), (Up.refl _).alloc _⟩
    · rw [show decide (0 ≤ p) = false by simpa using h1]
      go_enter Try.func22, Try.ntmps22
      go_wp2
      go_ret
      exact ⟨ret_bool (by simp), (Up.refl _).alloc _⟩

theorem great_any (w : World) (n : Nat) : Calls Try.prog 84 #[.int .u64 (n : Nat)] w fun e w' => e = .returned (.int .i64 (if n = 0 then 0 else 15)) ∧ w = w' := by
  by_cases h0 : n = 0
  · subst h0
    go_enter Try.func84, Try.ntmps84
    go_wp2
    go_ret
    exact ⟨rfl, rfl⟩
  · rw [if_neg h0]
    have hI : ((n : Int) == 0) = false := by simp; omega
    go_enter Try.func84, Try.ntmps84
    go_wp2
    go_ret
    exact ⟨rfl, rfl⟩

set_option maxRecDepth 10000 in
theorem form_any (w : World) (n : Nat) (p : Int) : Calls Try.prog 70 #[vid n p] w fun e w' => e = .returned (.bool (formV n p)) ∧ Up w w' := by
  have hg := fun W => great_any W n
  unfold formV vid
  generalize (if n = 0 then (0 : Int) else 15) = g at *
  by_cases h1 : 0 ≤ p
  · have hd : decide (0 ≤ p) = true := by simpa using h1
    rw [hd]
    have hgs := fun W => (hg W).mono (fun e w' ⟨a, b⟩ => (⟨a, b.symm⟩ : e = _ ∧ w' = W))
    go_enter Try.func70, Try.ntmps70
    go_wp2_with fail
    go_quiet (first | (go_at_call 84; refine Calls.quiet_of_same (hgs _)))
    go_wp2
    go_ret
    exact ⟨ret_bool (by simp), ((Up.refl _).alloc _).drewN _⟩
  · have hd : decide (0 ≤ p) = false := by simpa using h1
    rw [hd]
    have hgs := fun W => (hg W).mono (fun e w' ⟨a, b⟩ => (⟨a, b.symm⟩ : e = _ ∧ w' = W))
    go_enter Try.func70, Try.ntmps70
    go_wp2_with fail
    go_quiet (first | (go_at_call 84; refine Calls.quiet_of_same (hgs _)))
    go_wp2
    go_ret
    exact ⟨ret_bool (by simp), ((Up.refl _).alloc _).drewN _⟩


/-- Whom an item is from. -/
def okF (f : Int) : Bool := decide (0 ≤ f) && decide (f ≤ 15)
theorem form1_any (w : World) (x : Ix) : Calls Try.prog 90 #[.agg #[.int .i64 x.1, .slice x.2.1 x.2.2.1 x.2.2.2]] w fun e w' => e = .returned (.bool (!okF x.1)) ∧ Up w w' := by
  obtain ⟨r, HR⟩ : ∃ r, Hid ((!okF x.1) = r) := ⟨_, rfl⟩
  rw [HR.out]
  by_cases h0 : x.1 < 0
  · have hr : r = true := by rw [← HR.out]; simp [okF]; omega
    subst hr
    go_enter Try.func90, Try.ntmps90
    go_wp2
    go_ret
    exact ⟨rfl, (Up.refl _).alloc _⟩
  · by_cases h1 : 16 ≤ x.1
    · have hr : r = true := by rw [← HR.out]; simp [okF]; omega
      subst hr
      go_enter Try.func90, Try.ntmps90
      go_wp2
      go_ret
      exact ⟨ret_bool (by simp [h1]), (Up.refl _).alloc _⟩
    · have hr : r = false := by rw [← HR.out]; simp [okF]; omega
      subst hr
      go_enter Try.func90, Try.ntmps90
      go_wp2
      go_ret
      exact ⟨ret_bool (by simp [h1]), (Up.refl _).alloc _⟩

set_option maxRecDepth 10000 in
set_option maxHeartbeats 1000000 in
theorem index_item (p : Nat → Prop) (w : World) (ao : Option Addr) (n cap : Nat) (xs : List Ix) (h : IR p w ao n xs) :
    Calls Try.prog 92 #[.slice ao n cap, .func (.func 90) #[] #[]] w fun e w' => (if xs.all (fun x => okF x.1) = true then e = .returned (.int .i64 (-1)) else ∃ i : Nat, e = .returned (.int .i64 (i : Nat))) ∧ Up w w' := by
  have hl := h.1
  have hmax := h.2.1
  have HX : Hid (∀ (k : Nat) (x : Ix), xs[k]? = some x → okF x.1 = false → xs.all (fun x => okF x.1) = false) := fun k x hx hf => by
    rw [List.all_eq_false]
    exact ⟨x, List.mem_of_getElem? hx, by rw [hf]; simp⟩
  have HA : Hid ((∀ x ∈ xs, okF x.1 = true) → xs.all (fun x => okF x.1) = true) := fun h => List.all_eq_true.2 h
  obtain ⟨r, hr⟩ : ∃ r, xs.all (fun x => okF x.1) = r := ⟨_, rfl⟩
  rw [hr] at HX HA ⊢
  clear hr
  go_enter Try.func92, Try.ntmps92
  go_wp2_with fail
  go_loopw [5, 8] (fun _ iv wr => ∃ k : Nat, k ≤ n ∧ iv = .int .i64 k ∧ (∀ x ∈ xs.take k, okF x.1 = true) ∧ Up w wr) (fun _ iv _ => n - (intOf iv).toNat)
  case atStart => exact ⟨0, by omega, rfl, by simp, Up.refl _⟩
  case round =>
    obtain ⟨k, hk, rfl, hno, hu⟩ := hrel
    have HN : Hid (∀ x ∈ xs.take k, okF x.1 = true) := hno
    clear hno
    by_cases hlt : k < n
    · have hltI : (k : Int) < (n : Int) := by omega
      obtain ⟨y, hy⟩ : ∃ y, xs[k]? = some y := ⟨xs[k]'(by omega), List.getElem?_eq_getElem (by omega)⟩
      obtain ⟨b, off, hao, _, hc⟩ := (h.keep (Kp.up hu.bl)).2.2.2 (by omega)
      obtain ⟨c0, c1⟩ := hc k y hy
      have HY : Hid (xs[k]? = some y) := hy
      have hcl := form1_any wr y
      subst hao
      clear hc hy h
      have hk0 : ¬ ((k : Int) < 0) := by omega
      cases hd : okF y.1 with
      | false =>
        rw [hd] at hcl
        have hr := HX.out k y HY.out hd
        subst hr
        clear hd HX HA
        go_wp2_with fail
        refine hcl.mono ?_
        rintro e w1 ⟨rfl, hb1⟩
        have hu1 := hu.trans hb1
        clear hcl c0 c1 hb1
        go_wp2
        go_ret
        (try simp only [Bool.false_eq_true, if_false])
        exact ⟨⟨k, rfl⟩, hu1⟩
      | true =>
        rw [hd] at hcl
        have HN' : Hid (∀ x ∈ xs.take (k + 1), okF x.1 = true) := by
          intro x hx
          rw [List.take_add_one, HY.out] at hx
          simp only [Option.toList_some, List.mem_append, List.mem_singleton] at hx
          rcases hx with hx | rfl
          · exact HN.out x hx
          · exact hd
        clear hd HX HA
        go_wp2_with fail
        refine hcl.mono ?_
        rintro e w1 ⟨rfl, hb1⟩
        have hu1 := hu.trans hb1
        clear hcl c0 c1 hb1
        go_wp2
        go_roundw
        case rel => first | exact ⟨k + 1, by omega, by go_num, HN'.out, hu1⟩ | ((repeat apply Exists.intro); exact ⟨⟨k + 1, by omega, by go_num, HN'.out, hu1⟩, rfl⟩)
        case measure => simp [intOf]; omega
    · obtain rfl : k = n := by omega
      have hr := HA.out (by have := HN.out; rwa [List.take_of_length_le (by omega)] at this)
      subst hr
      clear h HX HA
      go_wp2
      go_ret
      (try simp only [if_true])
      exact ⟨rfl, hu⟩
theorem contains_any (p : Nat → Prop) (w : World) (ao : Option Addr) (n cap : Nat) (xs : List Ix) (h : IR p w ao n xs) :
    Calls Try.prog 85 #[.slice ao n cap, .func (.func 90) #[] #[]] w fun e w' => e = .returned (.bool (!xs.all (fun x => okF x.1))) ∧ Up w w' := by
  have hix := index_item p w ao n cap xs h
  clear h
  cases hr : xs.all (fun x => okF x.1) with
  | true =>
    rw [hr] at hix
    simp only [if_true] at hix
    clear hr
    go_enter Try.func85, Try.ntmps85
    go_wp2_with fail
    refine hix.mono ?_
    rintro e w1 ⟨rfl, hu⟩
    clear hix
    go_wp2
    go_ret
    exact ⟨ret_bool (by simp), hu⟩
  | false =>
    rw [hr] at hix
    simp only [Bool.false_eq_true, if_false] at hix
    clear hr
    go_enter Try.func85, Try.ntmps85
    go_wp2_with fail
    refine hix.mono ?_
    rintro e w1 ⟨⟨i, rfl⟩, hu⟩
    have hi : ¬ ((i : Int) < 0) := by omega
    clear hix
    go_wp2
    go_ret
    exact ⟨ret_bool (by simp), hu⟩

/-- Is a state right whose floor is not too far? -/
def formD (x : Sx) (xs : List Ix) : Bool := formV x.1 x.2.1 && (decide (0 < x.1) || (decide (x.2.2.1 = 0) && decide (x.2.2.2.2.1 = 0))) && xs.all (fun y => okF y.1)

set_option maxRecDepth 10000 in
set_option maxHeartbeats 2000000 in
theorem cutForm_any (p : Nat → Prop) (w : World) (x : Sx) (xs : List Ix) (h : IR p w x.2.2.2.1 x.2.2.2.2.1 xs) (hf : 0 ≤ x.2.2.1 ∧ x.2.2.1 ≤ 1073741824) (hx : OkS x) :
    Calls Try.prog 74 #[sta x] w fun e w' => e = .returned (.bool (formD x xs)) ∧ Up w w' := by
  have hfo := fun W => form_any W x.1 x.2.1
  have hno := fun W => isNone_any W x.1 x.2.1
  have hen := fun W => end_any W x hx
  unfold vid at hfo hno
  unfold sta at *
  obtain ⟨w0, hw0⟩ : ∃ w0, w.alloc (.cells #[.int .u64 (x.1 : Nat), .int .i64 x.2.1, .int .i64 x.2.2.1, .slice x.2.2.2.1 x.2.2.2.2.1 x.2.2.2.2.2] 52) = w0 := ⟨_, rfl⟩
  have hu0 : Up w w0 := by rw [← hw0]; exact (Up.refl _).alloc _
  have hb0 : Bs w.heap.size x w0 := by rw [← hw0]; exact bs_new w x 52
  obtain ⟨r, HR⟩ : ∃ r, Hid (formD x xs = r) := ⟨_, rfl⟩
  rw [HR.out]
  have HI : Hid (IR p w x.2.2.2.1 x.2.2.2.2.1 xs) := h
  obtain ⟨hf0, hf1⟩ := hf
  have hf0' : ¬ (x.2.2.1 < 0) := by omega
  have hf1' : ¬ (1073741824 < x.2.2.1) := by omega
  have hes : endS x = x.2.2.1 + (x.2.2.2.2.1 : Nat) := rfl
  obtain ⟨z0, z1, z2, z3⟩ := hb0
  have hb0 : Bs w.heap.size x w0 := ⟨z0, z1, z2, z3⟩
  clear h hx
  cases hv : formV x.1 x.2.1 with
  | false =>
    have hr : r = false := by rw [← HR.out, formD, hv]; rfl
    subst hr
    simp only [hv] at hfo
    clear hv hen hno HR HI hes
    go_enter Try.func74, Try.ntmps74
    go_wp2_with fail
    (try simp only [hw0])
    refine (hfo _).mono ?_
    rintro e w1 ⟨rfl, hu1⟩
    have hu01 := hu0.trans hu1
    clear hfo hu1 hb0 hu0 hw0 z0 z1 z2 z3
    go_wp2
    go_ret
    exact ⟨rfl, hu01⟩
  | true =>
    simp only [hv] at hfo
    go_enter Try.func74, Try.ntmps74
    go_wp2_with fail
    (try simp only [hw0])
    refine (hfo _).mono ?_
    rintro e w1 ⟨rfl, hu1⟩
    have hu01 := hu0.trans hu1
    obtain ⟨c0, c1, c2, c3⟩ := hb0.up hu1
    have HB1 : Hid (Bs w.heap.size x w1) := ⟨c0, c1, c2, c3⟩
    clear hfo hu1 hb0 hu0 hw0 z0 z1 z2 z3
    cases hn : decide (x.1 = 0) with
    | false =>
      simp only [hn] at hno
      have hn9 : ¬ x.1 = 0 := by simpa using hn
      have hn0 : 0 < x.1 := by omega
      clear hn9
      have hr : r = xs.all (fun y => okF y.1) := by rw [← HR.out, formD, hv, decide_eq_true hn0]; simp
      go_wp2_with fail
      refine (hno _).mono ?_
      rintro e w2 ⟨rfl, hu2⟩
      have hu02 := hu01.trans hu2
      obtain ⟨c0, c1, c2, c3⟩ := HB1.out.up hu2
      have hco := contains_any p w2 x.2.2.2.1 x.2.2.2.2.1 x.2.2.2.2.2 xs (HI.out.keep (Kp.up hu02.bl))
      rw [← hr] at hco
      clear hno hu2 hu01 hr hen HR HI hv hn hn0
      go_wp2_with fail
      refine hco.mono ?_
      rintro e w3 ⟨rfl, hu3⟩
      have hu03 := hu02.trans hu3
      clear hco hu3 hu02
      go_wp2
      go_ret
      exact ⟨ret_bool (by simp), hu03⟩
    | true =>
      simp only [hn] at hno
      have hn0 : x.1 = 0 := by simpa using hn
      have HN0 : Hid (x.1 = 0) := hn0
      clear hn hn0
      go_wp2_with fail
      refine (hno _).mono ?_
      rintro e w2 ⟨rfl, hu2⟩
      have hu02 := hu01.trans hu2
      have HB2 : Hid (Bs w.heap.size x w2) := HB1.out.up hu2
      obtain ⟨c0, c1, c2, c3⟩ := HB2.out
      obtain ⟨en, hen0⟩ : ∃ en, endS x = en := ⟨_, rfl⟩
      simp only [hen0] at hen
      rw [hen0] at hes
      clear hno hu2 hu01
      by_cases he : 0 < en
      · have hr : r = false := by
          rw [← HR.out, formD, hv]
          have h1 : decide (0 < x.1) = false := by have := HN0.out; simp [this]
          have h2 : (decide (x.2.2.1 = 0) && decide (x.2.2.2.2.1 = 0)) = false := by
            by_cases h3 : x.2.2.1 = 0
            · have : ¬ x.2.2.2.2.1 = 0 := by omega
              simp [this]
            · simp [h3]
          rw [h1, h2]; rfl
        subst hr
        clear HR HI hv hes
        go_wp2_with fail
        refine (hen _).mono ?_
        rintro e w3 ⟨rfl, hu3⟩
        have hu03 := hu02.trans hu3
        clear hen hu3 hu02
        go_wp2
        go_ret
        exact ⟨rfl, hu03⟩
      · have hr : r = xs.all (fun y => okF y.1) := by
          rw [← HR.out, formD, hv]
          have h2 : decide (x.2.2.1 = 0) = true := by simp; omega
          have h3 : decide (x.2.2.2.2.1 = 0) = true := by simp; omega
          rw [h2, h3]; simp
        go_wp2_with fail
        refine (hen _).mono ?_
        rintro e w3 ⟨rfl, hu3⟩
        have hu03 := hu02.trans hu3
        obtain ⟨c0, c1, c2, c3⟩ := HB2.out.up hu3
        have hco := contains_any p w3 x.2.2.2.1 x.2.2.2.2.1 x.2.2.2.2.2 xs (HI.out.keep (Kp.up hu03.bl))
        rw [← hr] at hco
        clear hen hu3 hu02 hr HR HI hv hes HB2
        go_wp2_with fail
        refine hco.mono ?_
        rintro e w4 ⟨rfl, hu4⟩
        have hu04 := hu03.trans hu4
        clear hco hu4 hu03
        go_wp2
        go_ret
        exact ⟨ret_bool (by simp), hu04⟩

set_option maxRecDepth 10000 in
set_option maxHeartbeats 2000000 in
theorem refForm6_any (p : Nat → Prop) (w : World) (x : Sx) (xs : List Ix) (h : IR p w x.2.2.2.1 x.2.2.2.2.1 xs) (hf : 0 ≤ x.2.2.1 ∧ x.2.2.1 ≤ 1073741824) :
    Calls Try.prog 57 #[sta x] w fun e w' => e = .returned (.bool (formD x xs)) ∧ Up w w' := by
  have hfo := fun W => refForm_any W x.1 x.2.1
  unfold vid at hfo
  unfold sta at *
  have hl := h.1
  have hmax := h.2.1
  obtain ⟨w0, hw0⟩ : ∃ w0, w.alloc (.cells #[.int .u64 (x.1 : Nat), .int .i64 x.2.1, .int .i64 x.2.2.1, .slice x.2.2.2.1 x.2.2.2.2.1 x.2.2.2.2.2] 52) = w0 := ⟨_, rfl⟩
  have hu0 : Up w w0 := by rw [← hw0]; exact (Up.refl _).alloc _
  have hb0 : Bs w.heap.size x w0 := by rw [← hw0]; exact bs_new w x 52
  have HI : Hid (IR p w0 x.2.2.2.1 x.2.2.2.2.1 xs) := h.keep (Kp.up hu0.bl)
  have HB : Hid (Bs w.heap.size x w0) := hb0
  obtain ⟨r, HR⟩ : ∃ r, Hid (formD x xs = r) := ⟨_, rfl⟩
  rw [HR.out]
  obtain ⟨hf0, hf1⟩ := hf
  clear h hb0
  go_enter Try.func57, Try.ntmps57
  go_wp2_with fail
  (try simp only [hw0])
  go_loopw [3] (fun iv wr => ∃ k : Nat, k ≤ x.2.2.2.2.1 ∧ iv = .int .i64 k ∧ (∀ y ∈ xs.take k, okF y.1 = true) ∧ Up w0 wr) (fun iv _ => x.2.2.2.2.1 - (intOf iv).toNat)
  case atStart => exact ⟨0, by omega, rfl, by simp, by first | exact Up.refl _ | (rw [hw0]; exact Up.refl _)⟩
  case round =>
    obtain ⟨k, hk, rfl, hno, hu⟩ := hrel
    have HN : Hid (∀ y ∈ xs.take k, okF y.1 = true) := hno
    obtain ⟨c0, c1, c2, c3⟩ := HB.out.up hu
    clear hno
    by_cases hlt : k < x.2.2.2.2.1
    · have hltI : (k : Int) < (x.2.2.2.2.1 : Int) := by omega
      obtain ⟨y, hy⟩ : ∃ y, xs[k]? = some y := ⟨xs[k]'(by omega), List.getElem?_eq_getElem (by omega)⟩
      obtain ⟨b, off, hao, _, hc⟩ := (HI.out.keep (Kp.up hu.bl)).2.2.2 (by omega)
      obtain ⟨d0, d1⟩ := hc k y hy
      have HY : Hid (xs[k]? = some y) := hy
      rw [hao] at c3
      have hk0 : ¬ ((k : Int) < 0) := by omega
      have hbad : okF y.1 = false → r = false := fun hd => by
        have : xs.all (fun y => okF y.1) = false := by rw [List.all_eq_false]; exact ⟨y, List.mem_of_getElem? HY.out, by rw [hd]; simp⟩
        rw [← HR.out, formD, this]; simp
      clear hc hy
      by_cases f0 : y.1 < 0
      · have hr := hbad (by simp [okF]; omega)
        subst hr
        clear HR hbad
        go_wp2
        go_ret
        exact ⟨rfl, hu0.trans hu⟩
      · by_cases f1 : 15 < y.1
        · have hr := hbad (by simp [okF]; omega)
          subst hr
          clear HR hbad
          go_wp2
          go_ret
          exact ⟨rfl, hu0.trans hu⟩
        · have HN' : Hid (∀ z ∈ xs.take (k + 1), okF z.1 = true) := by
            intro z hz
            rw [List.take_add_one, HY.out] at hz
            simp only [Option.toList_some, List.mem_append, List.mem_singleton] at hz
            rcases hz with hz | rfl
            · exact HN.out z hz
            · simp [okF]; omega
          clear hbad
          go_wp2
          go_roundw
          case rel => first | exact ⟨k + 1, by omega, by go_num, HN'.out, hu⟩ | ((repeat apply Exists.intro); exact ⟨⟨k + 1, by omega, by go_num, HN'.out, hu⟩, rfl⟩)
          case measure => simp [intOf]; omega
    · have hkn : k = x.2.2.2.2.1 := by omega
      have hltI : ¬ ((k : Int) < (x.2.2.2.2.1 : Int)) := by omega
      have hall : xs.all (fun y => okF y.1) = true := List.all_eq_true.2 (by have := HN.out; rwa [List.take_of_length_le (by omega)] at this)
      have hr : r = (formV x.1 x.2.1 && (decide (0 < x.1) || (decide (x.2.2.1 = 0) && decide (x.2.2.2.2.1 = 0)))) := by rw [← HR.out, formD, hall]; simp
      have hu0r := hu0.trans hu
      have HB1 : Hid (Bs w.heap.size x wr) := HB.out.up hu
      clear HR HI hall HN
      go_wp2_with fail
      refine (hfo _).mono ?_
      rintro e w2 ⟨rfl, hu2⟩
      obtain ⟨c0, c1, c2, c3⟩ := HB1.out.up hu2
      have hu02 := hu0r.trans hu2
      clear hfo hu2 hu0r hu hu0
      have hge : 0 ≤ x.2.2.1 := hf0
      have hle : x.2.2.1 ≤ 1073741824 := hf1
      cases hv : formV x.1 x.2.1 with
      | false =>
        rw [hv] at hr
        simp only [Bool.false_and] at hr
        subst hr
        go_wp2
        go_ret
        exact ⟨rfl, hu02⟩
      | true =>
        rw [hv] at hr
        simp only [Bool.true_and] at hr
        by_cases hn0 : 0 < x.1
        · rw [decide_eq_true hn0] at hr
          simp only [Bool.true_or] at hr
          subst hr
          have hn0I : (0 : Int) < (x.1 : Int) := by omega
          go_wp2
          go_ret
          exact ⟨rfl, hu02⟩
        · have hn0I : ¬ ((0 : Int) < (x.1 : Int)) := by omega
          rw [decide_eq_false hn0] at hr
          simp only [Bool.false_or] at hr
          by_cases h0 : x.2.2.1 = 0
          · have h0b : (x.2.2.1 == 0) = true := by simpa using h0
            rw [decide_eq_true h0] at hr
            simp only [Bool.true_and] at hr
            have hlb : ((x.2.2.2.2.1 : Int) == 0) = decide (x.2.2.2.2.1 = 0) := by
              by_cases e : x.2.2.2.2.1 = 0
              · rw [e]; rfl
              · rw [decide_eq_false e]; simp [e]
            rw [← hlb] at hr
            subst hr
            clear h0 hlb
            go_wp2
            go_ret
            exact ⟨(by first | rfl | exact ret_bool (by first | rfl | (by_cases e : x.2.2.2.2.1 = 0 <;> simp [e]))), hu02⟩
          · have h0b : (x.2.2.1 == 0) = false := by simpa using h0
            rw [decide_eq_false h0] at hr
            simp only [Bool.false_and] at hr
            subst hr
            go_wp2
            go_ret
            exact ⟨rfl, hu02⟩
end Go.Proofs.Ytfemjbaadnjanaa
namespace Go.Proofs.Ytfemjbaadnjanaa
open Go.RowKit Go.Sort
set_option linter.unusedVariables false
set_option linter.unusedSimpArgs false

theorem form1R_any (w : World) (x : Ix) : Calls Try.prog 86 #[.agg #[.int .i64 x.1, .slice x.2.1 x.2.2.1 x.2.2.2]] w fun e w' => e = .returned (.bool (!okF x.1)) ∧ Up w w' := by
  obtain ⟨r, HR⟩ : ∃ r, Hid ((!okF x.1) = r) := ⟨_, rfl⟩
  rw [HR.out]
  by_cases h0 : x.1 < 0
  · have hr : r = true := by rw [← HR.out]; simp [okF]; omega
    subst hr
    go_enter Try.func86, Try.ntmps86
    go_wp2
    go_ret
    exact ⟨rfl, (Up.refl _).alloc _⟩
  · by_cases h1 : 16 ≤ x.1
    · have hr : r = true := by rw [← HR.out]; simp [okF]; omega
      subst hr
      go_enter Try.func86, Try.ntmps86
      go_wp2
      go_ret
      exact ⟨ret_bool (by simp [h1]), (Up.refl _).alloc _⟩
    · have hr : r = false := by rw [← HR.out]; simp [okF]; omega
      subst hr
      go_enter Try.func86, Try.ntmps86
      go_wp2
      go_ret
      exact ⟨ret_bool (by simp [h1]), (Up.refl _).alloc _⟩

set_option maxRecDepth 10000 in
set_option maxHeartbeats 1000000 in
theorem indexR_item (p : Nat → Prop) (w : World) (ao : Option Addr) (n cap : Nat) (xs : List Ix) (h : IR p w ao n xs) :
    Calls Try.prog 92 #[.slice ao n cap, .func (.func 86) #[] #[]] w fun e w' => (if xs.all (fun x => okF x.1) = true then e = .returned (.int .i64 (-1)) else ∃ i : Nat, e = .returned (.int .i64 (i : Nat))) ∧ Up w w' := by
  have hl := h.1
  have hmax := h.2.1
  have HX : Hid (∀ (k : Nat) (x : Ix), xs[k]? = some x → okF x.1 = false → xs.all (fun x => okF x.1) = false) := fun k x hx hf => by
    rw [List.all_eq_false]
    exact ⟨x, List.mem_of_getElem? hx, by rw [hf]; simp⟩
  have HA : Hid ((∀ x ∈ xs, okF x.1 = true) → xs.all (fun x => okF x.1) = true) := fun h => List.all_eq_true.2 h
  obtain ⟨r, hr⟩ : ∃ r, xs.all (fun x => okF x.1) = r := ⟨_, rfl⟩
  rw [hr] at HX HA ⊢
  clear hr
  go_enter Try.func92, Try.ntmps92
  go_wp2_with fail
  go_loopw [5, 8] (fun _ iv wr => ∃ k : Nat, k ≤ n ∧ iv = .int .i64 k ∧ (∀ x ∈ xs.take k, okF x.1 = true) ∧ Up w wr) (fun _ iv _ => n - (intOf iv).toNat)
  case atStart => exact ⟨0, by omega, rfl, by simp, Up.refl _⟩
  case round =>
    obtain ⟨k, hk, rfl, hno, hu⟩ := hrel
    have HN : Hid (∀ x ∈ xs.take k, okF x.1 = true) := hno
    clear hno
    by_cases hlt : k < n
    · have hltI : (k : Int) < (n : Int) := by omega
      obtain ⟨y, hy⟩ : ∃ y, xs[k]? = some y := ⟨xs[k]'(by omega), List.getElem?_eq_getElem (by omega)⟩
      obtain ⟨b, off, hao, _, hc⟩ := (h.keep (Kp.up hu.bl)).2.2.2 (by omega)
      obtain ⟨c0, c1⟩ := hc k y hy
      have HY : Hid (xs[k]? = some y) := hy
      have hcl := form1R_any wr y
      subst hao
      clear hc hy h
      have hk0 : ¬ ((k : Int) < 0) := by omega
      cases hd : okF y.1 with
      | false =>
        rw [hd] at hcl
        have hr := HX.out k y HY.out hd
        subst hr
        clear hd HX HA
        go_wp2_with fail
        refine hcl.mono ?_
        rintro e w1 ⟨rfl, hb1⟩
        have hu1 := hu.trans hb1
        clear hcl c0 c1 hb1
        go_wp2
        go_ret
        (try simp only [Bool.false_eq_true, if_false])
        exact ⟨⟨k, rfl⟩, hu1⟩
      | true =>
        rw [hd] at hcl
        have HN' : Hid (∀ x ∈ xs.take (k + 1), okF x.1 = true) := by
          intro x hx
          rw [List.take_add_one, HY.out] at hx
          simp only [Option.toList_some, List.mem_append, List.mem_singleton] at hx
          rcases hx with hx | rfl
          · exact HN.out x hx
          · exact hd
        clear hd HX HA
        go_wp2_with fail
        refine hcl.mono ?_
        rintro e w1 ⟨rfl, hb1⟩
        have hu1 := hu.trans hb1
        clear hcl c0 c1 hb1
        go_wp2
        go_roundw
        case rel => first | exact ⟨k + 1, by omega, by go_num, HN'.out, hu1⟩ | ((repeat apply Exists.intro); exact ⟨⟨k + 1, by omega, by go_num, HN'.out, hu1⟩, rfl⟩)
        case measure => simp [intOf]; omega
    · obtain rfl : k = n := by omega
      have hr := HA.out (by have := HN.out; rwa [List.take_of_length_le (by omega)] at this)
      subst hr
      clear h HX HA
      go_wp2
      go_ret
      (try simp only [if_true])
      exact ⟨rfl, hu⟩
theorem containsR_any (p : Nat → Prop) (w : World) (ao : Option Addr) (n cap : Nat) (xs : List Ix) (h : IR p w ao n xs) :
    Calls Try.prog 85 #[.slice ao n cap, .func (.func 86) #[] #[]] w fun e w' => e = .returned (.bool (!xs.all (fun x => okF x.1))) ∧ Up w w' := by
  have hix := indexR_item p w ao n cap xs h
  clear h
  cases hr : xs.all (fun x => okF x.1) with
  | true =>
    rw [hr] at hix
    simp only [if_true] at hix
    clear hr
    go_enter Try.func85, Try.ntmps85
    go_wp2_with fail
    refine hix.mono ?_
    rintro e w1 ⟨rfl, hu⟩
    clear hix
    go_wp2
    go_ret
    exact ⟨ret_bool (by simp), hu⟩
  | false =>
    rw [hr] at hix
    simp only [Bool.false_eq_true, if_false] at hix
    clear hr
    go_enter Try.func85, Try.ntmps85
    go_wp2_with fail
    refine hix.mono ?_
    rintro e w1 ⟨⟨i, rfl⟩, hu⟩
    have hi : ¬ ((i : Int) < 0) := by omega
    clear hix
    go_wp2
    go_ret
    exact ⟨ret_bool (by simp), hu⟩

end Go.Proofs.Ytfemjbaadnjanaa
