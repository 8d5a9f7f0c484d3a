/-
  A block of labels that is written to.
-/
import Derived.Test.YtpdgoalbknopiaaLDel
namespace Go.Proofs.Ytpdgoalbknopiaa
open Go.RowKit Go.Sort
set_option linter.unusedVariables false

theorem gr_refl (w : World) (r : Option Nat) : w.grownBy w r := ⟨rfl, rfl, rfl, Nat.le_refl _, fun _ _ _ => rfl⟩
theorem gr_trans {a b c : World} {r : Option Nat} (h : a.grownBy b r) (k : b.grownBy c r) : a.grownBy c r :=
  ⟨k.os.trans h.os, k.tape.trans h.tape, k.output.trans h.output, Nat.le_trans h.size k.size, fun i hi hne => (k.block i (Nat.lt_of_lt_of_le hi h.size) hne).trans (h.block i hi hne)⟩
theorem gr_below {a b : World} (h : Below a.heap.size a b) (r : Option Nat) : a.grownBy b r := ⟨h.os, h.tape, h.output, h.size, fun i hi _ => h.block i hi⟩
theorem gr_setRow (w : World) (g : Nat) (cs : Array Value) : w.grownBy (w.setRow g cs) (some g) := ⟨rfl, rfl, rfl, by simp, fun i hi hne => setRow_other _ _ _ _ (fun e => hne (by rw [e]))⟩

/-- Block g has these labels, and behind them what is left of its room. -/
def Blk (w : World) (g cap : Nat) (cur : List Lb) : Prop := ∃ rest : List Value, w.heap[g]? = some (.cells (flat cur ++ rest).toArray 26 (0, 0)) ∧ (flat cur ++ rest).length = cap * 4
theorem Blk.of_block {w w' : World} {g cap : Nat} {cur : List Lb} (h : Blk w g cap cur) (e : w'.heap[g]? = w.heap[g]?) : Blk w' g cap cur := by
  obtain ⟨r, h1, h2⟩ := h
  exact ⟨r, by rw [e]; exact h1, h2⟩
theorem Blk.lt {w : World} {g cap : Nat} {cur : List Lb} (h : Blk w g cap cur) : g < w.heap.size := by
  obtain ⟨r, h1, _⟩ := h
  exact (Array.getElem?_eq_some_iff.1 h1).1
theorem Blk.up {w w' : World} {g cap : Nat} {cur : List Lb} (h : Blk w g cap cur) (u : Below w.heap.size w w') : Blk w' g cap cur := h.of_block (u.block g h.lt)
theorem Blk.len {w : World} {g cap : Nat} {cur : List Lb} (h : Blk w g cap cur) : cur.length ≤ cap := by
  obtain ⟨r, _, h2⟩ := h
  rw [List.length_append, flat_len] at h2
  omega
theorem Blk.ofOwn {w : World} {B n g cap : Nat} {ls : List Lb} (h : w.ownsRow B 26 4 (.slice (some ⟨g, 0, none⟩) n cap) n (flat ls)) : Blk w g cap ls ∧ B ≤ g ∧ n ≤ cap ∧ cap ≤ maxLen := by
  rcases h.2 with ⟨h0, _⟩ | ⟨g', cap', cur, h0, a, b, c, d, e, f⟩
  · cases h0
  · simp only [Value.slice.injEq, Option.some.injEq, Addr.mk.injEq] at h0
    obtain ⟨⟨rfl, _, _⟩, _, rfl⟩ := h0
    refine ⟨⟨cur.toList.drop (n * 4), ?_, ?_⟩, a, c, d⟩
    · rw [b, ← f, List.take_append_drop]
    · rw [← f, List.take_append_drop]; simpa using e
theorem Blk.own {w : World} {B g cap : Nat} {cur : List Lb} (h : Blk w g cap cur) (hB : B ≤ g) (hc : cap ≤ maxLen) (i : Nat) (hi : i ≤ cur.length) : w.ownsRow B 26 4 (.slice (some ⟨g, 0, none⟩) i cap) i (flat (cur.take i)) := by
  have hl := h.len
  obtain ⟨r, h1, h2⟩ := h
  refine ⟨by rw [flat_len, List.length_take]; omega, .inr ⟨g, cap, _, rfl, hB, h1, by omega, hc, by simpa using h2, ?_⟩⟩
  have e : flat cur = flat (cur.take i) ++ flat (cur.drop i) := by rw [← flat_app, List.take_append_drop]
  simp only [e, List.append_assoc]
  rw [List.take_append_of_le_length (by rw [flat_len, List.length_take]; omega), List.take_of_length_le (by rw [flat_len, List.length_take]; omega)]
theorem Blk.cell {w : World} {g cap : Nat} {cur : List Lb} (h : Blk w g cap cur) {j : Nat} {x : Lb} (hj : cur[j]? = some x) :
    w.cell? ⟨g, j * 4, none⟩ = some (.int .u64 (x.1 : Nat)) ∧ w.cell? ⟨g, j * 4 + 1, none⟩ = some (.int .i64 x.2.1) ∧ w.cell? ⟨g, j * 4 + 2, none⟩ = some (.int .u64 (x.2.2.1 : Nat)) ∧ w.cell? ⟨g, j * 4 + 3, none⟩ = some (.int .i64 x.2.2.2) := by
  obtain ⟨r, h1, h2⟩ := h
  have hjl : j < cur.length := (List.getElem?_eq_some_iff.1 hj).1
  have key : ∀ i, i < 4 → w.cell? ⟨g, j * 4 + i, none⟩ = (cellsL x)[i]? := fun i hi => by
    unfold World.cell?
    rw [h1]
    simp only [List.getElem?_toArray]
    rw [List.getElem?_append_left (by rw [flat_len]; omega), show j * 4 + i = 4 * j + i by omega]
    exact flat_get cur j x i hj hi
  exact ⟨key 0 (by omega), key 1 (by omega), key 2 (by omega), key 3 (by omega)⟩
theorem flat_set (ls : List Lb) (i : Nat) (x : Lb) (hi : i < ls.length) : flat (ls.set i x) = (flat ls).take (i * 4) ++ cellsL x ++ (flat ls).drop (i * 4 + 4) := by
  obtain ⟨a, y, b, rfl, rfl⟩ : ∃ a y b, ls = a ++ y :: b ∧ i = a.length := ⟨ls.take i, ls[i], ls.drop (i + 1), by simp, by rw [List.length_take]; omega⟩
  have l1 := flat_len a
  have e : (a ++ y :: b).set a.length x = a ++ x :: b := by simp
  rw [e, flat_app, flat_cons, flat_app, flat_cons]
  rw [List.take_append_of_le_length (by omega), List.take_of_length_le (by omega), List.drop_append, List.drop_of_length_le (by omega), show a.length * 4 + 4 - (flat a).length = (cellsL y).length by simp [cellsL]; omega]
  simp
theorem Blk.set {w : World} {g cap : Nat} {cur : List Lb} (h : Blk w g cap cur) {i : Nat} (hi : i < cur.length) (x : Lb) :
    ∃ w', Sem.run Try.prog (storeCells ⟨g, i * 4, none⟩ [.int .u64 (x.1 : Nat), .int .i64 x.2.1, .int .u64 (x.2.2.1 : Nat), .int .i64 x.2.2.2] 0) w = .ok () w' ∧ Blk w' g cap (cur.set i x) ∧ w.grownBy w' (some g) := by
  obtain ⟨r, h1, h2⟩ := h
  have hl := flat_len cur
  have hrun := run_storeCells_at (P := Try.prog) g (i * 4) 26 (cellsL x) 0 _ w h1 (by simp [cellsL]; omega) (by simp [cellsL, Value.oneCell'])
  refine ⟨_, hrun, ⟨r, ?_, ?_⟩, gr_setRow _ _ _⟩
  · rw [setRow_heap _ _ _ _ _ _ h1]
    congr 3
    rw [flat_set _ _ _ hi]
    have a1 : (flat cur ++ r).take (i * 4 + 0) = (flat cur).take (i * 4) := List.take_append_of_le_length (by omega)
    have a2 : (flat cur ++ r).drop (i * 4 + 0 + (cellsL x).length) = (flat cur).drop (i * 4 + 4) ++ r := by
      rw [show i * 4 + 0 + (cellsL x).length = i * 4 + 4 by simp [cellsL], List.drop_append_of_le_length (by omega)]
    rw [a1, a2]
    simp
  · rw [← h2, List.length_append, List.length_append, flat_len, flat_len, List.length_set]
theorem zero26 (w : World) : (zeroValue 26).run Try.prog w = .ok (.agg #[.int .u64 0, .int .i64 0, .int .u64 0, .int .i64 0]) w := Try.zeroValue26 w
theorem und32 : Try.prog.underlying 36 = some (.slice 26) := by kernel_rfl
theorem zeroL (n : Nat) : (Builtin.zeroCells (Value.agg #[.int .u64 0, .int .i64 0, .int .u64 0, .int .i64 0]).cells n).toList.length = n * 4 := by
  simp [Builtin.zeroCells, Value.cells]
/-- What stands from i on is cleared. -/
theorem Blk.clear {w : World} {g cap : Nat} {cur : List Lb} (h : Blk w g cap cur) {i n : Nat} (hi : i ≤ cur.length) (hn : n = cur.length - i) (c : Nat) (ty : TypeId) :
    ∃ w', Sem.run Try.prog (Builtin.clear_ #[36] ty #[.slice (some ⟨g, i * 4, none⟩) n c]) w = .ok (.tuple #[]) w' ∧ Blk w' g cap (cur.take i) ∧ w.grownBy w' (some g) := by
  by_cases h0 : n = 0
  · subst h0
    refine ⟨w, ?_, ?_, gr_refl _ _⟩
    · simp [Builtin.clear_, run_underlying und32]
    · rw [List.take_of_length_le (by omega)]; exact h
  · obtain ⟨m, rfl⟩ : ∃ m, n = m + 1 := ⟨n - 1, by omega⟩
    obtain ⟨r, h1, h2⟩ := h
    have hl := flat_len cur
    have hzl := zeroL (m + 1)
    have hone : ∀ v ∈ (Builtin.zeroCells (Value.agg #[.int .u64 0, .int .i64 0, .int .u64 0, .int .i64 0]).cells (m + 1)).toList, v.oneCell' = true := by
      intro v hv
      simp only [Builtin.zeroCells, Value.cells, Array.toList_map, List.mem_map] at hv
      obtain ⟨k, _, rfl⟩ := hv
      have hk : k % 4 < 4 := Nat.mod_lt _ (by omega)
      have : k % 4 = 0 ∨ k % 4 = 1 ∨ k % 4 = 2 ∨ k % 4 = 3 := by omega
      rcases this with e | e | e | e <;> simp [e, Value.oneCell']
    have hrun := run_storeCells_at (P := Try.prog) g (i * 4) 26 _ 0 _ w h1 (by rw [hzl]; simp; omega) hone
    have hcl : ∀ w', Sem.run Try.prog (storeCells ⟨g, i * 4, none⟩ (Builtin.zeroCells (Value.agg #[.int .u64 0, .int .i64 0, .int .u64 0, .int .i64 0]).cells (m + 1)).toList 0) w = .ok () w' → Sem.run Try.prog (Builtin.clear_ #[36] ty #[.slice (some ⟨g, i * 4, none⟩) (m + 1) c]) w = .ok (.tuple #[]) w' := fun w' hw => by
      simp [Builtin.clear_, run_underlying und32, hw]
    refine ⟨_, hcl _ hrun, ⟨(Builtin.zeroCells (Value.agg #[.int .u64 0, .int .i64 0, .int .u64 0, .int .i64 0]).cells (m + 1)).toList ++ r, ?_, ?_⟩, gr_setRow _ _ _⟩
    · rw [setRow_heap _ _ _ _ _ _ h1]
      congr 3
      generalize (Builtin.zeroCells (Value.agg #[.int .u64 0, .int .i64 0, .int .u64 0, .int .i64 0]).cells (m + 1)).toList = zs at *
      have e : flat cur = flat (cur.take i) ++ flat (cur.drop i) := by rw [← flat_app, List.take_append_drop]
      have l1 : (flat (cur.take i)).length = i * 4 := by rw [flat_len, List.length_take]; omega
      have l2 : (flat (cur.drop i)).length = (m + 1) * 4 := by rw [flat_len, List.length_drop]; omega
      have a1 : (flat cur ++ r).take (i * 4 + 0) = flat (cur.take i) := by
        rw [e, List.append_assoc, List.take_append_of_le_length (by omega), List.take_of_length_le (by omega)]
      have a2 : (flat cur ++ r).drop (i * 4 + 0 + zs.length) = r := by
        rw [List.drop_append, List.drop_of_length_le (by omega), show i * 4 + 0 + zs.length - (flat cur).length = 0 by omega]; simp
      rw [a1, a2]
      simp
    · rw [← h2, List.length_append, List.length_append, List.length_append, flat_len, flat_len, hzl, List.length_take]
      omega
end Go.Proofs.Ytpdgoalbknopiaa
