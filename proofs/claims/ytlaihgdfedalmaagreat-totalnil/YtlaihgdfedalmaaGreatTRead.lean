/-
  Package total's read: what a message of the view holds.
-/
import Derived.Test.YtlaihgdfedalmaaGreatTPrim
import Derived.Test.YtlaihgdfedalmaaGreatEDec1
namespace Go.Proofs.YtlaihgdfedalmaaGreat
open Go.RowKit Go.Sort Go.Conc
set_option linter.unusedVariables false
set_option linter.unusedSimpArgs false

/-- A message that is not looked at. -/
def ReadNo (w : World) (k : Int) (e : Ending) (w' : World) : Prop := e = .returned (.tuple #[.int .u8 0, .agg #[.int .u64 0, .int .i64 0, .int .u64 0, .int .i64 0, .slice none 0 0], .agg #[.slice none 0 0, .slice none 0 0, .int .i64 0, .int .u64 0, .int .i64 0], .int .i64 k]) ∧ Below w.heap.size w w'
theorem read_rows (w w1 : World) (h : Below (w.heap.size + 2) ((w.alloc (.cells #[.int .u64 0, .int .i64 0, .int .u64 0, .int .i64 0, .slice none 0 0] 41)).alloc (.cells #[.slice none 0 0, .slice none 0 0, .int .i64 0, .int .u64 0, .int .i64 0] 45)) w1) :
    w1.heap[w.heap.size]? = some (.cells #[.int .u64 0, .int .i64 0, .int .u64 0, .int .i64 0, .slice none 0 0] 41 (0, 0)) ∧ w1.heap[w.heap.size + 1]? = some (.cells #[.slice none 0 0, .slice none 0 0, .int .i64 0, .int .u64 0, .int .i64 0] 45 (0, 0)) ∧ Below w.heap.size w w1 := by
  have e1 : ((w.alloc (.cells #[.int .u64 0, .int .i64 0, .int .u64 0, .int .i64 0, .slice none 0 0] 41)).alloc (.cells #[.slice none 0 0, .slice none 0 0, .int .i64 0, .int .u64 0, .int .i64 0] 45)).heap.size = w.heap.size + 2 := by simp
  refine ⟨(h.block _ (by omega)).trans ((Below.heap_alloc _ _ _ (by simp)).trans (heap_alloc_new _ _)), (h.block _ (by omega)).trans ?_, (bl2 w _ _).trans (h.mono (by omega))⟩
  have := heap_alloc_new (w.alloc (.cells #[.int .u64 0, .int .i64 0, .int .u64 0, .int .i64 0, .slice none 0 0] 41)) (.cells #[.slice none 0 0, .slice none 0 0, .int .i64 0, .int .u64 0, .int .i64 0] 45)
  simpa using this
/-- Two answers' rows are laid. -/
theorem read_fin (W : World) (g : Nat) (h1 : W.heap[g]? = some (.cells #[.int .u64 0, .int .i64 0, .int .u64 0, .int .i64 0, .slice none 0 0] 41 (0, 0))) (h2 : W.heap[g + 1]? = some (.cells #[.slice none 0 0, .slice none 0 0, .int .i64 0, .int .u64 0, .int .i64 0] 45 (0, 0))) (n1 n2 : Array Value) :
    (W.setRow g n1).heap[g + 1]? = some (.cells #[.slice none 0 0, .slice none 0 0, .int .i64 0, .int .u64 0, .int .i64 0] 45 (0, 0)) ∧ (∀ j, ((W.setRow g n1).setRow (g + 1) n2).cell? ⟨g, j, none⟩ = n1[j]?) ∧ (∀ j, ((W.setRow g n1).setRow (g + 1) n2).cell? ⟨g + 1, j, none⟩ = n2[j]?) := by
  have k2 : (W.setRow g n1).heap[g + 1]? = some (.cells #[.slice none 0 0, .slice none 0 0, .int .i64 0, .int .u64 0, .int .i64 0] 45 (0, 0)) := (setRow_other _ _ _ _ (by omega)).trans h2
  have k1 := setRow_heap W g _ n1 _ _ h1
  have k3 : ((W.setRow g n1).setRow (g + 1) n2).heap[g]? = _ := (setRow_other _ _ _ _ (by omega)).trans k1
  have k4 := setRow_heap _ (g + 1) _ n2 _ _ k2
  exact ⟨k2, fun j => cell_of_row _ g j _ 41 (0, 0) k3, fun j => cell_of_row _ (g + 1) j _ 45 (0, 0) k4⟩
set_option maxRecDepth 10000 in
set_option maxHeartbeats 1000000 in
theorem read_nil (w : World) (f : Value) (ao : Option Addr) (n cap : Nat) : Calls Tryz.prog 57 #[.pointer none, f, .slice ao n cap] w (ReadNo w 6) := by
  obtain ⟨a1, a2, u⟩ := read_rows w _ (Below.refl _ _)
  obtain ⟨b2, f1, f2⟩ := read_fin _ _ a1 a2 #[.int .u64 0, .int .i64 0, .int .u64 0, .int .i64 0, .slice none 0 0] #[.slice none 0 0, .slice none 0 0, .int .i64 0, .int .u64 0, .int .i64 0]
  have HF : Hid (ReadNo w 6 (.returned (.tuple #[.int .u8 0, .agg #[.int .u64 0, .int .i64 0, .int .u64 0, .int .i64 0, .slice none 0 0], .agg #[.slice none 0 0, .slice none 0 0, .int .i64 0, .int .u64 0, .int .i64 0], .int .i64 6])) _) := ⟨rfl, bl_rowL (bl_rowL u (Nat.le_refl _) #[.int .u64 0, .int .i64 0, .int .u64 0, .int .i64 0, .slice none 0 0]) (Nat.le_succ _) #[.slice none 0 0, .slice none 0 0, .int .i64 0, .int .u64 0, .int .i64 0]⟩
  have c0 := f1 0
  have c1 := f1 1
  have c2 := f1 2
  have c3 := f1 3
  have c4 := f1 4
  have d0 := f2 0
  have d1 := f2 1
  have d2 := f2 2
  have d3 := f2 3
  have d4 := f2 4
  simp only [List.getElem?_toArray, List.getElem?_cons_zero, List.getElem?_cons_succ] at c0 c1 c2 c3 c4 d0 d1 d2 d3 d4
  clear f1 f2 u
  go_enter Tryz.func57, Tryz.ntmps57
  go_wp2_with (first | (refine wpList_store_row rfl 41 (.tmp 7) (.tmp 29) rfl w.heap.size #[.int .u64 0, .int .i64 0, .int .u64 0, .int .i64 0, .slice none 0 0] rfl rfl 41 _ a1 infoS41 rfl (by simp [Value.oneCell']) ?_) | (refine wpList_store_row rfl 45 (.tmp 8) (.tmp 30) rfl (w.heap.size + 1) #[.slice none 0 0, .slice none 0 0, .int .i64 0, .int .u64 0, .int .i64 0] rfl rfl 45 _ b2 infoS38 rfl (by simp [Value.oneCell']) ?_))
  refine bodyPost_ret (v := .tuple #[.int .u8 0, .agg #[.int .u64 0, .int .i64 0, .int .u64 0, .int .i64 0, .slice none 0 0], .agg #[.slice none 0 0, .slice none 0 0, .int .i64 0, .int .u64 0, .int .i64 0], .int .i64 6]) ?_ rfl HF.out
  simp [results, Tryz.results57, go_sem, c0, c1, c2, c3, c4, d0, d1, d2, d3, d4]
/-- A message that is looked at: what Decode answers, in rows of one's own. -/
def ReadOk (w : World) (D : World → World → Int → Lb → Sv → Sv → Sv → Int → Int → Int → Int → Prop) (e : Ending) (w' : World) : Prop :=
  ∃ W w1 k x m c o nx hn hp er, Below w.heap.size w W ∧ W.heap.size = w.heap.size + 2 ∧ Below W.heap.size W w1 ∧ D W w1 k x m c o nx hn hp er ∧ e = .returned (.tuple #[.int .u8 k, ent x (sv m), .agg #[sv c, sv o, .int .i64 nx, .int .u64 hn, .int .i64 hp], .int .i64 er]) ∧ w' = (w1.setRow w.heap.size #[.int .u64 (x.1 : Nat), .int .i64 x.2.1, .int .u64 (x.2.2.1 : Nat), .int .i64 x.2.2.2, sv m]).setRow (w.heap.size + 1) #[sv c, sv o, .int .i64 nx, .int .u64 hn, .int .i64 hp]
set_option maxRecDepth 10000 in
set_option maxHeartbeats 1000000 in
theorem read_ok (w : World) (q : Nat) (f : Int) (m s : Nat) (hm : m ≠ 0) (hs : s < 65536) (hh : hasN s f = true) (hc4 : w.cell? ⟨q, 4, none⟩ = some (.int .u64 (m : Nat))) (hc6 : w.cell? ⟨q, 6, none⟩ = some (.int .u16 (s : Nat))) (ao : Option Addr) (n cap : Nat)
    (D : World → World → Int → Lb → Sv → Sv → Sv → Int → Int → Int → Int → Prop)
    (hdec : ∀ W, Below w.heap.size w W → Calls Tryz.prog 98 #[.slice ao n cap] W (fun e w1 => ∃ k x m c o nx hn hp er, e = .returned (.tuple #[.int .u8 k, ent x (sv m), .agg #[sv c, sv o, .int .i64 nx, .int .u64 hn, .int .i64 hp], .int .i64 er]) ∧ Below W.heap.size W w1 ∧ D W w1 k x m c o nx hn hp er)) :
    Calls Tryz.prog 57 #[.pointer (some ⟨q, 0, none⟩), .int .i64 f, .slice ao n cap] w (ReadOk w D) := by
  have hrr := fun w1 h => read_rows w w1 h
  have hW : ((w.alloc (.cells #[.int .u64 0, .int .i64 0, .int .u64 0, .int .i64 0, .slice none 0 0] 41)).alloc (.cells #[.slice none 0 0, .slice none 0 0, .int .i64 0, .int .u64 0, .int .i64 0] 45)).heap.size = w.heap.size + 2 := by simp
  obtain ⟨-, -, u⟩ := read_rows w _ (Below.refl _ _)
  have hiv := inView_any ((w.alloc (.cells #[.int .u64 0, .int .i64 0, .int .u64 0, .int .i64 0, .slice none 0 0] 41)).alloc (.cells #[.slice none 0 0, .slice none 0 0, .int .i64 0, .int .u64 0, .int .i64 0] 45)) q m (bl_cell u hc4)
  have hhas := has_any ((w.alloc (.cells #[.int .u64 0, .int .i64 0, .int .u64 0, .int .i64 0, .slice none 0 0] 41)).alloc (.cells #[.slice none 0 0, .slice none 0 0, .int .i64 0, .int .u64 0, .int .i64 0] 45)) s hs f
  have k6 := bl_cell u hc6
  have hd := hdec ((w.alloc (.cells #[.int .u64 0, .int .i64 0, .int .u64 0, .int .i64 0, .slice none 0 0] 41)).alloc (.cells #[.slice none 0 0, .slice none 0 0, .int .i64 0, .int .u64 0, .int .i64 0] 45)) u
  have e1 : decide (m ≠ 0) = true := by simp [hm]
  rw [e1] at hiv
  rw [hh] at hhas
  clear e1 hc4 hc6 hh hm hs hdec
  go_enter Tryz.func57, Tryz.ntmps57
  go_wp2_with fail
  refine hiv.mono ?_
  rintro e w1 ⟨rfl, rfl⟩
  clear hiv
  go_wp2_with fail
  refine hhas.mono ?_
  rintro e w1 ⟨rfl, rfl⟩
  clear hhas k6
  go_wp2_with fail
  refine hd.mono ?_
  rintro e w1 ⟨k, x, m, c, o, nx, hn, hp, er, rfl, u1, hD⟩
  obtain ⟨a1, a2, -⟩ := hrr w1 (by rw [← hW]; exact u1)
  obtain ⟨b2, f1, f2⟩ := read_fin w1 _ a1 a2 #[.int .u64 (x.1 : Nat), .int .i64 x.2.1, .int .u64 (x.2.2.1 : Nat), .int .i64 x.2.2.2, sv m] #[sv c, sv o, .int .i64 nx, .int .u64 hn, .int .i64 hp]
  have HF : Hid (ReadOk w D (.returned (.tuple #[.int .u8 k, ent x (sv m), .agg #[sv c, sv o, .int .i64 nx, .int .u64 hn, .int .i64 hp], .int .i64 er])) ((w1.setRow w.heap.size #[.int .u64 (x.1 : Nat), .int .i64 x.2.1, .int .u64 (x.2.2.1 : Nat), .int .i64 x.2.2.2, sv m]).setRow (w.heap.size + 1) #[sv c, sv o, .int .i64 nx, .int .u64 hn, .int .i64 hp])) := ⟨_, w1, k, x, m, c, o, nx, hn, hp, er, u, hW, u1, hD, rfl, rfl⟩
  unfold ent at *
  obtain ⟨m0, m1, m2⟩ := m
  obtain ⟨cc0, cc1, cc2⟩ := c
  obtain ⟨o0, o1, o2⟩ := o
  unfold sv at *
  simp only at *
  have c0 := f1 0
  have c1 := f1 1
  have c2 := f1 2
  have c3 := f1 3
  have c4 := f1 4
  have d0 := f2 0
  have d1 := f2 1
  have d2 := f2 2
  have d3 := f2 3
  have d4 := f2 4
  simp only [List.getElem?_toArray, List.getElem?_cons_zero, List.getElem?_cons_succ] at c0 c1 c2 c3 c4 d0 d1 d2 d3 d4
  clear f1 f2 u u1 hD hd hrr hW a2
  go_wp2_with (first | (refine wpList_store_row rfl 41 (.tmp 7) (.tmp 35) rfl w.heap.size #[.int .u64 (x.1 : Nat), .int .i64 x.2.1, .int .u64 (x.2.2.1 : Nat), .int .i64 x.2.2.2, .slice m0 m1 m2] rfl rfl 41 _ a1 infoS41 rfl (by simp [Value.oneCell']) ?_) | (refine wpList_store_row rfl 45 (.tmp 8) (.tmp 36) rfl (w.heap.size + 1) #[.slice cc0 cc1 cc2, .slice o0 o1 o2, .int .i64 nx, .int .u64 hn, .int .i64 hp] rfl rfl 45 _ b2 infoS38 rfl (by simp [Value.oneCell']) ?_))
  refine bodyPost_ret (v := .tuple #[.int .u8 k, .agg #[.int .u64 (x.1 : Nat), .int .i64 x.2.1, .int .u64 (x.2.2.1 : Nat), .int .i64 x.2.2.2, .slice m0 m1 m2], .agg #[.slice cc0 cc1 cc2, .slice o0 o1 o2, .int .i64 nx, .int .u64 hn, .int .i64 hp], .int .i64 er]) ?_ rfl HF.out
  simp [results, Tryz.results57, go_sem, c0, c1, c2, c3, c4, d0, d1, d2, d3, d4]
end Go.Proofs.YtlaihgdfedalmaaGreat
