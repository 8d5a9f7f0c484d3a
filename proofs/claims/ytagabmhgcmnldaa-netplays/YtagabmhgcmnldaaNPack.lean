/-
  A packet under way: lay (the same bytes in new memory), keep.
-/
import Derived.Test.YtagabmhgcmnldaaNClass
namespace Go.Proofs.Ytagabmhgcmnldaa
open Go.RowKit
set_option linter.unusedVariables false
set_option linter.unusedSimpArgs false

theorem wpList_copy_run {P : Program} {w : World} {ops : Array Oper} {rest : List Oper} {o : Oper} {a : Act} {Q : Exit → Act → World → Prop} (hgd : o.guard = none) (d s : Operand) (t t' : TypeId)
    (ho : o.op = .call { callee := .builtin .copy, args := #[d, s], argTypes := #[t, t'] }) (v u : Value) (hd : a.eval d = v) (hs : a.eval s = u) {v' : Value} {w' : World}
    (hr : (Builtin.copy_ #[t, t'] o.type #[v, u]).run P w = .ok v' w') (h : wpList P ops Q rest (a.put o.dst v') w') : wpList P ops Q (o :: rest) a w := by
  refine wpList_plain hgd fun K hK => ?_
  unfold Oper.wp execOp
  simp only [ho, resolve, invoke, builtin, Sem.run_bind, Sem.run_pure, Result.andThen_ok, List.map_toArray, List.map_cons, List.map_nil, hd, hs, hr]
  exact hK _ _ h
/-- A store of a thing of several cells, by its run. -/
theorem wpList_store_cells {P : Program} {ops : Array Oper} {rest : List Oper} {o : Oper} {a : Act} {w : World} {Q : Exit → Act → World → Prop} (hgd : o.guard = none) (ty : TypeId) (x y : Operand) (ho : o.op = .store ty x y)
    (ad : Addr) (cells : Array Value) (hx : a.eval x = .pointer (some ad)) (hy : a.eval y = .agg cells) (hi : (P.info? ty).map (·.size) = some cells.size)
    (w' : World) (hrun : (storeCells ad cells.toList 0).run P w = .ok () w') (h : wpList P ops Q rest (a.put o.dst undef) w') : wpList P ops Q (o :: rest) a w := by
  have hsv : (storeVar ty ad (.agg cells)).run P w = .ok () w' := by
    cases hq : P.info? ty with
    | none => simp [hq] at hi
    | some i =>
      have hs : cells.size = i.size := by simp [hq] at hi; omega
      simp [storeVar, sizeOf, typeInfo, hq, Value.cells, hs, hrun]
  refine wpList_plain hgd fun K hK => ?_
  unfold Oper.wp execOp
  simp only [ho, hx, hy, Instr.storeAt, Instr.sureAddr, Sem.run_bind, Sem.run_pure, Result.andThen_ok, hsv]
  exact hK _ _ h
theorem step_store_cells {P : Program} {ops : Array Oper} {o : Oper} {a : Act} {w : World} {K : Act → World → Prop} {Q : Exit → Act → World → Prop} {E : Prop} (hgd : o.guard = none) (ty : TypeId) (x y : Operand) (ho : o.op = .store ty x y)
    (ad : Addr) (cells : Array Value) (hx : a.eval x = .pointer (some ad)) (hy : a.eval y = .agg cells) (hi : (P.info? ty).map (·.size) = some cells.size)
    (w' : World) (hrun : (storeCells ad cells.toList 0).run P w = .ok () w') (h : K (a.put o.dst undef) w') : if Region.wanted o (yielded ops a.tmps) = true then Oper.wp P o a w K Q else E := by
  have hsv : (storeVar ty ad (.agg cells)).run P w = .ok () w' := by
    cases hq : P.info? ty with
    | none => simp [hq] at hi
    | some i =>
      have hs : cells.size = i.size := by simp [hq] at hi; omega
      simp [storeVar, sizeOf, typeInfo, hq, Value.cells, hs, hrun]
  have hw : Region.wanted o (yielded ops a.tmps) = true := by simp [Region.wanted, hgd]
  rw [if_pos hw]
  unfold Oper.wp execOp
  simp only [ho, hx, hy, Instr.storeAt, Instr.sureAddr, Sem.run_bind, Sem.run_pure, Result.andThen_ok, hsv]
  exact h
theorem store_whole {P : Program} {w : World} {g t : Nat} {cur : Array Value} {cells : List Value} (h : w.heap[g]? = some (.cells cur t (0, 0))) (hl : cells.length = cur.size) (h1 : ∀ v ∈ cells, v.oneCell' = true) :
    (storeCells ⟨g, 0, none⟩ cells 0).run P w = .ok () (w.setRow g cells.toArray) := by
  have := run_storeCells_at P g 0 t cells 0 cur w h (by omega) h1
  rw [this]
  congr 3
  rw [List.drop_of_length_le (by simp; omega)]
  simp
theorem info5c : (Try.prog.info? 5).map (·.size) = some 1 := by kernel_rfl
theorem results_cell2 {P : Program} {fn : Func} {t u : Tmp} {ty : TypeId} (h : fn.results = #[.cell t ty, .tmp u]) {tmps : Array Value} {w : World} {g : Nat} {cs : Array Value} {b : Value} (ht : tmps.getD t undef = .pointer (some ⟨g, 0, none⟩)) (hb : tmps.getD u undef = b) (hl : (loadVar ty ⟨g, 0, none⟩).run P w = .ok (.agg cs) w) :
    (results fn tmps).run P w = .ok (.tuple #[.agg cs, b]) w := by
  rw [Array.getD_eq_getD_getElem?] at ht hb
  simp [results, h, ht, hb, asAddr, hl]
theorem results_cell1 {P : Program} {fn : Func} {t : Tmp} {ty : TypeId} (h : fn.results = #[.cell t ty]) {tmps : Array Value} {w : World} {g : Nat} {cs : Array Value} (ht : tmps.getD t undef = .pointer (some ⟨g, 0, none⟩)) (hl : (loadVar ty ⟨g, 0, none⟩).run P w = .ok (.agg cs) w) :
    (results fn tmps).run P w = .ok (.agg cs) w := by
  rw [Array.getD_eq_getD_getElem?] at ht
  simp [results, h, ht, asAddr, hl]
theorem info79 : (Try.prog.info? 79).map (·.size) = some 6 := by kernel_rfl
theorem info49 : (Try.prog.info? 49).map (·.size) = some 3 := by kernel_rfl
theorem load79 {w : World} {g : Nat} {cs : Array Value} {t : TypeId} {fr : Nat × Nat} (hg : w.heap[g]? = some (.cells cs t fr)) (hs : cs.size = 6) : (loadVar 79 ⟨g, 0, none⟩).run Try.prog w = .ok (.agg cs) w :=
  run_loadVar_row w g t 79 cs fr _ hg Try.underlying79 rfl (by rw [info79, hs])
theorem load49 {w : World} {g : Nat} {cs : Array Value} {t : TypeId} {fr : Nat × Nat} (hg : w.heap[g]? = some (.cells cs t fr)) (hs : cs.size = 3) : (loadVar 49 ⟨g, 0, none⟩).run Try.prog w = .ok (.agg cs) w :=
  run_loadVar_row w g t 49 cs fr _ hg Try.underlying49 rfl (by rw [info49, hs])

set_option maxRecDepth 10000 in
theorem lay_any (w : World) (ao : Option Addr) (n cap : Nat) (xs : List UInt8) (h : Row w ao n cap xs) (hn : n ≤ 140737488355328) :
    Calls Try.prog 54 #[.slice ao n cap] w fun e w' => e = .returned (.slice (some ⟨w.heap.size, 0, none⟩) n n) ∧ By w' w.heap.size xs ∧ Below w.heap.size w w' := by
  have hmk := run_make_row' (P := Try.prog) 35 5 (.int .u8 0) 1 Try.underlying35 Try.info5 rfl .i64 .i64 n (by omega) (by omega)
  have hle := h.2.1
  have hm := h.2.2.1
  have hl := h.1
  unfold maxLen at hm
  cases ao with
  | none =>
    obtain ⟨rfl, rfl⟩ := h.2.2.2.1 rfl
    obtain rfl : xs = [] := List.length_eq_zero_iff.1 hl
    have hrun : (Builtin.copy_ #[35, 35] 3 #[.slice (some ⟨w.heap.size, 0, none⟩) 0 0, .slice none 0 0]).run Try.prog (w.alloc (.cells (madeCells #[.int .u8 0] 0) 5)) = .ok (goInt 0) (w.alloc (.cells (madeCells #[.int .u8 0] 0) 5)) := run_copy_nil Try.prog _ 35 35 3 5 _ 0 0 Try.underlying35 (by rw [info5c]; rfl)
    have HE : Hid (By (w.alloc (.cells (madeCells #[.int .u8 0] 0) 5)) w.heap.size []) := by
      show _ = _
      exact (heap_alloc_new _ _).trans (congrArg (fun c => some (Obj.cells c 5)) (Array.eq_empty_of_size_eq_zero (by simp [size_madeCells])))
    have hmk0 : ∀ w, (Instr.makeSlice 35 (.int .i64 0) (.int .i64 0)).run Try.prog w = .ok (.slice (some ⟨w.heap.size, 0, none⟩) 0 0) (w.alloc (.cells (madeCells #[.int .u8 0] 0) 5)) := hmk
    clear h hmk
    go_enter Try.func54, Try.ntmps54
    go_wp2_with (first | (at_builtin; refine wpList_copy_run rfl _ _ 35 35 rfl _ _ rfl rfl hrun ?_))
    go_ret
    exact ⟨rfl, HE.out, bl1 _ _⟩
  | some a =>
    have hnew : (w.alloc (.cells (madeCells #[.int .u8 0] n) 5)).heap[w.heap.size]? = some (.cells (madeCells #[.int .u8 0] n) 5 (0, 0)) := heap_alloc_new _ _
    have hsz : (madeCells #[Value.int .u8 0] n).size = n := by simp [size_madeCells]
    have hrun := run_copy_row Try.prog (w.alloc (.cells (madeCells #[.int .u8 0] n) 5)) 35 35 3 5 w.heap.size 0 n n a n cap _ 5 (xs.map by8) Try.underlying35 info5c hnew (by simp [hl]) (fun j v hj => ((bl1 w _).cell (World.block_lt_of_cell? w _ (h.olds a rfl j v hj))).trans (h.olds a rfl j v hj)) (by rw [hsz]; simp [hl]) (by8_one xs)
    obtain ⟨w2, hw2⟩ : ∃ w2, (w.alloc (.cells (madeCells #[.int .u8 0] n) 5)).setRow w.heap.size ((madeCells #[Value.int .u8 0] n).toList.take 0 ++ xs.map by8 ++ (madeCells #[Value.int .u8 0] n).toList.drop (0 + (xs.map by8).length)).toArray = w2 := ⟨_, rfl⟩
    rw [hw2] at hrun
    have HE : Hid (By w2 w.heap.size xs ∧ Below w.heap.size w w2) := by
      rw [← hw2]
      refine ⟨?_, ?_⟩
      · show _ = _
        rw [setRow_heap _ _ _ _ _ _ hnew]
        congr 3
        rw [List.take_zero, List.nil_append, List.drop_of_length_le (by rw [Array.length_toList, hsz]; simp [hl]), List.append_nil]
      · exact ⟨rfl, rfl, rfl, by simp, fun k hk => (setRow_other _ _ _ _ (by omega)).trans (Below.heap_alloc w _ k hk)⟩
    clear h hw2 hnew
    go_enter Try.func54, Try.ntmps54
    go_wp2_with (first | (at_builtin; refine wpList_copy_run rfl _ _ 35 35 rfl _ _ rfl rfl hrun ?_))
    go_ret
    exact ⟨rfl, HE.out⟩

/-- The value of a packet that is handed in or told. -/
def pkt (f t : Int) (v : Value) : Value := .agg #[.int .i64 f, .int .i64 t, v]
def pxv (f t : Int) (g n : Nat) : Value := .agg #[.int .i64 f, .int .i64 t, .slice (some ⟨g, 0, none⟩) n n, .int .i64 0, .int .i64 0, .int .i64 0]

set_option maxRecDepth 10000 in
set_option maxHeartbeats 1000000 in
theorem keep_any (w : World) (f t : Int) (ao : Option Addr) (n cap : Nat) (xs : List UInt8) (h : Row w ao n cap xs) (hn : n ≤ 140737488355328) :
    Calls Try.prog 45 #[pkt f t (.slice ao n cap)] w fun e w' => ∃ g, e = .returned (pxv f t g n) ∧ w.heap.size ≤ g ∧ By w' g xs ∧ Below w.heap.size w w' := by
  unfold pkt pxv
  obtain ⟨o1, ho1⟩ : ∃ o, o = Obj.cells #[.int .i64 f, .int .i64 t, .slice ao n cap] 49 := ⟨_, rfl⟩
  obtain ⟨o2, ho2⟩ : ∃ o, o = Obj.cells #[.int .i64 0, .int .i64 0, .slice none 0 0, .int .i64 0, .int .i64 0, .int .i64 0] 79 := ⟨_, rfl⟩
  have hb0 := bl2 w o1 o2
  have hc0 : ((w.alloc o1).alloc o2).cell? ⟨w.heap.size, 0, none⟩ = some (.int .i64 f) := by
    rw [(bl1 (w.alloc o1) o2).cell (by simp), ho1]; exact cell_box w _ 49 0 _ rfl
  have hc1 : ((w.alloc o1).alloc o2).cell? ⟨w.heap.size, 1, none⟩ = some (.int .i64 t) := by
    rw [(bl1 (w.alloc o1) o2).cell (by simp), ho1]; exact cell_box w _ 49 1 _ rfl
  have hc2 : ((w.alloc o1).alloc o2).cell? ⟨w.heap.size, 2, none⟩ = some (.slice ao n cap) := by
    rw [(bl1 (w.alloc o1) o2).cell (by simp), ho1]; exact cell_box w _ 49 2 _ rfl
  have hz : ((w.alloc o1).alloc o2).heap[w.heap.size + 1]? = some (.cells #[.int .i64 0, .int .i64 0, .slice none 0 0, .int .i64 0, .int .i64 0, .int .i64 0] 79 (0, 0)) := by
    have := heap_alloc_new (w.alloc o1) o2
    rw [ho2] at this ⊢
    simpa using this
  have hlay := fun wx (hb : Below ((w.alloc o1).alloc o2).heap.size ((w.alloc o1).alloc o2) wx) => lay_any wx ao n cap xs ((h.below hb0 (Nat.le_refl _)).below hb (Nat.le_refl _)) hn
  go_enter Try.func45, Try.ntmps45
  go_wp2_with fail
  rw [← ho1, ← ho2]
  obtain ⟨w0, hw0⟩ : ∃ w0, w0 = (w.alloc o1).alloc o2 := ⟨_, rfl⟩
  rw [← hw0] at hb0 hc0 hc1 hc2 hz hlay ⊢
  have hs0 : w0.heap.size = w.heap.size + 2 := by rw [hw0]; simp
  clear hw0 ho1 ho2 h
  refine wp_region_noPanic ?_
  refine wp_region_held_drew (S := fun wx => wx.cell? ⟨w.heap.size, 0, none⟩ = some (.int .i64 f) ∧ wx.cell? ⟨w.heap.size, 1, none⟩ = some (.int .i64 t) ∧ wx.cell? ⟨w.heap.size, 2, none⟩ = some (.slice ao n cap)) (by kernel_rfl) ⟨hc0, hc1, hc2⟩ (fun hHeld => ?_)
  refine take_first 0 (v := ?_) rfl (by kernel_rfl) (by kernel_rfl) (by kernel_rfl) (fun _ _ _ h => h) (Or.inl ⟨by rfl, by intro wx hSw; (try dsimp only at hSw); obtain ⟨hSw1, hSw2, hSw3⟩ := hSw; go_simp; try with_reducible rfl⟩) (by assumption) ?_
  (try simp only [Act.put, List.setIfInBounds_toArray, List.set_cons_zero, List.set_cons_succ])
  refine take_first 1 (v := ?_) rfl (by kernel_rfl) (by kernel_rfl) (by kernel_rfl) (fun _ _ _ h => h) (Or.inl ⟨by rfl, by intro wx hSw; (try dsimp only at hSw); obtain ⟨hSw1, hSw2, hSw3⟩ := hSw; go_simp; try with_reducible rfl⟩) (by assumption) ?_
  (try simp only [Act.put, List.setIfInBounds_toArray, List.set_cons_zero, List.set_cons_succ])
  refine take_first 2 (v := ?_) rfl (by kernel_rfl) (by kernel_rfl) (by kernel_rfl) (fun _ _ _ h => h) (Or.inl ⟨by rfl, by intro wx hSw; (try dsimp only at hSw); obtain ⟨hSw1, hSw2, hSw3⟩ := hSw; go_simp; try with_reducible rfl⟩) (by assumption) ?_
  (try simp only [Act.put, List.setIfInBounds_toArray, List.set_cons_zero, List.set_cons_succ])
  refine take_first 3 (v := ?_) rfl (by kernel_rfl) (by kernel_rfl) (by kernel_rfl) (fun _ _ _ h => h) (Or.inl ⟨by rfl, by intro wx hSw; (try dsimp only at hSw); obtain ⟨hSw1, hSw2, hSw3⟩ := hSw; go_simp; try with_reducible rfl⟩) (by assumption) ?_
  (try simp only [Act.put, List.setIfInBounds_toArray, List.set_cons_zero, List.set_cons_succ])
  refine take_first 4 (v := ?_) rfl (by kernel_rfl) (by kernel_rfl) (by kernel_rfl) (fun _ _ _ h => h) (Or.inl ⟨by rfl, by intro wx hSw; (try dsimp only at hSw); obtain ⟨hSw1, hSw2, hSw3⟩ := hSw; go_simp; try with_reducible rfl⟩) (by assumption) ?_
  (try simp only [Act.put, List.setIfInBounds_toArray, List.set_cons_zero, List.set_cons_succ])
  refine take_first 5 (v := ?_) rfl (by kernel_rfl) (by kernel_rfl) (by kernel_rfl) (fun _ _ _ h => h) (Or.inl ⟨by rfl, by intro wx hSw; (try dsimp only at hSw); obtain ⟨hSw1, hSw2, hSw3⟩ := hSw; go_simp; try with_reducible rfl⟩) (by assumption) ?_
  (try simp only [Act.put, List.setIfInBounds_toArray, List.set_cons_zero, List.set_cons_succ])
  refine comes_up 6 rfl (by kernel_rfl) (fun K hK => ?_)
  go_simp
  refine (hlay _ (Below.refl _ _).drew).mono ?_
  rintro e w1 ⟨rfl, hby, hb1⟩
  have hb1' : Below w0.heap.size w0 w1 := ⟨hb1.os, hb1.tape, hb1.output, hb1.size, hb1.block⟩
  have hz1 : w1.heap[w.heap.size + 1]? = some (.cells #[.int .i64 0, .int .i64 0, .slice none 0 0, .int .i64 0, .int .i64 0, .int .i64 0] 79 (0, 0)) := (hb1'.block _ (by omega)).trans hz
  have d0 : w1.cell? ⟨w.heap.size, 0, none⟩ = some (.int .i64 f) := (hb1'.cell (show w.heap.size < w0.heap.size by omega)).trans hc0
  have d1 : w1.cell? ⟨w.heap.size, 1, none⟩ = some (.int .i64 t) := (hb1'.cell (show w.heap.size < w0.heap.size by omega)).trans hc1
  have d2 : w1.cell? ⟨w.heap.size, 2, none⟩ = some (.slice ao n cap) := (hb1'.cell (show w.heap.size < w0.heap.size by omega)).trans hc2
  go_wp2_with fail
  refine hK.out _ _ ⟨d0, d1, d2⟩ (fun hHeld => ?_)
  clear hK K
  (try simp only [Act.put, List.setIfInBounds_toArray, List.set_cons_zero, List.set_cons_succ])
  refine take_first 7 (v := ?_) rfl (by kernel_rfl) (by kernel_rfl) (by kernel_rfl) (fun _ _ _ h => h) (Or.inl ⟨by rfl, by intro wx hSw; (try dsimp only at hSw); go_simp; try with_reducible rfl⟩) (by assumption) ?_
  (try simp only [Act.put, List.setIfInBounds_toArray, List.set_cons_zero, List.set_cons_succ])
  obtain ⟨w2, hw2⟩ : ∃ w2, w1.setRow (w.heap.size + 1) #[.int .i64 f, .int .i64 t, .slice (some ⟨w.heap.size + 2, 0, none⟩) n n, .int .i64 0, .int .i64 0, .int .i64 0] = w2 := ⟨_, rfl⟩
  have hrun : (storeCells ⟨w.heap.size + 1, 0, none⟩ [.int .i64 f, .int .i64 t, .slice (some ⟨w.heap.size + 2, 0, none⟩) n n, .int .i64 0, .int .i64 0, .int .i64 0] 0).run Try.prog w1 = .ok () w2 := by
    rw [← hw2]
    exact store_whole hz1 rfl (by simp [Value.oneCell'])
  have HE : Hid (∃ g, w.heap.size ≤ g ∧ g = w.heap.size + 2 ∧ By w2 g xs ∧ Below w.heap.size w w2) := by
    rw [← hw2]
    refine ⟨w.heap.size + 2, by omega, rfl, By.of (hs0 ▸ (show By w1 w0.heap.size xs from hby)) (setRow_other _ _ _ _ (by omega)), ?_⟩
    have hbb : Below w.heap.size w w1 := hb0.trans (hb1'.mono (by omega))
    exact ⟨hbb.os, hbb.tape, hbb.output, by have := hbb.size; simp; omega, fun k hk => (setRow_other _ _ _ _ (by omega)).trans (hbb.block k hk)⟩
  have hh2 : w2.heap[w.heap.size + 1]? = some (.cells #[.int .i64 f, .int .i64 t, .slice (some ⟨w.heap.size + 2, 0, none⟩) n n, .int .i64 0, .int .i64 0, .int .i64 0] 79 (0, 0)) := by
    rw [← hw2]; exact setRow_heap _ _ _ _ _ _ hz1
  have e0 : w2.cell? ⟨w.heap.size, 0, none⟩ = some (.int .i64 f) := by rw [cell_block (w := w1) (by rw [← hw2]; exact setRow_other _ _ _ _ (by omega))]; exact d0
  have e1 : w2.cell? ⟨w.heap.size, 1, none⟩ = some (.int .i64 t) := by rw [cell_block (w := w1) (by rw [← hw2]; exact setRow_other _ _ _ _ (by omega))]; exact d1
  have e2 : w2.cell? ⟨w.heap.size, 2, none⟩ = some (.slice ao n cap) := by rw [cell_block (w := w1) (by rw [← hw2]; exact setRow_other _ _ _ _ (by omega))]; exact d2
  clear hw2
  refine comes_up 8 rfl (by kernel_rfl) (fun K hK => ?_)
  refine step_store_cells rfl 79 (.tmp 2) (.tmp 10) rfl ⟨w.heap.size + 1, 0, none⟩ #[.int .i64 f, .int .i64 t, .slice (some ⟨w.heap.size + 2, 0, none⟩) n n, .int .i64 0, .int .i64 0, .int .i64 0] rfl rfl info79 w2 hrun ?_
  refine hK.out _ _ ⟨e0, e1, e2⟩ (fun hHeld => ?_)
  clear hK K
  (try simp only [Act.put, List.setIfInBounds_toArray, List.set_cons_zero, List.set_cons_succ])
  refine wpAnyH_done (by kernel_rfl) ?_ _
  refine NoPanic.normal ?_
  go_wp2_with fail
  refine bodyPost_ret (results_cell1 Try.results45 rfl (load79 hh2 rfl)) rfl ?_
  obtain ⟨g, k1, k2, k3, k4⟩ := HE.out
  exact ⟨g, by rw [k2], k1, k3, k4⟩
end Go.Proofs.Ytagabmhgcmnldaa
