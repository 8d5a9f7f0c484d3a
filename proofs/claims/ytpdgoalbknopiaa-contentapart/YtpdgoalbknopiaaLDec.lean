/-
  Labels out of bytes: Decode of package label.
-/
import Derived.Test.YtpdgoalbknopiaaLRefE
import Derived.Laws.Tables
namespace Go.Proofs.Ytpdgoalbknopiaa
open Go.RowKit
set_option linter.unusedVariables false
set_option linter.unusedSimpArgs false

/-- The next label of what is left, and what is left behind it. -/
def decL (st : Option (List UInt8)) : Lb × Option (List UInt8) :=
  match formL ((decV st).1.1, ((decV st).1.2 : Int), (Cd.rUint (decV st).2).1, ((Cd.rInt (Cd.rUint (decV st).2).2 15).1 : Int)), (Cd.rInt (Cd.rUint (decV st).2).2 15).2 with
  | true, some ys => (((decV st).1.1, ((decV st).1.2 : Int), (Cd.rUint (decV st).2).1, ((Cd.rInt (Cd.rUint (decV st).2).2 15).1 : Int)), some ys)
  | _, _ => ((0, 0, 0, 0), none)

theorem step_store_row {P : Program} {ops : Array Oper} {o : Oper} {a : Act} {w : World} {K : Act → World → Prop} {Q : Exit → Act → World → Prop} {E : Prop} (hgd : o.guard = none) (ty : TypeId) (x y : Operand) (ho : o.op = .store ty x y)
    (g : Nat) (cells : Array Value) (hx : a.eval x = .pointer (some ⟨g, 0, none⟩)) (hy : a.eval y = .agg cells) (t : TypeId) (old : Array Value) (hg : w.heap[g]? = some (.cells old t (0, 0))) (hi : (P.info? ty).map (·.size) = some cells.size)
    (hold : old.size = cells.size) (h1 : cells.all (·.oneCell') = true) (h : K (a.put o.dst undef) (w.setRow g cells)) : if Region.wanted o (yielded ops a.tmps) = true then Oper.wp P o a w K Q else E := by
  have hw : Region.wanted o (yielded ops a.tmps) = true := by simp [Region.wanted, hgd]
  rw [if_pos hw]
  exact wp_store_row ty x y ho g cells hx hy t old hg hi hold h1 h
theorem infoS26 : (Try.prog.info? 26).map (·.size) = some 4 := by kernel_rfl

def zeroLab : Array Value := #[.int .u64 0, .int .i64 0, .int .u64 0, .int .i64 0]
/-- Cells of which none is a byte. -/
def noByte (c : Array Value) : Prop := ∀ v ∈ c.toList, ∀ k, v ≠ .int .u8 k
theorem row_setRow {w : World} {ao : Option Addr} {n cap B : Nat} {xs : List UInt8} {old new : Array Value} {t : TypeId} (h : Cd.Row w ao n cap xs) (hB : w.heap[B]? = some (.cells old t (0, 0))) (ho : noByte old) : Cd.Row (w.setRow B new) ao n cap xs := by
  obtain ⟨h1, h2, h3, h4, h5⟩ := h
  refine ⟨h1, h2, h3, h4, fun b hb i hi => ?_⟩
  have hc := h5 b hb i hi
  have hs := World.cell?_spot hc
  generalize hba : b.add i = ba at *
  obtain ⟨blk, off, spot⟩ := ba
  simp only at hs
  subst hs
  by_cases e : blk = B
  · exfalso
    subst e
    rw [cell_of_row w blk off _ t (0, 0) hB] at hc
    obtain ⟨hm1, hm2⟩ := Array.getElem?_eq_some_iff.1 hc
    exact ho _ (by rw [← hm2]; simp) _ rfl
  · rw [cell_setRow_other _ _ _ _ e]
    exact hc
theorem rd_setRow {w : World} {r B : Nat} {st : Option (List UInt8)} {old new : Array Value} {t : TypeId} (h : Cd.Rd w r st) (hr : r ≠ B) (hB : w.heap[B]? = some (.cells old t (0, 0))) (ho : noByte old) : Cd.Rd (w.setRow B new) r st := by
  have he : (w.setRow B new).heap[r]? = w.heap[r]? := setRow_other _ _ _ _ hr
  cases st with
  | none => exact he.trans h
  | some xs =>
    obtain ⟨ao, n, cap, h1, h2⟩ := h
    exact ⟨ao, n, cap, he.trans h1, row_setRow h2.1 hB ho, h2.2⟩
theorem gr_row {w W : World} {r B : Nat} (h : w.grownBy W (some r)) (hB : w.heap.size ≤ B) (cs : Array Value) : w.grownBy (W.setRow B cs) (some r) :=
  ⟨h.os, h.tape, h.output, by simpa using h.size, fun k hk hne => (setRow_other _ _ _ _ (by omega)).trans (h.block k hk hne)⟩
theorem gr_of {w W : World} (h : Below w.heap.size w W) (r : Option Nat) : w.grownBy W r := ⟨h.os, h.tape, h.output, h.size, fun k hk _ => h.block k hk⟩
theorem rInt_neg (st : Option (List UInt8)) : Cd.rInt st (-1) = (0, none) := by
  unfold Cd.rInt
  cases (Cd.rUint st).2 with
  | none => rfl
  | some ys => simp

/-- What the call holds of memory: its reader, its answer's place, and the label that it has read. -/
structure Gl (w W : World) (r D : Nat) (x : Lb) (st : Option (List UInt8)) : Prop where
  rd : Cd.Rd W r st
  ans : W.heap[w.heap.size]? = some (.cells #[.int .u64 0, .int .i64 0, .int .u64 0, .int .i64 0] 26 (0, 0))
  got : W.heap[D]? = some (.cells #[.int .u64 (x.1 : Nat), .int .i64 x.2.1, .int .u64 (x.2.2.1 : Nat), .int .i64 x.2.2.2] 26 (0, 0))
  gr : w.grownBy W (some r)
  rl : r < w.heap.size
  dl : w.heap.size < D
theorem Gl.below {w W W' : World} {r D : Nat} {x : Lb} {st : Option (List UInt8)} (h : Gl w W r D x st) (hb : Below W.heap.size W W') : Gl w W' r D x st where
  rd := Cd.rd_below h.rd hb
  ans := (hb.block _ (Array.getElem?_eq_some_iff.1 h.ans).1).trans h.ans
  got := (hb.block _ (Array.getElem?_eq_some_iff.1 h.got).1).trans h.got
  gr := Cd.grown_trans h.gr (gr_of hb _)
  rl := h.rl
  dl := h.dl
theorem Gl.step {w W W' : World} {r D : Nat} {x : Lb} {st st' : Option (List UInt8)} (h : Gl w W r D x st) (hr : Cd.Rd W' r st') (g : W.grownBy W' (some r)) : Gl w W' r D x st' where
  rd := hr
  ans := (g.block _ (Array.getElem?_eq_some_iff.1 h.ans).1 (by have := h.rl; simp; omega)).trans h.ans
  got := (g.block _ (Array.getElem?_eq_some_iff.1 h.got).1 (by have := h.rl; have := h.dl; simp; omega)).trans h.got
  gr := Cd.grown_trans h.gr g
  rl := h.rl
  dl := h.dl
theorem Gl.cells {w W : World} {r D : Nat} {x : Lb} {st : Option (List UInt8)} (h : Gl w W r D x st) : W.cell? ⟨D, 0, none⟩ = some (.int .u64 (x.1 : Nat)) ∧ W.cell? ⟨D, 1, none⟩ = some (.int .i64 x.2.1) ∧ W.cell? ⟨D, 2, none⟩ = some (.int .u64 (x.2.2.1 : Nat)) ∧ W.cell? ⟨D, 3, none⟩ = some (.int .i64 x.2.2.2) :=
  ⟨by rw [cell_of_row W D 0 _ 26 (0, 0) h.got]; rfl, by rw [cell_of_row W D 1 _ 26 (0, 0) h.got]; rfl, by rw [cell_of_row W D 2 _ 26 (0, 0) h.got]; rfl, by rw [cell_of_row W D 3 _ 26 (0, 0) h.got]; rfl⟩
theorem noByte_lab (n : Int) (p s q : Int) : noByte #[.int .u64 n, .int .i64 p, .int .u64 s, .int .i64 q] := by
  intro v hv k
  simp at hv
  rcases hv with rfl | rfl | rfl | rfl <;> simp
/-- The answer laid. -/
theorem Gl.told {w W : World} {r D : Nat} {x : Lb} {st : Option (List UInt8)} (h : Gl w W r D x st) (n p s q : Int) : (∀ j v, #[Value.int .u64 n, .int .i64 p, .int .u64 s, .int .i64 q][j]? = some v → (W.setRow w.heap.size #[.int .u64 n, .int .i64 p, .int .u64 s, .int .i64 q]).cell? ⟨w.heap.size, j, none⟩ = some v) ∧
    Hid (Cd.Rd (W.setRow w.heap.size #[.int .u64 n, .int .i64 p, .int .u64 s, .int .i64 q]) r st ∧ w.grownBy (W.setRow w.heap.size #[.int .u64 n, .int .i64 p, .int .u64 s, .int .i64 q]) (some r)) := by
  refine ⟨fun j v hj => ?_, rd_setRow h.rd (by have := h.rl; omega) h.ans (noByte_lab _ _ _ _), gr_row h.gr (Nat.le_refl _) _⟩
  rw [cell_setRow_same _ _ _ _ _ _ _ h.ans]
  exact hj
/-- The label laid. -/
theorem Gl.laid {w W : World} {r D : Nat} {st : Option (List UInt8)} {old : Array Value} (x : Lb) (rd : Cd.Rd W r st) (ans : W.heap[w.heap.size]? = some (.cells #[.int .u64 0, .int .i64 0, .int .u64 0, .int .i64 0] 26 (0, 0))) (hD : W.heap[D]? = some (.cells old 26 (0, 0))) (ho : noByte old) (gr : w.grownBy W (some r)) (rl : r < w.heap.size) (dl : w.heap.size < D) :
    Gl w (W.setRow D #[.int .u64 (x.1 : Nat), .int .i64 x.2.1, .int .u64 (x.2.2.1 : Nat), .int .i64 x.2.2.2]) r D x st where
  rd := rd_setRow rd (by omega) hD ho
  ans := (setRow_other _ _ _ _ (by omega)).trans ans
  got := setRow_heap _ _ _ _ _ _ hD
  gr := gr_row gr (by omega) _
  rl := rl
  dl := dl

set_option maxRecDepth 10000 in
set_option maxHeartbeats 2000000 in
theorem decodeL_rd (w : World) (r : Nat) (st : Option (List UInt8)) (h : Cd.Rd w r st) :
    Calls Try.prog 67 #[.pointer (some ⟨r, 0, none⟩)] w fun e w' => e = .returned (.tuple #[lab (decL st).1, .bool (decL st).2.isSome]) ∧ Cd.Rd w' r (decL st).2 ∧ w.grownBy w' (some r) := by
  have hrl := h.lt
  have h1 := rd_alloc h (.cells #[.int .u64 0, .int .i64 0, .int .u64 0, .int .i64 0] 26)
  have hdv := decode_rd _ r st h1
  have huv := fun W (hW : Cd.Rd W r (decV st).2) => Cd.uint_rd W r (decV st).2 hW
  have hiv := fun W (hW : Cd.Rd W r (Cd.rUint (decV st).2).2) => Cd.int_rd W r (Cd.rUint (decV st).2).2 hW 15 (by omega) (by omega)
  have HD : Hid (decL st = match formL ((decV st).1.1, ((decV st).1.2 : Int), (Cd.rUint (decV st).2).1, ((Cd.rInt (Cd.rUint (decV st).2).2 15).1 : Int)), (Cd.rInt (Cd.rUint (decV st).2).2 15).2 with
    | true, some ys => (((decV st).1.1, ((decV st).1.2 : Int), (Cd.rUint (decV st).2).1, ((Cd.rInt (Cd.rUint (decV st).2).2 15).1 : Int)), some ys)
    | _, _ => ((0, 0, 0, 0), none)) := rfl
  generalize decL st = dl at *
  generalize (Cd.rInt (Cd.rUint (decV st).2).2 15) = ri at *
  obtain ⟨Q, st3⟩ := ri
  generalize (Cd.rUint (decV st).2) = ru at *
  obtain ⟨S, st2⟩ := ru
  generalize decV st = dv at *
  obtain ⟨⟨N, P⟩, st1⟩ := dv
  simp only at HD hdv huv hiv
  have hng := fun W (hW : Cd.Rd W r st3) => Cd.int_rd W r st3 hW (-1) (by omega) (by omega)
  simp only [rInt_neg] at hng
  unfold vid at hdv
  have hform := fun W => formL_any W (N, (P : Int), S, (Q : Int))
  have HF : Hid _ := hform
  generalize hfm : formL (N, (P : Int), S, (Q : Int)) = fm at *
  have hans0 : (w.alloc (.cells #[.int .u64 0, .int .i64 0, .int .u64 0, .int .i64 0] 26)).heap[w.heap.size]? = some (.cells #[.int .u64 0, .int .i64 0, .int .u64 0, .int .i64 0] 26 (0, 0)) := heap_alloc_new _ _
  have gr0 : w.grownBy (w.alloc (.cells #[.int .u64 0, .int .i64 0, .int .u64 0, .int .i64 0] 26)) (some r) := gr_of (bl1 _ _) _
  clear HF hfm
  go_enter Try.func67, Try.ntmps67
  go_wp2_with fail
  refine hdv.mono ?_
  rintro e w1 ⟨rfl, rd1, g1⟩
  have ans1 := (g1.block _ (by simp) (by simp; omega)).trans hans0
  have gr1 := Cd.grown_trans gr0 g1
  have hw1 : w.heap.size < w1.heap.size := (Array.getElem?_eq_some_iff.1 ans1).1
  have rd2 := rd_alloc rd1 (.cells #[.int .u64 (N : Nat), .int .i64 (P : Nat)] 24)
  have ub : Below w1.heap.size w1 (w1.alloc (.cells #[.int .u64 (N : Nat), .int .i64 (P : Nat)] 24)) := bl1 _ _
  have ans2 := (ub.block _ hw1).trans ans1
  have gr2 := Cd.grown_trans gr1 (gr_of ub _)
  have c20 := cell_box w1 #[Value.int .u64 (N : Nat), .int .i64 (P : Nat)] 24 0 _ rfl
  have c21 := cell_box w1 #[Value.int .u64 (N : Nat), .int .i64 (P : Nat)] 24 1 _ rfl
  have huv2 := huv _ rd2
  clear hdv huv h h1 rd1 g1 ans1 gr1 ub hans0 gr0 rd2
  go_wp2_with fail
  refine huv2.mono ?_
  rintro e w3 ⟨rfl, rd3, g3⟩
  have ans3 := (g3.block _ (by simp; omega) (by simp; omega)).trans ans2
  have gr3 := Cd.grown_trans gr2 g3
  have c30 := g3.cell c20 (by simp; omega)
  have c31 := g3.cell c21 (by simp; omega)
  have hw3 : w1.heap.size < w3.heap.size := World.block_lt_of_cell? w3 _ c30
  clear huv2 g3 ans2 gr2 c20 c21
  go_wp2_with fail
  refine wp_region_noPanic ?_
  refine wp_region_held_drew (S := fun wx => wx.cell? ⟨w1.heap.size, 0, none⟩ = some (.int .u64 (N : Nat)) ∧ wx.cell? ⟨w1.heap.size, 1, none⟩ = some (.int .i64 (P : Nat))) (by kernel_rfl) ⟨c30, c31⟩ (fun hHeld => ?_)
  refine take_first 0 (v := ?_) rfl (by kernel_rfl) (by kernel_rfl) (by kernel_rfl) (fun _ _ _ h => h) (Or.inl ⟨by rfl, by intro wx hSw; obtain ⟨a0, a1⟩ := hSw; go_simp; try with_reducible rfl⟩) (by assumption) ?_
  (try simp only [Act.put, List.setIfInBounds_toArray, List.set_cons_zero, List.set_cons_succ])
  refine take_first 1 (v := ?_) rfl (by kernel_rfl) (by kernel_rfl) (by kernel_rfl) (fun _ _ _ h => h) (Or.inl ⟨by rfl, by intro wx hSw; obtain ⟨a0, a1⟩ := hSw; go_simp; try with_reducible rfl⟩) (by assumption) ?_
  (try simp only [Act.put, List.setIfInBounds_toArray, List.set_cons_zero, List.set_cons_succ])
  refine take_first 2 (v := ?_) rfl (by kernel_rfl) (by kernel_rfl) (by kernel_rfl) (fun _ _ _ h => h) (Or.inl ⟨by rfl, by intro wx hSw; obtain ⟨a0, a1⟩ := hSw; go_simp; try with_reducible rfl⟩) (by assumption) ?_
  (try simp only [Act.put, List.setIfInBounds_toArray, List.set_cons_zero, List.set_cons_succ])
  refine comes_up2 3 5 rfl rfl (by kernel_rfl) (fun K hK => ?_) (fun K hK => ?_)
  · go_simp
    refine (hiv w3.drew rd3).mono ?_
    rintro e w4 ⟨rfl, rd4, g4⟩
    have ans4 := (g4.block _ (by show _ < w3.heap.size; omega) (by simp; omega)).trans ans3
    have gr4 := Cd.grown_trans (show w.grownBy w3.drew (some r) from ⟨gr3.os, gr3.tape, gr3.output, gr3.size, gr3.block⟩) g4
    have hS4 : w4.cell? ⟨w1.heap.size, 0, none⟩ = some (.int .u64 (N : Nat)) ∧ w4.cell? ⟨w1.heap.size, 1, none⟩ = some (.int .i64 (P : Nat)) := ⟨g4.cell (show w3.drew.cell? _ = _ from c30) (by simp; omega), g4.cell (show w3.drew.cell? _ = _ from c31) (by simp; omega)⟩
    have hw4 : w.heap.size < w4.heap.size := (Array.getElem?_eq_some_iff.1 ans4).1
    have ua : Below w4.heap.size w4 (w4.alloc (.cells #[.int .u64 0, .int .i64 0, .int .u64 0, .int .i64 0] 26)) := bl1 _ _
    have hS5 : (w4.alloc (.cells #[.int .u64 0, .int .i64 0, .int .u64 0, .int .i64 0] 26)).cell? ⟨w1.heap.size, 0, none⟩ = some (.int .u64 (N : Nat)) ∧ (w4.alloc (.cells #[.int .u64 0, .int .i64 0, .int .u64 0, .int .i64 0] 26)).cell? ⟨w1.heap.size, 1, none⟩ = some (.int .i64 (P : Nat)) :=
      ⟨(ua.cell (World.block_lt_of_cell? w4 _ hS4.1)).trans hS4.1, (ua.cell (World.block_lt_of_cell? w4 _ hS4.2)).trans hS4.2⟩
    have hD5 : (w4.alloc (.cells #[.int .u64 0, .int .i64 0, .int .u64 0, .int .i64 0] 26)).heap[w4.heap.size]? = some (.cells #[.int .u64 0, .int .i64 0, .int .u64 0, .int .i64 0] 26 (0, 0)) := heap_alloc_new _ _
    have hw14 : w1.heap.size < w4.heap.size := World.block_lt_of_cell? w4 _ hS4.1
    have G := Gl.laid (w := w) (N, (P : Int), S, (Q : Int)) (rd_alloc rd4 (.cells #[.int .u64 0, .int .i64 0, .int .u64 0, .int .i64 0] 26)) ((ua.block _ hw4).trans ans4) hD5 (noByte_lab _ _ _ _) (Cd.grown_trans gr4 (gr_of ua _)) hrl hw4
    have hS6 : ((w4.alloc (.cells #[.int .u64 0, .int .i64 0, .int .u64 0, .int .i64 0] 26)).setRow w4.heap.size #[.int .u64 (N : Nat), .int .i64 (P : Nat), .int .u64 (S : Nat), .int .i64 (Q : Nat)]).cell? ⟨w1.heap.size, 0, none⟩ = some (.int .u64 (N : Nat)) ∧ ((w4.alloc (.cells #[.int .u64 0, .int .i64 0, .int .u64 0, .int .i64 0] 26)).setRow w4.heap.size #[.int .u64 (N : Nat), .int .i64 (P : Nat), .int .u64 (S : Nat), .int .i64 (Q : Nat)]).cell? ⟨w1.heap.size, 1, none⟩ = some (.int .i64 (P : Nat)) :=
      ⟨(cell_setRow_other _ _ _ _ (by show w1.heap.size ≠ w4.heap.size; omega)).trans hS5.1, (cell_setRow_other _ _ _ _ (by show w1.heap.size ≠ w4.heap.size; omega)).trans hS5.2⟩
    simp only at G
    clear hiv g4 rd4 ans4 gr4 rd3 ans3 gr3 c30 c31 hHeld ua
    go_wp2_with fail
    refine hK.out _ _ hS4 (fun hHeld => ?_)
    clear hK K
    (try simp only [Act.put, List.setIfInBounds_toArray, List.set_cons_zero, List.set_cons_succ])
    refine take_first 4 (v := ?_) rfl (by kernel_rfl) (by kernel_rfl) (by kernel_rfl) (fun _ _ _ h => h) (Or.inl ⟨by rfl, by intro wx hSw; obtain ⟨a0, a1⟩ := hSw; go_simp; try with_reducible rfl⟩) (by assumption) ?_
    (try simp only [Act.put, List.setIfInBounds_toArray, List.set_cons_zero, List.set_cons_succ])
    refine comes_up 5 rfl (by kernel_rfl) (fun K hK => ?_)
    go_simp
    refine hK.out _ _ hS5 (fun hHeld => ?_)
    clear hK K
    (try simp only [Act.put, List.setIfInBounds_toArray, List.set_cons_zero, List.set_cons_succ])
    refine comes_up 6 rfl (by kernel_rfl) (fun K hK => ?_)
    refine step_store_row rfl 26 (.tmp 7) (.tmp 19) rfl w4.heap.size #[.int .u64 (N : Nat), .int .i64 (P : Nat), .int .u64 (S : Nat), .int .i64 (Q : Nat)] (by simp [Act.eval]) (by simp [Act.eval]) 26 _ hD5 infoS26 rfl (by simp [Value.oneCell']) ?_
    refine hK.out _ _ hS6 (fun hHeld => ?_)
    clear hK K
    (try simp only [Act.put, List.setIfInBounds_toArray, List.set_cons_zero, List.set_cons_succ])
    refine wpAnyH_done (by kernel_rfl) ?_ _
    refine NoPanic.normal ?_
    clear hS4 hS5 hS6 hHeld hD5
    generalize hD : w4.heap.size = D at G ⊢
    generalize hW5 : (w4.alloc (.cells #[.int .u64 0, .int .i64 0, .int .u64 0, .int .i64 0] 26)).setRow D #[.int .u64 (N : Nat), .int .i64 (P : Nat), .int .u64 (S : Nat), .int .i64 (Q : Nat)] = W5 at G ⊢
    clear hW5 hD hw4 hw14
    obtain ⟨d0, d1, d2, d3⟩ := G.cells
    simp only at d0 d1 d2 d3
    unfold lab at hform
    simp only at hform
    cases fm with
    | false =>
      have HR : Hid (dl = ((0, 0, 0, 0), none)) := by
        show _ = _
        rw [HD.out]
      go_wp2_with fail
      refine (hform _).mono ?_
      rintro e w6 ⟨rfl, hu6⟩
      have G6 := G.below hu6.bl
      clear G hform hu6 d0 d1 d2 d3
      have hng6 := hng _ G6.rd
      go_wp2_with fail
      refine hng6.mono ?_
      rintro e w7 ⟨rfl, rd7, g7⟩
      have G7 := G6.step rd7 g7
      clear hng hng6 g7 G6 rd7
      have hb7 := Cd.bad_rd _ _ _ G7.rd
      go_wp2_with fail
      refine hb7.mono ?_
      rintro e w8 ⟨rfl, rfl⟩
      obtain ⟨hc, HE⟩ := G7.told 0 0 0 0
      have k0 := hc 0 _ rfl
      have k1 := hc 1 _ rfl
      have k2 := hc 2 _ rfl
      have k3 := hc 3 _ rfl
      have hans := G7.ans
      clear hb7 G7 hc
      go_wp2_with (first | (refine wpList_store_row rfl 26 (.tmp 2) (.tmp 27) rfl w.heap.size #[.int .u64 0, .int .i64 0, .int .u64 0, .int .i64 0] rfl rfl 26 _ hans infoS26 rfl (by simp [Value.oneCell']) ?_))
      refine bodyPost_ret (v := .tuple #[.agg #[.int .u64 0, .int .i64 0, .int .u64 0, .int .i64 0], .bool false]) ?_ rfl ?_
      · simp [results, Try.results67, go_sem, k0, k1, k2, k3]
      · rw [HR.out]
        exact ⟨rfl, HE.out⟩
    | true =>
      go_wp2_with fail
      refine (hform _).mono ?_
      rintro e w6 ⟨rfl, hu6⟩
      have G6 := G.below hu6.bl
      clear G hform hu6 d0 d1 d2 d3 hng
      have hb7 := Cd.bad_rd _ _ _ G6.rd
      cases st3 with
      | none =>
        have HR : Hid (dl = ((0, 0, 0, 0), none)) := by
          show _ = _
          rw [HD.out]
        go_wp2_with fail
        refine hb7.mono ?_
        rintro e w8 ⟨rfl, rfl⟩
        obtain ⟨hc, HE⟩ := G6.told 0 0 0 0
        have k0 := hc 0 _ rfl
        have k1 := hc 1 _ rfl
        have k2 := hc 2 _ rfl
        have k3 := hc 3 _ rfl
        have hans := G6.ans
        clear hb7 G6 hc
        go_wp2_with (first | (refine wpList_store_row rfl 26 (.tmp 2) (.tmp 27) rfl w.heap.size #[.int .u64 0, .int .i64 0, .int .u64 0, .int .i64 0] rfl rfl 26 _ hans infoS26 rfl (by simp [Value.oneCell']) ?_))
        refine bodyPost_ret (v := .tuple #[.agg #[.int .u64 0, .int .i64 0, .int .u64 0, .int .i64 0], .bool false]) ?_ rfl ?_
        · simp [results, Try.results67, go_sem, k0, k1, k2, k3]
        · rw [HR.out]
          exact ⟨rfl, HE.out⟩
      | some ys =>
        have HR : Hid (dl = ((N, (P : Int), S, (Q : Int)), some ys)) := by
          show _ = _
          rw [HD.out]
        go_wp2_with fail
        refine hb7.mono ?_
        rintro e w8 ⟨rfl, rfl⟩
        obtain ⟨hc, HE⟩ := G6.told (N : Nat) (P : Nat) (S : Nat) (Q : Nat)
        have k0 := hc 0 _ rfl
        have k1 := hc 1 _ rfl
        have k2 := hc 2 _ rfl
        have k3 := hc 3 _ rfl
        have hans := G6.ans
        obtain ⟨d0, d1, d2, d3⟩ := G6.cells
        simp only at d0 d1 d2 d3
        clear hb7 G6 hc
        go_wp2_with (first | (refine wpList_store_row rfl 26 (.tmp 2) (.tmp 28) rfl w.heap.size #[.int .u64 (N : Nat), .int .i64 (P : Nat), .int .u64 (S : Nat), .int .i64 (Q : Nat)] rfl rfl 26 _ hans infoS26 rfl (by simp [Value.oneCell']) ?_))
        refine bodyPost_ret (v := .tuple #[.agg #[.int .u64 (N : Nat), .int .i64 (P : Nat), .int .u64 (S : Nat), .int .i64 (Q : Nat)], .bool true]) ?_ rfl ?_
        · simp [results, Try.results67, go_sem, k0, k1, k2, k3]
        · rw [HR.out]
          exact ⟨rfl, HE.out⟩
  · go_simp
    have ua : Below w3.heap.size w3 (w3.alloc (.cells #[.int .u64 0, .int .i64 0, .int .u64 0, .int .i64 0] 26)) := bl1 _ _
    have rd3' : Cd.Rd (w3.alloc (.cells #[.int .u64 0, .int .i64 0, .int .u64 0, .int .i64 0] 26)).drew r st2 := rd_alloc rd3 (.cells #[.int .u64 0, .int .i64 0, .int .u64 0, .int .i64 0] 26)
    have hS4 : (w3.alloc (.cells #[.int .u64 0, .int .i64 0, .int .u64 0, .int .i64 0] 26)).drew.cell? ⟨w1.heap.size, 0, none⟩ = some (.int .u64 (N : Nat)) ∧ (w3.alloc (.cells #[.int .u64 0, .int .i64 0, .int .u64 0, .int .i64 0] 26)).drew.cell? ⟨w1.heap.size, 1, none⟩ = some (.int .i64 (P : Nat)) :=
      ⟨(ua.cell (World.block_lt_of_cell? w3 _ c30)).trans c30, (ua.cell (World.block_lt_of_cell? w3 _ c31)).trans c31⟩
    have hD3 : (w3.alloc (.cells #[.int .u64 0, .int .i64 0, .int .u64 0, .int .i64 0] 26)).drew.heap[w3.heap.size]? = some (.cells #[.int .u64 0, .int .i64 0, .int .u64 0, .int .i64 0] 26 (0, 0)) := heap_alloc_new _ _
    have ans3' : (w3.alloc (.cells #[.int .u64 0, .int .i64 0, .int .u64 0, .int .i64 0] 26)).drew.heap[w.heap.size]? = some (.cells #[.int .u64 0, .int .i64 0, .int .u64 0, .int .i64 0] 26 (0, 0)) := (ua.block _ (by omega)).trans ans3
    have gr3' : w.grownBy (w3.alloc (.cells #[.int .u64 0, .int .i64 0, .int .u64 0, .int .i64 0] 26)).drew (some r) := by
      have q := Cd.grown_trans gr3 (gr_of ua _)
      exact ⟨q.os, q.tape, q.output, q.size, q.block⟩
    have hiv3 := hiv _ rd3'
    have hsz3 : (w3.alloc (.cells #[.int .u64 0, .int .i64 0, .int .u64 0, .int .i64 0] 26)).drew.heap.size = w3.heap.size + 1 := by show (w3.alloc _).heap.size = _; simp
    clear hHeld hiv rd3 ans3 gr3 ua
    refine hK.out _ _ hS4 (fun hHeld => ?_)
    clear hK K
    (try simp only [Act.put, List.setIfInBounds_toArray, List.set_cons_zero, List.set_cons_succ])
    refine comes_up 3 rfl (by kernel_rfl) (fun K hK => ?_)
    go_simp
    refine hiv3.mono ?_
    rintro e w4 ⟨rfl, rd4, g4⟩
    have ans4 := (g4.block _ (by rw [hsz3]; omega) (by simp; omega)).trans ans3'
    have hD4 := (g4.block w3.heap.size (by rw [hsz3]; omega) (by simp; omega)).trans hD3
    have gr4 := Cd.grown_trans gr3' g4
    have hS5 : w4.cell? ⟨w1.heap.size, 0, none⟩ = some (.int .u64 (N : Nat)) ∧ w4.cell? ⟨w1.heap.size, 1, none⟩ = some (.int .i64 (P : Nat)) := ⟨g4.cell hS4.1 (by simp; omega), g4.cell hS4.2 (by simp; omega)⟩
    have G := Gl.laid (w := w) (N, (P : Int), S, (Q : Int)) rd4 ans4 hD4 (noByte_lab _ _ _ _) gr4 hrl (by omega)
    have hS6 : (w4.setRow w3.heap.size #[.int .u64 (N : Nat), .int .i64 (P : Nat), .int .u64 (S : Nat), .int .i64 (Q : Nat)]).cell? ⟨w1.heap.size, 0, none⟩ = some (.int .u64 (N : Nat)) ∧ (w4.setRow w3.heap.size #[.int .u64 (N : Nat), .int .i64 (P : Nat), .int .u64 (S : Nat), .int .i64 (Q : Nat)]).cell? ⟨w1.heap.size, 1, none⟩ = some (.int .i64 (P : Nat)) :=
      ⟨(cell_setRow_other _ _ _ _ (by show w1.heap.size ≠ w3.heap.size; omega)).trans hS5.1, (cell_setRow_other _ _ _ _ (by show w1.heap.size ≠ w3.heap.size; omega)).trans hS5.2⟩
    simp only at G
    clear hiv3 g4 rd4 ans4 gr4 hS4 hHeld ans3' gr3' hD3 c30 c31 rd3'
    go_wp2_with fail
    refine hK.out _ _ hS5 (fun hHeld => ?_)
    clear hK K
    (try simp only [Act.put, List.setIfInBounds_toArray, List.set_cons_zero, List.set_cons_succ])
    refine take_first 4 (v := ?_) rfl (by kernel_rfl) (by kernel_rfl) (by kernel_rfl) (fun _ _ _ h => h) (Or.inl ⟨by rfl, by intro wx hSw; obtain ⟨a0, a1⟩ := hSw; go_simp; try with_reducible rfl⟩) (by assumption) ?_
    (try simp only [Act.put, List.setIfInBounds_toArray, List.set_cons_zero, List.set_cons_succ])
    refine comes_up 6 rfl (by kernel_rfl) (fun K hK => ?_)
    refine step_store_row rfl 26 (.tmp 7) (.tmp 19) rfl w3.heap.size #[.int .u64 (N : Nat), .int .i64 (P : Nat), .int .u64 (S : Nat), .int .i64 (Q : Nat)] (by simp [Act.eval]) (by simp [Act.eval]) 26 _ hD4 infoS26 rfl (by simp [Value.oneCell']) ?_
    refine hK.out _ _ hS6 (fun hHeld => ?_)
    clear hK K
    (try simp only [Act.put, List.setIfInBounds_toArray, List.set_cons_zero, List.set_cons_succ])
    refine wpAnyH_done (by kernel_rfl) ?_ _
    refine NoPanic.normal ?_
    clear hS5 hS6 hHeld hD4
    generalize hD : w3.heap.size = D at G ⊢
    generalize hW5 : w4.setRow D #[.int .u64 (N : Nat), .int .i64 (P : Nat), .int .u64 (S : Nat), .int .i64 (Q : Nat)] = W5 at G ⊢
    clear hW5 hD hw3 hsz3
    obtain ⟨d0, d1, d2, d3⟩ := G.cells
    simp only at d0 d1 d2 d3
    unfold lab at hform
    simp only at hform
    cases fm with
    | false =>
      have HR : Hid (dl = ((0, 0, 0, 0), none)) := by
        show _ = _
        rw [HD.out]
      go_wp2_with fail
      refine (hform _).mono ?_
      rintro e w6 ⟨rfl, hu6⟩
      have G6 := G.below hu6.bl
      clear G hform hu6 d0 d1 d2 d3
      have hng6 := hng _ G6.rd
      go_wp2_with fail
      refine hng6.mono ?_
      rintro e w7 ⟨rfl, rd7, g7⟩
      have G7 := G6.step rd7 g7
      clear hng hng6 g7 G6 rd7
      have hb7 := Cd.bad_rd _ _ _ G7.rd
      go_wp2_with fail
      refine hb7.mono ?_
      rintro e w8 ⟨rfl, rfl⟩
      obtain ⟨hc, HE⟩ := G7.told 0 0 0 0
      have k0 := hc 0 _ rfl
      have k1 := hc 1 _ rfl
      have k2 := hc 2 _ rfl
      have k3 := hc 3 _ rfl
      have hans := G7.ans
      clear hb7 G7 hc
      go_wp2_with (first | (refine wpList_store_row rfl 26 (.tmp 2) (.tmp 27) rfl w.heap.size #[.int .u64 0, .int .i64 0, .int .u64 0, .int .i64 0] rfl rfl 26 _ hans infoS26 rfl (by simp [Value.oneCell']) ?_))
      refine bodyPost_ret (v := .tuple #[.agg #[.int .u64 0, .int .i64 0, .int .u64 0, .int .i64 0], .bool false]) ?_ rfl ?_
      · simp [results, Try.results67, go_sem, k0, k1, k2, k3]
      · rw [HR.out]
        exact ⟨rfl, HE.out⟩
    | true =>
      go_wp2_with fail
      refine (hform _).mono ?_
      rintro e w6 ⟨rfl, hu6⟩
      have G6 := G.below hu6.bl
      clear G hform hu6 d0 d1 d2 d3 hng
      have hb7 := Cd.bad_rd _ _ _ G6.rd
      cases st3 with
      | none =>
        have HR : Hid (dl = ((0, 0, 0, 0), none)) := by
          show _ = _
          rw [HD.out]
        go_wp2_with fail
        refine hb7.mono ?_
        rintro e w8 ⟨rfl, rfl⟩
        obtain ⟨hc, HE⟩ := G6.told 0 0 0 0
        have k0 := hc 0 _ rfl
        have k1 := hc 1 _ rfl
        have k2 := hc 2 _ rfl
        have k3 := hc 3 _ rfl
        have hans := G6.ans
        clear hb7 G6 hc
        go_wp2_with (first | (refine wpList_store_row rfl 26 (.tmp 2) (.tmp 27) rfl w.heap.size #[.int .u64 0, .int .i64 0, .int .u64 0, .int .i64 0] rfl rfl 26 _ hans infoS26 rfl (by simp [Value.oneCell']) ?_))
        refine bodyPost_ret (v := .tuple #[.agg #[.int .u64 0, .int .i64 0, .int .u64 0, .int .i64 0], .bool false]) ?_ rfl ?_
        · simp [results, Try.results67, go_sem, k0, k1, k2, k3]
        · rw [HR.out]
          exact ⟨rfl, HE.out⟩
      | some ys =>
        have HR : Hid (dl = ((N, (P : Int), S, (Q : Int)), some ys)) := by
          show _ = _
          rw [HD.out]
        go_wp2_with fail
        refine hb7.mono ?_
        rintro e w8 ⟨rfl, rfl⟩
        obtain ⟨hc, HE⟩ := G6.told (N : Nat) (P : Nat) (S : Nat) (Q : Nat)
        have k0 := hc 0 _ rfl
        have k1 := hc 1 _ rfl
        have k2 := hc 2 _ rfl
        have k3 := hc 3 _ rfl
        have hans := G6.ans
        obtain ⟨d0, d1, d2, d3⟩ := G6.cells
        simp only at d0 d1 d2 d3
        clear hb7 G6 hc
        go_wp2_with (first | (refine wpList_store_row rfl 26 (.tmp 2) (.tmp 28) rfl w.heap.size #[.int .u64 (N : Nat), .int .i64 (P : Nat), .int .u64 (S : Nat), .int .i64 (Q : Nat)] rfl rfl 26 _ hans infoS26 rfl (by simp [Value.oneCell']) ?_))
        refine bodyPost_ret (v := .tuple #[.agg #[.int .u64 (N : Nat), .int .i64 (P : Nat), .int .u64 (S : Nat), .int .i64 (Q : Nat)], .bool true]) ?_ rfl ?_
        · simp [results, Try.results67, go_sem, k0, k1, k2, k3]
        · rw [HR.out]
          exact ⟨rfl, HE.out⟩
end Go.Proofs.Ytpdgoalbknopiaa
