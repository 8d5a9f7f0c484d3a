/-
  The document's Decode of a label.
-/
import Derived.Test.YtpdgoalbknopiaaLDec
namespace Go.Proofs.Ytpdgoalbknopiaa
open Go.RowKit
set_option linter.unusedVariables false
set_option linter.unusedSimpArgs false

/-- What the call holds of memory: its reader, its answer's place, and the label that it has read. -/
structure Gq (w W : World) (m : Nat) (ao : Option Addr) (n cap : Nat) (xs : List UInt8) (o : Option Nat) (C : Nat) (a b c d : Int) : Prop where
  rr : Cd.RR W m ao n cap o
  row : Cd.Row W ao n cap xs
  ans : W.heap[w.heap.size]? = some (.cells #[.int .u64 0, .int .i64 0, .int .u64 0, .int .i64 0] 26 (0, 0))
  got : W.heap[C]? = some (.cells #[.int .u64 a, .int .i64 b, .int .u64 c, .int .i64 d] 26 (0, 0))
  gr : w.grownBy W (some m)
  ml : m < w.heap.size
  cl : w.heap.size < C
section
variable {w W W' : World} {m : Nat} {ao : Option Addr} {n cap : Nat} {xs : List UInt8} {o o' : Option Nat} {C : Nat} {a b c d : Int}
theorem Gq.below (h : Gq w W m ao n cap xs o C a b c d) (hb : Below W.heap.size W W') : Gq w W' m ao n cap xs o C a b c d where
  rr := h.rr.below hb
  row := h.row.below hb (Nat.le_refl _)
  ans := (hb.block _ (Array.getElem?_eq_some_iff.1 h.ans).1).trans h.ans
  got := (hb.block _ (Array.getElem?_eq_some_iff.1 h.got).1).trans h.got
  gr := Cd.grown_trans h.gr (gr_of hb _)
  ml := h.ml
  cl := h.cl
theorem Gq.step (h : Gq w W m ao n cap xs o C a b c d) (hr : Cd.RR W' m ao n cap o') (g : W.grownBy W' (some m)) : Gq w W' m ao n cap xs o' C a b c d where
  rr := hr
  row := Cd.row_RR h.row h.rr g
  ans := (g.block _ (Array.getElem?_eq_some_iff.1 h.ans).1 (by have := h.ml; simp; omega)).trans h.ans
  got := (g.block _ (Array.getElem?_eq_some_iff.1 h.got).1 (by have := h.ml; have := h.cl; simp; omega)).trans h.got
  gr := Cd.grown_trans h.gr g
  ml := h.ml
  cl := h.cl
theorem Gq.cells (h : Gq w W m ao n cap xs o C a b c d) : W.cell? ⟨C, 0, none⟩ = some (.int .u64 a) ∧ W.cell? ⟨C, 1, none⟩ = some (.int .i64 b) ∧ W.cell? ⟨C, 2, none⟩ = some (.int .u64 c) ∧ W.cell? ⟨C, 3, none⟩ = some (.int .i64 d) :=
  ⟨by rw [cell_of_row W C 0 _ 26 (0, 0) h.got]; rfl, by rw [cell_of_row W C 1 _ 26 (0, 0) h.got]; rfl, by rw [cell_of_row W C 2 _ 26 (0, 0) h.got]; rfl, by rw [cell_of_row W C 3 _ 26 (0, 0) h.got]; rfl⟩
theorem Gq.free (h : Gq w W m ao n cap xs o C a b c d) (j : Nat) : W.frozen? ⟨C, j, none⟩ = false := frozen_of_row W C j _ 26 h.got
theorem Gq.seq (h : Gq w W m ao n cap xs o C a b c d) (c' : Int) : Gq w (W.setCell ⟨C, 2, none⟩ (.int .u64 c')) m ao n cap xs o C a b c' d where
  rr := by unfold Cd.RR; rw [Below.heap_setCell _ _ _ _ (by have := h.ml; have := h.cl; show m ≠ C; omega)]; exact h.rr
  row := row_set h.row _ h.cells.2.2.1 (by simp)
  ans := (Below.heap_setCell _ _ _ _ (by have := h.cl; show w.heap.size ≠ C; omega)).trans h.ans
  got := by rw [setCell_eq_setRow W C 2 _ 26 (0, 0) _ h.got, setRow_heap _ _ _ _ _ _ h.got]; rfl
  gr := grown_set h.gr (by have := h.cl; omega) _
  ml := h.ml
  cl := h.cl
theorem Gq.who (h : Gq w W m ao n cap xs o C a b c d) (d' : Int) : Gq w (W.setCell ⟨C, 3, none⟩ (.int .i64 d')) m ao n cap xs o C a b c d' where
  rr := by unfold Cd.RR; rw [Below.heap_setCell _ _ _ _ (by have := h.ml; have := h.cl; show m ≠ C; omega)]; exact h.rr
  row := row_set h.row _ h.cells.2.2.2 (by simp)
  ans := (Below.heap_setCell _ _ _ _ (by have := h.cl; show w.heap.size ≠ C; omega)).trans h.ans
  got := by rw [setCell_eq_setRow W C 3 _ 26 (0, 0) _ h.got, setRow_heap _ _ _ _ _ _ h.got]; rfl
  gr := grown_set h.gr (by have := h.cl; omega) _
  ml := h.ml
  cl := h.cl
theorem Gq.fault (h : Gq w W m ao n cap xs o C a b c d) : Gq w (W.setCell ⟨m, 1, none⟩ (.int .i64 (-1))) m ao n cap xs none C a b c d where
  rr := h.rr.set none
  row := row_set h.row _ h.rr.cells.2.1 (by simp)
  ans := (Below.heap_setCell _ _ _ _ (by have := h.ml; show w.heap.size ≠ m; omega)).trans h.ans
  got := (Below.heap_setCell _ _ _ _ (by have := h.ml; have := h.cl; show C ≠ m; omega)).trans h.got
  gr := ⟨h.gr.os, h.gr.tape, h.gr.output, by simpa [World.setCell] using h.gr.size, fun k hk hne => (Below.heap_setCell _ _ _ _ (fun e => hne (by rw [e]))).trans (h.gr.block k hk hne)⟩
  ml := h.ml
  cl := h.cl
/-- The answer laid. -/
theorem Gq.told (h : Gq w W m ao n cap xs o C a b c d) (n' p s q : Int) : (∀ j v, #[Value.int .u64 n', .int .i64 p, .int .u64 s, .int .i64 q][j]? = some v → (W.setRow w.heap.size #[.int .u64 n', .int .i64 p, .int .u64 s, .int .i64 q]).cell? ⟨w.heap.size, j, none⟩ = some v) ∧
    Hid (Cd.RR (W.setRow w.heap.size #[.int .u64 n', .int .i64 p, .int .u64 s, .int .i64 q]) m ao n cap o ∧ w.grownBy (W.setRow w.heap.size #[.int .u64 n', .int .i64 p, .int .u64 s, .int .i64 q]) (some m)) := by
  refine ⟨fun j v hj => ?_, ?_, gr_row h.gr (Nat.le_refl _) _⟩
  · rw [cell_setRow_same _ _ _ _ _ _ _ h.ans]
    exact hj
  · unfold Cd.RR
    rw [setRow_other _ _ _ _ (by have := h.ml; show m ≠ w.heap.size; omega)]
    exact h.rr
end

set_option maxRecDepth 10000 in
set_option maxHeartbeats 2000000 in
theorem refDecodeL_step (w : World) (m : Nat) (ao : Option Addr) (n cap : Nat) (xs : List UInt8) (o : Option Nat) (st : Option (List UInt8)) (hs : Cd.same xs o st) (h : Cd.RR w m ao n cap o) (hx : Cd.Row w ao n cap xs) (hn : n ≤ 140737488355328) :
    Calls Try.prog 45 #[.pointer (some ⟨m, 0, none⟩)] w fun e w' => e = .returned (lab (decL st).1) ∧ ∃ o', Cd.same xs o' (decL st).2 ∧ Cd.RR w' m ao n cap o' ∧ w.grownBy w' (some m) := by
  have hml := h.lt
  have ub : Below w.heap.size w (w.alloc (.cells #[.int .u64 0, .int .i64 0, .int .u64 0, .int .i64 0] 26)) := bl1 _ _
  have hans0 : (w.alloc (.cells #[.int .u64 0, .int .i64 0, .int .u64 0, .int .i64 0] 26)).heap[w.heap.size]? = some (.cells #[.int .u64 0, .int .i64 0, .int .u64 0, .int .i64 0] 26 (0, 0)) := heap_alloc_new _ _
  have hdv := refDecode_step _ m ao n cap xs o st hs (h.below ub) (hx.below ub (Nat.le_refl _)) hn
  have huv := fun W o1 (hs1 : Cd.same xs o1 (decV st).2) (hr : Cd.RR W m ao n cap o1) (hw : Cd.Row W ao n cap xs) => Cd.refUint_step W m ao n cap xs o1 (decV st).2 hs1 hr hw hn
  have hiv := fun W o1 (hs1 : Cd.same xs o1 (Cd.rUint (decV st).2).2) (hr : Cd.RR W m ao n cap o1) (hw : Cd.Row W ao n cap xs) => Cd.refInt_step W m ao n cap xs o1 (Cd.rUint (decV st).2).2 hs1 hr hw hn 15 (by omega) (by omega)
  have HD : Hid (decL st = match formL ((decV st).1.1, ((decV st).1.2 : Int), (Cd.rUint (decV st).2).1, ((Cd.rInt (Cd.rUint (decV st).2).2 15).1 : Int)), (Cd.rInt (Cd.rUint (decV st).2).2 15).2 with
    | true, some ys => (((decV st).1.1, ((decV st).1.2 : Int), (Cd.rUint (decV st).2).1, ((Cd.rInt (Cd.rUint (decV st).2).2 15).1 : Int)), some ys)
    | _, _ => ((0, 0, 0, 0), none)) := rfl
  generalize decL st = dl at *
  generalize (Cd.rInt (Cd.rUint (decV st).2).2 15) = ri at *
  obtain ⟨Q, st3⟩ := ri
  generalize (Cd.rUint (decV st).2) = ru at *
  obtain ⟨S, st2⟩ := ru
  generalize decV st = dv at *
  obtain ⟨⟨N, P⟩, st1⟩ := dv
  simp only at HD hdv huv hiv
  unfold vid at hdv
  have hform := fun W => refFormL_any W (N, (P : Int), S, (Q : Int))
  generalize formL (N, (P : Int), S, (Q : Int)) = fm at *
  unfold lab at hform
  simp only at hform
  go_enter Try.func45, Try.ntmps45
  go_wp2_with fail
  refine hdv.mono ?_
  rintro e w1 ⟨rfl, o1, hs1, rr1, g1⟩
  have row1 : Cd.Row w1 ao n cap xs := Cd.row_RR (hx.below ub (Nat.le_refl _)) (h.below ub) g1
  have ans1 := (g1.block _ (by simp) (by simp; omega)).trans hans0
  have gr1 := Cd.grown_trans (gr_of ub (some m)) g1
  have hw1 : w.heap.size < w1.heap.size := (Array.getElem?_eq_some_iff.1 ans1).1
  have ub1 : Below w1.heap.size w1 (w1.alloc (.cells #[.int .u64 (N : Nat), .int .i64 (P : Nat), .int .u64 0, .int .i64 0] 26)) := bl1 _ _
  have G1 : Gq w (w1.alloc (.cells #[.int .u64 (N : Nat), .int .i64 (P : Nat), .int .u64 0, .int .i64 0] 26)) m ao n cap xs o1 w1.heap.size (N : Nat) (P : Nat) 0 0 :=
    ⟨rr1.below ub1, row1.below ub1 (Nat.le_refl _), (ub1.block _ hw1).trans ans1, heap_alloc_new _ _, Cd.grown_trans gr1 (gr_of ub1 _), hml, hw1⟩
  have hu1 := huv _ o1 hs1 G1.rr G1.row
  clear hdv huv h hx ub hans0 rr1 g1 row1 ans1 gr1 ub1 hs hs1
  go_wp2_with fail
  refine hu1.mono ?_
  rintro e w2 ⟨rfl, o2, hs2, rr2, g2⟩
  have G2 := G1.step rr2 g2
  obtain ⟨a0, a1, a2, a3⟩ := G2.cells
  have f2 := G2.free 2
  have G3 := G2.seq (S : Nat)
  have hi3 := hiv _ o2 hs2 G3.rr G3.row
  clear hu1 hiv G1 rr2 g2 hs2 G2
  go_wp2_with fail
  refine hi3.mono ?_
  rintro e w4 ⟨rfl, o4, hs4, rr4, g4⟩
  have G4 := G3.step rr4 g4
  clear a0 a1 a2 a3 f2
  obtain ⟨a0, a1, a2, a3⟩ := G4.cells
  have f3 := G4.free 3
  have G5 := G4.who (Q : Nat)
  obtain ⟨d0, d1, d2, d3⟩ := G5.cells
  have am := G5.rr.cells.2.1
  clear hi3 G3 rr4 g4 G4
  go_upto_region 4 with fail
  generalize w4.setCell ⟨w1.heap.size, 3, none⟩ (.int .i64 (Q : Nat)) = w5 at *
  clear a0 a1 a2 a3 f3
  cases o4 with
  | none =>
    obtain rfl : st3 = none := by
      cases st3 with
      | none => rfl
      | some ys => exact absurd hs4 (by simp [Cd.same])
    have HR : Hid (dl = ((0, 0, 0, 0), none)) := by
      show _ = _
      rw [HD.out]
      cases fm <;> rfl
    have hat : Cd.atOf none = -1 := rfl
    rw [hat] at am
    have fm1 := G5.rr.cells.2.2.2
    have G6 := G5.fault
    obtain ⟨hc, HE⟩ := G6.told 0 0 0 0
    have k0 := hc 0 _ rfl
    have k1 := hc 1 _ rfl
    have k2 := hc 2 _ rfl
    have k3 := hc 3 _ rfl
    have hans := G6.ans
    clear G5 G6 hc hform hat
    go_wp2_with (first | (refine wpList_store_row rfl 26 (.tmp 2) (.tmp 26) rfl w.heap.size #[.int .u64 0, .int .i64 0, .int .u64 0, .int .i64 0] rfl rfl 26 _ hans infoS26 rfl (by simp [Value.oneCell']) ?_))
    refine bodyPost_ret (v := .agg #[.int .u64 0, .int .i64 0, .int .u64 0, .int .i64 0]) ?_ rfl ?_
    · simp [results, Try.results45, go_sem, k0, k1, k2, k3]
    · rw [HR.out]
      exact ⟨rfl, none, by simp [Cd.same], HE.out⟩
  | some k =>
    obtain ⟨ys, rfl⟩ : ∃ ys, st3 = some ys := by
      cases st3 with
      | none => exact absurd hs4 (by simp [Cd.same])
      | some ys => exact ⟨ys, rfl⟩
    have hat : Cd.atOf (some k) = (k : Int) := rfl
    rw [hat] at am
    clear hat
    have hk0 : ¬ ((k : Int) < 0) := by omega
    have hkd : decide ((k : Int) < 0) = false := by simp
    cases fm with
    | false =>
      have HR : Hid (dl = ((0, 0, 0, 0), none)) := by
        show _ = _
        rw [HD.out]
      go_wp2_with fail
      refine (hform _).mono ?_
      rintro e w6 ⟨rfl, hu6⟩
      have G6 := G5.below hu6.bl
      have am6 := G6.rr.cells.2.1
      have fm6 := G6.rr.cells.2.2.2
      have G7 := G6.fault
      obtain ⟨hc, HE⟩ := G7.told 0 0 0 0
      have k0 := hc 0 _ rfl
      have k1 := hc 1 _ rfl
      have k2 := hc 2 _ rfl
      have k3 := hc 3 _ rfl
      have hans := G7.ans
      clear hform hu6 G5 G6 G7 hc am d0 d1 d2 d3
      go_wp2_with (first | (refine wpList_store_row rfl 26 (.tmp 2) (.tmp 26) rfl w.heap.size #[.int .u64 0, .int .i64 0, .int .u64 0, .int .i64 0] rfl rfl 26 _ hans infoS26 rfl (by simp [Value.oneCell']) ?_))
      refine bodyPost_ret (v := .agg #[.int .u64 0, .int .i64 0, .int .u64 0, .int .i64 0]) ?_ rfl ?_
      · simp [results, Try.results45, go_sem, k0, k1, k2, k3]
      · rw [HR.out]
        exact ⟨rfl, none, by simp [Cd.same], HE.out⟩
    | true =>
      have HR : Hid (dl = ((N, (P : Int), S, (Q : Int)), some ys)) := by
        show _ = _
        rw [HD.out]
      go_wp2_with fail
      refine (hform _).mono ?_
      rintro e w6 ⟨rfl, hu6⟩
      have G6 := G5.below hu6.bl
      obtain ⟨hc, HE⟩ := G6.told (N : Nat) (P : Nat) (S : Nat) (Q : Nat)
      have k0 := hc 0 _ rfl
      have k1 := hc 1 _ rfl
      have k2 := hc 2 _ rfl
      have k3 := hc 3 _ rfl
      have hans := G6.ans
      obtain ⟨e0, e1, e2, e3⟩ := G6.cells
      clear hform hu6 G5 G6 hc am d0 d1 d2 d3
      go_wp2_with (first | (refine wpList_store_row rfl 26 (.tmp 2) (.tmp 27) rfl w.heap.size #[.int .u64 (N : Nat), .int .i64 (P : Nat), .int .u64 (S : Nat), .int .i64 (Q : Nat)] rfl rfl 26 _ hans infoS26 rfl (by simp [Value.oneCell']) ?_))
      refine bodyPost_ret (v := .agg #[.int .u64 (N : Nat), .int .i64 (P : Nat), .int .u64 (S : Nat), .int .i64 (Q : Nat)]) ?_ rfl ?_
      · simp [results, Try.results45, go_sem, k0, k1, k2, k3]
      · rw [HR.out]
        exact ⟨rfl, some k, hs4, HE.out⟩
end Go.Proofs.Ytpdgoalbknopiaa
