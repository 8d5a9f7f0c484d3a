/-
  The document's reader: the next entry.
-/
import Derived.Test.YtpdgoalbknopiaaNHold
namespace Go.Proofs.Ytpdgoalbknopiaa
open Go.RowKit
set_option linter.unusedVariables false
set_option linter.unusedSimpArgs false

theorem und29s : (Try.prog.underlying 29).any (·.isRow) = true := by kernel_rfl
/-- An entry is read. -/
theorem wpList_load_E {ops : Array Oper} {rest : List Oper} {o : Oper} {a : Act} {w : World} {Q : Exit → Act → World → Prop} (hgd : o.guard = none) (x : Operand) (ho : o.op = .load 29 x) (b of : Nat) (hx : a.eval x = .pointer (some ⟨b, of, none⟩))
    (v1 v2 v3 v4 v5 : Value) (h1 : w.cell? ⟨b, of, none⟩ = some v1) (h2 : w.cell? ⟨b, of + 1, none⟩ = some v2) (h3 : w.cell? ⟨b, of + 2, none⟩ = some v3) (h4 : w.cell? ⟨b, of + 3, none⟩ = some v4) (h5 : w.cell? ⟨b, of + 4, none⟩ = some v5)
    (h : wpList Try.prog ops Q rest (a.put o.dst (.agg #[v1, v2, v3, v4, v5])) w) : wpList Try.prog ops Q (o :: rest) a w := by
  obtain ⟨d, hd, hr⟩ := (Option.any_eq_true _ _).1 und29s
  refine wpList_load_mid hgd 29 x ho b of hx [v1, v2, v3, v4, v5] d (fun j u hj => ?_) hd hr infoS29 h
  match j, hj with
  | 0, hj => simp at hj; subst hj; simpa using h1
  | 1, hj => simp at hj; subst hj; exact h2
  | 2, hj => simp at hj; subst hj; exact h3
  | 3, hj => simp at hj; subst hj; exact h4
  | 4, hj => simp at hj; subst hj; exact h5
  | n + 5, hj => simp at hj
set_option maxRecDepth 10000 in
set_option maxHeartbeats 2000000 in
theorem unone_step (w : World) (m : Nat) (ao : Option Addr) (n cap : Nat) (xs : List UInt8) (o : Option Nat) (st : Option (List UInt8)) (hs : Cd.same xs o st) (h : Cd.RR w m ao n cap o) (hx : Cd.Row w ao n cap xs) (hn : n ≤ 140737488355328) :
    Calls Try.prog 43 #[.pointer (some ⟨m, 0, none⟩)] w fun e w' => ∃ vo vc, e = .returned (ent (decE st).1.1 (.slice vo (decE st).1.2.length vc)) ∧ Cd.Row w' vo (decE st).1.2.length vc (decE st).1.2 ∧ Cd.Of ao vo (decE st).1.2.length ∧ ∃ o', Cd.same xs o' (decE st).2 ∧ Cd.RR w' m ao n cap o' ∧ w.grownBy w' (some m) := by
  have hml := h.lt
  have ub : Below w.heap.size w (w.alloc (.cells Ze 29)) := bl1 _ _
  have hans0 : (w.alloc (.cells Ze 29)).heap[w.heap.size]? = some (.cells Ze 29 (0, 0)) := heap_alloc_new _ _
  have hdl := refDecodeL_step _ m ao n cap xs o st hs (h.below ub) (hx.below ub (Nat.le_refl _)) hn
  have hbs := fun W o1 (hs1 : Cd.same xs o1 (decL st).2) (hr : Cd.RR W m ao n cap o1) (hw : Cd.Row W ao n cap xs) => Cd.refBytes_at W m ao n cap xs o1 (decL st).2 hs1 hr hw hn 64 (by omega) (by omega)
  have HD : Hid (decE st = (((decL st).1, (Cd.rBytes (decL st).2 64).1), (Cd.rBytes (decL st).2 64).2)) := rfl
  generalize decE st = de at *
  generalize Cd.rBytes (decL st).2 64 = rb at *
  obtain ⟨ms, st2⟩ := rb
  generalize decL st = dl at *
  obtain ⟨⟨xa, xb, xc, xd⟩, st1⟩ := dl
  simp only at HD hdl hbs
  rw [HD.out]
  unfold lab at hdl
  unfold ent
  simp only
  unfold Ze at hans0 ub hdl
  go_enter Try.func43, Try.ntmps43
  go_wp2_with fail
  refine hdl.mono ?_
  rintro e w1 ⟨rfl, o1, hs1, rr1, g1⟩
  have row1 : Cd.Row w1 ao n cap xs := Cd.row_RR (hx.below ub (Nat.le_refl _)) (h.below ub) g1
  have ans1 := (g1.block _ (by simp) (by simp; omega)).trans hans0
  have gr1 := Cd.grown_trans (gr_of ub (some m)) g1
  have hw1 : w.heap.size < w1.heap.size := (Array.getElem?_eq_some_iff.1 ans1).1
  have ub1 : Below w1.heap.size w1 (w1.alloc (.cells #[.int .u64 (xa : Nat), .int .i64 xb, .int .u64 (xc : Nat), .int .i64 xd, .slice none 0 0] 29)) := bl1 _ _
  have hbs1 := hbs _ o1 hs1 (rr1.below ub1) (row1.below ub1 (Nat.le_refl _))
  have got1 : (w1.alloc (.cells #[.int .u64 (xa : Nat), .int .i64 xb, .int .u64 (xc : Nat), .int .i64 xd, .slice none 0 0] 29)).heap[w1.heap.size]? = some (.cells #[.int .u64 (xa : Nat), .int .i64 xb, .int .u64 (xc : Nat), .int .i64 xd, .slice none 0 0] 29 (0, 0)) := heap_alloc_new _ _
  have ans2 := (ub1.block _ hw1).trans ans1
  have gr2 := Cd.grown_trans gr1 (gr_of ub1 (some m))
  have rrl := rr1.lt
  clear hdl hbs h hx ub hans0 rr1 g1 row1 ans1 gr1 hs hs1
  go_wp2_with fail
  refine hbs1.mono ?_
  rintro e w2 ⟨vo, vc, rfl, hrow, hof, o2, hs2, rr2, g2⟩
  have got2 := (g2.block _ (by simp) (by simp; omega)).trans got1
  have ans3 := (g2.block _ (by simp; omega) (by simp; omega)).trans ans2
  have gr3 := Cd.grown_trans gr2 g2
  have e4 : w2.setCell ⟨w1.heap.size, 4, none⟩ (.slice vo ms.length vc) = w2.setRow w1.heap.size #[.int .u64 (xa : Nat), .int .i64 xb, .int .u64 (xc : Nat), .int .i64 xd, .slice vo ms.length vc] := setCell_eq_setRow w2 w1.heap.size 4 _ 29 (0, 0) _ got2
  have got4 := setRow_heap _ _ _ #[.int .u64 (xa : Nat), .int .i64 xb, .int .u64 (xc : Nat), .int .i64 xd, .slice vo ms.length vc] _ _ got2
  have ans4 : (w2.setRow w1.heap.size #[.int .u64 (xa : Nat), .int .i64 xb, .int .u64 (xc : Nat), .int .i64 xd, .slice vo ms.length vc]).heap[w.heap.size]? = _ := (setRow_other _ _ _ _ (by omega)).trans ans3
  have row4 : Cd.Row (w2.setRow w1.heap.size #[.int .u64 (xa : Nat), .int .i64 xb, .int .u64 (xc : Nat), .int .i64 xd, .slice vo ms.length vc]) vo ms.length vc ms := row_setRow hrow got2 (noByte_ent _ _ _ _ _ _ _)
  have rr4 : Cd.RR (w2.setRow w1.heap.size #[.int .u64 (xa : Nat), .int .i64 xb, .int .u64 (xc : Nat), .int .i64 xd, .slice vo ms.length vc]) m ao n cap o2 := by
    unfold Cd.RR
    rw [setRow_other _ _ _ _ (by omega)]
    exact rr2
  have gr4 := gr_row gr3 (B := w1.heap.size) (by omega) #[.int .u64 (xa : Nat), .int .i64 xb, .int .u64 (xc : Nat), .int .i64 xd, .slice vo ms.length vc]
  have k2 : ∀ j, w2.cell? ⟨w1.heap.size, j, none⟩ = _ := fun j => cell_of_row w2 w1.heap.size j _ 29 (0, 0) got2
  have k24 := k2 4
  have f24 : w2.frozen? ⟨w1.heap.size, 4, none⟩ = false := frozen_of_row w2 w1.heap.size 4 _ 29 got2
  simp at k24
  rw [← e4] at got4 ans4 row4 rr4 gr4
  obtain ⟨w4, hw4⟩ : ∃ W, Hid (w2.setCell ⟨w1.heap.size, 4, none⟩ (.slice vo ms.length vc) = W) := ⟨_, rfl⟩
  have kk : ∀ j, (w2.setCell ⟨w1.heap.size, 4, none⟩ (.slice vo ms.length vc)).cell? ⟨w1.heap.size, j, none⟩ = _ := fun j => cell_of_row _ w1.heap.size j _ 29 (0, 0) got4
  have k0 := kk 0
  have k1 := kk 1
  have k2' := kk 2
  have k3 := kk 3
  have k4 := kk 4
  simp only [List.getElem?_toArray, List.getElem?_cons_zero, List.getElem?_cons_succ] at k0 k1 k2' k3 k4
  have HE : Hid (Cd.Row ((w2.setCell ⟨w1.heap.size, 4, none⟩ (.slice vo ms.length vc)).setRow w.heap.size #[.int .u64 (xa : Nat), .int .i64 xb, .int .u64 (xc : Nat), .int .i64 xd, .slice vo ms.length vc]) vo ms.length vc ms ∧ Cd.RR ((w2.setCell ⟨w1.heap.size, 4, none⟩ (.slice vo ms.length vc)).setRow w.heap.size #[.int .u64 (xa : Nat), .int .i64 xb, .int .u64 (xc : Nat), .int .i64 xd, .slice vo ms.length vc]) m ao n cap o2 ∧ w.grownBy ((w2.setCell ⟨w1.heap.size, 4, none⟩ (.slice vo ms.length vc)).setRow w.heap.size #[.int .u64 (xa : Nat), .int .i64 xb, .int .u64 (xc : Nat), .int .i64 xd, .slice vo ms.length vc]) (some m)) := by
    refine ⟨row_setRow row4 ans4 (noByte_ent 0 0 0 0 _ _ _), ?_, gr_row gr4 (Nat.le_refl _) _⟩
    unfold Cd.RR
    rw [setRow_other _ _ _ _ (by omega)]
    exact rr4
  have fin := setRow_heap _ _ _ #[.int .u64 (xa : Nat), .int .i64 xb, .int .u64 (xc : Nat), .int .i64 xd, .slice vo ms.length vc] _ _ ans4
  have ff := fun j => cell_of_row _ w.heap.size j _ 29 (0, 0) fin
  have q0 := ff 0
  have q1 := ff 1
  have q2 := ff 2
  have q3 := ff 3
  have q4 := ff 4
  simp only [List.getElem?_toArray, List.getElem?_cons_zero, List.getElem?_cons_succ] at q0 q1 q2 q3 q4
  clear hbs1 got1 got2 got4 ans2 ans3 gr2 gr3 gr4 rr2 rr4 row4 hrow g2 k2 kk ff fin e4 ub1 hw4
  go_wp2_with (first | (refine wpList_load_E rfl (.tmp 3) rfl w1.heap.size 0 rfl _ _ _ _ _ k0 k1 k2' k3 k4 ?_) | (refine wpList_store_row rfl 29 (.tmp 2) (.tmp 10) rfl w.heap.size #[.int .u64 (xa : Nat), .int .i64 xb, .int .u64 (xc : Nat), .int .i64 xd, .slice vo ms.length vc] rfl rfl 29 _ ans4 infoS29 rfl (by simp [Value.oneCell']) ?_))
  refine bodyPost_ret (v := .agg #[.int .u64 (xa : Nat), .int .i64 xb, .int .u64 (xc : Nat), .int .i64 xd, .slice vo ms.length vc]) ?_ rfl ?_
  · simp [results, Try.results43, go_sem, q0, q1, q2, q3, q4]
  · exact ⟨vo, vc, rfl, HE.out.1, hof, o2, hs2, HE.out.2.1, HE.out.2.2⟩
end Go.Proofs.Ytpdgoalbknopiaa
