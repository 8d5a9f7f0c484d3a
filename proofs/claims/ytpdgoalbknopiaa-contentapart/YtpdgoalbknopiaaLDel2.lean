/-
  slices.DeleteFunc of labels, at what among tells: those that are not in the set.
-/
import Derived.Test.YtpdgoalbknopiaaLBlk
namespace Go.Proofs.Ytpdgoalbknopiaa
open Go.RowKit Go.Sort
set_option linter.unusedVariables false

def out (S ls : List Lb) : List Lb := ls.filter (fun x => !decide (x ∈ S))
theorem out_none {S ls : List Lb} (h : ∀ x ∈ ls, x ∉ S) : out S ls = ls := by
  unfold out
  rw [List.filter_eq_self]
  intro x hx
  simpa using h x hx
theorem out_step {S ls : List Lb} {j : Nat} {x : Lb} (h : ls[j]? = some x) : out S (ls.take (j + 1)) = out S (ls.take j) ++ (if decide (x ∈ S) then [] else [x]) := by
  unfold out
  rw [List.take_add_one, h, List.filter_append]
  by_cases hx : x ∈ S <;> simp [hx]
theorem out_le (S ls : List Lb) : (out S ls).length ≤ ls.length := List.length_filter_le _ _

/-- A store of a thing of several cells, by its run. -/
theorem wpList_store_cells {P : Program} {ops : Array Oper} {rest : List Oper} {o : Oper} {a : Act} {w : World} {Q : Exit → Act → World → Prop} (hgd : o.guard = none) (ty : TypeId) (x y : Operand) (ho : o.op = .store ty x y)
    (ad : Addr) (cells : Array Value) (hx : a.eval x = .pointer (some ad)) (hy : a.eval y = .agg cells) (hi : (P.info? ty).map (·.size) = some cells.size)
    (w' : World) (hrun : (storeCells ad cells.toList 0).run P w = .ok () w') (h : wpList P ops Q rest (a.put o.dst undef) w') : wpList P ops Q (o :: rest) a w := by
  have hsv : (storeVar ty ad (.agg cells)).run P w = .ok () w' := by
    cases hq : P.info? ty with
    | none => simp [hq] at hi
    | some i =>
      have hs : cells.size = i.size := by simp [hq] at hi; omega
      simp [storeVar, sizeOf, typeInfo, hq, Value.cells, hs, hrun]
  refine wpList_plain hgd fun K hK => ?_
  unfold Oper.wp execOp
  simp only [ho, hx, hy, Instr.storeAt, Instr.sureAddr, Sem.run_bind, Sem.run_pure, Result.andThen_ok, hsv]
  exact hK _ _ h
theorem info26 : (Try.prog.info? 26).map (·.size) = some 4 := by kernel_rfl

end Go.Proofs.Ytpdgoalbknopiaa
