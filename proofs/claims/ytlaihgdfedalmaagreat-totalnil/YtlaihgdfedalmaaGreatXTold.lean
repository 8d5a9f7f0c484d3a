/-
  The law's told: what nodes from 0 on told, in an order that is turned.
-/
import Derived.Test.YtlaihgdfedalmaaGreatMix3
namespace Go.Proofs.YtlaihgdfedalmaaGreat
open Go.RowKit
set_option linter.unusedVariables false
set_option linter.unusedSimpArgs false

theorem infoT : (Tryz.prog.info? 120).map (fun i => (i.zero, i.size, i.bytes)) = some (some (.agg #[.int .i64 0, .slice none 0 0, .slice none 0 0, .int .i64 0, .int .u64 0, .int .i64 0]), 6, 80) := by kernel_rfl
theorem und45 : Tryz.prog.underlying 100 = some (.slice 120) := by kernel_rfl
theorem und63s : (Tryz.prog.underlying 45).any (·.isRow) = true := by kernel_rfl
theorem info63 : (Tryz.prog.info? 45).map (·.size) = some 5 := by kernel_rfl
/-- A summary is read. -/
theorem wpList_load_S {ops : Array Oper} {rest : List Oper} {o : Oper} {a : Act} {w : World} {Q : Exit → Act → World → Prop} (hgd : o.guard = none) (x : Operand) (ho : o.op = .load 45 x) (b of : Nat) (hx : a.eval x = .pointer (some ⟨b, of, none⟩))
    (v1 v2 v3 v4 v5 : Value) (h1 : w.cell? ⟨b, of, none⟩ = some v1) (h2 : w.cell? ⟨b, of + 1, none⟩ = some v2) (h3 : w.cell? ⟨b, of + 2, none⟩ = some v3) (h4 : w.cell? ⟨b, of + 3, none⟩ = some v4) (h5 : w.cell? ⟨b, of + 4, none⟩ = some v5)
    (h : wpList Tryz.prog ops Q rest (a.put o.dst (.agg #[v1, v2, v3, v4, v5])) w) : wpList Tryz.prog ops Q (o :: rest) a w := by
  obtain ⟨d, hd, hr⟩ := (Option.any_eq_true _ _).1 und63s
  refine wpList_load_mid hgd 45 x ho b of hx [v1, v2, v3, v4, v5] d (fun j u hj => ?_) hd hr info63 h
  match j, hj with
  | 0, hj => simp at hj; subst hj; simpa using h1
  | 1, hj => simp at hj; subst hj; exact h2
  | 2, hj => simp at hj; subst hj; exact h3
  | 3, hj => simp at hj; subst hj; exact h4
  | 4, hj => simp at hj; subst hj; exact h5
  | n + 5, hj => simp at hj
end Go.Proofs.YtlaihgdfedalmaaGreat
