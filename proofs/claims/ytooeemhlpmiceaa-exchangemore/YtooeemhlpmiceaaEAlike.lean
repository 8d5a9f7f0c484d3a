/-
  The document's Alike: are two summaries one?
-/
import Derived.Test.YtooeemhlpmiceaaESame
namespace Go.Proofs.Ytooeemhlpmiceaa
open Go.RowKit
set_option linter.unusedVariables false

def sumv (c o : Value) (nx : Int) (hn : Nat) (hp : Int) : Value := .agg #[c, o, .int .i64 nx, .int .u64 (hn : Nat), .int .i64 hp]
def Sb (B : Nat) (c o : Value) (nx : Int) (hn : Nat) (hp : Int) (w : World) : Prop :=
  w.cell? ⟨B, 0, none⟩ = some c ∧ w.cell? ⟨B, 1, none⟩ = some o ∧ w.cell? ⟨B, 2, none⟩ = some (.int .i64 nx) ∧ w.cell? ⟨B, 3, none⟩ = some (.int .u64 (hn : Nat)) ∧ w.cell? ⟨B, 4, none⟩ = some (.int .i64 hp)
theorem sb_new (w : World) (c o : Value) (nx : Int) (hn : Nat) (hp : Int) (t : TypeId) : Sb w.heap.size c o nx hn hp (w.alloc (.cells #[c, o, .int .i64 nx, .int .u64 (hn : Nat), .int .i64 hp] t)) :=
  ⟨cell_box w _ t 0 _ rfl, cell_box w _ t 1 _ rfl, cell_box w _ t 2 _ rfl, cell_box w _ t 3 _ rfl, cell_box w _ t 4 _ rfl⟩
theorem Sb.bl {B : Nat} {c o : Value} {nx : Int} {hn : Nat} {hp : Int} {w w' : World} (h : Sb B c o nx hn hp w) (u : Below w.heap.size w w') : Sb B c o nx hn hp w' :=
  ⟨bl_cell u h.1, bl_cell u h.2.1, bl_cell u h.2.2.1, bl_cell u h.2.2.2.1, bl_cell u h.2.2.2.2⟩
theorem vid_equal (n1 : Nat) (p1 : Int) (n2 : Nat) (p2 : Int) (w : World) : Sem.run Try.prog (Op.equalIn 10000 32 (.agg #[.int .u64 (n1 : Nat), .int .i64 p1]) (.agg #[.int .u64 (n2 : Nat), .int .i64 p2])) w = .ok (decide (n1 = n2) && decide (p1 = p2)) w := vid_equalIn 9998 n1 p1 n2 p2 w

end Go.Proofs.Ytooeemhlpmiceaa
