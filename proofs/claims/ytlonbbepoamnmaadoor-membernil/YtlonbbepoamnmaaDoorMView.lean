/-
  Two views compared; frames in a block.
-/
import Derived.Test.YtlonbbepoamnmaaDoorMRead
namespace Go.Proofs.YtlonbbepoamnmaaDoor
open Go.RowKit
set_option linter.unusedVariables false
set_option linter.unusedSimpArgs false

theorem view_equal (n1 : Nat) (p1 : Int) (s1 : Nat) (n2 : Nat) (p2 : Int) (s2 : Nat) (w : World) : Sem.run Tryd.prog (Op.equalIn 10000 34 (.agg #[.int .u64 (n1 : Nat), .int .i64 p1, .int .u16 (s1 : Nat)]) (.agg #[.int .u64 (n2 : Nat), .int .i64 p2, .int .u16 (s2 : Nat)])) w = .ok (decide (n1 = n2 ∧ p1 = p2 ∧ s1 = s2)) w := by
  have u32 := Tryd.underlying32
  have a32 := Tryd.isAgg32
  have z32 := Tryd.sizeOf32
  have hv := fun W => vid_equalIn 9997 n1 p1 n2 p2 W
  rw [run_equalIn_agg w 9999 34 _ _ (by kernel_rfl) (by kernel_rfl)]
  simp only [Program.fieldsOf, Tryd.underlying34]
  go_simp
  have hs : ((s1 : Int) = s2) ↔ s1 = s2 := by omega
  by_cases h1 : n1 = n2 <;> by_cases h2 : p1 = p2 <;> by_cases h3 : s1 = s2 <;> simp [h1, h2, h3, hs]
/-- A frame in a block. -/
def Bfr (g : Nat) (F : PF) (a : Fa) (w : World) : Prop := ∀ j u, (fcells F a)[j]? = some u → w.cell? ⟨g, j, none⟩ = some u
theorem bfr_new (w : World) (F : PF) (a : Fa) : Bfr w.heap.size F a (w.alloc (.cells (fcells F a) 43)) := fun j u hj => by rw [cell_of_row _ _ _ _ 43 (0, 0) (heap_alloc_new _ _)]; exact hj
theorem Bfr.up {g : Nat} {F : PF} {a : Fa} {w w' : World} (h : Bfr g F a w) (u : Below w.heap.size w w') : Bfr g F a w' := fun j v hj => by
  have := h j v hj
  exact (u.cell (World.block_lt_of_cell? w _ this)).trans this
end Go.Proofs.YtlonbbepoamnmaaDoor
