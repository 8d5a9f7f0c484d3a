/-
  What the laws' walks lean on: who is in what was merged; a label in a box.
-/
import Derived.Test.YtlaihgdfedalmaaGreatFMerge
import Derived.Test.YtlaihgdfedalmaaGreatFBin
import Derived.Test.YtlaihgdfedalmaaGreatEArgs3
namespace Go.Proofs.YtlaihgdfedalmaaGreat
open Go.RowKit
set_option linter.unusedVariables false
set_option linter.unusedSimpArgs false

theorem mergeE_mem : ∀ (more l : List En) (z : En), z ∈ mergeE l more → z ∈ l ∨ z ∈ more
  | [], l, z, h => .inl h
  | e :: more, l, z, h => by
    have h1 : z ∈ mergeE (mstep l e) more := h
    rcases mergeE_mem more (mstep l e) z h1 with h2 | h2
    · unfold mstep at h2
      split at h2
      · exact .inl h2
      · rcases (insR_mem e l z).1 h2 with rfl | h3
        · exact .inr (by simp)
        · exact .inl h3
    · exact .inr (by simp [h2])
/-- A label in a box. -/
def LB (g : Nat) (y : Lb) (w : World) : Prop := w.heap[g]? = some (.cells #[.int .u64 (y.1 : Nat), .int .i64 y.2.1, .int .u64 (y.2.2.1 : Nat), .int .i64 y.2.2.2] 39 (0, 0))
theorem LB.lt {g : Nat} {y : Lb} {w : World} (h : LB g y w) : g < w.heap.size := (Array.getElem?_eq_some_iff.1 h).1
theorem LB.bl {g : Nat} {y : Lb} {w w' : World} (h : LB g y w) (u : Below w.heap.size w w') : LB g y w' := by
  unfold LB at *
  rw [u.block g (Array.getElem?_eq_some_iff.1 h).1]
  exact h
theorem LB.bx {g : Nat} {y : Lb} {w : World} (h : LB g y w) : Bx g y.1 y.2.1 y.2.2.1 y.2.2.2 w := by
  unfold LB at h
  unfold Bx World.cell?
  simp [h]
theorem LB.new (w : World) (y : Lb) : LB w.heap.size y (w.alloc (.cells #[.int .u64 (y.1 : Nat), .int .i64 y.2.1, .int .u64 (y.2.2.1 : Nat), .int .i64 y.2.2.2] 39)) := heap_alloc_new _ _
theorem LB.set {g : Nat} {y : Lb} {w : World} (h : LB g y w) (z : Lb) : LB g z (w.setRow g #[.int .u64 (z.1 : Nat), .int .i64 z.2.1, .int .u64 (z.2.2.1 : Nat), .int .i64 z.2.2.2]) := setRow_heap _ _ _ _ _ _ h
/-- Both have found the same. -/
theorem FindIs.open {w w' : World} {es : List En} {x : Lb} {e : Ending} (h : FindIs w w' es x e) : ∃ so sn sc, e = .returned (.tuple #[.slice so sn sc, .bool (findE es x).isSome]) ∧ Cd.Row w' so sn sc ((findE es x).getD []) := by
  obtain ⟨v, b, rfl, rfl, so, sn, sc, rfl, hr⟩ := h
  exact ⟨so, sn, sc, rfl, hr⟩
end Go.Proofs.YtlaihgdfedalmaaGreat
