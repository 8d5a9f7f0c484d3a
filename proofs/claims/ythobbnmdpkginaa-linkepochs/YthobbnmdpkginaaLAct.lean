/-
  What happens to two ends: what a call of it begins with.
-/
import Derived.Test.YthobbnmdpkginaaLWd
import Derived.Test.YthobbnmdpkginaaLInA
import Derived.Test.YthobbnmdpkginaaLInB
import Derived.Test.YthobbnmdpkginaaLHold
namespace Go.Proofs.Ythobbnmdpkginaa
open Go.RowKit
set_option linter.unusedVariables false
set_option linter.unusedSimpArgs false

/-- The next state. -/
def Nx (col : Nat → Nat) (w : World) (q M N : Nat) (p' : Pl) (w' : World) : Prop := ∃ col' d', Wd w' col' q M N d' p' ∧ Gn col w col' w'
theorem box3 (w : World) (a b c : Value) (t : TypeId) : (w.alloc (.cells #[a, b, c] t)).cell? ⟨w.heap.size, 0, none⟩ = some a ∧ (w.alloc (.cells #[a, b, c] t)).cell? ⟨w.heap.size, 1, none⟩ = some b ∧ (w.alloc (.cells #[a, b, c] t)).cell? ⟨w.heap.size, 2, none⟩ = some c := by
  have hb : (w.alloc (.cells #[a, b, c] t)).heap[w.heap.size]? = some (.cells #[a, b, c] t (0, 0)) := Deep.blk_alloc_new _ _
  refine ⟨?_, ?_, ?_⟩ <;> (unfold World.cell?; rw [hb]; rfl)
theorem box1 (w : World) (a : Value) (t : TypeId) : (w.alloc (.cells #[a] t)).cell? ⟨w.heap.size, 0, none⟩ = some a := by
  have hb : (w.alloc (.cells #[a] t)).heap[w.heap.size]? = some (.cells #[a] t (0, 0)) := Deep.blk_alloc_new _ _
  unfold World.cell?; rw [hb]; rfl
/-- The call's own box beside all of it. -/
structure Bx (w : World) (col : Nat → Nat) (B : Nat) (kd : Nat) (s : ByteArray) (n : Int) : Prop where
  nobody : col B = 0
  c0 : w.cell? ⟨B, 0, none⟩ = some (.int .u8 (kd : Nat))
  c1 : w.cell? ⟨B, 1, none⟩ = some (.string s)
  c2 : w.cell? ⟨B, 2, none⟩ = some (.int .i64 n)
theorem Bx.lt {w : World} {col : Nat → Nat} {B kd : Nat} {s : ByteArray} {n : Int} (h : Bx w col B kd s n) : B < w.heap.size := World.block_lt_of_cell? w _ h.c0
theorem Bx.on {w w' : World} {col col' : Nat → Nat} {B kd : Nat} {s : ByteArray} {n : Int} (h : Bx w col B kd s n) (g : Gn col w col' w') : Bx w' col' B kd s n where
  nobody := (g.old B h.lt).trans h.nobody
  c0 := (cell_block (g.block h.lt h.nobody)).trans h.c0
  c1 := (cell_block (g.block h.lt h.nobody)).trans h.c1
  c2 := (cell_block (g.block h.lt h.nobody)).trans h.c2
/-- The beginning of the call. -/
theorem wd_box {w : World} {col : Nat → Nat} {q M N : Nat} {d : Adr} {p : Pl} (h : Wd w col q M N d p) (kd : Nat) (s : ByteArray) (n : Int) :
    ∃ col0, Wd (w.alloc (.cells #[.int .u8 (kd : Nat), .string s, .int .i64 n] 28)) col0 q M N d p ∧ Gn col w col0 (w.alloc (.cells #[.int .u8 (kd : Nat), .string s, .int .i64 n] 28)) ∧ Bx (w.alloc (.cells #[.int .u8 (kd : Nat), .string s, .int .i64 n] 28)) col0 w.heap.size kd s n := by
  obtain ⟨h0, g0⟩ := h.still ((Turned.refl _ w).alloc (.cells #[.int .u8 (kd : Nat), .string s, .int .i64 n] 28))
  obtain ⟨b0, b1, b2⟩ := box3 w (.int .u8 (kd : Nat)) (.string s) (.int .i64 n) 28
  exact ⟨_, h0, g0, if_neg (by omega), b0, b1, b2⟩

end Go.Proofs.Ythobbnmdpkginaa
