/-
  Which of two entries comes first.
-/
import Derived.Test.YtlaihgdfedalmaaGreatEBase
namespace Go.Proofs.YtlaihgdfedalmaaGreat
open Go.RowKit
set_option linter.unusedVariables false
set_option maxRecDepth 10000 in
set_option maxHeartbeats 1000000 in
theorem compareE_any (w : World) (x y : Lb) (s t : Value) : Calls Tryz.prog 143 #[ent x s, ent y t] w fun e w' => e = .returned (.int .i64 (cmpL x y)) ∧ Up w w' := by
  have c1 := fun W => compareL_any W x y
  have up0 : Up w ((w.alloc (.cells #[.int .u64 (x.1 : Nat), .int .i64 x.2.1, .int .u64 (x.2.2.1 : Nat), .int .i64 x.2.2.2, s] 41)).alloc (.cells #[.int .u64 (y.1 : Nat), .int .i64 y.2.1, .int .u64 (y.2.2.1 : Nat), .int .i64 y.2.2.2, t] 41)) := ((Up.refl _).alloc _).alloc _
  have ex := (ex_new w x s 41).bl (bl1 _ (.cells #[.int .u64 (y.1 : Nat), .int .i64 y.2.1, .int .u64 (y.2.2.1 : Nat), .int .i64 y.2.2.2, t] 41))
  have ey := ex_new (w.alloc (.cells #[.int .u64 (x.1 : Nat), .int .i64 x.2.1, .int .u64 (x.2.2.1 : Nat), .int .i64 x.2.2.2, s] 41)) y t 41
  have hsz : (w.alloc (.cells #[.int .u64 (x.1 : Nat), .int .i64 x.2.1, .int .u64 (x.2.2.1 : Nat), .int .i64 x.2.2.2, s] 41)).heap.size = w.heap.size + 1 := by simp
  rw [hsz] at ey
  generalize cmpL x y = C at *
  obtain ⟨a, b, c, d⟩ := x
  obtain ⟨a', b', c', d'⟩ := y
  unfold lab at c1
  unfold ent
  simp only at c1 up0 ex ey ⊢
  obtain ⟨x0, x1, x2, x3, x4⟩ := ex
  obtain ⟨y0, y1, y2, y3, y4⟩ := ey
  clear hsz
  go_enter Tryz.func143, Tryz.ntmps143
  go_wp2_with fail
  refine (c1 _).mono ?_
  rintro e w1 ⟨rfl, hb⟩
  have up1 := up0.trans hb
  clear hb c1 up0 x0 x1 x2 x3 x4 y0 y1 y2 y3 y4
  go_wp2
  go_ret
  exact ⟨rfl, up1⟩
end Go.Proofs.YtlaihgdfedalmaaGreat
