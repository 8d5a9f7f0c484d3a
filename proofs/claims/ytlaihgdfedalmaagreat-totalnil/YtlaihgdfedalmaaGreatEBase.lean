/-
  Entries: a label and a message; which of them are right.
-/
import Derived.Test.YtlaihgdfedalmaaGreatLAll
import Derived.Test.YtlaihgdfedalmaaGreatCdAll
namespace Go.Proofs.YtlaihgdfedalmaaGreat
open Go.RowKit
set_option linter.unusedVariables false

theorem tq {P : Program} {md : Region.Mode} {l : List Oper} {Q : Exit → Act → World → Prop} {S : World → Prop} (i : Nat) {oi : Oper} {v : Value} {fuel : Nat} {listed : Array Bool} {a a' : Act} {w : World}
    (h : wpAnyH P md l.toArray Q S fuel (listed.setIfInBounds i true) a' w) (hi : l[i]? = some oi := by rfl) (hy : ∀ w, S w → (execOp a.eval oi).run P w = .ok (.value v) w := by intro wx hSw; (try dsimp only at hSw); (repeat (have hSx := hSw.1; replace hSw := hSw.2)); go_simp; try with_reducible rfl) (hw : Region.wanted oi (yielded l.toArray a.tmps) = true := by rfl) (hs : Region.noSelect l.toArray = true := by kernel_rfl) (hf : Region.free md l.toArray listed i = true := by kernel_rfl) (hr : (Region.ready md l.toArray listed).contains i = true := by kernel_rfl)
    (hQ : ∀ c a w, Q (.panic c) (a.put oi.dst v) w → Q (.panic c) a w := by exact fun _ _ _ h => h) (hS : S w := by assumption) (ha : a.put oi.dst v = a' := by (try simp only [Act.put, List.setIfInBounds_toArray, List.set_cons_zero, List.set_cons_succ]) <;> rfl) : wpAnyH P md l.toArray Q S (fuel + 1) listed a w :=
  take_first i hi hs hf hr hQ (.inl ⟨hw, hy⟩) hS (ha ▸ h)
theorem tqS {P : Program} {md : Region.Mode} {l : List Oper} {Q : Exit → Act → World → Prop} {S : World → Prop} (i : Nat) {oi : Oper} {fuel : Nat} {listed : Array Bool} {a a' : Act} {w : World}
    (h : wpAnyH P md l.toArray Q S fuel (listed.setIfInBounds i true) a' w) (hi : l[i]? = some oi := by rfl) (hw : Region.wanted oi (yielded l.toArray a.tmps) = false := by rfl) (hs : Region.noSelect l.toArray = true := by kernel_rfl) (hf : Region.free md l.toArray listed i = true := by kernel_rfl) (hr : (Region.ready md l.toArray listed).contains i = true := by kernel_rfl)
    (hQ : ∀ c a w, Q (.panic c) (a.put oi.dst undef) w → Q (.panic c) a w := by exact fun _ _ _ h => h) (hS : S w := by assumption) (ha : a.put oi.dst undef = a' := by (try simp only [Act.put, List.setIfInBounds_toArray, List.set_cons_zero, List.set_cons_succ]) <;> rfl) : wpAnyH P md l.toArray Q S (fuel + 1) listed a w :=
  take_first i hi hs hf hr hQ (.inr ⟨hw, rfl⟩) hS (ha ▸ h)

/-- An entry as a value: the label, and where its message lies. -/
def ent (x : Lb) (s : Value) : Value := .agg #[.int .u64 (x.1 : Nat), .int .i64 x.2.1, .int .u64 (x.2.2.1 : Nat), .int .i64 x.2.2.2, s]
/-- An entry in a block of its own. -/
def Ex (B : Nat) (x : Lb) (s : Value) (w : World) : Prop :=
  w.cell? ⟨B, 0, none⟩ = some (.int .u64 (x.1 : Nat)) ∧ w.cell? ⟨B, 1, none⟩ = some (.int .i64 x.2.1) ∧ w.cell? ⟨B, 2, none⟩ = some (.int .u64 (x.2.2.1 : Nat)) ∧ w.cell? ⟨B, 3, none⟩ = some (.int .i64 x.2.2.2) ∧ w.cell? ⟨B, 4, none⟩ = some s
theorem ex_new (w : World) (x : Lb) (s : Value) (t : TypeId) : Ex w.heap.size x s (w.alloc (.cells #[.int .u64 (x.1 : Nat), .int .i64 x.2.1, .int .u64 (x.2.2.1 : Nat), .int .i64 x.2.2.2, s] t)) :=
  ⟨cell_box w _ t 0 _ rfl, cell_box w _ t 1 _ rfl, cell_box w _ t 2 _ rfl, cell_box w _ t 3 _ rfl, cell_box w _ t 4 _ rfl⟩
theorem bl_cell {w w' : World} (u : Below w.heap.size w w') {a : Addr} {v : Value} (h : w.cell? a = some v) : w'.cell? a = some v := (u.cell (World.block_lt_of_cell? w _ h)).trans h
theorem Ex.bl {B : Nat} {x : Lb} {s : Value} {w w' : World} (h : Ex B x s w) (u : Below w.heap.size w w') : Ex B x s w' :=
  ⟨bl_cell u h.1, bl_cell u h.2.1, bl_cell u h.2.2.1, bl_cell u h.2.2.2.1, bl_cell u h.2.2.2.2⟩
theorem Ex.lt {B : Nat} {x : Lb} {s : Value} {w : World} (h : Ex B x s w) : B < w.heap.size := World.block_lt_of_cell? w _ h.1
def formE (x : Lb) (n : Nat) : Bool := formL x && decide (n ≤ 64)
set_option maxRecDepth 10000 in
set_option maxHeartbeats 1000000 in
theorem formE_any (w : World) (x : Lb) (ao : Option Addr) (n cap : Nat) : Calls Tryz.prog 97 #[ent x (.slice ao n cap)] w fun e w' => e = .returned (.bool (formE x n)) ∧ Up w w' := by
  have c1 := fun W => formL_any W x
  have up0 : Up w (w.alloc (.cells #[.int .u64 (x.1 : Nat), .int .i64 x.2.1, .int .u64 (x.2.2.1 : Nat), .int .i64 x.2.2.2, .slice ao n cap] 41)) := (Up.refl _).alloc _
  have ex0 := ex_new w x (.slice ao n cap) 41
  unfold formE
  obtain ⟨a, b, c, d⟩ := x
  unfold lab at c1
  unfold ent
  simp only at c1 up0 ex0 ⊢
  cases hf : formL (a, b, c, d) with
  | false =>
    rw [hf] at c1
    simp only [Bool.false_and]
    obtain ⟨x0, x1, x2, x3, x4⟩ := ex0
    go_enter Tryz.func97, Tryz.ntmps97
    go_wp2_with fail
    refine (c1 _).mono ?_
    rintro e w1 ⟨rfl, hb⟩
    have up1 := up0.trans hb
    clear hb c1 up0 x0 x1 x2 x3 x4
    go_wp2
    go_ret
    exact ⟨rfl, up1⟩
  | true =>
    rw [hf] at c1
    simp only [Bool.true_and]
    obtain ⟨x0, x1, x2, x3, x4⟩ := id ex0
    go_enter Tryz.func97, Tryz.ntmps97
    go_wp2_with fail
    refine (c1 _).mono ?_
    rintro e w1 ⟨rfl, hb⟩
    have up1 := up0.trans hb
    obtain ⟨y0, y1, y2, y3, y4⟩ := ex0.bl hb.bl
    clear hb c1 up0 x0 x1 x2 x3 x4 ex0
    go_wp2
    go_ret
    exact ⟨ret_bool (by simp [*] <;> omega), up1⟩
end Go.Proofs.YtlaihgdfedalmaaGreat
