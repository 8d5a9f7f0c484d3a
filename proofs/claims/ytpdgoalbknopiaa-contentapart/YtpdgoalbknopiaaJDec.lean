/-
  Decode of package ident, and the document's answers.
-/
import Derived.Test.YtpdgoalbknopiaaJCode
namespace Go.Proofs.Ytpdgoalbknopiaa
open Go.RowKit
set_option linter.unusedVariables false

/-- The next view's number of what is left, and what is left behind it. -/
def decV (st : Option (List UInt8)) : (Nat × Nat) × Option (List UInt8) :=
  match (Cd.rInt (Cd.rUint st).2 (if (Cd.rUint st).1 = 0 then 0 else 15)).2 with
  | none => ((0, 0), none)
  | some ys => (((Cd.rUint st).1, (Cd.rInt (Cd.rUint st).2 (if (Cd.rUint st).1 = 0 then 0 else 15)).1), some ys)

theorem rd_alloc {w : World} {r : Nat} {st : Option (List UInt8)} (h : Cd.Rd w r st) (o : Obj) : Cd.Rd (w.alloc o) r st := Cd.rd_below h ((Below.refl _ _).alloc (Nat.le_refl _) _)
/-- Bytes and a reader, while a cell is written that is no byte and no reader's. -/
theorem row_set {w : World} {ao : Option Addr} {n cap : Nat} {xs : List UInt8} (h : Cd.Row w ao n cap xs) {a : Addr} {v0 : Value} (u : Value) (hc : w.cell? a = some v0) (hv : ∀ k, v0 ≠ .int .u8 k) : Cd.Row (w.setCell a u) ao n cap xs := by
  obtain ⟨h1, h2, h3, h4, h5⟩ := h
  refine ⟨h1, h2, h3, h4, fun b hb i hi => ?_⟩
  rw [World.cell?_setCell_other]
  · exact h5 b hb i hi
  · intro e
    have := h5 b hb i hi
    rw [← e, hc] at this
    exact hv _ (Option.some.inj this)
theorem rd_set {w : World} {r B j : Nat} {st : Option (List UInt8)} (h : Cd.Rd w r st) (hb : r ≠ B) {v0 : Value} (u : Value) (hc : w.cell? ⟨B, j, none⟩ = some v0) (hv : ∀ k, v0 ≠ .int .u8 k) : Cd.Rd (w.setCell ⟨B, j, none⟩ u) r st := by
  have he : (w.setCell ⟨B, j, none⟩ u).heap[r]? = w.heap[r]? := Below.heap_setCell _ _ _ _ hb
  cases st with
  | none => exact he.trans h
  | some xs =>
    obtain ⟨ao, n, cap, h1, h2⟩ := h
    exact ⟨ao, n, cap, he.trans h1, row_set h2.1 u hc hv, h2.2⟩
theorem grown_set {w w' : World} {r B j : Nat} (h : w.grownBy w' (some r)) (hB : w.heap.size ≤ B) (u : Value) : w.grownBy (w'.setCell ⟨B, j, none⟩ u) (some r) :=
  ⟨h.os, h.tape, h.output, by simpa [World.setCell] using h.size, fun k hk hne => (Below.heap_setCell _ _ _ _ (by show k ≠ B; omega)).trans (h.block k hk hne)⟩
theorem grown_alloc {w w' : World} {r : Nat} {o : Obj} (h : (w.alloc o).grownBy w' (some r)) : w.grownBy w' (some r) :=
  ⟨h.os, h.tape, h.output, by have := h.size; simp at this; omega, fun k hk hne => (h.block k (by simp; omega) hne).trans (Below.heap_alloc w o k hk)⟩
theorem set_cell {w : World} {b o : Nat} {v u : Value} (h : w.cell? ⟨b, o, none⟩ = some v) : (w.setCell ⟨b, o, none⟩ u).cell? ⟨b, o, none⟩ = some u := World.cell?_setCell_same _ _ _ h
theorem set_cell_other {w : World} {b o b' o' : Nat} {u : Value} (h : ¬ (b' = b ∧ o' = o)) : (w.setCell ⟨b, o, none⟩ u).cell? ⟨b', o', none⟩ = w.cell? ⟨b', o', none⟩ :=
  World.cell?_setCell_other _ _ _ _ (by intro e; simp only [Addr.mk.injEq] at e; omega)

set_option maxRecDepth 10000 in
set_option maxHeartbeats 1000000 in
theorem decode_rd (w : World) (r : Nat) (st : Option (List UInt8)) (h : Cd.Rd w r st) :
    Calls Try.prog 54 #[.pointer (some ⟨r, 0, none⟩)] w fun e w' => e = .returned (.tuple #[vid (decV st).1.1 ((decV st).1.2 : Nat), .bool (decV st).2.isSome]) ∧ Cd.Rd w' r (decV st).2 ∧ w.grownBy w' (some r) := by
  have hrl := h.lt
  have h1 := rd_alloc h (.cells #[.int .u64 0, .int .i64 0] 24)
  have hu := Cd.uint_rd _ r st h1
  have hlt := Cd.rUint_lt st
  have hgr := fun W => great_any W (Cd.rUint st).1
  have hint := fun W (hW : Cd.Rd W r (Cd.rUint st).2) => Cd.int_rd W r (Cd.rUint st).2 hW (if (Cd.rUint st).1 = 0 then 0 else 15) (by split <;> omega) (by split <;> omega)
  have HD : Hid (decV st = match (Cd.rInt (Cd.rUint st).2 (if (Cd.rUint st).1 = 0 then 0 else 15)).2 with
    | none => ((0, 0), none)
    | some ys => (((Cd.rUint st).1, (Cd.rInt (Cd.rUint st).2 (if (Cd.rUint st).1 = 0 then 0 else 15)).1), some ys)) := rfl
  generalize (Cd.rUint st).1 = N at *
  generalize (Cd.rUint st).2 = st1 at *
  generalize (if N = 0 then (0 : Int) else 15) = mx at *
  generalize Cd.rInt st1 mx = ri at *
  obtain ⟨P, st2⟩ := ri
  simp only at HD hint
  unfold vid
  rw [HD.out]
  clear HD
  go_enter Try.func54, Try.ntmps54
  go_wp2_with fail
  refine hu.mono ?_
  rintro e w1 ⟨rfl, rd1, g1⟩
  go_wp2_with fail
  refine (hgr _).mono ?_
  rintro e w2 ⟨rfl, rfl⟩
  go_wp2_with fail
  refine (hint _ rd1).mono ?_
  rintro e w2 ⟨rfl, rd2, g2⟩
  have b0 := cell_box w #[Value.int .u64 0, .int .i64 0] 24 0 _ rfl
  have b1 := cell_box w #[Value.int .u64 0, .int .i64 0] 24 1 _ rfl
  have b0' := g2.cell (g1.cell b0 (by simp; omega)) (by simp; omega)
  have b1' := g2.cell (g1.cell b1 (by simp; omega)) (by simp; omega)
  clear hu hgr hint h1 rd1 b0 b1
  go_wp2_with fail
  refine (Cd.bad_rd _ _ _ rd2).mono ?_
  rintro e w3 ⟨rfl, rfl⟩
  have g3 := grown_alloc (Cd.grown_trans g1 g2)
  have f0 : w2.frozen? ⟨w.heap.size, 0, none⟩ = false := by
    rw [World.frozen?_of_block (w := w.alloc (.cells #[Value.int .u64 0, .int .i64 0] 24)) ((Cd.grown_trans g1 g2).block _ (by simp) (by simp; omega))]
    unfold World.frozen?; rw [show (w.alloc (.cells #[Value.int .u64 0, .int .i64 0] 24)).heap[w.heap.size]? = some (.cells #[Value.int .u64 0, .int .i64 0] 24 (0, 0)) from heap_alloc_new _ _]; simp
  have f1 : w2.frozen? ⟨w.heap.size, 1, none⟩ = false := by
    rw [World.frozen?_of_block (w := w.alloc (.cells #[Value.int .u64 0, .int .i64 0] 24)) ((Cd.grown_trans g1 g2).block _ (by simp) (by simp; omega))]
    unfold World.frozen?; rw [show (w.alloc (.cells #[Value.int .u64 0, .int .i64 0] 24)).heap[w.heap.size]? = some (.cells #[Value.int .u64 0, .int .i64 0] 24 (0, 0)) from heap_alloc_new _ _]; simp
  have fin : ∀ (x y : Nat), ((w2.setCell ⟨w.heap.size, 0, none⟩ (.int .u64 (x : Nat))).setCell ⟨w.heap.size, 1, none⟩ (.int .i64 (y : Nat))).cell? ⟨w.heap.size, 0, none⟩ = some (.int .u64 (x : Nat)) ∧
      ((w2.setCell ⟨w.heap.size, 0, none⟩ (.int .u64 (x : Nat))).setCell ⟨w.heap.size, 1, none⟩ (.int .i64 (y : Nat))).cell? ⟨w.heap.size, 1, none⟩ = some (.int .i64 (y : Nat)) ∧
      Hid (Cd.Rd ((w2.setCell ⟨w.heap.size, 0, none⟩ (.int .u64 (x : Nat))).setCell ⟨w.heap.size, 1, none⟩ (.int .i64 (y : Nat))) r st2 ∧ w.grownBy ((w2.setCell ⟨w.heap.size, 0, none⟩ (.int .u64 (x : Nat))).setCell ⟨w.heap.size, 1, none⟩ (.int .i64 (y : Nat))) (some r)) := by
    intro x y
    have e1 : (w2.setCell ⟨w.heap.size, 0, none⟩ (.int .u64 (x : Nat))).cell? ⟨w.heap.size, 1, none⟩ = some (.int .i64 0) := by rw [set_cell_other (by omega)]; exact b1'
    refine ⟨?_, set_cell e1, ?_, grown_set (grown_set g3 (Nat.le_refl _) _) (Nat.le_refl _) _⟩
    · rw [set_cell_other (by omega)]; exact set_cell b0'
    · exact rd_set (rd_set rd2 (by omega) _ b0' (by simp)) (by omega) _ e1 (by simp)
  clear g1 g2 g3 h
  cases st2 with
  | none =>
    obtain ⟨e0, e1, HE⟩ := fin 0 0
    have k0 : (w2.setCell ⟨w.heap.size, 0, none⟩ (.int .u64 0)).cell? ⟨w.heap.size, 0, none⟩ = some (.int .u64 0) := set_cell b0'
    have k1 : ((w2.setCell ⟨w.heap.size, 0, none⟩ (.int .u64 0)).setCell ⟨w.heap.size, 1, none⟩ (.int .i64 0)).cell? ⟨w.heap.size, 1, none⟩ = some (.int .i64 0) := e1
    clear fin rd2 e0 e1
    go_wp2
    exact bodyPost_ret (v := .tuple #[.agg #[.int .u64 0, .int .i64 0], .bool false]) (by simp [results, Try.results54, go_sem, k0, k1]) rfl ⟨rfl, HE.out⟩
  | some ys =>
    obtain ⟨e0, e1, HE⟩ := fin N P
    clear fin rd2
    go_wp2
    exact bodyPost_ret (v := .tuple #[.agg #[.int .u64 (N : Nat), .int .i64 (P : Nat)], .bool true]) (by simp [results, Try.results54, go_sem, e0, e1]) rfl ⟨rfl, HE.out⟩
end Go.Proofs.Ytpdgoalbknopiaa
