/-
  The document's Decode of a view's number.
-/
import Derived.Test.YtpdgoalbknopiaaJRefC
import Derived.Deep.Cut
namespace Go.Proofs.Ytpdgoalbknopiaa
open Go.RowKit
set_option linter.unusedVariables false

/-- The document's reader and its bytes, behind a world. -/
def Gd (w W : World) (m : Nat) (ao : Option Addr) (n cap : Nat) (xs : List UInt8) (o : Option Nat) : Prop := Cd.RR W m ao n cap o ∧ Cd.Row W ao n cap xs ∧ w.grownBy W (some m) ∧ m < w.heap.size
section
variable {w W W' : World} {m : Nat} {ao : Option Addr} {n cap : Nat} {xs : List UInt8} {o o' : Option Nat}
theorem Gd.below (h : Gd w W m ao n cap xs o) (hb : Below W.heap.size W W') : Gd w W' m ao n cap xs o :=
  ⟨h.1.below hb, h.2.1.below hb (Nat.le_refl _), Cd.grown_trans h.2.2.1 (Cd.grown_of_below hb _), h.2.2.2⟩
theorem Gd.alloc (h : Gd w W m ao n cap xs o) (x : Obj) : Gd w (W.alloc x) m ao n cap xs o := h.below ((Below.refl _ _).alloc (Nat.le_refl _) _)
theorem Gd.step (h : Gd w W m ao n cap xs o) (hr : Cd.RR W' m ao n cap o') (g : W.grownBy W' (some m)) : Gd w W' m ao n cap xs o' :=
  ⟨hr, Cd.row_RR h.2.1 h.1 g, Cd.grown_trans h.2.2.1 g, h.2.2.2⟩
theorem Gd.set (h : Gd w W m ao n cap xs o) {B j : Nat} {v0 : Value} (u : Value) (hB : w.heap.size ≤ B) (hc : W.cell? ⟨B, j, none⟩ = some v0) (hv : ∀ k, v0 ≠ .int .u8 k) : Gd w (W.setCell ⟨B, j, none⟩ u) m ao n cap xs o := by
  have hm := h.2.2.2
  refine ⟨?_, row_set h.2.1 u hc hv, grown_set h.2.2.1 hB u, h.2.2.2⟩
  unfold Cd.RR
  rw [Below.heap_setCell _ _ _ _ (by show m ≠ B; omega)]
  exact h.1
theorem Gd.fault (h : Gd w W m ao n cap xs o) : Gd w (W.setCell ⟨m, 1, none⟩ (.int .i64 (-1))) m ao n cap xs none :=
  ⟨h.1.set none, row_set h.2.1 _ h.1.cells.2.1 (by simp), ⟨h.2.2.1.os, h.2.2.1.tape, h.2.2.1.output, by simpa [World.setCell] using h.2.2.1.size, fun k hk hne => (Below.heap_setCell _ _ _ _ (fun e => hne (by rw [e]))).trans (h.2.2.1.block k hk hne)⟩, h.2.2.2⟩
end

set_option maxRecDepth 10000 in
set_option maxHeartbeats 2000000 in
theorem refDecode_step (w : World) (m : Nat) (ao : Option Addr) (n cap : Nat) (xs : List UInt8) (o : Option Nat) (st : Option (List UInt8)) (hs : Cd.same xs o st) (h : Cd.RR w m ao n cap o) (hx : Cd.Row w ao n cap xs) (hn : n ≤ 140737488355328) :
    Calls Try.prog 46 #[.pointer (some ⟨m, 0, none⟩)] w fun e w' => e = .returned (vid (decV st).1.1 ((decV st).1.2 : Nat)) ∧ ∃ o', Cd.same xs o' (decV st).2 ∧ Cd.RR w' m ao n cap o' ∧ w.grownBy w' (some m) := by
  have hml := h.lt
  have g0 : Gd w w m ao n cap xs o := ⟨h, hx, Cd.grown_refl _ _, hml⟩
  have g1 := g0.alloc (.cells #[.int .u64 0, .int .i64 0] 24)
  have hu := Cd.refUint_step _ m ao n cap xs o st hs g1.1 g1.2.1 hn
  have hi := fun W o1 (hs1 : Cd.same xs o1 (Cd.rUint st).2) (hg : Gd w W m ao n cap xs o1) => Cd.refInt_step W m ao n cap xs o1 (Cd.rUint st).2 hs1 hg.1 hg.2.1 hn 15 (by omega) (by omega)
  have HD : Hid _ := dec_ref st
  have hlt := Cd.rUint_lt st
  generalize (Cd.rUint st).1 = N at *
  generalize (Cd.rUint st).2 = st1 at *
  generalize Cd.rInt st1 15 = ri at *
  obtain ⟨P, st2⟩ := ri
  simp only at HD hi
  have hform := fun W => refFormB_any W N (P : Int)
  unfold vid at *
  rw [HD.out]
  clear HD h hx g0
  go_enter Try.func46, Try.ntmps46
  go_wp2_with fail
  refine hu.mono ?_
  rintro e w1 ⟨rfl, o1, hs1, rr1, gr1⟩
  have g2 := g1.step rr1 gr1
  have b0 := gr1.cell (cell_box w #[Value.int .u64 0, .int .i64 0] 24 0 _ rfl) (by simp; omega)
  have b1 := gr1.cell (cell_box w #[Value.int .u64 0, .int .i64 0] 24 1 _ rfl) (by simp; omega)
  have f0 : ∀ j, w1.frozen? ⟨w.heap.size, j, none⟩ = false := fun j => by
    rw [World.frozen?_of_block (w := w.alloc (.cells #[Value.int .u64 0, .int .i64 0] 24)) (gr1.block _ (by simp) (by simp; omega))]
    unfold World.frozen?; rw [show (w.alloc (.cells #[Value.int .u64 0, .int .i64 0] 24)).heap[w.heap.size]? = some (.cells #[Value.int .u64 0, .int .i64 0] 24 (0, 0)) from heap_alloc_new _ _]; simp
  have hw1 : w.heap.size + 1 ≤ w1.heap.size := by have := gr1.size; simpa using this
  clear hu g1 rr1 gr1
  go_wp2_with fail
  have g3 := g2.alloc (.cells #[.int .u64 (N : Nat), .int .i64 0] 24)
  have up : ∀ {ad v}, w1.cell? ad = some v → (w1.alloc (.cells #[.int .u64 (N : Nat), .int .i64 0] 24)).cell? ad = some v := fun {ad v} hh => (((Below.refl _ w1).alloc (Nat.le_refl _) _).cell (World.block_lt_of_cell? w1 _ hh)).trans hh
  refine (hi _ o1 hs1 g3).mono ?_
  rintro e w3 ⟨rfl, o3, hs3, rr3, gr3⟩
  have g4 := g3.step rr3 gr3
  have c00 := gr3.cell (up b0) (by simp; omega)
  have c01 := gr3.cell (up b1) (by simp; omega)
  have c10 := gr3.cell (cell_box w1 #[Value.int .u64 (N : Nat), .int .i64 0] 24 0 _ rfl) (by simp; omega)
  have c11 := gr3.cell (cell_box w1 #[Value.int .u64 (N : Nat), .int .i64 0] 24 1 _ rfl) (by simp; omega)
  have e0 : ∀ j, w3.frozen? ⟨w.heap.size, j, none⟩ = false := fun j => by
    rw [World.frozen?_of_block (w := w1) ((gr3.block w.heap.size (by simp; omega) (by simp; omega)).trans (Below.heap_alloc w1 _ _ (by omega)))]; exact f0 j
  have e1 : ∀ j, w3.frozen? ⟨w1.heap.size, j, none⟩ = false := fun j => by
    rw [World.frozen?_of_block (w := w1.alloc (.cells #[Value.int .u64 (N : Nat), .int .i64 0] 24)) (gr3.block _ (by simp) (by simp; omega))]
    unfold World.frozen?; rw [show (w1.alloc (.cells #[Value.int .u64 (N : Nat), .int .i64 0] 24)).heap[w1.heap.size]? = some (.cells #[Value.int .u64 (N : Nat), .int .i64 0] 24 (0, 0)) from heap_alloc_new _ _]; simp
  have g5 := g4.set (B := w1.heap.size) (j := 1) (.int .i64 (P : Nat)) (by omega) c11 (by simp)
  have a00 : (w3.setCell ⟨w1.heap.size, 1, none⟩ (.int .i64 (P : Nat))).cell? ⟨w.heap.size, 0, none⟩ = some (.int .u64 0) := by rw [set_cell_other (by omega)]; exact c00
  have a01 : (w3.setCell ⟨w1.heap.size, 1, none⟩ (.int .i64 (P : Nat))).cell? ⟨w.heap.size, 1, none⟩ = some (.int .i64 0) := by rw [set_cell_other (by omega)]; exact c01
  have a10 : (w3.setCell ⟨w1.heap.size, 1, none⟩ (.int .i64 (P : Nat))).cell? ⟨w1.heap.size, 0, none⟩ = some (.int .u64 (N : Nat)) := by rw [set_cell_other (by omega)]; exact c10
  have a11 : (w3.setCell ⟨w1.heap.size, 1, none⟩ (.int .i64 (P : Nat))).cell? ⟨w1.heap.size, 1, none⟩ = some (.int .i64 (P : Nat)) := set_cell c11
  have af0 : ∀ j, (w3.setCell ⟨w1.heap.size, 1, none⟩ (.int .i64 (P : Nat))).frozen? ⟨w.heap.size, j, none⟩ = false := fun j => by rw [World.frozen?_setCell]; exact e0 j
  have ef := e1 1
  clear g3 g4 g2 hi up gr3 rr3 b0 b1 f0 e0 e1 c00 c01 c10
  go_upto_region 3 with fail
  generalize w3.setCell ⟨w1.heap.size, 1, none⟩ (.int .i64 (P : Nat)) = w4 at *
  have afm : w4.frozen? ⟨m, 1, none⟩ = false := g5.1.cells.2.2.2
  have am := g5.1.cells.2.1
  clear c11 ef
  -- the end behind a fault
  have bad : ∀ W, (∀ ad v, w4.cell? ad = some v → W.cell? ad = some v) → Gd w W m ao n cap xs o3 → (W.setCell ⟨m, 1, none⟩ (.int .i64 (-1))).cell? ⟨w.heap.size, 0, none⟩ = some (.int .u64 0) ∧ (W.setCell ⟨m, 1, none⟩ (.int .i64 (-1))).cell? ⟨w.heap.size, 1, none⟩ = some (.int .i64 0) ∧
      ((W.setCell ⟨m, 1, none⟩ (.int .i64 (-1))).setCell ⟨w.heap.size, 0, none⟩ (.int .u64 0)).cell? ⟨w.heap.size, 0, none⟩ = some (.int .u64 0) ∧
      (((W.setCell ⟨m, 1, none⟩ (.int .i64 (-1))).setCell ⟨w.heap.size, 0, none⟩ (.int .u64 0)).setCell ⟨w.heap.size, 1, none⟩ (.int .i64 0)).cell? ⟨w.heap.size, 1, none⟩ = some (.int .i64 0) ∧
      Hid (Cd.RR (((W.setCell ⟨m, 1, none⟩ (.int .i64 (-1))).setCell ⟨w.heap.size, 0, none⟩ (.int .u64 0)).setCell ⟨w.heap.size, 1, none⟩ (.int .i64 0)) m ao n cap none ∧ w.grownBy (((W.setCell ⟨m, 1, none⟩ (.int .i64 (-1))).setCell ⟨w.heap.size, 0, none⟩ (.int .u64 0)).setCell ⟨w.heap.size, 1, none⟩ (.int .i64 0)) (some m)) := by
    intro W hW hG
    have x0 : (W.setCell ⟨m, 1, none⟩ (.int .i64 (-1))).cell? ⟨w.heap.size, 0, none⟩ = some (.int .u64 0) := by rw [set_cell_other (by omega)]; exact hW _ _ a00
    have x1 : (W.setCell ⟨m, 1, none⟩ (.int .i64 (-1))).cell? ⟨w.heap.size, 1, none⟩ = some (.int .i64 0) := by rw [set_cell_other (by omega)]; exact hW _ _ a01
    have y1 : ((W.setCell ⟨m, 1, none⟩ (.int .i64 (-1))).setCell ⟨w.heap.size, 0, none⟩ (.int .u64 0)).cell? ⟨w.heap.size, 1, none⟩ = some (.int .i64 0) := by rw [set_cell_other (by omega)]; exact x1
    have gg := (hG.fault.set (B := w.heap.size) (j := 0) (.int .u64 0) (Nat.le_refl _) x0 (by simp)).set (B := w.heap.size) (j := 1) (.int .i64 0) (Nat.le_refl _) y1 (by simp)
    exact ⟨x0, x1, set_cell x0, set_cell y1, gg.1, gg.2.2.1⟩
  cases o3 with
  | none =>
    obtain rfl : st2 = none := by
      cases st2 with
      | none => rfl
      | some ys => exact absurd hs3 (by simp [Cd.same])
    obtain ⟨x0, x1, y0, y1, HE⟩ := bad w4 (fun _ _ hh => hh) g5
    have xf : ∀ j, (w4.setCell ⟨m, 1, none⟩ (.int .i64 (-1))).frozen? ⟨w.heap.size, j, none⟩ = false := fun j => by rw [World.frozen?_setCell]; exact af0 j
    have hat : Cd.atOf none = -1 := rfl
    rw [hat] at am
    clear bad g5 hat hform
    have af00 := af0 0
    have af01 := af0 1
    go_wp2
    refine bodyPost_ret (v := .agg #[.int .u64 0, .int .i64 0]) ?_ rfl ⟨?_, none, ?_, HE.out⟩
    · simp [results, Try.results46, go_sem, y0, y1]
    · simp
    · simp [Cd.same]
  | some k =>
    obtain ⟨ys, rfl⟩ : ∃ ys, st2 = some ys := by
      cases st2 with
      | none => exact absurd hs3 (by simp [Cd.same])
      | some ys => exact ⟨ys, rfl⟩
    have hat : Cd.atOf (some k) = (k : Int) := rfl
    rw [hat] at am
    clear hat
    have hk0 : ¬ ((k : Int) < 0) := by omega
    have hkd : decide ((k : Int) < 0) = false := by simp
    cases hfv : formV N (P : Int) with
    | false =>
      rw [hfv] at hform
      have bad' := fun W (hb : Below w4.heap.size w4 W) => bad W (fun ad v hh => (hb.cell (World.block_lt_of_cell? w4 _ hh)).trans hh) (g5.below hb)
      have frz : ∀ W, Below w4.heap.size w4 W → W.frozen? ⟨m, 1, none⟩ = false ∧ W.cell? ⟨m, 1, none⟩ = some (.int .i64 (k : Int)) ∧ ∀ j, (W.setCell ⟨m, 1, none⟩ (.int .i64 (-1))).frozen? ⟨w.heap.size, j, none⟩ = false := fun W hb =>
        ⟨(g5.below hb).1.cells.2.2.2, (g5.below hb).1.cells.2.1, fun j => by rw [World.frozen?_setCell, World.frozen?_of_block (w := w4) (a := ⟨w.heap.size, j, none⟩) (hb.block w.heap.size (World.block_lt_of_cell? w4 _ a00))]; exact af0 j⟩
      clear bad g5
      go_wp2_with fail
      refine (hform _).mono ?_
      rintro e w5 ⟨rfl, hb5⟩
      obtain ⟨x0, x1, y0, y1, HE⟩ := bad' w5 hb5
      obtain ⟨z1, z2, z3⟩ := frz w5 hb5
      have z30 := z3 0
      have z31 := z3 1
      clear bad' frz hb5 hform
      go_wp2
      all_goals
        refine bodyPost_ret (v := .agg #[.int .u64 0, .int .i64 0]) ?_ rfl ⟨?_, none, ?_, HE.out⟩
        · simp [results, Try.results46, go_sem, y0, y1]
        · simp
        · simp [Cd.same]
    | true =>
      rw [hfv] at hform
      have good : ∀ W, Below w4.heap.size w4 W → W.cell? ⟨w1.heap.size, 0, none⟩ = some (.int .u64 (N : Nat)) ∧ W.cell? ⟨w1.heap.size, 1, none⟩ = some (.int .i64 (P : Nat)) ∧ W.cell? ⟨w.heap.size, 0, none⟩ = some (.int .u64 0) ∧ W.cell? ⟨w.heap.size, 1, none⟩ = some (.int .i64 0) ∧ (∀ j, W.frozen? ⟨w.heap.size, j, none⟩ = false) ∧
          (W.setCell ⟨w.heap.size, 0, none⟩ (.int .u64 (N : Nat))).cell? ⟨w.heap.size, 0, none⟩ = some (.int .u64 (N : Nat)) ∧ ((W.setCell ⟨w.heap.size, 0, none⟩ (.int .u64 (N : Nat))).setCell ⟨w.heap.size, 1, none⟩ (.int .i64 (P : Nat))).cell? ⟨w.heap.size, 1, none⟩ = some (.int .i64 (P : Nat)) ∧
          Hid (Cd.RR ((W.setCell ⟨w.heap.size, 0, none⟩ (.int .u64 (N : Nat))).setCell ⟨w.heap.size, 1, none⟩ (.int .i64 (P : Nat))) m ao n cap (some k) ∧ w.grownBy ((W.setCell ⟨w.heap.size, 0, none⟩ (.int .u64 (N : Nat))).setCell ⟨w.heap.size, 1, none⟩ (.int .i64 (P : Nat))) (some m)) := by
        intro W hb
        have kp : ∀ {ad v}, w4.cell? ad = some v → W.cell? ad = some v := fun {ad v} hh => (hb.cell (World.block_lt_of_cell? w4 _ hh)).trans hh
        have y1 : (W.setCell ⟨w.heap.size, 0, none⟩ (.int .u64 (N : Nat))).cell? ⟨w.heap.size, 1, none⟩ = some (.int .i64 0) := by rw [set_cell_other (by omega)]; exact kp a01
        have gg := ((g5.below hb).set (B := w.heap.size) (j := 0) (.int .u64 (N : Nat)) (Nat.le_refl _) (kp a00) (by simp)).set (B := w.heap.size) (j := 1) (.int .i64 (P : Nat)) (Nat.le_refl _) y1 (by simp)
        exact ⟨kp a10, kp a11, kp a00, kp a01, fun j => by rw [World.frozen?_of_block (w := w4) (a := ⟨w.heap.size, j, none⟩) (hb.block w.heap.size (World.block_lt_of_cell? w4 _ a00))]; exact af0 j, set_cell (kp a00), set_cell y1, gg.1, gg.2.2.1⟩
      clear bad g5
      go_wp2_with fail
      refine (hform _).mono ?_
      rintro e w5 ⟨rfl, hb5⟩
      obtain ⟨z1, z2, z3, z4, z5, y0, y1, HE⟩ := good w5 hb5
      have z50 := z5 0
      have z51 := z5 1
      clear good hb5 hform
      go_wp2
      all_goals
        refine bodyPost_ret (v := .agg #[.int .u64 (N : Nat), .int .i64 (P : Nat)]) ?_ rfl ⟨?_, some k, ?_, HE.out⟩
        · simp [results, Try.results46, go_sem, y0, y1]
        · simp
        · simpa using hs3
end Go.Proofs.Ytpdgoalbknopiaa
