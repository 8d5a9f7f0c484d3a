/-
  Proved: for every configuration c and every number self, BeatForms(c, self) returns true: which configurations are right, and which nodes they have; the document's example holds. No condition.
-/
import Derived.Test.YtofhkfbibdkjgaaRows
import Derived.Test.YtofhkfbibdkjgaaBArgs2
import Derived.ProofKit
import Derived.OpenShut
import Derived.ShutString
import Derived.ChangeOld
import Derived.Below
namespace Go.Proofs.Ytofhkfbibdkjgaa.beatForms
open Go.ChangeShapes Go.WideShapes Go.ChangeAt Go.RowKit
open Go.ChangeMaps (open_string shut_string)
set_option linter.unusedVariables false

theorem law_zero (s : Nat) : ∀ n, lawN s (fun _ => 0) n = withN 0 (s : Int)
  | 0 => rfl
  | n + 1 => by rw [lawN, if_neg (Nat.lt_irrefl 0)]; exact law_zero s n
theorem est_zero {s N : Nat} (hs : s < N) (hN : N ≤ 16) : estN s (fun _ => 0) N = withN 0 (s : Int) := by
  rw [est_law hs hN (fun _ _ => rfl), law_zero]
theorem six {w w1 w2 : World} {N B M W R Q : Int} (t1 : Turned (fun _ => False) (w.alloc (.cells #[.int .i64 N, .int .i64 B, .int .i64 M, .int .i64 W, .int .i64 R, .int .i64 Q] 23)) w1) :
    w1.heap[w.heap.size]? = some (.cells #[.int .i64 N, .int .i64 B, .int .i64 M, .int .i64 W, .int .i64 R, .int .i64 Q] 23 (0, 0)) := by
  rw [t1.block w.heap.size (by simp) (fun f => f)]
  exact heap_alloc_new _ _
theorem six_cells {w : World} {g : Nat} {N B M W R Q : Int} (hg : w.heap[g]? = some (.cells #[.int .i64 N, .int .i64 B, .int .i64 M, .int .i64 W, .int .i64 R, .int .i64 Q] 23 (0, 0))) :
    w.cell? ⟨g, 0, none⟩ = some (.int .i64 N) ∧ w.cell? ⟨g, 1, none⟩ = some (.int .i64 B) ∧ w.cell? ⟨g, 2, none⟩ = some (.int .i64 M) ∧ w.cell? ⟨g, 3, none⟩ = some (.int .i64 W) ∧ w.cell? ⟨g, 4, none⟩ = some (.int .i64 R) ∧ w.cell? ⟨g, 5, none⟩ = some (.int .i64 Q) := by
  refine ⟨?_, ?_, ?_, ?_, ?_, ?_⟩ <;> (unfold World.cell?; rw [hg]; rfl)

set_option maxRecDepth 20000 in
set_option maxHeartbeats 1000000 in
theorem no0 (w : World) (N B M W R Q s : Int)  (h0 : ¬ (1 ≤ N)) :
    Calls Try.prog 3 #[cfg N B M W R Q, .int .i64 s] w fun e w' => e = .returned (.bool true) ∧ Below w.heap.size w w' := by
  have hr : ¬ Right N B M W R Q := by unfold Right; omega
  have hneg : ¬ (Right N B M W R Q ∧ 0 ≤ s ∧ s < N) := fun h => hr h.1
  have hf := fun w => form_any w N B M W R Q
  rw [decide_eq_false hr] at hf
  have hnew := fun w => bnew_err w N B M W R Q s hneg
  unfold cfg at *
  go_enter Try.func3, Try.ntmps3
  go_wp2_with fail
  have t0 : Turned (fun _ => False) w (w.alloc (.cells #[.int .i64 N, .int .i64 B, .int .i64 M, .int .i64 W, .int .i64 R, .int .i64 Q] 23)) := (Turned.refl _ w).alloc _
  refine (awake_any _).mono ?_
  rintro e w1 ⟨rfl, t1⟩
  have hg := six (w2 := w) t1
  obtain ⟨c0, c1, c2, c3, c4, c5⟩ := six_cells hg
  have T1 : Hid (Turned (fun _ => False) w w1) := t0.trans t1 (fun _ f => f.elim)
  have HL : Hid (w.heap.size < w1.heap.size) := by have := t1.size; rw [World.size_alloc] at this; exact this
  generalize w.heap.size = g at *
  clear t0 t1
  have L1 := load23 hg rfl
  go_wp2_with fail
  refine (hnew _).mono ?_
  rintro e w2 ⟨rfl, t2⟩
  have hg2 : w2.heap[g]? = some (.cells #[.int .i64 N, .int .i64 B, .int .i64 M, .int .i64 W, .int .i64 R, .int .i64 Q] 23 (0, 0)) := by rw [t2.block g HL.out (fun f => f)]; exact hg
  have T2 : Hid (Turned (fun _ => False) w w2) := T1.out.trans t2 (fun _ f => f.elim)
  have HL2 : Hid (g < w2.heap.size) := Nat.lt_of_lt_of_le HL.out t2.size
  obtain ⟨d0, d1, d2, d3, d4, d5⟩ := six_cells hg2
  clear hg t2 c0 c1 c2 c3 c4 c5
  go_wp2_with fail
  refine (hf _).mono ?_
  rintro e w3 ⟨rfl, o, rfl⟩
  have hg3 : (w2.alloc o).heap[g]? = some (.cells #[.int .i64 N, .int .i64 B, .int .i64 M, .int .i64 W, .int .i64 R, .int .i64 Q] 23 (0, 0)) := by rw [Below.heap_alloc _ _ _ HL2.out]; exact hg2
  have e0 := (six_cells hg3).1
  have HB : Hid (Below w.heap.size w (w2.alloc o)) := (T2.out.alloc o).below (Nat.le_refl _) (fun _ f => f.elim)
  clear hg2 hg3 d0 d1 d2 d3 d4 d5
  go_wp2_with fail
  go_ret
  exact ⟨rfl, HB.out⟩

set_option maxRecDepth 20000 in
set_option maxHeartbeats 1000000 in
theorem no1 (w : World) (N B M W R Q s : Int) (h0 : 1 ≤ N) (h1 : ¬ (N ≤ 16)) :
    Calls Try.prog 3 #[cfg N B M W R Q, .int .i64 s] w fun e w' => e = .returned (.bool true) ∧ Below w.heap.size w w' := by
  have hr : ¬ Right N B M W R Q := by unfold Right; omega
  have hneg : ¬ (Right N B M W R Q ∧ 0 ≤ s ∧ s < N) := fun h => hr h.1
  have hf := fun w => form_any w N B M W R Q
  rw [decide_eq_false hr] at hf
  have hnew := fun w => bnew_err w N B M W R Q s hneg
  unfold cfg at *
  go_enter Try.func3, Try.ntmps3
  go_wp2_with fail
  have t0 : Turned (fun _ => False) w (w.alloc (.cells #[.int .i64 N, .int .i64 B, .int .i64 M, .int .i64 W, .int .i64 R, .int .i64 Q] 23)) := (Turned.refl _ w).alloc _
  refine (awake_any _).mono ?_
  rintro e w1 ⟨rfl, t1⟩
  have hg := six (w2 := w) t1
  obtain ⟨c0, c1, c2, c3, c4, c5⟩ := six_cells hg
  have T1 : Hid (Turned (fun _ => False) w w1) := t0.trans t1 (fun _ f => f.elim)
  have HL : Hid (w.heap.size < w1.heap.size) := by have := t1.size; rw [World.size_alloc] at this; exact this
  generalize w.heap.size = g at *
  clear t0 t1
  have L1 := load23 hg rfl
  go_wp2_with fail
  refine (hnew _).mono ?_
  rintro e w2 ⟨rfl, t2⟩
  have hg2 : w2.heap[g]? = some (.cells #[.int .i64 N, .int .i64 B, .int .i64 M, .int .i64 W, .int .i64 R, .int .i64 Q] 23 (0, 0)) := by rw [t2.block g HL.out (fun f => f)]; exact hg
  have T2 : Hid (Turned (fun _ => False) w w2) := T1.out.trans t2 (fun _ f => f.elim)
  have HL2 : Hid (g < w2.heap.size) := Nat.lt_of_lt_of_le HL.out t2.size
  obtain ⟨d0, d1, d2, d3, d4, d5⟩ := six_cells hg2
  clear hg t2 c0 c1 c2 c3 c4 c5
  go_wp2_with fail
  refine (hf _).mono ?_
  rintro e w3 ⟨rfl, o, rfl⟩
  have hg3 : (w2.alloc o).heap[g]? = some (.cells #[.int .i64 N, .int .i64 B, .int .i64 M, .int .i64 W, .int .i64 R, .int .i64 Q] 23 (0, 0)) := by rw [Below.heap_alloc _ _ _ HL2.out]; exact hg2
  have e0 := (six_cells hg3).1
  have HB : Hid (Below w.heap.size w (w2.alloc o)) := (T2.out.alloc o).below (Nat.le_refl _) (fun _ f => f.elim)
  clear hg2 hg3 d0 d1 d2 d3 d4 d5
  go_wp2_with fail
  go_ret
  exact ⟨rfl, HB.out⟩

set_option maxRecDepth 20000 in
set_option maxHeartbeats 1000000 in
theorem no2 (w : World) (N B M W R Q s : Int) (h0 : 1 ≤ N) (h1 : N ≤ 16) (h2 : ¬ (1 ≤ B)) :
    Calls Try.prog 3 #[cfg N B M W R Q, .int .i64 s] w fun e w' => e = .returned (.bool true) ∧ Below w.heap.size w w' := by
  have hr : ¬ Right N B M W R Q := by unfold Right; omega
  have hneg : ¬ (Right N B M W R Q ∧ 0 ≤ s ∧ s < N) := fun h => hr h.1
  have hf := fun w => form_any w N B M W R Q
  rw [decide_eq_false hr] at hf
  have hnew := fun w => bnew_err w N B M W R Q s hneg
  unfold cfg at *
  go_enter Try.func3, Try.ntmps3
  go_wp2_with fail
  have t0 : Turned (fun _ => False) w (w.alloc (.cells #[.int .i64 N, .int .i64 B, .int .i64 M, .int .i64 W, .int .i64 R, .int .i64 Q] 23)) := (Turned.refl _ w).alloc _
  refine (awake_any _).mono ?_
  rintro e w1 ⟨rfl, t1⟩
  have hg := six (w2 := w) t1
  obtain ⟨c0, c1, c2, c3, c4, c5⟩ := six_cells hg
  have T1 : Hid (Turned (fun _ => False) w w1) := t0.trans t1 (fun _ f => f.elim)
  have HL : Hid (w.heap.size < w1.heap.size) := by have := t1.size; rw [World.size_alloc] at this; exact this
  generalize w.heap.size = g at *
  clear t0 t1
  have L1 := load23 hg rfl
  go_wp2_with fail
  refine (hnew _).mono ?_
  rintro e w2 ⟨rfl, t2⟩
  have hg2 : w2.heap[g]? = some (.cells #[.int .i64 N, .int .i64 B, .int .i64 M, .int .i64 W, .int .i64 R, .int .i64 Q] 23 (0, 0)) := by rw [t2.block g HL.out (fun f => f)]; exact hg
  have T2 : Hid (Turned (fun _ => False) w w2) := T1.out.trans t2 (fun _ f => f.elim)
  have HL2 : Hid (g < w2.heap.size) := Nat.lt_of_lt_of_le HL.out t2.size
  obtain ⟨d0, d1, d2, d3, d4, d5⟩ := six_cells hg2
  clear hg t2 c0 c1 c2 c3 c4 c5
  go_wp2_with fail
  refine (hf _).mono ?_
  rintro e w3 ⟨rfl, o, rfl⟩
  have hg3 : (w2.alloc o).heap[g]? = some (.cells #[.int .i64 N, .int .i64 B, .int .i64 M, .int .i64 W, .int .i64 R, .int .i64 Q] 23 (0, 0)) := by rw [Below.heap_alloc _ _ _ HL2.out]; exact hg2
  have e0 := (six_cells hg3).1
  have HB : Hid (Below w.heap.size w (w2.alloc o)) := (T2.out.alloc o).below (Nat.le_refl _) (fun _ f => f.elim)
  clear hg2 hg3 d0 d1 d2 d3 d4 d5
  go_wp2_with fail
  go_ret
  exact ⟨rfl, HB.out⟩

set_option maxRecDepth 20000 in
set_option maxHeartbeats 1000000 in
theorem no3 (w : World) (N B M W R Q s : Int) (h0 : 1 ≤ N) (h1 : N ≤ 16) (h2 : 1 ≤ B) (h3 : ¬ (B < M)) :
    Calls Try.prog 3 #[cfg N B M W R Q, .int .i64 s] w fun e w' => e = .returned (.bool true) ∧ Below w.heap.size w w' := by
  have hr : ¬ Right N B M W R Q := by unfold Right; omega
  have hneg : ¬ (Right N B M W R Q ∧ 0 ≤ s ∧ s < N) := fun h => hr h.1
  have hf := fun w => form_any w N B M W R Q
  rw [decide_eq_false hr] at hf
  have hnew := fun w => bnew_err w N B M W R Q s hneg
  unfold cfg at *
  go_enter Try.func3, Try.ntmps3
  go_wp2_with fail
  have t0 : Turned (fun _ => False) w (w.alloc (.cells #[.int .i64 N, .int .i64 B, .int .i64 M, .int .i64 W, .int .i64 R, .int .i64 Q] 23)) := (Turned.refl _ w).alloc _
  refine (awake_any _).mono ?_
  rintro e w1 ⟨rfl, t1⟩
  have hg := six (w2 := w) t1
  obtain ⟨c0, c1, c2, c3, c4, c5⟩ := six_cells hg
  have T1 : Hid (Turned (fun _ => False) w w1) := t0.trans t1 (fun _ f => f.elim)
  have HL : Hid (w.heap.size < w1.heap.size) := by have := t1.size; rw [World.size_alloc] at this; exact this
  generalize w.heap.size = g at *
  clear t0 t1
  have L1 := load23 hg rfl
  go_wp2_with fail
  refine (hnew _).mono ?_
  rintro e w2 ⟨rfl, t2⟩
  have hg2 : w2.heap[g]? = some (.cells #[.int .i64 N, .int .i64 B, .int .i64 M, .int .i64 W, .int .i64 R, .int .i64 Q] 23 (0, 0)) := by rw [t2.block g HL.out (fun f => f)]; exact hg
  have T2 : Hid (Turned (fun _ => False) w w2) := T1.out.trans t2 (fun _ f => f.elim)
  have HL2 : Hid (g < w2.heap.size) := Nat.lt_of_lt_of_le HL.out t2.size
  obtain ⟨d0, d1, d2, d3, d4, d5⟩ := six_cells hg2
  clear hg t2 c0 c1 c2 c3 c4 c5
  go_wp2_with fail
  refine (hf _).mono ?_
  rintro e w3 ⟨rfl, o, rfl⟩
  have hg3 : (w2.alloc o).heap[g]? = some (.cells #[.int .i64 N, .int .i64 B, .int .i64 M, .int .i64 W, .int .i64 R, .int .i64 Q] 23 (0, 0)) := by rw [Below.heap_alloc _ _ _ HL2.out]; exact hg2
  have e0 := (six_cells hg3).1
  have HB : Hid (Below w.heap.size w (w2.alloc o)) := (T2.out.alloc o).below (Nat.le_refl _) (fun _ f => f.elim)
  clear hg2 hg3 d0 d1 d2 d3 d4 d5
  go_wp2_with fail
  go_ret
  exact ⟨rfl, HB.out⟩

set_option maxRecDepth 20000 in
set_option maxHeartbeats 1000000 in
theorem no4 (w : World) (N B M W R Q s : Int) (h0 : 1 ≤ N) (h1 : N ≤ 16) (h2 : 1 ≤ B) (h3 : B < M) (h4 : ¬ (M ≤ 1000)) :
    Calls Try.prog 3 #[cfg N B M W R Q, .int .i64 s] w fun e w' => e = .returned (.bool true) ∧ Below w.heap.size w w' := by
  have hr : ¬ Right N B M W R Q := by unfold Right; omega
  have hneg : ¬ (Right N B M W R Q ∧ 0 ≤ s ∧ s < N) := fun h => hr h.1
  have hf := fun w => form_any w N B M W R Q
  rw [decide_eq_false hr] at hf
  have hnew := fun w => bnew_err w N B M W R Q s hneg
  unfold cfg at *
  go_enter Try.func3, Try.ntmps3
  go_wp2_with fail
  have t0 : Turned (fun _ => False) w (w.alloc (.cells #[.int .i64 N, .int .i64 B, .int .i64 M, .int .i64 W, .int .i64 R, .int .i64 Q] 23)) := (Turned.refl _ w).alloc _
  refine (awake_any _).mono ?_
  rintro e w1 ⟨rfl, t1⟩
  have hg := six (w2 := w) t1
  obtain ⟨c0, c1, c2, c3, c4, c5⟩ := six_cells hg
  have T1 : Hid (Turned (fun _ => False) w w1) := t0.trans t1 (fun _ f => f.elim)
  have HL : Hid (w.heap.size < w1.heap.size) := by have := t1.size; rw [World.size_alloc] at this; exact this
  generalize w.heap.size = g at *
  clear t0 t1
  have L1 := load23 hg rfl
  go_wp2_with fail
  refine (hnew _).mono ?_
  rintro e w2 ⟨rfl, t2⟩
  have hg2 : w2.heap[g]? = some (.cells #[.int .i64 N, .int .i64 B, .int .i64 M, .int .i64 W, .int .i64 R, .int .i64 Q] 23 (0, 0)) := by rw [t2.block g HL.out (fun f => f)]; exact hg
  have T2 : Hid (Turned (fun _ => False) w w2) := T1.out.trans t2 (fun _ f => f.elim)
  have HL2 : Hid (g < w2.heap.size) := Nat.lt_of_lt_of_le HL.out t2.size
  obtain ⟨d0, d1, d2, d3, d4, d5⟩ := six_cells hg2
  clear hg t2 c0 c1 c2 c3 c4 c5
  go_wp2_with fail
  refine (hf _).mono ?_
  rintro e w3 ⟨rfl, o, rfl⟩
  have hg3 : (w2.alloc o).heap[g]? = some (.cells #[.int .i64 N, .int .i64 B, .int .i64 M, .int .i64 W, .int .i64 R, .int .i64 Q] 23 (0, 0)) := by rw [Below.heap_alloc _ _ _ HL2.out]; exact hg2
  have e0 := (six_cells hg3).1
  have HB : Hid (Below w.heap.size w (w2.alloc o)) := (T2.out.alloc o).below (Nat.le_refl _) (fun _ f => f.elim)
  clear hg2 hg3 d0 d1 d2 d3 d4 d5
  go_wp2_with fail
  go_ret
  exact ⟨rfl, HB.out⟩

set_option maxRecDepth 20000 in
set_option maxHeartbeats 1000000 in
theorem no5 (w : World) (N B M W R Q s : Int) (h0 : 1 ≤ N) (h1 : N ≤ 16) (h2 : 1 ≤ B) (h3 : B < M) (h4 : M ≤ 1000) (h5 : ¬ (1 ≤ W)) :
    Calls Try.prog 3 #[cfg N B M W R Q, .int .i64 s] w fun e w' => e = .returned (.bool true) ∧ Below w.heap.size w w' := by
  have hr : ¬ Right N B M W R Q := by unfold Right; omega
  have hneg : ¬ (Right N B M W R Q ∧ 0 ≤ s ∧ s < N) := fun h => hr h.1
  have hf := fun w => form_any w N B M W R Q
  rw [decide_eq_false hr] at hf
  have hnew := fun w => bnew_err w N B M W R Q s hneg
  unfold cfg at *
  go_enter Try.func3, Try.ntmps3
  go_wp2_with fail
  have t0 : Turned (fun _ => False) w (w.alloc (.cells #[.int .i64 N, .int .i64 B, .int .i64 M, .int .i64 W, .int .i64 R, .int .i64 Q] 23)) := (Turned.refl _ w).alloc _
  refine (awake_any _).mono ?_
  rintro e w1 ⟨rfl, t1⟩
  have hg := six (w2 := w) t1
  obtain ⟨c0, c1, c2, c3, c4, c5⟩ := six_cells hg
  have T1 : Hid (Turned (fun _ => False) w w1) := t0.trans t1 (fun _ f => f.elim)
  have HL : Hid (w.heap.size < w1.heap.size) := by have := t1.size; rw [World.size_alloc] at this; exact this
  generalize w.heap.size = g at *
  clear t0 t1
  have L1 := load23 hg rfl
  go_wp2_with fail
  refine (hnew _).mono ?_
  rintro e w2 ⟨rfl, t2⟩
  have hg2 : w2.heap[g]? = some (.cells #[.int .i64 N, .int .i64 B, .int .i64 M, .int .i64 W, .int .i64 R, .int .i64 Q] 23 (0, 0)) := by rw [t2.block g HL.out (fun f => f)]; exact hg
  have T2 : Hid (Turned (fun _ => False) w w2) := T1.out.trans t2 (fun _ f => f.elim)
  have HL2 : Hid (g < w2.heap.size) := Nat.lt_of_lt_of_le HL.out t2.size
  obtain ⟨d0, d1, d2, d3, d4, d5⟩ := six_cells hg2
  clear hg t2 c0 c1 c2 c3 c4 c5
  go_wp2_with fail
  refine (hf _).mono ?_
  rintro e w3 ⟨rfl, o, rfl⟩
  have hg3 : (w2.alloc o).heap[g]? = some (.cells #[.int .i64 N, .int .i64 B, .int .i64 M, .int .i64 W, .int .i64 R, .int .i64 Q] 23 (0, 0)) := by rw [Below.heap_alloc _ _ _ HL2.out]; exact hg2
  have e0 := (six_cells hg3).1
  have HB : Hid (Below w.heap.size w (w2.alloc o)) := (T2.out.alloc o).below (Nat.le_refl _) (fun _ f => f.elim)
  clear hg2 hg3 d0 d1 d2 d3 d4 d5
  go_wp2_with fail
  go_ret
  exact ⟨rfl, HB.out⟩

set_option maxRecDepth 20000 in
set_option maxHeartbeats 1000000 in
theorem no6 (w : World) (N B M W R Q s : Int) (h0 : 1 ≤ N) (h1 : N ≤ 16) (h2 : 1 ≤ B) (h3 : B < M) (h4 : M ≤ 1000) (h5 : 1 ≤ W) (h6 : ¬ (W ≤ 32)) :
    Calls Try.prog 3 #[cfg N B M W R Q, .int .i64 s] w fun e w' => e = .returned (.bool true) ∧ Below w.heap.size w w' := by
  have hr : ¬ Right N B M W R Q := by unfold Right; omega
  have hneg : ¬ (Right N B M W R Q ∧ 0 ≤ s ∧ s < N) := fun h => hr h.1
  have hf := fun w => form_any w N B M W R Q
  rw [decide_eq_false hr] at hf
  have hnew := fun w => bnew_err w N B M W R Q s hneg
  unfold cfg at *
  go_enter Try.func3, Try.ntmps3
  go_wp2_with fail
  have t0 : Turned (fun _ => False) w (w.alloc (.cells #[.int .i64 N, .int .i64 B, .int .i64 M, .int .i64 W, .int .i64 R, .int .i64 Q] 23)) := (Turned.refl _ w).alloc _
  refine (awake_any _).mono ?_
  rintro e w1 ⟨rfl, t1⟩
  have hg := six (w2 := w) t1
  obtain ⟨c0, c1, c2, c3, c4, c5⟩ := six_cells hg
  have T1 : Hid (Turned (fun _ => False) w w1) := t0.trans t1 (fun _ f => f.elim)
  have HL : Hid (w.heap.size < w1.heap.size) := by have := t1.size; rw [World.size_alloc] at this; exact this
  generalize w.heap.size = g at *
  clear t0 t1
  have L1 := load23 hg rfl
  go_wp2_with fail
  refine (hnew _).mono ?_
  rintro e w2 ⟨rfl, t2⟩
  have hg2 : w2.heap[g]? = some (.cells #[.int .i64 N, .int .i64 B, .int .i64 M, .int .i64 W, .int .i64 R, .int .i64 Q] 23 (0, 0)) := by rw [t2.block g HL.out (fun f => f)]; exact hg
  have T2 : Hid (Turned (fun _ => False) w w2) := T1.out.trans t2 (fun _ f => f.elim)
  have HL2 : Hid (g < w2.heap.size) := Nat.lt_of_lt_of_le HL.out t2.size
  obtain ⟨d0, d1, d2, d3, d4, d5⟩ := six_cells hg2
  clear hg t2 c0 c1 c2 c3 c4 c5
  go_wp2_with fail
  refine (hf _).mono ?_
  rintro e w3 ⟨rfl, o, rfl⟩
  have hg3 : (w2.alloc o).heap[g]? = some (.cells #[.int .i64 N, .int .i64 B, .int .i64 M, .int .i64 W, .int .i64 R, .int .i64 Q] 23 (0, 0)) := by rw [Below.heap_alloc _ _ _ HL2.out]; exact hg2
  have e0 := (six_cells hg3).1
  have HB : Hid (Below w.heap.size w (w2.alloc o)) := (T2.out.alloc o).below (Nat.le_refl _) (fun _ f => f.elim)
  clear hg2 hg3 d0 d1 d2 d3 d4 d5
  go_wp2_with fail
  go_ret
  exact ⟨rfl, HB.out⟩

set_option maxRecDepth 20000 in
set_option maxHeartbeats 1000000 in
theorem no7 (w : World) (N B M W R Q s : Int) (h0 : 1 ≤ N) (h1 : N ≤ 16) (h2 : 1 ≤ B) (h3 : B < M) (h4 : M ≤ 1000) (h5 : 1 ≤ W) (h6 : W ≤ 32) (h7 : ¬ (1 ≤ R)) :
    Calls Try.prog 3 #[cfg N B M W R Q, .int .i64 s] w fun e w' => e = .returned (.bool true) ∧ Below w.heap.size w w' := by
  have hr : ¬ Right N B M W R Q := by unfold Right; omega
  have hneg : ¬ (Right N B M W R Q ∧ 0 ≤ s ∧ s < N) := fun h => hr h.1
  have hf := fun w => form_any w N B M W R Q
  rw [decide_eq_false hr] at hf
  have hnew := fun w => bnew_err w N B M W R Q s hneg
  unfold cfg at *
  go_enter Try.func3, Try.ntmps3
  go_wp2_with fail
  have t0 : Turned (fun _ => False) w (w.alloc (.cells #[.int .i64 N, .int .i64 B, .int .i64 M, .int .i64 W, .int .i64 R, .int .i64 Q] 23)) := (Turned.refl _ w).alloc _
  refine (awake_any _).mono ?_
  rintro e w1 ⟨rfl, t1⟩
  have hg := six (w2 := w) t1
  obtain ⟨c0, c1, c2, c3, c4, c5⟩ := six_cells hg
  have T1 : Hid (Turned (fun _ => False) w w1) := t0.trans t1 (fun _ f => f.elim)
  have HL : Hid (w.heap.size < w1.heap.size) := by have := t1.size; rw [World.size_alloc] at this; exact this
  generalize w.heap.size = g at *
  clear t0 t1
  have L1 := load23 hg rfl
  go_wp2_with fail
  refine (hnew _).mono ?_
  rintro e w2 ⟨rfl, t2⟩
  have hg2 : w2.heap[g]? = some (.cells #[.int .i64 N, .int .i64 B, .int .i64 M, .int .i64 W, .int .i64 R, .int .i64 Q] 23 (0, 0)) := by rw [t2.block g HL.out (fun f => f)]; exact hg
  have T2 : Hid (Turned (fun _ => False) w w2) := T1.out.trans t2 (fun _ f => f.elim)
  have HL2 : Hid (g < w2.heap.size) := Nat.lt_of_lt_of_le HL.out t2.size
  obtain ⟨d0, d1, d2, d3, d4, d5⟩ := six_cells hg2
  clear hg t2 c0 c1 c2 c3 c4 c5
  go_wp2_with fail
  refine (hf _).mono ?_
  rintro e w3 ⟨rfl, o, rfl⟩
  have hg3 : (w2.alloc o).heap[g]? = some (.cells #[.int .i64 N, .int .i64 B, .int .i64 M, .int .i64 W, .int .i64 R, .int .i64 Q] 23 (0, 0)) := by rw [Below.heap_alloc _ _ _ HL2.out]; exact hg2
  have e0 := (six_cells hg3).1
  have HB : Hid (Below w.heap.size w (w2.alloc o)) := (T2.out.alloc o).below (Nat.le_refl _) (fun _ f => f.elim)
  clear hg2 hg3 d0 d1 d2 d3 d4 d5
  go_wp2_with fail
  go_ret
  exact ⟨rfl, HB.out⟩

set_option maxRecDepth 20000 in
set_option maxHeartbeats 1000000 in
theorem no8 (w : World) (N B M W R Q s : Int) (h0 : 1 ≤ N) (h1 : N ≤ 16) (h2 : 1 ≤ B) (h3 : B < M) (h4 : M ≤ 1000) (h5 : 1 ≤ W) (h6 : W ≤ 32) (h7 : 1 ≤ R) (h8 : ¬ (R ≤ 256)) :
    Calls Try.prog 3 #[cfg N B M W R Q, .int .i64 s] w fun e w' => e = .returned (.bool true) ∧ Below w.heap.size w w' := by
  have hr : ¬ Right N B M W R Q := by unfold Right; omega
  have hneg : ¬ (Right N B M W R Q ∧ 0 ≤ s ∧ s < N) := fun h => hr h.1
  have hf := fun w => form_any w N B M W R Q
  rw [decide_eq_false hr] at hf
  have hnew := fun w => bnew_err w N B M W R Q s hneg
  unfold cfg at *
  go_enter Try.func3, Try.ntmps3
  go_wp2_with fail
  have t0 : Turned (fun _ => False) w (w.alloc (.cells #[.int .i64 N, .int .i64 B, .int .i64 M, .int .i64 W, .int .i64 R, .int .i64 Q] 23)) := (Turned.refl _ w).alloc _
  refine (awake_any _).mono ?_
  rintro e w1 ⟨rfl, t1⟩
  have hg := six (w2 := w) t1
  obtain ⟨c0, c1, c2, c3, c4, c5⟩ := six_cells hg
  have T1 : Hid (Turned (fun _ => False) w w1) := t0.trans t1 (fun _ f => f.elim)
  have HL : Hid (w.heap.size < w1.heap.size) := by have := t1.size; rw [World.size_alloc] at this; exact this
  generalize w.heap.size = g at *
  clear t0 t1
  have L1 := load23 hg rfl
  go_wp2_with fail
  refine (hnew _).mono ?_
  rintro e w2 ⟨rfl, t2⟩
  have hg2 : w2.heap[g]? = some (.cells #[.int .i64 N, .int .i64 B, .int .i64 M, .int .i64 W, .int .i64 R, .int .i64 Q] 23 (0, 0)) := by rw [t2.block g HL.out (fun f => f)]; exact hg
  have T2 : Hid (Turned (fun _ => False) w w2) := T1.out.trans t2 (fun _ f => f.elim)
  have HL2 : Hid (g < w2.heap.size) := Nat.lt_of_lt_of_le HL.out t2.size
  obtain ⟨d0, d1, d2, d3, d4, d5⟩ := six_cells hg2
  clear hg t2 c0 c1 c2 c3 c4 c5
  go_wp2_with fail
  refine (hf _).mono ?_
  rintro e w3 ⟨rfl, o, rfl⟩
  have hg3 : (w2.alloc o).heap[g]? = some (.cells #[.int .i64 N, .int .i64 B, .int .i64 M, .int .i64 W, .int .i64 R, .int .i64 Q] 23 (0, 0)) := by rw [Below.heap_alloc _ _ _ HL2.out]; exact hg2
  have e0 := (six_cells hg3).1
  have HB : Hid (Below w.heap.size w (w2.alloc o)) := (T2.out.alloc o).below (Nat.le_refl _) (fun _ f => f.elim)
  clear hg2 hg3 d0 d1 d2 d3 d4 d5
  go_wp2_with fail
  go_ret
  exact ⟨rfl, HB.out⟩

set_option maxRecDepth 20000 in
set_option maxHeartbeats 1000000 in
theorem no9 (w : World) (N B M W R Q s : Int) (h0 : 1 ≤ N) (h1 : N ≤ 16) (h2 : 1 ≤ B) (h3 : B < M) (h4 : M ≤ 1000) (h5 : 1 ≤ W) (h6 : W ≤ 32) (h7 : 1 ≤ R) (h8 : R ≤ 256) (h9 : ¬ (1 ≤ Q)) :
    Calls Try.prog 3 #[cfg N B M W R Q, .int .i64 s] w fun e w' => e = .returned (.bool true) ∧ Below w.heap.size w w' := by
  have hr : ¬ Right N B M W R Q := by unfold Right; omega
  have hneg : ¬ (Right N B M W R Q ∧ 0 ≤ s ∧ s < N) := fun h => hr h.1
  have hf := fun w => form_any w N B M W R Q
  rw [decide_eq_false hr] at hf
  have hnew := fun w => bnew_err w N B M W R Q s hneg
  unfold cfg at *
  go_enter Try.func3, Try.ntmps3
  go_wp2_with fail
  have t0 : Turned (fun _ => False) w (w.alloc (.cells #[.int .i64 N, .int .i64 B, .int .i64 M, .int .i64 W, .int .i64 R, .int .i64 Q] 23)) := (Turned.refl _ w).alloc _
  refine (awake_any _).mono ?_
  rintro e w1 ⟨rfl, t1⟩
  have hg := six (w2 := w) t1
  obtain ⟨c0, c1, c2, c3, c4, c5⟩ := six_cells hg
  have T1 : Hid (Turned (fun _ => False) w w1) := t0.trans t1 (fun _ f => f.elim)
  have HL : Hid (w.heap.size < w1.heap.size) := by have := t1.size; rw [World.size_alloc] at this; exact this
  generalize w.heap.size = g at *
  clear t0 t1
  have L1 := load23 hg rfl
  go_wp2_with fail
  refine (hnew _).mono ?_
  rintro e w2 ⟨rfl, t2⟩
  have hg2 : w2.heap[g]? = some (.cells #[.int .i64 N, .int .i64 B, .int .i64 M, .int .i64 W, .int .i64 R, .int .i64 Q] 23 (0, 0)) := by rw [t2.block g HL.out (fun f => f)]; exact hg
  have T2 : Hid (Turned (fun _ => False) w w2) := T1.out.trans t2 (fun _ f => f.elim)
  have HL2 : Hid (g < w2.heap.size) := Nat.lt_of_lt_of_le HL.out t2.size
  obtain ⟨d0, d1, d2, d3, d4, d5⟩ := six_cells hg2
  clear hg t2 c0 c1 c2 c3 c4 c5
  go_wp2_with fail
  refine (hf _).mono ?_
  rintro e w3 ⟨rfl, o, rfl⟩
  have hg3 : (w2.alloc o).heap[g]? = some (.cells #[.int .i64 N, .int .i64 B, .int .i64 M, .int .i64 W, .int .i64 R, .int .i64 Q] 23 (0, 0)) := by rw [Below.heap_alloc _ _ _ HL2.out]; exact hg2
  have e0 := (six_cells hg3).1
  have HB : Hid (Below w.heap.size w (w2.alloc o)) := (T2.out.alloc o).below (Nat.le_refl _) (fun _ f => f.elim)
  clear hg2 hg3 d0 d1 d2 d3 d4 d5
  go_wp2_with fail
  go_ret
  exact ⟨rfl, HB.out⟩

set_option maxRecDepth 20000 in
set_option maxHeartbeats 1000000 in
theorem no10 (w : World) (N B M W R Q s : Int) (h0 : 1 ≤ N) (h1 : N ≤ 16) (h2 : 1 ≤ B) (h3 : B < M) (h4 : M ≤ 1000) (h5 : 1 ≤ W) (h6 : W ≤ 32) (h7 : 1 ≤ R) (h8 : R ≤ 256) (h9 : 1 ≤ Q) (h10 : ¬ (Q ≤ 256)) :
    Calls Try.prog 3 #[cfg N B M W R Q, .int .i64 s] w fun e w' => e = .returned (.bool true) ∧ Below w.heap.size w w' := by
  have hr : ¬ Right N B M W R Q := by unfold Right; omega
  have hneg : ¬ (Right N B M W R Q ∧ 0 ≤ s ∧ s < N) := fun h => hr h.1
  have hf := fun w => form_any w N B M W R Q
  rw [decide_eq_false hr] at hf
  have hnew := fun w => bnew_err w N B M W R Q s hneg
  unfold cfg at *
  go_enter Try.func3, Try.ntmps3
  go_wp2_with fail
  have t0 : Turned (fun _ => False) w (w.alloc (.cells #[.int .i64 N, .int .i64 B, .int .i64 M, .int .i64 W, .int .i64 R, .int .i64 Q] 23)) := (Turned.refl _ w).alloc _
  refine (awake_any _).mono ?_
  rintro e w1 ⟨rfl, t1⟩
  have hg := six (w2 := w) t1
  obtain ⟨c0, c1, c2, c3, c4, c5⟩ := six_cells hg
  have T1 : Hid (Turned (fun _ => False) w w1) := t0.trans t1 (fun _ f => f.elim)
  have HL : Hid (w.heap.size < w1.heap.size) := by have := t1.size; rw [World.size_alloc] at this; exact this
  generalize w.heap.size = g at *
  clear t0 t1
  have L1 := load23 hg rfl
  go_wp2_with fail
  refine (hnew _).mono ?_
  rintro e w2 ⟨rfl, t2⟩
  have hg2 : w2.heap[g]? = some (.cells #[.int .i64 N, .int .i64 B, .int .i64 M, .int .i64 W, .int .i64 R, .int .i64 Q] 23 (0, 0)) := by rw [t2.block g HL.out (fun f => f)]; exact hg
  have T2 : Hid (Turned (fun _ => False) w w2) := T1.out.trans t2 (fun _ f => f.elim)
  have HL2 : Hid (g < w2.heap.size) := Nat.lt_of_lt_of_le HL.out t2.size
  obtain ⟨d0, d1, d2, d3, d4, d5⟩ := six_cells hg2
  clear hg t2 c0 c1 c2 c3 c4 c5
  go_wp2_with fail
  refine (hf _).mono ?_
  rintro e w3 ⟨rfl, o, rfl⟩
  have hg3 : (w2.alloc o).heap[g]? = some (.cells #[.int .i64 N, .int .i64 B, .int .i64 M, .int .i64 W, .int .i64 R, .int .i64 Q] 23 (0, 0)) := by rw [Below.heap_alloc _ _ _ HL2.out]; exact hg2
  have e0 := (six_cells hg3).1
  have HB : Hid (Below w.heap.size w (w2.alloc o)) := (T2.out.alloc o).below (Nat.le_refl _) (fun _ f => f.elim)
  clear hg2 hg3 d0 d1 d2 d3 d4 d5
  go_wp2_with fail
  go_ret
  exact ⟨rfl, HB.out⟩

set_option maxRecDepth 20000 in
set_option maxHeartbeats 1000000 in
theorem noS (w : World) (N B M W R Q s : Int) (h0 : 1 ≤ N) (h1 : N ≤ 16) (h2 : 1 ≤ B) (h3 : B < M) (h4 : M ≤ 1000) (h5 : 1 ≤ W) (h6 : W ≤ 32) (h7 : 1 ≤ R) (h8 : R ≤ 256) (h9 : 1 ≤ Q) (h10 : Q ≤ 256) (hs : ¬ (0 ≤ s ∧ s < N)) :
    Calls Try.prog 3 #[cfg N B M W R Q, .int .i64 s] w fun e w' => e = .returned (.bool true) ∧ Below w.heap.size w w' := by
  have hr : Right N B M W R Q := by unfold Right; omega
  have hneg : ¬ (Right N B M W R Q ∧ 0 ≤ s ∧ s < N) := fun h => hs h.2
  have hs' : s < 0 ∨ (¬ s < 0 ∧ N ≤ s) := by omega
  clear hs
  rcases hs' with hs | ⟨hs, hs2⟩
  · have hf := fun w => form_any w N B M W R Q
    rw [decide_eq_true hr] at hf
    have hnew := fun w => bnew_err w N B M W R Q s hneg
    unfold cfg at *
    go_enter Try.func3, Try.ntmps3
    go_wp2_with fail
    have t0 : Turned (fun _ => False) w (w.alloc (.cells #[.int .i64 N, .int .i64 B, .int .i64 M, .int .i64 W, .int .i64 R, .int .i64 Q] 23)) := (Turned.refl _ w).alloc _
    refine (awake_any _).mono ?_
    rintro e w1 ⟨rfl, t1⟩
    have hg := six (w2 := w) t1
    obtain ⟨c0, c1, c2, c3, c4, c5⟩ := six_cells hg
    have T1 : Hid (Turned (fun _ => False) w w1) := t0.trans t1 (fun _ f => f.elim)
    have HL : Hid (w.heap.size < w1.heap.size) := by have := t1.size; rw [World.size_alloc] at this; exact this
    generalize w.heap.size = g at *
    clear t0 t1
    have L1 := load23 hg rfl
    go_wp2_with fail
    refine (hnew _).mono ?_
    rintro e w2 ⟨rfl, t2⟩
    have hg2 : w2.heap[g]? = some (.cells #[.int .i64 N, .int .i64 B, .int .i64 M, .int .i64 W, .int .i64 R, .int .i64 Q] 23 (0, 0)) := by rw [t2.block g HL.out (fun f => f)]; exact hg
    have T2 : Hid (Turned (fun _ => False) w w2) := T1.out.trans t2 (fun _ f => f.elim)
    have HL2 : Hid (g < w2.heap.size) := Nat.lt_of_lt_of_le HL.out t2.size
    obtain ⟨d0, d1, d2, d3, d4, d5⟩ := six_cells hg2
    clear hg t2 c0 c1 c2 c3 c4 c5
    go_wp2_with fail
    refine (hf _).mono ?_
    rintro e w3 ⟨rfl, o, rfl⟩
    have hg3 : (w2.alloc o).heap[g]? = some (.cells #[.int .i64 N, .int .i64 B, .int .i64 M, .int .i64 W, .int .i64 R, .int .i64 Q] 23 (0, 0)) := by rw [Below.heap_alloc _ _ _ HL2.out]; exact hg2
    have e0 := (six_cells hg3).1
    have HB : Hid (Below w.heap.size w (w2.alloc o)) := (T2.out.alloc o).below (Nat.le_refl _) (fun _ f => f.elim)
    clear hg2 hg3 d0 d1 d2 d3 d4 d5
    go_wp2_with fail
    go_ret
    exact ⟨rfl, HB.out⟩
  · have hf := fun w => form_any w N B M W R Q
    rw [decide_eq_true hr] at hf
    have hnew := fun w => bnew_err w N B M W R Q s hneg
    unfold cfg at *
    go_enter Try.func3, Try.ntmps3
    go_wp2_with fail
    have t0 : Turned (fun _ => False) w (w.alloc (.cells #[.int .i64 N, .int .i64 B, .int .i64 M, .int .i64 W, .int .i64 R, .int .i64 Q] 23)) := (Turned.refl _ w).alloc _
    refine (awake_any _).mono ?_
    rintro e w1 ⟨rfl, t1⟩
    have hg := six (w2 := w) t1
    obtain ⟨c0, c1, c2, c3, c4, c5⟩ := six_cells hg
    have T1 : Hid (Turned (fun _ => False) w w1) := t0.trans t1 (fun _ f => f.elim)
    have HL : Hid (w.heap.size < w1.heap.size) := by have := t1.size; rw [World.size_alloc] at this; exact this
    generalize w.heap.size = g at *
    clear t0 t1
    have L1 := load23 hg rfl
    go_wp2_with fail
    refine (hnew _).mono ?_
    rintro e w2 ⟨rfl, t2⟩
    have hg2 : w2.heap[g]? = some (.cells #[.int .i64 N, .int .i64 B, .int .i64 M, .int .i64 W, .int .i64 R, .int .i64 Q] 23 (0, 0)) := by rw [t2.block g HL.out (fun f => f)]; exact hg
    have T2 : Hid (Turned (fun _ => False) w w2) := T1.out.trans t2 (fun _ f => f.elim)
    have HL2 : Hid (g < w2.heap.size) := Nat.lt_of_lt_of_le HL.out t2.size
    obtain ⟨d0, d1, d2, d3, d4, d5⟩ := six_cells hg2
    clear hg t2 c0 c1 c2 c3 c4 c5
    go_wp2_with fail
    refine (hf _).mono ?_
    rintro e w3 ⟨rfl, o, rfl⟩
    have hg3 : (w2.alloc o).heap[g]? = some (.cells #[.int .i64 N, .int .i64 B, .int .i64 M, .int .i64 W, .int .i64 R, .int .i64 Q] 23 (0, 0)) := by rw [Below.heap_alloc _ _ _ HL2.out]; exact hg2
    have e0 := (six_cells hg3).1
    have HB : Hid (Below w.heap.size w (w2.alloc o)) := (T2.out.alloc o).below (Nat.le_refl _) (fun _ f => f.elim)
    clear hg2 hg3 d0 d1 d2 d3 d4 d5
    go_wp2_with fail
    go_ret
    exact ⟨rfl, HB.out⟩

set_option maxRecDepth 20000 in
set_option maxHeartbeats 1000000 in
theorem yes (w : World) (N B M W R Q s : Int) (h0 : 1 ≤ N) (h1 : N ≤ 16) (h2 : 1 ≤ B) (h3 : B < M) (h4 : M ≤ 1000) (h5 : 1 ≤ W) (h6 : W ≤ 32) (h7 : 1 ≤ R) (h8 : R ≤ 256) (h9 : 1 ≤ Q) (h10 : Q ≤ 256) (hs : 0 ≤ s) (hs2 : s < N) :
    Calls Try.prog 3 #[cfg N B M W R Q, .int .i64 s] w fun e w' => e = .returned (.bool true) ∧ Below w.heap.size w w' := by
  have hr : Right N B M W R Q := by unfold Right; omega
  obtain ⟨N', rfl⟩ : ∃ n : Nat, N = n := ⟨N.toNat, by omega⟩
  obtain ⟨B', rfl⟩ : ∃ n : Nat, B = n := ⟨B.toNat, by omega⟩
  obtain ⟨M', rfl⟩ : ∃ n : Nat, M = n := ⟨M.toNat, by omega⟩
  obtain ⟨s', rfl⟩ : ∃ n : Nat, s = n := ⟨s.toNat, by omega⟩
  have hnew := fun w => bnew_any w N' B' M' W R Q hr s' (by omega)
  have hE : estN s' (fun _ => 0) N' = withN 0 (s' : Int) := est_zero (by omega) (by omega)
  have hrw := fun w => refWith_any w 0 (by omega) (s' : Int)
  have hf := fun w => form_any w (N' : Int) (B' : Int) (M' : Int) W R Q
  rw [decide_eq_true hr] at hf
  unfold cfg at *
  go_enter Try.func3, Try.ntmps3
  go_wp2_with fail
  have t0 : Turned (fun _ => False) w (w.alloc (.cells #[.int .i64 (N' : Nat), .int .i64 (B' : Nat), .int .i64 (M' : Nat), .int .i64 W, .int .i64 R, .int .i64 Q] 23)) := (Turned.refl _ w).alloc _
  refine (awake_any _).mono ?_
  rintro e w1 ⟨rfl, t1⟩
  have hg := six (w2 := w) t1
  obtain ⟨c0, c1, c2, c3, c4, c5⟩ := six_cells hg
  have T1 : Hid (Turned (fun _ => False) w w1) := t0.trans t1 (fun _ f => f.elim)
  have HL : Hid (w.heap.size < w1.heap.size) := by have := t1.size; rw [World.size_alloc] at this; exact this
  generalize w.heap.size = g at *
  clear t0 t1
  have L1 := load23 hg rfl
  go_wp2_with fail
  refine (hnew _).mono ?_
  rintro e w2 ⟨q, F, rfl, b2, o2⟩
  have t2 := o2.turned
  have hg2 : w2.heap[g]? = some (.cells #[.int .i64 (N' : Nat), .int .i64 (B' : Nat), .int .i64 (M' : Nat), .int .i64 W, .int .i64 R, .int .i64 Q] 23 (0, 0)) := by rw [t2.block g HL.out (fun f => f)]; exact hg
  have T2 : Hid (Turned (fun _ => False) w w2) := T1.out.trans t2 (fun _ f => f.elim)
  have HL2 : Hid (g < w2.heap.size) := Nat.lt_of_lt_of_le HL.out t2.size
  obtain ⟨d0, d1, d2, d3, d4, d5⟩ := six_cells hg2
  clear hg t2 o2 c0 c1 c2 c3 c4 c5
  go_wp2_with fail
  refine (hf _).mono ?_
  rintro e w3 ⟨rfl, o, rfl⟩
  have hg3 : (w2.alloc o).heap[g]? = some (.cells #[.int .i64 (N' : Nat), .int .i64 (B' : Nat), .int .i64 (M' : Nat), .int .i64 W, .int .i64 R, .int .i64 Q] 23 (0, 0)) := by rw [Below.heap_alloc _ _ _ HL2.out]; exact hg2
  have e0 := (six_cells hg3).1
  have t3 : Turned (fun _ => False) w2 (w2.alloc o) := (Turned.refl _ _).alloc o
  have b3 := b2.still t3
  have T3 : Hid (Turned (fun _ => False) w (w2.alloc o)) := T2.out.alloc o
  generalize w2.alloc o = w3 at *
  have he := est_any b3
  rw [hE] at he
  clear hg2 hg3 d0 d1 d2 d3 d4 d5 b2 b3 t3
  generalize withN 0 (s' : Int) = z at *
  go_wp2_with fail
  refine he.mono ?_
  rintro e w4 ⟨rfl, t4⟩
  have HB : Hid (Below w.heap.size w w4) := (T3.out.trans t4 (fun _ f => f.elim)).below (Nat.le_refl _) (fun _ f => f.elim)
  clear he t4 e0
  go_wp2_with fail
  refine (hrw _).mono ?_
  rintro e w5 ⟨rfl, rfl⟩
  go_wp2_with fail
  go_ret
  exact ⟨by simp, HB.out⟩

theorem walk (w : World) (N B M W R Q s : Int) (hs : In s) : Calls Try.prog 3 #[cfg N B M W R Q, .int .i64 s] w fun e w' => e = .returned (.bool true) ∧ Below w.heap.size w w' := by
  by_cases h0 : 1 ≤ N
  rotate_left
  · exact no0 w N B M W R Q s h0
  by_cases h1 : N ≤ 16
  rotate_left
  · exact no1 w N B M W R Q s h0 h1
  by_cases h2 : 1 ≤ B
  rotate_left
  · exact no2 w N B M W R Q s h0 h1 h2
  by_cases h3 : B < M
  rotate_left
  · exact no3 w N B M W R Q s h0 h1 h2 h3
  by_cases h4 : M ≤ 1000
  rotate_left
  · exact no4 w N B M W R Q s h0 h1 h2 h3 h4
  by_cases h5 : 1 ≤ W
  rotate_left
  · exact no5 w N B M W R Q s h0 h1 h2 h3 h4 h5
  by_cases h6 : W ≤ 32
  rotate_left
  · exact no6 w N B M W R Q s h0 h1 h2 h3 h4 h5 h6
  by_cases h7 : 1 ≤ R
  rotate_left
  · exact no7 w N B M W R Q s h0 h1 h2 h3 h4 h5 h6 h7
  by_cases h8 : R ≤ 256
  rotate_left
  · exact no8 w N B M W R Q s h0 h1 h2 h3 h4 h5 h6 h7 h8
  by_cases h9 : 1 ≤ Q
  rotate_left
  · exact no9 w N B M W R Q s h0 h1 h2 h3 h4 h5 h6 h7 h8 h9
  by_cases h10 : Q ≤ 256
  rotate_left
  · exact no10 w N B M W R Q s h0 h1 h2 h3 h4 h5 h6 h7 h8 h9 h10
  by_cases hq : 0 ≤ s ∧ s < N
  · exact yes w N B M W R Q s h0 h1 h2 h3 h4 h5 h6 h7 h8 h9 h10 hq.1 hq.2
  · exact noS w N B M W R Q s h0 h1 h2 h3 h4 h5 h6 h7 h8 h9 h10 hq

set_option maxRecDepth 100000 in
theorem lifted (os : Os) (started : os.Started) (H : Type) (enc : TypeId × Value → H) :
    ReturnsInHanded {} Try.checked os 3 .any (Rows.beatFormsSpec.pre6 enc Try.prog Try.f3 Rows.beatFormsRow.domain false) (Rows.beatFormsSpec.post enc Try.prog Try.f3 false true false false) := by
  refine returnsInHanded_of_change (C := Try.checked) own started (by kernel_rfl) Try.func3
    (ChangeSpec.witness6 (enc := enc) (C := Try.checked) false ⟨#[], #[.agg #[.int .i64 0, .int .i64 0, .int .i64 0, .int .i64 0, .int .i64 0, .int .i64 0], .int .i64 0], []⟩ 3 (by kernel_rfl) (by kernel_rfl) (by kernel_rfl) (by kernel_rfl)) ?_
  intro W base args ds gs before hval0 hW hcnd _
  have hval : ∀ (j : Nat) t v, Try.f3.params[j]? = some t → args[j]? = some v → Value.okWide Try.prog W .any base t v := hval0
  have hW' := hW
  obtain ⟨p, q, hA0, hV, rfl, hfz, hnd⟩ := hW
  have hA : DataW.TrodAll enc Try.prog W 0 (fun _ => true) true Try.f3.params.toList args.toList ds p := hA0
  rw [Try.params3] at hA hval
  obtain ⟨v0, vs0, d0, ds0, p0, q0, hargs0, rfl, rfl, h0, r0⟩ := trodAll_cons hA
  obtain ⟨v1, vs1, d1, ds1, p1, q1, hargs1, rfl, rfl, h1, r1⟩ := trodAll_cons r0
  obtain ⟨rfl, rfl, rfl⟩ := trodAll_nil r1
  obtain rfl : args = #[v0, v1] := by cases args; simp_all
  obtain ⟨rfl, rfl⟩ := trodVars_none hV
  have k0 := h0
  obtain ⟨y0a, y0b, y0c, y0d, y0e, y0f, rfl, rfl⟩ := open_cfg (hval 0 23 v0 rfl rfl) h0
  obtain ⟨a1, rfl, rfl, rfl, w1⟩ := open_int Try.underlying3 (hval 1 3 v1 rfl rfl) h1
  clear hA0 hval0
  refine (walk W y0a y0b y0c y0d y0e y0f a1 (in_of_wf w1)).mono fun e W' ⟨he, bel⟩ => ?_
  subst he
  exact ⟨_, rfl, _, _, _, [], _, [], hW', trodAll_mk1 (shut_bool Try.underlying4 _), (trodAll_cons_mk (WideElems.Trod_stays laidOut rec23 row23 k0 (by simp) (by simp)) (trodAll_cons_mk (shut_int Try.underlying3 w1) trodAll_mk0)), rfl, bel.frame _, fun h => by cases h⟩

theorem over : Rows.beatFormsRow.holds Try.pinned (OpenSpec.ofChange Rows.beatFormsSpec) :=
  OpenClaim.holds_of_wide 3 Try.f3 rfl rfl rfl rfl rfl rfl rfl ⟨rfl, rfl, rfl, rfl, rfl⟩ rfl rfl rfl rfl rfl (by kernel_rfl) Try.func3 (by kernel_rfl)
    (of_decide_eq_true (by kernel_rfl)) (by unfold Func.isWrapper; first | (rw [if_pos (by decide +kernel)]; kernel_rfl) | (rw [if_neg (by decide +kernel)]; exact ⟨rfl, rfl⟩))
    (fun os started H enc _ => lifted os started H enc)

end Go.Proofs.Ytofhkfbibdkjgaa.beatForms
namespace Go.Proofs.Ytofhkfbibdkjgaa
theorem beatForms_holds : Rows.BeatFormsSaid := beatForms.over
#print axioms beatForms_holds
end Go.Proofs.Ytofhkfbibdkjgaa
