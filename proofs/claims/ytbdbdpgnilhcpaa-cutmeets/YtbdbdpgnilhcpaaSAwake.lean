/-
  The document's example holds: 'awake' answers true.
-/
import Derived.Test.YtbdbdpgnilhcpaaSRefJ
namespace Go.Proofs.Ytbdbdpgnilhcpaa
open Go.RowKit Go.Sort
set_option linter.unusedVariables false

theorem rw_one (W : World) (g : Nat) (x : UInt8) (h : W.cell? ⟨g, 0, none⟩ = some (.int .u8 (x.toNat : Int))) : Rw (fun _ => True) W (some ⟨g, 0, none⟩) 1 [x] := by
  refine ⟨rfl, by omega, fun e => (by cases e), fun _ => ⟨g, 0, rfl, trivial, fun j y hj => ?_⟩⟩
  obtain rfl : j = 0 := by have := (List.getElem?_eq_some_iff.1 hj).1; simp at this; omega
  simp at hj
  subst hj
  exact h

theorem cell_boxF (w : World) (c : Array Value) (t : TypeId) (f : Nat × Nat) (j : Nat) (v : Value) (hj : c[j]? = some v) : (w.alloc (.cells c t f)).cell? ⟨w.heap.size, j, none⟩ = some v := by
  have hb : (w.alloc (.cells c t f)).heap[w.heap.size]? = some (.cells c t f) := heap_alloc_new _ _
  unfold World.cell?; rw [hb]; simpa using hj

set_option maxRecDepth 10000 in
theorem awake_any (w : World) : Calls Try.prog 10 #[] w fun e w' => e = .returned (.bool true) ∧ Below w.heap.size w w' := by
  obtain ⟨w1, hw1⟩ : ∃ w1, w.alloc (.cells #[.int .u8 99] 5 (1, 2)) = w1 := ⟨_, rfl⟩
  obtain ⟨w2, hw2⟩ : ∃ w2, w1.alloc (.cells #[.int .u8 100] 5 (1, 2)) = w2 := ⟨_, rfl⟩
  obtain ⟨w3, hw3⟩ : ∃ w3, w2.alloc (.cells #[.int .i64 0, .slice (some ⟨w.heap.size, 0, none⟩) 1 1, .int .i64 0, .slice (some ⟨w.heap.size + 1, 0, none⟩) 1 1] 47) = w3 := ⟨_, rfl⟩
  obtain ⟨w4, hw4⟩ : ∃ w4, w3.alloc (.cells #[.int .u64 1, .int .i64 0, .int .i64 2, .slice (some ⟨w.heap.size + 2, 0, none⟩) 2 2] 31) = w4 := ⟨_, rfl⟩
  have z1 : w1.heap.size = w.heap.size + 1 := by rw [← hw1]; simp
  have z2 : w2.heap.size = w.heap.size + 2 := by rw [← hw2]; simp [z1]
  have z3 : w3.heap.size = w.heap.size + 3 := by rw [← hw3]; simp [z2]
  have u34 : Up w3 w4 := by rw [← hw4]; exact (Up.refl _).alloc _
  have u23 : Up w2 w3 := by rw [← hw3]; exact (Up.refl _).alloc _
  have u12 : Up w1 w2 := by rw [← hw2]; exact (Up.refl _).alloc _
  have u01 : Up w w1 := by rw [← hw1]; exact (Up.refl _).alloc _
  have r1 : Rw (fun _ => True) w4 (some ⟨w.heap.size, 0, none⟩) 1 [99] := rw_one _ _ _ (u34.cell (u23.cell (u12.cell (by rw [← hw1]; exact cell_boxF w _ 5 _ 0 _ rfl))))
  have r2 : Rw (fun _ => True) w4 (some ⟨w.heap.size + 1, 0, none⟩) 1 [100] := rw_one _ _ _ (u34.cell (u23.cell (by rw [← hw2, ← z1]; exact cell_boxF w1 _ 5 _ 0 _ rfl)))
  have hI : Its (fun _ => True) w4 (some ⟨w.heap.size + 2, 0, none⟩) 2 [(0, [99]), (0, [100])] := by
    refine ⟨[(0, some ⟨w.heap.size, 0, none⟩, 1, 1), (0, some ⟨w.heap.size + 1, 0, none⟩, 1, 1)], ⟨rfl, by omega, fun e => (by cases e), fun _ => ⟨_, _, rfl, trivial, fun j x hj => ?_⟩⟩, rfl, fun j x d hx hd => ?_⟩
    · have c : ∀ i v, #[Value.int .i64 0, .slice (some ⟨w.heap.size, 0, none⟩) 1 1, .int .i64 0, .slice (some ⟨w.heap.size + 1, 0, none⟩) 1 1][i]? = some v → w4.cell? ⟨w.heap.size + 2, i, none⟩ = some v := fun i v hv => u34.cell (by rw [← hw3, ← z2]; exact cell_box w2 _ 47 i v hv)
      match j, hj with
      | 0, hj => simp at hj; subst hj; exact ⟨c 0 _ rfl, c 1 _ rfl⟩
      | 1, hj => simp at hj; subst hj; exact ⟨c 2 _ rfl, c 3 _ rfl⟩
      | j + 2, hj => simp at hj
    · match j, hx, hd with
      | 0, hx, hd => simp at hx hd; subst hx hd; exact ⟨rfl, r1⟩
      | 1, hx, hd => simp at hx hd; subst hx hd; exact ⟨rfl, r2⟩
      | j + 2, hx, hd => simp at hx
  have hS : Sts (fun _ => True) w4 (some ⟨w.heap.size + 3, 0, none⟩) 1 [(1, 0, 2, some ⟨w.heap.size + 2, 0, none⟩, 2, 2)] [[(0, [99]), (0, [100])]] := by
    refine ⟨⟨rfl, by omega, fun e => (by cases e), fun _ => ⟨_, _, rfl, trivial, fun j x hj => ?_⟩⟩, rfl, fun j x d hx hd => ?_⟩
    · have c : ∀ i v, #[Value.int .u64 1, .int .i64 0, .int .i64 2, .slice (some ⟨w.heap.size + 2, 0, none⟩) 2 2][i]? = some v → w4.cell? ⟨w.heap.size + 3, i, none⟩ = some v := fun i v hv => by rw [← hw4, ← z3]; exact cell_box w3 _ 31 i v hv
      match j, hj with
      | 0, hj => simp at hj; subst hj; exact ⟨c 0 _ rfl, c 1 _ rfl, c 2 _ rfl, c 3 _ rfl⟩
      | j + 1, hj => simp at hj
    · match j, hx, hd with
      | 0, hx, hd => simp at hx hd; subst hx hd; exact hI
      | j + 1, hx, hd => simp at hx
  have hr := rest_any (fun _ => True) w4 (some ⟨w.heap.size + 3, 0, none⟩) 1 1 _ _ hS (by intro x hx; simp at hx; subst hx; unfold OkS; simp) (by intro x hx; simp at hx; subst hx; simp) 1 0 3 (by omega)
  have hrd : restD [(1, 0, 2, some ⟨w.heap.size + 2, 0, none⟩, 2, 2)] [[(0, [99]), (0, [100])]] 1 0 3 = (0, [(0, [100])]) := by
    unfold restD
    rw [find_some (i := 0) (y := (1, 0, 2, some ⟨w.heap.size + 2, 0, none⟩, 2, 2)) (by simp) rfl (by simp)]
    simp [endS]
  rw [hrd] at hr
  unfold vid at hr
  have hu : Up w w4 := u01.trans (u12.trans (u23.trans u34))
  clear hS hI r1 r2 hrd u01 u12 u23 u34
  have hE : (((w.alloc (.cells #[.int .u8 99] 5 (1, 2))).alloc (.cells #[.int .u8 100] 5 (1, 2))).alloc (.cells #[.int .i64 0, .slice (some ⟨w.heap.size, 0, none⟩) 1 1, .int .i64 0, .slice (some ⟨w.heap.size + 1, 0, none⟩) 1 1] 47)).alloc (.cells #[.int .u64 1, .int .i64 0, .int .i64 2, .slice (some ⟨w.heap.size + 2, 0, none⟩) 2 2] 31) = w4 := by rw [hw1, hw2, hw3, hw4]
  clear hw1 hw2 hw3 hw4 z1 z2 z3
  have kc := fun (w : World) (C : Array Value) (n c : Nat) => Lib.run_convert_bytes_const (P := Try.prog) w 42 5 C n c Try.underlying42 Try.underlying5
  have kc2 : (convert 42 42 (.slice (some ⟨w.heap.size + 1, 0, none⟩) 1 1)).run Try.prog ((w.alloc (.cells #[.int .u8 99] 5 (1, 2))).alloc (.cells #[.int .u8 100] 5)) = .ok (.slice (some ⟨w.heap.size + 1, 0, none⟩) 1 1) ((w.alloc (.cells #[.int .u8 99] 5 (1, 2))).alloc (.cells #[.int .u8 100] 5 (1, 2))) := by
    have := kc (w.alloc (.cells #[.int .u8 99] 5 (1, 2))) #[.int .u8 100] 1 1
    have e : (w.alloc (.cells #[.int .u8 99] 5 (1, 2))).heap.size = w.heap.size + 1 := by simp
    rw [e] at this
    exact this
  go_enter Try.func10, Try.ntmps10
  go_wp2_with fail
  (try simp only [hE])
  refine hr.mono ?_
  rintro e w5 ⟨ao, n, cap, rfl, hits, hb5⟩
  have hn : n = 1 := by have := hits.len; simpa using this.symm
  subst hn
  obtain ⟨xs, hIR, _, hit⟩ := hits
  obtain ⟨y, hy⟩ : ∃ y, xs[0]? = some y := ⟨xs[0]'(by have := hIR.1; omega), List.getElem?_eq_getElem _⟩
  obtain ⟨b, off, rfl, _, hc⟩ := hIR.2.2.2 (by omega)
  have hc1 := (hc 0 y hy).2
  have hcv := conv_rw (cap := y.2.2.2) (hit 0 y _ hy rfl).2
  have hs : str [100] = ⟨#[100]⟩ := rfl
  rw [hs] at hcv
  have hbl : Below w.heap.size w w5 := bl_step hu.bl hb5
  simp only [Nat.zero_mul, Nat.add_zero] at hc1
  clear hr hc hIR hit hy hs hu hb5 hE
  go_wp2
  go_ret
  exact ⟨rfl, hbl⟩
end Go.Proofs.Ytbdbdpgnilhcpaa
