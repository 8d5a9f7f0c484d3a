/-
  Drop, Peek and Take of a net.
-/
import Derived.Test.YtagabmhgcmnldaaNDel
namespace Go.Proofs.Ytagabmhgcmnldaa
open Go.RowKit
set_option linter.unusedVariables false
set_option linter.unusedSimpArgs false

def noPkt : Value := .agg #[.int .i64 0, .int .i64 0, .slice none 0 0]
theorem zero_block (w : World) : (w.alloc (.cells #[.int .i64 0, .int .i64 0, .slice none 0 0] 49)).heap[w.heap.size]? = some (.cells #[.int .i64 0, .int .i64 0, .slice none 0 0] 49 (0, 0)) := heap_alloc_new _ _
theorem drop_nil (w : World) (i : Int) : Calls Try.prog 27 #[.pointer none, .int .i64 i] w fun e w' => e = .returned (.int .i64 6) ∧ w = w' := by
  go_enter Try.func27, Try.ntmps27
  go_wp2_with fail
  refine (place_nil _ _).mono ?_
  rintro e w1 ⟨rfl, rfl⟩
  go_wp2
  go_ret
  exact ⟨rfl, rfl⟩
theorem peek_nil (w : World) (i : Int) : Calls Try.prog 25 #[.pointer none, .int .i64 i] w fun e w' => e = .returned (.tuple #[noPkt, .int .i64 6]) ∧ Below w.heap.size w w' := by
  unfold noPkt
  have hz := zero_block w
  have HE : Hid ((w.alloc (.cells #[.int .i64 0, .int .i64 0, .slice none 0 0] 49)).heap[w.heap.size]? = some (.cells #[.int .i64 0, .int .i64 0, .slice none 0 0] 49 (0, 0))) := hz
  clear hz
  go_enter Try.func25, Try.ntmps25
  go_wp2_with fail
  refine (place_nil _ _).mono ?_
  rintro e w1 ⟨rfl, rfl⟩
  go_wp2
  refine bodyPost_ret (results_cell2 Try.results25 rfl rfl (load49 HE.out rfl)) rfl ?_
  exact ⟨rfl, bl1 _ _⟩
theorem take_nil (w : World) (i : Int) : Calls Try.prog 24 #[.pointer none, .int .i64 i] w fun e w' => e = .returned (.tuple #[noPkt, .int .i64 6]) ∧ Below w.heap.size w w' := by
  unfold noPkt
  have hz := zero_block w
  have HE : Hid ((w.alloc (.cells #[.int .i64 0, .int .i64 0, .slice none 0 0] 49)).heap[w.heap.size]? = some (.cells #[.int .i64 0, .int .i64 0, .slice none 0 0] 49 (0, 0))) := hz
  clear hz
  go_enter Try.func24, Try.ntmps24
  go_wp2_with fail
  refine (place_nil _ _).mono ?_
  rintro e w1 ⟨rfl, rfl⟩
  go_wp2
  refine bodyPost_ret (results_cell2 Try.results24 rfl rfl (load49 HE.out rfl)) rfl ?_
  exact ⟨rfl, bl1 _ _⟩
section
variable {w : World} {p N : Nat} {H : Nat → Nat} {sv : Value} {lost : Nat} {L : List Px} {A : List Pa}
theorem drop_none (h : NetIs w p N H sv lost L A) (i : Int) (hi : ¬ (0 ≤ i ∧ i < A.length)) :
    Calls Try.prog 27 #[.pointer (some ⟨p, 0, none⟩), .int .i64 i] w fun e w' => e = .returned (.int .i64 1) ∧ w = w' := by
  have hpl := place_is h i
  rw [if_neg hi] at hpl
  clear h
  go_enter Try.func27, Try.ntmps27
  go_wp2_with fail
  refine hpl.mono ?_
  rintro e w1 ⟨rfl, rfl⟩
  go_wp2
  go_ret
  exact ⟨rfl, rfl⟩
theorem drop_is (h : NetIs w p N H sv lost L A) (i : Nat) (hi : i < A.length) (hl : lost < 1000000) :
    Calls Try.prog 27 #[.pointer (some ⟨p, 0, none⟩), .int .i64 (i : Nat)] w fun e w' => e = .returned (.int .i64 0) ∧ (∃ sv' L', NetIs w' p N H sv' (lost + 1) L' (A.eraseIdx i) ∧ ∀ y, Ft p sv' L' y → Ft p sv L y) ∧ Turned (fun b => b = p ∨ sv.ownBlock = some b) w w' := by
  have hpl := place_is h (i : Int)
  rw [if_pos ⟨by omega, by omega⟩] at hpl
  have hre := remove_is h i hi
  clear h
  go_enter Try.func27, Try.ntmps27
  go_wp2_with fail
  refine hpl.mono ?_
  rintro e w1 ⟨rfl, rfl⟩
  go_wp2_with fail
  refine hre.mono ?_
  rintro e w1 ⟨rfl, ⟨sv', L', k1, k2⟩, k3⟩
  have cL := k1.cL
  have fr := k1.free 18
  have HE : Hid ((∃ sv' L', NetIs (w1.setCell ⟨p, 18, none⟩ (.int .i64 ((lost + 1 : Nat) : Int))) p N H sv' (lost + 1) L' (A.eraseIdx i) ∧ ∀ y, Ft p sv' L' y → Ft p sv L y) ∧ Turned (fun b => b = p ∨ sv.ownBlock = some b) w (w1.setCell ⟨p, 18, none⟩ (.int .i64 ((lost + 1 : Nat) : Int)))) := ⟨⟨sv', L', k1.setLost (lost + 1) (by omega), k2⟩, k3.setCell (.inl (.inl rfl)) _⟩
  clear k1 k2 k3 hre hpl
  go_wp2
  go_ret
  exact ⟨rfl, HE.out⟩
theorem peek_none (h : NetIs w p N H sv lost L A) (i : Int) (hi : ¬ (0 ≤ i ∧ i < A.length)) :
    Calls Try.prog 25 #[.pointer (some ⟨p, 0, none⟩), .int .i64 i] w fun e w' => e = .returned (.tuple #[noPkt, .int .i64 1]) ∧ Below w.heap.size w w' := by
  unfold noPkt
  have hz := zero_block w
  have hpl := place_is (h.up (bl1 w (.cells #[.int .i64 0, .int .i64 0, .slice none 0 0] 49))) i
  rw [if_neg hi] at hpl
  have HE : Hid ((w.alloc (.cells #[.int .i64 0, .int .i64 0, .slice none 0 0] 49)).heap[w.heap.size]? = some (.cells #[.int .i64 0, .int .i64 0, .slice none 0 0] 49 (0, 0))) := hz
  clear h hz
  go_enter Try.func25, Try.ntmps25
  go_wp2_with fail
  refine hpl.mono ?_
  rintro e w1 ⟨rfl, rfl⟩
  go_wp2
  refine bodyPost_ret (results_cell2 Try.results25 rfl rfl (load49 HE.out rfl)) rfl ?_
  exact ⟨rfl, bl1 _ _⟩
theorem take_none (h : NetIs w p N H sv lost L A) (i : Int) (hi : ¬ (0 ≤ i ∧ i < A.length)) :
    Calls Try.prog 24 #[.pointer (some ⟨p, 0, none⟩), .int .i64 i] w fun e w' => e = .returned (.tuple #[noPkt, .int .i64 1]) ∧ Below w.heap.size w w' := by
  unfold noPkt
  have hz := zero_block w
  have hpl := place_is (h.up (bl1 w (.cells #[.int .i64 0, .int .i64 0, .slice none 0 0] 49))) i
  rw [if_neg hi] at hpl
  have HE : Hid ((w.alloc (.cells #[.int .i64 0, .int .i64 0, .slice none 0 0] 49)).heap[w.heap.size]? = some (.cells #[.int .i64 0, .int .i64 0, .slice none 0 0] 49 (0, 0))) := hz
  clear h hz
  go_enter Try.func24, Try.ntmps24
  go_wp2_with fail
  refine hpl.mono ?_
  rintro e w1 ⟨rfl, rfl⟩
  go_wp2
  refine bodyPost_ret (results_cell2 Try.results24 rfl rfl (load49 HE.out rfl)) rfl ?_
  exact ⟨rfl, bl1 _ _⟩
set_option maxRecDepth 10000 in
theorem peek_is (h : NetIs w p N H sv lost L A) (i : Nat) (a : Pa) (hi : A[i]? = some a) :
    Calls Try.prog 25 #[.pointer (some ⟨p, 0, none⟩), .int .i64 (i : Nat)] w fun e w' => ∃ b, e = .returned (.tuple #[pkt a.f a.t (.slice (some ⟨b, 0, none⟩) a.xs.length a.xs.length), .int .i64 0]) ∧ w.heap.size ≤ b ∧ By w' b a.told ∧ Below w.heap.size w w' := by
  unfold pkt
  obtain ⟨o, ho⟩ : ∃ o, o = Obj.cells #[.int .i64 0, .int .i64 0, .slice none 0 0] 49 := ⟨_, rfl⟩
  have hil := (List.getElem?_eq_some_iff.1 hi).1
  have hlen := h.len
  have h1 := h.up (bl1 w o)
  have hpl := place_is h1 (i : Int)
  rw [if_pos ⟨by omega, by omega⟩] at hpl
  obtain ⟨x, hx⟩ : ∃ x, L[i]? = some x := ⟨_, List.getElem?_eq_getElem (by omega)⟩
  obtain ⟨g, c, rfl, hc1, hc2, hc3⟩ := bag_some h.bag (List.mem_of_getElem? hx)
  have hte := tell_any (w.alloc o) g (i * 6) x a (bag_at h1.bag hx) (h1.pk i x a hx hi)
  unfold pkt at hte
  have cB := h1.cB
  have hz : (w.alloc o).heap[w.heap.size]? = some (.cells #[.int .i64 0, .int .i64 0, .slice none 0 0] 49 (0, 0)) := by rw [heap_alloc_new, ho]
  have hiL : (i : Int) < (L.length : Int) := by omega
  have hmost := h.most
  have hb0 := bl1 w o
  clear h h1 hx hi hlen
  generalize L.length = n at *
  generalize a.xs.length = m at *
  have hs0 : (w.alloc o).heap.size = w.heap.size + 1 := by simp
  subst ho
  go_enter Try.func25, Try.ntmps25
  go_wp2_with fail
  refine hpl.mono ?_
  rintro e w1 ⟨rfl, rfl⟩
  go_wp2_with fail
  refine hte.mono ?_
  rintro e w1 ⟨b, rfl, hb, hby, hb1⟩
  have hz1 := (hb1.block w.heap.size (by omega)).trans hz
  have c0 : w1.cell? ⟨w.heap.size, 0, none⟩ = some (.int .i64 0) := by rw [cell_of_row _ _ _ _ _ _ hz1]; rfl
  have c1 : w1.cell? ⟨w.heap.size, 1, none⟩ = some (.int .i64 0) := by rw [cell_of_row _ _ _ _ _ _ hz1]; rfl
  have c2 : w1.cell? ⟨w.heap.size, 2, none⟩ = some (.slice none 0 0) := by rw [cell_of_row _ _ _ _ _ _ hz1]; rfl
  have fz : ∀ i, w1.frozen? ⟨w.heap.size, i, none⟩ = false := fun i => frozen_of_row _ _ _ _ _ hz1
  have hbw : Below w.heap.size w w1 := hb0.trans (hb1.mono (by omega))
  have HE : Hid ((((w1.setCell ⟨w.heap.size, 0, none⟩ (.int .i64 a.f)).setCell ⟨w.heap.size, 1, none⟩ (.int .i64 a.t)).setCell ⟨w.heap.size, 2, none⟩ (.slice (some ⟨b, 0, none⟩) m m)).heap[w.heap.size]? = some (.cells #[.int .i64 a.f, .int .i64 a.t, .slice (some ⟨b, 0, none⟩) m m] 49 (0, 0)) ∧ w.heap.size ≤ b ∧ By (((w1.setCell ⟨w.heap.size, 0, none⟩ (.int .i64 a.f)).setCell ⟨w.heap.size, 1, none⟩ (.int .i64 a.t)).setCell ⟨w.heap.size, 2, none⟩ (.slice (some ⟨b, 0, none⟩) m m)) b a.told ∧ Below w.heap.size w (((w1.setCell ⟨w.heap.size, 0, none⟩ (.int .i64 a.f)).setCell ⟨w.heap.size, 1, none⟩ (.int .i64 a.t)).setCell ⟨w.heap.size, 2, none⟩ (.slice (some ⟨b, 0, none⟩) m m))) :=
    ⟨heap_set3 hz1 _ _ _, by omega, hby.of (((set_block_other (by omega)).trans (set_block_other (by omega))).trans (set_block_other (by omega))), ((hbw.setCell (Nat.le_refl _) _).setCell (Nat.le_refl _) _).setCell (Nat.le_refl _) _⟩
  clear hby hb1 hz hz1 hte hpl cB hbw hb0
  go_wp2
  refine bodyPost_ret (results_cell2 Try.results25 rfl rfl (load49 HE.out.1 rfl)) rfl ?_
  exact ⟨b, rfl, HE.out.2⟩
end
end Go.Proofs.Ytagabmhgcmnldaa
