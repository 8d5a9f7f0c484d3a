/-
  Take of a net, and the calls of a net of one's own.
-/
import Derived.Test.YtagabmhgcmnldaaNTake
namespace Go.Proofs.Ytagabmhgcmnldaa
open Go.RowKit
set_option linter.unusedVariables false
set_option linter.unusedSimpArgs false

section
variable {w : World} {p N : Nat} {H : Nat → Nat} {sv : Value} {lost : Nat} {L : List Px} {A : List Pa}
theorem At.of {w w' : World} {g off : Nat} {x : Px} (h : At w g off x) (e : w'.heap[g]? = w.heap[g]?) : At w' g off x := fun i v hi => (cell_block e).trans (h i v hi)

set_option maxRecDepth 10000 in
set_option maxHeartbeats 1000000 in
theorem take_cut (h : NetIs w p N H sv lost L A) (i : Nat) (a : Pa) (hi : A[i]? = some a) (hh : hears N H a.f a.t = false) (hl : lost < 1000000) :
    Calls Try.prog 24 #[.pointer (some ⟨p, 0, none⟩), .int .i64 (i : Nat)] w fun e w' => e = .returned (.tuple #[noPkt, .int .i64 10]) ∧ (∃ sv' L', NetIs w' p N H sv' (lost + 1) L' (A.eraseIdx i) ∧ ∀ y, Ft p sv' L' y → Ft p sv L y) ∧ Turned (Ft p sv L) w w' := by
  unfold noPkt
  have hil := (List.getElem?_eq_some_iff.1 hi).1
  have hlen := h.len
  obtain ⟨x, hx⟩ : ∃ x, L[i]? = some x := ⟨_, List.getElem?_eq_getElem (by omega)⟩
  obtain ⟨g, c, rfl, hc1, hc2, hc3⟩ := bag_some h.bag (List.mem_of_getElem? hx)
  have hpi := h.pk i x a hx hi
  obtain ⟨o, ho⟩ : ∃ o, o = Obj.cells #[.int .i64 0, .int .i64 0, .slice none 0 0] 49 := ⟨_, rfl⟩
  obtain ⟨o2, ho2⟩ : ∃ o, o = Obj.cells #[.int .i64 x.f, .int .i64 x.t, .slice (some ⟨x.g, 0, none⟩) x.n x.n, .int .i64 x.t0, .int .i64 x.t1, .int .i64 (x.k : Nat)] 79 := ⟨_, rfl⟩
  have h1 := h.up (bl1 w o)
  have h2 := h.up (bl2 w o o2)
  have hpl := place_is h1 (i : Int)
  rw [if_pos ⟨by omega, by omega⟩] at hpl
  obtain ⟨c0, c1, c2, c3, c4, c5⟩ := (bag_at h1.bag hx).cells
  have hhe := hear_is h2 x.f x.t
  rw [hpi.f, hpi.t, hh] at hhe
  have hdr := drop_is h2 i (by omega) hl
  have cB := h1.cB
  have hz : ((w.alloc o).alloc o2).heap[w.heap.size]? = some (.cells #[.int .i64 0, .int .i64 0, .slice none 0 0] 49 (0, 0)) := by rw [Below.heap_alloc _ _ _ (by simp), heap_alloc_new, ho]
  have hf0 : x.f = a.f := hpi.f
  have ht0 : x.t = a.t := hpi.t
  rw [hf0] at c0 ho2
  rw [ht0] at c1 ho2
  have hiL : (i : Int) < (L.length : Int) := by omega
  have hmost := h.most
  have hwp : p < w.heap.size := h.obj.lt
  have hwg : g < w.heap.size := (h.bag.lt g rfl).2
  have HF : Hid (∀ b, b = p ∨ (Value.slice (some ⟨g, 0, none⟩) L.length c).ownBlock = some b → Ft p (.slice (some ⟨g, 0, none⟩) L.length c) L b) := fun b hb => hb.elim .inl (fun h => .inr (.inl h))
  have HFL : Hid (∀ b, Ft p (.slice (some ⟨g, 0, none⟩) L.length c) L b → b < w.heap.size) := h.lt
  have hs2 : ((w.alloc o).alloc o2).heap.size = w.heap.size + 2 := by simp
  clear h h1 h2 hx hi hlen hpi hh
  generalize hkk : x.k = kk at *
  clear hkk
  subst ho
  go_enter Try.func24, Try.ntmps24
  go_wp2_with fail
  refine hpl.mono ?_
  rintro e w1 ⟨rfl, rfl⟩
  go_wp2_with fail
  rw [← ho2]
  clear ho2
  refine hhe.mono ?_
  rintro e w1 ⟨rfl, rfl⟩
  go_wp2_with fail
  refine hdr.mono ?_
  rintro e w3 ⟨rfl, ⟨sv', L', k1, k2⟩, k3⟩
  have hz3 : w3.heap[w.heap.size]? = some (.cells #[.int .i64 0, .int .i64 0, .slice none 0 0] 49 (0, 0)) := (k3.block _ (by omega) (by
    rintro (e | e)
    · omega
    · simp [Value.ownBlock] at e; omega)).trans hz
  have d0 : w3.cell? ⟨w.heap.size, 0, none⟩ = some (.int .i64 0) := by rw [cell_of_row _ _ _ _ _ _ hz3]; rfl
  have d1 : w3.cell? ⟨w.heap.size, 1, none⟩ = some (.int .i64 0) := by rw [cell_of_row _ _ _ _ _ _ hz3]; rfl
  have d2 : w3.cell? ⟨w.heap.size, 2, none⟩ = some (.slice none 0 0) := by rw [cell_of_row _ _ _ _ _ _ hz3]; rfl
  have fz : ∀ i, w3.frozen? ⟨w.heap.size, i, none⟩ = false := fun i => frozen_of_row _ _ _ _ _ hz3
  have HE : Hid ((((w3.setCell ⟨w.heap.size, 0, none⟩ (.int .i64 0)).setCell ⟨w.heap.size, 1, none⟩ (.int .i64 0)).setCell ⟨w.heap.size, 2, none⟩ (.slice none 0 0)).heap[w.heap.size]? = some (.cells #[.int .i64 0, .int .i64 0, .slice none 0 0] 49 (0, 0)) ∧ (∃ sv' L', NetIs (((w3.setCell ⟨w.heap.size, 0, none⟩ (.int .i64 0)).setCell ⟨w.heap.size, 1, none⟩ (.int .i64 0)).setCell ⟨w.heap.size, 2, none⟩ (.slice none 0 0)) p N H sv' (lost + 1) L' (A.eraseIdx i) ∧ ∀ y, Ft p sv' L' y → Ft p (.slice (some ⟨g, 0, none⟩) L.length c) L y) ∧ Turned (Ft p (.slice (some ⟨g, 0, none⟩) L.length c) L) w (((w3.setCell ⟨w.heap.size, 0, none⟩ (.int .i64 0)).setCell ⟨w.heap.size, 1, none⟩ (.int .i64 0)).setCell ⟨w.heap.size, 2, none⟩ (.slice none 0 0))) := by
    refine ⟨heap_set3 hz3 _ _ _, ⟨sv', L', k1.frame (fun b hb => ?_), k2⟩, ?_⟩
    · have := HFL.out b (k2 b hb)
      exact ((set_block_other (by omega)).trans (set_block_other (by omega))).trans (set_block_other (by omega))
    · have t0 : Turned (Ft p (.slice (some ⟨g, 0, none⟩) L.length c) L) w w3 := ((tu_below (bl2 w _ o2) _).trans (k3.mono HF.out) (fun i hi => .inl hi))
      exact ((t0.setCell (.inr (Nat.le_refl _)) _).setCell (.inr (Nat.le_refl _)) _).setCell (.inr (Nat.le_refl _)) _
  clear k1 k2 k3 hz hz3 HF HFL hdr hhe hpl cB c0 c1 c2 c3 c4 c5
  go_wp2
  refine bodyPost_ret (results_cell2 Try.results24 rfl rfl (load49 HE.out.1 rfl)) rfl ?_
  exact ⟨rfl, HE.out.2⟩

set_option maxRecDepth 10000 in
set_option maxHeartbeats 1000000 in
theorem take_is (h : NetIs w p N H sv lost L A) (i : Nat) (a : Pa) (hi : A[i]? = some a) (hh : hears N H a.f a.t = true) :
    Calls Try.prog 24 #[.pointer (some ⟨p, 0, none⟩), .int .i64 (i : Nat)] w fun e w' => ∃ b, e = .returned (.tuple #[pkt a.f a.t (.slice (some ⟨b, 0, none⟩) a.xs.length a.xs.length), .int .i64 0]) ∧ w.heap.size ≤ b ∧ By w' b a.told ∧ (∃ sv' L', NetIs w' p N H sv' lost L' (A.eraseIdx i) ∧ ∀ y, Ft p sv' L' y → Ft p sv L y) ∧ Turned (Ft p sv L) w w' := by
  unfold pkt
  have hil := (List.getElem?_eq_some_iff.1 hi).1
  have hlen := h.len
  obtain ⟨x, hx⟩ : ∃ x, L[i]? = some x := ⟨_, List.getElem?_eq_getElem (by omega)⟩
  obtain ⟨g, c, rfl, hc1, hc2, hc3⟩ := bag_some h.bag (List.mem_of_getElem? hx)
  have hpi := h.pk i x a hx hi
  obtain ⟨o, ho⟩ : ∃ o, o = Obj.cells #[.int .i64 0, .int .i64 0, .slice none 0 0] 49 := ⟨_, rfl⟩
  obtain ⟨o2, ho2⟩ : ∃ o, o = Obj.cells #[.int .i64 x.f, .int .i64 x.t, .slice (some ⟨x.g, 0, none⟩) x.n x.n, .int .i64 x.t0, .int .i64 x.t1, .int .i64 (x.k : Nat)] 79 := ⟨_, rfl⟩
  have h1 := h.up (bl1 w o)
  have h2 := h.up (bl2 w o o2)
  have hpl := place_is h1 (i : Int)
  rw [if_pos ⟨by omega, by omega⟩] at hpl
  obtain ⟨c0, c1, c2, c3, c4, c5⟩ := (bag_at h1.bag hx).cells
  have hhe := hear_is h2 x.f x.t
  rw [hpi.f, hpi.t, hh] at hhe
  have hre := remove_is h2 i (by omega)
  have cB := h1.cB
  have hz : ((w.alloc o).alloc o2).heap[w.heap.size]? = some (.cells #[.int .i64 0, .int .i64 0, .slice none 0 0] 49 (0, 0)) := by rw [Below.heap_alloc _ _ _ (by simp), heap_alloc_new, ho]
  have hat : At ((w.alloc o).alloc o2) (w.heap.size + 1) 0 x := by
    intro j v hj
    rw [ho2, Nat.zero_add, show w.heap.size + 1 = (w.alloc o).heap.size by simp]
    refine cell_box (w.alloc o) _ 79 j v ?_
    simpa [cellsP] using hj
  have hpi2 : PIs ((w.alloc o).alloc o2) x a := h2.pk i x a hx hi
  have hxg : x.g ≠ p ∧ x.g ≠ g := ⟨(h.xp x (List.mem_of_getElem? hx)).1, fun e => (h.xp x (List.mem_of_getElem? hx)).2 (by rw [e]; rfl)⟩
  have hf0 : x.f = a.f := hpi.f
  have ht0 : x.t = a.t := hpi.t
  have hxgl : x.g < w.heap.size := hpi.by'.lt
  rw [hf0] at c0 ho2
  rw [ht0] at c1 ho2
  have hiL : (i : Int) < (L.length : Int) := by omega
  have hmost := h.most
  have hwp : p < w.heap.size := h.obj.lt
  have hwg : g < w.heap.size := (h.bag.lt g rfl).2
  have HF : Hid (∀ b, b = p ∨ (Value.slice (some ⟨g, 0, none⟩) L.length c).ownBlock = some b → Ft p (.slice (some ⟨g, 0, none⟩) L.length c) L b) := fun b hb => hb.elim .inl (fun h => .inr (.inl h))
  have HFL : Hid (∀ b, Ft p (.slice (some ⟨g, 0, none⟩) L.length c) L b → b < w.heap.size) := h.lt
  have hs2 : ((w.alloc o).alloc o2).heap.size = w.heap.size + 2 := by simp
  have HAT : Hid (At ((w.alloc o).alloc o2) (w.heap.size + 1) 0 x ∧ PIs ((w.alloc o).alloc o2) x a) := ⟨hat, hpi2⟩
  clear h h1 h2 hx hi hlen hpi hh hat hpi2
  generalize hkk : x.k = kk at *
  clear hkk
  subst ho
  go_enter Try.func24, Try.ntmps24
  go_wp2_with fail
  refine hpl.mono ?_
  rintro e w1 ⟨rfl, rfl⟩
  go_wp2_with fail
  rw [← ho2]
  clear ho2
  refine hhe.mono ?_
  rintro e w1 ⟨rfl, rfl⟩
  go_wp2_with fail
  refine hre.mono ?_
  rintro e w3 ⟨rfl, ⟨sv', L', k1, k2⟩, k3⟩
  have hnb : ∀ b, b < w.heap.size + 2 → b ≠ p → b ≠ g → w3.heap[b]? = ((w.alloc (.cells #[.int .i64 0, .int .i64 0, .slice none 0 0] 49)).alloc o2).heap[b]? := fun b hb h1 h2 => k3.block b (by omega) (by
    rintro (e | e)
    · exact h1 e
    · simp [Value.ownBlock] at e; omega)
  have hz3 : w3.heap[w.heap.size]? = some (.cells #[.int .i64 0, .int .i64 0, .slice none 0 0] 49 (0, 0)) := (hnb _ (by omega) (by omega) (by omega)).trans hz
  have hte := tell_any w3 (w.heap.size + 1) 0 x a (HAT.out.1.of (hnb _ (by omega) (by omega) (by omega))) (HAT.out.2.of (hnb _ (by omega) hxg.1 hxg.2))
  unfold pkt at hte
  have hs3 : w.heap.size + 2 ≤ w3.heap.size := by have := k3.size; omega
  go_wp2_with fail
  refine hte.mono ?_
  rintro e w4 ⟨b, rfl, hb, hby, hb4⟩
  have hz4 := (hb4.block w.heap.size (by omega)).trans hz3
  have d0 : w4.cell? ⟨w.heap.size, 0, none⟩ = some (.int .i64 0) := by rw [cell_of_row _ _ _ _ _ _ hz4]; rfl
  have d1 : w4.cell? ⟨w.heap.size, 1, none⟩ = some (.int .i64 0) := by rw [cell_of_row _ _ _ _ _ _ hz4]; rfl
  have d2 : w4.cell? ⟨w.heap.size, 2, none⟩ = some (.slice none 0 0) := by rw [cell_of_row _ _ _ _ _ _ hz4]; rfl
  have fz : ∀ i, w4.frozen? ⟨w.heap.size, i, none⟩ = false := fun i => frozen_of_row _ _ _ _ _ hz4
  obtain ⟨m, HMM⟩ : ∃ m, Hid (a.xs.length = m) := ⟨a.xs.length, Eq.refl _⟩
  rw [HMM.out]
  have HE : Hid ((((w4.setCell ⟨w.heap.size, 0, none⟩ (.int .i64 a.f)).setCell ⟨w.heap.size, 1, none⟩ (.int .i64 a.t)).setCell ⟨w.heap.size, 2, none⟩ (.slice (some ⟨b, 0, none⟩) m m)).heap[w.heap.size]? = some (.cells #[.int .i64 a.f, .int .i64 a.t, .slice (some ⟨b, 0, none⟩) m m] 49 (0, 0)) ∧ w.heap.size ≤ b ∧ By (((w4.setCell ⟨w.heap.size, 0, none⟩ (.int .i64 a.f)).setCell ⟨w.heap.size, 1, none⟩ (.int .i64 a.t)).setCell ⟨w.heap.size, 2, none⟩ (.slice (some ⟨b, 0, none⟩) m m)) b a.told ∧ (∃ sv' L', NetIs (((w4.setCell ⟨w.heap.size, 0, none⟩ (.int .i64 a.f)).setCell ⟨w.heap.size, 1, none⟩ (.int .i64 a.t)).setCell ⟨w.heap.size, 2, none⟩ (.slice (some ⟨b, 0, none⟩) m m)) p N H sv' lost L' (A.eraseIdx i) ∧ ∀ y, Ft p sv' L' y → Ft p (.slice (some ⟨g, 0, none⟩) L.length c) L y) ∧ Turned (Ft p (.slice (some ⟨g, 0, none⟩) L.length c) L) w (((w4.setCell ⟨w.heap.size, 0, none⟩ (.int .i64 a.f)).setCell ⟨w.heap.size, 1, none⟩ (.int .i64 a.t)).setCell ⟨w.heap.size, 2, none⟩ (.slice (some ⟨b, 0, none⟩) m m))) := by
    refine ⟨heap_set3 hz4 _ _ _, by omega, hby.of (((set_block_other (by omega)).trans (set_block_other (by omega))).trans (set_block_other (by omega))), ⟨sv', L', (k1.up hb4).frame (fun y hy => ?_), k2⟩, ?_⟩
    · have := HFL.out y (k2 y hy)
      exact ((set_block_other (by omega)).trans (set_block_other (by omega))).trans (set_block_other (by omega))
    · have t0 : Turned (Ft p (.slice (some ⟨g, 0, none⟩) L.length c) L) w w3 := ((tu_below (bl2 w _ o2) _).trans (k3.mono HF.out) (fun i hi => .inl hi))
      have t1 := t0.trans (tu_below hb4 _) (fun i hi => .inl hi)
      exact ((t1.setCell (.inr (Nat.le_refl _)) _).setCell (.inr (Nat.le_refl _)) _).setCell (.inr (Nat.le_refl _)) _
  clear k1 k2 k3 hz hz3 hz4 HF HFL hre hhe hpl cB c0 c1 c2 c3 c4 c5 hte hby hb4 hnb HAT
  go_wp2
  refine bodyPost_ret (results_cell2 Try.results24 rfl rfl (load49 HE.out.1 rfl)) rfl ?_
  exact ⟨b, by rw [HMM.out]; rfl, HE.out.2⟩
end
section
variable {w : World} {F : Nat → Prop} {p N : Nat} {H : Nat → Nat} {lost : Nat} {A : List Pa}
theorem take_any (h : Nt w F p N H lost A) (i : Nat) (a : Pa) (hi : A[i]? = some a) (hh : hears N H a.f a.t = true) :
    Calls Try.prog 24 #[.pointer (some ⟨p, 0, none⟩), .int .i64 (i : Nat)] w fun e w' => ∃ b, e = .returned (.tuple #[pkt a.f a.t (.slice (some ⟨b, 0, none⟩) a.xs.length a.xs.length), .int .i64 0]) ∧ w.heap.size ≤ b ∧ By w' b a.told ∧ Nt w' F p N H lost (A.eraseIdx i) ∧ Turned F w w' := by
  obtain ⟨⟨sv, L, h1, h2⟩, h3⟩ := h
  refine (take_is h1 i a hi hh).mono ?_
  rintro e w' ⟨b, he, k0, k1, ⟨sv', L', k2, k3⟩, k4⟩
  exact ⟨b, he, k0, k1, ⟨⟨sv', L', k2, fun b hb => h2 b (k3 b hb)⟩, fun b hb => Nat.lt_of_lt_of_le (h3 b hb) k4.size⟩, k4.mono h2⟩
theorem take_lost (h : Nt w F p N H lost A) (i : Nat) (a : Pa) (hi : A[i]? = some a) (hh : hears N H a.f a.t = false) (hl : lost < 1000000) :
    Calls Try.prog 24 #[.pointer (some ⟨p, 0, none⟩), .int .i64 (i : Nat)] w fun e w' => e = .returned (.tuple #[noPkt, .int .i64 10]) ∧ Nt w' F p N H (lost + 1) (A.eraseIdx i) ∧ Turned F w w' := by
  obtain ⟨⟨sv, L, h1, h2⟩, h3⟩ := h
  refine (take_cut h1 i a hi hh hl).mono ?_
  rintro e w' ⟨he, ⟨sv', L', k2, k3⟩, k4⟩
  exact ⟨he, ⟨⟨sv', L', k2, fun b hb => h2 b (k3 b hb)⟩, fun b hb => Nat.lt_of_lt_of_le (h3 b hb) k4.size⟩, k4.mono h2⟩
theorem peek_any (h : Nt w F p N H lost A) (i : Nat) (a : Pa) (hi : A[i]? = some a) :
    Calls Try.prog 25 #[.pointer (some ⟨p, 0, none⟩), .int .i64 (i : Nat)] w fun e w' => ∃ b, e = .returned (.tuple #[pkt a.f a.t (.slice (some ⟨b, 0, none⟩) a.xs.length a.xs.length), .int .i64 0]) ∧ w.heap.size ≤ b ∧ By w' b a.told ∧ Below w.heap.size w w' := by
  obtain ⟨⟨sv, L, h1, h2⟩, h3⟩ := h
  exact peek_is h1 i a hi
theorem drop_any (h : Nt w F p N H lost A) (i : Nat) (hi : i < A.length) (hl : lost < 1000000) :
    Calls Try.prog 27 #[.pointer (some ⟨p, 0, none⟩), .int .i64 (i : Nat)] w fun e w' => e = .returned (.int .i64 0) ∧ Nt w' F p N H (lost + 1) (A.eraseIdx i) ∧ Turned F w w' := by
  obtain ⟨⟨sv, L, h1, h2⟩, h3⟩ := h
  refine (drop_is h1 i hi hl).mono ?_
  rintro e w' ⟨he, ⟨sv', L', k2, k3⟩, k4⟩
  exact ⟨he, ⟨⟨sv', L', k2, fun b hb => h2 b (k3 b hb)⟩, fun b hb => Nat.lt_of_lt_of_le (h3 b hb) k4.size⟩, k4.mono (fun b hb => h2 b (hb.elim .inl (fun e => .inr (.inl e))))⟩
end
end Go.Proofs.Ytagabmhgcmnldaa
