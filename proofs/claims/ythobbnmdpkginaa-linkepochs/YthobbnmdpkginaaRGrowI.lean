/-
  The inner call grow of a ring, for things of one kind: new slots, of which one is free.
-/
import Derived.Test.YthobbnmdpkginaaRLayI
namespace Go.Proofs.Ythobbnmdpkginaa
open Go.RowKit
set_option linter.unusedVariables false

theorem undI : Try.prog.underlying 33 = some (.slice 3) := by kernel_rfl
theorem infoI : (Try.prog.info? 3).map (fun i => (i.zero, i.size, i.bytes)) = some (some (.int .i64 0), 1, 8) := by kernel_rfl

theorem makeI (n : Nat) (hn : n ≤ 513) (w : World) : (Instr.makeSlice 33 (.int .i64 (n : Int)) (.int .i64 (n : Int))).run Try.prog w = .ok (.slice (some ⟨w.heap.size, 0, none⟩) n n) (w.alloc (.cells (madeCells #[.int .i64 0] n) 3)) :=
  run_make_row' 33 3 (.int .i64 0) 8 undI infoI rfl .i64 .i64 n (by omega) (by omega) w

set_option maxRecDepth 10000 in
set_option maxHeartbeats 1000000 in
theorem growI_any {w : World} {p : Nat} {sv : Value} {most first : Nat} {xs : List Value} (h : Ring w 3 p sv most first xs) (hlt : xs.length < most) :
    Calls Try.prog 70 #[.pointer (some ⟨p, 0, none⟩)] w fun e w' => e = .returned (.tuple #[]) ∧ ∃ b n, b ≠ p ∧ xs.length < n ∧ Ring w' 3 p (.slice (some ⟨b, 0, none⟩) n n) most 0 xs ∧ Goes p sv w (.slice (some ⟨b, 0, none⟩) n n) w' := by
  have hc0 := h.c0
  have hc3 := h.c3
  have h256 := h.most256
  have hpl := h.plt
  have H : Hid (Ring w 3 p sv most first xs) := h
  obtain ⟨L, HL⟩ : ∃ L, Hid (L = xs.length) := ⟨_, rfl⟩
  rw [← HL.out] at hc3 hlt
  have key : ∀ N : Nat, L < N → N ≤ most → Hid (Calls Try.prog 71 #[.pointer (some ⟨p, 0, none⟩), .slice (some ⟨w.heap.size, 0, none⟩) N N] (w.alloc (.cells (madeCells #[.int .i64 0] N) 3)).drew fun e w2 => e = .returned (.tuple #[]) ∧ w2.cell? ⟨p, 1, none⟩ = some sv ∧ w2.cell? ⟨p, 2, none⟩ = some (.int .i64 (first : Nat)) ∧ w2.frozen? ⟨p, 1, none⟩ = false ∧ w2.frozen? ⟨p, 2, none⟩ = false ∧
      Hid (w.heap.size ≠ p ∧ xs.length < N ∧ Ring ((w2.setCell ⟨p, 1, none⟩ (.slice (some ⟨w.heap.size, 0, none⟩) N N)).setCell ⟨p, 2, none⟩ (.int .i64 0)) 3 p (.slice (some ⟨w.heap.size, 0, none⟩) N N) most 0 xs ∧
        Goes p sv w (.slice (some ⟨w.heap.size, 0, none⟩) N N) ((w2.setCell ⟨p, 1, none⟩ (.slice (some ⟨w.heap.size, 0, none⟩) N N)).setCell ⟨p, 2, none⟩ (.int .i64 0)))) := by
    intro N h1 h2
    unfold Hid
    refine (layI_any (w := (w.alloc (.cells (madeCells #[.int .i64 0] N) 3)).drew) ((H.out.alloc _).drew) ((World.rowIs_made w (.int .i64 0) N 3).drew) (fun hf => by have := H.out.foot_lt _ hf; omega) (by omega)).mono ?_
    rintro e w2 ⟨rfl, ht, g, hr, hg⟩
    have hring := ((H.out.alloc (.cells (madeCells #[.int .i64 0] N) 3)).drew).turned ht (fun b hb e => by have := H.out.foot_lt b hb; omega)
    refine ⟨rfl, hring.c1, hring.c2, hring.fr 1, hring.fr 2, ?_⟩
    refine ⟨by omega, by rw [← HL.out]; omega, hring.moved (by omega) (by omega) h2 (by rw [← HL.out]; omega) hr (fun j x hj => hg j x (by have := (List.getElem?_eq_some_iff.1 hj).1; rw [← HL.out] at this; omega) hj), ?_, ?_⟩
    · refine Turned.setCell (Turned.setCell ?_ (.inl (.inl rfl)) _) (.inl (.inl rfl)) _
      exact (((Turned.refl _ w).alloc _).drew).trans ht (fun i hi => .inr (by omega))
    · rintro b (rfl | hb)
      · exact .inl (.inl rfl)
      · have : w.heap.size = b := by simpa [Value.ownBlock] using hb
        exact .inr (by omega)
  clear h
  by_cases hc : most ≤ 2 * L + 1
  · have hmk := makeI most (by omega)
    have hk := key most hlt (Nat.le_refl _)
    clear key
    have hcI : ¬ (2 * (L : Int) + 1 < most) := by omega
    go_enter Try.func70, Try.ntmps70
    go_wp2
    go_region
    go_wp2_with fail
    refine hk.out.mono ?_
    rintro e w2 ⟨rfl, d1, d2, d3, d4, HH⟩
    go_wp2
    go_end0
    exact ⟨rfl, _, _, HH.out⟩
  · have hmk := makeI (2 * L + 1) (by omega)
    have hk := key (2 * L + 1) (by omega) (by omega)
    have ec : ((2 * L + 1 : Nat) : Int) = 2 * (L : Int) + 1 := by omega
    rw [ec] at hmk
    clear key
    have hcI : 2 * (L : Int) + 1 < most := by omega
    go_enter Try.func70, Try.ntmps70
    go_wp2
    go_region
    go_wp2_with fail
    refine hk.out.mono ?_
    rintro e w2 ⟨rfl, d1, d2, d3, d4, HH⟩
    go_wp2
    go_end0
    exact ⟨rfl, _, _, HH.out⟩

end Go.Proofs.Ythobbnmdpkginaa
