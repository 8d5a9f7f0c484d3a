/-
  The call Take of a ring, for things of one kind.
-/
import Derived.Test.YthobbnmdpkginaaRPutI
namespace Go.Proofs.Ythobbnmdpkginaa
open Go.RowKit
set_option linter.unusedVariables false

theorem takeI_nil (w : World) : Calls Try.prog 53 #[.pointer none] w fun e w' => e = .returned (.tuple #[.int .i64 0, .int .i64 6]) ∧ w = w' := by
  go_enter Try.func53, Try.ntmps53
  go_wp2_with fail
  refine (lenI_nil _).mono ?_
  rintro e w2 ⟨rfl, rfl⟩
  go_wp2
  go_ret2
  exact ⟨rfl, rfl⟩

theorem takeI_none {w : World} {p : Nat} {sv : Value} {most first : Nat} (h : Ring w 3 p sv most first []) : Calls Try.prog 53 #[.pointer (some ⟨p, 0, none⟩)] w fun e w' => e = .returned (.tuple #[.int .i64 0, .int .i64 6]) ∧ w = w' := by
  go_enter Try.func53, Try.ntmps53
  go_wp2_with fail
  refine (lenI_any h).mono ?_
  rintro e w2 ⟨rfl, rfl⟩
  go_wp2
  go_ret2
  exact ⟨rfl, rfl⟩

set_option maxRecDepth 10000 in
set_option maxHeartbeats 1000000 in
theorem takeI_any {w : World} {p : Nat} {sv : Value} {most first : Nat} {x : Value} {xs : List Value} (h : Ring w 3 p sv most first (x :: xs)) :
    Calls Try.prog 53 #[.pointer (some ⟨p, 0, none⟩)] w fun e w' => e = .returned (.tuple #[x, .int .i64 0]) ∧ ∃ sv' first', Ring w' 3 p sv' most first' xs ∧ Goes p sv w sv' w' := by
  have h256 := h.most256
  have hle := h.le
  simp only [List.length_cons] at hle
  rcases h.slots with ⟨_, _, h0⟩ | ⟨b, n, f, rfl, h1, h2, h3, h4, h5, h6, h7⟩
  · cases h0
  · have hlen := lenI_any h
    simp only [List.length_cons] at hlen
    have hc1 := h.c1
    have hc2 := h.c2
    have hc3 := h.c3
    simp only [List.length_cons] at hc3
    have hf2 := h.fr 2
    have hf3 := h.fr 3
    have hbc : w.cell? ⟨b, first, none⟩ = some x := by
      rw [h6.cell h4, ← h7 0 x rfl, Nat.add_zero, Nat.mod_eq_of_lt h4]
    have hbf := h6.frozen first
    have h4I : (first : Int) < n := by omega
    have hp : ∀ o, ¬ (p = b ∧ o = first) := fun o hh => h1 hh.1.symm
    have d1 : (w.setCell ⟨b, first, none⟩ (.int .i64 0)).cell? ⟨p, 1, none⟩ = some (.slice (some ⟨b, 0, none⟩) n n) := by rw [set_cell_other (hp _)]; exact hc1
    have d2 : (w.setCell ⟨b, first, none⟩ (.int .i64 0)).cell? ⟨p, 2, none⟩ = some (.int .i64 (first : Nat)) := by rw [set_cell_other (hp _)]; exact hc2
    have d3 : (w.setCell ⟨b, first, none⟩ (.int .i64 0)).cell? ⟨p, 3, none⟩ = some (.int .i64 ((xs.length + 1 : Nat) : Int)) := by rw [set_cell_other (hp _)]; exact hc3
    have hslot := fun wx (g1 : wx.cell? ⟨p, 1, none⟩ = some (.slice (some ⟨b, 0, none⟩) n n)) (g2 : wx.cell? ⟨p, 2, none⟩ = some (.int .i64 (first : Nat))) => slotI_any (w := wx) (place := 1) g1 g2 h2 (by omega) (by omega) (by omega)
    have HR : Hid (Ring (((w.setCell ⟨b, first, none⟩ (.int .i64 0)).setCell ⟨p, 2, none⟩ (.int .i64 (((first + 1) % n : Nat) : Int))).setCell ⟨p, 3, none⟩ (.int .i64 (xs.length : Nat))) 3 p (.slice (some ⟨b, 0, none⟩) n n) most ((first + 1) % n) xs) := h.take (.int .i64 0)
    have HG : Hid (Turned (Foot p (.slice (some ⟨b, 0, none⟩) n n)) w (((w.setCell ⟨b, first, none⟩ (.int .i64 0)).setCell ⟨p, 2, none⟩ (.int .i64 (((first + 1) % n : Nat) : Int))).setCell ⟨p, 3, none⟩ (.int .i64 (xs.length : Nat)))) :=
      (((Turned.refl _ w).setCell (.inl (.inr rfl)) _).setCell (.inl (.inl rfl)) _).setCell (.inl (.inl rfl)) _
    obtain ⟨s, HS⟩ : ∃ s, Hid ((first + 1) % n = s) := ⟨_, rfl⟩
    rw [HS.out] at hslot HR HG
    generalize xs.length = L at *
    have hne : (((L + 1 : Nat) : Int) == 0) = false := by simp; omega
    clear h h6 h7 h5 HS
    have e1 : ((1 : Nat) : Int) = 1 := rfl
    simp only [e1] at hslot
    go_enter Try.func53, Try.ntmps53
    go_wp2_with fail
    refine hlen.mono ?_
    rintro e w2 ⟨rfl, rfl⟩
    go_wp2_with fail
    go_quiet (fail)
    go_wp2_with fail
    go_region
    go_wp2_with fail
    refine (hslot _ ?g1 ?g2).mono ?_
    case g1 => exact d1
    case g2 => exact d2
    rintro e w3 ⟨rfl, q2, rfl⟩
    go_wp2
    go_ret2
    exact ⟨rfl, _, _, HR.out.frame (fun _ _ => rfl), ⟨rfl, rfl, rfl, HG.out.size, HG.out.block⟩, fun _ hb => .inl hb⟩

end Go.Proofs.Ythobbnmdpkginaa
