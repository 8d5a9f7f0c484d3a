/-
  The call First of a ring of texts.
-/
import Derived.Test.YthobbnmdpkginaaRTakeS
namespace Go.Proofs.Ythobbnmdpkginaa
open Go.RowKit
set_option linter.unusedVariables false

theorem firstS_nil (w : World) (i : Int) : Calls Try.prog 56 #[.pointer none, .int .i64 i] w fun e w' => e = .returned (.slice none 0 0) ∧ w = w' := by
  go_enter Try.func56, Try.ntmps56
  go_wp2
  go_ret
  exact ⟨rfl, rfl⟩

theorem firstS_zero {w : World} {p : Nat} (i : Int) (hi : i ≤ 0) : Calls Try.prog 56 #[.pointer (some ⟨p, 0, none⟩), .int .i64 i] w fun e w' => e = .returned (.slice none 0 0) ∧ w = w' := by
  go_enter Try.func56, Try.ntmps56
  go_wp2
  go_ret
  exact ⟨rfl, rfl⟩

set_option maxRecDepth 10000 in
set_option maxHeartbeats 1000000 in
theorem firstS_any {w : World} {p : Nat} {sv : Value} {most first : Nat} {xs : List Value} (h : Ring w 9 p sv most first xs) (i : Nat) (hi : 0 < i) :
    Calls Try.prog 56 #[.pointer (some ⟨p, 0, none⟩), .int .i64 (i : Nat)] w fun e w' => ∃ m g, m = min i xs.length ∧ e = .returned (.slice (some ⟨w.heap.size, 0, none⟩) m m) ∧ w'.rowIs w.heap.size 9 m g ∧ (∀ j x, j < m → xs[j]? = some x → g j = x) ∧ Turned (fun _ => False) w w' := by
  have hc3 := h.c3
  have h256 := h.most256
  have hle := h.le
  have H : Hid (Ring w 9 p sv most first xs) := h
  have key : ∀ N : Nat, N = min i xs.length → Hid (Calls Try.prog 69 #[.pointer (some ⟨p, 0, none⟩), .slice (some ⟨w.heap.size, 0, none⟩) N N] (w.alloc (.cells (madeCells #[.string ⟨#[]⟩] N) 9)) fun e w2 => e = .returned (.tuple #[]) ∧ Hid (∃ m g, m = min i xs.length ∧ Ending.returned (.slice (some ⟨w.heap.size, 0, none⟩) N N) = .returned (.slice (some ⟨w.heap.size, 0, none⟩) m m) ∧ w2.rowIs w.heap.size 9 m g ∧ (∀ j x, j < m → xs[j]? = some x → g j = x) ∧ Turned (fun _ => False) w w2)) := by
    intro N hN
    unfold Hid
    refine (layS_any (H.out.alloc _) (World.rowIs_made w (.string ⟨#[]⟩) N 9) (fun hf => by have := H.out.foot_lt _ hf; omega) (by omega)).mono ?_
    rintro e w2 ⟨rfl, ht, g, hr, hg⟩
    exact ⟨rfl, N, g, hN, rfl, hr, hg, ((Turned.refl _ w).alloc _).trans ht (fun i hi => .inr (by omega))⟩
  clear h
  by_cases hc : xs.length < i
  · have hmk := makeS xs.length (by omega)
    have hk := key xs.length (by omega)
    have hcI : (xs.length : Int) < i := by omega
    generalize hL : xs.length = L at *
    clear key hL
    go_enter Try.func56, Try.ntmps56
    go_wp2_with fail
    refine hk.out.mono ?_
    rintro e w2 ⟨rfl, HH⟩
    go_wp2
    go_ret
    exact HH.out
  · have hmk := makeS i (by omega)
    have hk := key i (by omega)
    have hcI : ¬ (xs.length : Int) < i := by omega
    generalize hL : xs.length = L at *
    clear key hL
    go_enter Try.func56, Try.ntmps56
    go_wp2_with fail
    refine hk.out.mono ?_
    rintro e w2 ⟨rfl, HH⟩
    go_wp2
    go_ret
    exact HH.out

end Go.Proofs.Ythobbnmdpkginaa
