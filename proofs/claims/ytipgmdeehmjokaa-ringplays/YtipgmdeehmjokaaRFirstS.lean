/-
  The calls At and First of a ring of texts.
-/
import Derived.Test.YtipgmdeehmjokaaRTakeS
namespace Go.Proofs.Ytipgmdeehmjokaa
open Go.RowKit
set_option linter.unusedVariables false

theorem atS_nil (w : World) (i : Int) : Calls Try.prog 12 #[.pointer none, .int .i64 i] w fun e w' => e = .returned (.tuple #[.string ⟨#[]⟩, .int .i64 6]) ∧ w = w' := by
  go_enter Try.func12, Try.ntmps12
  go_wp2
  go_ret2
  exact ⟨rfl, rfl⟩

theorem atS_err {w : World} {p : Nat} {sv : Value} {most first : Nat} {xs : List Value} (h : Ring w 9 p sv most first xs) (i : Int) (hi : i < 0 ∨ xs.length ≤ i) :
    Calls Try.prog 12 #[.pointer (some ⟨p, 0, none⟩), .int .i64 i] w fun e w' => e = .returned (.tuple #[.string ⟨#[]⟩, .int .i64 1]) ∧ w = w' := by
  have hc3 := h.c3
  clear h
  by_cases h0 : i < 0
  · go_enter Try.func12, Try.ntmps12
    go_wp2
    go_ret2
    exact ⟨rfl, rfl⟩
  · have hle : (xs.length : Int) ≤ i := by omega
    clear hi
    generalize xs.length = L at *
    go_enter Try.func12, Try.ntmps12
    go_wp2
    go_ret2
    exact ⟨rfl, rfl⟩

set_option maxRecDepth 10000 in
set_option maxHeartbeats 1000000 in
theorem atS_any {w : World} {p : Nat} {sv : Value} {most first : Nat} {xs : List Value} (h : Ring w 9 p sv most first xs) (i : Nat) (x : Value) (hx : xs[i]? = some x) :
    Calls Try.prog 12 #[.pointer (some ⟨p, 0, none⟩), .int .i64 (i : Nat)] w fun e w' => e = .returned (.tuple #[x, .int .i64 0]) ∧ ∃ q, w' = w.drewN q := by
  have hil : i < xs.length := (List.getElem?_eq_some_iff.1 hx).1
  have h256 := h.most256
  have hle := h.le
  rcases h.slots with ⟨_, _, h0⟩ | ⟨b, n, f, rfl, h1, h2, h3, h4, h5, h6, h7⟩
  · rw [h0] at hil; simp at hil
  · have hc1 := h.c1
    have hc2 := h.c2
    have hc3 := h.c3
    have hbc : w.cell? ⟨b, (first + i) % n, none⟩ = some x := by rw [h6.cell (Nat.mod_lt _ h2), h7 i x hx]
    have hml := Nat.mod_lt (first + i) h2
    have hslot := fun wx (g1 : wx.cell? ⟨p, 1, none⟩ = some (.slice (some ⟨b, 0, none⟩) n n)) (g2 : wx.cell? ⟨p, 2, none⟩ = some (.int .i64 (first : Nat))) => slotS_any (w := wx) (place := i) g1 g2 h2 (by omega) (by omega) (by omega)
    obtain ⟨s, HS⟩ : ∃ s, Hid ((first + i) % n = s) := ⟨_, rfl⟩
    rw [HS.out] at hslot hbc hml
    generalize xs.length = L at *
    have hiI : (i : Int) < L := by omega
    have hmlI : (s : Int) < n := by omega
    clear h h6 h7 h5 HS hx
    have hsl := fun wx (e1 : wx.cell? ⟨p, 1, none⟩ = w.cell? ⟨p, 1, none⟩) (e2 : wx.cell? ⟨p, 2, none⟩ = w.cell? ⟨p, 2, none⟩) => hslot wx (e1.trans hc1) (e2.trans hc2)
    clear hslot
    go_enter Try.func12, Try.ntmps12
    go_wp2_with fail
    go_quiet (first | (go_at_call 34; refine Calls.quiet_of (hsl _ rfl rfl)))
    go_wp2
    go_ret2
    exact ⟨rfl, nq, rfl⟩

theorem firstS_nil (w : World) (i : Int) : Calls Try.prog 14 #[.pointer none, .int .i64 i] w fun e w' => e = .returned (.slice none 0 0) ∧ w = w' := by
  go_enter Try.func14, Try.ntmps14
  go_wp2
  go_ret
  exact ⟨rfl, rfl⟩

theorem firstS_zero {w : World} {p : Nat} (i : Int) (hi : i ≤ 0) : Calls Try.prog 14 #[.pointer (some ⟨p, 0, none⟩), .int .i64 i] w fun e w' => e = .returned (.slice none 0 0) ∧ w = w' := by
  go_enter Try.func14, Try.ntmps14
  go_wp2
  go_ret
  exact ⟨rfl, rfl⟩

set_option maxRecDepth 10000 in
set_option maxHeartbeats 1000000 in
theorem firstS_any {w : World} {p : Nat} {sv : Value} {most first : Nat} {xs : List Value} (h : Ring w 9 p sv most first xs) (i : Nat) (hi : 0 < i) :
    Calls Try.prog 14 #[.pointer (some ⟨p, 0, none⟩), .int .i64 (i : Nat)] w fun e w' => ∃ m g, m = min i xs.length ∧ e = .returned (.slice (some ⟨w.heap.size, 0, none⟩) m m) ∧ w'.rowIs w.heap.size 9 m g ∧ (∀ j x, j < m → xs[j]? = some x → g j = x) ∧ Turned (fun _ => False) w w' := by
  have hc3 := h.c3
  have h256 := h.most256
  have hle := h.le
  have H : Hid (Ring w 9 p sv most first xs) := h
  have key : ∀ N : Nat, N = min i xs.length → Hid (Calls Try.prog 35 #[.pointer (some ⟨p, 0, none⟩), .slice (some ⟨w.heap.size, 0, none⟩) N N] (w.alloc (.cells (madeCells #[.string ⟨#[]⟩] N) 9)) fun e w2 => e = .returned (.tuple #[]) ∧ Hid (∃ m g, m = min i xs.length ∧ Ending.returned (.slice (some ⟨w.heap.size, 0, none⟩) N N) = .returned (.slice (some ⟨w.heap.size, 0, none⟩) m m) ∧ w2.rowIs w.heap.size 9 m g ∧ (∀ j x, j < m → xs[j]? = some x → g j = x) ∧ Turned (fun _ => False) w w2)) := by
    intro N hN
    unfold Hid
    refine (layS_any (H.out.alloc _) (World.rowIs_made w (.string ⟨#[]⟩) N 9) (fun hf => by have := H.out.foot_lt _ hf; omega) (by omega)).mono ?_
    rintro e w2 ⟨rfl, ht, g, hr, hg⟩
    exact ⟨rfl, N, g, hN, rfl, hr, hg, ((Turned.refl _ w).alloc _).trans ht (fun i hi => .inr (by omega))⟩
  clear h
  by_cases hc : xs.length < i
  · have hmk := makeS xs.length (by omega)
    have hk := key xs.length (by omega)
    have hcI : (xs.length : Int) < i := by omega
    generalize hL : xs.length = L at *
    clear key hL
    go_enter Try.func14, Try.ntmps14
    go_wp2_with fail
    refine hk.out.mono ?_
    rintro e w2 ⟨rfl, HH⟩
    go_wp2
    go_ret
    exact HH.out
  · have hmk := makeS i (by omega)
    have hk := key i (by omega)
    have hcI : ¬ (xs.length : Int) < i := by omega
    generalize hL : xs.length = L at *
    clear key hL
    go_enter Try.func14, Try.ntmps14
    go_wp2_with fail
    refine hk.out.mono ?_
    rintro e w2 ⟨rfl, HH⟩
    go_wp2
    go_ret
    exact HH.out

end Go.Proofs.Ytipgmdeehmjokaa
