/-
  The calls Len, Room, New and slot of a ring, for things of one kind.
-/
import Derived.Test.YthobbnmdpkginaaRRep
namespace Go.Proofs.Ythobbnmdpkginaa
open Go.RowKit
set_option linter.unusedVariables false

theorem lenI_nil (w : World) : Calls Try.prog 63 #[.pointer none] w fun e w' => e = .returned (.int .i64 0) ∧ w = w' := by
  go_enter Try.func63, Try.ntmps63
  go_wp2
  go_ret
  exact ⟨rfl, rfl⟩
theorem lenI_any {w : World} {p : Nat} {sv : Value} {most first : Nat} {xs : List Value} (h : Ring w 3 p sv most first xs) : Calls Try.prog 63 #[.pointer (some ⟨p, 0, none⟩)] w fun e w' => e = .returned (.int .i64 (xs.length : Nat)) ∧ w = w' := by
  have hc3 := h.c3
  clear h
  go_enter Try.func63, Try.ntmps63
  go_wp2
  go_ret
  exact ⟨rfl, rfl⟩
theorem roomI_nil (w : World) : Calls Try.prog 59 #[.pointer none] w fun e w' => e = .returned (.int .i64 0) ∧ w = w' := by
  go_enter Try.func59, Try.ntmps59
  go_wp2
  go_ret
  exact ⟨rfl, rfl⟩
theorem roomI_any {w : World} {p : Nat} {sv : Value} {most first : Nat} {xs : List Value} (h : Ring w 3 p sv most first xs) : Calls Try.prog 59 #[.pointer (some ⟨p, 0, none⟩)] w fun e w' => e = .returned (.int .i64 ((most : Int) - xs.length)) ∧ ∃ q, w' = w.drewN q := by
  have hc0 := h.c0
  have hc3 := h.c3
  have hle := h.le
  have h256 := h.most256
  clear h
  generalize xs.length = n at *
  go_enter Try.func59, Try.ntmps59
  go_wp2
  go_quiet (fail)
  go_wp2
  go_ret
  exact ⟨rfl, nq, rfl⟩
theorem newI_err (w : World) (most : Int) (h : most < 1 ∨ 256 < most) : Calls Try.prog 65 #[.int .i64 most] w fun e w' => e = .returned (.tuple #[.pointer none, .int .i64 1]) ∧ w = w' := by
  by_cases h1 : most < 1
  · go_enter Try.func65, Try.ntmps65
    go_wp2
    go_ret2
    exact ⟨rfl, rfl⟩
  · have h2 : 256 < most := by omega
    clear h
    go_enter Try.func65, Try.ntmps65
    go_wp2
    go_ret2
    exact ⟨rfl, rfl⟩
theorem newI_any (w : World) (most : Nat) (h1 : 1 ≤ most) (h2 : most ≤ 256) : Calls Try.prog 65 #[.int .i64 (most : Nat)] w fun e w' => e = .returned (.tuple #[.pointer (some ⟨w.heap.size, 0, none⟩), .int .i64 0]) ∧ Ring w' 3 w.heap.size (.slice none 0 0) most 0 [] ∧ Turned (fun _ => False) w w' := by
  have HE : ∀ t, Hid (Ring (w.alloc (.cells #[.int .i64 (most : Nat), .slice none 0 0, .int .i64 0, .int .i64 0] t)) 3 w.heap.size (.slice none 0 0) most 0 []) := fun t => ring_new w 3 t most h1 h2
  go_enter Try.func65, Try.ntmps65
  go_wp2
  go_ret2
  exact ⟨rfl, (HE _).out, (Turned.refl _ _).alloc _⟩

set_option maxRecDepth 10000 in
theorem slotI_any {w : World} {p : Nat} {a : Option Addr} {n c first place : Nat} (hc1 : w.cell? ⟨p, 1, none⟩ = some (.slice a n c)) (hc2 : w.cell? ⟨p, 2, none⟩ = some (.int .i64 (first : Nat))) (hn : 0 < n) (hn2 : n ≤ 256) (hf : first ≤ 256) (hp : place ≤ 256) :
    Calls Try.prog 66 #[.pointer (some ⟨p, 0, none⟩), .int .i64 (place : Nat)] w fun e w' => e = .returned (.int .i64 (((first + place) % n : Nat) : Int)) ∧ ∃ q, w' = w.drewN q := by
  go_enter Try.func66, Try.ntmps66
  go_wp2
  go_quiet (fail)
  go_wp2
  go_ret
  exact ⟨ret_int (by go_num), nq, rfl⟩

end Go.Proofs.Ythobbnmdpkginaa
