/-
  The document's examples of package ident.
-/
import Derived.Test.YtlahdemhigcjnaaIList
namespace Go.Proofs.Ytlahdemhigcjnaa
open Go.RowKit
set_option linter.unusedVariables false

/-- A list in memory: its cells. -/
theorem row_cells {w : World} {B n : Nat} {v : Value} {xs : List Nat} (h : w.ownsRow B 3 1 v n (ints xs)) (hn : 0 < n) : ∃ g cap, v = .slice (some ⟨g, 0, none⟩) n cap ∧ ∀ j x, xs[j]? = some x → w.cell? ⟨g, j, none⟩ = some (.int .i64 (x : Nat)) := by
  rcases h.2 with ⟨h0, h1⟩ | ⟨g, cap, cur, rfl, _⟩
  · omega
  · refine ⟨g, cap, rfl, fun j x hj => ?_⟩
    have := h.cells (g := g) rfl j (.int .i64 (x : Nat)) (by simp [ints, hj])
    rwa [Addr.add_lit, Nat.zero_add] at this
theorem row_shape {w : World} {B e n : Nat} {v : Value} {xs : List Value} (h : w.ownsRow B e 1 v n xs) : ∃ ao cap, v = .slice ao n cap := by
  rcases h.2 with ⟨rfl, rfl⟩ | ⟨g, cap, cur, rfl, _⟩
  · exact ⟨_, _, rfl⟩
  · exact ⟨_, _, rfl⟩

theorem list5 (w : World) : Calls Try.prog 23 #[.int .u16 5] w fun e w' => ∃ g cap, e = .returned (.slice (some ⟨g, 0, none⟩) 2 cap) ∧ w'.cell? ⟨g, 0, none⟩ = some (.int .i64 0) ∧ w'.cell? ⟨g, 1, none⟩ = some (.int .i64 2) ∧ Below w.heap.size w w' := by
  refine (list_any w 5 (by omega)).mono ?_
  rintro e w' ⟨v, rfl, hr, hb⟩
  have hc : cntF 16 5 = 2 := by decide
  have hn : nodes 5 16 = [0, 2] := by decide
  rw [hc, hn] at hr
  obtain ⟨g, cap, rfl, hcell⟩ := row_cells hr (by omega)
  exact ⟨g, cap, rfl, hcell 0 0 rfl, hcell 1 2 rfl, hb⟩
theorem most33 (w : World) : Calls Try.prog 7 #[.int .u16 3, .int .i64 3] w fun e w' => e = .returned (.bool true) ∧ ∃ q, w' = w.drewN q := most_any w 3 (by omega) 3
theorem most34 (w : World) : Calls Try.prog 7 #[.int .u16 3, .int .i64 4] w fun e w' => e = .returned (.bool false) ∧ ∃ q, w' = w.drewN q := most_any w 3 (by omega) 4

set_option maxRecDepth 10000 in
theorem awake_any (w : World) : Calls Try.prog 8 #[] w fun e w' => e = .returned (.bool true) ∧ Below w.heap.size w w' := by
  go_enter Try.func8, Try.ntmps8
  go_wp2_with fail
  refine (list5 _).mono ?_
  rintro e w1 ⟨g, cap, rfl, c0, c1, hb⟩
  go_wp2_with fail
  refine (most33 _).mono ?_
  rintro e w2 ⟨rfl, q2, rfl⟩
  go_wp2_with fail
  refine (most34 _).mono ?_
  rintro e w3 ⟨rfl, q3, rfl⟩
  go_wp2
  go_ret
  exact ⟨rfl, bl_drewN hb _⟩

end Go.Proofs.Ytlahdemhigcjnaa
