/-
  The calls of a net that only look: node, Len, Lost, full, place, Hear; and of a nil one.
-/
import Derived.Test.YtagabmhgcmnldaaNRep
namespace Go.Proofs.Ytagabmhgcmnldaa
open Go.RowKit
set_option linter.unusedVariables false

section
variable {w : World} {p N : Nat} {H : Nat → Nat} {sv : Value} {lost : Nat} {L : List Px} {A : List Pa}
theorem NetIs.c0 (h : NetIs w p N H sv lost L A) : w.cell? ⟨p, 0, none⟩ = some (.int .i64 (N : Nat)) := h.obj.cell (i := 0) (by omega)
theorem NetIs.cH (h : NetIs w p N H sv lost L A) (k : Nat) (hk : k < 16) : w.cell? ⟨p, 1 + k, none⟩ = some (.int .u16 (H k : Nat)) := by
  have := h.obj.cell (i := 1 + k) (by omega)
  rw [this]; unfold ncell
  rw [if_neg (by omega), if_pos (by omega), show 1 + k - 1 = k by omega]
theorem NetIs.cB (h : NetIs w p N H sv lost L A) : w.cell? ⟨p, 17, none⟩ = some sv := h.obj.cell (i := 17) (by omega)
theorem NetIs.cL (h : NetIs w p N H sv lost L A) : w.cell? ⟨p, 18, none⟩ = some (.int .i64 (lost : Nat)) := h.obj.cell (i := 18) (by omega)
theorem NetIs.free (h : NetIs w p N H sv lost L A) (o : Nat) : w.frozen? ⟨p, o, none⟩ = false := h.obj.frozen o
theorem bag_shape {w : World} {sv : Value} {L : List Px} (h : w.ownsRow 0 79 6 sv L.length (flat L)) : ∃ a c, sv = .slice a L.length c ∧ L.length ≤ c ∧ c ≤ 9223372036854775807 := by
  rcases h.2 with ⟨rfl, h0⟩ | ⟨g, cap, cur, rfl, _, _, h1, h2, _⟩
  · exact ⟨none, 0, by rw [h0], by omega, by omega⟩
  · exact ⟨_, cap, rfl, h1, by unfold maxLen at h2; omega⟩
theorem bag_some {w : World} {sv : Value} {L : List Px} (h : w.ownsRow 0 79 6 sv L.length (flat L)) {x : Px} (hx : x ∈ L) : ∃ g c, sv = .slice (some ⟨g, 0, none⟩) L.length c ∧ L.length ≤ c ∧ c ≤ 9223372036854775807 ∧ c ≤ maxLen := by
  rcases h.2 with ⟨rfl, h0⟩ | ⟨g, cap, cur, rfl, _, _, h1, h2, _⟩
  · have := List.length_pos_of_mem hx
    omega
  · exact ⟨g, cap, rfl, h1, by unfold maxLen at h2; omega, h2⟩
end

def isNode (N : Nat) (i : Int) : Bool := decide (0 ≤ i ∧ i < N)
theorem node_nil (w : World) (i : Int) : Calls Try.prog 37 #[.pointer none, .int .i64 i] w fun e w' => e = .returned (.bool false) ∧ w = w' := by
  go_enter Try.func37, Try.ntmps37
  go_wp2
  go_ret
  exact ⟨rfl, rfl⟩
theorem node_any {w : World} {p N : Nat} {H : Nat → Nat} {sv : Value} {lost : Nat} {L : List Px} {A : List Pa} (h : NetIs w p N H sv lost L A) (i : Int) :
    Calls Try.prog 37 #[.pointer (some ⟨p, 0, none⟩), .int .i64 i] w fun e w' => e = .returned (.bool (isNode N i)) ∧ w = w' := by
  have c0 := h.c0
  have h16 := h.n16
  clear h
  by_cases h0 : 0 ≤ i
  · by_cases h1 : i < N
    · have HE : Hid (isNode N i = true) := by unfold Hid isNode; simp; omega
      go_enter Try.func37, Try.ntmps37
      go_wp2
      go_ret
      exact ⟨ret_bool HE.out.symm, rfl⟩
    · have HE : Hid (isNode N i = false) := by unfold Hid isNode; simp; omega
      go_enter Try.func37, Try.ntmps37
      go_wp2
      go_ret
      exact ⟨ret_bool HE.out.symm, rfl⟩
  · have HE : Hid (isNode N i = false) := by unfold Hid isNode; simp; omega
    go_enter Try.func37, Try.ntmps37
    go_wp2
    go_ret
    exact ⟨ret_bool HE.out.symm, rfl⟩
theorem len_nil (w : World) : Calls Try.prog 14 #[.pointer none] w fun e w' => e = .returned (.int .i64 0) ∧ w = w' := by
  go_enter Try.func14, Try.ntmps14
  go_wp2
  go_ret
  exact ⟨rfl, rfl⟩
theorem lost_nil (w : World) : Calls Try.prog 15 #[.pointer none] w fun e w' => e = .returned (.int .i64 0) ∧ w = w' := by
  go_enter Try.func15, Try.ntmps15
  go_wp2
  go_ret
  exact ⟨rfl, rfl⟩
theorem place_nil (w : World) (i : Int) : Calls Try.prog 46 #[.pointer none, .int .i64 i] w fun e w' => e = .returned (.int .i64 6) ∧ w = w' := by
  go_enter Try.func46, Try.ntmps46
  go_wp2
  go_ret
  exact ⟨rfl, rfl⟩
theorem hear_nil (w : World) (i k : Int) : Calls Try.prog 16 #[.pointer none, .int .i64 i, .int .i64 k] w fun e w' => e = .returned (.bool false) ∧ w = w' := by
  go_enter Try.func16, Try.ntmps16
  go_wp2_with fail
  refine (node_nil _ _).mono ?_
  rintro e w1 ⟨rfl, rfl⟩
  go_wp2
  go_ret
  exact ⟨rfl, rfl⟩
section
variable {w : World} {p N : Nat} {H : Nat → Nat} {sv : Value} {lost : Nat} {L : List Px} {A : List Pa}
theorem len_is (h : NetIs w p N H sv lost L A) : Calls Try.prog 14 #[.pointer (some ⟨p, 0, none⟩)] w fun e w' => e = .returned (.int .i64 (A.length : Nat)) ∧ w = w' := by
  obtain ⟨a, c, rfl, h1, h2⟩ := bag_shape h.bag
  have cB := h.cB
  have hm := h.most
  rw [h.len]
  clear h
  generalize L.length = n at *
  go_enter Try.func14, Try.ntmps14
  go_wp2
  go_ret
  exact ⟨rfl, rfl⟩
theorem lost_is (h : NetIs w p N H sv lost L A) : Calls Try.prog 15 #[.pointer (some ⟨p, 0, none⟩)] w fun e w' => e = .returned (.int .i64 (lost : Nat)) ∧ w = w' := by
  have cL := h.cL
  clear h
  go_enter Try.func15, Try.ntmps15
  go_wp2
  go_ret
  exact ⟨rfl, rfl⟩
theorem full_is (h : NetIs w p N H sv lost L A) : Calls Try.prog 44 #[.pointer (some ⟨p, 0, none⟩)] w fun e w' => e = .returned (.bool (decide (A.length = 4096))) ∧ w = w' := by
  obtain ⟨a, c, rfl, h1, h2⟩ := bag_shape h.bag
  have cB := h.cB
  have hm := h.most
  rw [h.len]
  clear h
  generalize L.length = n at *
  have HE : Hid (((n : Int) == 4096) = decide (n = 4096)) := by
    unfold Hid
    rw [Bool.eq_iff_iff]; simp; omega
  go_enter Try.func44, Try.ntmps44
  go_wp2
  go_ret
  exact ⟨ret_bool HE.out, rfl⟩
theorem place_is (h : NetIs w p N H sv lost L A) (i : Int) : Calls Try.prog 46 #[.pointer (some ⟨p, 0, none⟩), .int .i64 i] w fun e w' => e = .returned (.int .i64 (if 0 ≤ i ∧ i < A.length then 0 else 1)) ∧ w = w' := by
  obtain ⟨a, c, rfl, h1, h2⟩ := bag_shape h.bag
  have cB := h.cB
  have hm := h.most
  rw [h.len]
  clear h
  generalize L.length = n at *
  by_cases h0 : 0 ≤ i
  · by_cases h1 : i < n
    · have HE : Hid ((if 0 ≤ i ∧ i < (n : Int) then (0 : Int) else 1) = 0) := by unfold Hid; rw [if_pos ⟨h0, h1⟩]
      rw [HE.out]
      clear HE
      go_enter Try.func46, Try.ntmps46
      go_wp2
      go_ret
      exact ⟨rfl, rfl⟩
    · have HE : Hid ((if 0 ≤ i ∧ i < (n : Int) then (0 : Int) else 1) = 1) := by unfold Hid; rw [if_neg (by omega)]
      rw [HE.out]
      clear HE
      go_enter Try.func46, Try.ntmps46
      go_wp2
      go_ret
      exact ⟨rfl, rfl⟩
  · have HE : Hid ((if 0 ≤ i ∧ i < (n : Int) then (0 : Int) else 1) = 1) := by unfold Hid; rw [if_neg (by omega)]
    rw [HE.out]
    clear HE
    go_enter Try.func46, Try.ntmps46
    go_wp2
    go_ret
    exact ⟨rfl, rfl⟩
/-- Whom a node hears. -/
def hears (N : Nat) (H : Nat → Nat) (a b : Int) : Bool := isNode N a && hasN (H a.toNat) b
theorem hear_is (h : NetIs w p N H sv lost L A) (a b : Int) : Calls Try.prog 16 #[.pointer (some ⟨p, 0, none⟩), .int .i64 a, .int .i64 b] w fun e w' => e = .returned (.bool (hears N H a b)) ∧ w = w' := by
  have hn := node_any h a
  have h16 := h.n16
  by_cases hN : 0 ≤ a ∧ a < N
  · obtain ⟨k, rfl⟩ : ∃ k : Nat, a = k := ⟨a.toNat, by omega⟩
    have hk : k < 16 := by omega
    have cH := h.cH k hk
    have hhas := has_any w (H k) (h.hs k) b
    have e1 : isNode N (k : Int) = true := by unfold isNode; simpa using hN
    have HE : Hid (hears N H (k : Int) b = hasN (H k) b) := by unfold Hid hears; rw [e1]; simp
    rw [e1] at hn
    clear h e1
    generalize hasN (H k) b = r at *
    generalize H k = s at *
    go_enter Try.func16, Try.ntmps16
    go_wp2_with fail
    refine hn.mono ?_
    rintro e w1 ⟨rfl, rfl⟩
    go_wp2_with fail
    refine hhas.mono ?_
    rintro e w1 ⟨rfl, rfl⟩
    go_wp2
    go_ret
    exact ⟨ret_bool HE.out.symm, rfl⟩
  · have e1 : isNode N a = false := by unfold isNode; simpa using hN
    have HE : Hid (hears N H a b = false) := by unfold Hid hears; rw [e1]; simp
    rw [e1] at hn
    clear h e1
    go_enter Try.func16, Try.ntmps16
    go_wp2_with fail
    refine hn.mono ?_
    rintro e w1 ⟨rfl, rfl⟩
    go_wp2
    go_ret
    exact ⟨ret_bool HE.out.symm, rfl⟩
end
end Go.Proofs.Ytagabmhgcmnldaa
