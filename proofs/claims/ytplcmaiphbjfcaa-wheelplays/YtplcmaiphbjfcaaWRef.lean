/-
  The document's answer: timers in a list, by how they were armed: Cancel and Due.
-/
import Derived.Test.YtplcmaiphbjfcaaWTwo
namespace Go.Proofs.Ytplcmaiphbjfcaa
open Go.RowKit
set_option linter.unusedVariables false

/-- A list of timers as it lies in memory. -/
def tc : List (Int × Nat) → List Value
  | [] => []
  | x :: R => .int .i64 x.1 :: .int .u64 (x.2 : Nat) :: tc R
theorem tc_append : ∀ R S : List (Int × Nat), tc (R ++ S) = tc R ++ tc S
  | [], S => rfl
  | x :: R, S => by rw [List.cons_append, tc, tc, tc_append R S]; rfl
theorem tc_length : ∀ R : List (Int × Nat), (tc R).length = R.length * 2
  | [] => rfl
  | x :: R => by rw [tc, List.length_cons, List.length_cons, List.length_cons, tc_length R]; omega
theorem tc_get : ∀ (R : List (Int × Nat)) (j : Nat) (x : Int × Nat), R[j]? = some x → (tc R)[j * 2]? = some (.int .i64 x.1) ∧ (tc R)[j * 2 + 1]? = some (.int .u64 (x.2 : Nat))
  | [], j, x, h => nomatch h
  | y :: R, 0, x, h => by
    simp at h
    subst h
    exact ⟨rfl, rfl⟩
  | y :: R, j + 1, x, h => by
    rw [List.getElem?_cons_succ] at h
    have := tc_get R j x h
    rw [tc, show (j + 1) * 2 = j * 2 + 1 + 1 by omega, List.getElem?_cons_succ, List.getElem?_cons_succ, show j * 2 + 1 + 1 + 1 = j * 2 + 1 + 1 + 1 from rfl]
    refine ⟨this.1, ?_⟩
    rw [List.getElem?_cons_succ, List.getElem?_cons_succ]
    exact this.2
theorem tc_one : ∀ (R : List (Int × Nat)), ∀ u ∈ tc R, u.oneCell' = true
  | [], u, h => nomatch h
  | x :: R, u, h => by
    rw [tc, List.mem_cons, List.mem_cons] at h
    rcases h with rfl | rfl | h
    · rfl
    · rfl
    · exact tc_one R u h

theorem und30 : Try.prog.underlying 30 = some (.slice 72) := by kernel_rfl
theorem info72 : (Try.prog.info? 72).map (fun i => (i.zero, i.size, i.bytes)) = some (some (.agg #[.int .i64 0, .int .u64 0]), 2, 16) := by kernel_rfl

structure Rf (w : World) (r : Nat) (v : Value) (now : Nat) (R : List (Int × Nat)) : Prop where
  c0 : w.cell? ⟨r, 0, none⟩ = some (.int .u64 (now : Nat))
  c1 : w.cell? ⟨r, 1, none⟩ = some v
  fr : ∀ o, w.frozen? ⟨r, o, none⟩ = false
  row : w.ownsRow 0 72 2 v R.length (tc R)
  no : v.ownBlock ≠ some r
def FootR (r : Nat) (v : Value) (b : Nat) : Prop := b = r ∨ v.ownBlock = some b
theorem Rf.lt {w : World} {r : Nat} {v : Value} {now : Nat} {R : List (Int × Nat)} (h : Rf w r v now R) : ∀ b, FootR r v b → b < w.heap.size := by
  rintro b (rfl | hb)
  · exact World.block_lt_of_cell? w _ h.c0
  · exact (h.row.lt b hb).2
theorem Rf.frame {w w' : World} {r : Nat} {v : Value} {now : Nat} {R : List (Int × Nat)} (h : Rf w r v now R) (hb : ∀ b, FootR r v b → w'.heap[b]? = w.heap[b]?) : Rf w' r v now R where
  c0 := by rw [cell_block (hb r (.inl rfl))]; exact h.c0
  c1 := by rw [cell_block (hb r (.inl rfl))]; exact h.c1
  fr := fun o => by rw [frozen_block (hb r (.inl rfl))]; exact h.fr o
  row := row_block h.row (fun b hbb => hb b (.inr hbb))
  no := h.no
theorem Rf.turned {w w' : World} {r : Nat} {v : Value} {now : Nat} {R : List (Int × Nat)} (h : Rf w r v now R) (t : Turned (fun _ => False) w w') : Rf w' r v now R :=
  h.frame (fun b hb => t.block b (h.lt b hb) (fun f => f))
/-- The elements. -/
theorem Rf.cell {w : World} {r : Nat} {ao : Option Addr} {n cap now : Nat} {R : List (Int × Nat)} (h : Rf w r (.slice ao n cap) now R) {j : Nat} (hj : j < R.length) :
    ∃ g, ao = some ⟨g, 0, none⟩ ∧ g < w.heap.size ∧ ∀ j x, R[j]? = some x → w.cell? ⟨g, j * 2, none⟩ = some (.int .i64 x.1) ∧ w.cell? ⟨g, j * 2 + 1, none⟩ = some (.int .u64 (x.2 : Nat)) := by
  rcases h.row.2 with ⟨h0, h1⟩ | ⟨g, cap', cur, h0, _⟩
  · omega
  · simp only [Value.slice.injEq] at h0
    obtain ⟨rfl, rfl, rfl⟩ := h0
    refine ⟨g, rfl, (h.row.lt g rfl).2, fun j x hx => ?_⟩
    obtain ⟨t1, t2⟩ := tc_get R j x hx
    have e1 := h.row.cells (g := g) rfl (j * 2) _ t1
    have e2 := h.row.cells (g := g) rfl (j * 2 + 1) _ t2
    rw [Addr.add_lit, Nat.zero_add] at e1 e2
    exact ⟨e1, e2⟩
/-- From one state of the list to another. -/
structure GoesR (r : Nat) (v : Value) (w : World) (v' : Value) (w' : World) : Prop where
  turned : Turned (fun b => b = r) w w'
  foot : ∀ b, v'.ownBlock = some b → v' = v ∨ w.heap.size ≤ b

def okOf : Option Nat → Bool
  | some _ => true
  | none => false

set_option maxRecDepth 20000 in
set_option maxHeartbeats 1000000 in
theorem rdue_any (w : World) (r : Nat) (v : Value) (now : Nat) (R : List (Int × Nat)) (h : Rf w r v now R) (id : Int) (hl : R.length < 1099511627776) :
    Calls Try.prog 20 #[.pointer (some ⟨r, 0, none⟩), .int .i64 id] w fun e w' => e = .returned (.tuple #[.int .u64 ((R.lookup id).getD 0 : Nat), .bool (okOf (R.lookup id))]) ∧ w = w' := by
  obtain ⟨ao, cap, rfl, hcap, hmax⟩ := row_shape h.row
  obtain ⟨n, HN⟩ : ∃ n, Hid (R.length = n) := ⟨_, rfl⟩
  have hc1 := h.c1
  have H : Hid (Rf w r (.slice ao R.length cap) now R) := h
  have en := HN.out
  rw [en] at hc1 hcap hl H
  clear h en
  go_enter Try.func20, Try.ntmps20
  go_wp2_with fail
  go_loop [6] (fun i => ∃ k : Nat, k ≤ n ∧ i = .int .i64 k ∧ (R.drop k).lookup id = R.lookup id) (fun i => n - (intOf i).toNat)
  case atStart => exact ⟨0, by omega, rfl, by simp⟩
  case round =>
    obtain ⟨k, hk, rfl, hlk⟩ := hrel
    by_cases hend : k = n
    · subst hend
      have HL : Hid (R.lookup id = none) := by
        unfold Hid
        rw [← hlk, List.drop_of_length_le (by rw [HN.out]; omega)]
        rfl
      clear hlk
      go_wp2_with fail
      go_ret2
      exact ⟨by rw [HL.out]; rfl, rfl⟩
    · have hkl : k < R.length := by rw [HN.out]; omega
      obtain ⟨g, rfl, hgl, hcell⟩ := H.out.cell hkl
      obtain ⟨x, hx⟩ : ∃ x, R[k]? = some x := ⟨_, List.getElem?_eq_getElem hkl⟩
      obtain ⟨d1, d2⟩ := hcell k x hx
      have hdrop : R.drop k = x :: R.drop (k + 1) := by
        obtain ⟨h1, h2⟩ := List.getElem?_eq_some_iff.1 hx
        rw [List.drop_eq_getElem_cons h1, h2]
      rw [hdrop, List.lookup_cons] at hlk
      obtain ⟨xi, xd⟩ := x
      simp only at d1 d2 hlk
      clear hcell hx hdrop
      by_cases he : xi = id
      · subst he
        have HL : Hid (R.lookup xi = some xd) := by
          unfold Hid
          rw [← hlk]
          simp
        clear hlk
        go_wp2_with fail
        go_ret2
        exact ⟨by rw [HL.out]; rfl, rfl⟩
      · have HL : Hid ((R.drop (k + 1)).lookup id = R.lookup id) := by
          unfold Hid
          rw [← hlk]
          have : (id == xi) = false := by simp; omega
          rw [this]
        clear hlk
        have he' : (xi == id) = false := by simpa using he
        go_wp2_with fail
        go_round
        case rel => exact ⟨k + 1, by omega, by go_num, HL.out⟩
        case measure => simp [intOf]; omega

end Go.Proofs.Ytplcmaiphbjfcaa
