/-
  Most and List of package ident, and the document's examples.
-/
import Derived.Test.YtlahdemhigcjnaaILeaf
import Derived.Laws.AppendOwn
import Derived.Laws.OwnMore
import Derived.Maps.AppendAt
import Derived.OwnWalk
import Derived.Below
namespace Go.Proofs.Ytlahdemhigcjnaa
open Go.RowKit
set_option linter.unusedVariables false

/-- Has a set more than half of n nodes? -/
def mostN (s : Nat) (n : Int) : Bool := decide (1 ≤ n) && decide (n ≤ 16) && decide (n < 2 * (cntF 16 s : Nat))

set_option maxRecDepth 10000 in
theorem most_any (w : World) (s : Nat) (hs : s < 65536) (n : Int) : Calls Try.prog 7 #[.int .u16 (s : Nat), .int .i64 n] w fun e w' => e = .returned (.bool (mostN s n)) ∧ ∃ q, w' = w.drewN q := by
  have hl := cntF_le 16 s
  have hc := count_any w s hs
  unfold mostN
  generalize cntF 16 s = c at *
  by_cases h1 : 1 ≤ n
  · by_cases h2 : n ≤ 16
    · have h1' : decide (1 ≤ n) = true := by simpa using h1
      have h2' : decide (n ≤ 16) = true := by simpa using h2
      rw [h1', h2']
      clear h1' h2'
      by_cases h3 : n < 2 * (c : Int)
      · rw [show decide (n < 2 * ((c : Nat) : Int)) = true by simpa using h3]
        go_enter Try.func7, Try.ntmps7
        go_wp2_with fail
        refine hc.mono ?_
        rintro e w1 ⟨rfl, q, rfl⟩
        go_wp2
        go_ret
        exact ⟨ret_bool (by simp), q, rfl⟩
      · rw [show decide (n < 2 * ((c : Nat) : Int)) = false by simpa using h3]
        go_enter Try.func7, Try.ntmps7
        go_wp2_with fail
        refine hc.mono ?_
        rintro e w1 ⟨rfl, q, rfl⟩
        go_wp2
        go_ret
        exact ⟨ret_bool (by simpa using h3), q, rfl⟩
    · have h2' : decide (n ≤ 16) = false := by simpa using h2
      rw [h2']
      clear h2'
      go_enter Try.func7, Try.ntmps7
      go_wp2
      go_ret
      exact ⟨ret_bool (by simp), 0, rfl⟩
  · have h1' : decide (1 ≤ n) = false := by simpa using h1
    rw [h1']
    clear h1'
    go_enter Try.func7, Try.ntmps7
    go_wp2
    go_ret
    exact ⟨ret_bool (by simp), 0, rfl⟩

theorem und50 : Try.prog.underlying 50 = some (.slice 3) := by kernel_rfl
theorem info3 : (Try.prog.info? 3).map (fun i => (i.zero, i.size, i.bytes)) = some (some (.int .i64 0), 1, 8) := by kernel_rfl
theorem info_parts {e : TypeId} {z : Value} {s b : Nat} (h : (Try.prog.info? e).map (fun i => (i.zero, i.size, i.bytes)) = some (some z, s, b)) : ∃ i, Try.prog.info? e = some i ∧ i.zero = some z ∧ i.size = s ∧ i.bytes = b := by
  obtain ⟨i, hi, hz⟩ := Option.map_eq_some_iff.1 h
  simp only [Prod.mk.injEq] at hz
  exact ⟨i, hi, hz.1, hz.2.1, hz.2.2⟩
theorem make_list (c : Nat) (hc : c ≤ 16) (w : World) : (Instr.makeSlice 50 (.int .i64 0) (.int .i64 (c : Int))).run Try.prog w = .ok (.slice (some ⟨w.heap.size, 0, none⟩) 0 c) (w.alloc (.cells (madeCells #[.int .i64 0] c) 3)) := by
  obtain ⟨i, hi, hz, hs, hb⟩ := info_parts info3
  have hr := run_make (P := Try.prog) w 50 3 i (.int .i64 0) und50 hi hz .i64 .i64 0 (c : Int) (Int.le_refl _) (by omega) (by rw [hb]; omega) (by omega)
  simp only [Int.toNat_zero, Int.toNat_natCast, hs, Nat.mul_one] at hr
  exact hr

theorem bl_drewN {B : Nat} {w w' : World} (h : Below B w w') (q : Nat) : Below B w (w'.drewN q) := ⟨h.os, h.tape, h.output, h.size, h.block⟩
theorem bl_grown {B : Nat} {w a b : World} {row : Option Nat} (h : Below B w a) (hB : B ≤ a.heap.size) (g : a.grownBy b row) (hr : ∀ k, row = some k → B ≤ k) : Below B w b :=
  ⟨g.os.trans h.os, g.tape.trans h.tape, g.output.trans h.output, Nat.le_trans h.size g.size, fun k hk => (g.block k (by omega) (fun e => by have := hr k e.symm; omega)).trans (h.block k hk)⟩

def ints (l : List Nat) : List Value := l.map (fun i => Value.int .i64 (i : Nat))
theorem ints_len (l : List Nat) : (ints l).length = l.length := by simp [ints]

set_option maxRecDepth 10000 in
set_option maxHeartbeats 1000000 in
theorem list_any (w : World) (s : Nat) (hs : s < 65536) : Calls Try.prog 23 #[.int .u16 (s : Nat)] w fun e w' => ∃ v, e = .returned v ∧ w'.ownsRow w.heap.size 3 1 v (cntF 16 s) (ints (nodes s 16)) ∧ Below w.heap.size w w' := by
  have hl := cntF_le 16 s
  obtain ⟨i0, hi0, hz0, hz1, hz2⟩ := info_parts info3
  have hmk := make_list (cntF 16 s) hl
  have hc := count_any w s hs
  have HN : Hid ((nodes s 16).length = cntF 16 s) := nodes_len 16 s
  have hrow : ∀ q, ((w.drewN q).alloc (.cells (madeCells #[.int .i64 0] (cntF 16 s)) 3)).ownsRow w.heap.size 3 1 (.slice (some ⟨w.heap.size, 0, none⟩) 0 (cntF 16 s)) 0 [] := fun q =>
    World.ownsRow_made (w.drewN q) _ (cntF 16 s) (Nat.le_refl _) (by unfold maxLen; omega) (by simp [size_madeCells])
  generalize cntF 16 s = c at *
  go_enter Try.func23, Try.ntmps23
  go_wp2_with fail
  refine hc.mono ?_
  rintro e w1 ⟨rfl, q1, rfl⟩
  have hrow1 := hrow q1
  go_wp2_with fail
  go_loopw [3, 8] (fun v iv wr => ∃ k : Nat, k ≤ 16 ∧ iv = .int .i64 k ∧ wr.ownsRow w.heap.size 3 1 v (nodes s k).length (ints (nodes s k)) ∧ Below w.heap.size w wr) (fun _ iv _ => 16 - (intOf iv).toNat)
  case atStart => exact ⟨0, by omega, rfl, hrow1, (bl_drewN (Below.refl _ _) q1).alloc (Nat.le_refl _) _⟩
  case round =>
    obtain ⟨k, hk, rfl, hown, hb⟩ := hrel
    by_cases hlt : k < 16
    · have hltI : (k : Int) < 16 := by omega
      have hh := has_any wr s hs (k : Int)
      have hhas : hasN s (k : Int) = s.testBit k := by simp [hasN]; omega
      rw [hhas] at hh
      have hnl : (nodes s k).length ≤ k := by rw [nodes_len]; exact cntF_le k s
      have HS : Hid (nodes s (k + 1) = nodes s k ++ (if s.testBit k then [k] else [])) := nodes_succ s k
      have hsz := hb.size
      cases hbit : s.testBit k with
      | false =>
        rw [hbit] at hh
        rw [hbit] at HS
        go_wp2_with fail
        refine hh.mono ?_
        rintro e w2 ⟨rfl, rfl⟩
        go_wp2
        go_roundw
        case rel => first | exact ⟨k + 1, by omega, by go_num, by rw [HS.out]; simpa using hown, hb⟩ | ((repeat apply Exists.intro); exact ⟨⟨k + 1, by omega, by go_num, by rw [HS.out]; simpa using hown, hb⟩, rfl⟩)
        case measure => simp [intOf]; omega
      | true =>
        rw [hbit] at hh
        rw [hbit] at HS
        obtain ⟨L, HL⟩ : ∃ L, Hid ((nodes s k).length = L) := ⟨_, rfl⟩
        have hL := HL.out
        rw [hL] at hown hnl
        clear hL
        go_wp2_with fail
        refine hh.mono ?_
        rintro e w2 ⟨rfl, rfl⟩
        have hb2 := fun o => hb.alloc hsz o
        have hown2 := fun o => hown.alloc o
        go_wp2_with (first | (at_builtin; refine wpList_append_own_at _ rfl _ _ 50 rfl w.heap.size 3 i0 (.int .i64 0) 1 8 und50 hi0 hz0 hz1 hz2 rfl (by decide) _ L (ints (nodes s k)) rfl ?d1 ⟨wr.heap.size, 0, none⟩ 1 1 [.int .i64 (k : Nat)] rfl rfl ?d3 ?d4 ?d6 ?d7 ?d8 ?_))
        case d1 => exact hown2 _
        case d3 => exact cell_one_new _ _ _
        case d4 => simp [Value.oneCell']
        case d6 => unfold maxLen; omega
        case d7 => omega
        case d8 => simp; omega
        intro v' w3 hown3 hgrow hnil hat
        have hb3 := bl_grown (hb2 _) (by simp; omega) hgrow (fun g hg => (hown.lt g hg).1)
        have hown4 : w3.ownsRow w.heap.size 3 1 v' (nodes s (k + 1)).length (ints (nodes s (k + 1))) := by
          rw [HS.out]
          simpa [ints, HL.out] using hown3
        clear hown3 hgrow hnil hat hb2 hown2 hown hb hh
        go_wp2
        go_roundw
        case rel => first | exact ⟨k + 1, by omega, by go_num, hown4, hb3⟩ | ((repeat apply Exists.intro); exact ⟨⟨k + 1, by omega, by go_num, hown4, hb3⟩, rfl⟩)
        case measure => simp [intOf]; omega
    · obtain rfl : k = 16 := by omega
      rw [HN.out] at hown
      go_wp2
      go_ret
      exact ⟨_, rfl, hown, hb⟩

end Go.Proofs.Ytlahdemhigcjnaa
