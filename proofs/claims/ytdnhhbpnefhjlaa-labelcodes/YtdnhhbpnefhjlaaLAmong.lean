/-
  What package label's among tells: whether a label is one of a list.
-/
import Derived.Test.YtdnhhbpnefhjlaaLMap
namespace Go.Proofs.Ytdnhhbpnefhjlaa
open Go.RowKit Go.Sort
set_option linter.unusedVariables false

theorem run_makeMap_hint (n : Int) (w : World) : (Instr.makeMap 83 (some (.int .i64 n))).run Try.prog w = .ok (.map (some w.heap.size)) (w.alloc (.map #[] 0)) := by
  unfold Instr.makeMap
  simp [go_sem, asInt, newObj]
  rfl

set_option maxRecDepth 10000 in
set_option maxHeartbeats 1000000 in
theorem among_any (w : World) (ao : Option Addr) (n cap : Nat) (ls : List Lb) (h : LR w ao n ls) (hok : ∀ x ∈ ls, OkL x) (hn : n < 4294967296) :
    Calls Try.prog 41 #[.slice ao n cap] w fun e w' => ∃ B m k ls', e = .returned (.func (.func 59) #[] #[.pointer (some ⟨B, 0, none⟩)]) ∧ w.heap.size ≤ B ∧ w.heap.size ≤ m ∧ w'.cell? ⟨B, 0, none⟩ = some (.map (some m)) ∧ SetIs w' m k ls' ∧ (∀ x, x ∈ ls' ↔ x ∈ ls) ∧ Below w.heap.size w w' := by
  have hl := h.1
  have hmm := fun W => run_makeMap_hint (n : Int) W
  go_enter Try.func41, Try.ntmps41
  go_wp2_with fail
  go_loopw [11] (fun iv wr => ∃ k : Nat, k ≤ n ∧ iv = .int .i64 k ∧ wr.cell? ⟨w.heap.size + 1, 0, none⟩ = some (.map (some w.heap.size)) ∧ (∃ ls', SetIs wr w.heap.size k ls' ∧ ∀ x, x ∈ ls' ↔ x ∈ ls.take k) ∧ Below w.heap.size w wr) (fun iv _ => n - (intOf iv).toNat)
  case atStart =>
    refine ⟨0, by omega, rfl, ?_, ⟨[], ?_, by simp⟩, bl2 _ _ _⟩
    · simp
    · exact (set_made w).of_block (Below.heap_alloc _ _ _ (by simp))
  case round =>
    obtain ⟨k, hk, rfl, hB, ⟨ls', hS, hmem⟩, hb⟩ := hrel
    by_cases hlt : k < n
    · have hltI : (k : Int) < (n : Int) := by omega
      obtain ⟨y, hy⟩ : ∃ y, ls[k]? = some y := ⟨ls[k]'(by omega), List.getElem?_eq_getElem (by omega)⟩
      obtain ⟨b, off, hao, hc⟩ := (h.up hb).2.2 (by omega)
      obtain ⟨c0, c1, c2, c3⟩ := hc k y hy
      have hyok := hok y (List.mem_of_getElem? hy)
      have hS1 : SetIs (wr.alloc (.cells #[.int .u64 (y.1 : Nat), .int .i64 y.2.1, .int .u64 (y.2.2.1 : Nat), .int .i64 y.2.2.2] 26)) w.heap.size k ls' := hS.of_block (Below.heap_alloc _ _ _ hS.lt)
      obtain ⟨w2, hrun, hS2, hg2⟩ := hS1.store (by unfold maxLen; omega) hyok
      unfold lab at hrun
      have hBlt := World.block_lt_of_cell? wr _ hB
      have hB2 : w2.cell? ⟨w.heap.size + 1, 0, none⟩ = some (.map (some w.heap.size)) := hg2.cell ((((Below.refl _ wr).alloc (Nat.le_refl _) _).cell hBlt).trans hB) (by simp)
      have hb2 : Below w.heap.size w w2 := bl_grown (hb.alloc hb.size _) (by have := hb.size; simp; omega) hg2 (fun j hj => by cases hj; exact Nat.le_refl _)
      have HM : Hid (∀ x, x ∈ y :: ls' ↔ x ∈ ls.take (k + 1)) := by
        intro x
        rw [List.take_add_one, hy]
        simp [hmem x, or_comm]
      have d0 : (wr.alloc (.cells #[.int .u64 (y.1 : Nat), .int .i64 y.2.1, .int .u64 (y.2.2.1 : Nat), .int .i64 y.2.2.2] 26)).cell? ⟨w.heap.size + 1, 0, none⟩ = some (.map (some w.heap.size)) := (((Below.refl _ wr).alloc (Nat.le_refl _) _).cell hBlt).trans hB
      subst hao
      clear hc hy hS hmem hS1 hg2 hyok hb hB h hok hmm
      have hk0 : ¬ ((k : Int) < 0) := by omega
      go_wp2
      go_roundw
      case rel => first | exact ⟨k + 1, by omega, by go_num, hB2, ⟨_, hS2, HM.out⟩, hb2⟩ | ((repeat apply Exists.intro); exact ⟨⟨k + 1, by omega, by go_num, hB2, ⟨_, hS2, HM.out⟩, hb2⟩, rfl⟩)
      case measure => simp [intOf]; omega
    · obtain rfl : k = n := by omega
      rw [List.take_of_length_le (by omega)] at hmem
      clear h hok hmm
      go_wp2
      go_ret
      exact ⟨_, _, _, _, rfl, by omega, Nat.le_refl _, hB, hS, hmem, hb⟩

set_option maxRecDepth 10000 in
/-- What is asked of the set: is a label in it? -/
theorem closure_any (w : World) (B m k : Nat) (ls : List Lb) (hB : w.cell? ⟨B, 0, none⟩ = some (.map (some m))) (hS : SetIs w m k ls) (x : Lb) (hx : OkL x) :
    Calls Try.prog 59 #[lab x, .pointer (some ⟨B, 0, none⟩)] w fun e w' => e = .returned (.bool (decide (x ∈ ls))) ∧ Up w w' := by
  have hlk : (Instr.lookup 83 (.map (some m)) (lab x) true).run Try.prog (w.alloc (.cells #[.int .u64 (x.1 : Nat), .int .i64 x.2.1, .int .u64 (x.2.2.1 : Nat), .int .i64 x.2.2.2] 26)) = _ := (hS.of_block (Below.heap_alloc _ _ _ hS.lt)).look hx
  have d0 : (w.alloc (.cells #[.int .u64 (x.1 : Nat), .int .i64 x.2.1, .int .u64 (x.2.2.1 : Nat), .int .i64 x.2.2.2] 26)).cell? ⟨B, 0, none⟩ = some (.map (some m)) := (((Below.refl _ w).alloc (Nat.le_refl _) _).cell (World.block_lt_of_cell? w _ hB)).trans hB
  unfold lab at *
  generalize decide (x ∈ ls) = r at *
  clear hS hB
  go_enter Try.func59, Try.ntmps59
  go_wp2
  go_ret
  exact ⟨rfl, ((Up.refl _).alloc _).alloc _⟩
end Go.Proofs.Ytdnhhbpnefhjlaa
