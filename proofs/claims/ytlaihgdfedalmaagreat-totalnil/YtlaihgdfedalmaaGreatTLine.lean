/-
  Package total's line: an order of labels, none twice, with the set of those that are in it.
-/
import Derived.Test.YtlaihgdfedalmaaGreatQAll
import Derived.Test.YtlaihgdfedalmaaGreatEBase
namespace Go.Proofs.YtlaihgdfedalmaaGreat
open Go.RowKit Go.Sort
set_option linter.unusedVariables false

theorem bl_rowL {B : Nat} {w W : World} (h : Below B w W) {g : Nat} (hg : B ≤ g) (cs : Array Value) : Below B w (W.setRow g cs) := h.trans ⟨rfl, rfl, rfl, by simp, fun k hk => setRow_other _ _ _ _ (by omega)⟩
theorem infoS98 : (Tryz.prog.info? 98).map (·.size) = some 2 := by kernel_rfl
set_option maxRecDepth 10000 in
set_option maxHeartbeats 1000000 in
/-- newLine: the order, and the set of its labels. -/
theorem newLine_any (w : World) (ao : Option Addr) (n cap : Nat) (ls : List Lb) (h : LR w ao n ls) (hok : ∀ x ∈ ls, OkL x) (hn : n < 4294967296) :
    Calls Tryz.prog 42 #[.slice ao n cap] w fun e w' => ∃ m ls', e = .returned (.agg #[.slice ao n cap, .map (some m)]) ∧ w.heap.size ≤ m ∧ Q.SetIs w' m n ls' ∧ (∀ x, x ∈ ls' ↔ x ∈ ls) ∧ Below w.heap.size w w' := by
  have hl := h.1
  have hmm := fun W => Q.run_makeMap_hint (n : Int) W
  go_enter Tryz.func42, Tryz.ntmps42
  go_wp2_with fail
  go_loopw [11] (fun iv wr => ∃ k : Nat, k ≤ n ∧ iv = .int .i64 k ∧ wr.heap[w.heap.size]? = some (.cells #[.slice none 0 0, .map none] 98 (0, 0)) ∧ (∃ ls', Q.SetIs wr (w.heap.size + 1) k ls' ∧ ∀ x, x ∈ ls' ↔ x ∈ ls.take k) ∧ Below w.heap.size w wr) (fun iv _ => n - (intOf iv).toNat)
  case atStart =>
    refine ⟨0, by omega, rfl, ?_, ⟨[], ?_, by simp⟩, bl2 _ _ _⟩
    · rw [Below.heap_alloc _ _ _ (by simp)]
      exact heap_alloc_new w _
    · have := Q.set_made (w.alloc (.cells #[.slice none 0 0, .map none] 98))
      rw [World.size_alloc] at this
      exact this
  case round =>
    obtain ⟨k, hk, rfl, hB, ⟨ls', hS, hmem⟩, hb⟩ := hrel
    by_cases hlt : k < n
    · have hltI : (k : Int) < (n : Int) := by omega
      obtain ⟨y, hy⟩ : ∃ y, ls[k]? = some y := ⟨ls[k]'(by omega), List.getElem?_eq_getElem (by omega)⟩
      obtain ⟨b, off, hao, hc⟩ := (h.up hb).2.2 (by omega)
      obtain ⟨c0, c1, c2, c3⟩ := hc k y hy
      have hyok := hok y (List.mem_of_getElem? hy)
      have hS1 : Q.SetIs (wr.alloc (.cells #[.int .u64 (y.1 : Nat), .int .i64 y.2.1, .int .u64 (y.2.2.1 : Nat), .int .i64 y.2.2.2] 39)) (w.heap.size + 1) k ls' := hS.of_block (Below.heap_alloc _ _ _ hS.lt)
      obtain ⟨w2, hrun, hS2, hg2⟩ := hS1.store (by unfold maxLen; omega) hyok
      unfold lab at hrun
      have hBlt : w.heap.size < wr.heap.size := (Array.getElem?_eq_some_iff.1 hB).1
      have hB2 : w2.heap[w.heap.size]? = some (.cells #[.slice none 0 0, .map none] 98 (0, 0)) := (hg2.block _ (by simp; omega) (by simp)).trans ((Below.heap_alloc _ _ _ hBlt).trans hB)
      have hb2 : Below w.heap.size w w2 := bl_grown (hb.alloc hb.size _) (by have := hb.size; simp; omega) hg2 (fun j hj => by cases hj; omega)
      have HM : Hid (∀ x, x ∈ y :: ls' ↔ x ∈ ls.take (k + 1)) := by
        intro x
        rw [List.take_add_one, hy]
        simp [hmem x, or_comm]
      subst hao
      clear hc hy hS hmem hS1 hg2 hyok hb hB h hok hmm hBlt
      have hk0 : ¬ ((k : Int) < 0) := by omega
      go_wp2
      go_roundw
      case rel => first | exact ⟨k + 1, by omega, by go_num, hB2, ⟨_, hS2, HM.out⟩, hb2⟩ | ((repeat apply Exists.intro); exact ⟨⟨k + 1, by omega, by go_num, hB2, ⟨_, hS2, HM.out⟩, hb2⟩, rfl⟩)
      case measure => simp [intOf]; omega
    · obtain rfl : k = n := by omega
      rw [List.take_of_length_le (by omega)] at hmem
      have HH : Hid (Q.SetIs wr (w.heap.size + 1) k ls' ∧ (∀ x, x ∈ ls' ↔ x ∈ ls) ∧ Below w.heap.size w wr) := ⟨hS, hmem, hb⟩
      clear h hok hmm hS hmem hb
      go_wp2_with (refine wpList_store_row rfl 98 (.tmp 2) (.tmp 21) rfl w.heap.size #[.slice ao k cap, .map (some (w.heap.size + 1))] rfl rfl 98 _ hB infoS98 rfl (by simp [Value.oneCell']) ?_)
      have k0 : (wr.setRow w.heap.size #[.slice ao k cap, .map (some (w.heap.size + 1))]).cell? ⟨w.heap.size, 0, none⟩ = some (.slice ao k cap) := cell_setRow_same _ _ 0 _ _ _ _ hB
      have k1 : (wr.setRow w.heap.size #[.slice ao k cap, .map (some (w.heap.size + 1))]).cell? ⟨w.heap.size, 1, none⟩ = some (.map (some (w.heap.size + 1))) := cell_setRow_same _ _ 1 _ _ _ _ hB
      refine bodyPost_ret (v := .agg #[.slice ao k cap, .map (some (w.heap.size + 1))]) ?_ rfl ?_
      · simp [results, Tryz.results42, go_sem, k0, k1]
      · refine ⟨_, _, rfl, by omega, HH.out.1.of_block ?_, HH.out.2.1, ?_⟩
        · exact setRow_other _ _ _ _ (by omega)
        · exact bl_rowL HH.out.2.2 (Nat.le_refl _) _

/-- The label at a place, the first of which is 1. -/
def atL (ls : List Lb) (p : Int) : Option Lb := if p < 1 then none else ls[(p - 1).toNat]?
theorem infoS39 : (Tryz.prog.info? 39).map (·.size) = some 4 := by kernel_rfl
set_option maxRecDepth 10000 in
theorem at_any (w : World) (q o : Nat) (ao : Option Addr) (n cap : Nat) (ls : List Lb) (hq : w.cell? ⟨q, o, none⟩ = some (.slice ao n cap)) (h : LR w ao n ls) (p : Int) (hp : In p) :
    Calls Tryz.prog 73 #[.pointer (some ⟨q, o, none⟩), .int .i64 p] w fun e w' => e = .returned (.tuple #[lab ((atL ls p).getD (0, 0, 0, 0)), .bool (atL ls p).isSome]) ∧ Below w.heap.size w w' := by
  have hl := h.1
  have hB : (w.alloc (.cells #[.int .u64 0, .int .i64 0, .int .u64 0, .int .i64 0] 39)).heap[w.heap.size]? = some (.cells #[.int .u64 0, .int .i64 0, .int .u64 0, .int .i64 0] 39 (0, 0)) := heap_alloc_new w _
  have hq1 : (w.alloc (.cells #[.int .u64 0, .int .i64 0, .int .u64 0, .int .i64 0] 39)).cell? ⟨q, o, none⟩ = some (.slice ao n cap) := bl_cell (bl1 w _) hq
  by_cases hc : p < 1 ∨ (n : Int) < p
  · have ha : atL ls p = none := by
      unfold atL
      split
      · rfl
      · exact List.getElem?_eq_none (by omega)
    rw [ha]
    have hpk : (decide (p < 1) = true) ∨ (decide (p < 1) = false ∧ decide ((n : Int) < p) = true) := by
      by_cases h1 : p < 1
      · exact .inl (by simp [h1])
      · exact .inr ⟨by simp [h1], by simp; omega⟩
    have k : ∀ j v, #[Value.int .u64 0, .int .i64 0, .int .u64 0, .int .i64 0][j]? = some v → ((w.alloc (.cells #[.int .u64 0, .int .i64 0, .int .u64 0, .int .i64 0] 39)).setRow w.heap.size #[.int .u64 0, .int .i64 0, .int .u64 0, .int .i64 0]).cell? ⟨w.heap.size, j, none⟩ = some v := fun j v hj => (cell_setRow_same _ _ j _ #[.int .u64 0, .int .i64 0, .int .u64 0, .int .i64 0] _ _ hB).trans hj
    have k0 := k 0 _ rfl
    have k1 := k 1 _ rfl
    have k2 := k 2 _ rfl
    have k3 := k 3 _ rfl
    clear k hc hl h hq ha
    rcases hpk with h1 | ⟨h1, h2⟩
    · go_enter Tryz.func73, Tryz.ntmps73
      go_wp2_with (refine wpList_store_row rfl 39 (.tmp 4) (.tmp 17) rfl w.heap.size #[.int .u64 0, .int .i64 0, .int .u64 0, .int .i64 0] rfl rfl 39 _ hB infoS39 rfl (by simp [Value.oneCell']) ?_)
      refine bodyPost_ret (v := .tuple #[.agg #[.int .u64 0, .int .i64 0, .int .u64 0, .int .i64 0], .bool false]) ?_ rfl ?_
      · simp [results, Tryz.results73, go_sem, k0, k1, k2, k3]
      · exact ⟨rfl, bl_rowL (bl1 w _) (Nat.le_refl _) _⟩
    · go_enter Tryz.func73, Tryz.ntmps73
      go_wp2_with (refine wpList_store_row rfl 39 (.tmp 4) (.tmp 17) rfl w.heap.size #[.int .u64 0, .int .i64 0, .int .u64 0, .int .i64 0] rfl rfl 39 _ hB infoS39 rfl (by simp [Value.oneCell']) ?_)
      refine bodyPost_ret (v := .tuple #[.agg #[.int .u64 0, .int .i64 0, .int .u64 0, .int .i64 0], .bool false]) ?_ rfl ?_
      · simp [results, Tryz.results73, go_sem, k0, k1, k2, k3]
      · exact ⟨rfl, bl_rowL (bl1 w _) (Nat.le_refl _) _⟩
  · obtain ⟨i, rfl⟩ : ∃ i : Nat, p = (i : Int) + 1 := ⟨(p - 1).toNat, by omega⟩
    have hi : i < n := by omega
    obtain ⟨y, hy⟩ : ∃ y, ls[i]? = some y := ⟨ls[i]'(by omega), List.getElem?_eq_getElem (by omega)⟩
    have ha : atL ls ((i : Int) + 1) = some y := by
      unfold atL
      rw [if_neg (by omega), show (((i : Int) + 1 - 1).toNat) = i by omega]
      exact hy
    rw [ha]
    obtain ⟨b, off, hao, hcs⟩ := (h.up (bl1 w (.cells #[.int .u64 0, .int .i64 0, .int .u64 0, .int .i64 0] 39))).2.2 (by omega)
    obtain ⟨c0, c1, c2, c3⟩ := hcs i y hy
    subst hao
    have k : ∀ j v, #[Value.int .u64 (y.1 : Nat), .int .i64 y.2.1, .int .u64 (y.2.2.1 : Nat), .int .i64 y.2.2.2][j]? = some v → ((w.alloc (.cells #[.int .u64 0, .int .i64 0, .int .u64 0, .int .i64 0] 39)).setRow w.heap.size #[.int .u64 (y.1 : Nat), .int .i64 y.2.1, .int .u64 (y.2.2.1 : Nat), .int .i64 y.2.2.2]).cell? ⟨w.heap.size, j, none⟩ = some v := fun j v hj => (cell_setRow_same _ _ j _ #[.int .u64 (y.1 : Nat), .int .i64 y.2.1, .int .u64 (y.2.2.1 : Nat), .int .i64 y.2.2.2] _ _ hB).trans hj
    have k0 := k 0 _ rfl
    have k1 := k 1 _ rfl
    have k2 := k 2 _ rfl
    have k3 := k 3 _ rfl
    have h1 : decide ((i : Int) + 1 < 1) = false := by simp; omega
    have h2 : decide ((n : Int) < (i : Int) + 1) = false := by simp; omega
    have h3 := h.2.1
    have h6 : (i : Int) + 1 - 1 = (i : Int) := by omega
    have h4 : ¬ ((i : Int) < 0) := by omega
    have h5 : (i : Int) < (n : Int) := by omega
    clear k hc hl h hq ha hcs hy hp
    go_enter Tryz.func73, Tryz.ntmps73
    go_wp2_with (refine wpList_store_row rfl 39 (.tmp 4) (.tmp 25) rfl w.heap.size #[.int .u64 (y.1 : Nat), .int .i64 y.2.1, .int .u64 (y.2.2.1 : Nat), .int .i64 y.2.2.2] rfl rfl 39 _ hB infoS39 rfl (by simp [Value.oneCell']) ?_)
    refine bodyPost_ret (v := .tuple #[.agg #[.int .u64 (y.1 : Nat), .int .i64 y.2.1, .int .u64 (y.2.2.1 : Nat), .int .i64 y.2.2.2], .bool true]) ?_ rfl ?_
    · simp [results, Tryz.results73, go_sem, k0, k1, k2, k3]
    · exact ⟨rfl, bl_rowL (bl1 w _) (Nat.le_refl _) _⟩
/-- All of the order, in new memory. -/
theorem lineList_any (w : World) (q o : Nat) (ao : Option Addr) (n cap : Nat) (ls : List Lb) (hq : w.cell? ⟨q, o, none⟩ = some (.slice ao n cap)) (h : LR w ao n ls) (hn : n ≤ 5000) (hz : ao = none → n = 0) :
    Calls Tryz.prog 78 #[.pointer (some ⟨q, o, none⟩)] w fun e w' => ∃ v, e = .returned v ∧ w'.ownsRow w.heap.size 39 4 v n (flat ls) ∧ Below w.heap.size w w' := by
  have hcl := Q.clone_any w ao n cap ls h hn hz
  clear h
  go_enter Tryz.func78, Tryz.ntmps78
  go_wp2_with fail
  refine hcl.mono ?_
  rintro e w1 ⟨v, rfl, hv, hb⟩
  clear hcl
  go_wp2
  go_ret
  exact ⟨_, rfl, hv, hb⟩
end Go.Proofs.YtlaihgdfedalmaaGreat
