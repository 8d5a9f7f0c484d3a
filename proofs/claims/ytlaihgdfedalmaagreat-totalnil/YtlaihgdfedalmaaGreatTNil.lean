/-
  Package total: a nil one has nothing.
-/
import Derived.Test.YtlaihgdfedalmaaGreatTAwake
import Derived.Test.YtlaihgdfedalmaaGreatMix3
namespace Go.Proofs.YtlaihgdfedalmaaGreat
open Go.RowKit Go.Sort Go.Conc
set_option linter.unusedVariables false
set_option linter.unusedSimpArgs false

theorem rd_nil (w : World) (f : Value) (ao : Option Addr) (n cap : Nat) : Calls Tryz.prog 57 #[.pointer none, f, .slice ao n cap] w (RdErr w 6) := by
  refine (read_nil w f ao n cap).mono ?_
  rintro e w' ⟨rfl, u⟩
  exact ⟨0, (0, 0, 0, 0), (none, 0, 0), (none, 0, 0), (none, 0, 0), 0, 0, 0, rfl, u⟩
set_option maxRecDepth 10000 in
theorem summary_nil (w : World) : Calls Tryz.prog 36 #[.pointer none] w fun e w' => e = .returned (.agg #[.slice none 0 0, .slice none 0 0, .int .i64 0, .int .u64 0, .int .i64 0]) ∧ Below w.heap.size w w' := by
  have hB := heap_alloc_new w (.cells #[.slice none 0 0, .slice none 0 0, .int .i64 0, .int .u64 0, .int .i64 0] 45)
  have u := bl_rowL (bl1 w (.cells #[.slice none 0 0, .slice none 0 0, .int .i64 0, .int .u64 0, .int .i64 0] 45)) (Nat.le_refl _) #[.slice none 0 0, .slice none 0 0, .int .i64 0, .int .u64 0, .int .i64 0]
  have hB2 := setRow_heap _ w.heap.size _ #[.slice none 0 0, .slice none 0 0, .int .i64 0, .int .u64 0, .int .i64 0] _ _ hB
  have k := fun j => cell_of_heap hB2 j
  have k0 := k 0
  have k1 := k 1
  have k2 := k 2
  have k3 := k 3
  have k4 := k 4
  simp only [List.getElem?_toArray, List.getElem?_cons_zero, List.getElem?_cons_succ] at k0 k1 k2 k3 k4
  clear k hB2
  go_enter Tryz.func36, Tryz.ntmps36
  go_wp2_with (refine wpList_store_row rfl 45 (.tmp 2) (.tmp 5) rfl w.heap.size #[.slice none 0 0, .slice none 0 0, .int .i64 0, .int .u64 0, .int .i64 0] rfl rfl 45 _ hB infoS38 rfl (by simp [Value.oneCell']) ?_)
  refine bodyPost_ret (v := .agg #[.slice none 0 0, .slice none 0 0, .int .i64 0, .int .u64 0, .int .i64 0]) ?_ rfl ⟨rfl, u⟩
  simp [results, Tryz.results36, go_sem, k0, k1, k2, k3, k4]
theorem alike_zero (w : World) : Calls Tryz.prog 39 #[.agg #[.slice none 0 0, .slice none 0 0, .int .i64 0, .int .u64 0, .int .i64 0], .agg #[.slice none 0 0, .slice none 0 0, .int .i64 0, .int .u64 0, .int .i64 0]] w fun e w' => e = .returned (.bool true) ∧ Below w.heap.size w w' := by
  have h := alike_any (fun _ => True) (fun _ => True) w none 0 0 [] ⟨rfl, by omega, fun h => by omega⟩ none 0 0 [] ⟨rfl, by omega, fun h => by omega⟩ 0 0 0 none 0 0 [] ⟨rfl, by omega, fun h => by omega⟩ none 0 0 [] ⟨rfl, by omega, fun h => by omega⟩ 0 0 0
  refine Calls.mono h ?_
  rintro e w' ⟨rfl, u⟩
  exact ⟨rfl, u.bl⟩
end Go.Proofs.YtlaihgdfedalmaaGreat
