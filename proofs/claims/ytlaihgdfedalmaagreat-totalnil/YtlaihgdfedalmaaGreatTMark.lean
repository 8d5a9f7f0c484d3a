/-
  Package total's mark: a label is safe.
-/
import Derived.Test.YtlaihgdfedalmaaGreatTStep
namespace Go.Proofs.YtlaihgdfedalmaaGreat
open Go.RowKit Go.Sort Go.Conc
set_option linter.unusedVariables false
set_option linter.unusedSimpArgs false

def Tot.mark (T : Tot) (x : Lb) : Tot := { T with safe := x :: T.safe, K := T.K + 1 }
def S5m (q B : Nat) (v19 b0 b1 b2 b3 : Value) (W : World) : Prop := W.cell? ⟨q, 19, none⟩ = some v19 ∧ W.cell? ⟨B, 0, none⟩ = some b0 ∧ W.cell? ⟨B, 1, none⟩ = some b1 ∧ W.cell? ⟨B, 2, none⟩ = some b2 ∧ W.cell? ⟨B, 3, none⟩ = some b3
set_option maxRecDepth 10000 in
set_option maxHeartbeats 1000000 in
theorem mark_any (w : World) (col : Nat → Nat) (Z : Nat → Prop) (q : Nat) (T : Tot) (a : Ta) (h : Tt w col Z q T a) (x : Lb) (hx : OkL x) (hK : T.K < 1000000) :
    Calls Tryz.prog 70 #[.pointer (some ⟨q, 0, none⟩), lab x] w fun e w' => e = .returned (.tuple #[]) ∧ LabPost w col Z q (T.mark x) w' := by
  have u : Below w.heap.size w (w.alloc (.cells #[.int .u64 (x.1 : Nat), .int .i64 x.2.1, .int .u64 (x.2.2.1 : Nat), .int .i64 x.2.2.2] 39)).drew := (bl1 _ _).drew
  have h1 := h.still u
  have hql : q < w.heap.size := h.d.lt q (by rw [h.fq]; omega)
  have hsl : a.sb < w.heap.size := h.d.lt a.sb (by rw [h.d.csb]; omega)
  have hqs : q ≠ a.sb := fun e => by have h1 := h.fq; have h2 := h.d.csb; rw [← e] at h2; omega
  obtain ⟨S, c1, c2⟩ := h1.d.sa
  obtain ⟨w2, hrun, hS2, g⟩ := c1.store (by unfold maxLen; omega) hx
  obtain ⟨h2, g2⟩ := h1.saf (K' := T.K + 1) (safe' := x :: T.safe) (Nat.le_succ _) (Nat.le_refl _) hS2 (fun y => by simp [c2 y]) g
  have HF : Hid (LabPost w col Z q (T.mark x) w2) := ⟨col, a, h2, (Gt.bl col u).trans g2⟩
  have cb := fun j v (e : (#[.int .u64 (x.1 : Nat), .int .i64 x.2.1, .int .u64 (x.2.2.1 : Nat), .int .i64 x.2.2.2] : Array Value)[j]? = some v) => cell_box w #[.int .u64 (x.1 : Nat), .int .i64 x.2.1, .int .u64 (x.2.2.1 : Nat), .int .i64 x.2.2.2] 39 j v e
  have hs1 : S5m q w.heap.size (.map (some a.sb)) (.int .u64 (x.1 : Nat)) (.int .i64 x.2.1) (.int .u64 (x.2.2.1 : Nat)) (.int .i64 x.2.2.2) (w.alloc (.cells #[.int .u64 (x.1 : Nat), .int .i64 x.2.1, .int .u64 (x.2.2.1 : Nat), .int .i64 x.2.2.2] 39)).drew :=
    ⟨h1.cell 19 (by omega), cb 0 _ rfl, cb 1 _ rfl, cb 2 _ rfl, cb 3 _ rfl⟩
  have hblk : ∀ k, k ≤ w.heap.size → k ≠ a.sb → w2.heap[k]? = (w.alloc (.cells #[.int .u64 (x.1 : Nat), .int .i64 x.2.1, .int .u64 (x.2.2.1 : Nat), .int .i64 x.2.2.2] 39)).drew.heap[k]? := fun k hk hne => g.block k (by show k < (w.alloc _).heap.size; simp; omega) (by simp; exact hne)
  have hs2 : S5m q w.heap.size (.map (some a.sb)) (.int .u64 (x.1 : Nat)) (.int .i64 x.2.1) (.int .u64 (x.2.2.1 : Nat)) (.int .i64 x.2.2.2) w2 :=
    ⟨(cell_block (hblk q (by omega) hqs)).trans hs1.1, (cell_block (hblk _ (Nat.le_refl _) (by omega))).trans hs1.2.1, (cell_block (hblk _ (Nat.le_refl _) (by omega))).trans hs1.2.2.1, (cell_block (hblk _ (Nat.le_refl _) (by omega))).trans hs1.2.2.2.1, (cell_block (hblk _ (Nat.le_refl _) (by omega))).trans hs1.2.2.2.2⟩
  unfold lab at hrun ⊢
  clear h h1 h2 g2 c1 c2 hS2 g hblk cb hx hK hqs hql hsl u
  go_enter Tryz.func70, Tryz.ntmps70
  go_wp2_with fail
  refine wp_region_noPanic ?_
  refine wp_region_held_drew (S := S5m q w.heap.size (.map (some a.sb)) (.int .u64 (x.1 : Nat)) (.int .i64 x.2.1) (.int .u64 (x.2.2.1 : Nat)) (.int .i64 x.2.2.2)) (by kernel_rfl) (hs1) (fun hHeld => ?_)
  unfold S5m at hHeld
  refine tq 0 ?_
  refine tq 1 ?_
  refine tq 2 ?_
  refine tq 3 ?_
  refine tq 4 ?_
  refine tq 5 ?_
  refine comes_up 6 rfl (by kernel_rfl) (fun K hK => ?_)
  go_simp
  refine hK.out _ _ (hs2) (fun hHeld => ?_)
  clear hK K
  (try simp only [Act.put, List.setIfInBounds_toArray, List.set_cons_zero, List.set_cons_succ])
  refine wpAnyH_done (by kernel_rfl) ?_ _
  refine NoPanic.normal ?_
  clear hHeld hs1 hs2 hrun
  go_wp2
  go_end0
  exact ⟨rfl, HF.out⟩
end Go.Proofs.YtlaihgdfedalmaaGreat
