/-
  A view's message that is neither an entry nor a summary: Decode.
-/
import Derived.Test.YtpdgoalbknopiaaEDec1
import Derived.Test.YtpdgoalbknopiaaEMath4
namespace Go.Proofs.Ytpdgoalbknopiaa
open Go.RowKit
set_option linter.unusedVariables false
set_option linter.unusedSimpArgs false

set_option maxRecDepth 10000 in
set_option maxHeartbeats 1000000 in
theorem decode_none (w : World) (ao : Option Addr) (n cap : Nat) (xs : List UInt8) (h : Cd.Row w ao n cap xs) (hn : n ≤ 140737488355328) (st : Option (List UInt8)) (hk : Cd.rInt (some xs) 2 = (0, st)) :
    Calls Try.prog 11 #[.slice ao n cap] w fun e w' => e = .returned (.tuple #[.int .u8 0, .agg Ze, .agg Zs, .int .i64 3]) ∧ Below w.heap.size w w' := by
  have hb0 : Below w.heap.size w ((w.alloc (.cells Ze 29)).alloc (.cells Zs 38)) := bl2 _ _ _
  have hnew := Cd.newReader_any _ ao n cap xs (h.below hb0 (Nat.le_refl _)) hn
  have hint : ∀ W r, Cd.Rd W r (some xs) → _ := fun W r hW => Cd.int_rd W r (some xs) hW 2 (by omega) (by omega)
  rw [hk] at hint
  simp only at hint
  have hDn : ∀ w1 w2 r, (w.heap.size + 2) ≤ r → Cd.Rd w1 r (some xs) → Below ((w.alloc (.cells Ze 29)).alloc (.cells Zs 38)).heap.size ((w.alloc (.cells Ze 29)).alloc (.cells Zs 38)) w1 → Cd.Rd w2 r st → w1.grownBy w2 (some r) → Dn w ((w2.alloc (.cells Ze 29)).alloc (.cells Zs 38)) r w2.heap.size Ze Zs st := by
    intro w1 w2 r hr hr1 hb1 hr2 hg
    have hrl := hr1.lt
    have hsz := hg.size
    have hs1 := hb1.size
    have e1 : ((w.alloc (.cells Ze 29)).alloc (.cells Zs 38)).heap.size = w.heap.size + 2 := by simp
    rw [e1] at hs1
    have k1 : ((w.alloc (.cells Ze 29)).alloc (.cells Zs 38)).heap[w.heap.size]? = some (.cells Ze 29 (0, 0)) := (Below.heap_alloc _ _ _ (by simp)).trans (heap_alloc_new _ _)
    have k2 : ((w.alloc (.cells Ze 29)).alloc (.cells Zs 38)).heap[w.heap.size + 1]? = some (.cells Zs 38 (0, 0)) := by
      have := heap_alloc_new (w.alloc (.cells Ze 29)) (.cells Zs 38)
      simpa using this
    have key : ∀ k o, k < w.heap.size + 2 → ((w.alloc (.cells Ze 29)).alloc (.cells Zs 38)).heap[k]? = some o → ((w2.alloc (.cells Ze 29)).alloc (.cells Zs 38)).heap[k]? = some o := fun k o hlt hk =>
      (Below.heap_alloc _ _ _ (by simp; omega)).trans ((Below.heap_alloc _ _ _ (by omega)).trans ((hg.block k (by omega) (by simp; omega)).trans ((hb1.block k (by rw [e1]; exact hlt)).trans hk)))
    have e8 : ((w2.alloc (.cells Ze 29)).alloc (.cells Zs 38)).heap[w2.heap.size]? = some (.cells Ze 29 (0, 0)) := (Below.heap_alloc _ _ _ (by simp)).trans (heap_alloc_new _ _)
    have e9 : ((w2.alloc (.cells Ze 29)).alloc (.cells Zs 38)).heap[w2.heap.size + 1]? = some (.cells Zs 38 (0, 0)) := by
      have := heap_alloc_new (w2.alloc (.cells Ze 29)) (.cells Zs 38)
      simpa using this
    have bl1' : Below w.heap.size w w1 := hb0.trans (hb1.mono (by rw [e1]; omega))
    have bl2' : Below w.heap.size w w2 := bl_grown bl1' bl1'.size hg (fun k hk => by cases hk; omega)
    exact { rd := rd_alloc (rd_alloc hr2 _) _, a1 := key _ _ (by omega) k1, a2 := key _ _ (by omega) k2, e8 := e8, e9 := e9, bl := bl2'.trans ((bl2 w2 _ _).mono bl2'.size), rl := by omega, rb := by omega }
  have hsz0 : ((w.alloc (.cells Ze 29)).alloc (.cells Zs 38)).heap.size = w.heap.size + 2 := by simp
  unfold Ze Zs at hnew hDn hsz0
  go_enter Try.func11, Try.ntmps11
  go_wp2_with fail
  refine hnew.mono ?_
  rintro e w1 ⟨r, rfl, hrb, hr1, hb1⟩
  rw [hsz0] at hrb
  clear hnew hsz0 h hb0
  go_wp2_with fail
  refine (hint w1 r hr1).mono ?_
  rintro e w2 ⟨rfl, hr2, hg2⟩
  have G := hDn w1 w2 r hrb hr1 hb1 hr2 hg2
  have hxl := hr1.lt
  clear hint hDn hr1 hb1 hr2 hg2
  have G5 := G
  clear G
  have q1 := G5.a1
  have q2 := G5.a2
  have q2' : (((w2.alloc (.cells #[.int .u64 0, .int .i64 0, .int .u64 0, .int .i64 0, .slice none 0 0] 29)).alloc (.cells #[.slice none 0 0, .slice none 0 0, .int .i64 0, .int .u64 0, .int .i64 0] 38)).setRow w.heap.size #[.int .u64 0, .int .i64 0, .int .u64 0, .int .i64 0, .slice none 0 0]).heap[w.heap.size + 1]? = some (.cells Zs 38 (0, 0)) := (setRow_other _ _ _ _ (by omega)).trans q2
  have q1' := setRow_heap _ _ _ #[.int .u64 0, .int .i64 0, .int .u64 0, .int .i64 0, .slice none 0 0] _ _ q1
  have f1 : ((((w2.alloc (.cells #[.int .u64 0, .int .i64 0, .int .u64 0, .int .i64 0, .slice none 0 0] 29)).alloc (.cells #[.slice none 0 0, .slice none 0 0, .int .i64 0, .int .u64 0, .int .i64 0] 38)).setRow w.heap.size #[.int .u64 0, .int .i64 0, .int .u64 0, .int .i64 0, .slice none 0 0]).setRow (w.heap.size + 1) #[.slice none 0 0, .slice none 0 0, .int .i64 0, .int .u64 0, .int .i64 0]).heap[w.heap.size]? = some (.cells #[.int .u64 0, .int .i64 0, .int .u64 0, .int .i64 0, .slice none 0 0] 29 (0, 0)) := (setRow_other _ _ _ _ (by omega)).trans q1'
  have f2 := setRow_heap _ _ _ #[.slice none 0 0, .slice none 0 0, .int .i64 0, .int .u64 0, .int .i64 0] _ _ q2'
  have HE : Hid (Below w.heap.size w ((((w2.alloc (.cells #[.int .u64 0, .int .i64 0, .int .u64 0, .int .i64 0, .slice none 0 0] 29)).alloc (.cells #[.slice none 0 0, .slice none 0 0, .int .i64 0, .int .u64 0, .int .i64 0] 38)).setRow w.heap.size #[.int .u64 0, .int .i64 0, .int .u64 0, .int .i64 0, .slice none 0 0]).setRow (w.heap.size + 1) #[.slice none 0 0, .slice none 0 0, .int .i64 0, .int .u64 0, .int .i64 0])) := bl_row (bl_row G5.bl (Nat.le_refl _) _) (by omega) _
  have kA := fun j => cell_of_row _ w.heap.size j _ 29 (0, 0) f1
  have kB := fun j => cell_of_row _ (w.heap.size + 1) j _ 38 (0, 0) f2
  have a0 := kA 0
  have a1 := kA 1
  have a2 := kA 2
  have a3 := kA 3
  have a4 := kA 4
  have b0 := kB 0
  have b1 := kB 1
  have b2 := kB 2
  have b3 := kB 3
  have b4 := kB 4
  simp at a0 a1 a2 a3 a4 b0 b1 b2 b3 b4
  clear kA kB f1 f2 G5 q1'
  go_wp2_with (first | (refine wpList_store_row rfl 29 (.tmp 3) (.tmp 40) rfl w.heap.size #[.int .u64 0, .int .i64 0, .int .u64 0, .int .i64 0, .slice none 0 0] rfl rfl 29 _ q1 infoS29 rfl (by simp [Value.oneCell']) ?_) | (refine wpList_store_row rfl 38 (.tmp 4) (.tmp 41) rfl (w.heap.size + 1) #[.slice none 0 0, .slice none 0 0, .int .i64 0, .int .u64 0, .int .i64 0] rfl rfl 38 _ q2' infoS38 rfl (by simp [Value.oneCell']) ?_))
  refine bodyPost_ret (v := .tuple #[.int .u8 0, .agg Ze, .agg Zs, .int .i64 3]) ?_ rfl ?_
  · simp [results, Try.results11, go_sem, a0, a1, a2, a3, a4, b0, b1, b2, b3, b4, Ze, Zs]
  · exact ⟨rfl, HE.out⟩
end Go.Proofs.Ytpdgoalbknopiaa
