/-
  The document's Decode of what is no summary.
-/
import Derived.Test.YtpdgoalbknopiaaEUnone
import Derived.Test.YtpdgoalbknopiaaEOne
namespace Go.Proofs.Ytpdgoalbknopiaa
open Go.RowKit
set_option linter.unusedVariables false
set_option linter.unusedSimpArgs false

theorem fin2 (W : World) (R : Nat) (c1 c2 : Array Value) (h1 : W.heap[R]? = some (.cells c1 29 (0, 0))) (h2 : W.heap[R + 1]? = some (.cells c2 38 (0, 0))) (n1 n2 : Array Value) :
    (W.setRow R n1).heap[R + 1]? = some (.cells c2 38 (0, 0)) ∧ (∀ j, ((W.setRow R n1).setRow (R + 1) n2).cell? ⟨R, j, none⟩ = n1[j]?) ∧ (∀ j, ((W.setRow R n1).setRow (R + 1) n2).cell? ⟨R + 1, j, none⟩ = n2[j]?) ∧
    ∀ k j, k ≠ R → k ≠ R + 1 → (W.setRow R n1).cell? ⟨k, j, none⟩ = W.cell? ⟨k, j, none⟩ ∧ ((W.setRow R n1).setRow (R + 1) n2).cell? ⟨k, j, none⟩ = W.cell? ⟨k, j, none⟩ := by
  have p2 : (W.setRow R n1).heap[R + 1]? = some (.cells c2 38 (0, 0)) := (setRow_other _ _ _ _ (by omega)).trans h2
  have p1 := setRow_heap _ _ _ n1 _ _ h1
  have f1 : ((W.setRow R n1).setRow (R + 1) n2).heap[R]? = some (.cells n1 29 (0, 0)) := (setRow_other _ _ _ _ (by omega)).trans p1
  have f2 := setRow_heap _ _ _ n2 _ _ p2
  refine ⟨p2, fun j => cell_of_row _ R j _ 29 (0, 0) f1, fun j => cell_of_row _ (R + 1) j _ 38 (0, 0) f2, fun k j hk hk' => ?_⟩
  have e1 := cell_setRow_other W R n1 ⟨k, j, none⟩ hk
  exact ⟨e1, (cell_setRow_other _ (R + 1) n2 ⟨k, j, none⟩ hk').trans e1⟩
/-- Five cells of a block. -/
def S5 (R b : Nat) (v0 v1 v2 v3 v4 : Value) (w : World) : Prop := w.cell? ⟨b, 0, none⟩ = some v0 ∧ w.cell? ⟨b, 1, none⟩ = some v1 ∧ w.cell? ⟨b, 2, none⟩ = some v2 ∧ w.cell? ⟨b, 3, none⟩ = some v3 ∧ w.cell? ⟨b, 4, none⟩ = some v4 ∧ b ≠ R ∧ b ≠ R + 1
theorem S5.by {R b : Nat} {v0 v1 v2 v3 v4 : Value} {w w' : World} (h : S5 R b v0 v1 v2 v3 v4 w) (k : ∀ k j, k ≠ R → k ≠ R + 1 → w'.cell? ⟨k, j, none⟩ = w.cell? ⟨k, j, none⟩) : S5 R b v0 v1 v2 v3 v4 w' :=
  have e := fun j => k b j h.2.2.2.2.2.1 h.2.2.2.2.2.2
  ⟨(e 0).trans h.1, (e 1).trans h.2.1, (e 2).trans h.2.2.1, (e 3).trans h.2.2.2.1, (e 4).trans h.2.2.2.2.1, h.2.2.2.2.2⟩
theorem S5.of {R b : Nat} {v0 v1 v2 v3 v4 : Value} {t : TypeId} {w : World} (h : w.heap[b]? = some (.cells #[v0, v1, v2, v3, v4] t (0, 0))) (h1 : b ≠ R) (h2 : b ≠ R + 1) : S5 R b v0 v1 v2 v3 v4 w :=
  ⟨(cell_of_row w b 0 _ t (0, 0) h).trans rfl, (cell_of_row w b 1 _ t (0, 0) h).trans rfl, (cell_of_row w b 2 _ t (0, 0) h).trans rfl, (cell_of_row w b 3 _ t (0, 0) h).trans rfl, (cell_of_row w b 4 _ t (0, 0) h).trans rfl, h1, h2⟩
def S10 (R b : Nat) (v0 v1 v2 v3 v4 : Value) (c : Nat) (u0 u1 u2 u3 u4 : Value) (w : World) : Prop :=
  w.cell? ⟨b, 0, none⟩ = some v0 ∧ w.cell? ⟨b, 1, none⟩ = some v1 ∧ w.cell? ⟨b, 2, none⟩ = some v2 ∧ w.cell? ⟨b, 3, none⟩ = some v3 ∧ w.cell? ⟨b, 4, none⟩ = some v4 ∧
  w.cell? ⟨c, 0, none⟩ = some u0 ∧ w.cell? ⟨c, 1, none⟩ = some u1 ∧ w.cell? ⟨c, 2, none⟩ = some u2 ∧ w.cell? ⟨c, 3, none⟩ = some u3 ∧ w.cell? ⟨c, 4, none⟩ = some u4 ∧ b ≠ R ∧ b ≠ R + 1 ∧ c ≠ R ∧ c ≠ R + 1
theorem S10.mk5 {R b c : Nat} {v0 v1 v2 v3 v4 u0 u1 u2 u3 u4 : Value} {w : World} (h : S5 R b v0 v1 v2 v3 v4 w) (g : S5 R c u0 u1 u2 u3 u4 w) : S10 R b v0 v1 v2 v3 v4 c u0 u1 u2 u3 u4 w :=
  ⟨h.1, h.2.1, h.2.2.1, h.2.2.2.1, h.2.2.2.2.1, g.1, g.2.1, g.2.2.1, g.2.2.2.1, g.2.2.2.2.1, h.2.2.2.2.2.1, h.2.2.2.2.2.2, g.2.2.2.2.2.1, g.2.2.2.2.2.2⟩
theorem S10.by {R b c : Nat} {v0 v1 v2 v3 v4 u0 u1 u2 u3 u4 : Value} {w w' : World} (h : S10 R b v0 v1 v2 v3 v4 c u0 u1 u2 u3 u4 w) (k : ∀ k j, k ≠ R → k ≠ R + 1 → w'.cell? ⟨k, j, none⟩ = w.cell? ⟨k, j, none⟩) : S10 R b v0 v1 v2 v3 v4 c u0 u1 u2 u3 u4 w' := by
  obtain ⟨h0, h1, h2, h3, h4, g0, g1, g2, g3, g4, n1, n2, n3, n4⟩ := h
  have e := fun j => k b j n1 n2
  have f := fun j => k c j n3 n4
  exact ⟨(e 0).trans h0, (e 1).trans h1, (e 2).trans h2, (e 3).trans h3, (e 4).trans h4, (f 0).trans g0, (f 1).trans g1, (f 2).trans g2, (f 3).trans g3, (f 4).trans g4, n1, n2, n3, n4⟩
/-- What Decode begins with: its answer's two places, and an entry of zero values. -/
structure Bg (w W : World) : Prop where
  bl : Below w.heap.size w W
  r1 : W.heap[w.heap.size]? = some (.cells Ze 29 (0, 0))
  r2 : W.heap[w.heap.size + 1]? = some (.cells Zs 38 (0, 0))
  nn : W.heap[w.heap.size + 2]? = some (.cells Ze 29 (0, 0))
theorem bg_new (w : World) : Bg w (((w.alloc (.cells Ze 29)).alloc (.cells Zs 38)).alloc (.cells Ze 29)) ∧ (((w.alloc (.cells Ze 29)).alloc (.cells Zs 38)).alloc (.cells Ze 29)).heap.size = w.heap.size + 3 := by
  have z1 : (w.alloc (.cells Ze 29)).heap.size = w.heap.size + 1 := by simp
  have z2 : ((w.alloc (.cells Ze 29)).alloc (.cells Zs 38)).heap.size = w.heap.size + 2 := by simp
  have k1 : (w.alloc (.cells Ze 29)).heap[w.heap.size]? = some (.cells Ze 29 (0, 0)) := heap_alloc_new _ _
  have k2 : ((w.alloc (.cells Ze 29)).alloc (.cells Zs 38)).heap[w.heap.size + 1]? = some (.cells Zs 38 (0, 0)) := by have := heap_alloc_new (w.alloc (.cells Ze 29)) (.cells Zs 38); rw [z1] at this; exact this
  have k3 : (((w.alloc (.cells Ze 29)).alloc (.cells Zs 38)).alloc (.cells Ze 29)).heap[w.heap.size + 2]? = some (.cells Ze 29 (0, 0)) := by have := heap_alloc_new ((w.alloc (.cells Ze 29)).alloc (.cells Zs 38)) (.cells Ze 29); rw [z2] at this; exact this
  exact ⟨⟨bl_step (bl_step (bl1 _ _) (bl1 _ _)) (bl1 _ _), (Below.heap_alloc _ _ _ (by rw [z2]; omega)).trans ((Below.heap_alloc _ _ _ (by rw [z1]; omega)).trans k1), (Below.heap_alloc _ _ _ (by rw [z2]; omega)).trans k2, k3⟩, by simp⟩
theorem Bg.step {w W W' : World} {r : Nat} (h : Bg w W) (g : W.grownBy W' (some r)) (hr : w.heap.size + 2 < r) : Bg w W' :=
  have key : ∀ k o, W.heap[k]? = some o → k ≤ w.heap.size + 2 → W'.heap[k]? = some o := fun k o hk hl => (g.block k (Array.getElem?_eq_some_iff.1 hk).1 (by simp; omega)).trans hk
  ⟨bl_grown h.bl h.bl.size g (fun k hk => by cases hk; omega), key _ _ h.r1 (by omega), key _ _ h.r2 (by omega), key _ _ h.nn (by omega)⟩
theorem Bg.below {w W W' : World} (h : Bg w W) (u : Below W.heap.size W W') : Bg w W' :=
  have key : ∀ k o, W.heap[k]? = some o → W'.heap[k]? = some o := fun k o hk => (u.block k (Array.getElem?_eq_some_iff.1 hk).1).trans hk
  ⟨bl_step h.bl u, key _ _ h.r1, key _ _ h.r2, key _ _ h.nn⟩
set_option maxRecDepth 10000 in
set_option maxHeartbeats 2000000 in
theorem refDec_nil (w : World) (ao : Option Addr) (cap : Nat) : Calls Try.prog 18 #[.slice ao 0 cap] w fun e w' => e = .returned (.tuple #[.int .u8 0, .agg #[.int .u64 0, .int .i64 0, .int .u64 0, .int .i64 0, .slice none 0 0], .agg #[.slice none 0 0, .slice none 0 0, .int .i64 0, .int .u64 0, .int .i64 0]]) ∧ Below w.heap.size w w' := by
  obtain ⟨G0, z3⟩ := bg_new w
  unfold Ze Zs at G0 z3
  have BW : Below w.heap.size w (((w.alloc (.cells #[.int .u64 0, .int .i64 0, .int .u64 0, .int .i64 0, .slice none 0 0] 29)).alloc (.cells #[.slice none 0 0, .slice none 0 0, .int .i64 0, .int .u64 0, .int .i64 0] 38)).alloc (.cells #[.int .u64 0, .int .i64 0, .int .u64 0, .int .i64 0, .slice none 0 0] 29)).drew := G0.bl.drew
  have q1 : (((w.alloc (.cells #[.int .u64 0, .int .i64 0, .int .u64 0, .int .i64 0, .slice none 0 0] 29)).alloc (.cells #[.slice none 0 0, .slice none 0 0, .int .i64 0, .int .u64 0, .int .i64 0] 38)).alloc (.cells #[.int .u64 0, .int .i64 0, .int .u64 0, .int .i64 0, .slice none 0 0] 29)).drew.heap[w.heap.size]? = _ := G0.r1
  have q2 : (((w.alloc (.cells #[.int .u64 0, .int .i64 0, .int .u64 0, .int .i64 0, .slice none 0 0] 29)).alloc (.cells #[.slice none 0 0, .slice none 0 0, .int .i64 0, .int .u64 0, .int .i64 0] 38)).alloc (.cells #[.int .u64 0, .int .i64 0, .int .u64 0, .int .i64 0, .slice none 0 0] 29)).drew.heap[w.heap.size + 1]? = _ := G0.r2
  have hsn : (S5 w.heap.size (w.heap.size + 2) (.int .u64 0) (.int .i64 0) (.int .u64 0) (.int .i64 0) (.slice none 0 0)) (((w.alloc (.cells #[.int .u64 0, .int .i64 0, .int .u64 0, .int .i64 0, .slice none 0 0] 29)).alloc (.cells #[.slice none 0 0, .slice none 0 0, .int .i64 0, .int .u64 0, .int .i64 0] 38)).alloc (.cells #[.int .u64 0, .int .i64 0, .int .u64 0, .int .i64 0, .slice none 0 0] 29)).drew := S5.of G0.nn (by omega) (by omega)
  clear G0 z3
  go_enter Try.func18, Try.ntmps18
  obtain ⟨p2', pA, pB, pO⟩ := fin2 (((w.alloc (.cells #[.int .u64 0, .int .i64 0, .int .u64 0, .int .i64 0, .slice none 0 0] 29)).alloc (.cells #[.slice none 0 0, .slice none 0 0, .int .i64 0, .int .u64 0, .int .i64 0] 38)).alloc (.cells #[.int .u64 0, .int .i64 0, .int .u64 0, .int .i64 0, .slice none 0 0] 29)).drew w.heap.size _ _ q1 q2 #[.int .u64 0, .int .i64 0, .int .u64 0, .int .i64 0, .slice none 0 0] #[.slice none 0 0, .slice none 0 0, .int .i64 0, .int .u64 0, .int .i64 0]
  have a0 := pA 0
  have a1 := pA 1
  have a2 := pA 2
  have a3 := pA 3
  have a4 := pA 4
  have b0 := pB 0
  have b1 := pB 1
  have b2 := pB 2
  have b3 := pB 3
  have b4 := pB 4
  simp only [List.getElem?_toArray, List.getElem?_cons_zero, List.getElem?_cons_succ] at a0 a1 a2 a3 a4 b0 b1 b2 b3 b4
  have HEND : Hid (Below w.heap.size w (((((w.alloc (.cells #[.int .u64 0, .int .i64 0, .int .u64 0, .int .i64 0, .slice none 0 0] 29)).alloc (.cells #[.slice none 0 0, .slice none 0 0, .int .i64 0, .int .u64 0, .int .i64 0] 38)).alloc (.cells #[.int .u64 0, .int .i64 0, .int .u64 0, .int .i64 0, .slice none 0 0] 29)).drew.setRow w.heap.size #[.int .u64 0, .int .i64 0, .int .u64 0, .int .i64 0, .slice none 0 0]).setRow (w.heap.size + 1) #[.slice none 0 0, .slice none 0 0, .int .i64 0, .int .u64 0, .int .i64 0])) := bl_row (bl_row BW (Nat.le_refl _) _) (by omega) _
  have HS0 : Hid ((S5 w.heap.size (w.heap.size + 2) (.int .u64 0) (.int .i64 0) (.int .u64 0) (.int .i64 0) (.slice none 0 0)) (((w.alloc (.cells #[.int .u64 0, .int .i64 0, .int .u64 0, .int .i64 0, .slice none 0 0] 29)).alloc (.cells #[.slice none 0 0, .slice none 0 0, .int .i64 0, .int .u64 0, .int .i64 0] 38)).alloc (.cells #[.int .u64 0, .int .i64 0, .int .u64 0, .int .i64 0, .slice none 0 0] 29)).drew) := hsn
  have HS1 : Hid ((S5 w.heap.size (w.heap.size + 2) (.int .u64 0) (.int .i64 0) (.int .u64 0) (.int .i64 0) (.slice none 0 0)) ((((w.alloc (.cells #[.int .u64 0, .int .i64 0, .int .u64 0, .int .i64 0, .slice none 0 0] 29)).alloc (.cells #[.slice none 0 0, .slice none 0 0, .int .i64 0, .int .u64 0, .int .i64 0] 38)).alloc (.cells #[.int .u64 0, .int .i64 0, .int .u64 0, .int .i64 0, .slice none 0 0] 29)).drew.setRow w.heap.size #[.int .u64 0, .int .i64 0, .int .u64 0, .int .i64 0, .slice none 0 0])) := HS0.out.by (fun k j h1 h2 => (pO k j h1 h2).1)
  have HS2 : Hid ((S5 w.heap.size (w.heap.size + 2) (.int .u64 0) (.int .i64 0) (.int .u64 0) (.int .i64 0) (.slice none 0 0)) (((((w.alloc (.cells #[.int .u64 0, .int .i64 0, .int .u64 0, .int .i64 0, .slice none 0 0] 29)).alloc (.cells #[.slice none 0 0, .slice none 0 0, .int .i64 0, .int .u64 0, .int .i64 0] 38)).alloc (.cells #[.int .u64 0, .int .i64 0, .int .u64 0, .int .i64 0, .slice none 0 0] 29)).drew.setRow w.heap.size #[.int .u64 0, .int .i64 0, .int .u64 0, .int .i64 0, .slice none 0 0]).setRow (w.heap.size + 1) #[.slice none 0 0, .slice none 0 0, .int .i64 0, .int .u64 0, .int .i64 0])) := HS0.out.by (fun k j h1 h2 => (pO k j h1 h2).2)
  clear pA pB pO BW
  go_wp2_with fail
  refine wp_region_noPanic ?_
  refine wp_region_held_drew (S := (S5 w.heap.size (w.heap.size + 2) (.int .u64 0) (.int .i64 0) (.int .u64 0) (.int .i64 0) (.slice none 0 0))) (by kernel_rfl) HS0.out (fun hHeld => ?_)
  unfold S5 at hHeld
  refine tq 0 ?_
  refine tq 1 ?_
  refine tq 2 ?_
  refine comes_up 3 rfl (by kernel_rfl) (fun K hK => ?_)
  refine step_store_row rfl 29 (.tmp 3) (.tmp 17) rfl w.heap.size #[.int .u64 0, .int .i64 0, .int .u64 0, .int .i64 0, .slice none 0 0] rfl rfl 29 _ q1 infoS29 rfl (by simp [Value.oneCell']) ?_
  refine hK.out _ _ HS1.out (fun hHeld => ?_)
  clear hK K
  (try simp only [Act.put])
  refine comes_up 4 rfl (by kernel_rfl) (fun K hK => ?_)
  refine step_store_row rfl 38 (.tmp 4) (.tmp 18) rfl (w.heap.size + 1) #[.slice none 0 0, .slice none 0 0, .int .i64 0, .int .u64 0, .int .i64 0] rfl rfl 38 _ p2' infoS38 rfl (by simp [Value.oneCell']) ?_
  refine hK.out _ _ HS2.out (fun hHeld => ?_)
  clear hK K
  (try simp only [Act.put])
  refine wpAnyH_done (by kernel_rfl) ?_ _
  refine NoPanic.normal ?_
  go_wp2
  refine bodyPost_ret (v := .tuple #[.int .u8 0, .agg #[.int .u64 0, .int .i64 0, .int .u64 0, .int .i64 0, .slice none 0 0], .agg #[.slice none 0 0, .slice none 0 0, .int .i64 0, .int .u64 0, .int .i64 0]]) ?_ rfl ?_
  · simp [results, Try.results18, go_sem, a0, a1, a2, a3, a4, b0, b1, b2, b3, b4]
  · exact ⟨rfl, HEND.out⟩
set_option maxRecDepth 10000 in
set_option maxHeartbeats 2000000 in
theorem refDec_no (w : World) (ao : Option Addr) (n cap : Nat) (x : UInt8) (t : List UInt8) (h : Cd.Row w ao n cap (x :: t)) (h1 : x.toNat ≠ 1) (h2 : x.toNat ≠ 2) : Calls Try.prog 18 #[.slice ao n cap] w fun e w' => e = .returned (.tuple #[.int .u8 0, .agg #[.int .u64 0, .int .i64 0, .int .u64 0, .int .i64 0, .slice none 0 0], .agg #[.slice none 0 0, .slice none 0 0, .int .i64 0, .int .u64 0, .int .i64 0]]) ∧ Below w.heap.size w w' := by
  obtain ⟨G0, z3⟩ := bg_new w
  unfold Ze Zs at G0 z3
  have hnl : n = t.length + 1 := by have := h.1; simpa using this.symm
  obtain ⟨b, off, rfl, hc⟩ := h.open (by omega)
  have c0 := hc 0 (by omega)
  simp only [Nat.add_zero, List.getD_cons_zero] at c0
  have hn0 : (0 : Int) < (n : Int) := by omega
  have hnz : ((n : Int) == 0) = false := by rw [beq_eq_false_iff_ne]; omega
  have hx1 : (((x.toNat : Nat) : Int) == 1) = false := by rw [beq_eq_false_iff_ne]; omega
  have hx2 : (((x.toNat : Nat) : Int) == 2) = false := by rw [beq_eq_false_iff_ne]; omega
  have u4 := bl2 (((w.alloc (.cells #[.int .u64 0, .int .i64 0, .int .u64 0, .int .i64 0, .slice none 0 0] 29)).alloc (.cells #[.slice none 0 0, .slice none 0 0, .int .i64 0, .int .u64 0, .int .i64 0] 38)).alloc (.cells #[.int .u64 0, .int .i64 0, .int .u64 0, .int .i64 0, .slice none 0 0] 29)) (.cells #[.slice (some ⟨b, off, none⟩) n cap, .int .i64 1] 72) (.cells #[.slice none 0 0, .slice none 0 0, .int .i64 0, .int .u64 0, .int .i64 0] 38)
  have G5 := G0.below u4
  have u04 := bl_step G0.bl (bl1 (((w.alloc (.cells #[.int .u64 0, .int .i64 0, .int .u64 0, .int .i64 0, .slice none 0 0] 29)).alloc (.cells #[.slice none 0 0, .slice none 0 0, .int .i64 0, .int .u64 0, .int .i64 0] 38)).alloc (.cells #[.int .u64 0, .int .i64 0, .int .u64 0, .int .i64 0, .slice none 0 0] 29)) (.cells #[.slice (some ⟨b, off, none⟩) n cap, .int .i64 1] 72))
  have d0 := bl_cell u04 c0
  have d1 := bl_cell G5.bl c0
  have q8 := heap_alloc_new ((((w.alloc (.cells #[.int .u64 0, .int .i64 0, .int .u64 0, .int .i64 0, .slice none 0 0] 29)).alloc (.cells #[.slice none 0 0, .slice none 0 0, .int .i64 0, .int .u64 0, .int .i64 0] 38)).alloc (.cells #[.int .u64 0, .int .i64 0, .int .u64 0, .int .i64 0, .slice none 0 0] 29)).alloc (.cells #[.slice (some ⟨b, off, none⟩) n cap, .int .i64 1] 72)) (.cells #[.slice none 0 0, .slice none 0 0, .int .i64 0, .int .u64 0, .int .i64 0] 38)
  rw [show ((((w.alloc (.cells #[.int .u64 0, .int .i64 0, .int .u64 0, .int .i64 0, .slice none 0 0] 29)).alloc (.cells #[.slice none 0 0, .slice none 0 0, .int .i64 0, .int .u64 0, .int .i64 0] 38)).alloc (.cells #[.int .u64 0, .int .i64 0, .int .u64 0, .int .i64 0, .slice none 0 0] 29)).alloc (.cells #[.slice (some ⟨b, off, none⟩) n cap, .int .i64 1] 72)).heap.size = w.heap.size + 4 by simp] at q8
  have hsn : S5 w.heap.size (w.heap.size + 2) (.int .u64 0) (.int .i64 0) (.int .u64 0) (.int .i64 0) (.slice none 0 0) _ := S5.of G5.nn (by omega) (by omega)
  have hsm : S5 w.heap.size (w.heap.size + 4) (.slice none 0 0) (.slice none 0 0) (.int .i64 0) (.int .u64 0) (.int .i64 0) _ := S5.of q8 (by omega) (by omega)
  have BW : Below w.heap.size w (((((w.alloc (.cells #[.int .u64 0, .int .i64 0, .int .u64 0, .int .i64 0, .slice none 0 0] 29)).alloc (.cells #[.slice none 0 0, .slice none 0 0, .int .i64 0, .int .u64 0, .int .i64 0] 38)).alloc (.cells #[.int .u64 0, .int .i64 0, .int .u64 0, .int .i64 0, .slice none 0 0] 29)).alloc (.cells #[.slice (some ⟨b, off, none⟩) n cap, .int .i64 1] 72)).alloc (.cells #[.slice none 0 0, .slice none 0 0, .int .i64 0, .int .u64 0, .int .i64 0] 38)).drew := G5.bl.drew
  have q1 : (((((w.alloc (.cells #[.int .u64 0, .int .i64 0, .int .u64 0, .int .i64 0, .slice none 0 0] 29)).alloc (.cells #[.slice none 0 0, .slice none 0 0, .int .i64 0, .int .u64 0, .int .i64 0] 38)).alloc (.cells #[.int .u64 0, .int .i64 0, .int .u64 0, .int .i64 0, .slice none 0 0] 29)).alloc (.cells #[.slice (some ⟨b, off, none⟩) n cap, .int .i64 1] 72)).alloc (.cells #[.slice none 0 0, .slice none 0 0, .int .i64 0, .int .u64 0, .int .i64 0] 38)).drew.heap[w.heap.size]? = _ := G5.r1
  have q2 : (((((w.alloc (.cells #[.int .u64 0, .int .i64 0, .int .u64 0, .int .i64 0, .slice none 0 0] 29)).alloc (.cells #[.slice none 0 0, .slice none 0 0, .int .i64 0, .int .u64 0, .int .i64 0] 38)).alloc (.cells #[.int .u64 0, .int .i64 0, .int .u64 0, .int .i64 0, .slice none 0 0] 29)).alloc (.cells #[.slice (some ⟨b, off, none⟩) n cap, .int .i64 1] 72)).alloc (.cells #[.slice none 0 0, .slice none 0 0, .int .i64 0, .int .u64 0, .int .i64 0] 38)).drew.heap[w.heap.size + 1]? = _ := G5.r2
  clear G0 z3 G5 q8 hc c0 h h1 h2 u4 u04 hnl
  go_enter Try.func18, Try.ntmps18
  obtain ⟨p2', pA, pB, pO⟩ := fin2 (((((w.alloc (.cells #[.int .u64 0, .int .i64 0, .int .u64 0, .int .i64 0, .slice none 0 0] 29)).alloc (.cells #[.slice none 0 0, .slice none 0 0, .int .i64 0, .int .u64 0, .int .i64 0] 38)).alloc (.cells #[.int .u64 0, .int .i64 0, .int .u64 0, .int .i64 0, .slice none 0 0] 29)).alloc (.cells #[.slice (some ⟨b, off, none⟩) n cap, .int .i64 1] 72)).alloc (.cells #[.slice none 0 0, .slice none 0 0, .int .i64 0, .int .u64 0, .int .i64 0] 38)).drew w.heap.size _ _ q1 q2 #[.int .u64 0, .int .i64 0, .int .u64 0, .int .i64 0, .slice none 0 0] #[.slice none 0 0, .slice none 0 0, .int .i64 0, .int .u64 0, .int .i64 0]
  have a0 := pA 0
  have a1 := pA 1
  have a2 := pA 2
  have a3 := pA 3
  have a4 := pA 4
  have b0 := pB 0
  have b1 := pB 1
  have b2 := pB 2
  have b3 := pB 3
  have b4 := pB 4
  simp only [List.getElem?_toArray, List.getElem?_cons_zero, List.getElem?_cons_succ] at a0 a1 a2 a3 a4 b0 b1 b2 b3 b4
  have HEND : Hid (Below w.heap.size w (((((((w.alloc (.cells #[.int .u64 0, .int .i64 0, .int .u64 0, .int .i64 0, .slice none 0 0] 29)).alloc (.cells #[.slice none 0 0, .slice none 0 0, .int .i64 0, .int .u64 0, .int .i64 0] 38)).alloc (.cells #[.int .u64 0, .int .i64 0, .int .u64 0, .int .i64 0, .slice none 0 0] 29)).alloc (.cells #[.slice (some ⟨b, off, none⟩) n cap, .int .i64 1] 72)).alloc (.cells #[.slice none 0 0, .slice none 0 0, .int .i64 0, .int .u64 0, .int .i64 0] 38)).drew.setRow w.heap.size #[.int .u64 0, .int .i64 0, .int .u64 0, .int .i64 0, .slice none 0 0]).setRow (w.heap.size + 1) #[.slice none 0 0, .slice none 0 0, .int .i64 0, .int .u64 0, .int .i64 0])) := bl_row (bl_row BW (Nat.le_refl _) _) (by omega) _
  have HS0 : Hid ((S10 w.heap.size (w.heap.size + 2) (.int .u64 0) (.int .i64 0) (.int .u64 0) (.int .i64 0) (.slice none 0 0) (w.heap.size + 4) (.slice none 0 0) (.slice none 0 0) (.int .i64 0) (.int .u64 0) (.int .i64 0)) (((((w.alloc (.cells #[.int .u64 0, .int .i64 0, .int .u64 0, .int .i64 0, .slice none 0 0] 29)).alloc (.cells #[.slice none 0 0, .slice none 0 0, .int .i64 0, .int .u64 0, .int .i64 0] 38)).alloc (.cells #[.int .u64 0, .int .i64 0, .int .u64 0, .int .i64 0, .slice none 0 0] 29)).alloc (.cells #[.slice (some ⟨b, off, none⟩) n cap, .int .i64 1] 72)).alloc (.cells #[.slice none 0 0, .slice none 0 0, .int .i64 0, .int .u64 0, .int .i64 0] 38)).drew) := S10.mk5 hsn hsm
  have HS1 : Hid ((S10 w.heap.size (w.heap.size + 2) (.int .u64 0) (.int .i64 0) (.int .u64 0) (.int .i64 0) (.slice none 0 0) (w.heap.size + 4) (.slice none 0 0) (.slice none 0 0) (.int .i64 0) (.int .u64 0) (.int .i64 0)) ((((((w.alloc (.cells #[.int .u64 0, .int .i64 0, .int .u64 0, .int .i64 0, .slice none 0 0] 29)).alloc (.cells #[.slice none 0 0, .slice none 0 0, .int .i64 0, .int .u64 0, .int .i64 0] 38)).alloc (.cells #[.int .u64 0, .int .i64 0, .int .u64 0, .int .i64 0, .slice none 0 0] 29)).alloc (.cells #[.slice (some ⟨b, off, none⟩) n cap, .int .i64 1] 72)).alloc (.cells #[.slice none 0 0, .slice none 0 0, .int .i64 0, .int .u64 0, .int .i64 0] 38)).drew.setRow w.heap.size #[.int .u64 0, .int .i64 0, .int .u64 0, .int .i64 0, .slice none 0 0])) := HS0.out.by (fun k j h1 h2 => (pO k j h1 h2).1)
  have HS2 : Hid ((S10 w.heap.size (w.heap.size + 2) (.int .u64 0) (.int .i64 0) (.int .u64 0) (.int .i64 0) (.slice none 0 0) (w.heap.size + 4) (.slice none 0 0) (.slice none 0 0) (.int .i64 0) (.int .u64 0) (.int .i64 0)) (((((((w.alloc (.cells #[.int .u64 0, .int .i64 0, .int .u64 0, .int .i64 0, .slice none 0 0] 29)).alloc (.cells #[.slice none 0 0, .slice none 0 0, .int .i64 0, .int .u64 0, .int .i64 0] 38)).alloc (.cells #[.int .u64 0, .int .i64 0, .int .u64 0, .int .i64 0, .slice none 0 0] 29)).alloc (.cells #[.slice (some ⟨b, off, none⟩) n cap, .int .i64 1] 72)).alloc (.cells #[.slice none 0 0, .slice none 0 0, .int .i64 0, .int .u64 0, .int .i64 0] 38)).drew.setRow w.heap.size #[.int .u64 0, .int .i64 0, .int .u64 0, .int .i64 0, .slice none 0 0]).setRow (w.heap.size + 1) #[.slice none 0 0, .slice none 0 0, .int .i64 0, .int .u64 0, .int .i64 0])) := HS0.out.by (fun k j h1 h2 => (pO k j h1 h2).2)
  clear pA pB pO BW
  go_wp2_with fail
  refine wp_region_noPanic ?_
  refine wp_region_held_drew (S := (S10 w.heap.size (w.heap.size + 2) (.int .u64 0) (.int .i64 0) (.int .u64 0) (.int .i64 0) (.slice none 0 0) (w.heap.size + 4) (.slice none 0 0) (.slice none 0 0) (.int .i64 0) (.int .u64 0) (.int .i64 0))) (by kernel_rfl) HS0.out (fun hHeld => ?_)
  unfold S10 at hHeld
  refine tq 0 ?_
  refine tq 1 ?_
  refine tq 2 ?_
  refine comes_up 3 rfl (by kernel_rfl) (fun K hK => ?_)
  refine step_store_row rfl 29 (.tmp 3) (.tmp 51) rfl w.heap.size #[.int .u64 0, .int .i64 0, .int .u64 0, .int .i64 0, .slice none 0 0] rfl rfl 29 _ q1 infoS29 rfl (by simp [Value.oneCell']) ?_
  refine hK.out _ _ HS1.out (fun hHeld => ?_)
  clear hK K
  (try simp only [Act.put])
  refine comes_up 4 rfl (by kernel_rfl) (fun K hK => ?_)
  refine step_store_row rfl 38 (.tmp 4) (.tmp 52) rfl (w.heap.size + 1) #[.slice none 0 0, .slice none 0 0, .int .i64 0, .int .u64 0, .int .i64 0] rfl rfl 38 _ p2' infoS38 rfl (by simp [Value.oneCell']) ?_
  refine hK.out _ _ HS2.out (fun hHeld => ?_)
  clear hK K
  (try simp only [Act.put])
  refine wpAnyH_done (by kernel_rfl) ?_ _
  refine NoPanic.normal ?_
  go_wp2
  refine bodyPost_ret (v := .tuple #[.int .u8 0, .agg #[.int .u64 0, .int .i64 0, .int .u64 0, .int .i64 0, .slice none 0 0], .agg #[.slice none 0 0, .slice none 0 0, .int .i64 0, .int .u64 0, .int .i64 0]]) ?_ rfl ?_
  · simp [results, Try.results18, go_sem, a0, a1, a2, a3, a4, b0, b1, b2, b3, b4]
  · exact ⟨rfl, HEND.out⟩
end Go.Proofs.Ytpdgoalbknopiaa
