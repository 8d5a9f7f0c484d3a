/-
  Entries out of bytes.
-/
import Derived.Test.YtlaihgdfedalmaaGreatEOne
import Derived.Test.YtlaihgdfedalmaaGreatMix1
namespace Go.Proofs.YtlaihgdfedalmaaGreat
open Go.RowKit
set_option linter.unusedVariables false

set_option maxRecDepth 10000 in
set_option maxHeartbeats 1000000 in
theorem readLabel_rd (w : World) (r : Nat) (st : Option (List UInt8)) (h : Cd.Rd w r st) :
    Calls Tryz.prog 155 #[.pointer (some ⟨r, 0, none⟩)] w fun e w' => e = .returned (lab (decL st).1) ∧ Cd.Rd w' r (decL st).2 ∧ w.grownBy w' (some r) := by
  have hrl := h.lt
  have h1 := rd_alloc h (.cells #[.int .u64 0, .int .i64 0, .int .u64 0, .int .i64 0] 39)
  have hd := decodeL_rd _ r st h1
  generalize decL st = D at *
  obtain ⟨⟨a, b, c, d⟩, st1⟩ := D
  unfold lab at *
  simp only at hd ⊢
  go_enter Tryz.func155, Tryz.ntmps155
  go_wp2_with fail
  refine hd.mono ?_
  rintro e w1 ⟨rfl, hr1, hg1⟩
  have hR : (w1.alloc (.cells #[.int .u64 (a : Nat), .int .i64 b, .int .u64 (c : Nat), .int .i64 d] 39)).heap[w.heap.size]? = some (.cells #[.int .u64 0, .int .i64 0, .int .u64 0, .int .i64 0] 39 (0, 0)) := by
    have e1 : w1.heap[w.heap.size]? = some (.cells #[.int .u64 0, .int .i64 0, .int .u64 0, .int .i64 0] 39 (0, 0)) := (hg1.block w.heap.size (by simp) (by simp; omega)).trans (heap_alloc_new _ _)
    exact (Below.heap_alloc w1 _ _ (Array.getElem?_eq_some_iff.1 e1).1).trans e1
  have hr2 := rd_alloc hr1 (.cells #[.int .u64 (a : Nat), .int .i64 b, .int .u64 (c : Nat), .int .i64 d] 39)
  have hg2 : w.grownBy (w1.alloc (.cells #[.int .u64 (a : Nat), .int .i64 b, .int .u64 (c : Nat), .int .i64 d] 39)) (some r) := Cd.grown_trans (grown_alloc hg1) (gr_of (bl1 _ _) _)
  have hrR := rd_setRow (new := #[.int .u64 (a : Nat), .int .i64 b, .int .u64 (c : Nat), .int .i64 d]) hr2 (by omega) hR (noByte_lab _ _ _ _)
  have hgR := gr_row hg2 (Nat.le_refl _) #[.int .u64 (a : Nat), .int .i64 b, .int .u64 (c : Nat), .int .i64 d]
  have hc : ∀ j v, #[Value.int .u64 (a : Nat), .int .i64 b, .int .u64 (c : Nat), .int .i64 d][j]? = some v → _ := fun j v hj => (cell_setRow_same _ _ j _ #[.int .u64 (a : Nat), .int .i64 b, .int .u64 (c : Nat), .int .i64 d] _ _ hR).trans hj
  have k0 := hc 0 _ rfl
  have k1 := hc 1 _ rfl
  have k2 := hc 2 _ rfl
  have k3 := hc 3 _ rfl
  have HE : Hid (Cd.Rd ((w1.alloc (.cells #[.int .u64 (a : Nat), .int .i64 b, .int .u64 (c : Nat), .int .i64 d] 39)).setRow w.heap.size #[.int .u64 (a : Nat), .int .i64 b, .int .u64 (c : Nat), .int .i64 d]) r st1 ∧ w.grownBy ((w1.alloc (.cells #[.int .u64 (a : Nat), .int .i64 b, .int .u64 (c : Nat), .int .i64 d] 39)).setRow w.heap.size #[.int .u64 (a : Nat), .int .i64 b, .int .u64 (c : Nat), .int .i64 d]) (some r)) := ⟨hrR, hgR⟩
  clear hd hrR hgR hc hr2 hg2 hg1 hr1
  go_wp2_with (first | (refine wpList_store_row rfl 39 (.tmp 2) (.tmp 10) rfl w.heap.size #[.int .u64 (a : Nat), .int .i64 b, .int .u64 (c : Nat), .int .i64 d] rfl rfl 39 _ hR infoS26 rfl (by simp [Value.oneCell']) ?_))
  refine bodyPost_ret (v := .agg #[.int .u64 (a : Nat), .int .i64 b, .int .u64 (c : Nat), .int .i64 d]) ?_ rfl ?_
  · simp [results, Tryz.results155, go_sem, k0, k1, k2, k3]
  · exact ⟨rfl, HE.out⟩
theorem decV_len (st : Option (List UInt8)) (ys : List UInt8) (h : (decV st).2 = some ys) : ∃ xs, st = some xs ∧ ys.length ≤ xs.length := by
  unfold decV at h
  split at h
  · cases h
  · rename_i zs hz
    simp at h
    subst h
    obtain ⟨us, h1, h2⟩ := Cd.rInt_len _ _ _ hz
    obtain ⟨xs, h3, h4⟩ := Cd.rUint_len _ _ h1
    exact ⟨xs, h3, by omega⟩
theorem decL_len (st : Option (List UInt8)) (ys : List UInt8) (h : (decL st).2 = some ys) : ∃ xs, st = some xs ∧ ys.length ≤ xs.length := by
  unfold decL at h
  split at h
  · rename_i zs hf hz
    simp at h
    subst h
    obtain ⟨us, h1, h2⟩ := Cd.rInt_len _ _ _ hz
    obtain ⟨xs, h3, h4⟩ := Cd.rUint_len _ _ h1
    obtain ⟨vs, h5, h6⟩ := decV_len _ _ h3
    exact ⟨vs, h5, by omega⟩
  · cases h
/-- The next entry of what is left, and what is left behind it. -/
def decE (st : Option (List UInt8)) : (Lb × List UInt8) × Option (List UInt8) := (((decL st).1, (Cd.rBytes (decL st).2 64).1), (Cd.rBytes (decL st).2 64).2)
theorem infoS29 : (Tryz.prog.info? 41).map (·.size) = some 5 := by kernel_rfl
theorem noByte_ent (n : Int) (p s q : Int) (a : Option Addr) (l c : Nat) : noByte #[.int .u64 n, .int .i64 p, .int .u64 s, .int .i64 q, .slice a l c] := by
  intro v hv k
  simp at hv
  rcases hv with rfl | rfl | rfl | rfl | rfl <;> simp
theorem own_gr {w w' : World} {B n : Nat} {v : Value} {xs : List Value} {r : Nat} (h : w.ownsRow B 5 1 v n xs) (g : w.grownBy w' (some r)) (hr : ∀ k, v.ownBlock = some k → k ≠ r) : w'.ownsRow B 5 1 v n xs := by
  refine h.kept (row := some r) g ?_
  cases hv : v.ownBlock with
  | none => exact Or.inl rfl
  | some k => exact Or.inr (by simpa using hr k hv)

set_option maxRecDepth 10000 in
set_option maxHeartbeats 1000000 in
theorem readEntry_rd (w : World) (r : Nat) (st : Option (List UInt8)) (h : Cd.Rd w r st) (hl : ∀ xs, st = some xs → xs.length ≤ 140737488355328) :
    Calls Tryz.prog 125 #[.pointer (some ⟨r, 0, none⟩)] w fun e w' => ∃ s, e = .returned (ent (decE st).1.1 s) ∧ w'.ownsRow w.heap.size 5 1 s (decE st).1.2.length ((decE st).1.2.map Cd.by8) ∧ Cd.Rd w' r (decE st).2 ∧ w.grownBy w' (some r) := by
  have hrl := h.lt
  have h1 := rd_alloc h (.cells #[.int .u64 0, .int .i64 0, .int .u64 0, .int .i64 0, .slice none 0 0] 41)
  have hd := readLabel_rd _ r st h1
  have hb0 : Below w.heap.size w (w.alloc (.cells #[.int .u64 0, .int .i64 0, .int .u64 0, .int .i64 0, .slice none 0 0] 41)) := bl1 _ _
  have hby : ∀ W, Cd.Rd W r (decL st).2 → _ := fun W hW => Cd.bytes_rd W r (decL st).2 hW 64 (by omega) (by omega) (fun xs hx => by
    obtain ⟨us, h1, h2⟩ := decL_len _ _ hx
    have := hl us h1
    omega)
  unfold decE
  generalize Cd.rBytes (decL st).2 64 = R at *
  generalize decL st = D at *
  obtain ⟨⟨a, b, c, d⟩, st1⟩ := D
  obtain ⟨ms, st2⟩ := R
  unfold lab at *
  unfold ent
  simp only at hd hby ⊢
  clear hl h
  go_enter Tryz.func125, Tryz.ntmps125
  go_wp2_with fail
  refine hd.mono ?_
  rintro e w1 ⟨rfl, hr1, hg1⟩
  have hR1 : w1.heap[w.heap.size]? = some (.cells #[.int .u64 0, .int .i64 0, .int .u64 0, .int .i64 0, .slice none 0 0] 41 (0, 0)) := (hg1.block w.heap.size (by simp) (by simp; omega)).trans (heap_alloc_new _ _)
  have hs1 : w.heap.size < w1.heap.size := (Array.getElem?_eq_some_iff.1 hR1).1
  have hbx := bx_new w1 a b c d 39
  have hR2 : (w1.alloc (.cells #[.int .u64 (a : Nat), .int .i64 b, .int .u64 (c : Nat), .int .i64 d] 39)).heap[w.heap.size]? = some (.cells #[.int .u64 0, .int .i64 0, .int .u64 0, .int .i64 0, .slice none 0 0] 41 (0, 0)) := (Below.heap_alloc w1 _ _ hs1).trans hR1
  have hr2 := rd_alloc hr1 (.cells #[.int .u64 (a : Nat), .int .i64 b, .int .u64 (c : Nat), .int .i64 d] 39)
  have hg2 : w.grownBy (w1.alloc (.cells #[.int .u64 (a : Nat), .int .i64 b, .int .u64 (c : Nat), .int .i64 d] 39)).drew (some r) := Cd.grown_trans (Cd.grown_trans (grown_alloc hg1) (gr_of (bl1 _ _) _)) (gr_of ((Below.refl _ _).drew) _)
  have hby2 := hby (w1.alloc (.cells #[.int .u64 (a : Nat), .int .i64 b, .int .u64 (c : Nat), .int .i64 d] 39)).drew (Cd.rd_below hr2 ((Below.refl _ _).drew))
  obtain ⟨W2, hW2⟩ : ∃ W, Hid (w1.alloc (.cells #[.int .u64 (a : Nat), .int .i64 b, .int .u64 (c : Nat), .int .i64 d] 39) = W) := ⟨_, rfl⟩
  obtain ⟨g0, hg0⟩ : ∃ g, Hid (w1.heap.size = g) := ⟨_, rfl⟩
  have hg0l : w.heap.size < g0 := by rw [← hg0.out]; exact hs1
  have hz2 : w.heap.size ≤ W2.heap.size := by rw [← hW2.out]; simp; omega
  clear hd hby h1 hr1 hg1 hR1 hb0 hr2
  go_wp2_with fail
  rw [hW2.out] at hbx hR2 hg2 hby2 ⊢
  rw [hg0.out] at hbx ⊢
  refine wp_region_noPanic ?_
  refine wp_region_held_drew (S := Bx g0 a b c d) (by kernel_rfl) hbx (fun hHeld => ?_)
  unfold Bx at hHeld
  refine tq 0 ?_
  refine tq 1 ?_
  refine comes_up 2 rfl (by kernel_rfl) (fun K hK => ?_)
  go_simp
  refine hby2.mono ?_
  rintro e w3 ⟨v3, rfl, ho3, hr3, hg3⟩
  have hR3 : w3.heap[w.heap.size]? = some (.cells #[.int .u64 0, .int .i64 0, .int .u64 0, .int .i64 0, .slice none 0 0] 41 (0, 0)) := (hg3.block w.heap.size (Array.getElem?_eq_some_iff.1 hR2).1 (by simp; omega)).trans hR2
  have hbx3 : Bx g0 a b c d w3 := by
    have hlt : g0 < W2.heap.size := World.block_lt_of_cell? W2 _ hbx.1
    have key : ∀ j v, W2.cell? ⟨g0, j, none⟩ = some v → w3.cell? ⟨g0, j, none⟩ = some v := fun j v hc => (World.cell?_of_block (a := ⟨g0, j, none⟩) (hg3.block g0 hlt (by simp; omega))).trans hc
    exact ⟨key _ _ hbx.1, key _ _ hbx.2.1, key _ _ hbx.2.2.1, key _ _ hbx.2.2.2⟩
  obtain ⟨ao, cap, rfl⟩ := row_shape ho3
  have hR4 := fun j => cell_setRow_same _ _ j _ #[.int .u64 (a : Nat), .int .i64 b, .int .u64 (c : Nat), .int .i64 d, .slice ao ms.length cap] _ _ hR3
  have hbx4 : Bx g0 a b c d (w3.setRow w.heap.size #[.int .u64 (a : Nat), .int .i64 b, .int .u64 (c : Nat), .int .i64 d, .slice ao ms.length cap]) := by
    have key : ∀ j v, w3.cell? ⟨g0, j, none⟩ = some v → (w3.setRow w.heap.size #[.int .u64 (a : Nat), .int .i64 b, .int .u64 (c : Nat), .int .i64 d, .slice ao ms.length cap]).cell? ⟨g0, j, none⟩ = some v := fun j v hc => (cell_setRow_other _ _ _ _ (by show g0 ≠ w.heap.size; omega)).trans hc
    exact ⟨key _ _ hbx3.1, key _ _ hbx3.2.1, key _ _ hbx3.2.2.1, key _ _ hbx3.2.2.2⟩
  have HE : Hid ((w3.setRow w.heap.size #[.int .u64 (a : Nat), .int .i64 b, .int .u64 (c : Nat), .int .i64 d, .slice ao ms.length cap]).ownsRow w.heap.size 5 1 (.slice ao ms.length cap) ms.length (ms.map Cd.by8) ∧ Cd.Rd (w3.setRow w.heap.size #[.int .u64 (a : Nat), .int .i64 b, .int .u64 (c : Nat), .int .i64 d, .slice ao ms.length cap]) r st2 ∧ w.grownBy (w3.setRow w.heap.size #[.int .u64 (a : Nat), .int .i64 b, .int .u64 (c : Nat), .int .i64 d, .slice ao ms.length cap]) (some r)) := by
    refine ⟨?_, rd_setRow hr3 (by omega) hR3 (noByte_ent _ _ _ _ _ _ _), gr_row (Cd.grown_trans hg2 hg3) (Nat.le_refl _) _⟩
    refine own_gr (r := w.heap.size) (Cd.owns_mono ho3 hz2) ⟨rfl, rfl, rfl, by simp, fun k hk hne => setRow_other _ _ _ _ (by simpa using hne)⟩ (fun k hk => ?_)
    have h1 := (ho3.lt k hk).1
    have h2 : w.heap.size < W2.heap.size := (Array.getElem?_eq_some_iff.1 hR2).1
    have h3 : W2.drew.heap.size = W2.heap.size := rfl
    omega
  clear hby2 ho3 hr3 hg3 hbx hR2 hg2 hz2
  go_wp2_with fail
  refine hK.out _ _ hbx3 (fun hHeld => ?_)
  clear hK K
  (try simp only [Act.put, List.setIfInBounds_toArray, List.set_cons_zero, List.set_cons_succ])
  refine tq 3 ?_
  refine comes_up 4 rfl (by kernel_rfl) (fun K hK => ?_)
  refine step_store_row rfl 41 (.tmp 2) (.tmp 9) rfl w.heap.size #[.int .u64 (a : Nat), .int .i64 b, .int .u64 (c : Nat), .int .i64 d, .slice ao ms.length cap] rfl rfl 41 _ hR3 infoS29 rfl (by simp [Value.oneCell']) ?_
  refine hK.out _ _ hbx4 (fun hHeld => ?_)
  clear hK K
  (try simp only [Act.put])
  refine wpAnyH_done (by kernel_rfl) ?_ _
  refine NoPanic.normal ?_
  have k0 := hR4 0
  have k1 := hR4 1
  have k2 := hR4 2
  have k3 := hR4 3
  have k4 := hR4 4
  simp at k0 k1 k2 k3 k4
  go_wp2
  refine bodyPost_ret (v := .agg #[.int .u64 (a : Nat), .int .i64 b, .int .u64 (c : Nat), .int .i64 d, .slice ao ms.length cap]) ?_ rfl ?_
  · simp [results, Tryz.results125, go_sem, k0, k1, k2, k3, k4]
  · exact ⟨_, rfl, HE.out⟩
end Go.Proofs.YtlaihgdfedalmaaGreat
