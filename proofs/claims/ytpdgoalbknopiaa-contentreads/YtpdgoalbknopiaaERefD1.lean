/-
  The document's Decode of an entry's bytes.
-/
import Derived.Test.YtpdgoalbknopiaaERefD0
namespace Go.Proofs.Ytpdgoalbknopiaa
open Go.RowKit
set_option linter.unusedVariables false
set_option linter.unusedSimpArgs false

def S7 (m : Nat) (at1 : Int) (g : Nat) (v0 v1 v2 v3 v4 : Value) (ao : Option Addr) (n cap : Nat) (xs : List UInt8) (w : World) : Prop :=
  w.cell? ⟨m, 1, none⟩ = some (.int .i64 at1) ∧ w.cell? ⟨g, 0, none⟩ = some v0 ∧ w.cell? ⟨g, 1, none⟩ = some v1 ∧ w.cell? ⟨g, 2, none⟩ = some v2 ∧ w.cell? ⟨g, 3, none⟩ = some v3 ∧ w.cell? ⟨g, 4, none⟩ = some v4 ∧ (convert 27 9 (.slice ao n cap)).run Try.prog w = .ok (.string (Cd.str xs)) w
theorem S7.of {m : Nat} {o : Option Nat} {g : Nat} {v0 v1 v2 v3 v4 : Value} {ao : Option Addr} {n cap : Nat} {xs : List UInt8} {w : World} {t : TypeId} (h : Cd.RR w m ao n cap o) (hg : w.heap[g]? = some (.cells #[v0, v1, v2, v3, v4] t (0, 0))) (hr : Cd.Row w ao n cap xs) : S7 m (Cd.atOf o) g v0 v1 v2 v3 v4 ao n cap xs w :=
  ⟨h.cells.2.1, (cell_of_row w g 0 _ t (0, 0) hg).trans rfl, (cell_of_row w g 1 _ t (0, 0) hg).trans rfl, (cell_of_row w g 2 _ t (0, 0) hg).trans rfl, (cell_of_row w g 3 _ t (0, 0) hg).trans rfl, (cell_of_row w g 4 _ t (0, 0) hg).trans rfl, Cd.conv_row hr⟩
theorem at_end {xs : List UInt8} {o : Option Nat} {st : Option (List UInt8)} (h : Cd.same xs o st) : Cd.atOf o = (xs.length : Int) ↔ st = some [] := by
  cases st with
  | none => rw [Cd.same_none h]; simp [Cd.atOf]
  | some ys =>
    obtain ⟨k, rfl, hk, rfl⟩ := Cd.same_left h
    simp [Cd.atOf]
    omega
set_option maxRecDepth 10000 in
set_option maxHeartbeats 2000000 in
theorem refDec_one_bad (w : World) (ao : Option Addr) (n cap : Nat) (x : UInt8) (t : List UInt8) (h : Cd.Row w ao n cap (x :: t)) (hn : n ≤ 140737488355328) (h1 : x.toNat = 1) (hb : (decE (some t)).2 ≠ some []) : Calls Try.prog 18 #[.slice ao n cap] w fun e w' => e = .returned (.tuple #[.int .u8 0, .agg #[.int .u64 0, .int .i64 0, .int .u64 0, .int .i64 0, .slice none 0 0], .agg #[.slice none 0 0, .slice none 0 0, .int .i64 0, .int .u64 0, .int .i64 0]]) ∧ Below w.heap.size w w' := by
  obtain ⟨G0, z3⟩ := bg_new w
  unfold Ze Zs at G0 z3
  have hnl : n = t.length + 1 := by have := h.1; simpa using this.symm
  obtain ⟨b, off, rfl, hc⟩ := h.open (by omega)
  have c0 := hc 0 (by omega)
  simp only [Nat.add_zero, List.getD_cons_zero] at c0
  rw [h1] at c0
  rw [show ((1 : Nat) : Int) = 1 from rfl] at c0
  have hn0 : (0 : Int) < (n : Int) := by omega
  have hnz : ((n : Int) == 0) = false := by rw [beq_eq_false_iff_ne]; omega
  have u4 := bl1 (((w.alloc (.cells #[.int .u64 0, .int .i64 0, .int .u64 0, .int .i64 0, .slice none 0 0] 29)).alloc (.cells #[.slice none 0 0, .slice none 0 0, .int .i64 0, .int .u64 0, .int .i64 0] 38)).alloc (.cells #[.int .u64 0, .int .i64 0, .int .u64 0, .int .i64 0, .slice none 0 0] 29)) (.cells #[.slice (some ⟨b, off, none⟩) n cap, .int .i64 1] 72)
  have G4 := G0.below u4
  have d0 := bl_cell G4.bl c0
  have hrr : Cd.RR ((((w.alloc (.cells #[.int .u64 0, .int .i64 0, .int .u64 0, .int .i64 0, .slice none 0 0] 29)).alloc (.cells #[.slice none 0 0, .slice none 0 0, .int .i64 0, .int .u64 0, .int .i64 0] 38)).alloc (.cells #[.int .u64 0, .int .i64 0, .int .u64 0, .int .i64 0, .slice none 0 0] 29)).alloc (.cells #[.slice (some ⟨b, off, none⟩) n cap, .int .i64 1] 72)) (w.heap.size + 3) (some ⟨b, off, none⟩) n cap (some 1) := by have := heap_alloc_new (((w.alloc (.cells #[.int .u64 0, .int .i64 0, .int .u64 0, .int .i64 0, .slice none 0 0] 29)).alloc (.cells #[.slice none 0 0, .slice none 0 0, .int .i64 0, .int .u64 0, .int .i64 0] 38)).alloc (.cells #[.int .u64 0, .int .i64 0, .int .u64 0, .int .i64 0, .slice none 0 0] 29)) (.cells #[.slice (some ⟨b, off, none⟩) n cap, .int .i64 1] 72); rw [z3] at this; exact this
  have hrow4 : Cd.Row ((((w.alloc (.cells #[.int .u64 0, .int .i64 0, .int .u64 0, .int .i64 0, .slice none 0 0] 29)).alloc (.cells #[.slice none 0 0, .slice none 0 0, .int .i64 0, .int .u64 0, .int .i64 0] 38)).alloc (.cells #[.int .u64 0, .int .i64 0, .int .u64 0, .int .i64 0, .slice none 0 0] 29)).alloc (.cells #[.slice (some ⟨b, off, none⟩) n cap, .int .i64 1] 72)) (some ⟨b, off, none⟩) n cap (x :: t) := h.below G4.bl (Nat.le_refl _)
  have ku := unone_step _ _ _ n cap (x :: t) (some 1) (some t) ⟨by simp, rfl⟩ hrr hrow4 hn
  have HX : Hid ((x :: t).length = n) := by show _ = _; rw [hnl]; rfl
  have HX1 : Hid (x.toNat = 1) := h1
  clear hc c0 h h1 u4 G0 z3 hnl
  generalize decE (some t) = de at *
  obtain ⟨⟨⟨xa, xb, xc, xd⟩, ms⟩, st2⟩ := de
  simp only at *
  unfold ent at ku
  go_enter Try.func18, Try.ntmps18
  go_wp2_with fail
  refine ku.mono ?_
  rintro e w5 ⟨vo, vc, rfl, hrv, hof, o2, hs2, rr5, g5⟩
  have G5 := G4.step g5 (by omega)
  have row5 : Cd.Row w5 (some ⟨b, off, none⟩) n cap (x :: t) := Cd.row_RR hrow4 hrr g5
  have u6 := bl1 w5 (.cells #[.int .u64 (xa : Nat), .int .i64 xb, .int .u64 (xc : Nat), .int .i64 xd, .slice vo ms.length vc] 29)
  have G6 := G5.below u6
  have q7 : (w5.alloc (.cells #[.int .u64 (xa : Nat), .int .i64 xb, .int .u64 (xc : Nat), .int .i64 xd, .slice vo ms.length vc] 29)).heap[w5.heap.size]? = _ := heap_alloc_new w5 (.cells #[.int .u64 (xa : Nat), .int .i64 xb, .int .u64 (xc : Nat), .int .i64 xd, .slice vo ms.length vc] 29)
  have hz5 : w.heap.size + 3 < w5.heap.size := rr5.lt
  have HS : Hid (∀ W, Below (w5.alloc (.cells #[.int .u64 (xa : Nat), .int .i64 xb, .int .u64 (xc : Nat), .int .i64 xd, .slice vo ms.length vc] 29)).heap.size (w5.alloc (.cells #[.int .u64 (xa : Nat), .int .i64 xb, .int .u64 (xc : Nat), .int .i64 xd, .slice vo ms.length vc] 29)) W → (S7 (w.heap.size + 3) (Cd.atOf o2) w5.heap.size (.int .u64 (xa : Nat)) (.int .i64 xb) (.int .u64 (xc : Nat)) (.int .i64 xd) (.slice vo ms.length vc) (some ⟨b, off, none⟩) n cap (x :: t)) W) := fun W u => S7.of ((rr5.below u6).below u) ((u.block _ (by simp)).trans q7) ((row5.below u6 (Nat.le_refl _)).below u (Nat.le_refl _))
  have ud : Below (w5.alloc (.cells #[.int .u64 (xa : Nat), .int .i64 xb, .int .u64 (xc : Nat), .int .i64 xd, .slice vo ms.length vc] 29)).heap.size (w5.alloc (.cells #[.int .u64 (xa : Nat), .int .i64 xb, .int .u64 (xc : Nat), .int .i64 xd, .slice vo ms.length vc] 29)) (w5.alloc (.cells #[.int .u64 (xa : Nat), .int .i64 xb, .int .u64 (xc : Nat), .int .i64 xd, .slice vo ms.length vc] 29)).drew := (Below.refl _ _).drew
  have s7 := HS.out _ ud
  unfold S7 at s7
  have hat : (Cd.atOf o2 == (n : Int)) = false := by
    rw [beq_eq_false_iff_ne]
    intro e
    exact hb ((at_end hs2).1 (by rw [HX.out]; exact e))
  have hsn : (S5 w.heap.size (w.heap.size + 2) (.int .u64 0) (.int .i64 0) (.int .u64 0) (.int .i64 0) (.slice none 0 0)) (w5.alloc (.cells #[.int .u64 (xa : Nat), .int .i64 xb, .int .u64 (xc : Nat), .int .i64 xd, .slice vo ms.length vc] 29)).drew.drew := S5.of G6.nn (by omega) (by omega)
  have BW : Below w.heap.size w (w5.alloc (.cells #[.int .u64 (xa : Nat), .int .i64 xb, .int .u64 (xc : Nat), .int .i64 xd, .slice vo ms.length vc] 29)).drew.drew := G6.bl.drew.drew
  have q1 : (w5.alloc (.cells #[.int .u64 (xa : Nat), .int .i64 xb, .int .u64 (xc : Nat), .int .i64 xd, .slice vo ms.length vc] 29)).drew.drew.heap[w.heap.size]? = _ := G6.r1
  have q2 : (w5.alloc (.cells #[.int .u64 (xa : Nat), .int .i64 xb, .int .u64 (xc : Nat), .int .i64 xd, .slice vo ms.length vc] 29)).drew.drew.heap[w.heap.size + 1]? = _ := G6.r2
  generalize Cd.atOf o2 = at2 at *
  clear ku hrr hrow4 G4 G5 G6 g5 rr5 row5 q7 u6 hb hs2 hrv hof HX HX1
  obtain ⟨g7, hg7⟩ : ∃ g, Hid (w5.heap.size = g) := ⟨_, rfl⟩
  obtain ⟨W6, hW6⟩ : ∃ W, Hid ((w5.alloc (.cells #[.int .u64 (xa : Nat), .int .i64 xb, .int .u64 (xc : Nat), .int .i64 xd, .slice vo ms.length vc] 29)) = W) := ⟨_, rfl⟩
  rw [hg7.out, hW6.out] at HS s7
  rw [hW6.out] at ud hsn BW q1 q2
  clear d0 hz5
  go_wp2_with fail
  rw [hW6.out, hg7.out]
  clear hW6 hg7
  refine wp_region_noPanic ?_
  refine wp_region_held_drew (S := (S7 (w.heap.size + 3) (at2) g7 (.int .u64 (xa : Nat)) (.int .i64 xb) (.int .u64 (xc : Nat)) (.int .i64 xd) (.slice vo ms.length vc) (some ⟨b, off, none⟩) n cap (x :: t))) (by kernel_rfl) s7 (fun hHeld => ?_)
  unfold S7 at hHeld
  refine tq 0 ?_
  refine tq 1 ?_
  refine tq 2 ?_
  refine tq 3 ?_
  refine tq 4 ?_
  refine tq 5 ?_
  refine tq 6 ?_
  refine tq 7 ?_
  refine tqS 8 ?_
  refine tqS 9 ?_
  refine tqS 10 ?_
  refine tqS 11 ?_
  refine tqS 12 ?_
  refine tqS 13 ?_
  refine tq 14 ?_
  refine wpAnyH_done (by kernel_rfl) ?_ _
  refine NoPanic.normal ?_
  clear hHeld s7 HS
  obtain ⟨V6, hV6⟩ : ∃ V, W6.drew = V := ⟨_, rfl⟩
  rw [hV6] at hsn BW q1 q2
  rw [hV6]
  clear hV6 ud
  obtain ⟨p2', pA, pB, pO⟩ := fin2 V6.drew w.heap.size _ _ q1 q2 #[.int .u64 0, .int .i64 0, .int .u64 0, .int .i64 0, .slice none 0 0] #[.slice none 0 0, .slice none 0 0, .int .i64 0, .int .u64 0, .int .i64 0]
  have a0 := pA 0
  have a1 := pA 1
  have a2 := pA 2
  have a3 := pA 3
  have a4 := pA 4
  have b0 := pB 0
  have b1 := pB 1
  have b2 := pB 2
  have b3 := pB 3
  have b4 := pB 4
  simp only [List.getElem?_toArray, List.getElem?_cons_zero, List.getElem?_cons_succ] at a0 a1 a2 a3 a4 b0 b1 b2 b3 b4
  have HEND : Hid (Below w.heap.size w ((V6.drew.setRow w.heap.size #[.int .u64 0, .int .i64 0, .int .u64 0, .int .i64 0, .slice none 0 0]).setRow (w.heap.size + 1) #[.slice none 0 0, .slice none 0 0, .int .i64 0, .int .u64 0, .int .i64 0])) := bl_row (bl_row BW (Nat.le_refl _) _) (by omega) _
  have HS0 : Hid ((S5 w.heap.size (w.heap.size + 2) (.int .u64 0) (.int .i64 0) (.int .u64 0) (.int .i64 0) (.slice none 0 0)) V6.drew) := hsn
  have HS1 : Hid ((S5 w.heap.size (w.heap.size + 2) (.int .u64 0) (.int .i64 0) (.int .u64 0) (.int .i64 0) (.slice none 0 0)) (V6.drew.setRow w.heap.size #[.int .u64 0, .int .i64 0, .int .u64 0, .int .i64 0, .slice none 0 0])) := HS0.out.by (fun k j h1 h2 => (pO k j h1 h2).1)
  have HS2 : Hid ((S5 w.heap.size (w.heap.size + 2) (.int .u64 0) (.int .i64 0) (.int .u64 0) (.int .i64 0) (.slice none 0 0)) ((V6.drew.setRow w.heap.size #[.int .u64 0, .int .i64 0, .int .u64 0, .int .i64 0, .slice none 0 0]).setRow (w.heap.size + 1) #[.slice none 0 0, .slice none 0 0, .int .i64 0, .int .u64 0, .int .i64 0])) := HS0.out.by (fun k j h1 h2 => (pO k j h1 h2).2)
  clear pA pB pO BW
  go_wp2_with fail
  refine wp_region_noPanic ?_
  refine wp_region_held_drew (S := (S5 w.heap.size (w.heap.size + 2) (.int .u64 0) (.int .i64 0) (.int .u64 0) (.int .i64 0) (.slice none 0 0))) (by kernel_rfl) HS0.out (fun hHeld => ?_)
  unfold S5 at hHeld
  refine tq 0 ?_
  refine tq 1 ?_
  refine tq 2 ?_
  refine comes_up 3 rfl (by kernel_rfl) (fun K hK => ?_)
  refine step_store_row rfl 29 (.tmp 3) (.tmp 45) rfl w.heap.size #[.int .u64 0, .int .i64 0, .int .u64 0, .int .i64 0, .slice none 0 0] rfl rfl 29 _ q1 infoS29 rfl (by simp [Value.oneCell']) ?_
  refine hK.out _ _ HS1.out (fun hHeld => ?_)
  clear hK K
  (try simp only [Act.put])
  refine comes_up 4 rfl (by kernel_rfl) (fun K hK => ?_)
  refine step_store_row rfl 38 (.tmp 4) (.tmp 46) rfl (w.heap.size + 1) #[.slice none 0 0, .slice none 0 0, .int .i64 0, .int .u64 0, .int .i64 0] rfl rfl 38 _ p2' infoS38 rfl (by simp [Value.oneCell']) ?_
  refine hK.out _ _ HS2.out (fun hHeld => ?_)
  clear hK K
  (try simp only [Act.put])
  refine wpAnyH_done (by kernel_rfl) ?_ _
  refine NoPanic.normal ?_
  go_wp2
  refine bodyPost_ret (v := .tuple #[.int .u8 0, .agg #[.int .u64 0, .int .i64 0, .int .u64 0, .int .i64 0, .slice none 0 0], .agg #[.slice none 0 0, .slice none 0 0, .int .i64 0, .int .u64 0, .int .i64 0]]) ?_ rfl ?_
  · simp [results, Try.results18, go_sem, a0, a1, a2, a3, a4, b0, b1, b2, b3, b4]
  · exact ⟨rfl, HEND.out⟩
set_option maxRecDepth 10000 in
set_option maxHeartbeats 2000000 in
theorem refDec_one_good (w : World) (ao : Option Addr) (n cap : Nat) (x : UInt8) (t : List UInt8) (h : Cd.Row w ao n cap (x :: t)) (hn : n ≤ 140737488355328) (h1 : x.toNat = 1) (hb : (decE (some t)).2 = some []) : Calls Try.prog 18 #[.slice ao n cap] w fun e w' => ∃ vo vc, e = .returned (.tuple #[.int .u8 1, ent (decE (some t)).1.1 (.slice vo (decE (some t)).1.2.length vc), .agg #[.slice none 0 0, .slice none 0 0, .int .i64 0, .int .u64 0, .int .i64 0]]) ∧ Cd.Row w' vo (decE (some t)).1.2.length vc (decE (some t)).1.2 ∧ Below w.heap.size w w' := by
  obtain ⟨G0, z3⟩ := bg_new w
  unfold Ze Zs at G0 z3
  have hnl : n = t.length + 1 := by have := h.1; simpa using this.symm
  obtain ⟨b, off, rfl, hc⟩ := h.open (by omega)
  have c0 := hc 0 (by omega)
  simp only [Nat.add_zero, List.getD_cons_zero] at c0
  rw [h1] at c0
  rw [show ((1 : Nat) : Int) = 1 from rfl] at c0
  have hn0 : (0 : Int) < (n : Int) := by omega
  have hnz : ((n : Int) == 0) = false := by rw [beq_eq_false_iff_ne]; omega
  have u4 := bl1 (((w.alloc (.cells #[.int .u64 0, .int .i64 0, .int .u64 0, .int .i64 0, .slice none 0 0] 29)).alloc (.cells #[.slice none 0 0, .slice none 0 0, .int .i64 0, .int .u64 0, .int .i64 0] 38)).alloc (.cells #[.int .u64 0, .int .i64 0, .int .u64 0, .int .i64 0, .slice none 0 0] 29)) (.cells #[.slice (some ⟨b, off, none⟩) n cap, .int .i64 1] 72)
  have G4 := G0.below u4
  have d0 := bl_cell G4.bl c0
  have hrr : Cd.RR ((((w.alloc (.cells #[.int .u64 0, .int .i64 0, .int .u64 0, .int .i64 0, .slice none 0 0] 29)).alloc (.cells #[.slice none 0 0, .slice none 0 0, .int .i64 0, .int .u64 0, .int .i64 0] 38)).alloc (.cells #[.int .u64 0, .int .i64 0, .int .u64 0, .int .i64 0, .slice none 0 0] 29)).alloc (.cells #[.slice (some ⟨b, off, none⟩) n cap, .int .i64 1] 72)) (w.heap.size + 3) (some ⟨b, off, none⟩) n cap (some 1) := by have := heap_alloc_new (((w.alloc (.cells #[.int .u64 0, .int .i64 0, .int .u64 0, .int .i64 0, .slice none 0 0] 29)).alloc (.cells #[.slice none 0 0, .slice none 0 0, .int .i64 0, .int .u64 0, .int .i64 0] 38)).alloc (.cells #[.int .u64 0, .int .i64 0, .int .u64 0, .int .i64 0, .slice none 0 0] 29)) (.cells #[.slice (some ⟨b, off, none⟩) n cap, .int .i64 1] 72); rw [z3] at this; exact this
  have hrow4 : Cd.Row ((((w.alloc (.cells #[.int .u64 0, .int .i64 0, .int .u64 0, .int .i64 0, .slice none 0 0] 29)).alloc (.cells #[.slice none 0 0, .slice none 0 0, .int .i64 0, .int .u64 0, .int .i64 0] 38)).alloc (.cells #[.int .u64 0, .int .i64 0, .int .u64 0, .int .i64 0, .slice none 0 0] 29)).alloc (.cells #[.slice (some ⟨b, off, none⟩) n cap, .int .i64 1] 72)) (some ⟨b, off, none⟩) n cap (x :: t) := h.below G4.bl (Nat.le_refl _)
  have ku := unone_step _ _ _ n cap (x :: t) (some 1) (some t) ⟨by simp, rfl⟩ hrr hrow4 hn
  have HX : Hid ((x :: t).length = n) := by show _ = _; rw [hnl]; rfl
  have HX1 : Hid (x.toNat = 1) := h1
  clear hc c0 h h1 u4 G0 z3 hnl
  have hinv := decE_inv (st := some t) (e := (decE (some t)).1) (r := []) (pr2 hb)
  generalize decE (some t) = de at *
  obtain ⟨⟨⟨xa, xb, xc, xd⟩, ms⟩, st2⟩ := de
  simp only at *
  unfold ent at ku
  unfold ent
  obtain ⟨hin1, hin2⟩ := hinv
  simp only [List.append_nil, Option.some.injEq] at hin1
  go_enter Try.func18, Try.ntmps18
  go_wp2_with fail
  refine ku.mono ?_
  rintro e w5 ⟨vo, vc, rfl, hrv, hof, o2, hs2, rr5, g5⟩
  have G5 := G4.step g5 (by omega)
  have row5 : Cd.Row w5 (some ⟨b, off, none⟩) n cap (x :: t) := Cd.row_RR hrow4 hrr g5
  have u6 := bl1 w5 (.cells #[.int .u64 (xa : Nat), .int .i64 xb, .int .u64 (xc : Nat), .int .i64 xd, .slice vo ms.length vc] 29)
  have G6 := G5.below u6
  have q7 : (w5.alloc (.cells #[.int .u64 (xa : Nat), .int .i64 xb, .int .u64 (xc : Nat), .int .i64 xd, .slice vo ms.length vc] 29)).heap[w5.heap.size]? = _ := heap_alloc_new w5 (.cells #[.int .u64 (xa : Nat), .int .i64 xb, .int .u64 (xc : Nat), .int .i64 xd, .slice vo ms.length vc] 29)
  have hz5 : w.heap.size + 3 < w5.heap.size := rr5.lt
  have HS : Hid (∀ W, Below (w5.alloc (.cells #[.int .u64 (xa : Nat), .int .i64 xb, .int .u64 (xc : Nat), .int .i64 xd, .slice vo ms.length vc] 29)).heap.size (w5.alloc (.cells #[.int .u64 (xa : Nat), .int .i64 xb, .int .u64 (xc : Nat), .int .i64 xd, .slice vo ms.length vc] 29)) W → (S7 (w.heap.size + 3) (Cd.atOf o2) w5.heap.size (.int .u64 (xa : Nat)) (.int .i64 xb) (.int .u64 (xc : Nat)) (.int .i64 xd) (.slice vo ms.length vc) (some ⟨b, off, none⟩) n cap (x :: t)) W) := fun W u => S7.of ((rr5.below u6).below u) ((u.block _ (by simp)).trans q7) ((row5.below u6 (Nat.le_refl _)).below u (Nat.le_refl _))
  have ud : Below (w5.alloc (.cells #[.int .u64 (xa : Nat), .int .i64 xb, .int .u64 (xc : Nat), .int .i64 xd, .slice vo ms.length vc] 29)).heap.size (w5.alloc (.cells #[.int .u64 (xa : Nat), .int .i64 xb, .int .u64 (xc : Nat), .int .i64 xd, .slice vo ms.length vc] 29)) (w5.alloc (.cells #[.int .u64 (xa : Nat), .int .i64 xb, .int .u64 (xc : Nat), .int .i64 xd, .slice vo ms.length vc] 29)).drew := (Below.refl _ _).drew
  have s7 := HS.out _ ud
  unfold S7 at s7
  have hat : (Cd.atOf o2 == (n : Int)) = true := by
    rw [beq_iff_eq, ← HX.out]
    exact (at_end hs2).2 hb
  have hone := refOne_any (w5.alloc (.cells #[.int .u64 (xa : Nat), .int .i64 xb, .int .u64 (xc : Nat), .int .i64 xd, .slice vo ms.length vc] 29)).drew (xa, xb, xc, xd) hin2.1 hin2.2.1 vo ms.length vc ms ((hrv.below u6 (Nat.le_refl _)).below ud (Nat.le_refl _)) hin2.2.2.1 hin2.2.2.2
  have hxx : (x :: t) = 1 :: encE (xa, xb, xc, xd) ms := by
    rw [hin1]
    congr 1
    exact UInt8.toNat_inj.1 (by rw [HX1.out]; rfl)
  rw [← hxx] at hone
  unfold ent at hone
  have HG : Hid (∀ W, Below (w5.alloc (.cells #[.int .u64 (xa : Nat), .int .i64 xb, .int .u64 (xc : Nat), .int .i64 xd, .slice vo ms.length vc] 29)).heap.size (w5.alloc (.cells #[.int .u64 (xa : Nat), .int .i64 xb, .int .u64 (xc : Nat), .int .i64 xd, .slice vo ms.length vc] 29)) W → Bg w W ∧ S5 w.heap.size w5.heap.size (.int .u64 (xa : Nat)) (.int .i64 xb) (.int .u64 (xc : Nat)) (.int .i64 xd) (.slice vo ms.length vc) W ∧ Cd.Row W vo ms.length vc ms) := fun W u => ⟨G6.below u, S5.of ((u.block _ (by simp)).trans q7) (by omega) (by omega), (hrv.below u6 (Nat.le_refl _)).below u (Nat.le_refl _)⟩
  generalize Cd.atOf o2 = at2 at *
  clear ku hrr hrow4 G4 G5 G6 g5 rr5 row5 q7 u6 hb hs2 hrv hof HX hin1 hin2 hxx HX1
  obtain ⟨g7, hg7⟩ : ∃ g, Hid (w5.heap.size = g) := ⟨_, rfl⟩
  obtain ⟨W6, hW6⟩ : ∃ W, Hid ((w5.alloc (.cells #[.int .u64 (xa : Nat), .int .i64 xb, .int .u64 (xc : Nat), .int .i64 xd, .slice vo ms.length vc] 29)) = W) := ⟨_, rfl⟩
  rw [hg7.out, hW6.out] at HS s7 HG
  rw [hW6.out] at ud hone
  clear d0 hz5
  generalize x :: t = L at *
  have hbe := Cd.str_beq L L
  simp only [decide_true] at hbe
  go_wp2_with fail
  rw [hW6.out, hg7.out]
  clear hW6 hg7
  refine wp_region_noPanic ?_
  refine wp_region_held_drew (S := (S7 (w.heap.size + 3) (at2) g7 (.int .u64 (xa : Nat)) (.int .i64 xb) (.int .u64 (xc : Nat)) (.int .i64 xd) (.slice vo ms.length vc) (some ⟨b, off, none⟩) n cap L)) (by kernel_rfl) s7 (fun hHeld => ?_)
  unfold S7 at hHeld
  refine tq 0 ?_
  refine tq 1 ?_
  refine tq 2 ?_
  refine tq 3 ?_
  refine tq 4 ?_
  refine tq 5 ?_
  refine tq 6 ?_
  refine tq 7 ?_
  refine tq 8 ?_
  refine tq 11 ?_
  refine tq 12 ?_
  refine comes_up 9 rfl (by kernel_rfl) (fun K hK => ?_)
  go_simp
  refine hone.mono ?_
  rintro e w8 ⟨v8, rfl, ho8, hb8⟩
  obtain ⟨qo, qc, rfl, hr8, _⟩ := Cd.owns_row ho8
  have hcv8 := Cd.conv_row hr8
  have u8 := bl_step ud hb8
  clear hone ho8 hb8 hr8 s7
  go_wp2_with fail
  refine hK.out _ _ (HS.out _ u8) (fun hHeld => ?_)
  clear hK K
  (try simp only [Act.put, List.setIfInBounds_toArray, List.set_cons_zero, List.set_cons_succ])
  unfold S7 at hHeld
  refine comes_up 10 rfl (by kernel_rfl) (fun K hK => ?_)
  go_simp
  go_wp2_with fail
  refine hK.out _ _ (HS.out _ u8) (fun hHeld => ?_)
  clear hK K
  (try simp only [Act.put, List.setIfInBounds_toArray, List.set_cons_zero, List.set_cons_succ])
  unfold S7 at hHeld
  clear hcv8
  refine tq 13 ?_
  refine tq 14 ?_
  refine wpAnyH_done (by kernel_rfl) ?_ _
  refine NoPanic.normal ?_
  clear hHeld HS
  obtain ⟨G8, S8, R8⟩ := HG.out _ u8
  have BW : Below w.heap.size w w8.drew := G8.bl.drew
  have q1 : w8.drew.heap[w.heap.size]? = _ := G8.r1
  have q2 : w8.drew.heap[w.heap.size + 1]? = _ := G8.r2
  clear HG u8 ud hbe
  obtain ⟨p2', pA, pB, pO⟩ := fin2 w8.drew w.heap.size _ _ q1 q2 #[.int .u64 (xa : Nat), .int .i64 xb, .int .u64 (xc : Nat), .int .i64 xd, .slice vo ms.length vc] #[.slice none 0 0, .slice none 0 0, .int .i64 0, .int .u64 0, .int .i64 0]
  have a0 := pA 0
  have a1 := pA 1
  have a2 := pA 2
  have a3 := pA 3
  have a4 := pA 4
  have b0 := pB 0
  have b1 := pB 1
  have b2 := pB 2
  have b3 := pB 3
  have b4 := pB 4
  simp only [List.getElem?_toArray, List.getElem?_cons_zero, List.getElem?_cons_succ] at a0 a1 a2 a3 a4 b0 b1 b2 b3 b4
  have HEND : Hid (Below w.heap.size w ((w8.drew.setRow w.heap.size #[.int .u64 (xa : Nat), .int .i64 xb, .int .u64 (xc : Nat), .int .i64 xd, .slice vo ms.length vc]).setRow (w.heap.size + 1) #[.slice none 0 0, .slice none 0 0, .int .i64 0, .int .u64 0, .int .i64 0])) := bl_row (bl_row BW (Nat.le_refl _) _) (by omega) _
  have HS0 : Hid ((S5 w.heap.size g7 (.int .u64 (xa : Nat)) (.int .i64 xb) (.int .u64 (xc : Nat)) (.int .i64 xd) (.slice vo ms.length vc)) w8.drew) := S8
  have HS1 : Hid ((S5 w.heap.size g7 (.int .u64 (xa : Nat)) (.int .i64 xb) (.int .u64 (xc : Nat)) (.int .i64 xd) (.slice vo ms.length vc)) (w8.drew.setRow w.heap.size #[.int .u64 (xa : Nat), .int .i64 xb, .int .u64 (xc : Nat), .int .i64 xd, .slice vo ms.length vc])) := HS0.out.by (fun k j h1 h2 => (pO k j h1 h2).1)
  have HS2 : Hid ((S5 w.heap.size g7 (.int .u64 (xa : Nat)) (.int .i64 xb) (.int .u64 (xc : Nat)) (.int .i64 xd) (.slice vo ms.length vc)) ((w8.drew.setRow w.heap.size #[.int .u64 (xa : Nat), .int .i64 xb, .int .u64 (xc : Nat), .int .i64 xd, .slice vo ms.length vc]).setRow (w.heap.size + 1) #[.slice none 0 0, .slice none 0 0, .int .i64 0, .int .u64 0, .int .i64 0])) := HS0.out.by (fun k j h1 h2 => (pO k j h1 h2).2)
  have HRW : Hid (Cd.Row ((w8.drew.setRow w.heap.size #[.int .u64 (xa : Nat), .int .i64 xb, .int .u64 (xc : Nat), .int .i64 xd, .slice vo ms.length vc]).setRow (w.heap.size + 1) #[.slice none 0 0, .slice none 0 0, .int .i64 0, .int .u64 0, .int .i64 0]) vo ms.length vc ms) := row_setRow (row_setRow (w := w8.drew) R8 q1 (noByte_ent 0 0 0 0 _ _ _)) p2' (noByte_sum _ _ _ _ _ _ _ _ _)
  clear G8 R8 S8
  clear pA pB pO BW
  go_wp2_with fail
  refine wp_region_noPanic ?_
  refine wp_region_held_drew (S := (S5 w.heap.size g7 (.int .u64 (xa : Nat)) (.int .i64 xb) (.int .u64 (xc : Nat)) (.int .i64 xd) (.slice vo ms.length vc))) (by kernel_rfl) HS0.out (fun hHeld => ?_)
  unfold S5 at hHeld
  refine tq 0 ?_
  refine tq 1 ?_
  refine tq 2 ?_
  refine comes_up 3 rfl (by kernel_rfl) (fun K hK => ?_)
  refine step_store_row rfl 29 (.tmp 3) (.tmp 43) rfl w.heap.size #[.int .u64 (xa : Nat), .int .i64 xb, .int .u64 (xc : Nat), .int .i64 xd, .slice vo ms.length vc] rfl rfl 29 _ q1 infoS29 rfl (by simp [Value.oneCell']) ?_
  refine hK.out _ _ HS1.out (fun hHeld => ?_)
  clear hK K
  (try simp only [Act.put])
  refine comes_up 4 rfl (by kernel_rfl) (fun K hK => ?_)
  refine step_store_row rfl 38 (.tmp 4) (.tmp 44) rfl (w.heap.size + 1) #[.slice none 0 0, .slice none 0 0, .int .i64 0, .int .u64 0, .int .i64 0] rfl rfl 38 _ p2' infoS38 rfl (by simp [Value.oneCell']) ?_
  refine hK.out _ _ HS2.out (fun hHeld => ?_)
  clear hK K
  (try simp only [Act.put])
  refine wpAnyH_done (by kernel_rfl) ?_ _
  refine NoPanic.normal ?_
  go_wp2
  refine bodyPost_ret (v := .tuple #[.int .u8 1, .agg #[.int .u64 (xa : Nat), .int .i64 xb, .int .u64 (xc : Nat), .int .i64 xd, .slice vo ms.length vc], .agg #[.slice none 0 0, .slice none 0 0, .int .i64 0, .int .u64 0, .int .i64 0]]) ?_ rfl ?_
  · simp [results, Try.results18, go_sem, a0, a1, a2, a3, a4, b0, b1, b2, b3, b4]
  · exact ⟨vo, vc, rfl, HRW.out, HEND.out⟩
end Go.Proofs.Ytpdgoalbknopiaa
