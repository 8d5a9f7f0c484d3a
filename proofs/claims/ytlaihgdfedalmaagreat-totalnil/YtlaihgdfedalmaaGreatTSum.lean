/-
  Package total's Summary.
-/
import Derived.Test.YtlaihgdfedalmaaGreatTStep
import Derived.Test.YtlaihgdfedalmaaGreatEDec1
import Derived.Test.YtlaihgdfedalmaaGreatMix2
import Derived.Test.YtlaihgdfedalmaaGreatESum
import Derived.Test.YtlaihgdfedalmaaGreatMix3
namespace Go.Proofs.YtlaihgdfedalmaaGreat
open Go.RowKit Go.Sort Go.Conc
set_option linter.unusedVariables false
set_option linter.unusedSimpArgs false

theorem lr_of_rw {w : World} {v : Value} {n : Nat} {ls : List Lb} (h : Rw w 39 4 v n (flat ls)) : ∃ ao cap, v = .slice ao n cap ∧ LR w ao n ls ∧ (ao = none → n = 0 ∧ cap = 0) ∧ ∀ a, ao = some a → v.ownBlock = some a.block := by
  have hl : ls.length = n := by have := h.1; rw [flat_len] at this; omega
  have h' := h
  obtain ⟨h0, h1, ao, cap, rfl, hm, ⟨rfl, rfl, rfl⟩ | ⟨b, off, N, f, rfl, hr, h2, h3, h4⟩⟩ := h
  · exact ⟨none, 0, rfl, ⟨hl, by omega, fun e => by omega⟩, fun _ => ⟨rfl, rfl⟩, fun a e => by cases e⟩
  · refine ⟨_, cap, rfl, ⟨hl, by unfold maxLen at hm; omega, fun hn => ⟨b, off, rfl, fun j x hj => ?_⟩⟩, (fun e => by cases e), (fun a e => by cases e; rfl)⟩
    have hcell : ∀ i, i < 4 → w.cell? ⟨b, off + j * 4 + i, none⟩ = (cellsL x)[i]? := fun i hi => by
      have e := flat_get ls j x i hj hi
      have hlt : i < (cellsL x).length := by simpa [cellsL] using hi
      rw [List.getElem?_eq_getElem hlt] at e ⊢
      obtain ⟨_, b', off', e1, _, e2⟩ := h'.cell e
      cases e1
      rw [show off + j * 4 + i = off + (4 * j + i) by omega]
      exact e2
    exact ⟨hcell 0 (by omega), hcell 1 (by omega), hcell 2 (by omega), hcell 3 (by omega)⟩
theorem lr_rowS {w : World} {ao : Option Addr} {n : Nat} {ls : List Lb} (h : LR w ao n ls) {g : Nat} (cs : Array Value) (hg : ∀ a, ao = some a → a.block ≠ g) : LR (w.setRow g cs) ao n ls :=
  h.of_cells (fun ad v e hv => (cell_setRow_other _ _ _ _ (fun e2 => by
    cases ao with
    | none => simp at e
    | some a =>
      simp at e
      exact hg a rfl (by rw [e]; exact e2))).trans hv)
def S5s (q : Nat) (v10 v11 v13 v15 v16 : Value) (W : World) : Prop := W.cell? ⟨q, 10, none⟩ = some v10 ∧ W.cell? ⟨q, 11, none⟩ = some v11 ∧ W.cell? ⟨q, 13, none⟩ = some v13 ∧ W.cell? ⟨q, 15, none⟩ = some v15 ∧ W.cell? ⟨q, 16, none⟩ = some v16
/-- A summary in new memory. -/
def SumPost (w : World) (es : List En) (ls : List Lb) (nx : Int) (hn : Nat) (hp : Int) (e : Ending) (w' : World) : Prop := ∃ ca cc oa oc, e = .returned (sumv (.slice ca es.length cc) (.slice oa ls.length oc) nx hn hp) ∧ ER (fun k => w.heap.size < k) w' ca es.length es ∧ LR w' oa ls.length ls ∧ ((ca = none → es.length = 0 ∧ cc = 0) ∧ (oa = none → ls.length = 0 ∧ oc = 0) ∧ ∀ a, oa = some a → w.heap.size < a.block) ∧ Below w.heap.size w w'
set_option maxRecDepth 10000 in
set_option maxHeartbeats 1000000 in
theorem summary_any {w : World} {col : Nat → Nat} {Z : Nat → Prop} {q : Nat} {T : Tot} {a : Ta} (h : Tt w col Z q T a) (hK : T.K ≤ 100000) (hml : ∀ e ∈ T.con, e.2.length ≤ 140737488355328) (hol : T.ord.length ≤ 5000) :
    Calls Tryz.prog 36 #[.pointer (some ⟨q, 0, none⟩)] w (SumPost w T.con T.ord T.nx T.hn T.hp) := by
  have u0 : Below w.heap.size w (w.alloc (.cells Zs 45)) := bl1 _ _
  have hg0 : (w.alloc (.cells Zs 45)).heap[w.heap.size]? = some (.cells Zs 45 (0, 0)) := heap_alloc_new w _
  have hql : q < w.heap.size := h.d.lt q (by rw [h.fq]; omega)
  obtain ⟨ov, oc, hov, hLR0, hz0, hob⟩ := lr_of_rw h.d.od
  have HS : Hid (∀ W, Below w.heap.size w W → S5s q (.map (some a.cb)) (.slice ov T.ord.length oc) (.int .i64 T.nx) (.int .u64 (T.hn : Nat)) (.int .i64 T.hp) W) := fun W u => ⟨(h.still u).cell 10 (by omega), ((h.still u).cell 11 (by omega)).trans (by show some a.ov = _; rw [hov]), (h.still u).cell 13 (by omega), (h.still u).cell 15 (by omega), (h.still u).cell 16 (by omega)⟩
  have HL : Hid (∀ W, Below w.heap.size w W → Calls Tryz.prog 77 #[.map (some a.cb)] W (fun e w' => ∃ v B, e = .returned v ∧ W.heap.size ≤ B ∧ EO B w' v T.con ∧ Below W.heap.size W w')) := fun W u => by
    obtain ⟨m, c1, c2, _⟩ := (h.still u).d.con
    exact list_any W a.cb T.K m T.con c1 hK c2 hml
  have HO : Hid (∀ W, Below w.heap.size w W → Calls Tryz.prog 78 #[.pointer (some ⟨q, 11, none⟩)] W (fun e w' => ∃ v, e = .returned v ∧ w'.ownsRow W.heap.size 39 4 v T.ord.length (flat T.ord) ∧ Below W.heap.size W w')) := fun W u =>
    lineList_any W q 11 ov T.ord.length oc T.ord (HS.out W u).2.1 (hLR0.up u) hol (fun e => (hz0 e).1)
  clear hLR0 hz0 hob hov
  have hs0 := HS.out _ u0.drew
  have hl0 := HL.out _ u0.drew
  clear h HL
  unfold Zs at u0 hg0 hs0 hl0
  go_enter Tryz.func36, Tryz.ntmps36
  go_wp2_with fail
  refine wp_region_noPanic ?_
  refine wp_region_held_drew (S := S5s q (.map (some a.cb)) (.slice ov T.ord.length oc) (.int .i64 T.nx) (.int .u64 (T.hn : Nat)) (.int .i64 T.hp)) (by kernel_rfl) (hs0) (fun hHeld => ?_)
  unfold S5s at hHeld
  refine tq 0 ?_
  refine tq 1 ?_
  refine tq 2 ?_
  refine tq 3 ?_
  refine tq 5 ?_
  refine tq 6 ?_
  refine tq 7 ?_
  refine tq 9 ?_
  refine tq 10 ?_
  refine tq 11 ?_
  refine tq 12 ?_
  refine tq 13 ?_
  refine tq 14 ?_
  refine tq 15 ?_
  refine tq 16 ?_
  refine comes_up 4 rfl (by kernel_rfl) (fun K hK => ?_)
  go_simp
  refine hl0.mono ?_
  rintro e w1 ⟨v, B, rfl, hB, hEO, u1⟩
  have uw1 : Below w.heap.size w w1 := bl_step u0.drew u1
  have hs1 := HS.out w1 uw1
  have ho1 := HO.out w1 uw1
  have hnz := hEO.nz
  obtain ⟨ca, cc, rfl, -, -, hER⟩ := hEO.er
  have hg1 := (u1.block w.heap.size (by simp)).trans hg0
  have hsz1 : w.heap.size < w1.heap.size := (Array.getElem?_eq_some_iff.1 hg1).1
  have hER1 : ER (fun k => w.heap.size < k ∧ k < w1.heap.size) w1 ca T.con.length T.con := hER.here.mono (fun k hk => ⟨by have := hk.1; simp at hB; omega, hk.2⟩)
  have hz1 : ca = none → T.con.length = 0 ∧ cc = 0 := fun e => hnz ca _ cc rfl e
  clear hl0 hEO hER hnz HO hg0
  go_wp2_with fail
  refine hK.out _ _ (hs1) (fun hHeld => ?_)
  clear hK K
  (try simp only [Act.put, List.setIfInBounds_toArray, List.set_cons_zero, List.set_cons_succ])
  refine comes_up 8 rfl (by kernel_rfl) (fun K hK => ?_)
  go_simp
  refine ho1.mono ?_
  rintro e w2 ⟨v, rfl, hro, u2⟩
  have uw2 : Below w.heap.size w w2 := bl_step uw1 u2
  have hs2 := HS.out w2 uw2
  obtain ⟨oa, oc2, rfl, hLR2, hz2⟩ := LR.own2 hro
  have hb2 : ∀ a, oa = some a → w.heap.size < a.block := fun a e => by
    rcases hro.2 with ⟨h1, h0⟩ | ⟨g, cap, cur, h1, h2, _⟩
    · rw [e] at h1; cases h1
    · rw [e] at h1; cases h1; show w.heap.size < g; omega
  have hg2 := (u2.block w.heap.size hsz1).trans hg1
  have hER2 := (hER1.bl u2).mono (fun k hk => hk.1)
  have uw3 : Below w.heap.size w (w2.setRow w.heap.size #[.slice ca T.con.length cc, .slice oa T.ord.length oc2, .int .i64 T.nx, .int .u64 (T.hn : Nat), .int .i64 T.hp]) := bl_rowL uw2 (Nat.le_refl _) _
  have hs3 := HS.out _ uw3
  have HF : Hid (SumPost w T.con T.ord T.nx T.hn T.hp (.returned (.agg #[.slice ca T.con.length cc, .slice oa T.ord.length oc2, .int .i64 T.nx, .int .u64 (T.hn : Nat), .int .i64 T.hp])) (w2.setRow w.heap.size #[.slice ca T.con.length cc, .slice oa T.ord.length oc2, .int .i64 T.nx, .int .u64 (T.hn : Nat), .int .i64 T.hp])) :=
    ⟨ca, cc, oa, oc2, rfl, er_row hER2 _ (fun e => by omega), lr_rowS hLR2 _ (fun a e => by have := hb2 a e; omega), ⟨hz1, hz2, hb2⟩, uw3⟩
  have cR := fun j => cell_setRow_same w2 w.heap.size j _ #[.slice ca T.con.length cc, .slice oa T.ord.length oc2, .int .i64 T.nx, .int .u64 (T.hn : Nat), .int .i64 T.hp] _ _ hg2
  have k0 := cR 0
  have k1 := cR 1
  have k2 := cR 2
  have k3 := cR 3
  have k4 := cR 4
  simp only [List.getElem?_toArray, List.getElem?_cons_zero, List.getElem?_cons_succ] at k0 k1 k2 k3 k4
  clear ho1 hro hER1 hER2 hLR2 hz1 hz2 hb2 uw1 uw2 uw3 u1 u2 hg1 cR HS
  go_wp2_with fail
  refine hK.out _ _ (hs2) (fun hHeld => ?_)
  clear hK K
  (try simp only [Act.put, List.setIfInBounds_toArray, List.set_cons_zero, List.set_cons_succ])
  refine tq 17 ?_
  refine comes_up 18 rfl (by kernel_rfl) (fun K hK => ?_)
  refine step_store_row rfl 45 (.tmp 2) (.tmp 23) rfl w.heap.size #[.slice ca T.con.length cc, .slice oa T.ord.length oc2, .int .i64 T.nx, .int .u64 (T.hn : Nat), .int .i64 T.hp] rfl rfl 45 _ hg2 infoS38 rfl (by simp [Value.oneCell']) ?_
  refine hK.out _ _ (hs3) (fun hHeld => ?_)
  clear hK K
  (try simp only [Act.put, List.setIfInBounds_toArray, List.set_cons_zero, List.set_cons_succ])
  refine wpAnyH_done (by kernel_rfl) ?_ _
  refine NoPanic.normal ?_
  clear hHeld hs0 hs1 hs2 hs3 hg2
  go_wp2
  refine bodyPost_ret (v := .agg #[.slice ca T.con.length cc, .slice oa T.ord.length oc2, .int .i64 T.nx, .int .u64 (T.hn : Nat), .int .i64 T.hp]) ?_ rfl HF.out
  simp [results, Tryz.results36, go_sem, k0, k1, k2, k3, k4]
end Go.Proofs.YtlaihgdfedalmaaGreat
