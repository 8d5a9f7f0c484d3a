/-
  Package total's line.put: one more label behind all others, if it isn't among them.
-/
import Derived.Test.YtlaihgdfedalmaaGreatTNewO
import Derived.Test.YtlaihgdfedalmaaGreatMix3
namespace Go.Proofs.YtlaihgdfedalmaaGreat
open Go.RowKit Go.Sort Go.Conc
set_option linter.unusedVariables false
set_option linter.unusedSimpArgs false

theorem tcell_K (T : Tot) (a : Ta) (K' k : Nat) : tcell { T with K := K' } a k = tcell T a k := by unfold tcell; split <;> rfl
theorem Tt.monoK {w : World} {col : Nat → Nat} {Z : Nat → Prop} {q : Nat} {T : Tot} {a : Ta} (h : Tt w col Z q T a) {K' : Nat} (hK : T.K ≤ K') : Tt w col Z q { T with K := K' } a :=
  ⟨fun k hk => by rw [tcell_K]; exact h.cell k hk, h.fr, h.fq, { ch := h.d.ch, con := kCon (T := T) h.d rfl (fun _ _ _ e => e) (fun _ e => e) hK, am := kAm (T := T) h.d rfl hK, sa := kSa (T := T) h.d rfl hK, bu := h.d.bu, od := h.d.od, tl := h.d.tl, cc := h.d.cc, ccb := h.d.ccb, cab := h.d.cab, csb := h.d.csb, cbv := h.d.cbv, cov := h.d.cov, ctv := h.d.ctv, lt := h.d.lt, zf := h.d.zf, zl := h.d.zl }⟩
def Tot.putO (T : Tot) (x : Lb) : Tot := { T with ord := if x ∈ T.ord then T.ord else T.ord ++ [x], K := T.K + 1 }
def S6p (q B ab : Nat) (b0 b1 b2 b3 : Value) (r : Bool) (W : World) : Prop := W.cell? ⟨q, 12, none⟩ = some (.map (some ab)) ∧ W.cell? ⟨B, 0, none⟩ = some b0 ∧ W.cell? ⟨B, 1, none⟩ = some b1 ∧ W.cell? ⟨B, 2, none⟩ = some b2 ∧ W.cell? ⟨B, 3, none⟩ = some b3 ∧ (Instr.lookup 96 (.map (some ab)) (.agg #[b0, b1, b2, b3]) true).run Tryz.prog W = .ok (.tuple #[.agg #[], .bool r]) W
def S5p (q o B : Nat) (v b0 b1 b2 b3 : Value) (W : World) : Prop := W.cell? ⟨q, o, none⟩ = some v ∧ W.cell? ⟨B, 0, none⟩ = some b0 ∧ W.cell? ⟨B, 1, none⟩ = some b1 ∧ W.cell? ⟨B, 2, none⟩ = some b2 ∧ W.cell? ⟨B, 3, none⟩ = some b3
set_option maxRecDepth 10000 in
set_option maxHeartbeats 2000000 in
theorem putL_any (w : World) (col : Nat → Nat) (Z : Nat → Prop) (q : Nat) (T : Tot) (a : Ta) (h : Tt w col Z q T a) (x : Lb) (hx : OkL x) (hK : T.K < 1000000) (hol : T.ord.length ≤ 4999) :
    Calls Tryz.prog 60 #[.pointer (some ⟨q, 11, none⟩), lab x] w fun e w' => e = .returned (.tuple #[]) ∧ LabPost w col Z q (T.putO x) w' := by
  have hql : q < w.heap.size := h.d.lt q (by rw [h.fq]; omega)
  have hal : a.ab < w.heap.size := h.d.lt a.ab (by rw [h.d.cab]; omega)
  have hqa : q ≠ a.ab := fun e => by have h1 := h.fq; have h2 := h.d.cab; rw [← e] at h2; omega
  obtain ⟨wa, hwa⟩ : ∃ wa, w.alloc (.cells #[.int .u64 (x.1 : Nat), .int .i64 x.2.1, .int .u64 (x.2.2.1 : Nat), .int .i64 x.2.2.2] 39) = wa := ⟨_, rfl⟩
  have u1 : Below w.heap.size w wa.drew := by rw [← hwa]; exact (bl1 _ _).drew
  have s1 : wa.drew.heap.size = w.heap.size + 1 := by rw [← hwa]; show (w.alloc _).heap.size = _; simp
  have hB1 : wa.drew.heap[w.heap.size]? = some (.cells #[.int .u64 (x.1 : Nat), .int .i64 x.2.1, .int .u64 (x.2.2.1 : Nat), .int .i64 x.2.2.2] 39 (0, 0)) := by rw [← hwa]; exact heap_alloc_new w _
  obtain ⟨S, c1, c2⟩ := h.d.am
  have hxS : decide (x ∈ S) = decide (x ∈ T.ord) := decide_eq_decide.2 (c2 x)
  have hS6 : ∀ W : World, Below wa.drew.heap.size wa.drew W → S6p q w.heap.size a.ab (.int .u64 (x.1 : Nat)) (.int .i64 x.2.1) (.int .u64 (x.2.2.1 : Nat)) (.int .i64 x.2.2.2) (decide (x ∈ T.ord)) W := fun W u => by
    have hb : W.heap[w.heap.size]? = wa.drew.heap[w.heap.size]? := u.block _ (by omega)
    have hc := fun j => (cell_block (o := j) hb).trans (cell_of_heap hB1 j)
    refine ⟨((h.still u1).still u).cell 12 (by omega), hc 0, hc 1, hc 2, hc 3, ?_⟩
    have := ((c1.of_block (w' := W) ((u.block _ (by omega)).trans (u1.block _ hal))).look hx)
    rw [hxS] at this
    exact this
  obtain ⟨w2, hw2⟩ : ∃ w2, (wa.alloc (.cells #[] 139)).drew = w2 := ⟨_, rfl⟩
  have u2 : Below wa.drew.heap.size wa.drew w2 := by rw [← hw2]; exact bl1 wa.drew (.cells #[] 139)
  have hs1 := hS6 wa.drew (Below.refl _ _)
  have hs2 := hS6 w2 u2
  have HW1 : Hid (w.alloc (.cells #[.int .u64 (x.1 : Nat), .int .i64 x.2.1, .int .u64 (x.2.2.1 : Nat), .int .i64 x.2.2.2] 39) = wa) := hwa
  have HW2 : Hid ((wa.alloc (.cells #[] 139)).drew = w2) := hw2
  have h2 := (h.still u1).still u2
  have hB2 : w2.heap[w.heap.size]? = some (.cells #[.int .u64 (x.1 : Nat), .int .i64 x.2.1, .int .u64 (x.2.2.1 : Nat), .int .i64 x.2.2.2] 39 (0, 0)) := (u2.block _ (by omega)).trans hB1
  have G2 : Hid (Gt w col w2 col) := (Gt.bl col u1).trans (Gt.bl col u2)
  have s2 := u2.size
  by_cases hin : x ∈ T.ord
  · rw [decide_eq_true hin] at hs1 hs2
    have hT : T.putO x = { T with K := T.K + 1 } := by unfold Tot.putO; rw [if_pos hin]
    have HF : Hid (LabPost w col Z q (T.putO x) w2) := by
      rw [hT]
      exact ⟨col, a, h2.monoK (Nat.le_succ _), G2.out⟩
    unfold lab
    clear h h2 c1 c2 hS6 hxS hB1 hB2 hwa hw2 hT u1 u2 hx hK hol hin G2
    go_enter Tryz.func60, Tryz.ntmps60
    go_wp2_with fail
    rw [HW1.out]
    refine wp_region_noPanic ?_
    refine wp_region_held_drew (S := S6p q w.heap.size a.ab (.int .u64 (x.1 : Nat)) (.int .i64 x.2.1) (.int .u64 (x.2.2.1 : Nat)) (.int .i64 x.2.2.2) true) (by kernel_rfl) (hs1) (fun hHeld => ?_)
    unfold S6p at hHeld
    refine tq 0 ?_
    refine tq 1 ?_
    refine tq 2 ?_
    refine tq 3 ?_
    refine tq 4 ?_
    refine tq 5 ?_
    refine tq 6 ?_
    refine tq 7 ?_
    refine tq 8 ?_
    refine comes_up 9 rfl (by kernel_rfl) (fun K hK => ?_)
    go_simp
    rw [HW2.out]
    refine hK.out _ _ (hs2) (fun hHeld => ?_)
    clear hK K
    (try simp only [Act.put, List.setIfInBounds_toArray, List.set_cons_zero, List.set_cons_succ])
    refine comes_up 10 rfl (by kernel_rfl) (fun K hK => ?_)
    go_simp

    refine hK.out _ _ (hs2) (fun hHeld => ?_)
    clear hK K
    (try simp only [Act.put, List.setIfInBounds_toArray, List.set_cons_zero, List.set_cons_succ])
    refine tq 11 ?_
    refine wpAnyH_done (by kernel_rfl) ?_ _
    refine NoPanic.normal ?_
    clear hHeld hs1 hs2
    go_wp2
    refine bodyPost_ret (results_none rfl _ _ _) rfl ?_
    exact ⟨rfl, HF.out⟩
  · rw [decide_eq_false hin] at hs1 hs2
    have hT : T.putO x = { T with ord := T.ord ++ [x], K := T.K + 1 } := by unfold Tot.putO; rw [if_neg hin]
    have ud : Below w2.heap.size w2 w2.drew := (Below.refl _ _).drew
    have hb := h2.still ud
    have hB2d : w2.drew.heap[w.heap.size]? = w2.heap[w.heap.size]? := rfl
    have hcab := hb.d.cab
    have hfq := hb.fq
    have hol7 : ∀ k, a.ov.ownBlock = some k → col k = 7 := hb.d.cov
    have hlt := hb.d.lt
    obtain ⟨w4, hrun4, hS4, g4⟩ := (c1.of_block (w' := w2.drew) ((u2.block _ (by omega)).trans (u1.block _ hal))).store (by unfold maxLen; omega) hx
    have hs4 := g4.size
    have hsd : w2.drew.heap.size = w2.heap.size := rfl
    have bq4 : w4.heap[q]? = w2.heap[q]? := g4.block q (hlt q (by omega)) (by simp; exact hqa)
    have bB4 : w4.heap[w.heap.size]? = w2.heap[w.heap.size]? := g4.block _ (by omega) (by simp; omega)
    have hc3 : ∀ (W : World), W.heap[w.heap.size]? = w2.heap[w.heap.size]? → ∀ j, W.cell? ⟨w.heap.size, j, none⟩ = (#[.int .u64 (x.1 : Nat), .int .i64 x.2.1, .int .u64 (x.2.2.1 : Nat), .int .i64 x.2.2.2] : Array Value)[j]? := fun W e j => (cell_block e).trans (cell_of_heap hB2 j)
    have hq12 : ∀ W : World, W.heap[q]? = w2.heap[q]? → W.cell? ⟨q, 12, none⟩ = some (.map (some a.ab)) := fun W e => (cell_block e).trans (h2.cell 12 (by omega))
    have hs3 : S5p q 12 w.heap.size (.map (some a.ab)) (.int .u64 (x.1 : Nat)) (.int .i64 x.2.1) (.int .u64 (x.2.2.1 : Nat)) (.int .i64 x.2.2.2) w2.drew := ⟨hq12 _ rfl, hc3 _ rfl 0, hc3 _ rfl 1, hc3 _ rfl 2, hc3 _ rfl 3⟩
    have hs3' : S5p q 12 w.heap.size (.map (some a.ab)) (.int .u64 (x.1 : Nat)) (.int .i64 x.2.1) (.int .u64 (x.2.2.1 : Nat)) (.int .i64 x.2.2.2) w4 := ⟨hq12 _ bq4, hc3 _ bB4 0, hc3 _ bB4 1, hc3 _ bB4 2, hc3 _ bB4 3⟩
    obtain ⟨w5, hw5⟩ : ∃ w5, w4.alloc (.cells #[.int .u64 (x.1 : Nat), .int .i64 x.2.1, .int .u64 (x.2.2.1 : Nat), .int .i64 x.2.2.2] 39) = w5 := ⟨_, rfl⟩
    have u5 : Below w4.heap.size w4 w5.drew := by rw [← hw5]; exact (bl1 _ _).drew
    have bq5 : w5.drew.heap[q]? = w2.heap[q]? := (u5.block q (by have := hlt q (by omega); omega)).trans bq4
    have bB5 : w5.drew.heap[w.heap.size]? = w2.heap[w.heap.size]? := (u5.block _ (by omega)).trans bB4
    have hod4 : Rw w4 39 4 a.ov T.ord.length (flat T.ord) := hb.d.od.frame (fun k e => g4.block k (hlt k (by have := hol7 k e; omega)) (by simp; intro e'; have := hol7 k e; rw [e'] at this; omega))
    have hod5 : Rw w5.drew 39 4 a.ov T.ord.length (flat T.ord) := hod4.frame (fun k e => u5.block k (hod4.lt k e))
    have hcell5 : ∀ j u, (cellsL x)[j]? = some u → w5.drew.cell? ((⟨w4.heap.size, 0, none⟩ : Addr).add j) = some u := fun j u hj => by
      rw [Addr.add_lit, Nat.zero_add, ← hw5]
      exact cell_box w4 #[.int .u64 (x.1 : Nat), .int .i64 x.2.1, .int .u64 (x.2.2.1 : Nat), .int .i64 x.2.2.2] 39 j u (by simpa [cellsL] using hj)
    obtain ⟨v7, w7, hrun7, hR7, g7, loc7⟩ := rw_append (w := w5.drew) und28 infoL rfl (by omega) (by omega) hod5 (by omega) ⟨w4.heap.size, 0, none⟩ 1 (cellsL x) (by simp [cellsL]) hcell5 (fun u hu => by simp [cellsL] at hu; rcases hu with rfl | rfl | rfl | rfl <;> rfl) 43
    have hs5 := u5.size
    have bq7 : w7.heap[q]? = w2.heap[q]? := (g7.block q (by have := hlt q (by omega); omega) (fun e => by have := hol7 q e.symm; omega)).trans bq5
    have bB7 : w7.heap[w.heap.size]? = w2.heap[w.heap.size]? := (g7.block _ (by omega) (fun e => by have h1 := hol7 _ e.symm; have h3 := h.d.lt w.heap.size (by omega); omega)).trans bB5
    obtain ⟨bo, bcap, hbv, _, _⟩ := hod5.shape
    obtain ⟨vo, vcap, hv7, _, _⟩ := hR7.shape
    have hq11 : ∀ W : World, W.heap[q]? = w2.heap[q]? → W.cell? ⟨q, 11, none⟩ = some (.slice bo T.ord.length bcap) := fun W e => (cell_block e).trans ((h2.cell 11 (by omega)).trans (by show some a.ov = _; rw [hbv]))
    have hS11 : ∀ W : World, W.heap[q]? = w2.heap[q]? → W.heap[w.heap.size]? = w2.heap[w.heap.size]? → S5p q 11 w.heap.size (.slice bo T.ord.length bcap) (.int .u64 (x.1 : Nat)) (.int .i64 x.2.1) (.int .u64 (x.2.2.1 : Nat)) (.int .i64 x.2.2.2) W := fun W e1 e2 => ⟨hq11 W e1, hc3 _ e2 0, hc3 _ e2 1, hc3 _ e2 2, hc3 _ e2 3⟩
    have sA := hS11 w4.drew bq4 bB4
    have sB := hS11 w5.drew bq5 bB5
    have sC := hS11 w7 bq7 bB7
    have hc7 := hq11 w7 bq7
    have hf7 : w7.frozen? ⟨q, 11, none⟩ = false := (frozen_block bq7).trans (h2.fr 11)
    have hS7 : Q.SetIs w7 a.ab (T.K + 1) (x :: S) := hS4.of_block ((g7.block _ (by have := hlt a.ab (by omega); omega) (fun e => by have := hol7 _ e.symm; omega)).trans (u5.block _ (by have := hlt a.ab (by omega); omega)))
    have t7 : Turned (fun k => k = a.ab ∨ a.ov.ownBlock = some k) w2.drew w7 := ((Turned.of_grown (F := fun k => k = a.ab ∨ a.ov.ownBlock = some k) g4 (fun k e => .inl (by cases e; rfl))).trans (Turned.of_below (F := fun _ => False) u5) (fun i e => False.elim e)).trans (Turned.of_grown (F := fun k => a.ov.ownBlock = some k) g7 (fun k e => e)) (fun i e => .inl (.inr e))
    have hlen : (T.ord ++ [x]).length = T.ord.length + 1 := by simp
    have hfl : flat (T.ord ++ [x]) = flat T.ord ++ cellsL x := by rw [flat_app]; simp [flat]
    obtain ⟨col', hFin, hGf⟩ := hb.putO t7 (K' := T.K + 1) (Nat.le_succ _) (ord' := T.ord ++ [x]) hS7 (fun y => by simp [c2 y, or_comm]) v7 (by rw [hlen, hfl]; exact hR7) (fun k e => (loc7 k e).imp id (fun hle => by omega))
    have HF : Hid (LabPost w col Z q (T.putO x) (w7.setCell ⟨q, 11, none⟩ v7)) := by
      rw [hT]
      exact ⟨col', _, hFin, (G2.out.trans (Gt.bl col ud)).trans hGf⟩
    have HR4 : Hid ((Instr.mapUpdate 96 (.map (some a.ab)) (lab x) (.agg #[])).run Tryz.prog w2.drew = .ok () w4) := hrun4
    have hrun4' := hrun4
    unfold lab at hrun4'
    rw [hbv] at hrun7
    rw [hv7] at hrun7 HF
    have HR7 := hrun7
    have HW5 : Hid (w4.alloc (.cells #[.int .u64 (x.1 : Nat), .int .i64 x.2.1, .int .u64 (x.2.2.1 : Nat), .int .i64 x.2.2.2] 39) = w5) := hw5
    rw [← hw5] at sB hrun7
    unfold lab
    clear h h2 c1 c2 hS6 hxS hB1 hB2 hwa hw2 hT u1 u2 hx hK hol hin G2 ud hb hB2d hcab hfq hol7 hlt hS4 g4 hs4 hsd bq4 bB4 hc3 hq12 u5 bq5 bB5 hod4 hod5 hcell5 hR7 g7 loc7 hs5 bq7 bB7 hq11 hS11 hS7 t7 hlen hfl hFin hGf HR4 HR7 hrun4 hbv hv7 hw5 HW5
    go_enter Tryz.func60, Tryz.ntmps60
    go_wp2_with fail
    rw [HW1.out]
    refine wp_region_noPanic ?_
    refine wp_region_held_drew (S := S6p q w.heap.size a.ab (.int .u64 (x.1 : Nat)) (.int .i64 x.2.1) (.int .u64 (x.2.2.1 : Nat)) (.int .i64 x.2.2.2) false) (by kernel_rfl) (hs1) (fun hHeld => ?_)
    unfold S6p at hHeld
    refine tq 0 ?_
    refine tq 1 ?_
    refine tq 2 ?_
    refine tq 3 ?_
    refine tq 4 ?_
    refine tq 5 ?_
    refine tq 6 ?_
    refine tq 7 ?_
    refine tq 8 ?_
    refine comes_up 9 rfl (by kernel_rfl) (fun K hK => ?_)
    go_simp
    rw [HW2.out]
    refine hK.out _ _ (hs2) (fun hHeld => ?_)
    clear hK K
    (try simp only [Act.put, List.setIfInBounds_toArray, List.set_cons_zero, List.set_cons_succ])
    refine comes_up 10 rfl (by kernel_rfl) (fun K hK => ?_)
    go_simp
    refine hK.out _ _ (hs2) (fun hHeld => ?_)
    clear hK K
    (try simp only [Act.put, List.setIfInBounds_toArray, List.set_cons_zero, List.set_cons_succ])
    refine tq 11 ?_
    refine wpAnyH_done (by kernel_rfl) ?_ _
    refine NoPanic.normal ?_
    clear hHeld hs1 hs2
    go_wp2_with fail
    refine wp_region_noPanic ?_
    refine wp_region_held_drew (S := S5p q 12 w.heap.size (.map (some a.ab)) (.int .u64 (x.1 : Nat)) (.int .i64 x.2.1) (.int .u64 (x.2.2.1 : Nat)) (.int .i64 x.2.2.2)) (by kernel_rfl) (hs3) (fun hHeld => ?_)
    unfold S5p at hHeld
    refine tq 0 ?_
    refine tq 1 ?_
    refine tq 2 ?_
    refine tq 3 ?_
    refine tq 4 ?_
    refine tq 5 ?_
    refine comes_up 6 rfl (by kernel_rfl) (fun K hK => ?_)
    go_simp
    refine hK.out _ _ (hs3') (fun hHeld => ?_)
    clear hK K
    (try simp only [Act.put, List.setIfInBounds_toArray, List.set_cons_zero, List.set_cons_succ])
    refine wpAnyH_done (by kernel_rfl) ?_ _
    refine NoPanic.normal ?_
    clear hHeld hs3 hs3' hrun4'
    go_wp2_with fail
    refine wp_region_noPanic ?_
    refine beginE (S5p q 11 w.heap.size (.slice bo T.ord.length bcap) (.int .u64 (x.1 : Nat)) (.int .i64 x.2.1) (.int .u64 (x.2.2.1 : Nat)) (.int .i64 x.2.2.2)) 10 (by kernel_rfl) (sA) (fun hHeld => ?_)
    unfold S5p at hHeld
    refine tqE 0 ?_
    refine tqE 1 ?_
    refine tqE 2 ?_
    refine tqE 3 ?_
    refine tqE 4 ?_
    refine tqE 5 ?_
    refine upE 6 rfl (by kernel_rfl) (fun K hK => ?_)
    go_simp
    refine hK.out _ _ (sB) (fun hHeld => ?_)
    clear hK K
    (try simp only [Act.put, List.setIfInBounds_toArray, List.set_cons_zero, List.set_cons_succ])
    refine upE 7 rfl (by kernel_rfl) (fun K hK => ?_)
    refine step_append_run rfl (.tmp 26) (.tmp 28) 43 rfl (.slice bo T.ord.length bcap) (.slice (some ⟨w4.heap.size, 0, none⟩) 1 1) (.slice vo (T.ord.length + 1) vcap) w7 rfl rfl hrun7 ?_
    refine hK.out _ _ (sC) (fun hHeld => ?_)
    clear hK K
    (try simp only [Act.put, List.setIfInBounds_toArray, List.set_cons_zero, List.set_cons_succ])
    refine pureE 8 (v := ?_) rfl (by kernel_rfl) (by kernel_rfl) (by kernel_rfl) (by kernel_rfl) (fun _ _ _ h => h) (Or.inl ⟨by rfl, by intro wx hSw; (try dsimp only at hSw); go_simp; try with_reducible rfl⟩) (by assumption) ?_
    (try simp only [Act.put, List.setIfInBounds_toArray, List.set_cons_zero, List.set_cons_succ])
    refine pureE 9 (v := ?_) rfl (by kernel_rfl) (by kernel_rfl) (by kernel_rfl) (by kernel_rfl) (fun _ _ _ h => h) (Or.inl ⟨by rfl, by intro wx hSw; (try dsimp only at hSw); go_simp; try with_reducible rfl⟩) (by assumption) ?_
    (try simp only [Act.put, List.setIfInBounds_toArray, List.set_cons_zero, List.set_cons_succ])
    refine lastE 10 rfl (by kernel_rfl) (by kernel_rfl) (fun K hK => ?_)
    go_simp
    refine hK.out _ _ ?_
    clear hK K
    (try simp only [Act.put, List.setIfInBounds_toArray, List.set_cons_zero, List.set_cons_succ])
    refine doneE (by kernel_rfl) ?_ _
    refine NoPanic.normal ?_
    go_wp2
    go_end0
    exact ⟨rfl, HF.out⟩
end Go.Proofs.YtlaihgdfedalmaaGreat
