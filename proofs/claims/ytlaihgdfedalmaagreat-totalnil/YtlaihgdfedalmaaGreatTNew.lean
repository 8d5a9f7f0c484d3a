/-
  Package total's New: four blocks are made, in whatever order.
-/
import Derived.Test.YtlaihgdfedalmaaGreatMix49
import Derived.Conc.SmallLaws
namespace Go.Proofs.YtlaihgdfedalmaaGreat
open Go.RowKit Go.Sort Go.Conc
set_option linter.unusedVariables false
set_option linter.unusedSimpArgs false

def Tot.new (n self : Int) (qc : Nat) : Tot := { n := n, self := self, qc := qc, acc := 0, vn := 0, vp := 0, vs := 0, st := 0, seq := 0, dl := [], buf := [], con := [], ord := [], nx := 1, rep := 1, hn := 0, hp := 0, told := [], sf := 0, safe := [], K := 0 }
theorem comes_up3 {P : Program} {md : Region.Mode} {l : List Oper} {Q : Exit → Act → World → Prop} {S : World → Prop} (i j k : Nat) {o o' o'' : Oper} {fuel : Nat} {listed : Array Bool} {a : Act} {w : World} (hi : l[i]? = some o) (hj : l[j]? = some o') (hk : l[k]? = some o'') (hr : Region.ready md l.toArray listed = [i, j, k])
    (h : ∀ K' : Act → World → Prop, Shut (∀ a w, S w → (S w → wpAnyH P md l.toArray Q S fuel (listed.setIfInBounds i true) a w) → K' a w) → if Region.wanted o (yielded l.toArray a.tmps) = true then Oper.wp P o a w K' Q else K' (a.put o.dst undef) w)
    (h' : ∀ K' : Act → World → Prop, Shut (∀ a w, S w → (S w → wpAnyH P md l.toArray Q S fuel (listed.setIfInBounds j true) a w) → K' a w) → if Region.wanted o' (yielded l.toArray a.tmps) = true then Oper.wp P o' a w K' Q else K' (a.put o'.dst undef) w)
    (h'' : ∀ K' : Act → World → Prop, Shut (∀ a w, S w → (S w → wpAnyH P md l.toArray Q S fuel (listed.setIfInBounds k true) a w) → K' a w) → if Region.wanted o'' (yielded l.toArray a.tmps) = true then Oper.wp P o'' a w K' Q else K' (a.put o''.dst undef) w) :
    wpAnyH P md l.toArray Q S (fuel + 1) listed a w :=
  wpAnyH_ready (rs := [i, j, k]) hr (by simp) (AllReadyH.cons (by simpa using hi) h (AllReadyH.cons (by simpa using hj) h' (AllReadyH.cons (by simpa using hk) h'' AllReadyH.nil)))
theorem comes_up4 {P : Program} {md : Region.Mode} {l : List Oper} {Q : Exit → Act → World → Prop} {S : World → Prop} (i j k m : Nat) {o o' o'' o3 : Oper} {fuel : Nat} {listed : Array Bool} {a : Act} {w : World} (hi : l[i]? = some o) (hj : l[j]? = some o') (hk : l[k]? = some o'') (hm : l[m]? = some o3) (hr : Region.ready md l.toArray listed = [i, j, k, m])
    (h : ∀ K' : Act → World → Prop, Shut (∀ a w, S w → (S w → wpAnyH P md l.toArray Q S fuel (listed.setIfInBounds i true) a w) → K' a w) → if Region.wanted o (yielded l.toArray a.tmps) = true then Oper.wp P o a w K' Q else K' (a.put o.dst undef) w)
    (h' : ∀ K' : Act → World → Prop, Shut (∀ a w, S w → (S w → wpAnyH P md l.toArray Q S fuel (listed.setIfInBounds j true) a w) → K' a w) → if Region.wanted o' (yielded l.toArray a.tmps) = true then Oper.wp P o' a w K' Q else K' (a.put o'.dst undef) w)
    (h'' : ∀ K' : Act → World → Prop, Shut (∀ a w, S w → (S w → wpAnyH P md l.toArray Q S fuel (listed.setIfInBounds k true) a w) → K' a w) → if Region.wanted o'' (yielded l.toArray a.tmps) = true then Oper.wp P o'' a w K' Q else K' (a.put o''.dst undef) w)
    (h3 : ∀ K' : Act → World → Prop, Shut (∀ a w, S w → (S w → wpAnyH P md l.toArray Q S fuel (listed.setIfInBounds m true) a w) → K' a w) → if Region.wanted o3 (yielded l.toArray a.tmps) = true then Oper.wp P o3 a w K' Q else K' (a.put o3.dst undef) w) :
    wpAnyH P md l.toArray Q S (fuel + 1) listed a w :=
  wpAnyH_ready (rs := [i, j, k, m]) hr (by simp) (AllReadyH.cons (by simpa using hi) h (AllReadyH.cons (by simpa using hj) h' (AllReadyH.cons (by simpa using hk) h'' (AllReadyH.cons (by simpa using hm) h3 AllReadyH.nil))))
theorem sizeDrew (w : World) : w.drew.heap.size = w.heap.size := rfl
theorem allocDrew (w : World) (o : Obj) : w.drew.alloc o = (w.alloc o).drew := rfl
theorem info37c : (Tryz.prog.info? 37).map (·.bytes) = some 24 := by kernel_rfl
/-- What has been made so far. -/
structure Mk (w W : World) (qc : Nat) (c cb m sb : Option Nat) : Prop where
  u : Below w.heap.size w W
  lc : ∀ b, c = some b → w.heap.size ≤ b ∧ b < W.heap.size ∧ W.heap[b]? = some (.chan qc #[] false 0 0 false)
  lb : ∀ b, cb = some b → w.heap.size ≤ b ∧ b < W.heap.size ∧ StoIs W b 0 (fun _ => none)
  lm : ∀ b, m = some b → w.heap.size ≤ b ∧ b < W.heap.size ∧ Q.SetIs W b 0 []
  ls : ∀ b, sb = some b → w.heap.size ≤ b ∧ b < W.heap.size ∧ Q.SetIs W b 0 []
  d : (∀ b, c = some b → cb ≠ some b ∧ m ≠ some b ∧ sb ≠ some b) ∧ (∀ b, cb = some b → m ≠ some b ∧ sb ≠ some b) ∧ ∀ b, m = some b → sb ≠ some b
section
variable {w W W' : World} {qc : Nat} {c cb m sb : Option Nat}
theorem Mk.start (w : World) (qc : Nat) : Mk w w.drew qc none none none none :=
  ⟨(Below.refl _ _).drew, (fun b e => by cases e), (fun b e => by cases e), (fun b e => by cases e), (fun b e => by cases e), (fun b e => by cases e), (fun b e => by cases e), (fun b e => by cases e)⟩
theorem Mk.keep (h : Mk w W qc c cb m sb) (u : Below W.heap.size W W') : Mk w W' qc c cb m sb := by
  have hs := u.size
  refine ⟨bl_step h.u u, fun b e => ?_, fun b e => ?_, fun b e => ?_, fun b e => ?_, h.d⟩
  · obtain ⟨h1, h2, h3⟩ := h.lc b e
    exact ⟨h1, by omega, (u.block b h2).trans h3⟩
  · obtain ⟨h1, h2, h3⟩ := h.lb b e
    exact ⟨h1, by omega, h3.of_block (u.block b h2)⟩
  · obtain ⟨h1, h2, h3⟩ := h.lm b e
    exact ⟨h1, by omega, h3.of_block (u.block b h2)⟩
  · obtain ⟨h1, h2, h3⟩ := h.ls b e
    exact ⟨h1, by omega, h3.of_block (u.block b h2)⟩
theorem Mk.lt (h : Mk w W qc c cb m sb) : (∀ b, c = some b → b < W.heap.size) ∧ (∀ b, cb = some b → b < W.heap.size) ∧ (∀ b, m = some b → b < W.heap.size) ∧ (∀ b, sb = some b → b < W.heap.size) := ⟨fun b e => (h.lc b e).2.1, fun b e => (h.lb b e).2.1, fun b e => (h.lm b e).2.1, fun b e => (h.ls b e).2.1⟩
theorem ne_old {o : Option Nat} {n b : Nat} (h : ∀ k, o = some k → k < n) (hb : n ≤ b) : o ≠ some b := fun e => by have := h b e; omega
theorem Mk.chan (h : Mk w W qc none cb m sb) : Mk w (W.alloc (.chan qc #[] false 0 0 false)) qc (some W.heap.size) cb m sb := by
  have k := h.keep (bl1 W (.chan qc #[] false 0 0 false))
  obtain ⟨l1, l2, l3, l4⟩ := h.lt
  exact ⟨k.u, fun b e => (by cases e; exact ⟨h.u.size, by simp, heap_alloc_new _ _⟩), k.lb, k.lm, k.ls, fun b e => (by cases e; exact ⟨ne_old l2 (Nat.le_refl _), ne_old l3 (Nat.le_refl _), ne_old l4 (Nat.le_refl _)⟩), h.d.2⟩
theorem Mk.sto (h : Mk w W qc c none m sb) : Mk w (W.alloc (.map #[] 0)) qc c (some W.heap.size) m sb := by
  have k := h.keep (bl1 W (.map #[] 0))
  obtain ⟨l1, l2, l3, l4⟩ := h.lt
  exact ⟨k.u, k.lc, fun b e => (by cases e; exact ⟨h.u.size, by simp, sto_made W⟩), k.lm, k.ls, fun b e => ⟨fun e' => by cases e'; exact absurd e (ne_old l1 (Nat.le_refl _)), (h.d.1 b e).2⟩, fun b e => (by cases e; exact ⟨ne_old l3 (Nat.le_refl _), ne_old l4 (Nat.le_refl _)⟩), h.d.2.2⟩
theorem Mk.set (h : Mk w W qc c cb m none) : Mk w (W.alloc (.map #[] 0)) qc c cb m (some W.heap.size) := by
  have k := h.keep (bl1 W (.map #[] 0))
  obtain ⟨l1, l2, l3, l4⟩ := h.lt
  exact ⟨k.u, k.lc, k.lb, k.lm, fun b e => (by cases e; exact ⟨h.u.size, by simp, Q.set_made W⟩), fun b e => ⟨(h.d.1 b e).1, (h.d.1 b e).2.1, fun e' => by cases e'; exact absurd e (ne_old l1 (Nat.le_refl _))⟩, fun b e => ⟨(h.d.2.1 b e).1, fun e' => by cases e'; exact absurd e (ne_old l2 (Nat.le_refl _))⟩, fun b e => fun e' => (by cases e'; exact absurd e (ne_old l3 (Nat.le_refl _)))⟩
theorem Mk.line (h : Mk w W qc c cb none sb) (u : Below W.heap.size W W') {b0 : Nat} (hb : W.heap.size ≤ b0) {S : List Lb} (hS : Q.SetIs W' b0 0 S) (hn : ∀ x, x ∈ S ↔ x ∈ ([] : List Lb)) : Mk w W' qc c cb (some b0) sb := by
  have k := h.keep u
  obtain ⟨l1, l2, l3, l4⟩ := h.lt
  have hse : S = [] := List.eq_nil_iff_forall_not_mem.2 (fun x hx => by have := (hn x).1 hx; simp at this)
  subst hse
  have := h.u.size
  exact ⟨k.u, k.lc, k.lb, fun b e => (by cases e; exact ⟨by omega, hS.lt, hS⟩), k.ls, fun b e => ⟨(h.d.1 b e).1, fun e' => (by cases e'; exact absurd e (ne_old l1 hb)), (h.d.1 b e).2.2⟩, fun b e => ⟨fun e' => (by cases e'; exact absurd e (ne_old l2 hb)), (h.d.2.1 b e).2⟩, fun b e => (by cases e; exact ne_old l4 hb)⟩
end
/-- The cells of a new node. -/
def newC (n self : Int) (c cb m sb : Nat) : Array Value := #[.int .i64 n, .int .i64 self, .chan (some c), .int .i64 0, .int .u64 0, .int .i64 0, .int .u16 0, .int .u8 0, .int .u64 0, .slice none 0 0, .map (some cb), .slice none 0 0, .map (some m), .int .i64 1, .int .i64 1, .int .u64 0, .int .i64 0, .slice none 0 0, .int .u16 0, .map (some sb)]
def Sqn (v : Value) (W : World) : Prop := v = v ∧ v = v
def NewPost (w : World) (Z : Nat → Prop) (T : Tot) (e : Ending) (w' : World) : Prop := ∃ q col a, e = .returned (.tuple #[.pointer (some ⟨q, 0, none⟩), .int .i64 0]) ∧ Tt w' col Z q T a ∧ Below w.heap.size w w' ∧ ∀ b, 0 < col b → w.heap.size ≤ b
theorem new_tt {w W : World} {qc : Nat} {c cb m sb : Nat} (h : Mk w W qc (some c) (some cb) (some m) (some sb)) (n self : Int) (Z : Nat → Prop) (hz : ∀ b, Z b → b < w.heap.size) : NewPost w Z (Tot.new n self qc) (.returned (.tuple #[.pointer (some ⟨W.heap.size, 0, none⟩), .int .i64 0])) (W.alloc (.cells (newC n self c cb m sb) 102)) := by
  have k := h.keep (bl1 W (.cells (newC n self c cb m sb) 102))
  obtain ⟨c1, c2, c3⟩ := k.lc c rfl
  obtain ⟨b1, b2, b3⟩ := k.lb cb rfl
  obtain ⟨m1, m2, m3⟩ := k.lm m rfl
  obtain ⟨s1, s2, s3⟩ := k.ls sb rfl
  obtain ⟨d1, d2, d3⟩ := h.d
  have e1 := d1 c rfl
  have e2 := d2 cb rfl
  have e3 := d3 m rfl
  simp only [ne_eq, Option.some.injEq] at e1 e2 e3
  have l1 := (h.lc c rfl).2.1
  have l2 := (h.lb cb rfl).2.1
  have l3 := (h.lm m rfl).2.1
  have l4 := (h.ls sb rfl).2.1
  have hu := h.u.size
  have hcell : ∀ j, (W.alloc (.cells (newC n self c cb m sb) 102)).cell? ⟨W.heap.size, j, none⟩ = (newC n self c cb m sb)[j]? := fun j => cell_of_heap (heap_alloc_new W (.cells (newC n self c cb m sb) 102)) j
  obtain ⟨col, hcol⟩ : ∃ col : Nat → Nat, col = fun k => if k = W.heap.size then 1 else if k = c then 2 else if k = cb then 3 else if k = m then 4 else if k = sb then 5 else 0 := ⟨_, rfl⟩
  have hge : ∀ b, 0 < col b → w.heap.size ≤ b ∧ b < (W.alloc (.cells (newC n self c cb m sb) 102)).heap.size := fun b hb => by
    replace hb : 0 < (if b = W.heap.size then 1 else if b = c then 2 else if b = cb then 3 else if b = m then 4 else if b = sb then 5 else 0) := by rw [hcol] at hb; exact hb
    simp only [World.size_alloc]
    split at hb
    · rename_i e; omega
    · split at hb
      · rename_i e; have := (h.lc c rfl).1; omega
      · split at hb
        · rename_i e; have := (h.lb cb rfl).1; omega
        · split at hb
          · rename_i e; have := (h.lm m rfl).1; omega
          · split at hb
            · rename_i e; have := (h.ls sb rfl).1; omega
            · omega
  refine ⟨W.heap.size, col, { c := c, cb := cb, ab := m, sb := sb, bv := .slice none 0 0, ov := .slice none 0 0, tv := .slice none 0 0 }, rfl, ⟨fun j hj => ?_, fun j => ?_, by rw [hcol]; simp, ?_⟩, k.u, fun b hb => (hge b hb).1⟩
  · rw [hcell]
    match j, hj with
    | 0, _ | 1, _ | 2, _ | 3, _ | 4, _ | 5, _ | 6, _ | 7, _ | 8, _ | 9, _ | 10, _ | 11, _ | 12, _ | 13, _ | 14, _ | 15, _ | 16, _ | 17, _ | 18, _ | 19, _ => rfl
    | j + 20, hj => omega
  · rw [frozen?_alloc_cells]
    simp [World.frozen?]
  · refine { ch := ⟨0, 0, [], c3, rfl, fun j x b e => by simp at e⟩, con := ⟨_, b3, ⟨by unfold Asc; exact List.Pairwise.nil, (fun e he => by cases he), fun x _ _ => rfl, fun x s _ he => by cases he⟩, fun x s _ he => by cases he⟩, am := ⟨[], m3, fun x => Iff.rfl⟩, sa := ⟨[], s3, fun x => Iff.rfl⟩, bu := ⟨[], rfl, rw_nil _ _ _, fun j e x e1 => by simp [Tot.new] at e1⟩, od := rw_nil _ _ _, tl := ⟨[], rfl, rw_nil _ _ _, fun x hx => by cases hx⟩, cc := ?_, ccb := ?_, cab := ?_, csb := ?_, cbv := fun b e => by simp [Value.ownBlock] at e, cov := fun b e => by simp [Value.ownBlock] at e, ctv := fun b e => by simp [Value.ownBlock] at e, lt := fun b hb => (hge b hb).2, zf := fun b hb => ?_, zl := fun b hb => by have := hz b hb; have := k.u.size; omega }
    · rw [hcol]; show ite _ _ _ = _; rw [if_neg (show c ≠ W.heap.size by omega), if_pos rfl]
    · rw [hcol]; show ite _ _ _ = _; rw [if_neg (show cb ≠ W.heap.size by omega), if_neg (show cb ≠ c from fun e => e1.1 e), if_pos rfl]
    · rw [hcol]; show ite _ _ _ = _; rw [if_neg (show m ≠ W.heap.size by omega), if_neg (show m ≠ c from fun e => e1.2.1 e), if_neg (show m ≠ cb from fun e => e2.1 e), if_pos rfl]
    · rw [hcol]; show ite _ _ _ = _; rw [if_neg (show sb ≠ W.heap.size by omega), if_neg (show sb ≠ c from fun e => e1.2.2 e), if_neg (show sb ≠ cb from fun e => e2.2 e), if_neg (show sb ≠ m from fun e => e3 e), if_pos rfl]
    · have h1 := hz b hb
      by_cases hc : col b = 0
      · exact hc
      · have := (hge b (by omega)).1; omega
theorem run_mk95 (w : World) : (Instr.makeMap 95 none).run Tryz.prog w = .ok (.map (some w.heap.size)) (w.alloc (.map #[] 0)) := by rfl
theorem run_mk96 (w : World) : (Instr.makeMap 96 none).run Tryz.prog w = .ok (.map (some w.heap.size)) (w.alloc (.map #[] 0)) := by rfl
set_option maxRecDepth 10000 in
set_option maxHeartbeats 16000000 in
theorem new_ok (w : World) (n self : Int) (qc : Nat) (hn : 1 ≤ n ∧ n ≤ 16) (hs : 0 ≤ self ∧ self < n) (hq : 1 ≤ qc ∧ qc ≤ 256) (Z : Nat → Prop) (hz : ∀ b, Z b → b < w.heap.size) : Calls Tryz.prog 12 #[.int .i64 n, .int .i64 self, .int .i64 (qc : Nat)] w fun e w' => NewPost w Z (Tot.new n self qc) e w' := by
  have h1 : ¬ n < 1 := by omega
  have h2 : ¬ 16 < n := by omega
  have h3 : ¬ self < 0 := by omega
  have h4 : ¬ n ≤ self := by omega
  have h5 : ¬ (qc : Int) < 1 := by omega
  have h6 : ¬ 256 < (qc : Int) := by omega
  obtain ⟨i37, hi37, hb37⟩ := Option.map_eq_some_iff.1 info37c
  have hmc : ∀ W : World, (Instr.makeChan 93 (.int .i64 (qc : Nat))).run Tryz.prog W = .ok (.chan (some W.heap.size)) (W.alloc (.chan qc #[] false 0 0 false)) := fun W => run_makeChan (P := Tryz.prog) und93 hi37 .i64 qc (by omega) (by simp only [hb37]; omega)
  have hln := fun W : World => newLine_any W none 0 0 [] ⟨rfl, by omega, fun h => by omega⟩ (fun x hx => by cases hx) (by omega)
  have h95 := run_mk95
  have h96 := run_mk96
  have hM := Mk.start w qc
  have HZ : Hid (∀ b, Z b → b < w.heap.size) := hz
  have hd : Sqn undef w.drew := ⟨rfl, rfl⟩
  clear hn hs hq hz hi37 hb37
  go_enter Tryz.func12, Tryz.ntmps12
  go_wp2_with fail
  clear h1 h2 h3 h4 h5 h6
  refine wp_region_noPanic ?_
  refine wp_region_held_drew (S := Sqn undef) (by kernel_rfl) (hd) (fun hHeld => ?_)
  unfold Sqn at hHeld
  refine tq 0 ?_
  refine tq 1 ?_
  refine tq 2 ?_
  refine comes_up4 3 4 5 6 rfl rfl rfl rfl (by kernel_rfl) (fun K hK => ?_) (fun K hK => ?_) (fun K hK => ?_) (fun K hK => ?_)
  · go_simp
    replace hM := hM.chan
    refine hK.out _ _ (⟨rfl, rfl⟩ : Sqn undef _) (fun hHeld => ?_)
    clear hK K
    (try simp only [Act.put, List.setIfInBounds_toArray, List.set_cons_zero, List.set_cons_succ])
    refine comes_up3 4 5 6 rfl rfl rfl (by kernel_rfl) (fun K hK => ?_) (fun K hK => ?_) (fun K hK => ?_)
    · go_simp
      replace hM := hM.sto
      refine hK.out _ _ (⟨rfl, rfl⟩ : Sqn undef _) (fun hHeld => ?_)
      clear hK K
      (try simp only [Act.put, List.setIfInBounds_toArray, List.set_cons_zero, List.set_cons_succ])
      refine comes_up2 5 6 rfl rfl (by kernel_rfl) (fun K hK => ?_) (fun K hK => ?_)
      · go_simp
        refine (hln _).mono ?_
        rintro e WW ⟨mm, SS, rfl, hb0, hS0, hn0, u0⟩
        replace hM := hM.line u0 hb0 hS0 hn0
        clear hb0 hS0 hn0 u0
        go_wp2_with fail
        refine hK.out _ _ (⟨rfl, rfl⟩ : Sqn undef _) (fun hHeld => ?_)
        clear hK K
        (try simp only [Act.put, List.setIfInBounds_toArray, List.set_cons_zero, List.set_cons_succ])
        refine comes_up 6 rfl (by kernel_rfl) (fun K hK => ?_)
        go_simp
        replace hM := hM.set
        refine hK.out _ _ (⟨rfl, rfl⟩ : Sqn undef _) (fun hHeld => ?_)
        clear hK K
        (try simp only [Act.put, List.setIfInBounds_toArray, List.set_cons_zero, List.set_cons_succ])
        refine tq 7 ?_
        refine comes_up 8 rfl (by kernel_rfl) (fun K hK => ?_)
        go_simp
        have HF := new_tt hM n self Z HZ.out
        unfold newC at HF
        simp only [World.size_alloc, sizeDrew, allocDrew] at HF
        refine hK.out _ _ ((⟨rfl, rfl⟩ : Sqn undef _)) (fun hHeld => ?_)
        clear hK K
        (try simp only [Act.put, List.setIfInBounds_toArray, List.set_cons_zero, List.set_cons_succ])
        refine tq 9 ?_
        refine tq 10 ?_
        refine wpAnyH_done (by kernel_rfl) ?_ _
        refine NoPanic.normal ?_
        clear hM hHeld hd
        go_wp2
        go_ret2
        exact HF
      · go_simp
        replace hM := hM.set
        refine hK.out _ _ (⟨rfl, rfl⟩ : Sqn undef _) (fun hHeld => ?_)
        clear hK K
        (try simp only [Act.put, List.setIfInBounds_toArray, List.set_cons_zero, List.set_cons_succ])
        refine comes_up 5 rfl (by kernel_rfl) (fun K hK => ?_)
        go_simp
        refine (hln _).mono ?_
        rintro e WW ⟨mm, SS, rfl, hb0, hS0, hn0, u0⟩
        replace hM := hM.line u0 hb0 hS0 hn0
        clear hb0 hS0 hn0 u0
        go_wp2_with fail
        refine hK.out _ _ (⟨rfl, rfl⟩ : Sqn undef _) (fun hHeld => ?_)
        clear hK K
        (try simp only [Act.put, List.setIfInBounds_toArray, List.set_cons_zero, List.set_cons_succ])
        refine tq 7 ?_
        refine comes_up 8 rfl (by kernel_rfl) (fun K hK => ?_)
        go_simp
        have HF := new_tt hM n self Z HZ.out
        unfold newC at HF
        simp only [World.size_alloc, sizeDrew, allocDrew] at HF
        refine hK.out _ _ ((⟨rfl, rfl⟩ : Sqn undef _)) (fun hHeld => ?_)
        clear hK K
        (try simp only [Act.put, List.setIfInBounds_toArray, List.set_cons_zero, List.set_cons_succ])
        refine tq 9 ?_
        refine tq 10 ?_
        refine wpAnyH_done (by kernel_rfl) ?_ _
        refine NoPanic.normal ?_
        clear hM hHeld hd
        go_wp2
        go_ret2
        exact HF
    · go_simp
      refine (hln _).mono ?_
      rintro e WW ⟨mm, SS, rfl, hb0, hS0, hn0, u0⟩
      replace hM := hM.line u0 hb0 hS0 hn0
      clear hb0 hS0 hn0 u0
      go_wp2_with fail
      refine hK.out _ _ (⟨rfl, rfl⟩ : Sqn undef _) (fun hHeld => ?_)
      clear hK K
      (try simp only [Act.put, List.setIfInBounds_toArray, List.set_cons_zero, List.set_cons_succ])
      refine comes_up2 4 6 rfl rfl (by kernel_rfl) (fun K hK => ?_) (fun K hK => ?_)
      · go_simp
        replace hM := hM.sto
        refine hK.out _ _ (⟨rfl, rfl⟩ : Sqn undef _) (fun hHeld => ?_)
        clear hK K
        (try simp only [Act.put, List.setIfInBounds_toArray, List.set_cons_zero, List.set_cons_succ])
        refine comes_up 6 rfl (by kernel_rfl) (fun K hK => ?_)
        go_simp
        replace hM := hM.set
        refine hK.out _ _ (⟨rfl, rfl⟩ : Sqn undef _) (fun hHeld => ?_)
        clear hK K
        (try simp only [Act.put, List.setIfInBounds_toArray, List.set_cons_zero, List.set_cons_succ])
        refine tq 7 ?_
        refine comes_up 8 rfl (by kernel_rfl) (fun K hK => ?_)
        go_simp
        have HF := new_tt hM n self Z HZ.out
        unfold newC at HF
        simp only [World.size_alloc, sizeDrew, allocDrew] at HF
        refine hK.out _ _ ((⟨rfl, rfl⟩ : Sqn undef _)) (fun hHeld => ?_)
        clear hK K
        (try simp only [Act.put, List.setIfInBounds_toArray, List.set_cons_zero, List.set_cons_succ])
        refine tq 9 ?_
        refine tq 10 ?_
        refine wpAnyH_done (by kernel_rfl) ?_ _
        refine NoPanic.normal ?_
        clear hM hHeld hd
        go_wp2
        go_ret2
        exact HF
      · go_simp
        replace hM := hM.set
        refine hK.out _ _ (⟨rfl, rfl⟩ : Sqn undef _) (fun hHeld => ?_)
        clear hK K
        (try simp only [Act.put, List.setIfInBounds_toArray, List.set_cons_zero, List.set_cons_succ])
        refine comes_up 4 rfl (by kernel_rfl) (fun K hK => ?_)
        go_simp
        replace hM := hM.sto
        refine hK.out _ _ (⟨rfl, rfl⟩ : Sqn undef _) (fun hHeld => ?_)
        clear hK K
        (try simp only [Act.put, List.setIfInBounds_toArray, List.set_cons_zero, List.set_cons_succ])
        refine tq 7 ?_
        refine comes_up 8 rfl (by kernel_rfl) (fun K hK => ?_)
        go_simp
        have HF := new_tt hM n self Z HZ.out
        unfold newC at HF
        simp only [World.size_alloc, sizeDrew, allocDrew] at HF
        refine hK.out _ _ ((⟨rfl, rfl⟩ : Sqn undef _)) (fun hHeld => ?_)
        clear hK K
        (try simp only [Act.put, List.setIfInBounds_toArray, List.set_cons_zero, List.set_cons_succ])
        refine tq 9 ?_
        refine tq 10 ?_
        refine wpAnyH_done (by kernel_rfl) ?_ _
        refine NoPanic.normal ?_
        clear hM hHeld hd
        go_wp2
        go_ret2
        exact HF
    · go_simp
      replace hM := hM.set
      refine hK.out _ _ (⟨rfl, rfl⟩ : Sqn undef _) (fun hHeld => ?_)
      clear hK K
      (try simp only [Act.put, List.setIfInBounds_toArray, List.set_cons_zero, List.set_cons_succ])
      refine comes_up2 4 5 rfl rfl (by kernel_rfl) (fun K hK => ?_) (fun K hK => ?_)
      · go_simp
        replace hM := hM.sto
        refine hK.out _ _ (⟨rfl, rfl⟩ : Sqn undef _) (fun hHeld => ?_)
        clear hK K
        (try simp only [Act.put, List.setIfInBounds_toArray, List.set_cons_zero, List.set_cons_succ])
        refine comes_up 5 rfl (by kernel_rfl) (fun K hK => ?_)
        go_simp
        refine (hln _).mono ?_
        rintro e WW ⟨mm, SS, rfl, hb0, hS0, hn0, u0⟩
        replace hM := hM.line u0 hb0 hS0 hn0
        clear hb0 hS0 hn0 u0
        go_wp2_with fail
        refine hK.out _ _ (⟨rfl, rfl⟩ : Sqn undef _) (fun hHeld => ?_)
        clear hK K
        (try simp only [Act.put, List.setIfInBounds_toArray, List.set_cons_zero, List.set_cons_succ])
        refine tq 7 ?_
        refine comes_up 8 rfl (by kernel_rfl) (fun K hK => ?_)
        go_simp
        have HF := new_tt hM n self Z HZ.out
        unfold newC at HF
        simp only [World.size_alloc, sizeDrew, allocDrew] at HF
        refine hK.out _ _ ((⟨rfl, rfl⟩ : Sqn undef _)) (fun hHeld => ?_)
        clear hK K
        (try simp only [Act.put, List.setIfInBounds_toArray, List.set_cons_zero, List.set_cons_succ])
        refine tq 9 ?_
        refine tq 10 ?_
        refine wpAnyH_done (by kernel_rfl) ?_ _
        refine NoPanic.normal ?_
        clear hM hHeld hd
        go_wp2
        go_ret2
        exact HF
      · go_simp
        refine (hln _).mono ?_
        rintro e WW ⟨mm, SS, rfl, hb0, hS0, hn0, u0⟩
        replace hM := hM.line u0 hb0 hS0 hn0
        clear hb0 hS0 hn0 u0
        go_wp2_with fail
        refine hK.out _ _ (⟨rfl, rfl⟩ : Sqn undef _) (fun hHeld => ?_)
        clear hK K
        (try simp only [Act.put, List.setIfInBounds_toArray, List.set_cons_zero, List.set_cons_succ])
        refine comes_up 4 rfl (by kernel_rfl) (fun K hK => ?_)
        go_simp
        replace hM := hM.sto
        refine hK.out _ _ (⟨rfl, rfl⟩ : Sqn undef _) (fun hHeld => ?_)
        clear hK K
        (try simp only [Act.put, List.setIfInBounds_toArray, List.set_cons_zero, List.set_cons_succ])
        refine tq 7 ?_
        refine comes_up 8 rfl (by kernel_rfl) (fun K hK => ?_)
        go_simp
        have HF := new_tt hM n self Z HZ.out
        unfold newC at HF
        simp only [World.size_alloc, sizeDrew, allocDrew] at HF
        refine hK.out _ _ ((⟨rfl, rfl⟩ : Sqn undef _)) (fun hHeld => ?_)
        clear hK K
        (try simp only [Act.put, List.setIfInBounds_toArray, List.set_cons_zero, List.set_cons_succ])
        refine tq 9 ?_
        refine tq 10 ?_
        refine wpAnyH_done (by kernel_rfl) ?_ _
        refine NoPanic.normal ?_
        clear hM hHeld hd
        go_wp2
        go_ret2
        exact HF
  · go_simp
    replace hM := hM.sto
    refine hK.out _ _ (⟨rfl, rfl⟩ : Sqn undef _) (fun hHeld => ?_)
    clear hK K
    (try simp only [Act.put, List.setIfInBounds_toArray, List.set_cons_zero, List.set_cons_succ])
    refine comes_up3 3 5 6 rfl rfl rfl (by kernel_rfl) (fun K hK => ?_) (fun K hK => ?_) (fun K hK => ?_)
    · go_simp
      replace hM := hM.chan
      refine hK.out _ _ (⟨rfl, rfl⟩ : Sqn undef _) (fun hHeld => ?_)
      clear hK K
      (try simp only [Act.put, List.setIfInBounds_toArray, List.set_cons_zero, List.set_cons_succ])
      refine comes_up2 5 6 rfl rfl (by kernel_rfl) (fun K hK => ?_) (fun K hK => ?_)
      · go_simp
        refine (hln _).mono ?_
        rintro e WW ⟨mm, SS, rfl, hb0, hS0, hn0, u0⟩
        replace hM := hM.line u0 hb0 hS0 hn0
        clear hb0 hS0 hn0 u0
        go_wp2_with fail
        refine hK.out _ _ (⟨rfl, rfl⟩ : Sqn undef _) (fun hHeld => ?_)
        clear hK K
        (try simp only [Act.put, List.setIfInBounds_toArray, List.set_cons_zero, List.set_cons_succ])
        refine comes_up 6 rfl (by kernel_rfl) (fun K hK => ?_)
        go_simp
        replace hM := hM.set
        refine hK.out _ _ (⟨rfl, rfl⟩ : Sqn undef _) (fun hHeld => ?_)
        clear hK K
        (try simp only [Act.put, List.setIfInBounds_toArray, List.set_cons_zero, List.set_cons_succ])
        refine tq 7 ?_
        refine comes_up 8 rfl (by kernel_rfl) (fun K hK => ?_)
        go_simp
        have HF := new_tt hM n self Z HZ.out
        unfold newC at HF
        simp only [World.size_alloc, sizeDrew, allocDrew] at HF
        refine hK.out _ _ ((⟨rfl, rfl⟩ : Sqn undef _)) (fun hHeld => ?_)
        clear hK K
        (try simp only [Act.put, List.setIfInBounds_toArray, List.set_cons_zero, List.set_cons_succ])
        refine tq 9 ?_
        refine tq 10 ?_
        refine wpAnyH_done (by kernel_rfl) ?_ _
        refine NoPanic.normal ?_
        clear hM hHeld hd
        go_wp2
        go_ret2
        exact HF
      · go_simp
        replace hM := hM.set
        refine hK.out _ _ (⟨rfl, rfl⟩ : Sqn undef _) (fun hHeld => ?_)
        clear hK K
        (try simp only [Act.put, List.setIfInBounds_toArray, List.set_cons_zero, List.set_cons_succ])
        refine comes_up 5 rfl (by kernel_rfl) (fun K hK => ?_)
        go_simp
        refine (hln _).mono ?_
        rintro e WW ⟨mm, SS, rfl, hb0, hS0, hn0, u0⟩
        replace hM := hM.line u0 hb0 hS0 hn0
        clear hb0 hS0 hn0 u0
        go_wp2_with fail
        refine hK.out _ _ (⟨rfl, rfl⟩ : Sqn undef _) (fun hHeld => ?_)
        clear hK K
        (try simp only [Act.put, List.setIfInBounds_toArray, List.set_cons_zero, List.set_cons_succ])
        refine tq 7 ?_
        refine comes_up 8 rfl (by kernel_rfl) (fun K hK => ?_)
        go_simp
        have HF := new_tt hM n self Z HZ.out
        unfold newC at HF
        simp only [World.size_alloc, sizeDrew, allocDrew] at HF
        refine hK.out _ _ ((⟨rfl, rfl⟩ : Sqn undef _)) (fun hHeld => ?_)
        clear hK K
        (try simp only [Act.put, List.setIfInBounds_toArray, List.set_cons_zero, List.set_cons_succ])
        refine tq 9 ?_
        refine tq 10 ?_
        refine wpAnyH_done (by kernel_rfl) ?_ _
        refine NoPanic.normal ?_
        clear hM hHeld hd
        go_wp2
        go_ret2
        exact HF
    · go_simp
      refine (hln _).mono ?_
      rintro e WW ⟨mm, SS, rfl, hb0, hS0, hn0, u0⟩
      replace hM := hM.line u0 hb0 hS0 hn0
      clear hb0 hS0 hn0 u0
      go_wp2_with fail
      refine hK.out _ _ (⟨rfl, rfl⟩ : Sqn undef _) (fun hHeld => ?_)
      clear hK K
      (try simp only [Act.put, List.setIfInBounds_toArray, List.set_cons_zero, List.set_cons_succ])
      refine comes_up2 3 6 rfl rfl (by kernel_rfl) (fun K hK => ?_) (fun K hK => ?_)
      · go_simp
        replace hM := hM.chan
        refine hK.out _ _ (⟨rfl, rfl⟩ : Sqn undef _) (fun hHeld => ?_)
        clear hK K
        (try simp only [Act.put, List.setIfInBounds_toArray, List.set_cons_zero, List.set_cons_succ])
        refine comes_up 6 rfl (by kernel_rfl) (fun K hK => ?_)
        go_simp
        replace hM := hM.set
        refine hK.out _ _ (⟨rfl, rfl⟩ : Sqn undef _) (fun hHeld => ?_)
        clear hK K
        (try simp only [Act.put, List.setIfInBounds_toArray, List.set_cons_zero, List.set_cons_succ])
        refine tq 7 ?_
        refine comes_up 8 rfl (by kernel_rfl) (fun K hK => ?_)
        go_simp
        have HF := new_tt hM n self Z HZ.out
        unfold newC at HF
        simp only [World.size_alloc, sizeDrew, allocDrew] at HF
        refine hK.out _ _ ((⟨rfl, rfl⟩ : Sqn undef _)) (fun hHeld => ?_)
        clear hK K
        (try simp only [Act.put, List.setIfInBounds_toArray, List.set_cons_zero, List.set_cons_succ])
        refine tq 9 ?_
        refine tq 10 ?_
        refine wpAnyH_done (by kernel_rfl) ?_ _
        refine NoPanic.normal ?_
        clear hM hHeld hd
        go_wp2
        go_ret2
        exact HF
      · go_simp
        replace hM := hM.set
        refine hK.out _ _ (⟨rfl, rfl⟩ : Sqn undef _) (fun hHeld => ?_)
        clear hK K
        (try simp only [Act.put, List.setIfInBounds_toArray, List.set_cons_zero, List.set_cons_succ])
        refine comes_up 3 rfl (by kernel_rfl) (fun K hK => ?_)
        go_simp
        replace hM := hM.chan
        refine hK.out _ _ (⟨rfl, rfl⟩ : Sqn undef _) (fun hHeld => ?_)
        clear hK K
        (try simp only [Act.put, List.setIfInBounds_toArray, List.set_cons_zero, List.set_cons_succ])
        refine tq 7 ?_
        refine comes_up 8 rfl (by kernel_rfl) (fun K hK => ?_)
        go_simp
        have HF := new_tt hM n self Z HZ.out
        unfold newC at HF
        simp only [World.size_alloc, sizeDrew, allocDrew] at HF
        refine hK.out _ _ ((⟨rfl, rfl⟩ : Sqn undef _)) (fun hHeld => ?_)
        clear hK K
        (try simp only [Act.put, List.setIfInBounds_toArray, List.set_cons_zero, List.set_cons_succ])
        refine tq 9 ?_
        refine tq 10 ?_
        refine wpAnyH_done (by kernel_rfl) ?_ _
        refine NoPanic.normal ?_
        clear hM hHeld hd
        go_wp2
        go_ret2
        exact HF
    · go_simp
      replace hM := hM.set
      refine hK.out _ _ (⟨rfl, rfl⟩ : Sqn undef _) (fun hHeld => ?_)
      clear hK K
      (try simp only [Act.put, List.setIfInBounds_toArray, List.set_cons_zero, List.set_cons_succ])
      refine comes_up2 3 5 rfl rfl (by kernel_rfl) (fun K hK => ?_) (fun K hK => ?_)
      · go_simp
        replace hM := hM.chan
        refine hK.out _ _ (⟨rfl, rfl⟩ : Sqn undef _) (fun hHeld => ?_)
        clear hK K
        (try simp only [Act.put, List.setIfInBounds_toArray, List.set_cons_zero, List.set_cons_succ])
        refine comes_up 5 rfl (by kernel_rfl) (fun K hK => ?_)
        go_simp
        refine (hln _).mono ?_
        rintro e WW ⟨mm, SS, rfl, hb0, hS0, hn0, u0⟩
        replace hM := hM.line u0 hb0 hS0 hn0
        clear hb0 hS0 hn0 u0
        go_wp2_with fail
        refine hK.out _ _ (⟨rfl, rfl⟩ : Sqn undef _) (fun hHeld => ?_)
        clear hK K
        (try simp only [Act.put, List.setIfInBounds_toArray, List.set_cons_zero, List.set_cons_succ])
        refine tq 7 ?_
        refine comes_up 8 rfl (by kernel_rfl) (fun K hK => ?_)
        go_simp
        have HF := new_tt hM n self Z HZ.out
        unfold newC at HF
        simp only [World.size_alloc, sizeDrew, allocDrew] at HF
        refine hK.out _ _ ((⟨rfl, rfl⟩ : Sqn undef _)) (fun hHeld => ?_)
        clear hK K
        (try simp only [Act.put, List.setIfInBounds_toArray, List.set_cons_zero, List.set_cons_succ])
        refine tq 9 ?_
        refine tq 10 ?_
        refine wpAnyH_done (by kernel_rfl) ?_ _
        refine NoPanic.normal ?_
        clear hM hHeld hd
        go_wp2
        go_ret2
        exact HF
      · go_simp
        refine (hln _).mono ?_
        rintro e WW ⟨mm, SS, rfl, hb0, hS0, hn0, u0⟩
        replace hM := hM.line u0 hb0 hS0 hn0
        clear hb0 hS0 hn0 u0
        go_wp2_with fail
        refine hK.out _ _ (⟨rfl, rfl⟩ : Sqn undef _) (fun hHeld => ?_)
        clear hK K
        (try simp only [Act.put, List.setIfInBounds_toArray, List.set_cons_zero, List.set_cons_succ])
        refine comes_up 3 rfl (by kernel_rfl) (fun K hK => ?_)
        go_simp
        replace hM := hM.chan
        refine hK.out _ _ (⟨rfl, rfl⟩ : Sqn undef _) (fun hHeld => ?_)
        clear hK K
        (try simp only [Act.put, List.setIfInBounds_toArray, List.set_cons_zero, List.set_cons_succ])
        refine tq 7 ?_
        refine comes_up 8 rfl (by kernel_rfl) (fun K hK => ?_)
        go_simp
        have HF := new_tt hM n self Z HZ.out
        unfold newC at HF
        simp only [World.size_alloc, sizeDrew, allocDrew] at HF
        refine hK.out _ _ ((⟨rfl, rfl⟩ : Sqn undef _)) (fun hHeld => ?_)
        clear hK K
        (try simp only [Act.put, List.setIfInBounds_toArray, List.set_cons_zero, List.set_cons_succ])
        refine tq 9 ?_
        refine tq 10 ?_
        refine wpAnyH_done (by kernel_rfl) ?_ _
        refine NoPanic.normal ?_
        clear hM hHeld hd
        go_wp2
        go_ret2
        exact HF
  · go_simp
    refine (hln _).mono ?_
    rintro e WW ⟨mm, SS, rfl, hb0, hS0, hn0, u0⟩
    replace hM := hM.line u0 hb0 hS0 hn0
    clear hb0 hS0 hn0 u0
    go_wp2_with fail
    refine hK.out _ _ (⟨rfl, rfl⟩ : Sqn undef _) (fun hHeld => ?_)
    clear hK K
    (try simp only [Act.put, List.setIfInBounds_toArray, List.set_cons_zero, List.set_cons_succ])
    refine comes_up3 3 4 6 rfl rfl rfl (by kernel_rfl) (fun K hK => ?_) (fun K hK => ?_) (fun K hK => ?_)
    · go_simp
      replace hM := hM.chan
      refine hK.out _ _ (⟨rfl, rfl⟩ : Sqn undef _) (fun hHeld => ?_)
      clear hK K
      (try simp only [Act.put, List.setIfInBounds_toArray, List.set_cons_zero, List.set_cons_succ])
      refine comes_up2 4 6 rfl rfl (by kernel_rfl) (fun K hK => ?_) (fun K hK => ?_)
      · go_simp
        replace hM := hM.sto
        refine hK.out _ _ (⟨rfl, rfl⟩ : Sqn undef _) (fun hHeld => ?_)
        clear hK K
        (try simp only [Act.put, List.setIfInBounds_toArray, List.set_cons_zero, List.set_cons_succ])
        refine comes_up 6 rfl (by kernel_rfl) (fun K hK => ?_)
        go_simp
        replace hM := hM.set
        refine hK.out _ _ (⟨rfl, rfl⟩ : Sqn undef _) (fun hHeld => ?_)
        clear hK K
        (try simp only [Act.put, List.setIfInBounds_toArray, List.set_cons_zero, List.set_cons_succ])
        refine tq 7 ?_
        refine comes_up 8 rfl (by kernel_rfl) (fun K hK => ?_)
        go_simp
        have HF := new_tt hM n self Z HZ.out
        unfold newC at HF
        simp only [World.size_alloc, sizeDrew, allocDrew] at HF
        refine hK.out _ _ ((⟨rfl, rfl⟩ : Sqn undef _)) (fun hHeld => ?_)
        clear hK K
        (try simp only [Act.put, List.setIfInBounds_toArray, List.set_cons_zero, List.set_cons_succ])
        refine tq 9 ?_
        refine tq 10 ?_
        refine wpAnyH_done (by kernel_rfl) ?_ _
        refine NoPanic.normal ?_
        clear hM hHeld hd
        go_wp2
        go_ret2
        exact HF
      · go_simp
        replace hM := hM.set
        refine hK.out _ _ (⟨rfl, rfl⟩ : Sqn undef _) (fun hHeld => ?_)
        clear hK K
        (try simp only [Act.put, List.setIfInBounds_toArray, List.set_cons_zero, List.set_cons_succ])
        refine comes_up 4 rfl (by kernel_rfl) (fun K hK => ?_)
        go_simp
        replace hM := hM.sto
        refine hK.out _ _ (⟨rfl, rfl⟩ : Sqn undef _) (fun hHeld => ?_)
        clear hK K
        (try simp only [Act.put, List.setIfInBounds_toArray, List.set_cons_zero, List.set_cons_succ])
        refine tq 7 ?_
        refine comes_up 8 rfl (by kernel_rfl) (fun K hK => ?_)
        go_simp
        have HF := new_tt hM n self Z HZ.out
        unfold newC at HF
        simp only [World.size_alloc, sizeDrew, allocDrew] at HF
        refine hK.out _ _ ((⟨rfl, rfl⟩ : Sqn undef _)) (fun hHeld => ?_)
        clear hK K
        (try simp only [Act.put, List.setIfInBounds_toArray, List.set_cons_zero, List.set_cons_succ])
        refine tq 9 ?_
        refine tq 10 ?_
        refine wpAnyH_done (by kernel_rfl) ?_ _
        refine NoPanic.normal ?_
        clear hM hHeld hd
        go_wp2
        go_ret2
        exact HF
    · go_simp
      replace hM := hM.sto
      refine hK.out _ _ (⟨rfl, rfl⟩ : Sqn undef _) (fun hHeld => ?_)
      clear hK K
      (try simp only [Act.put, List.setIfInBounds_toArray, List.set_cons_zero, List.set_cons_succ])
      refine comes_up2 3 6 rfl rfl (by kernel_rfl) (fun K hK => ?_) (fun K hK => ?_)
      · go_simp
        replace hM := hM.chan
        refine hK.out _ _ (⟨rfl, rfl⟩ : Sqn undef _) (fun hHeld => ?_)
        clear hK K
        (try simp only [Act.put, List.setIfInBounds_toArray, List.set_cons_zero, List.set_cons_succ])
        refine comes_up 6 rfl (by kernel_rfl) (fun K hK => ?_)
        go_simp
        replace hM := hM.set
        refine hK.out _ _ (⟨rfl, rfl⟩ : Sqn undef _) (fun hHeld => ?_)
        clear hK K
        (try simp only [Act.put, List.setIfInBounds_toArray, List.set_cons_zero, List.set_cons_succ])
        refine tq 7 ?_
        refine comes_up 8 rfl (by kernel_rfl) (fun K hK => ?_)
        go_simp
        have HF := new_tt hM n self Z HZ.out
        unfold newC at HF
        simp only [World.size_alloc, sizeDrew, allocDrew] at HF
        refine hK.out _ _ ((⟨rfl, rfl⟩ : Sqn undef _)) (fun hHeld => ?_)
        clear hK K
        (try simp only [Act.put, List.setIfInBounds_toArray, List.set_cons_zero, List.set_cons_succ])
        refine tq 9 ?_
        refine tq 10 ?_
        refine wpAnyH_done (by kernel_rfl) ?_ _
        refine NoPanic.normal ?_
        clear hM hHeld hd
        go_wp2
        go_ret2
        exact HF
      · go_simp
        replace hM := hM.set
        refine hK.out _ _ (⟨rfl, rfl⟩ : Sqn undef _) (fun hHeld => ?_)
        clear hK K
        (try simp only [Act.put, List.setIfInBounds_toArray, List.set_cons_zero, List.set_cons_succ])
        refine comes_up 3 rfl (by kernel_rfl) (fun K hK => ?_)
        go_simp
        replace hM := hM.chan
        refine hK.out _ _ (⟨rfl, rfl⟩ : Sqn undef _) (fun hHeld => ?_)
        clear hK K
        (try simp only [Act.put, List.setIfInBounds_toArray, List.set_cons_zero, List.set_cons_succ])
        refine tq 7 ?_
        refine comes_up 8 rfl (by kernel_rfl) (fun K hK => ?_)
        go_simp
        have HF := new_tt hM n self Z HZ.out
        unfold newC at HF
        simp only [World.size_alloc, sizeDrew, allocDrew] at HF
        refine hK.out _ _ ((⟨rfl, rfl⟩ : Sqn undef _)) (fun hHeld => ?_)
        clear hK K
        (try simp only [Act.put, List.setIfInBounds_toArray, List.set_cons_zero, List.set_cons_succ])
        refine tq 9 ?_
        refine tq 10 ?_
        refine wpAnyH_done (by kernel_rfl) ?_ _
        refine NoPanic.normal ?_
        clear hM hHeld hd
        go_wp2
        go_ret2
        exact HF
    · go_simp
      replace hM := hM.set
      refine hK.out _ _ (⟨rfl, rfl⟩ : Sqn undef _) (fun hHeld => ?_)
      clear hK K
      (try simp only [Act.put, List.setIfInBounds_toArray, List.set_cons_zero, List.set_cons_succ])
      refine comes_up2 3 4 rfl rfl (by kernel_rfl) (fun K hK => ?_) (fun K hK => ?_)
      · go_simp
        replace hM := hM.chan
        refine hK.out _ _ (⟨rfl, rfl⟩ : Sqn undef _) (fun hHeld => ?_)
        clear hK K
        (try simp only [Act.put, List.setIfInBounds_toArray, List.set_cons_zero, List.set_cons_succ])
        refine comes_up 4 rfl (by kernel_rfl) (fun K hK => ?_)
        go_simp
        replace hM := hM.sto
        refine hK.out _ _ (⟨rfl, rfl⟩ : Sqn undef _) (fun hHeld => ?_)
        clear hK K
        (try simp only [Act.put, List.setIfInBounds_toArray, List.set_cons_zero, List.set_cons_succ])
        refine tq 7 ?_
        refine comes_up 8 rfl (by kernel_rfl) (fun K hK => ?_)
        go_simp
        have HF := new_tt hM n self Z HZ.out
        unfold newC at HF
        simp only [World.size_alloc, sizeDrew, allocDrew] at HF
        refine hK.out _ _ ((⟨rfl, rfl⟩ : Sqn undef _)) (fun hHeld => ?_)
        clear hK K
        (try simp only [Act.put, List.setIfInBounds_toArray, List.set_cons_zero, List.set_cons_succ])
        refine tq 9 ?_
        refine tq 10 ?_
        refine wpAnyH_done (by kernel_rfl) ?_ _
        refine NoPanic.normal ?_
        clear hM hHeld hd
        go_wp2
        go_ret2
        exact HF
      · go_simp
        replace hM := hM.sto
        refine hK.out _ _ (⟨rfl, rfl⟩ : Sqn undef _) (fun hHeld => ?_)
        clear hK K
        (try simp only [Act.put, List.setIfInBounds_toArray, List.set_cons_zero, List.set_cons_succ])
        refine comes_up 3 rfl (by kernel_rfl) (fun K hK => ?_)
        go_simp
        replace hM := hM.chan
        refine hK.out _ _ (⟨rfl, rfl⟩ : Sqn undef _) (fun hHeld => ?_)
        clear hK K
        (try simp only [Act.put, List.setIfInBounds_toArray, List.set_cons_zero, List.set_cons_succ])
        refine tq 7 ?_
        refine comes_up 8 rfl (by kernel_rfl) (fun K hK => ?_)
        go_simp
        have HF := new_tt hM n self Z HZ.out
        unfold newC at HF
        simp only [World.size_alloc, sizeDrew, allocDrew] at HF
        refine hK.out _ _ ((⟨rfl, rfl⟩ : Sqn undef _)) (fun hHeld => ?_)
        clear hK K
        (try simp only [Act.put, List.setIfInBounds_toArray, List.set_cons_zero, List.set_cons_succ])
        refine tq 9 ?_
        refine tq 10 ?_
        refine wpAnyH_done (by kernel_rfl) ?_ _
        refine NoPanic.normal ?_
        clear hM hHeld hd
        go_wp2
        go_ret2
        exact HF
  · go_simp
    replace hM := hM.set
    refine hK.out _ _ (⟨rfl, rfl⟩ : Sqn undef _) (fun hHeld => ?_)
    clear hK K
    (try simp only [Act.put, List.setIfInBounds_toArray, List.set_cons_zero, List.set_cons_succ])
    refine comes_up3 3 4 5 rfl rfl rfl (by kernel_rfl) (fun K hK => ?_) (fun K hK => ?_) (fun K hK => ?_)
    · go_simp
      replace hM := hM.chan
      refine hK.out _ _ (⟨rfl, rfl⟩ : Sqn undef _) (fun hHeld => ?_)
      clear hK K
      (try simp only [Act.put, List.setIfInBounds_toArray, List.set_cons_zero, List.set_cons_succ])
      refine comes_up2 4 5 rfl rfl (by kernel_rfl) (fun K hK => ?_) (fun K hK => ?_)
      · go_simp
        replace hM := hM.sto
        refine hK.out _ _ (⟨rfl, rfl⟩ : Sqn undef _) (fun hHeld => ?_)
        clear hK K
        (try simp only [Act.put, List.setIfInBounds_toArray, List.set_cons_zero, List.set_cons_succ])
        refine comes_up 5 rfl (by kernel_rfl) (fun K hK => ?_)
        go_simp
        refine (hln _).mono ?_
        rintro e WW ⟨mm, SS, rfl, hb0, hS0, hn0, u0⟩
        replace hM := hM.line u0 hb0 hS0 hn0
        clear hb0 hS0 hn0 u0
        go_wp2_with fail
        refine hK.out _ _ (⟨rfl, rfl⟩ : Sqn undef _) (fun hHeld => ?_)
        clear hK K
        (try simp only [Act.put, List.setIfInBounds_toArray, List.set_cons_zero, List.set_cons_succ])
        refine tq 7 ?_
        refine comes_up 8 rfl (by kernel_rfl) (fun K hK => ?_)
        go_simp
        have HF := new_tt hM n self Z HZ.out
        unfold newC at HF
        simp only [World.size_alloc, sizeDrew, allocDrew] at HF
        refine hK.out _ _ ((⟨rfl, rfl⟩ : Sqn undef _)) (fun hHeld => ?_)
        clear hK K
        (try simp only [Act.put, List.setIfInBounds_toArray, List.set_cons_zero, List.set_cons_succ])
        refine tq 9 ?_
        refine tq 10 ?_
        refine wpAnyH_done (by kernel_rfl) ?_ _
        refine NoPanic.normal ?_
        clear hM hHeld hd
        go_wp2
        go_ret2
        exact HF
      · go_simp
        refine (hln _).mono ?_
        rintro e WW ⟨mm, SS, rfl, hb0, hS0, hn0, u0⟩
        replace hM := hM.line u0 hb0 hS0 hn0
        clear hb0 hS0 hn0 u0
        go_wp2_with fail
        refine hK.out _ _ (⟨rfl, rfl⟩ : Sqn undef _) (fun hHeld => ?_)
        clear hK K
        (try simp only [Act.put, List.setIfInBounds_toArray, List.set_cons_zero, List.set_cons_succ])
        refine comes_up 4 rfl (by kernel_rfl) (fun K hK => ?_)
        go_simp
        replace hM := hM.sto
        refine hK.out _ _ (⟨rfl, rfl⟩ : Sqn undef _) (fun hHeld => ?_)
        clear hK K
        (try simp only [Act.put, List.setIfInBounds_toArray, List.set_cons_zero, List.set_cons_succ])
        refine tq 7 ?_
        refine comes_up 8 rfl (by kernel_rfl) (fun K hK => ?_)
        go_simp
        have HF := new_tt hM n self Z HZ.out
        unfold newC at HF
        simp only [World.size_alloc, sizeDrew, allocDrew] at HF
        refine hK.out _ _ ((⟨rfl, rfl⟩ : Sqn undef _)) (fun hHeld => ?_)
        clear hK K
        (try simp only [Act.put, List.setIfInBounds_toArray, List.set_cons_zero, List.set_cons_succ])
        refine tq 9 ?_
        refine tq 10 ?_
        refine wpAnyH_done (by kernel_rfl) ?_ _
        refine NoPanic.normal ?_
        clear hM hHeld hd
        go_wp2
        go_ret2
        exact HF
    · go_simp
      replace hM := hM.sto
      refine hK.out _ _ (⟨rfl, rfl⟩ : Sqn undef _) (fun hHeld => ?_)
      clear hK K
      (try simp only [Act.put, List.setIfInBounds_toArray, List.set_cons_zero, List.set_cons_succ])
      refine comes_up2 3 5 rfl rfl (by kernel_rfl) (fun K hK => ?_) (fun K hK => ?_)
      · go_simp
        replace hM := hM.chan
        refine hK.out _ _ (⟨rfl, rfl⟩ : Sqn undef _) (fun hHeld => ?_)
        clear hK K
        (try simp only [Act.put, List.setIfInBounds_toArray, List.set_cons_zero, List.set_cons_succ])
        refine comes_up 5 rfl (by kernel_rfl) (fun K hK => ?_)
        go_simp
        refine (hln _).mono ?_
        rintro e WW ⟨mm, SS, rfl, hb0, hS0, hn0, u0⟩
        replace hM := hM.line u0 hb0 hS0 hn0
        clear hb0 hS0 hn0 u0
        go_wp2_with fail
        refine hK.out _ _ (⟨rfl, rfl⟩ : Sqn undef _) (fun hHeld => ?_)
        clear hK K
        (try simp only [Act.put, List.setIfInBounds_toArray, List.set_cons_zero, List.set_cons_succ])
        refine tq 7 ?_
        refine comes_up 8 rfl (by kernel_rfl) (fun K hK => ?_)
        go_simp
        have HF := new_tt hM n self Z HZ.out
        unfold newC at HF
        simp only [World.size_alloc, sizeDrew, allocDrew] at HF
        refine hK.out _ _ ((⟨rfl, rfl⟩ : Sqn undef _)) (fun hHeld => ?_)
        clear hK K
        (try simp only [Act.put, List.setIfInBounds_toArray, List.set_cons_zero, List.set_cons_succ])
        refine tq 9 ?_
        refine tq 10 ?_
        refine wpAnyH_done (by kernel_rfl) ?_ _
        refine NoPanic.normal ?_
        clear hM hHeld hd
        go_wp2
        go_ret2
        exact HF
      · go_simp
        refine (hln _).mono ?_
        rintro e WW ⟨mm, SS, rfl, hb0, hS0, hn0, u0⟩
        replace hM := hM.line u0 hb0 hS0 hn0
        clear hb0 hS0 hn0 u0
        go_wp2_with fail
        refine hK.out _ _ (⟨rfl, rfl⟩ : Sqn undef _) (fun hHeld => ?_)
        clear hK K
        (try simp only [Act.put, List.setIfInBounds_toArray, List.set_cons_zero, List.set_cons_succ])
        refine comes_up 3 rfl (by kernel_rfl) (fun K hK => ?_)
        go_simp
        replace hM := hM.chan
        refine hK.out _ _ (⟨rfl, rfl⟩ : Sqn undef _) (fun hHeld => ?_)
        clear hK K
        (try simp only [Act.put, List.setIfInBounds_toArray, List.set_cons_zero, List.set_cons_succ])
        refine tq 7 ?_
        refine comes_up 8 rfl (by kernel_rfl) (fun K hK => ?_)
        go_simp
        have HF := new_tt hM n self Z HZ.out
        unfold newC at HF
        simp only [World.size_alloc, sizeDrew, allocDrew] at HF
        refine hK.out _ _ ((⟨rfl, rfl⟩ : Sqn undef _)) (fun hHeld => ?_)
        clear hK K
        (try simp only [Act.put, List.setIfInBounds_toArray, List.set_cons_zero, List.set_cons_succ])
        refine tq 9 ?_
        refine tq 10 ?_
        refine wpAnyH_done (by kernel_rfl) ?_ _
        refine NoPanic.normal ?_
        clear hM hHeld hd
        go_wp2
        go_ret2
        exact HF
    · go_simp
      refine (hln _).mono ?_
      rintro e WW ⟨mm, SS, rfl, hb0, hS0, hn0, u0⟩
      replace hM := hM.line u0 hb0 hS0 hn0
      clear hb0 hS0 hn0 u0
      go_wp2_with fail
      refine hK.out _ _ (⟨rfl, rfl⟩ : Sqn undef _) (fun hHeld => ?_)
      clear hK K
      (try simp only [Act.put, List.setIfInBounds_toArray, List.set_cons_zero, List.set_cons_succ])
      refine comes_up2 3 4 rfl rfl (by kernel_rfl) (fun K hK => ?_) (fun K hK => ?_)
      · go_simp
        replace hM := hM.chan
        refine hK.out _ _ (⟨rfl, rfl⟩ : Sqn undef _) (fun hHeld => ?_)
        clear hK K
        (try simp only [Act.put, List.setIfInBounds_toArray, List.set_cons_zero, List.set_cons_succ])
        refine comes_up 4 rfl (by kernel_rfl) (fun K hK => ?_)
        go_simp
        replace hM := hM.sto
        refine hK.out _ _ (⟨rfl, rfl⟩ : Sqn undef _) (fun hHeld => ?_)
        clear hK K
        (try simp only [Act.put, List.setIfInBounds_toArray, List.set_cons_zero, List.set_cons_succ])
        refine tq 7 ?_
        refine comes_up 8 rfl (by kernel_rfl) (fun K hK => ?_)
        go_simp
        have HF := new_tt hM n self Z HZ.out
        unfold newC at HF
        simp only [World.size_alloc, sizeDrew, allocDrew] at HF
        refine hK.out _ _ ((⟨rfl, rfl⟩ : Sqn undef _)) (fun hHeld => ?_)
        clear hK K
        (try simp only [Act.put, List.setIfInBounds_toArray, List.set_cons_zero, List.set_cons_succ])
        refine tq 9 ?_
        refine tq 10 ?_
        refine wpAnyH_done (by kernel_rfl) ?_ _
        refine NoPanic.normal ?_
        clear hM hHeld hd
        go_wp2
        go_ret2
        exact HF
      · go_simp
        replace hM := hM.sto
        refine hK.out _ _ (⟨rfl, rfl⟩ : Sqn undef _) (fun hHeld => ?_)
        clear hK K
        (try simp only [Act.put, List.setIfInBounds_toArray, List.set_cons_zero, List.set_cons_succ])
        refine comes_up 3 rfl (by kernel_rfl) (fun K hK => ?_)
        go_simp
        replace hM := hM.chan
        refine hK.out _ _ (⟨rfl, rfl⟩ : Sqn undef _) (fun hHeld => ?_)
        clear hK K
        (try simp only [Act.put, List.setIfInBounds_toArray, List.set_cons_zero, List.set_cons_succ])
        refine tq 7 ?_
        refine comes_up 8 rfl (by kernel_rfl) (fun K hK => ?_)
        go_simp
        have HF := new_tt hM n self Z HZ.out
        unfold newC at HF
        simp only [World.size_alloc, sizeDrew, allocDrew] at HF
        refine hK.out _ _ ((⟨rfl, rfl⟩ : Sqn undef _)) (fun hHeld => ?_)
        clear hK K
        (try simp only [Act.put, List.setIfInBounds_toArray, List.set_cons_zero, List.set_cons_succ])
        refine tq 9 ?_
        refine tq 10 ?_
        refine wpAnyH_done (by kernel_rfl) ?_ _
        refine NoPanic.normal ?_
        clear hM hHeld hd
        go_wp2
        go_ret2
        exact HF
end Go.Proofs.YtlaihgdfedalmaaGreat
