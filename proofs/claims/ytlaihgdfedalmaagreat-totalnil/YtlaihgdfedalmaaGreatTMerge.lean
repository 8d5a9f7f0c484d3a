/-
  content.Merge: entries, by their labels, with others.
-/
import Derived.Test.YtlaihgdfedalmaaGreatTMerge1
import Derived.Test.YtlaihgdfedalmaaGreatFFind
import Derived.Laws.MakeOwn
namespace Go.Proofs.YtlaihgdfedalmaaGreat
open Go.RowKit Go.Shelf
set_option linter.unusedVariables false
set_option linter.unusedSimpArgs false
attribute [local go_sem] Oper.semAt_some

theorem ER.xr {p : Nat → Prop} {w : World} {ao : Option Addr} {n : Nat} {es : List En} (h : ER p w ao n es) :
    ∃ xs : List T.Sx, T.XR w ao n xs ∧ ∀ (j : Nat) e x, es[j]? = some e → xs[j]? = some x → x.1 = e.1 ∧ Cd.Row w x.2.1 x.2.2.1 x.2.2.2 e.2 := by
  obtain ⟨xs, hl, hx, b, off, hb, hc⟩ := h.split
  exact ⟨xs, ⟨hl, fun hn => ⟨b, off, (hb hn).1, hc⟩⟩, fun j e x he hj => ⟨(hx j e x he hj).1, (hx j e x he hj).2.1⟩⟩

theorem make22 (n m : Nat) (hc : n + m ≤ 100000) (w : World) : ∃ cur, (Instr.makeSlice 42 (.int .i64 0) (.int .i64 ((n : Int) + (m : Int)))).run Tryz.prog w = .ok (.slice (some ⟨w.heap.size, 0, none⟩) 0 (n + m)) (w.alloc (.cells cur 41)) ∧ cur.size = (n + m) * 5 := by
  obtain ⟨i0, hi, hz0, hz1, hz2⟩ := info_parts infoE29
  have h := run_make (P := Tryz.prog) w 42 41 i0 _ und35 hi hz0 .i64 .i64 0 ((n : Int) + (m : Int)) (by omega) (by omega) (by rw [hz2]; omega) (by omega)
  rw [show ((n : Int) + (m : Int)).toNat = n + m by omega] at h
  exact ⟨_, h, by rw [size_madeCells, hz1]⟩
theorem own_base {w : World} {B B' n s : Nat} {t : TypeId} {v : Value} {xs : List Value} (h : w.ownsRow B t s v n xs) (hb : B' ≤ B) : w.ownsRow B' t s v n xs := by
  refine ⟨h.1, ?_⟩
  rcases h.2 with h | ⟨g, cap, cur, e, hg, r⟩
  · exact .inl h
  · exact .inr ⟨g, cap, cur, e, Nat.le_trans hb hg, r⟩
theorem EO.base {B B' : Nat} {w : World} {v : Value} {es : List En} (h : EO B w v es) (hb : B' ≤ B) : EO B' w v es := by
  obtain ⟨xs, hl, ho, hm⟩ := h
  exact ⟨xs, hl, own_base ho hb, fun j e x he hx => ⟨(hm j e x he hx).1, (hm j e x he hx).2.1, fun a ha hn => ⟨Nat.le_trans hb ((hm j e x he hx).2.2 a ha hn).1, ((hm j e x he hx).2.2 a ha hn).2⟩⟩⟩
theorem EO.er2 {B : Nat} {w : World} {v : Value} {es : List En} (h : EO B w v es) : ∃ ao cap, v = .slice ao es.length cap ∧ (ao = none → es.length = 0 ∧ cap = 0) ∧ ER (fun _ => True) w ao es.length es := by
  obtain ⟨ao, cap, hv, h0, h1, h2⟩ := h.er
  refine ⟨ao, cap, hv, fun e => ?_, h2.mono (fun _ _ => trivial)⟩
  obtain ⟨_, _, ho, _⟩ := h
  rcases id ho.2 with ⟨hn, h3⟩ | ⟨g, cap', cur, hs, _⟩
  · rw [hn] at hv
    simp at hv
    exact ⟨h3, hv.2.2.symm⟩
  · rw [hs] at hv
    simp at hv
    rw [e] at hv
    simp at hv
/-- What a round reads. -/
def Sm (Bx Bm : Nat) (x : Lb) (so : Option Addr) (sn sc : Nat) (v : Value) (w : World) : Prop :=
  w.cell? ⟨Bx, 0, none⟩ = some (.int .u64 (x.1 : Nat)) ∧ w.cell? ⟨Bx, 1, none⟩ = some (.int .i64 x.2.1) ∧ w.cell? ⟨Bx, 2, none⟩ = some (.int .u64 (x.2.2.1 : Nat)) ∧ w.cell? ⟨Bx, 3, none⟩ = some (.int .i64 x.2.2.2) ∧ w.cell? ⟨Bx, 4, none⟩ = some (.slice so sn sc) ∧
  w.cell? ⟨Bm, 0, none⟩ = some v
theorem keeps_grown {B : Nat} {W W' : World} {row : Option Nat} (g : W.grownBy W' row) (hr : ∀ r, row = some r → ∃ c t f, W.heap[r]? = some (.cells c t f)) : KeepsFrom B W W' :=
  ⟨g.size, fun k o _ hk hc => (g.block k (Array.getElem?_eq_some_iff.1 hk).1 (fun e => by
    obtain ⟨c, t, f, h⟩ := hr k e.symm
    rw [h] at hk
    cases hk
    cases hc)).trans hk⟩
theorem own_cells {w : World} {B n : Nat} {v : Value} {xs : List Value} (h : w.ownsRow B 41 5 v n xs) : ∀ r, v.ownBlock = some r → ∃ c t f, w.heap[r]? = some (.cells c t f) := fun r hr => by
  rcases id h.2 with ⟨rfl, _⟩ | ⟨g, cap, cur, rfl, hg, hh, _⟩
  · cases hr
  · cases hr
    exact ⟨_, _, _, hh⟩
set_option maxRecDepth 100000 in
set_option maxHeartbeats 4000000 in
theorem merge_any (w : World) (ao : Option Addr) (n cap : Nat) (es : List En) (h : ER (fun _ => True) w ao n es) (hz : ao = none → n = 0 ∧ cap = 0)
    (bo : Option Addr) (m cbp : Nat) (ms : List En) (hm : ER (fun _ => True) w bo m ms) (hzm : bo = none → m = 0 ∧ cbp = 0) (hn : n + m ≤ 100000) (hml : ∀ e ∈ es ++ ms, e.2.length ≤ 140737488355328) :
    Calls Tryz.prog 110 #[.slice ao n cap, .slice bo m cbp] w fun e w' => ∃ v, e = .returned v ∧ EO w.heap.size w' v (mergeE [] (es ++ ms)) ∧ Below w.heap.size w w' := by
  obtain ⟨xs, hxr, hxs⟩ := h.xr
  obtain ⟨ys, hyr, hys⟩ := hm.xr
  have hel := h.1
  have hxl := hxr.1
  have hml2 := hm.1
  have hyl := hyr.1
  have HALL : Hid (∀ (j : Nat) e x, (es ++ ms)[j]? = some e → (xs ++ ys)[j]? = some x → x.1 = e.1 ∧ Cd.Row w x.2.1 x.2.2.1 x.2.2.2 e.2) := fun j e x he hx => by
    by_cases hj : j < n
    · rw [List.getElem?_append_left (by omega)] at he hx
      exact hxs j e x he hx
    · rw [List.getElem?_append_right (by omega)] at he hx
      rw [hel] at he
      rw [hxl] at hx
      exact hys _ e x he hx
  have HN : Hid ((xs ++ ys).length = (es ++ ms).length ∧ (es ++ ms).length = n + m) := ⟨by simp; omega, by simp; omega⟩
  have HML : Hid (∀ e ∈ es ++ ms, e.2.length ≤ 140737488355328) := hml
  have ba : Below w.heap.size w (w.alloc (.cells #[.slice ao n cap, .slice bo m cbp] 42)) := bl1 _ _
  have hcc := T.concat_any (w.alloc (.cells #[.slice ao n cap, .slice bo m cbp] 42)) w.heap.size ao n cap xs (hxr.up ba) hz bo m cbp ys (hyr.up ba) hzm hn (cell_box w _ 42 0 _ rfl) (cell_box w _ 42 1 _ rfl)
  generalize xs ++ ys = zs at *
  generalize es ++ ms = E at *
  clear h hm hxs hys hxr hyr hel hxl hml2 hyl hml hz hzm
  refine (callsIn_wide (n := 6)).1 ?_
  refine callsIn_of_wp_marks Tryz.func110 rfl trivial ?_ rfl
  simp only [Tryz.ntmps110, List.size_toArray, List.length_cons, List.length_nil, Nat.reduceAdd, Nat.reduceSub, Array.replicate_succ, Array.replicate_zero, List.push_toArray, List.append_toArray, List.nil_append, List.cons_append]
  gi_wp2_with (refine ⟨trivial, ?_⟩; gi_at_call 141; refine (callsIn_wide.2 hcc).mono ?_)
  rintro e w1 ⟨v, rfl, hown, hb1⟩
  have hb01 := ba.trans (hb1.mono ba.size)
  have hs0 : (w.alloc (.cells #[.slice ao n cap, .slice bo m cbp] 42)).heap.size = w.heap.size + 1 := by simp
  rw [hs0] at hown hb1
  have hso := sort_own w1 (w.heap.size + 1) (n + m) v zs hown (by have := HN.out; omega) (by omega)
  have hsz1 := hb1.size
  clear hcc ba hs0
  gi_wp2_with (refine ⟨trivial, ?_⟩; gi_at_call 142; refine (callsIn_wide.2 hso).mono ?_)
  rintro e w2 ⟨rfl, M, hp, ha, hown2, hgr2⟩
  obtain ⟨F, hFl, hMl, hK, hFx, hab⟩ := sorted_says HN.out.1 HALL.out hp ha
  obtain ⟨go, capg, g, rfl, hgo, hc5⟩ := own_c5 hown2 (by rw [List.length_map, hMl]; exact HN.out.2)
  obtain ⟨cur, hmk, hcur⟩ := make22 n m hn w2
  clear hso hown
  gi_wp2_with (refine ⟨trivial, ?_⟩; gi_at_call 144; refine (callsIn_wide.2 (climb_any _ _ _ _)).mono ?_; rintro e w' ⟨rfl, rfl⟩)
  obtain ⟨zM, hzM⟩ : ∃ zM, M.map (·.1) = zM := ⟨_, rfl⟩
  rw [hzM] at hown2 hFx hab hc5
  have hzl : zM.length = n + m := by rw [← hzM, List.length_map, hMl]; exact HN.out.2
  have hEl := HN.out.2
  obtain ⟨r0, hr0⟩ : ∃ r, w2.heap.size = r := ⟨_, rfl⟩
  have hB2 : Below w.heap.size w w2 := bl_grown hb01 hb01.size hgr2 (fun k hk => by have := (hown2.lt k hk).1; omega)
  have hr0w : w.heap.size ≤ r0 := by rw [← hr0]; exact hB2.size
  have hmd : (w2.alloc (.cells cur 41)).ownsRow r0 41 5 (.slice (some ⟨r0, 0, none⟩) 0 (n + m)) 0 [] := by
    rw [← hr0]
    exact World.ownsRow_made w2 cur (n + m) (Nat.le_refl _) (by unfold maxLen; omega) hcur
  obtain ⟨W0, hW0⟩ : ∃ W0, ((w2.alloc (.cells cur 41)).alloc (.cells #[.slice (some ⟨r0, 0, none⟩) 0 (n + m)] 42)).alloc (.cells #[.slice go (n + m) capg] 42) = W0 := ⟨_, rfl⟩
  have hb20 : Below w2.heap.size w2 W0 := by rw [← hW0]; exact bl_step (bl_step (bl1 _ _) (bl1 _ _)) (bl1 _ _)
  have hsz : W0.heap.size = r0 + 3 := by rw [← hW0, ← hr0]; simp
  have hs1 : (w2.alloc (.cells cur 41)).heap.size = r0 + 1 := by rw [← hr0]; simp
  have hs2 : ((w2.alloc (.cells cur 41)).alloc (.cells #[.slice (some ⟨r0, 0, none⟩) 0 (n + m)] 42)).heap.size = r0 + 2 := by rw [← hr0]; simp
  have hbx0 : W0.heap[r0 + 1]? = some (.cells #[.slice (some ⟨r0, 0, none⟩) 0 (n + m)] 42 (0, 0)) := by
    rw [← hW0, Below.heap_alloc _ _ _ (by rw [hs2]; omega), ← hs1]
    exact heap_alloc_new _ _
  have hBs0 : W0.cell? ⟨r0 + 2, 0, none⟩ = some (.slice go zM.length capg) := by
    rw [← hW0, ← hs2, hzl]
    exact cell_box _ _ 42 0 _ rfl
  have hEO0 : EO r0 W0 (.slice (some ⟨r0, 0, none⟩) 0 (n + m)) [] := by
    have h1 : EO r0 (w2.alloc (.cells cur 41)) (.slice (some ⟨r0, 0, none⟩) 0 (n + m)) [] := ⟨[], rfl, hmd, fun j e x he => by simp at he⟩
    rw [← hW0]
    exact h1.bl (bl_step (bl1 _ _) (bl1 _ _))
  have hB0 : Below w.heap.size w W0 := bl_step hB2 hb20
  have hc0 : ∀ j x, zM[j]? = some x → C5 W0 g (0 + j * 5) x := fun j x hj => by
    obtain ⟨c0, c1, c2, c3, c4⟩ := hc5 j x hj
    exact ⟨bl_cell hb20 c0, bl_cell hb20 c1, bl_cell hb20 c2, bl_cell hb20 c3, bl_cell hb20 c4⟩
  have hg0 : 0 < zM.length → g < r0 := fun h => by rw [← hr0]; exact (hgo (by omega)).2.2.2
  have hgo' : 0 < zM.length → go = some ⟨g, 0, none⟩ := fun h => (hgo (by omega)).1
  obtain ⟨g, hg0, hgo', hc0⟩ : ∃ g, g < r0 + 1 ∧ (0 < zM.length → go = some ⟨g, 0, none⟩ ∧ g < r0) ∧ ∀ j x, zM[j]? = some x → C5 W0 g (0 + j * 5) x := by
    by_cases h0 : zM.length = 0
    · have e : zM = [] := List.eq_nil_of_length_eq_zero h0
      subst e
      exact ⟨0, by omega, fun h => absurd h (by simp), fun j x hx => (by simp at hx)⟩
    · exact ⟨g, by have := hg0 (by omega); omega, fun h => ⟨hgo' h, hg0 h⟩, hc0⟩
  rw [hr0, hW0]
  have hEk : ∀ (A B : World) (row : Option Nat) (v : Value) (l : List En), EO r0 A v l → A.grownBy B row → (∀ r, row = some r → W0.heap.size ≤ r ∧ ∃ o : Obj, A.heap[r]? = some o ∧ o.isCells = false) → EO r0 B v l := fun A B row v l h hg hr => h.gr2 hg (fun r e => (hr r e).2)
  have hRk : ∀ (A B : World) (row : Option Nat) (v : Value), A.heap[r0 + 1]? = some (.cells #[v] 42 (0, 0)) → A.grownBy B row → (∀ r, row = some r → W0.heap.size ≤ r ∧ ∃ o : Obj, A.heap[r]? = some o ∧ o.isCells = false) → B.heap[r0 + 1]? = some (.cells #[v] 42 (0, 0)) := fun A B row v h hg hr =>
    (hg.block _ (Array.getElem?_eq_some_iff.1 h).1 (fun e => by have := (hr _ e.symm).1; omega)).trans h
  have hBk : ∀ (A B : World) (row : Option Nat), Below w.heap.size w A → A.grownBy B row → (∀ r, row = some r → W0.heap.size ≤ r ∧ ∃ o : Obj, A.heap[r]? = some o ∧ o.isCells = false) → Below w.heap.size w B := fun A B row h hg hr =>
    bl_grown h h.size hg (fun k hk => by have := (hr _ hk).1; omega)
  have hmaxM : zM.length ≤ 140737488355328 := by omega
  clear hc5 hgo hmk hW0 hmd hs1 hs2 hb20 hr0 hcur hgr2 hB2 hown2 hb01 hb1 hsz1 HALL hp ha hzM
  refine wpIn_rangeFunc_ownH rfl (by omega) (gf := 171) (lb := #[.pointer (some ⟨r0 + 2, 0, none⟩)]) rfl trivial (enters_of Tryz.func171 (by kernel_rfl) rfl)
    (climb_stops 5 (by omega) (r0 + 2) g 0 capg go zM hmaxM W0 hBs0 (fun h => (hgo' h).1) hc0) (fun h k => Kb.trans h k)
    (fun W l o o' hl ho _ _ => ⟨World.putObj_heap_other (by omega), World.putObj_heap_other (by omega)⟩) (Below.refl _ _) (fun _ => rfl)
    (fun pre W => (Below w.heap.size w W ∧ W0.heap.size ≤ W.heap.size) ∧ ∃ v, W.heap[r0 + 1]? = some (.cells #[v] 42 (0, 0)) ∧ EO r0 W v (keptL F pre) ∧ v.ownBlock ≠ some (r0 + 1) ∧ v.ownBlock ≠ some (r0 + 2))
    (fun c pre W => False)
    (fun s A B row hs hg hr => by
      obtain ⟨⟨h1, h2⟩, v, h3, h4, h5⟩ := hs
      exact ⟨⟨hBk A B row h1 hg hr, Nat.le_trans h2 hg.size⟩, v, hRk A B row v h3 hg hr, hEk A B row v _ h4 hg hr, h5⟩)
    (fun c s A B row hs hg hr => hs)
    ⟨⟨hB0, Nat.le_refl _⟩, _, hbx0, hEO0, by simp [Value.ownBlock], by simp [Value.ownBlock]⟩
    (fun x a' W => ∃ Bx, W0.heap.size ≤ Bx ∧ W.heap[Bx]? = some (.cells (entS (zM.getD x.1 dsl)).cells 41 (0, 0)) ∧ (∀ v, W.heap[r0 + 1]? = some (.cells #[v] 42 (0, 0)) → v.ownBlock ≠ some Bx) ∧ a' = { tmps := #[.slice ao n cap, .slice bo m cbp, undef, undef, .slice none 0 0, .slice go (n + m) capg, .pointer (some ⟨r0 + 1, 0, none⟩), .pointer (some ⟨Bx, 0, none⟩), .bool (abv zM x.1), .slice ao n cap, .slice bo m cbp, .slice (some ⟨w.heap.size, 0, none⟩) 2 2, .slice go (n + m) capg, .slice go (n + m) capg, .tuple #[], .slice go (n + m) capg, .int .i64 ((n : Int) + (m : Int)), .slice (some ⟨r0, 0, none⟩) 0 (n + m), .slice go (n + m) capg, .func (.func 171) #[] #[.pointer (some ⟨r0 + 2, 0, none⟩)], entS (zM.getD x.1 dsl), .bool (abv zM x.1), undef, undef, undef, undef, undef, undef, undef, undef, undef, undef, undef], defers := [] })
    (fun x a' _ A B row hs hg hr => by
      obtain ⟨Bx, e1, e2, e4, e3⟩ := hs
      refine ⟨Bx, e1, (hg.block _ (Array.getElem?_eq_some_iff.1 e2).1 (fun e => ?_)).trans e2, fun v hv => e4 v ?_, e3⟩
      · obtain ⟨_, o, h1, h2⟩ := hr _ e.symm
        rw [e2] at h1
        cases h1
        cases h2
      · have := (Array.getElem?_eq_some_iff.1 e2).1
        rw [hg.block _ (by omega) (fun e => by have := (hr _ e.symm).1; omega)] at hv
        exact hv)
    ?assign ?body ?done ?stop
  case assign =>
    rintro l pre x W K ⟨⟨hb1, hz1⟩, v, hr1, hE1, hv1, hv2⟩ hK
    unfold encs
    generalize hE : zM.getD x.1 dsl = E at hK ⊢
    obtain ⟨⟨a0, a1, a2, a3⟩, so, sn, sc⟩ := E
    unfold entS ent at hK ⊢
    simp only [Value.cells] at hK ⊢
    gi_wp2
    have hs1 := hb1.size
    have hrl := (Array.getElem?_eq_some_iff.1 hr1).1
    obtain ⟨_, _, ho1, _⟩ := id hE1
    refine hK _ _ (keeps_bl (bl1 _ _)) ⟨Below.heap_alloc _ _ _ (by omega), Below.heap_alloc _ _ _ (by omega)⟩ ⟨⟨bl_step hb1 (bl1 _ _), by simp; omega⟩, v, (Below.heap_alloc _ _ _ hrl).trans hr1, hE1.bl (bl1 _ _), hv1, hv2⟩ ⟨W.heap.size, hz1, heap_alloc_new _ _, fun u hu hc => ?_, rfl⟩
    rw [Below.heap_alloc _ _ _ hrl, hr1] at hu
    simp only [Option.some.injEq, Obj.cells.injEq, Array.mk.injEq, List.cons.injEq] at hu
    obtain ⟨⟨rfl, _⟩, _⟩ := hu
    have := (ownE_lt ho1 _ hc).2
    omega
  case body =>
    rintro l pre x a' W hl ⟨r, hr⟩ ⟨⟨hb1, hz1⟩, v, hr1, hE1, hv1, hv2⟩ ⟨Bx, hBx, hX, hvx, rfl⟩ hlt
    have hxl := x.2
    obtain ⟨e, he⟩ : ∃ e, F[x.1]? = some e := ⟨F[x.1]'(by omega), List.getElem?_eq_getElem (by omega)⟩
    have hzx : zM[x.1]? = some (zM.getD x.1 dsl) := by rw [List.getD_eq_getElem?_getD, List.getElem?_eq_getElem hxl]; rfl
    obtain ⟨hlab, hrow, heE⟩ := hFx x.1 e _ he hzx
    have hme := HML.out e heE
    have hsnoc := keptL_snoc F pre x e he
    have habx := hab x.1 (by omega)
    have hkl := keptL_len F pre
    have hgl := (hgo' (by omega)).2
    have hvx1 := hvx v hr1
    rw [habx]
    clear hab hFx hc0 hgo' hzx hvx he HML hEk hRk hBk habx
    generalize zM.getD x.1 dsl = X at *
    obtain ⟨⟨a0, a1, a2, a3⟩, so, sn, sc⟩ := X
    obtain ⟨ex, em⟩ := e
    simp only at hlab hrow hme
    subst hlab
    unfold entS ent at *
    simp only [Value.cells] at *
    cases hq : abvE F x.1 with
    | false =>
      rw [hq] at hsnoc
      simp only [Bool.false_eq_true, if_false] at hsnoc
      have fin : KeepsFrom W0.heap.size W W ∧ Kb g (r0 + 2) W W ∧ (Below w.heap.size w W ∧ W0.heap.size ≤ W.heap.size) ∧ ∃ v, W.heap[r0 + 1]? = some (.cells #[v] 42 (0, 0)) ∧ EO r0 W v (keptL F (pre ++ [x])) ∧ v.ownBlock ≠ some (r0 + 1) ∧ v.ownBlock ≠ some (r0 + 2) :=
        ⟨keeps_bl (Below.refl _ _), ⟨rfl, rfl⟩, ⟨hb1, hz1⟩, v, hr1, by rw [hsnoc]; exact hE1, hv1, hv2⟩
      clear hsnoc
      gi_wp2
      exact fin
    | true =>
      rw [hq] at hsnoc
      simp only [if_true] at hsnoc
      have kX := fun j => cell_of_row W Bx j _ 41 (0, 0) hX
      have k0 := kX 0
      have k1 := kX 1
      have k2 := kX 2
      have k3 := kX 3
      have k4 := kX 4
      simp at k0 k1 k2 k3 k4
      have kR := cell_of_row W (r0 + 1) 0 _ 42 (0, 0) hr1
      simp at kR
      obtain ⟨vo, vc, hv, _⟩ := hE1.er
      have HVN : Hid (∀ k i, v ≠ .int k i) := fun k i e => by rw [hv] at e; cases e
      clear hv
      have u0 : Below W.heap.size W W.drew := (Below.refl _ _).drew
      have HS : Hid (∀ W', Below W.heap.size W W' → Sm Bx (r0 + 1) (a0, a1, a2, a3) so sn sc v W') := fun W' u => ⟨bl_cell u k0, bl_cell u k1, bl_cell u k2, bl_cell u k3, bl_cell u k4, bl_cell u kR⟩
      have s0 := HS.out _ u0
      have hcl := bclone_any W.drew so sn sc em ((hrow.below hb1 (Nat.le_refl _)).below u0 (Nat.le_refl _)) (by have := hrow.1; omega)
      have hol : ∀ k, v.ownBlock = some k → r0 ≤ k ∧ k < W.heap.size := by
        obtain ⟨_, _, ho1, _⟩ := id hE1
        exact ownE_lt ho1
      have HOC : Hid (∀ r, v.ownBlock = some r → ∃ c t f, W.heap[r]? = some (.cells c t f)) := by
        obtain ⟨_, _, ho1, _⟩ := id hE1
        exact own_cells ho1
      clear k0 k1 k2 k3 k4 kX kR hX
      unfold Sm at s0
      gi_wp2_with fail
      refine beginR (Sm Bx (r0 + 1) (a0, a1, a2, a3) so sn sc v) 9 (by kernel_rfl) (by kernel_rfl) s0 (fun hHeld => ?_)
      unfold Sm at hHeld
      refine tqE 0 ?_
      refine tqE 1 ?_
      refine tqE 2 ?_
      refine tqE 3 ?_
      refine tqE 4 ?_
      refine upE 5 rfl (by kernel_rfl) (fun K hK => ?_)
      go_simp
      refine hcl.mono ?_
      rintro eo W1 ⟨v1, rfl, hown1, hu1⟩
      obtain ⟨qo, qc, rfl, hrow1, hblk1⟩ := own_bytes hown1
      have u1 := bl_step u0 hu1
      have s1 := HS.out _ u1
      have ua := bl_step u1 (bl1 W1 (.cells #[.int .u64 (a0 : Nat), .int .i64 a1, .int .u64 (a2 : Nat), .int .i64 a3, .slice qo em.length qc] 41))
      have hcells : ∀ j u, (cells5 ((a0, a1, a2, a3), (qo, em.length, qc)))[j]? = some u → (W1.alloc (.cells #[.int .u64 (a0 : Nat), .int .i64 a1, .int .u64 (a2 : Nat), .int .i64 a3, .slice qo em.length qc] 41)).cell? ((⟨W1.heap.size, 0, none⟩ : Addr).add j) = some u := fun j u hj => by
        rw [Addr.add_lit, Nat.zero_add]
        exact cell_box W1 _ 41 j u (by simpa [cells5] using hj)
      have hrow2 := hrow1.below (bl1 W1 (.cells #[.int .u64 (a0 : Nat), .int .i64 a1, .int .u64 (a2 : Nat), .int .i64 a3, .slice qo em.length qc] 41)) (Nat.le_refl _)
      have hEa := hE1.bl ua
      obtain ⟨W2, hW2⟩ : ∃ W, Hid (W1.alloc (.cells #[.int .u64 (a0 : Nat), .int .i64 a1, .int .u64 (a2 : Nat), .int .i64 a3, .slice qo em.length qc] 41) = W) := ⟨_, rfl⟩
      rw [hW2.out] at ua hcells hrow2 hEa
      have hsW := ua.size
      obtain ⟨v', W3, hrun, hE3, hg3, hat3⟩ := run_append_EO hEa ⟨W1.heap.size, 0, none⟩ 1 (a0, a1, a2, a3) (qo, em.length, qc) em hcells hrow2 (fun a ha hn => ⟨by have := (hblk1 a ha).1; have : W.drew.heap.size = W.heap.size := rfl; omega, fun e => by have h1 := (hblk1 a ha).1; have h2 := (hol _ e).2; have : W.drew.heap.size = W.heap.size := rfl; omega⟩) (by omega) (by omega) 42
      obtain ⟨vo', vc', hv', -⟩ := id hE3.er
      generalize (keptL F pre ++ [((a0, a1, a2, a3), em)]).length = vl at hv'
      subst hv'
      have hkeep : ∀ k, k < W.heap.size → v.ownBlock ≠ some k → W3.heap[k]? = W.heap[k]? := fun k hk hne => (hg3.block k (by omega) (fun e => hne e.symm)).trans (ua.block k hk)
      have hr3 : W3.heap[r0 + 1]? = some (.cells #[v] 42 (0, 0)) := (hkeep _ (by omega) hv1).trans hr1
      have hsW3 := hg3.size
      have hvo' : ∀ k, k < W.heap.size → v.ownBlock ≠ some k → (Value.slice vo' vl vc').ownBlock ≠ some k := fun k hk hne e => by
        rcases hat3 with h | h
        · exact hne (h ▸ e)
        · rw [h] at e; simp at e; omega
      have s3 : Sm Bx (r0 + 1) (a0, a1, a2, a3) so sn sc v W3 := by
        have hxl := s0.1
        have hBl : Bx < W.heap.size := World.block_lt_of_cell? W.drew ⟨Bx, 0, none⟩ hxl
        have hkx : ∀ j u, W.drew.cell? ⟨Bx, j, none⟩ = some u → W3.cell? ⟨Bx, j, none⟩ = some u := fun j u hu => (World.cell?_of_block (a := ⟨Bx, j, none⟩) (w := W.drew) (hkeep Bx hBl hvx1)).trans hu
        exact ⟨hkx 0 _ s0.1, hkx 1 _ s0.2.1, hkx 2 _ s0.2.2.1, hkx 3 _ s0.2.2.2.1, hkx 4 _ s0.2.2.2.2.1, (World.cell?_of_block (a := ⟨r0 + 1, 0, none⟩) (w := W.drew) (hkeep (r0 + 1) (by omega) hv1)).trans s0.2.2.2.2.2⟩
      have s2 := HS.out _ ua
      have he3 := setCell_eq_setRow W3 (r0 + 1) 0 _ 42 (0, 0) (.slice vo' vl vc') hr3
      have kR3 := cell_of_row W3 (r0 + 1) 0 _ 42 (0, 0) hr3
      have zR3 := frozen_of_row W3 (r0 + 1) 0 _ 42 hr3
      simp at kR3
      have FIN : Hid (KeepsFrom W0.heap.size W (W3.setCell ⟨r0 + 1, 0, none⟩ (.slice vo' vl vc')) ∧ Kb g (r0 + 2) W (W3.setCell ⟨r0 + 1, 0, none⟩ (.slice vo' vl vc')) ∧ (Below w.heap.size w (W3.setCell ⟨r0 + 1, 0, none⟩ (.slice vo' vl vc')) ∧ W0.heap.size ≤ (W3.setCell ⟨r0 + 1, 0, none⟩ (.slice vo' vl vc')).heap.size) ∧ ∃ v, (W3.setCell ⟨r0 + 1, 0, none⟩ (.slice vo' vl vc')).heap[r0 + 1]? = some (.cells #[v] 42 (0, 0)) ∧ EO r0 (W3.setCell ⟨r0 + 1, 0, none⟩ (.slice vo' vl vc')) v (keptL F (pre ++ [x])) ∧ v.ownBlock ≠ some (r0 + 1) ∧ v.ownBlock ≠ some (r0 + 2)) := by
        have hset : #[v].setIfInBounds 0 (.slice vo' vl vc') = #[.slice vo' vl vc'] := rfl
        rw [he3, hset]
        refine ⟨((keeps_bl ua).trans (keeps_grown hg3 (fun r hr => ?_))).trans (keeps_grown (T.gr_setRow _ _ _) (fun r hr => ?_)), ⟨?_, ?_⟩, ⟨bl_row (bl_grown (bl_step hb1 ua) (Nat.le_trans hb1.size ua.size) hg3 (fun k hk => by have := (hol k hk).1; omega)) (by omega) _, by rw [setRow_size]; omega⟩, _, setRow_heap _ _ _ _ _ _ hr3, ?_, hvo' _ (by omega) hv1, hvo' _ (by omega) hv2⟩
        · obtain ⟨c, t, f, h⟩ := HOC.out r hr
          exact ⟨c, t, f, (ua.block r (hol r hr).2).trans h⟩
        · cases hr
          exact ⟨_, _, _, hr3⟩
        · exact (setRow_other _ _ _ _ (by omega)).trans (hkeep g (by omega) (fun e => by have := (hol g e).1; omega))
        · exact (setRow_other _ _ _ _ (by omega)).trans (hkeep (r0 + 2) (by omega) hv2)
        · rw [hsnoc]
          exact hE3.box (r0 + 1) v (.slice vo' vl vc') 42 hr3 HVN.out (hvo' _ (by omega) hv1)
      clear hcl hown1 hu1 s0 hblk1 hcells hrow2 hEa hrow1 hE3 hg3 hat3 hkeep hr3 hvo' he3 hr1 hE1 hrow hsnoc u1 hol
      go_wp2_with fail
      refine hK.out _ _ s1 (fun hHeld => ?_)
      clear hK K
      (try simp only [Act.put, List.setIfInBounds_toArray, List.set_cons_zero, List.set_cons_succ])
      refine tqE 6 ?_
      refine upE 7 rfl (by kernel_rfl) (fun K hK => ?_)
      go_simp
      rw [hW2.out]
      refine hK.out _ _ s2 (fun hHeld => ?_)
      clear hK K
      (try simp only [Act.put, List.setIfInBounds_toArray, List.set_cons_zero, List.set_cons_succ])
      refine upE 8 rfl (by kernel_rfl) (fun K hK => ?_)
      refine step_append_run rfl (.tmp 23) (.tmp 30) 42 rfl _ _ (.slice vo' vl vc') W3 rfl rfl hrun ?_
      refine hK.out _ _ s3 (fun hHeld => ?_)
      clear hK K
      (try simp only [Act.put, List.setIfInBounds_toArray, List.set_cons_zero, List.set_cons_succ])
      refine lastE 9 rfl (by kernel_rfl) (by kernel_rfl) (fun K hK => ?_)
      go_simp
      refine hK.out _ _ ?_
      clear hK K
      (try simp only [Act.put, List.setIfInBounds_toArray, List.set_cons_zero, List.set_cons_succ])
      refine doneE (by kernel_rfl) ?_ _
      refine Nrm.normal ?_
      gi_wp2
      exact FIN.out
  case done =>
    rintro D ps W hD rfl ⟨⟨hb, hz⟩, v, hr, hE, hv1, hv2⟩ hK2
    rw [keptL_firsts F zM.length (Nat.le_refl _) (by omega), hzl, ← hEl, hK] at hE
    have hDl := (Array.getElem?_eq_some_iff.1 hK2).1
    have hB' : Below w.heap.size w (W.putObj D (.deferred none)) := hb.trans (belowK_b (w := w) (Nat.le_refl _) _ D _ _ (by omega) hK2 rfl rfl)
    have hgp : W.grownBy (W.putObj D (.deferred none)) (some D) := ⟨rfl, rfl, rfl, by simp [World.putObj], fun i hi hne => World.putObj_heap_other (fun e => hne (by rw [e]))⟩
    have hE' : EO w.heap.size (W.putObj D (.deferred none)) v (mergeE [] E) := by
      exact (hE.gr2 hgp (fun r hr => by cases hr; exact ⟨_, hK2, rfl⟩)).base hr0w
    have kR := cell_of_row W (r0 + 1) 0 _ 42 (0, 0) hr
    simp at kR
    gi_wp2
    refine ⟨by simp, .inl ⟨_, _, rfl, run_takeDeferred hK2, ?_⟩⟩
    refine ⟨v, ?_, v, rfl, hE', hB'⟩
    simp [results, Tryz.results110, go_sem]
  case stop =>
    rintro D c pre W hD hpre h hK2
    exact h.elim
end Go.Proofs.YtlaihgdfedalmaaGreat
