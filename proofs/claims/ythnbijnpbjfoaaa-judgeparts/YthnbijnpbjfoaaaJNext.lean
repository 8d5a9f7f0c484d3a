/-
  The document's next: the number of the view behind the one of a number.
-/
import Derived.Test.YthnbijnpbjfoaaaJHas
namespace Go.Proofs.Ythnbijnpbjfoaaa
open Go.RowKit Go.Sort
set_option linter.unusedVariables false

theorem next_take {n : Nat} {p : Int} : ∀ {l : List Vw} {k : Nat} {x z : Vw}, (∀ (j : Nat) y, j < k → l[j]? = some y → decide (y.1 = n ∧ y.2.1 = p) = false) → l[k]? = some x → decide (x.1 = n ∧ x.2.1 = p) = true → l[k + 1]? = some z → nextV l n p = (z.1, z.2.1)
  | [], k, x, z, _, hx, _, _ => by simp at hx
  | [a], k, x, z, _, _, _, hz => by simp at hz
  | a :: b :: r, 0, x, z, _, hx, hp, hz => by
    simp at hx hz; subst hx hz
    unfold nextV
    rw [if_pos (of_decide_eq_true hp)]
  | a :: b :: r, k + 1, x, z, h, hx, hp, hz => by
    unfold nextV
    rw [if_neg (of_decide_eq_false (h 0 a (by omega) rfl))]
    exact next_take (l := b :: r) (k := k) (fun j y hj hy => h (j + 1) y (by omega) (by simpa using hy)) (by simpa using hx) hp (by simpa using hz)
theorem next_no {n : Nat} {p : Int} : ∀ {l : List Vw}, (∀ (j : Nat) y, j + 1 < l.length → l[j]? = some y → decide (y.1 = n ∧ y.2.1 = p) = false) → nextV l n p = (0, 0)
  | [], _ => rfl
  | [a], _ => rfl
  | a :: b :: r, h => by
    unfold nextV
    rw [if_neg (of_decide_eq_false (h 0 a (by simp) rfl))]
    exact next_no (l := b :: r) (fun j y hj hy => h (j + 1) y (by simpa using hj) (by simpa using hy))
def NextPost (w : World) (o : Nat × Int) (e : Ending) (w' : World) : Prop := e = .returned (.agg #[.int .u64 (o.1 : Nat), .int .i64 o.2]) ∧ RowKit.Below w.heap.size w w'
set_option maxRecDepth 10000 in
set_option maxHeartbeats 4000000 in
theorem next_any (w : World) (p : Nat → Prop) (ao : Option Addr) (n cap : Nat) (es : List Ev) (h : EvR p w ao n es) (hn9 : n ≤ 9000) (vn : Nat) (vp : Int) :
    Calls Try.prog 73 #[.slice ao n cap, vid vn vp] w fun e w' => NextPost w (nextV (viewsE es) vn vp) e w' := by
  have hl := h.1
  obtain ⟨w1, hw1⟩ : ∃ w1, w.alloc (.cells #[.int .u64 (vn : Nat), .int .i64 vp] 44) = w1 := ⟨_, rfl⟩
  have u1 : Up w w1 := by rw [← hw1]; exact (Up.refl _).alloc _
  have hX0 : w1.cell? ⟨w.heap.size, 0, none⟩ = some (.int .u64 (vn : Nat)) := by rw [← hw1]; exact cell_box w _ 44 0 _ rfl
  have hX1 : w1.cell? ⟨w.heap.size, 1, none⟩ = some (.int .i64 vp) := by rw [← hw1]; exact cell_box w _ 44 1 _ rfl
  obtain ⟨X, hX⟩ : ∃ X, w.heap.size = X := ⟨_, rfl⟩
  rw [hX] at hX0 hX1
  obtain ⟨w2, hw2⟩ : ∃ w2, w1.alloc (.cells #[.int .u64 0, .int .i64 0] 44) = w2 := ⟨_, rfl⟩
  obtain ⟨Y, hY⟩ : ∃ Y, w1.heap.size = Y := ⟨_, rfl⟩
  have u2 : Up w w2 := by rw [← hw2]; exact u1.alloc _
  have u12 : Up w1 w2 := by rw [← hw2]; exact (Up.refl _).alloc _
  have hYb : w2.heap[Y]? = some (.cells #[.int .u64 0, .int .i64 0] 44 (0, 0)) := by rw [← hw2, ← hY]; exact heap_alloc_new w1 _
  have hYl : Y < w2.heap.size := (Array.getElem?_eq_some_iff.1 hYb).1
  have hvs := refViews_any w2 p ao n cap es (h.keep (Kp.up u2.bl)) hn9
  have hwY : w.heap.size ≤ Y := by rw [← hY]; exact u1.bl.size
  have HI : Hid (w2.cell? ⟨X, 0, none⟩ = some (.int .u64 (vn : Nat)) ∧ w2.cell? ⟨X, 1, none⟩ = some (.int .i64 vp) ∧ Below w.heap.size w w2) := ⟨bl_cell u12.bl hX0, bl_cell u12.bl hX1, u2.bl⟩
  have HY : Hid (w2.heap[Y]? = some (.cells #[.int .u64 0, .int .i64 0] 44 (0, 0)) ∧ Y < w2.heap.size ∧ w.heap.size ≤ Y) := ⟨hYb, hYl, hwY⟩
  have hvl := viewsE_len es
  have HVL : Hid ((viewsE es).length ≤ 9000) := Nat.le_trans hvl (by omega)
  have HSZ : Hid (w.heap.size ≤ w2.heap.size) := u2.bl.size
  clear h hX0 hX1 u1 u2 u12 hvl hYb hYl hwY
  unfold vid
  go_enter Try.func73, Try.ntmps73
  go_wp2_with fail
  (try simp only [hX, hw1, hY, hw2])
  clear hX hw1 hY hw2
  refine hvs.mono ?_
  rintro e w3 ⟨⟨v, rfl, hown⟩, hb3⟩
  obtain ⟨⟨ra, rn, rc⟩, rfl, hrn, hcl⟩ := VwR.shape hown
  simp only at hrn hcl
  have hX0 := bl_cell hb3 HI.out.1
  have hX1 := bl_cell hb3 HI.out.2.1
  have hYb : w3.heap[Y]? = some (.cells #[.int .u64 0, .int .i64 0] 44 (0, 0)) := (hb3.block Y HY.out.2.1).trans HY.out.1
  have HW : Hid (w3.cell? ⟨X, 0, none⟩ = some (.int .u64 (vn : Nat)) ∧ w3.cell? ⟨X, 1, none⟩ = some (.int .i64 vp) ∧ w3.heap[Y]? = some (.cells #[.int .u64 0, .int .i64 0] 44 (0, 0)) ∧ Below w.heap.size w w3 ∧ rn = (viewsE es).length ∧ Y < w3.heap.size) :=
    ⟨hX0, hX1, hYb, HI.out.2.2.trans (hb3.mono HSZ.out), hrn, (Array.getElem?_eq_some_iff.1 hYb).1⟩
  have HC : Hid (∀ (k : Nat) x, (viewsE es)[k]? = some x → ∃ g, ra = some ⟨g, 0, none⟩ ∧ ∀ (j : Nat) u, (cellsV x)[j]? = some u → w3.cell? ⟨g, k * 3 + j, none⟩ = some u) := hcl
  have hrn9 : rn ≤ 9000 := by have := HVL.out; omega
  clear hvs hown hb3 hcl hX0 hX1 hYb hrn
  go_wp2_with fail
  go_loopw [6] (fun iv wr => ∃ k : Nat, k ≤ rn ∧ iv = .int .i64 (k : Nat) ∧ (∀ (j : Nat) y, j < k → (viewsE es)[j]? = some y → decide (y.1 = vn ∧ y.2.1 = vp) = false) ∧ Below w3.heap.size w3 wr) (fun iv _ => rn - (intOf iv).toNat)
  case atStart => exact ⟨0, by omega, rfl, fun j y hj => by omega, Below.refl _ _⟩
  case round =>
    obtain ⟨k, hk, rfl, hno, hbl⟩ := hrel
    have HN0 : Hid (∀ (j : Nat) y, j < k → (viewsE es)[j]? = some y → decide (y.1 = vn ∧ y.2.1 = vp) = false) := hno
    clear hno
    have hYb := (hbl.block Y HW.out.2.2.2.2.2).trans HW.out.2.2.1
    by_cases hlt : k + 1 < rn
    · have hltI : (k : Int) + 1 < (rn : Int) := by omega
      have hk0 : ¬ ((k : Int) < 0) := by omega
      have hk1 : ¬ ((k : Int) + 1 < 0) := by omega
      have hkr : (k : Int) < (rn : Int) := by omega
      obtain ⟨x, hx⟩ : ∃ x, (viewsE es)[k]? = some x := ⟨(viewsE es)[k]'(by have := HW.out.2.2.2.2.1; omega), List.getElem?_eq_getElem _⟩
      obtain ⟨z, hz⟩ : ∃ z, (viewsE es)[k + 1]? = some z := ⟨(viewsE es)[k + 1]'(by have := HW.out.2.2.2.2.1; omega), List.getElem?_eq_getElem _⟩
      obtain ⟨g, hra, hc⟩ := HC.out k x hx
      obtain ⟨g', hra', hc'⟩ := HC.out (k + 1) z hz
      obtain rfl : g' = g := by rw [hra] at hra'; simpa using hra'.symm
      have hud := hbl.drew
      have hs5 : Hs5 g' k X x.1 x.2.1 vn vp wr.drew := ⟨bl_cell hud (hc 0 _ rfl), bl_cell hud (hc 1 _ rfl), bl_cell hud HW.out.1, bl_cell hud HW.out.2.1⟩
      have z0 : wr.drew.cell? ⟨g', (k + 1) * 3, none⟩ = some (.int .u64 (z.1 : Nat)) := bl_cell hud (hc' 0 _ rfl)
      have z1 : wr.drew.cell? ⟨g', (k + 1) * 3 + 1, none⟩ = some (.int .i64 z.2.1) := bl_cell hud (hc' 1 _ rfl)
      have HX : Hid ((viewsE es)[k]? = some x ∧ (viewsE es)[k + 1]? = some z ∧ Below w3.heap.size w3 wr.drew) := ⟨hx, hz, hud⟩
      obtain ⟨xn, xp, xs⟩ := x
      obtain ⟨zn, zp, zs⟩ := z
      simp only at hs5 z0 z1
      have hve := fun W => vid_equal xn xp vn vp W
      obtain ⟨vb, hvb⟩ : ∃ vb, decide (xn = vn ∧ xp = vp) = vb := ⟨_, rfl⟩
      rw [hvb] at hve
      have HVB : Hid (decide (xn = vn ∧ xp = vp) = vb) := hvb
      have hYd : wr.drew.heap[Y]? = some (.cells #[.int .u64 0, .int .i64 0] 44 (0, 0)) := hYb
      have HYY : Hid (w.heap.size ≤ Y) := HY.out.2.2
      subst hra
      clear hx hz hc hc' hud hvb hbl hYb hra'
      cases vb with
      | true =>
        have hbn : Below w.heap.size w (wr.drew.setRow Y #[.int .u64 (zn : Nat), .int .i64 zp]) := bl_row (HW.out.2.2.2.1.trans (HX.out.2.2.mono HW.out.2.2.2.1.size)) HYY.out _
        have HN : Hid (nextV (viewsE es) vn vp = (zn, zp) ∧ (wr.drew.setRow Y #[.int .u64 (zn : Nat), .int .i64 zp]).heap[Y]? = some (.cells #[.int .u64 (zn : Nat), .int .i64 zp] 44 (0, 0)) ∧ Below w.heap.size w (wr.drew.setRow Y #[.int .u64 (zn : Nat), .int .i64 zp])) :=
          ⟨next_take HN0.out HX.out.1 HVB.out HX.out.2.1, setRow_heap _ _ _ _ _ _ hYd, hbn⟩
        clear hbn
        go_wp2_with fail
        refine wp_region_noPanic ?_
        refine wp_region_held_drew (S := Hs5 g' k X xn xp vn vp) (by kernel_rfl) (hs5) (fun hHeld => ?_)
        unfold Hs5 at hHeld
        refine tq 0 ?_
        refine tq 1 ?_
        refine tq 2 ?_
        refine tq 3 ?_
        refine tq 4 ?_
        refine tq 5 ?_
        refine tq 6 ?_
        refine wpAnyH_done (by kernel_rfl) ?_ _
        refine NoPanic.normal ?_
        go_wp2_with (first | refine wpList_store_row rfl 44 (.tmp 4) (.tmp 28) rfl Y #[.int .u64 (zn : Nat), .int .i64 zp] rfl rfl 44 _ hYd info44s rfl (by simp [Value.oneCell']) ?_)
        refine bodyPost_ret (results_cell_row Try.results73 _ _ Y 44 #[.int .u64 (zn : Nat), .int .i64 zp] (0, 0) _ rfl HN.out.2.1 Try.underlying44 rfl info44s) rfl ?_
        unfold NextPost
        rw [HN.out.1]
        exact ⟨rfl, HN.out.2.2⟩
      | false =>
        have HN : Hid (∀ (j : Nat) y, j < k + 1 → (viewsE es)[j]? = some y → decide (y.1 = vn ∧ y.2.1 = vp) = false) := fun j y hj hy => by
          by_cases e : j = k
          · subst e
            rw [HX.out.1] at hy; cases hy
            exact HVB.out
          · exact HN0.out j y (by omega) hy
        clear z0 z1
        go_wp2_with fail
        refine wp_region_noPanic ?_
        refine wp_region_held_drew (S := Hs5 g' k X xn xp vn vp) (by kernel_rfl) (hs5) (fun hHeld => ?_)
        unfold Hs5 at hHeld
        refine tq 0 ?_
        refine tq 1 ?_
        refine tq 2 ?_
        refine tq 3 ?_
        refine tq 4 ?_
        refine tq 5 ?_
        refine tq 6 ?_
        refine wpAnyH_done (by kernel_rfl) ?_ _
        refine NoPanic.normal ?_
        go_wp2
        go_roundw
        case rel => exact ⟨k + 1, by omega, by go_num, HN.out, HX.out.2.2⟩
        case measure => simp [intOf]; omega
    · have hltI : ¬ ((k : Int) + 1 < (rn : Int)) := by omega
      have hbn : Below w.heap.size w (wr.setRow Y #[.int .u64 0, .int .i64 0]) := bl_row (HW.out.2.2.2.1.trans (hbl.mono HW.out.2.2.2.1.size)) HY.out.2.2 _
      have HN : Hid (nextV (viewsE es) vn vp = (0, 0) ∧ (wr.setRow Y #[.int .u64 0, .int .i64 0]).heap[Y]? = some (.cells #[.int .u64 0, .int .i64 0] 44 (0, 0)) ∧ Below w.heap.size w (wr.setRow Y #[.int .u64 0, .int .i64 0])) :=
        ⟨next_no (fun j y hj hy => HN0.out j y (by have := HW.out.2.2.2.2.1; omega) hy), setRow_heap _ _ _ _ _ _ hYb, hbn⟩
      clear hbn hbl
      go_wp2_with (first | refine wpList_store_row rfl 44 (.tmp 4) (.tmp 29) rfl Y #[.int .u64 0, .int .i64 0] rfl rfl 44 _ hYb info44s rfl (by simp [Value.oneCell']) ?_)
      refine bodyPost_ret (results_cell_row Try.results73 _ _ Y 44 #[.int .u64 0, .int .i64 0] (0, 0) _ rfl HN.out.2.1 Try.underlying44 rfl info44s) rfl ?_
      unfold NextPost
      rw [HN.out.1]
      exact ⟨rfl, HN.out.2.2⟩
end Go.Proofs.Ythnbijnpbjfoaaa
