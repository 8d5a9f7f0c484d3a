/-
  The document's has and next: which view of a number has a node; which one is next?
-/
import Derived.Test.YthnbijnpbjfoaaaJDViews
import Derived.Test.YthnbijnpbjfoaaaJItemsE
namespace Go.Proofs.Ythnbijnpbjfoaaa
open Go.RowKit Go.Sort
set_option linter.unusedVariables false

/-- A row of views of one's own. -/
def VwR (w : World) (B : Nat) (v : Value) (vs : List Vw) : Prop := w.ownsRow B 47 3 v vs.length (cellV vs)
theorem cellV_at {vs : List Vw} : ∀ {k : Nat} {v : Vw}, vs[k]? = some v → ∀ (j : Nat) u, (cellsV v)[j]? = some u → (cellV vs)[k * 3 + j]? = some u := by
  induction vs with
  | nil => intro k v h; simp at h
  | cons a r ih =>
    intro k v h j u hj
    have hl : (cellsV a).length = 3 := rfl
    cases k with
    | zero =>
      simp at h; subst h
      unfold cellV
      rw [List.flatMap_cons, Nat.zero_mul, Nat.zero_add, List.getElem?_append_left (List.getElem?_eq_some_iff.1 hj).1]
      exact hj
    | succ k =>
      have := ih (k := k) (v := v) (by simpa using h) j u hj
      unfold cellV at this ⊢
      rw [List.flatMap_cons, List.getElem?_append_right (by rw [hl]; omega), hl, show (k + 1) * 3 + j - 3 = k * 3 + j by omega]
      exact this
theorem VwR.shape {w : World} {B : Nat} {v : Value} {vs : List Vw} (h : VwR w B v vs) : ∃ r : Sr, v = .slice r.1 r.2.1 r.2.2 ∧ r.2.1 = vs.length ∧ ∀ (k : Nat) x, vs[k]? = some x → ∃ g, r.1 = some ⟨g, 0, none⟩ ∧ ∀ (j : Nat) u, (cellsV x)[j]? = some u → w.cell? ⟨g, k * 3 + j, none⟩ = some u := by
  rcases own_shape h with ⟨rfl, h0⟩ | ⟨g, cap, rfl, _⟩
  · exact ⟨(none, 0, 0), rfl, by simpa using h0.symm, fun k x hx => by
      have := (List.getElem?_eq_some_iff.1 hx).1
      omega⟩
  · exact ⟨(some ⟨g, 0, none⟩, vs.length, cap), rfl, rfl, fun k x hx => ⟨g, rfl, fun j u hj => own_cell h _ _ (cellV_at hx j u hj)⟩⟩
def Hs5 (g k X n : Nat) (p : Int) (vn : Nat) (vp : Int) (w : World) : Prop :=
  w.cell? ⟨g, k * 3, none⟩ = some (.int .u64 (n : Nat)) ∧ w.cell? ⟨g, k * 3 + 1, none⟩ = some (.int .i64 p) ∧ w.cell? ⟨X, 0, none⟩ = some (.int .u64 (vn : Nat)) ∧ w.cell? ⟨X, 1, none⟩ = some (.int .i64 vp)
def HasPost (w : World) (o : Option Vw) (e : Ending) (w' : World) : Prop :=
  (match o with
    | none => e = .returned (.tuple #[.agg #[.int .u64 0, .int .i64 0, .int .u16 0], .bool false])
    | some v => e = .returned (.tuple #[.agg #[.int .u64 (v.1 : Nat), .int .i64 v.2.1, .int .u16 (v.2.2 : Nat)], .bool true])) ∧ RowKit.Below w.heap.size w w'
theorem find_take {α : Type} {p : α → Bool} {l : List α} {k : Nat} {x : α} (h : ∀ (j : Nat) y, j < k → l[j]? = some y → p y = false) (hx : l[k]? = some x) (hp : p x = true) : l.find? p = some x := by
  induction l generalizing k with
  | nil => simp at hx
  | cons a r ih =>
    cases k with
    | zero => simp at hx; subst hx; rw [List.find?_cons_of_pos hp]
    | succ k =>
      rw [List.find?_cons_of_neg (by rw [h 0 a (by omega) rfl]; simp)]
      exact ih (k := k) (fun j y hj hy => h (j + 1) y (by omega) (by simpa using hy)) (by simpa using hx)
theorem find_no {α : Type} {p : α → Bool} {l : List α} (h : ∀ (j : Nat) y, j < l.length → l[j]? = some y → p y = false) : l.find? p = none := by
  rw [List.find?_eq_none]
  intro x hx
  obtain ⟨j, hj⟩ := List.getElem?_of_mem hx
  rw [h j x (List.getElem?_eq_some_iff.1 hj).1 hj]
  simp
theorem viewsE_len (es : List Ev) : (viewsE es).length ≤ es.length := by
  unfold viewsE
  rw [List.length_map]
  exact List.length_filter_le _ _
theorem results_cell2 {P : Program} {fn : Func} {t u : Tmp} {ty : TypeId} (h : fn.results = #[.cell t ty, .tmp u]) {tmps : Array Value} {w : World} {g : Nat} {cs : Array Value} {b : Value} {tt : TypeId} {fr : Nat × Nat} {d : TypeDesc} (ht : tmps.getD t undef = .pointer (some ⟨g, 0, none⟩)) (hb : tmps.getD u undef = b) (hg : w.heap[g]? = some (.cells cs tt fr))
    (hu : P.underlying ty = some d) (hd : (match d with | .struct _ | .array _ _ => true | _ => false) = true) (hi : (P.info? ty).map (·.size) = some cs.size) :
    (results fn tmps).run P w = .ok (.tuple #[.agg cs, b]) w := by
  rw [Array.getD_eq_getD_getElem?] at ht hb
  simp [results, h, ht, hb, asAddr, run_loadVar_row w g tt ty cs fr d hg hu hd hi]
theorem bl_row {B : Nat} {w W : World} (h : RowKit.Below B w W) {g : Nat} (hg : B ≤ g) (cs : Array Value) : RowKit.Below B w (W.setRow g cs) :=
  ⟨h.os, h.tape, h.output, by simpa using h.size, fun k hk => (setRow_other _ _ _ _ (by omega)).trans (h.block k hk)⟩
theorem info44s : (Try.prog.info? 44).map (·.size) = some 2 := by kernel_rfl
set_option maxRecDepth 10000 in
set_option maxHeartbeats 4000000 in
theorem hasE_any (w : World) (p : Nat → Prop) (ao : Option Addr) (n cap : Nat) (es : List Ev) (h : EvR p w ao n es) (hn9 : n ≤ 9000) (vn : Nat) (vp : Int) :
    Calls Try.prog 71 #[.slice ao n cap, vid vn vp] w fun e w' => HasPost w (hasE es vn vp) e w' := by
  have hl := h.1
  obtain ⟨w1, hw1⟩ : ∃ w1, w.alloc (.cells #[.int .u64 (vn : Nat), .int .i64 vp] 44) = w1 := ⟨_, rfl⟩
  have u1 : Up w w1 := by rw [← hw1]; exact (Up.refl _).alloc _
  have hX0 : w1.cell? ⟨w.heap.size, 0, none⟩ = some (.int .u64 (vn : Nat)) := by rw [← hw1]; exact cell_box w _ 44 0 _ rfl
  have hX1 : w1.cell? ⟨w.heap.size, 1, none⟩ = some (.int .i64 vp) := by rw [← hw1]; exact cell_box w _ 44 1 _ rfl
  obtain ⟨X, hX⟩ : ∃ X, w.heap.size = X := ⟨_, rfl⟩
  rw [hX] at hX0 hX1
  obtain ⟨w2, hw2⟩ : ∃ w2, w1.alloc (.cells #[.int .u64 0, .int .i64 0, .int .u16 0] 47) = w2 := ⟨_, rfl⟩
  obtain ⟨Y, hY⟩ : ∃ Y, w1.heap.size = Y := ⟨_, rfl⟩
  have u2 : Up w w2 := by rw [← hw2]; exact u1.alloc _
  have u12 : Up w1 w2 := by rw [← hw2]; exact (Up.refl _).alloc _
  have hYb : w2.heap[Y]? = some (.cells #[.int .u64 0, .int .i64 0, .int .u16 0] 47 (0, 0)) := by rw [← hw2, ← hY]; exact heap_alloc_new w1 _
  have hYl : Y < w2.heap.size := (Array.getElem?_eq_some_iff.1 hYb).1
  have hvs := refViews_any w2 p ao n cap es (h.keep (Kp.up u2.bl)) hn9
  have hwY : w.heap.size ≤ Y := by rw [← hY]; exact u1.bl.size
  have HI : Hid (w2.cell? ⟨X, 0, none⟩ = some (.int .u64 (vn : Nat)) ∧ w2.cell? ⟨X, 1, none⟩ = some (.int .i64 vp) ∧ Below w.heap.size w w2) := ⟨bl_cell u12.bl hX0, bl_cell u12.bl hX1, u2.bl⟩
  have HY : Hid (w2.heap[Y]? = some (.cells #[.int .u64 0, .int .i64 0, .int .u16 0] 47 (0, 0)) ∧ Y < w2.heap.size ∧ w.heap.size ≤ Y) := ⟨hYb, hYl, hwY⟩
  have hvl := viewsE_len es
  have HVL : Hid ((viewsE es).length ≤ 9000) := Nat.le_trans hvl (by omega)
  have HSZ : Hid (w.heap.size ≤ w2.heap.size) := u2.bl.size
  clear h hX0 hX1 u1 u2 u12 hvl hYb hYl hwY
  unfold vid
  go_enter Try.func71, Try.ntmps71
  go_wp2_with fail
  (try simp only [hX, hw1, hY, hw2])
  clear hX hw1 hY hw2
  refine hvs.mono ?_
  rintro e w3 ⟨⟨v, rfl, hown⟩, hb3⟩
  obtain ⟨⟨ra, rn, rc⟩, rfl, hrn, hcl⟩ := VwR.shape hown
  simp only at hrn hcl
  have hX0 := bl_cell hb3 HI.out.1
  have hX1 := bl_cell hb3 HI.out.2.1
  have hYb : w3.heap[Y]? = some (.cells #[.int .u64 0, .int .i64 0, .int .u16 0] 47 (0, 0)) := (hb3.block Y HY.out.2.1).trans HY.out.1
  have HW : Hid (w3.cell? ⟨X, 0, none⟩ = some (.int .u64 (vn : Nat)) ∧ w3.cell? ⟨X, 1, none⟩ = some (.int .i64 vp) ∧ w3.heap[Y]? = some (.cells #[.int .u64 0, .int .i64 0, .int .u16 0] 47 (0, 0)) ∧ Below w.heap.size w w3 ∧ rn = (viewsE es).length ∧ Y < w3.heap.size) :=
    ⟨hX0, hX1, hYb, HI.out.2.2.trans (hb3.mono HSZ.out), hrn, (Array.getElem?_eq_some_iff.1 hYb).1⟩
  have HC : Hid (∀ (k : Nat) x, (viewsE es)[k]? = some x → ∃ g, ra = some ⟨g, 0, none⟩ ∧ ∀ (j : Nat) u, (cellsV x)[j]? = some u → w3.cell? ⟨g, k * 3 + j, none⟩ = some u) := hcl
  have hrn9 : rn ≤ 9000 := by have := HVL.out; omega
  clear hvs hown hb3 hcl hX0 hX1 hYb hrn
  go_wp2_with fail
  go_loopw [7] (fun iv wr => ∃ k : Nat, k ≤ rn ∧ iv = .int .i64 (k : Nat) ∧ (∀ (j : Nat) y, j < k → (viewsE es)[j]? = some y → decide (y.1 = vn ∧ y.2.1 = vp) = false) ∧ Below w3.heap.size w3 wr) (fun iv _ => rn - (intOf iv).toNat)
  case atStart => exact ⟨0, by omega, rfl, fun j y hj => by omega, Below.refl _ _⟩
  case round =>
    obtain ⟨k, hk, rfl, hno, hbl⟩ := hrel
    have HN0 : Hid (∀ (j : Nat) y, j < k → (viewsE es)[j]? = some y → decide (y.1 = vn ∧ y.2.1 = vp) = false) := hno
    clear hno
    have hYb := (hbl.block Y HW.out.2.2.2.2.2).trans HW.out.2.2.1
    by_cases hlt : k < rn
    · have hltI : (k : Int) < (rn : Int) := by omega
      have hk0 : ¬ ((k : Int) < 0) := by omega
      obtain ⟨x, hx⟩ : ∃ x, (viewsE es)[k]? = some x := ⟨(viewsE es)[k]'(by have := HW.out.2.2.2.2.1; omega), List.getElem?_eq_getElem _⟩
      obtain ⟨g, hra, hc⟩ := HC.out k x hx
      have hud := hbl.drew
      have hs5 : Hs5 g k X x.1 x.2.1 vn vp wr.drew := ⟨bl_cell hud (hc 0 _ rfl), bl_cell hud (hc 1 _ rfl), bl_cell hud HW.out.1, bl_cell hud HW.out.2.1⟩
      have h3 : ∀ (j : Nat) u, (cellsV x)[j]? = some u → wr.drew.cell? ⟨g, k * 3 + j, none⟩ = some u := fun j u hj => bl_cell hud (hc j u hj)
      have HX : Hid ((viewsE es)[k]? = some x ∧ Below w3.heap.size w3 wr.drew) := ⟨hx, hud⟩
      obtain ⟨xn, xp, xs⟩ := x
      simp only at hs5
      have hve := fun W => vid_equal xn xp vn vp W
      obtain ⟨vb, hvb⟩ : ∃ vb, decide (xn = vn ∧ xp = vp) = vb := ⟨_, rfl⟩
      rw [hvb] at hve
      have HVB : Hid (decide (xn = vn ∧ xp = vp) = vb) := hvb
      have hYd : wr.drew.heap[Y]? = some (.cells #[.int .u64 0, .int .i64 0, .int .u16 0] 47 (0, 0)) := hYb
      have HYY : Hid (w.heap.size ≤ Y) := HY.out.2.2
      subst hra
      clear hx hc hud hvb hbl hYb
      cases vb with
      | true =>
        have hbn : Below w.heap.size w (wr.drew.setRow Y #[.int .u64 (xn : Nat), .int .i64 xp, .int .u16 (xs : Nat)]) := bl_row (HW.out.2.2.2.1.trans (HX.out.2.mono HW.out.2.2.2.1.size)) HYY.out _
        have HN : Hid (hasE es vn vp = some (xn, xp, xs) ∧ (wr.drew.setRow Y #[.int .u64 (xn : Nat), .int .i64 xp, .int .u16 (xs : Nat)]).heap[Y]? = some (.cells #[.int .u64 (xn : Nat), .int .i64 xp, .int .u16 (xs : Nat)] 47 (0, 0)) ∧ Below w.heap.size w (wr.drew.setRow Y #[.int .u64 (xn : Nat), .int .i64 xp, .int .u16 (xs : Nat)])) :=
          ⟨find_take HN0.out HX.out.1 HVB.out, setRow_heap _ _ _ _ _ _ hYd, hbn⟩
        clear hbn
        go_wp2_with fail
        refine wp_region_noPanic ?_
        refine wp_region_held_drew (S := Hs5 g k X xn xp vn vp) (by kernel_rfl) (hs5) (fun hHeld => ?_)
        unfold Hs5 at hHeld
        refine tq 0 ?_
        refine tq 1 ?_
        refine tq 2 ?_
        refine tq 3 ?_
        refine tq 4 ?_
        refine tq 5 ?_
        refine tq 6 ?_
        refine wpAnyH_done (by kernel_rfl) ?_ _
        refine NoPanic.normal ?_
        go_wp2_with (first | refine wpList_load_Vw rfl (.tmp 25) rfl g (k * 3) rfl (xn, xp, xs) h3 ?_ | refine wpList_store_row rfl 47 (.tmp 4) (.tmp 26) rfl Y #[.int .u64 (xn : Nat), .int .i64 xp, .int .u16 (xs : Nat)] rfl rfl 47 _ hYd info47s rfl (by simp [Value.oneCell']) ?_)
        refine bodyPost_ret (results_cell2 (g := Y) (cs := #[.int .u64 (xn : Nat), .int .i64 xp, .int .u16 (xs : Nat)]) Try.results71 rfl rfl HN.out.2.1 Try.underlying47 rfl info47s) rfl ?_
        unfold HasPost
        rw [HN.out.1]
        exact ⟨rfl, HN.out.2.2⟩
      | false =>
        have HN : Hid (∀ (j : Nat) y, j < k + 1 → (viewsE es)[j]? = some y → decide (y.1 = vn ∧ y.2.1 = vp) = false) := fun j y hj hy => by
          by_cases e : j = k
          · subst e
            rw [HX.out.1] at hy; cases hy
            exact HVB.out
          · exact HN0.out j y (by omega) hy
        go_wp2_with fail
        refine wp_region_noPanic ?_
        refine wp_region_held_drew (S := Hs5 g k X xn xp vn vp) (by kernel_rfl) (hs5) (fun hHeld => ?_)
        unfold Hs5 at hHeld
        refine tq 0 ?_
        refine tq 1 ?_
        refine tq 2 ?_
        refine tq 3 ?_
        refine tq 4 ?_
        refine tq 5 ?_
        refine tq 6 ?_
        refine wpAnyH_done (by kernel_rfl) ?_ _
        refine NoPanic.normal ?_
        go_wp2
        go_roundw
        case rel => exact ⟨k + 1, by omega, by go_num, HN.out, HX.out.2⟩
        case measure => simp [intOf]; omega
    · obtain rfl : k = rn := by omega
      have hbn : Below w.heap.size w (wr.setRow Y #[.int .u64 0, .int .i64 0, .int .u16 0]) := bl_row (HW.out.2.2.2.1.trans (hbl.mono HW.out.2.2.2.1.size)) HY.out.2.2 _
      have HN : Hid (hasE es vn vp = none ∧ (wr.setRow Y #[.int .u64 0, .int .i64 0, .int .u16 0]).heap[Y]? = some (.cells #[.int .u64 0, .int .i64 0, .int .u16 0] 47 (0, 0)) ∧ Below w.heap.size w (wr.setRow Y #[.int .u64 0, .int .i64 0, .int .u16 0])) :=
        ⟨find_no (fun j y hj hy => HN0.out j y (by have := HW.out.2.2.2.2.1; omega) hy), setRow_heap _ _ _ _ _ _ hYb, hbn⟩
      clear hbn hbl
      go_wp2_with (first | refine wpList_store_row rfl 47 (.tmp 4) (.tmp 27) rfl Y #[.int .u64 0, .int .i64 0, .int .u16 0] rfl rfl 47 _ hYb info47s rfl (by simp [Value.oneCell']) ?_)
      refine bodyPost_ret (results_cell2 (g := Y) (cs := #[.int .u64 0, .int .i64 0, .int .u16 0]) Try.results71 rfl rfl HN.out.2.1 Try.underlying47 rfl info47s) rfl ?_
      unfold HasPost
      rw [HN.out.1]
      exact ⟨rfl, HN.out.2.2⟩
end Go.Proofs.Ythnbijnpbjfoaaa
