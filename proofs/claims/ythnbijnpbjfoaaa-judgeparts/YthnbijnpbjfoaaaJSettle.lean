/-
  stay.settle: the next one is known to be safe.
-/
import Derived.Test.YthnbijnpbjfoaaaJCur
import Derived.Test.YthnbijnpbjfoaaaJHold
namespace Go.Proofs.Ythnbijnpbjfoaaa
open Go.RowKit Go.Sort
set_option linter.unusedVariables false

def ptr (q : Nat) : Value := .pointer (some ⟨q, 0, none⟩)
theorem Cur.up {p : Nat → Prop} {Z : Nat} {w w' : World} {q : Nat} {y : Sy} (h : Cur p Z w q y) (u : Below w.heap.size w w') : Cur p Z w' q y := by
  obtain ⟨rs, rg, h0, h1, h2, h3, h4, h5⟩ := h
  exact ⟨rs, rg, h0, Nat.le_trans h1 u.size, h2.up u, fun i => (u.frozen h2.lt).trans (h3 i), h4.keep u, h5.keep u⟩
/-- What settle reads. -/
def S1 (q : Nat) (X : Nat) (g o : Nat) (k : Nat) (rg : Sr) (d : Di) (s : Sr) (d' : Di) (t : Sr) (w : World) : Prop :=
  w.cell? ⟨q, 6, none⟩ = some (.int .i64 (k : Nat)) ∧ w.cell? ⟨q, 5, none⟩ = some (.slice rg.1 rg.2.1 rg.2.2) ∧ w.cell? ⟨X, 0, none⟩ = some (.int .i64 d.1) ∧ w.cell? ⟨X, 1, none⟩ = some (.slice s.1 s.2.1 s.2.2) ∧ w.cell? ⟨g, o, none⟩ = some (.int .i64 d'.1) ∧ w.cell? ⟨g, o + 1, none⟩ = some (.slice t.1 t.2.1 t.2.2) ∧ Rw (fun _ => True) w s.1 s.2.1 d.2 ∧ Rw (fun _ => True) w t.1 t.2.1 d'.2
theorem S1.up {q X g o k : Nat} {rg : Sr} {d d' : Di} {s t : Sr} {w w' : World} (h : S1 q X g o k rg d s d' t w) (u : Below w.heap.size w w') : S1 q X g o k rg d s d' t w' := by
  obtain ⟨h0, h1, h2, h3, h4, h5, h6, h7⟩ := h
  exact ⟨bl_cell u h0, bl_cell u h1, bl_cell u h2, bl_cell u h3, bl_cell u h4, bl_cell u h5, h6.up u, h7.up u⟩
def S0 (q : Nat) (k : Nat) (rg : Sr) (w : World) : Prop := w.cell? ⟨q, 6, none⟩ = some (.int .i64 (k : Nat)) ∧ w.cell? ⟨q, 5, none⟩ = some (.slice rg.1 rg.2.1 rg.2.2)
def SetPost (p : Nat → Prop) (Z : Nat) (w : World) (q : Nat) (y : Sy) (d : Di) (e : Ending) (w' : World) : Prop :=
  ((y.got[y.safe]? = some d ∧ e = .returned (.bool true) ∧ Cur p Z w' q { y with safe := y.safe + 1 }) ∨ (y.got[y.safe]? ≠ some d ∧ e = .returned (.bool false))) ∧ Tch q Z w w'
theorem Cur.set6 {p : Nat → Prop} {Z : Nat} {w : World} {q : Nat} {y : Sy} (h : Cur p Z w q y) (hp : ∀ b, p b → b < Z ∧ b ≠ q) (k : Nat) : Cur p Z (w.setCell ⟨q, 6, none⟩ (.int .i64 (k : Nat))) q { y with safe := k } := by
  obtain ⟨rs, rg, h0, h1, h2, h3, h4, h5⟩ := h
  have hg : w.grownBy (w.setCell ⟨q, 6, none⟩ (.int .i64 (k : Nat))) (some q) := ⟨rfl, rfl, rfl, by simp [World.setCell], fun k _ hne => heap_setCell_other _ _ _ _ (fun e => hne (by rw [e]))⟩
  refine ⟨rs, rg, h0, by simpa [World.setCell] using h1, h2.set6 k, fun i => by rw [World.frozen?_setCell]; exact h3 i, h4.other hg (fun b hb => ?_) (fun b hb => (hp b hb).2), h5.other2 hg (fun b hb => ?_) (fun b hb => (hp b hb).2)⟩
  · obtain ⟨_, rs', h1', _⟩ := h4
    have := (own_blk h1' hb).1
    omega
  · obtain ⟨_, xs', h1', _⟩ := h5
    have := (own_blk h1' hb).1
    omega

set_option maxRecDepth 10000 in
set_option maxHeartbeats 2000000 in
theorem settle_any (p : Nat → Prop) (Z : Nat) (w : World) (q : Nat) (y : Sy) (h : Cur p Z w q y) (hp : ∀ b, p b → b < Z ∧ b ≠ q) (d : Di) (s : Sr) (hr : Rw (fun _ => True) w s.1 s.2.1 d.2) (hg : y.got.length ≤ 9000) (hsg : y.safe ≤ y.got.length) :
    Calls Try.prog 51 #[ptr q, itm d.1 s] w fun e w' => SetPost p Z w q y d e w' := by
  obtain ⟨w0, hw0⟩ : ∃ w0, w.alloc (.cells #[.int .i64 d.1, .slice s.1 s.2.1 s.2.2] 34) = w0 := ⟨_, rfl⟩
  have u0 : Up w w0 := by rw [← hw0]; exact (Up.refl _).alloc _
  obtain ⟨X, hX⟩ : ∃ X, w.heap.size = X := ⟨_, rfl⟩
  have x0 : w0.cell? ⟨X, 0, none⟩ = some (.int .i64 d.1) := by rw [← hw0, ← hX]; exact cell_box w _ 34 0 _ rfl
  have x1 : w0.cell? ⟨X, 1, none⟩ = some (.slice s.1 s.2.1 s.2.2) := by rw [← hw0, ← hX]; exact cell_box w _ 34 1 _ rfl
  have hZ0 : Z ≤ w.heap.size := by obtain ⟨_, _, _, z, _⟩ := h; exact z
  have h0 := h.up u0.bl
  have HC : Hid (Cur p Z w0 q y ∧ Up w w0) := ⟨h0, u0⟩
  obtain ⟨rs, rg, hq, hZ, h9, hfz, hos, hog⟩ := h0
  obtain ⟨y0, y1, y2, y3, y4, y5, y6, y7, y8⟩ := h9
  have hgl := hog.1
  have hits := hog.its (by omega)
  have hr0 := hr.up u0.bl
  obtain ⟨node, yn, yp, ys, sent, got, safe, nn, np⟩ := y
  obtain ⟨ra, rn, rc⟩ := rg
  simp only at y6 y5 hgl hits hg hsg HC ⊢
  have HO : Hid (Rw (fun _ => True) w0 s.1 s.2.1 d.2 ∧ Its (fun _ => True) w0 ra rn got) := ⟨hr0, hits⟩
  have HGL : Hid (rn = got.length ∧ got.length ≤ 9000 ∧ safe ≤ got.length) := ⟨hgl, hg, hsg⟩
  have hrn9 : rn ≤ 9000 := by omega
  have hsr : safe ≤ rn := by omega
  clear hgl hg hsg
  clear h hos hog hfz y0 y1 y2 y3 y4 y7 y8 hits hr hr0 u0
  obtain ⟨f, zs⟩ := d
  obtain ⟨sa, sn, sc⟩ := s
  unfold ptr itm
  simp only at x0 x1 hw0 ⊢
  by_cases hsl : safe = rn
  · have s0 : S0 q safe (ra, rn, rc) w0.drew := ⟨bl_cell ((Up.refl _).drew).bl y6, bl_cell ((Up.refl _).drew).bl y5⟩
    have HNO : Hid (got[safe]? ≠ some (f, zs)) := by
      show _ ≠ _
      rw [List.getElem?_eq_none (by have := HGL.out; omega)]
      simp
    subst hsl
    go_enter Try.func51, Try.ntmps51
    go_wp2_with fail
    (try simp only [hw0, hX])
    clear hw0 hX x0 x1
    refine wp_region_noPanic ?_
    refine wp_region_held_drew (S := S0 q safe (ra, safe, rc)) (by kernel_rfl) (s0) (fun hHeld => ?_)
    unfold S0 at hHeld
    refine tq 0 ?_
    refine tq 1 ?_
    refine tq 2 ?_
    refine tq 3 ?_
    refine tq 4 ?_
    refine tq 5 ?_
    refine tq 6 ?_
    refine tq 7 ?_
    refine tq 8 ?_
    refine tq 9 ?_
    refine tq 10 ?_
    refine tqS 11 ?_
    refine tqS 12 ?_
    refine tqS 13 ?_
    refine tqS 14 ?_
    refine tqS 15 ?_
    refine tqS 16 ?_
    refine tqS 17 ?_
    refine tqS 18 ?_
    refine tqS 19 ?_
    refine tqS 20 ?_
    refine tqS 21 ?_
    refine tqS 22 ?_
    refine tqS 23 ?_
    refine tq 24 ?_
    refine wpAnyH_done (by kernel_rfl) ?_ _
    refine NoPanic.normal ?_
    go_wp2
    go_ret
    exact ⟨.inr ⟨HNO.out, rfl⟩, (Tch.of (HC.out.2.bl.mono hZ0)).trans (Tch.of ((Below.refl _ _).drew))⟩
  · have hsI : (safe : Int) < (rn : Int) := by omega
    have hs0 : ¬ ((safe : Int) < 0) := by omega
    have hse : ((safe : Int) == (rn : Int)) = false := by simp; omega
    obtain ⟨d', hd'⟩ : ∃ d', got[safe]? = some d' := ⟨got[safe]'(by have := HGL.out; omega), List.getElem?_eq_getElem _⟩
    obtain ⟨g, o, t, hra, g0, g1, ht⟩ := HO.out.2.at hd'
    have HD : Hid (got[safe]? = some d') := hd'
    subst hra
    have s1 : S1 q X g (o + safe * 2) safe (some ⟨g, o, none⟩, rn, rc) (f, zs) (sa, sn, sc) d' t w0 := ⟨y6, y5, x0, x1, g0, g1, HO.out.1, ht⟩
    have sd := s1.up ((Up.refl w0).drew).bl
    have hsm := fun (W : World) (h : S1 q X g (o + safe * 2) safe (some ⟨g, o, none⟩, rn, rc) (f, zs) (sa, sn, sc) d' t W) => same_any (fun _ => True) (fun _ => True) W d' (f, zs) t (sa, sn, sc) h.2.2.2.2.2.2.2 h.2.2.2.2.2.2.1
    unfold itm at hsm
    simp only at hsm
    have HC2 : Hid (∀ W : World, Below w0.heap.size w0 W → Cur p Z W q ⟨node, yn, yp, ys, sent, got, safe, nn, np⟩ ∧ Tch q Z w W) := fun W u => ⟨HC.out.1.up u, (Tch.of (HC.out.2.bl.mono hZ0)).trans (Tch.of (u.mono (by have := HC.out.2.bl.size; omega)))⟩
    clear hd' g0 g1 ht s1 y6 y5 x0 x1
    obtain ⟨f', ys'⟩ := d'
    obtain ⟨ta, tn, tc⟩ := t
    cases hde : decide ((f', ys') = (f, zs)) with
    | false =>
      simp only [hde] at hsm
      have HNO : Hid (got[safe]? ≠ some (f, zs)) := by
        show _ ≠ _
        rw [HD.out]
        intro e
        exact of_decide_eq_false hde (by simpa using e)
      clear hde
      go_enter Try.func51, Try.ntmps51
      go_wp2_with fail
      (try simp only [hw0, hX])
      clear hw0 hX
      refine wp_region_noPanic ?_
      refine wp_region_held_drew (S := S1 q X g (o + safe * 2) safe (some ⟨g, o, none⟩, rn, rc) (f, zs) (sa, sn, sc) (f', ys') (ta, tn, tc)) (by kernel_rfl) (sd) (fun hHeld => ?_)
      unfold S1 at hHeld
      refine tq 0 ?_
      refine tq 1 ?_
      refine tq 2 ?_
      refine tq 3 ?_
      refine tq 4 ?_
      refine tq 5 ?_
      refine tq 6 ?_
      refine tq 7 ?_
      refine tq 8 ?_
      refine tq 9 ?_
      refine tq 10 ?_
      refine tq 11 ?_
      refine tq 12 ?_
      refine tq 13 ?_
      refine tq 14 ?_
      refine tq 15 ?_
      refine tq 16 ?_
      refine tq 17 ?_
      refine tq 18 ?_
      refine tq 19 ?_
      refine tq 20 ?_
      refine tq 21 ?_
      refine comes_up 22 rfl (by kernel_rfl) (fun K hK => ?_)
      go_simp
      refine (hsm _ hHeld).mono ?_
      rintro _ w3 ⟨rfl, u3⟩
      refine hK.out _ _ (S1.up hHeld u3.bl) (fun hHeld => ?_)
      clear hK K
      (try simp only [Act.put, List.setIfInBounds_toArray, List.set_cons_zero, List.set_cons_succ])
      refine tq 23 ?_
      refine tq 24 ?_
      refine wpAnyH_done (by kernel_rfl) ?_ _
      refine NoPanic.normal ?_
      go_wp2
      go_ret
      exact ⟨.inr ⟨HNO.out, rfl⟩, (HC2.out w3 (((Up.refl w0).drew).trans u3).bl).2⟩
    | true =>
      simp only [hde] at hsm
      have HY : Hid (got[safe]? = some (f, zs)) := by
        show _ = _
        rw [HD.out]
        have := of_decide_eq_true hde
        rw [this]
      clear hde
      go_enter Try.func51, Try.ntmps51
      go_wp2_with fail
      (try simp only [hw0, hX])
      clear hw0 hX
      refine wp_region_noPanic ?_
      refine wp_region_held_drew (S := S1 q X g (o + safe * 2) safe (some ⟨g, o, none⟩, rn, rc) (f, zs) (sa, sn, sc) (f', ys') (ta, tn, tc)) (by kernel_rfl) (sd) (fun hHeld => ?_)
      unfold S1 at hHeld
      refine tq 0 ?_
      refine tq 1 ?_
      refine tq 2 ?_
      refine tq 3 ?_
      refine tq 4 ?_
      refine tq 5 ?_
      refine tq 6 ?_
      refine tq 7 ?_
      refine tq 8 ?_
      refine tq 9 ?_
      refine tq 10 ?_
      refine tq 11 ?_
      refine tq 12 ?_
      refine tq 13 ?_
      refine tq 14 ?_
      refine tq 15 ?_
      refine tq 16 ?_
      refine tq 17 ?_
      refine tq 18 ?_
      refine tq 19 ?_
      refine tq 20 ?_
      refine tq 21 ?_
      refine comes_up 22 rfl (by kernel_rfl) (fun K hK => ?_)
      go_simp
      refine (hsm _ hHeld).mono ?_
      rintro _ w3 ⟨rfl, u3⟩
      have HH : Hid (S1 q X g (o + safe * 2) safe (some ⟨g, o, none⟩, rn, rc) (f, zs) (sa, sn, sc) (f', ys') (ta, tn, tc) w3) := S1.up hHeld u3.bl
      refine hK.out _ _ (HH.out) (fun hHeld => ?_)
      clear hK K
      (try simp only [Act.put, List.setIfInBounds_toArray, List.set_cons_zero, List.set_cons_succ])
      refine tq 23 ?_
      refine tq 24 ?_
      refine wpAnyH_done (by kernel_rfl) ?_ _
      refine NoPanic.normal ?_
      obtain ⟨hc3, ht3⟩ := HC2.out w3 (((Up.refl w0).drew).trans u3).bl
      have y6 := HH.out.1
      have fz : w3.frozen? ⟨q, 6, none⟩ = false := by obtain ⟨_, _, _, _, _, fz, _⟩ := hc3; exact fz 6
      obtain ⟨w4, hw4⟩ : ∃ w4, w3.setCell ⟨q, 6, none⟩ (.int .i64 ((safe + 1 : Nat) : Int)) = w4 := ⟨_, rfl⟩
      have HE : Hid (Cur p Z w4 q ⟨node, yn, yp, ys, sent, got, safe + 1, nn, np⟩ ∧ Tch q Z w w4) := by
        rw [← hw4]
        exact ⟨hc3.set6 hp (safe + 1), ht3.trans (Tch.set _ _ _)⟩
      have hw5 : w3.setCell ⟨q, 6, none⟩ (.int .i64 ((safe : Int) + 1)) = w4 := by rw [← hw4]; rfl
      clear hHeld sd hsm u3 hc3 ht3 hw4
      go_wp2_with fail
      (try simp only [hw5])
      clear hw5
      go_wp2
      go_ret
      exact ⟨.inl ⟨HY.out, rfl, HE.out.1⟩, HE.out.2⟩
end Go.Proofs.Ythnbijnpbjfoaaa
