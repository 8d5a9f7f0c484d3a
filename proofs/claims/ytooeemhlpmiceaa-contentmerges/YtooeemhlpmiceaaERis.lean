/-
  The document's Rising: do entries rise by their labels?
-/
import Derived.Test.YtooeemhlpmiceaaFMath
import Derived.Test.YtooeemhlpmiceaaFFind
namespace Go.Proofs.Ytooeemhlpmiceaa
open Go.RowKit
set_option linter.unusedVariables false
set_option linter.unusedSimpArgs false

def den : Lb × List UInt8 := ((0, 0, 0, 0), [])
/-- Do entries rise by their labels? -/
def risE (es : List (Lb × List UInt8)) : Prop := ∀ k, 1 ≤ k → k < es.length → ltL (es.getD (k - 1) den).1 (es.getD k den).1
def S8 (b o : Nat) (x : Lb) (o' : Nat) (y : Lb) (w : World) : Prop :=
  w.cell? ⟨b, o, none⟩ = some (.int .u64 (x.1 : Nat)) ∧ w.cell? ⟨b, o + 1, none⟩ = some (.int .i64 x.2.1) ∧ w.cell? ⟨b, o + 2, none⟩ = some (.int .u64 (x.2.2.1 : Nat)) ∧ w.cell? ⟨b, o + 3, none⟩ = some (.int .i64 x.2.2.2) ∧
  w.cell? ⟨b, o', none⟩ = some (.int .u64 (y.1 : Nat)) ∧ w.cell? ⟨b, o' + 1, none⟩ = some (.int .i64 y.2.1) ∧ w.cell? ⟨b, o' + 2, none⟩ = some (.int .u64 (y.2.2.1 : Nat)) ∧ w.cell? ⟨b, o' + 3, none⟩ = some (.int .i64 y.2.2.2)
theorem getD_some {α : Type} {l : List α} {k : Nat} {x d : α} (h : l[k]? = some x) : l.getD k d = x := by simp [List.getD, h]

set_option maxRecDepth 10000 in
set_option maxHeartbeats 1000000 in
theorem rising_any (p : Nat → Prop) (w : World) (ao : Option Addr) (n cap : Nat) (es : List (Lb × List UInt8)) (h : ER p w ao n es) :
    Calls Try.prog 17 #[.slice ao n cap] w fun e w' => ∃ r, e = .returned (.bool r) ∧ (r = true ↔ risE es) ∧ Up w w' := by
  have hl := h.1
  have hmax := h.2.1
  go_enter Try.func17, Try.ntmps17
  go_wp2_with fail
  go_loopw [3] (fun iv wr => ∃ k : Nat, (k ≤ n ∨ k = 1) ∧ 1 ≤ k ∧ iv = .int .i64 k ∧ (∀ j, 1 ≤ j → j < k → ltL (es.getD (j - 1) den).1 (es.getD j den).1) ∧ ER p wr ao n es ∧ Up w wr) (fun iv _ => n + 1 - (intOf iv).toNat)
  case atStart => exact ⟨1, by omega, by omega, rfl, fun j h1 h2 => by omega, h, Up.refl _⟩
  case round =>
    obtain ⟨k, hk, hk1, rfl, hno, hr, hu⟩ := hrel
    have HNO : Hid (∀ j, 1 ≤ j → j < k → ltL (es.getD (j - 1) den).1 (es.getD j den).1) := hno
    clear hno h
    by_cases hlt : k < n
    · obtain ⟨j, rfl⟩ : ∃ j, k = j + 1 := ⟨k - 1, by omega⟩
      obtain ⟨x, hx⟩ : ∃ y, es[j]? = some y := ⟨es[j]'(by omega), List.getElem?_eq_getElem (by omega)⟩
      obtain ⟨y, hy⟩ : ∃ y, es[j + 1]? = some y := ⟨es[j + 1]'(by omega), List.getElem?_eq_getElem (by omega)⟩
      obtain ⟨b, off, hao, _, hc⟩ := hr.2.2 (by omega)
      obtain ⟨so, sn, sc, c0, c1, c2, c3, _⟩ := hc j x hx
      obtain ⟨to, tn, tc, d0, d1, d2, d3, _⟩ := hc (j + 1) y hy
      have HS : Hid (∀ W : World, Below wr.heap.size wr W → S8 b (off + j * 5) x.1 (off + (j + 1) * 5) y.1 W) := fun W u => ⟨bl_cell u c0, bl_cell u c1, bl_cell u c2, bl_cell u c3, bl_cell u d0, bl_cell u d1, bl_cell u d2, bl_cell u d3⟩
      have u0 : Below wr.heap.size wr wr.drew := (Below.refl _ _).drew
      have s0 := HS.out _ u0
      have hls := fun W => less_any W x.1 y.1
      have HC := cmpL_lt x.1 y.1
      have HX : Hid (es.getD j den = x ∧ es.getD (j + 1) den = y) := ⟨getD_some hx, getD_some hy⟩
      subst hao
      have hR := hr
      clear hc hx hy hr c0 c1 c2 c3 d0 d1 d2 d3
      obtain ⟨x, xm⟩ := x
      obtain ⟨y, ym⟩ := y
      have hltI : ((j : Int) + 1) < (n : Int) := by omega
      have hjl : ((j : Nat) : Int) < (n : Int) := by omega
      have hj0 : ¬ (((j : Nat) : Int) < 0) := by omega
      have hj1 : ¬ ((j : Int) + 1 < 0) := by omega
      have hwk : IntKind.i64.wrap (j : Int) = (j : Int) := IntWalk.i64_in _ (by omega)
      have hsub : ((j : Int) + 1) - 1 = (j : Int) := by omega
      have hk00 : (0 : Int) ≤ (j : Int) := by omega
      have hk01 : (0 : Int) ≤ (j : Int) + 1 := by omega
      have hwj : IntKind.i64.wrap ((j : Int) + 1) = (j : Int) + 1 := IntWalk.i64_in _ (by omega)
      have hto : ((j : Int) + 1).toNat = j + 1 := by omega
      simp only at hls HC s0 HS
      obtain ⟨f, hf⟩ : ∃ f, decide (cmpL x y < 0) = f := ⟨_, rfl⟩
      rw [hf] at hls
      unfold lab at hls
      unfold S8 at s0
      cases f with
      | true =>
        have HN2 : Hid (∀ i, 1 ≤ i → i < j + 1 + 1 → ltL (es.getD (i - 1) den).1 (es.getD i den).1) := fun i h1 h2 => by
          by_cases e : i = j + 1
          · subst e
            rw [show j + 1 - 1 = j by omega, HX.out.1, HX.out.2]
            exact HC.1 (by simpa using hf)
          · exact HNO.out i h1 (by omega)
        clear HNO HC hf HX
        go_wp2_with fail
        refine wp_region_noPanic ?_
        refine wp_region_held_drew (S := S8 b (off + j * 5) x (off + (j + 1) * 5) y) (by kernel_rfl) s0 (fun hHeld => ?_)
        unfold S8 at hHeld
        refine tq 0 ?_
        refine tq 1 ?_
        refine tq 2 ?_
        refine tq 3 ?_
        refine tq 4 ?_
        refine tq 5 ?_
        refine tq 6 ?_
        refine tq 7 ?_
        refine tq 8 ?_
        refine tq 9 ?_
        refine tq 10 ?_
        refine comes_up 11 rfl (by kernel_rfl) (fun K hK => ?_)
        go_simp
        refine (hls _).mono ?_
        rintro e w1 ⟨rfl, hu1⟩
        have u1 := bl_step u0 hu1.bl
        have hu2 : Up w w1 := (hu.drew).trans hu1
        clear hls s0 hu1
        go_wp2_with fail
        refine hK.out _ _ (HS.out _ u1) (fun hHeld => ?_)
        clear hK K
        (try simp only [Act.put, List.setIfInBounds_toArray, List.set_cons_zero, List.set_cons_succ])
        refine tq 12 ?_
        refine wpAnyH_done (by kernel_rfl) ?_ _
        refine NoPanic.normal ?_
        clear hHeld
        go_wp2
        go_roundw
        case rel => first | exact ⟨j + 1 + 1, by omega, by omega, by go_num, HN2.out, hR.bl u1, hu2⟩ | ((repeat apply Exists.intro); exact ⟨⟨j + 1 + 1, by omega, by omega, by go_num, HN2.out, hR.bl u1, hu2⟩, rfl⟩)
        case measure => simp [intOf]; omega
      | false =>
        have HN2 : Hid (¬ risE es) := fun hh => by
          have := hh (j + 1) (by omega) (by omega)
          rw [show j + 1 - 1 = j by omega, HX.out.1, HX.out.2] at this
          have := HC.2 this
          simp at hf
          omega
        clear HNO HC hf HX
        go_wp2_with fail
        refine wp_region_noPanic ?_
        refine wp_region_held_drew (S := S8 b (off + j * 5) x (off + (j + 1) * 5) y) (by kernel_rfl) s0 (fun hHeld => ?_)
        unfold S8 at hHeld
        refine tq 0 ?_
        refine tq 1 ?_
        refine tq 2 ?_
        refine tq 3 ?_
        refine tq 4 ?_
        refine tq 5 ?_
        refine tq 6 ?_
        refine tq 7 ?_
        refine tq 8 ?_
        refine tq 9 ?_
        refine tq 10 ?_
        refine comes_up 11 rfl (by kernel_rfl) (fun K hK => ?_)
        go_simp
        refine (hls _).mono ?_
        rintro e w1 ⟨rfl, hu1⟩
        have u1 := bl_step u0 hu1.bl
        have hu2 : Up w w1 := (hu.drew).trans hu1
        clear hls s0 hu1
        go_wp2_with fail
        refine hK.out _ _ (HS.out _ u1) (fun hHeld => ?_)
        clear hK K
        (try simp only [Act.put, List.setIfInBounds_toArray, List.set_cons_zero, List.set_cons_succ])
        refine tq 12 ?_
        refine wpAnyH_done (by kernel_rfl) ?_ _
        refine NoPanic.normal ?_
        clear hHeld
        go_wp2
        go_ret
        exact ⟨false, rfl, by simp [HN2.out], hu2⟩
    · have HN2 : Hid (risE es) := fun j h1 h2 => HNO.out j h1 (by omega)
      have hlt' : ¬ ((k : Int) < (n : Int)) := by omega
      clear HNO hr
      go_wp2
      go_ret
      exact .inr ⟨rfl, HN2.out, hu⟩


theorem asc_ris {es : List En} (h : Asc es) : risE es := fun k h1 hk => by
  have := (List.pairwise_iff_getElem.1 h) (k - 1) k (by omega) hk (by omega)
  rw [getD_some (List.getElem?_eq_getElem (by omega)), getD_some (List.getElem?_eq_getElem hk)]
  exact this
end Go.Proofs.Ytooeemhlpmiceaa
