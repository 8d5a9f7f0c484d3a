/-
  The document's Same: are two lists of entries one?
-/
import Derived.Test.YtlaihgdfedalmaaGreatERow
namespace Go.Proofs.YtlaihgdfedalmaaGreat
open Go.RowKit
set_option linter.unusedVariables false

/-- What a round of Same reads: two entries, and what their messages say. -/
def S2 (b o : Nat) (x : Lb) (so : Option Addr) (sn sc : Nat) (m : List UInt8) (b' o' : Nat) (y : Lb) (to : Option Addr) (tn tc : Nat) (k : List UInt8) (w : World) : Prop :=
  w.cell? ⟨b, o, none⟩ = some (.int .u64 (x.1 : Nat)) ∧ w.cell? ⟨b, o + 1, none⟩ = some (.int .i64 x.2.1) ∧ w.cell? ⟨b, o + 2, none⟩ = some (.int .u64 (x.2.2.1 : Nat)) ∧ w.cell? ⟨b, o + 3, none⟩ = some (.int .i64 x.2.2.2) ∧ w.cell? ⟨b, o + 4, none⟩ = some (.slice so sn sc) ∧ (convert 37 9 (.slice so sn sc)).run Tryz.prog w = .ok (.string (Cd.str m)) w ∧
  w.cell? ⟨b', o', none⟩ = some (.int .u64 (y.1 : Nat)) ∧ w.cell? ⟨b', o' + 1, none⟩ = some (.int .i64 y.2.1) ∧ w.cell? ⟨b', o' + 2, none⟩ = some (.int .u64 (y.2.2.1 : Nat)) ∧ w.cell? ⟨b', o' + 3, none⟩ = some (.int .i64 y.2.2.2) ∧ w.cell? ⟨b', o' + 4, none⟩ = some (.slice to tn tc) ∧ (convert 37 9 (.slice to tn tc)).run Tryz.prog w = .ok (.string (Cd.str k)) w

set_option maxRecDepth 10000 in
set_option maxHeartbeats 1000000 in
theorem sameE_any (p q : Nat → Prop) (w : World) (ao : Option Addr) (n cap : Nat) (es : List (Lb × List UInt8)) (h : ER p w ao n es) (bo : Option Addr) (m cbp : Nat) (fs : List (Lb × List UInt8)) (g : ER q w bo m fs) :
    Calls Tryz.prog 80 #[.slice ao n cap, .slice bo m cbp] w fun e w' => e = .returned (.bool (decide (es = fs))) ∧ Up w w' := by
  have hl := h.1
  have hmax := h.2.1
  have hm := g.1
  generalize hdd : decide (es = fs) = r
  have HD : Hid (decide (es = fs) = r) := hdd
  clear hdd
  by_cases hnm : n = m
  · subst hnm
    go_enter Tryz.func80, Tryz.ntmps80
    go_wp2_with fail
    go_loopw [5] (fun iv wr => ∃ k : Nat, k ≤ n ∧ iv = .int .i64 k ∧ es.take k = fs.take k ∧ ER p wr ao n es ∧ ER q wr bo n fs ∧ Up w wr) (fun iv _ => n - (intOf iv).toNat)
    case atStart => exact ⟨0, by omega, rfl, by simp, h, g, Up.refl _⟩
    case round =>
      obtain ⟨k, hk, rfl, hno, hr, hs, hu⟩ := hrel
      have HNO : Hid (es.take k = fs.take k) := hno
      clear hno h g
      by_cases hlt : k < n
      · have hltI : (k : Int) < (n : Int) := by omega
        obtain ⟨x, hx⟩ : ∃ y, es[k]? = some y := ⟨es[k]'(by omega), List.getElem?_eq_getElem (by omega)⟩
        obtain ⟨y, hy⟩ : ∃ y, fs[k]? = some y := ⟨fs[k]'(by omega), List.getElem?_eq_getElem (by omega)⟩
        have HX : Hid (es[k]? = some x) := hx
        have HY : Hid (fs[k]? = some y) := hy
        obtain ⟨b, off, hao, _, hc⟩ := hr.2.2 (by omega)
        obtain ⟨so, sn, sc, c0, c1, c2, c3, c4, hcr, _⟩ := hc k x hx
        obtain ⟨b', off', hbo, _, hd⟩ := hs.2.2 (by omega)
        obtain ⟨to, tn, tc, d0, d1, d2, d3, d4, hdr, _⟩ := hd k y hy
        have HS : Hid (∀ W : World, Below wr.heap.size wr W → S2 b (off + k * 5) x.1 so sn sc x.2 b' (off' + k * 5) y.1 to tn tc y.2 W) := fun W u => ⟨bl_cell u c0, bl_cell u c1, bl_cell u c2, bl_cell u c3, bl_cell u c4, Cd.conv_row (hcr.below u (Nat.le_refl _)), bl_cell u d0, bl_cell u d1, bl_cell u d2, bl_cell u d3, bl_cell u d4, Cd.conv_row (hdr.below u (Nat.le_refl _))⟩
        have s0 := HS.out wr.drew ((Below.refl _ _).drew)
        have heq := fun W => lab_equal x.1 y.1 W
        have hbe := Cd.str_beq x.2 y.2
        have HR := hr
        have HSS := hs
        subst hao
        subst hbo
        clear hc hd hx hy hr hs hcr hdr c0 c1 c2 c3 c4 d0 d1 d2 d3 d4
        have hk0 : ¬ ((k : Int) < 0) := by omega
        obtain ⟨x, xm⟩ := x
        obtain ⟨y, ym⟩ := y
        simp only at heq hbe s0 HS
        unfold S2 at s0
        cases he : decide (x = y) with
        | false =>
          rw [he] at heq
          have hrt : Hid (false = r) := by
            show false = r
            rw [← HD.out]
            have hne : x ≠ y := by simpa using he
            symm
            simp only [decide_eq_false_iff_not]
            intro e
            subst e
            have := HX.out.symm.trans HY.out
            simp at this
            exact hne this.1
          clear he HNO hbe
          go_wp2_with fail
          refine wp_region_noPanic ?_
          refine wp_region_held_drew (S := S2 b (off + k * 5) x so sn sc xm b' (off' + k * 5) y to tn tc ym) (by kernel_rfl) s0 (fun hHeld => ?_)
          unfold S2 at hHeld
          refine tq 0 ?_
          refine tq 1 ?_
          refine tq 2 ?_
          refine tq 3 ?_
          refine tq 4 ?_
          refine tq 5 ?_
          refine tq 6 ?_
          refine tq 7 ?_
          refine tq 8 ?_
          refine tq 9 ?_
          refine tq 10 ?_
          refine tq 11 ?_
          refine tqS 12 ?_
          refine tqS 13 ?_
          refine tqS 14 ?_
          refine tqS 15 ?_
          refine tqS 16 ?_
          refine tqS 17 ?_
          refine tqS 18 ?_
          refine tqS 19 ?_
          refine tqS 20 ?_
          refine tqS 21 ?_
          refine tqS 22 ?_
          refine tqS 23 ?_
          refine tqS 24 ?_
          refine tq 25 ?_
          refine wpAnyH_done (by kernel_rfl) ?_ _
          refine NoPanic.normal ?_
          go_wp2
          go_ret
          exact ⟨ret_bool hrt.out, hu.drew⟩
        | true =>
          rw [he] at heq
          have exy : x = y := by simpa using he
          cases hm2 : decide (xm = ym) with
          | true =>
            rw [hm2] at hbe
            have hno' : Hid (es.take (k + 1) = fs.take (k + 1)) := by
              have e : xm = ym := by simpa using hm2
              show es.take (k + 1) = fs.take (k + 1)
              rw [List.take_add_one, List.take_add_one, HNO.out, HX.out, HY.out, e, exy]
            clear he HNO hm2 exy
            go_wp2_with fail
            refine wp_region_noPanic ?_
            refine wp_region_held_drew (S := S2 b (off + k * 5) x so sn sc xm b' (off' + k * 5) y to tn tc ym) (by kernel_rfl) s0 (fun hHeld => ?_)
            unfold S2 at hHeld
            refine tq 0 ?_
            refine tq 1 ?_
            refine tq 2 ?_
            refine tq 3 ?_
            refine tq 4 ?_
            refine tq 5 ?_
            refine tq 6 ?_
            refine tq 7 ?_
            refine tq 8 ?_
            refine tq 9 ?_
            refine tq 10 ?_
            refine tq 11 ?_
            refine tq 12 ?_
            refine tq 13 ?_
            refine tq 14 ?_
            refine tq 15 ?_
            refine tq 16 ?_
            refine tq 17 ?_
            refine tq 18 ?_
            refine tq 19 ?_
            refine tq 20 ?_
            refine tq 21 ?_
            refine tq 22 ?_
            refine tq 23 ?_
            refine tq 24 ?_
            refine tq 25 ?_
            refine wpAnyH_done (by kernel_rfl) ?_ _
            refine NoPanic.normal ?_
            go_wp2
            go_roundw
            case rel => first | exact ⟨k + 1, by omega, by go_num, hno'.out, HR.bl ((Below.refl _ _).drew), HSS.bl ((Below.refl _ _).drew), hu.drew⟩ | ((repeat apply Exists.intro); exact ⟨⟨k + 1, by omega, by go_num, hno'.out, HR.bl ((Below.refl _ _).drew), HSS.bl ((Below.refl _ _).drew), hu.drew⟩, rfl⟩)
            case measure => simp [intOf]; omega
          | false =>
            rw [hm2] at hbe
            have hrt : Hid (false = r) := by
              show false = r
              rw [← HD.out]
              have hne : xm ≠ ym := by simpa using hm2
              symm
              simp only [decide_eq_false_iff_not]
              intro e
              subst e
              have := HX.out.symm.trans HY.out
              simp at this
              exact hne this.2
            clear he HNO hm2 exy
            go_wp2_with fail
            refine wp_region_noPanic ?_
            refine wp_region_held_drew (S := S2 b (off + k * 5) x so sn sc xm b' (off' + k * 5) y to tn tc ym) (by kernel_rfl) s0 (fun hHeld => ?_)
            unfold S2 at hHeld
            refine tq 0 ?_
            refine tq 1 ?_
            refine tq 2 ?_
            refine tq 3 ?_
            refine tq 4 ?_
            refine tq 5 ?_
            refine tq 6 ?_
            refine tq 7 ?_
            refine tq 8 ?_
            refine tq 9 ?_
            refine tq 10 ?_
            refine tq 11 ?_
            refine tq 12 ?_
            refine tq 13 ?_
            refine tq 14 ?_
            refine tq 15 ?_
            refine tq 16 ?_
            refine tq 17 ?_
            refine tq 18 ?_
            refine tq 19 ?_
            refine tq 20 ?_
            refine tq 21 ?_
            refine tq 22 ?_
            refine tq 23 ?_
            refine tq 24 ?_
            refine tq 25 ?_
            refine wpAnyH_done (by kernel_rfl) ?_ _
            refine NoPanic.normal ?_
            go_wp2
            go_ret
            exact ⟨ret_bool hrt.out, hu.drew⟩
      · obtain rfl : k = n := by omega
        have hrt : Hid (true = r) := by
          show true = r
          rw [← HD.out]
          symm
          have e := HNO.out
          rw [List.take_of_length_le (by omega), List.take_of_length_le (by omega)] at e
          simpa using e
        clear HNO hr hs
        go_wp2
        go_ret
        exact ⟨ret_bool hrt.out, hu⟩
  · have hrt : Hid (false = r) := by
      show false = r
      rw [← HD.out]
      symm
      simp only [decide_eq_false_iff_not]
      intro e
      subst e
      exact hnm (by omega)
    have hne : ((n : Int) != (m : Int)) = true := by simp; omega
    clear h g hl hm
    go_enter Tryz.func80, Tryz.ntmps80
    go_wp2
    go_ret
    exact ⟨ret_bool hrt.out, Up.refl _⟩
end Go.Proofs.YtlaihgdfedalmaaGreat
