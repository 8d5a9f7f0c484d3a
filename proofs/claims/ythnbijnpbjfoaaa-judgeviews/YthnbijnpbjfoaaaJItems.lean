/-
  The document's Items: are two lists of items one?
-/
import Derived.Test.YthnbijnpbjfoaaaJRow
namespace Go.Proofs.Ythnbijnpbjfoaaa
open Go.RowKit Go.Sort
set_option linter.unusedVariables false

/-- Two items side by side. -/
def TwoI (b1 o1 b2 o2 : Nat) (d e : Di) (r s : Sr) (wx : World) : Prop :=
  wx.cell? ⟨b1, o1, none⟩ = some (.int .i64 d.1) ∧ wx.cell? ⟨b1, o1 + 1, none⟩ = some (.slice r.1 r.2.1 r.2.2) ∧ (convert 30 9 (.slice r.1 r.2.1 r.2.2)).run Try.prog wx = .ok (.string (str d.2)) wx ∧
  wx.cell? ⟨b2, o2, none⟩ = some (.int .i64 e.1) ∧ wx.cell? ⟨b2, o2 + 1, none⟩ = some (.slice s.1 s.2.1 s.2.2) ∧ (convert 30 9 (.slice s.1 s.2.1 s.2.2)).run Try.prog wx = .ok (.string (str e.2)) wx

set_option maxRecDepth 10000 in
set_option maxHeartbeats 2000000 in
theorem items_any (p q : Nat → Prop) (w : World) (ao bo : Option Addr) (n m c1 c2 : Nat) (ds es : List Di) (h : Its p w ao n ds) (g : Its q w bo m es) :
    Calls Try.prog 13 #[.slice ao n c1, .slice bo m c2] w fun e w' => e = .returned (.bool (decide (ds = es))) ∧ Up w w' := by
  have hl := h.len
  have hl2 := g.len
  have hm := h.le
  have HI : Hid (Its p w ao n ds ∧ Its q w bo m es) := ⟨h, g⟩
  generalize hdd : decide (ds = es) = res
  have HD : Hid (decide (ds = es) = res) := hdd
  clear h g hdd
  by_cases hnm : n = m
  · subst hnm
    go_enter Try.func13, Try.ntmps13
    go_wp2_with fail
    go_loopw [5] (fun iv wr => ∃ k : Nat, k ≤ n ∧ iv = .int .i64 (k : Nat) ∧ ds.take k = es.take k ∧ Up w wr) (fun iv _ => n - (intOf iv).toNat)
    case atStart => exact ⟨0, by omega, rfl, by simp, Up.refl _⟩
    case round =>
      obtain ⟨k, hk, rfl, htk, hu⟩ := hrel
      have HT : Hid (ds.take k = es.take k) := htk
      clear htk
      by_cases hlt : k < n
      · have hltI : (k : Int) < (n : Int) := by omega
        have hk0 : ¬ ((k : Int) < 0) := by omega
        obtain ⟨d, hd⟩ : ∃ d, ds[k]? = some d := ⟨ds[k]'(by omega), List.getElem?_eq_getElem (by omega)⟩
        obtain ⟨e, he⟩ : ∃ e, es[k]? = some e := ⟨es[k]'(by omega), List.getElem?_eq_getElem (by omega)⟩
        have hud : Below w.heap.size w wr.drew := hu.drew.bl
        obtain ⟨b1, o1, r, rfl, p0, p1, pr⟩ := (HI.out.1.up hud).at hd
        obtain ⟨b2, o2, s, rfl, q0, q1, qr⟩ := (HI.out.2.up hud).at he
        have HDE : Hid (ds[k]? = some d ∧ es[k]? = some e) := ⟨hd, he⟩
        have two : TwoI b1 (o1 + k * 2) b2 (o2 + k * 2) d e r s wr.drew := ⟨p0, p1, conv_rw pr, q0, q1, conv_rw qr⟩
        have hbe := str_beq d.2 e.2
        clear hd he pr qr p0 p1 q0 q1 HI hud
        obtain ⟨f, xs⟩ := d
        obtain ⟨f', ys⟩ := e
        simp only at hbe
        by_cases hf : f = f'
        · subst hf
          cases hde : decide (xs = ys) with
          | true =>
            rw [hde] at hbe
            have HT' : Hid (ds.take (k + 1) = es.take (k + 1)) := by
              have x : xs = ys := of_decide_eq_true hde
              show ds.take (k + 1) = es.take (k + 1)
              rw [take_snoc HDE.out.1, take_snoc HDE.out.2, HT.out, x]
            clear hde
            go_wp2_with fail
            refine wp_region_noPanic ?_
            refine wp_region_held_drew (S := TwoI b1 (o1 + k * 2) b2 (o2 + k * 2) (f, xs) (f, ys) r s) (by kernel_rfl) (two) (fun hHeld => ?_)
            unfold TwoI at hHeld
            refine tq 0 ?_
            refine tq 1 ?_
            refine tq 2 ?_
            refine tq 3 ?_
            refine tq 4 ?_
            refine tq 5 ?_
            refine tq 6 ?_
            refine tq 7 ?_
            refine tq 8 ?_
            refine tq 9 ?_
            refine tq 10 ?_
            refine tq 11 ?_
            refine tq 12 ?_
            refine tq 13 ?_
            refine tq 14 ?_
            refine tq 15 ?_
            refine tq 16 ?_
            refine tq 17 ?_
            refine tq 18 ?_
            refine tq 19 ?_
            refine tq 20 ?_
            refine tq 21 ?_
            refine tq 22 ?_
            refine tq 23 ?_
            refine tq 24 ?_
            refine tq 25 ?_
            refine wpAnyH_done (by kernel_rfl) ?_ _
            refine NoPanic.normal ?_
            go_wp2
            go_roundw
            case rel => first | exact ⟨k + 1, by omega, by go_num, HT'.out, hu.drew⟩ | ((repeat apply Exists.intro); exact ⟨⟨k + 1, by omega, by go_num, HT'.out, hu.drew⟩, rfl⟩)
            case measure => simp [intOf]; omega
          | false =>
            rw [hde] at hbe
            have hrt : Hid (false = res) := by
              show false = res
              rw [← HD.out]
              symm
              simp only [decide_eq_false_iff_not]
              intro x
              have hne : xs ≠ ys := of_decide_eq_false hde
              have y := HDE.out.1
              rw [x, HDE.out.2] at y
              exact hne (by simpa using y.symm)
            clear hde
            go_wp2_with fail
            refine wp_region_noPanic ?_
            refine wp_region_held_drew (S := TwoI b1 (o1 + k * 2) b2 (o2 + k * 2) (f, xs) (f, ys) r s) (by kernel_rfl) (two) (fun hHeld => ?_)
            unfold TwoI at hHeld
            refine tq 0 ?_
            refine tq 1 ?_
            refine tq 2 ?_
            refine tq 3 ?_
            refine tq 4 ?_
            refine tq 5 ?_
            refine tq 6 ?_
            refine tq 7 ?_
            refine tq 8 ?_
            refine tq 9 ?_
            refine tq 10 ?_
            refine tq 11 ?_
            refine tq 12 ?_
            refine tq 13 ?_
            refine tq 14 ?_
            refine tq 15 ?_
            refine tq 16 ?_
            refine tq 17 ?_
            refine tq 18 ?_
            refine tq 19 ?_
            refine tq 20 ?_
            refine tq 21 ?_
            refine tq 22 ?_
            refine tq 23 ?_
            refine tq 24 ?_
            refine tq 25 ?_
            refine wpAnyH_done (by kernel_rfl) ?_ _
            refine NoPanic.normal ?_
            go_wp2
            go_ret
            exact ⟨ret_bool hrt.out, hu.drew⟩
        · have hfb : (f == f') = false := by simpa using hf
          have hfn : (f != f') = true := by simpa using hf
          have hrt : Hid (false = res) := by
            show false = res
            rw [← HD.out]
            symm
            simp only [decide_eq_false_iff_not]
            intro x
            have y := HDE.out.1
            rw [x, HDE.out.2] at y
            exact hf (by have := congrArg Prod.fst (Option.some.inj y); simpa using this.symm)
          clear hbe
          go_wp2_with fail
          refine wp_region_noPanic ?_
          refine wp_region_held_drew (S := TwoI b1 (o1 + k * 2) b2 (o2 + k * 2) (f, xs) (f', ys) r s) (by kernel_rfl) (two) (fun hHeld => ?_)
          unfold TwoI at hHeld
          refine tq 0 ?_
          refine tq 1 ?_
          refine tq 2 ?_
          refine tq 3 ?_
          refine tq 4 ?_
          refine tq 5 ?_
          refine tq 6 ?_
          refine tq 7 ?_
          refine tq 8 ?_
          refine tq 9 ?_
          refine tq 10 ?_
          refine tq 11 ?_
          refine tqS 12 ?_
          refine tqS 13 ?_
          refine tqS 14 ?_
          refine tqS 15 ?_
          refine tqS 16 ?_
          refine tqS 17 ?_
          refine tqS 18 ?_
          refine tqS 19 ?_
          refine tqS 20 ?_
          refine tqS 21 ?_
          refine tqS 22 ?_
          refine tqS 23 ?_
          refine tqS 24 ?_
          refine tq 25 ?_
          refine wpAnyH_done (by kernel_rfl) ?_ _
          refine NoPanic.normal ?_
          go_wp2
          go_ret
          exact ⟨ret_bool hrt.out, hu.drew⟩
      · obtain rfl : k = n := by omega
        have hrt : Hid (true = res) := by
          show true = res
          rw [← HD.out]
          symm
          have := HT.out
          rw [List.take_of_length_le (by omega), List.take_of_length_le (by omega)] at this
          simpa using this
        go_wp2
        go_ret
        exact ⟨ret_bool hrt.out, hu⟩
  · have hnb : ((n : Int) == (m : Int)) = false := by simp; omega
    have hrt : Hid (false = res) := by
      show false = res
      rw [← HD.out]
      symm
      simp only [decide_eq_false_iff_not]
      intro x
      rw [x] at hl
      omega
    clear HI HD hl hl2
    go_enter Try.func13, Try.ntmps13
    go_wp2
    go_ret
    exact ⟨ret_bool hrt.out, Up.refl _⟩
end Go.Proofs.Ythnbijnpbjfoaaa
