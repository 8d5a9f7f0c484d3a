/-
  The document's Same: are two lists of labels one?
-/
import Derived.Test.YtpdgoalbknopiaaLRow
namespace Go.Proofs.Ytpdgoalbknopiaa
open Go.RowKit Go.Sort
set_option linter.unusedVariables false

set_option maxRecDepth 10000 in
set_option maxHeartbeats 1000000 in
theorem same_any (w : World) (ao : Option Addr) (n cap : Nat) (ls : List Lb) (h : LR w ao n ls) (bo : Option Addr) (m cbp : Nat) (ms : List Lb) (g : LR w bo m ms) :
    Calls Try.prog 30 #[.slice ao n cap, .slice bo m cbp] w fun e w' => e = .returned (.bool (decide (ls = ms))) ∧ Up w w' := by
  have hl := h.1
  have hmax := h.2.1
  have hm := g.1
  generalize hdd : decide (ls = ms) = r
  have HD : Hid (decide (ls = ms) = r) := hdd
  clear hdd
  by_cases hnm : n = m
  · subst hnm
    go_enter Try.func30, Try.ntmps30
    go_wp2_with fail
    go_loopw [5] (fun iv wr => ∃ k : Nat, k ≤ n ∧ iv = .int .i64 k ∧ ls.take k = ms.take k ∧ LR wr ao n ls ∧ LR wr bo n ms ∧ Up w wr) (fun iv _ => n - (intOf iv).toNat)
    case atStart => exact ⟨0, by omega, rfl, by simp, h, g, Up.refl _⟩
    case round =>
      obtain ⟨k, hk, rfl, hno, hr, hs, hu⟩ := hrel
      have HNO : Hid (ls.take k = ms.take k) := hno
      clear hno h g
      by_cases hlt : k < n
      · have hltI : (k : Int) < (n : Int) := by omega
        obtain ⟨x, hx⟩ : ∃ y, ls[k]? = some y := ⟨ls[k]'(by omega), List.getElem?_eq_getElem (by omega)⟩
        obtain ⟨y, hy⟩ : ∃ y, ms[k]? = some y := ⟨ms[k]'(by omega), List.getElem?_eq_getElem (by omega)⟩
        have HX : Hid (ls[k]? = some x) := hx
        have HY : Hid (ms[k]? = some y) := hy
        obtain ⟨b, off, hao, hc⟩ := hr.2.2 (by omega)
        obtain ⟨c0, c1, c2, c3⟩ := hc k x hx
        obtain ⟨b', off', hbo, hd⟩ := hs.2.2 (by omega)
        obtain ⟨d0, d1, d2, d3⟩ := hd k y hy
        have heq := fun W => lab_equal x y W
        have HR := hr
        have HS := hs
        subst hao
        subst hbo
        clear hc hd hx hy hr hs
        have hk0 : ¬ ((k : Int) < 0) := by omega
        cases he : decide (x = y) with
        | true =>
          rw [he] at heq
          have hno' : Hid (ls.take (k + 1) = ms.take (k + 1)) := by
            have e : x = y := by simpa using he
            show ls.take (k + 1) = ms.take (k + 1)
            rw [List.take_add_one, List.take_add_one, HNO.out, HX.out, HY.out, e]
          clear he HNO
          go_wp2_with fail
          go_quiet (fail)
          go_wp2
          go_roundw
          case rel => first | exact ⟨k + 1, by omega, by go_num, hno'.out, HR, HS, hu.drewN _⟩ | ((repeat apply Exists.intro); exact ⟨⟨k + 1, by omega, by go_num, hno'.out, HR, HS, hu.drewN _⟩, rfl⟩)
          case measure => simp [intOf]; omega
        | false =>
          rw [he] at heq
          have hrt : Hid (false = r) := by
            show false = r
            rw [← HD.out]
            have hne : x ≠ y := by simpa using he
            symm
            simp only [decide_eq_false_iff_not]
            intro e
            subst e
            have := HX.out.symm.trans HY.out
            simp at this
            exact hne this
          clear he HNO
          go_wp2_with fail
          go_quiet (fail)
          go_wp2
          go_ret
          exact ⟨ret_bool hrt.out, hu.drewN _⟩
      · obtain rfl : k = n := by omega
        have hrt : Hid (true = r) := by
          show true = r
          rw [← HD.out]
          symm
          have e := HNO.out
          rw [List.take_of_length_le (by omega), List.take_of_length_le (by omega)] at e
          simpa using e
        clear HNO hr hs
        go_wp2
        go_ret
        exact ⟨ret_bool hrt.out, hu⟩
  · have hrt : Hid (false = r) := by
      show false = r
      rw [← HD.out]
      symm
      simp only [decide_eq_false_iff_not]
      intro e
      subst e
      exact hnm (by omega)
    have hne : ((n : Int) != (m : Int)) = true := by simp; omega
    clear h g hl hm
    go_enter Try.func30, Try.ntmps30
    go_wp2
    go_ret
    exact ⟨ret_bool hrt.out, Up.refl _⟩
end Go.Proofs.Ytpdgoalbknopiaa
