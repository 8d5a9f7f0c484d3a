/-
  The document's Compare of two views' numbers.
-/
import Derived.Test.YthnbijnpbjfoaaaJCur
import Derived.Test.YthnbijnpbjfoaaaJAll1
namespace Go.Proofs.Ythnbijnpbjfoaaa
open Go.RowKit
set_option linter.unusedVariables false

set_option maxRecDepth 10000 in
theorem refCmp_any (w : World) (n1 : Nat) (p1 : Int) (n2 : Nat) (p2 : Int) : Calls Try.prog 68 #[vid n1 p1, vid n2 p2] w fun e w' => e = .returned (.int .i64 (cmpV n1 p1 n2 p2)) ∧ Up w w' := by
  have hve := fun W => vid_equal n1 p1 n2 p2 W
  have HU : Hid (Up w ((w.alloc (.cells #[.int .u64 (n1 : Nat), .int .i64 p1] 44)).alloc (.cells #[.int .u64 (n2 : Nat), .int .i64 p2] 44))) := ((Up.refl w).alloc _).alloc _
  obtain ⟨c, hc⟩ : ∃ c, cmpV n1 p1 n2 p2 = c := ⟨_, rfl⟩
  rw [hc]
  have HC : Hid (cmpV n1 p1 n2 p2 = c) := hc
  clear hc
  unfold vid
  by_cases h1 : n1 < n2
  · have e : c = -1 := by rw [← HC.out]; unfold cmpV; rw [if_pos h1]
    have h1I : (n1 : Int) < (n2 : Int) := by omega
    subst e
    clear hve h1
    go_enter Try.func68, Try.ntmps68
    go_wp2
    go_ret
    exact ⟨rfl, HU.out⟩
  · have h1I : ¬ (n1 : Int) < (n2 : Int) := by omega
    by_cases h2 : n1 = n2
    · have h2b : ((n1 : Int) == (n2 : Int)) = true := by simp; omega
      by_cases h3 : p1 < p2
      · have e : c = -1 := by rw [← HC.out]; unfold cmpV sgn; rw [if_neg h1, if_neg (by omega), if_pos h3]
        subst e
        clear hve h1 h2
        go_enter Try.func68, Try.ntmps68
        go_wp2
        go_ret
        exact ⟨rfl, HU.out⟩
      · by_cases h4 : p1 = p2
        · have e : c = 0 := by rw [← HC.out]; unfold cmpV sgn; rw [if_neg h1, if_neg (by omega), if_neg h3, if_neg (by omega)]
          have hv : decide (n1 = n2 ∧ p1 = p2) = true := decide_eq_true ⟨h2, h4⟩
          rw [hv] at hve
          subst e
          clear h1 h2 h4 hv
          go_enter Try.func68, Try.ntmps68
          go_wp2
          go_ret
          exact ⟨rfl, HU.out⟩
        · have e : c = 1 := by rw [← HC.out]; unfold cmpV sgn; rw [if_neg h1, if_neg (by omega), if_neg h3, if_pos (by omega)]
          have hv : decide (n1 = n2 ∧ p1 = p2) = false := decide_eq_false (fun x => h4 x.2)
          rw [hv] at hve
          subst e
          clear h1 h2 h4 hv
          go_enter Try.func68, Try.ntmps68
          go_wp2
          go_ret
          exact ⟨rfl, HU.out⟩
    · have h2b : ((n1 : Int) == (n2 : Int)) = false := by simp; omega
      have e : c = 1 := by rw [← HC.out]; unfold cmpV; rw [if_neg h1, if_pos (by omega)]
      have hv : decide (n1 = n2 ∧ p1 = p2) = false := decide_eq_false (fun x => h2 x.1)
      rw [hv] at hve
      subst e
      clear h1 h2 hv
      go_enter Try.func68, Try.ntmps68
      go_wp2
      go_ret
      exact ⟨rfl, HU.out⟩
end Go.Proofs.Ythnbijnpbjfoaaa
