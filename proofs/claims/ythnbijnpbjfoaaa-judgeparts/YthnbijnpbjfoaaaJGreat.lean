/-
  The statements' great: are traces too great?
-/
import Derived.Test.YthnbijnpbjfoaaaJViews1
namespace Go.Proofs.Ythnbijnpbjfoaaa
open Go.RowKit Go.Sort
set_option linter.unusedVariables false

def sumE (ess : List (List Ev)) (k : Nat) : Nat := ((ess.take k).map List.length).sum
theorem sumE_step {ess : List (List Ev)} {k : Nat} {es : List Ev} (h : ess[k]? = some es) : sumE ess (k + 1) = sumE ess k + es.length := by
  unfold sumE
  rw [List.take_add_one, h]
  simp
def GreatP (ess : List (List Ev)) : Prop := 150 < (ess.map List.length).sum ∨ 18 < ess.length
/-- Of more than 18 traces the sum may wrap: it does not matter. -/
def AccOk (ess : List (List Ev)) (n k : Nat) (x : Int) : Prop := n ≤ 18 → x = (sumE ess k : Nat) ∧ sumE ess k ≤ k * 2199023255552
set_option maxRecDepth 10000 in
set_option maxHeartbeats 2000000 in
theorem great_any (w : World) (pE : Nat → Prop) (ao : Option Addr) (n cap : Nat) (ess : List (List Ev)) (h : Evs pE w ao n ess) :
    Calls Try.prog 14 #[.slice ao n cap] w fun e w' => BoolPostB w (GreatP ess) e w' := by
  have hl : ess.length = n := Lr.len h
  have hn : n ≤ 140737488355328 := Lr.le h
  have HI : Hid (Evs pE w ao n ess) := h
  clear h
  go_enter Try.func14, Try.ntmps14
  go_wp2_with fail
  go_loopw [3, 4] (fun sv iv wr => ∃ (k : Nat) (x : Int), k ≤ n ∧ iv = .int .i64 (k : Nat) ∧ sv = .int .i64 x ∧ AccOk ess n k x ∧ Up w wr) (fun _ iv _ => n - (intOf iv).toNat)
  case atStart => exact ⟨0, 0, by omega, rfl, rfl, fun _ => ⟨rfl, Nat.zero_le _⟩, Up.refl _⟩
  case round =>
    obtain ⟨k, x, hk, rfl, rfl, hacc, hu⟩ := hrel
    have HA : Hid (AccOk ess n k x) := hacc
    clear hacc
    by_cases hlt : k < n
    · have hltI : (k : Int) < (n : Int) := by omega
      have hk0 : ¬ ((k : Int) < 0) := by omega
      obtain ⟨es, hes⟩ : ∃ es, ess[k]? = some es := ⟨ess[k]'(by omega), List.getElem?_eq_getElem (by omega)⟩
      obtain ⟨b, off, r, hao, c0, _, hr⟩ := Lr.at HI.out hes
      have c0 := bl_cell hu.bl c0
      have hrl := hr.1
      have hr2 := hr.2.1
      obtain ⟨ra, rn, rc⟩ := r
      simp only at c0 hrl hr2
      have HN : Hid (AccOk ess n (k + 1) (wrap64 (x + (rn : Int)))) := by
        intro h18
        obtain ⟨e1, e2⟩ := HA.out h18
        rw [sumE_step hes, e1, hrl]
        have h3 : sumE ess k + rn ≤ (k + 1) * 2199023255552 := by rw [Nat.add_mul]; omega
        have h4 : sumE ess k + rn ≤ 100000000000000 := by omega
        exact ⟨by (first | go_num | (unfold wrap64; omega)), h3⟩
      subst hao
      clear hes hr hrl hr2
      go_wp2
      go_roundw
      case rel => exact ⟨k + 1, _, by omega, by go_num, rfl, HN.out, hu⟩
      case measure => simp [intOf]; omega
    · obtain rfl : k = n := by omega
      by_cases h18 : k ≤ 18
      · obtain ⟨rfl, hs2⟩ := HA.out h18
        have h18I : ¬ ((k : Int) > 18) := by omega
        have hsum : Hid (sumE ess k = (ess.map List.length).sum) := by unfold Hid sumE; rw [List.take_of_length_le (by omega)]
        by_cases hg : 150 < sumE ess k
        · have hgI : ((sumE ess k : Nat) : Int) > 150 := by omega
          have HX : Hid (GreatP ess) := .inl (by rw [← hsum.out]; exact hg)
          go_wp2
          go_ret
          exact ⟨⟨true, rfl, by simp; exact HX.out⟩, hu.bl⟩
        · have hgI : ¬ ((sumE ess k : Nat) : Int) > 150 := by omega
          have HX : Hid (¬ GreatP ess) := fun h => by
            unfold GreatP at h
            rw [← hsum.out] at h
            omega
          go_wp2
          go_ret
          exact ⟨⟨false, rfl, by simp; exact HX.out⟩, hu.bl⟩
      · have h18I : (k : Int) > 18 := by omega
        have HX : Hid (GreatP ess) := .inr (by omega)
        by_cases hg : x > 150
        · go_wp2
          go_ret
          exact ⟨⟨true, rfl, by simp; exact HX.out⟩, hu.bl⟩
        · go_wp2
          go_ret
          exact ⟨⟨true, rfl, by simp; exact HX.out⟩, hu.bl⟩
end Go.Proofs.Ythnbijnpbjfoaaa
