/-
  Unlike entries and unlike summaries have unlike bytes.
-/
import Derived.Test.YtlaihgdfedalmaaGreatEMath
import Derived.Test.YtlaihgdfedalmaaGreatEAll
namespace Go.Proofs.YtlaihgdfedalmaaGreat
open Go.RowKit
set_option linter.unusedVariables false

def RE (e : Lb × List UInt8) : Prop := e.1.1 < 18446744073709551616 ∧ e.1.2.2.1 < 18446744073709551616 ∧ formL e.1 = true ∧ e.2.length ≤ 64
def RL (x : Lb) : Prop := x.1 < 18446744073709551616 ∧ x.2.2.1 < 18446744073709551616 ∧ formL x = true
/-- What a right summary's parts are. -/
theorem right_parts {es : List (Lb × List UInt8)} {ls : List Lb} {nx : Int} {hn : Nat} {hp : Int} (h : rightS es ls nx hn hp = true) (ho : ∀ e ∈ es, e.1.1 < 18446744073709551616 ∧ e.1.2.2.1 < 18446744073709551616) (hl : ∀ x ∈ ls, x.1 < 18446744073709551616 ∧ x.2.2.1 < 18446744073709551616) :
    (∀ e ∈ es, RE e) ∧ (∀ x ∈ ls, RL x) ∧ 1 ≤ nx ∧ nx ≤ (ls.length : Int) + 1 ∧ formV hn hp = true := by
  unfold rightS at h
  simp only [Bool.and_eq_true, decide_eq_true_eq] at h
  obtain ⟨⟨⟨⟨h1, h2, _⟩, h3⟩, h4⟩, h5⟩ := h
  refine ⟨fun e he => ?_, fun x hx => ⟨(hl x hx).1, (hl x hx).2, List.all_eq_true.1 h2 x hx⟩, h3, h4, h5⟩
  obtain ⟨i, hi, hie⟩ := List.getElem_of_mem he
  unfold ascE at h1
  have := List.all_eq_true.1 h1 i (by simpa using hi)
  unfold gooE at this
  simp only [Bool.and_eq_true] at this
  have h6 := this.2
  rw [show es.getD i den = e by simp [List.getD, List.getElem?_eq_getElem hi, hie]] at h6
  unfold formE at h6
  simp only [Bool.and_eq_true, decide_eq_true_eq] at h6
  exact ⟨(ho e he).1, (ho e he).2, h6.1, h6.2⟩
end Go.Proofs.YtlaihgdfedalmaaGreat
