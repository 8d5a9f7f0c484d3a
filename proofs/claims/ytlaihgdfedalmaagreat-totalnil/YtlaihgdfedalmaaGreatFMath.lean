/-
  Entries by their labels: one more, and what stands at a label.
-/
import Derived.Test.YtlaihgdfedalmaaGreatERow
namespace Go.Proofs.YtlaihgdfedalmaaGreat
open Go.RowKit
set_option linter.unusedVariables false

abbrev En := Lb × List UInt8
def ltL (x y : Lb) : Prop := x.1 < y.1 ∨ x.1 = y.1 ∧ (x.2.1 < y.2.1 ∨ x.2.1 = y.2.1 ∧ (x.2.2.1 < y.2.2.1 ∨ x.2.2.1 = y.2.2.1 ∧ x.2.2.2 < y.2.2.2))
instance (x y : Lb) : Decidable (ltL x y) := by unfold ltL; infer_instance
theorem cmpL_lt (x y : Lb) : cmpL x y < 0 ↔ ltL x y := by
  obtain ⟨n1, p1, s1, q1⟩ := x
  obtain ⟨n2, p2, s2, q2⟩ := y
  unfold cmpL cmpV sgn ltL
  simp only
  repeat' split
  all_goals omega
theorem ltL_irr (x : Lb) : ¬ ltL x x := by unfold ltL; omega
theorem ltL_trans {x y z : Lb} (h : ltL x y) (k : ltL y z) : ltL x z := by unfold ltL at *; omega
theorem ltL_ntrans {x y z : Lb} (h : ¬ ltL x y) (k : ltL z y) : ¬ ltL x z := by unfold ltL at *; omega
theorem ltL_tri {x y : Lb} (h : ¬ ltL x y) (hne : y ≠ x) : ltL y x := by
  obtain ⟨n1, p1, s1, q1⟩ := x
  obtain ⟨n2, p2, s2, q2⟩ := y
  simp only [ne_eq, Prod.mk.injEq] at hne
  unfold ltL at *
  simp only at *
  omega
/-- One more entry, ahead of the first that is greater. -/
def insR (e : En) : List En → List En
  | [] => [e]
  | y :: r => if ltL e.1 y.1 then e :: y :: r else y :: insR e r
theorem insR_mem (e : En) : ∀ (l : List En) (z : En), z ∈ insR e l ↔ z = e ∨ z ∈ l
  | [], z => by simp [insR]
  | y :: r, z => by
    unfold insR
    split
    · simp
    · simp only [List.mem_cons, insR_mem e r z]
      constructor
      · rintro (h | h | h) <;> simp [h]
      · rintro (h | h | h) <;> simp [h]
def Asc (l : List En) : Prop := l.Pairwise (fun a b => ltL a.1 b.1)
theorem insR_asc (e : En) : ∀ (l : List En), Asc l → (∀ y ∈ l, y.1 ≠ e.1) → Asc (insR e l)
  | [], _, _ => by simp [insR, Asc]
  | y :: r, h, hn => by
    have h' := List.pairwise_cons.1 h
    unfold insR
    split
    · rename_i hlt
      refine List.pairwise_cons.2 ⟨fun z hz => ?_, h⟩
      rcases List.mem_cons.1 hz with rfl | hz
      · exact hlt
      · exact ltL_trans hlt (h'.1 z hz)
    · rename_i hlt
      refine List.pairwise_cons.2 ⟨fun z hz => ?_, insR_asc e r h'.2 (fun z hz => hn z (by simp [hz]))⟩
      rcases (insR_mem e r z).1 hz with rfl | hz
      · exact ltL_tri hlt (hn y (by simp))
      · exact h'.1 z hz
theorem insR_len (e : En) : ∀ (l : List En), (insR e l).length = l.length + 1
  | [] => rfl
  | y :: r => by
    unfold insR
    split
    · simp
    · simp [insR_len e r]
/-- The message of a label. -/
def findE (l : List En) (x : Lb) : Option (List UInt8) := (l.find? (fun e => decide (e.1 = x))).map (·.2)
def mstep (l : List En) (e : En) : List En := if (findE l e.1).isSome then l else insR e l
def mergeE (l more : List En) : List En := more.foldl mstep l
theorem findE_none {l : List En} {x : Lb} (h : findE l x = none) : ∀ y ∈ l, y.1 ≠ x := by
  unfold findE at h
  rw [Option.map_eq_none_iff, List.find?_eq_none] at h
  intro y hy e
  exact h y hy (by simpa using e)
theorem mstep_asc {l : List En} {e : En} (h : Asc l) : Asc (mstep l e) := by
  unfold mstep
  split
  · exact h
  · rename_i hn
    refine insR_asc e l h (findE_none ?_)
    cases hf : findE l e.1 with
    | none => rfl
    | some m => rw [hf] at hn; simp at hn
theorem mstep_len (l : List En) (e : En) : (mstep l e).length ≤ l.length + 1 := by
  unfold mstep
  split
  · omega
  · rw [insR_len]; omega
theorem mergeE_asc : ∀ (more l : List En), Asc l → Asc (mergeE l more)
  | [], l, h => h
  | e :: more, l, h => mergeE_asc more (mstep l e) (mstep_asc h)
theorem mergeE_len : ∀ (more l : List En), (mergeE l more).length ≤ l.length + more.length
  | [], l => by simp [mergeE]
  | e :: more, l => by
    have h1 := mergeE_len more (mstep l e)
    have h2 := mstep_len l e
    have : mergeE l (e :: more) = mergeE (mstep l e) more := rfl
    rw [this, List.length_cons]
    omega
end Go.Proofs.YtlaihgdfedalmaaGreat
