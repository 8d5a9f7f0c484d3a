/-
  Entries merged in two orders; merged once more.
-/
import Derived.Test.YtooeemhlpmiceaaTPlain
namespace Go.Proofs.Ytooeemhlpmiceaa
open Go.RowKit
set_option linter.unusedVariables false
set_option linter.unusedSimpArgs false

theorem labs_ext {p q : List En} (hp : Asc p) (hq : Asc q) (h : ∀ l, (∃ z ∈ p, z.1 = l) ↔ ∃ z ∈ q, z.1 = l) : p.map (·.1) = q.map (·.1) := by
  have key : ∀ r : List En, Asc r → Asc (r.map fun e => (e.1, ([] : List UInt8))) := fun r hr => by
    unfold Asc at *
    rw [List.pairwise_map]
    exact hr
  have mem : ∀ (r : List En) z, z ∈ (r.map fun e => (e.1, ([] : List UInt8))) ↔ z.2 = [] ∧ ∃ e ∈ r, e.1 = z.1 := fun r z => by
    rw [List.mem_map]
    constructor
    · rintro ⟨e, he, rfl⟩
      exact ⟨rfl, e, he, rfl⟩
    · rintro ⟨h1, e, he, h2⟩
      exact ⟨e, he, by rw [h2, ← h1]⟩
  have := asc_ext (key p hp) (key q hq) (fun z => by rw [mem, mem, h z.1])
  have h2 := congrArg (List.map (·.1)) this
  rw [List.map_map, List.map_map] at h2
  exact h2
theorem mergeE_sub : ∀ (b x : List En), (∀ e ∈ b, ∃ z ∈ x, z.1 = e.1) → mergeE x b = x
  | [], x, _ => rfl
  | e :: b, x, h => by
    have h1 : mstep x e = x := by
      unfold mstep
      rw [if_pos (findE_some_iff.2 (h e (by simp)))]
    show mergeE (mstep x e) b = x
    rw [h1]
    exact mergeE_sub b x (fun e' he => h e' (by simp [he]))
theorem order_labs (a b : List En) : (mergeE (mergeE [] a) b).map (·.1) = (mergeE (mergeE [] b) a).map (·.1) := by
  have e : Asc ([] : List En) := by unfold Asc; simp
  refine labs_ext (mergeE_asc _ _ (mergeE_asc _ _ e)) (mergeE_asc _ _ (mergeE_asc _ _ e)) (fun l => ?_)
  rw [← mergeE_app, ← mergeE_app, mergeE_lab _ _ rfl, mergeE_lab _ _ rfl]
  simp only [List.mem_append]
  constructor <;> rintro ⟨z, h | h, hl⟩ <;> exact ⟨z, by simp [h], hl⟩
theorem order_b (a b : List En) : mergeE (mergeE (mergeE [] a) b) b = mergeE (mergeE [] a) b := by
  refine mergeE_sub _ _ (fun e he => ?_)
  rw [← mergeE_app]
  exact (mergeE_lab _ _ rfl e.1).2 ⟨e, by simp [he], rfl⟩
theorem order_y (a b : List En) : mergeE (mergeE (mergeE [] a) b) (mergeE (mergeE [] b) a) = mergeE (mergeE [] a) b := by
  refine mergeE_sub _ _ (fun e he => ?_)
  rw [← mergeE_app] at he ⊢
  obtain ⟨z, hz, hl⟩ := (mergeE_lab _ _ rfl e.1).1 ⟨e, he, rfl⟩
  refine (mergeE_lab _ _ rfl e.1).2 ⟨z, ?_, hl⟩
  simp only [List.mem_append] at hz ⊢
  exact hz.symm
end Go.Proofs.Ytooeemhlpmiceaa
