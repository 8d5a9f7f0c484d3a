/-
  Traces that were handed in; what both Views say is the same.
-/
import Derived.Test.YthnbijnpbjfoaaaJRViews
import Derived.Test.YthnbijnpbjfoaaaJArgs2
namespace Go.Proofs.Ythnbijnpbjfoaaa
open Go.RowKit Go.Sort
set_option linter.unusedVariables false

theorem EvR.imp {p q : Nat → Prop} {w : World} {ao : Option Addr} {n : Nat} {es : List Ev} (h : EvR p w ao n es) (k : ∀ b, b < w.heap.size → p b → q b) : EvR q w ao n es := by
  obtain ⟨h1, h2, h3, h4⟩ := h
  refine ⟨h1, h2, h3, fun h0 => ?_⟩
  obtain ⟨b, off, e, hp, hc⟩ := h4 h0
  refine ⟨b, off, e, k b ?_ hp, fun j x hj => ?_⟩
  · obtain ⟨r, h6, _⟩ := hc 0 es[0] (List.getElem?_eq_getElem (by omega))
    exact World.block_lt_of_cell? w _ h6.1
  · obtain ⟨r, a, b, c⟩ := hc j x hj
    exact ⟨r, a, b, c.imp k⟩
theorem Evs.lt {p : Nat → Prop} {w : World} {ao : Option Addr} {n : Nat} {ess : List (List Ev)} (h : Evs p w ao n ess) : Evs (fun b => b < w.heap.size) w ao n ess := by
  obtain ⟨rs, h1, h2, h3, h4⟩ := h
  exact ⟨rs, h1, h2, h3, fun j r x hr hx => (h4 j r x hr hx).imp (fun b hb _ => hb)⟩
theorem evs_args {w : World} {ao : Option Addr} {n : Nat} {ess : List (List Ev)} (h : Lr (fun w r es => EvR (fun _ => True) w r.1 r.2.1 es ∧ ∀ e ∈ es, EvOk e) w ao n ess) : Evs (fun _ => True) w ao n ess ∧ ∀ es ∈ ess, ∀ e ∈ es, EvOk e := by
  obtain ⟨rs, h1, h2, h3, h4⟩ := h
  refine ⟨⟨rs, h1, h2, h3, fun j r x hr hx => (h4 j r x hr hx).1⟩, fun es hes => ?_⟩
  obtain ⟨j, hj⟩ := List.getElem?_of_mem hes
  have hl := (List.getElem?_eq_some_iff.1 hj).1
  have := h1.1
  exact (h4 j _ es (List.getElem?_eq_getElem (by omega)) hj).2
theorem views_same {ess : List (List Ev)} {a b : Bool} (hok : ∀ es ∈ ess, ∀ e ∈ es, EvOk e) (ha : ViewsR ess a) (hb : b = true ↔ DocViews ess) : a = b := by
  have := viewsR_doc ha (fun i es ys hi hs y hy => ((staysD_P (hok es (List.mem_of_getElem? hi)) hs).2 y hy).2.1)
  rw [Bool.eq_iff_iff, this, hb]
theorem great_no {ess : List (List Ev)} (h : ¬ GreatP ess) : (ess.map List.length).sum ≤ 9000 ∧ (∀ es ∈ ess, es.length ≤ 9000) ∧ ess.length ≤ 1000 := by
  unfold GreatP at h
  refine ⟨by omega, fun es hes => ?_, by omega⟩
  have := len_le_sum hes
  omega
end Go.Proofs.Ythnbijnpbjfoaaa
