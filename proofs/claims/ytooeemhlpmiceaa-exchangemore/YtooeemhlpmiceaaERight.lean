/-
  rightEntries: are entries right, by their labels?
-/
import Derived.Test.YtooeemhlpmiceaaEClimb
import Derived.Test.YtooeemhlpmiceaaERow
import Derived.Laws.Tables
namespace Go.Proofs.Ytooeemhlpmiceaa
open Go.RowKit Go.Shelf
set_option linter.unusedVariables false
set_option linter.unusedSimpArgs false
attribute [local go_sem] Oper.semAt_some

theorem pick_lt {α : Type} [Inhabited α] {P : Nat → α → Prop} {n : Nat} (h : ∀ i, i < n → ∃ a, P i a) : ∃ f : Nat → α, ∀ i, i < n → P i (f i) := by
  classical
  refine ⟨fun i => if hi : i < n then (h i hi).choose else default, fun i hi => ?_⟩
  simp only [hi, dif_pos]
  exact (h i hi).choose_spec
/-- Where the messages of entries lie. -/
theorem ER.split {p : Nat → Prop} {w : World} {ao : Option Addr} {n : Nat} {es : List (Lb × List UInt8)} (h : ER p w ao n es) :
    ∃ xs : List (Lb × Sl), xs.length = n ∧ (∀ (j : Nat) (e : Lb × List UInt8) (x : Lb × Sl), es[j]? = some e → xs[j]? = some x → x.1 = e.1 ∧ Cd.Row w x.2.1 x.2.2.1 x.2.2.2 e.2 ∧ ∀ a, x.2.1 = some a → 0 < x.2.2.1 → p a.block) ∧
      ∃ b off, (0 < n → ao = some ⟨b, off, none⟩ ∧ p b) ∧ ∀ (j : Nat) x, xs[j]? = some x → C5 w b (off + j * 5) x := by
  by_cases hn : 0 < n
  · obtain ⟨b, off, hao, hp, hc⟩ := h.2.2 hn
    have hl := h.1
    obtain ⟨f, hf⟩ := pick_lt (α := Lb × Sl) (P := fun j x => ∃ e, es[j]? = some e ∧ C5 w b (off + j * 5) x ∧ x.1 = e.1 ∧ Cd.Row w x.2.1 x.2.2.1 x.2.2.2 e.2 ∧ ∀ a, x.2.1 = some a → 0 < x.2.2.1 → p a.block) (n := n) (fun j hj => by
      have he : es[j]? = some (es[j]'(by omega)) := List.getElem?_eq_getElem (by omega)
      obtain ⟨so, sn, sc, c0, c1, c2, c3, c4, c5, c6⟩ := hc j _ he
      exact ⟨((es[j]'(by omega)).1, so, sn, sc), _, he, ⟨c0, c1, c2, c3, c4⟩, rfl, c5, c6⟩)
    have hx : ∀ (j : Nat) x, ((List.range n).map f)[j]? = some x → j < n ∧ x = f j := fun j x hx => by
      obtain ⟨h1, h2⟩ := List.getElem?_eq_some_iff.1 hx
      simp at h1 h2
      exact ⟨h1, h2.symm⟩
    refine ⟨(List.range n).map f, by simp, fun j e x he hj => ?_, b, off, fun _ => ⟨hao, hp⟩, fun j x hj => ?_⟩
    · obtain ⟨h1, rfl⟩ := hx j x hj
      obtain ⟨e', he', _, h2⟩ := hf j h1
      rw [he] at he'
      cases he'
      exact h2
    · obtain ⟨h1, rfl⟩ := hx j x hj
      obtain ⟨_, _, h2, _⟩ := hf j h1
      exact h2
  · obtain rfl : n = 0 := by omega
    exact ⟨[], rfl, fun j e x he hx => (by simp at hx), 0, 0, fun h => absurd h (by omega), fun j x hx => (by simp at hx)⟩
/-- Is the k-th entry right, and above the one ahead of it? -/
def goodE (xs : List (Lb × Sl)) (k : Nat) : Bool := abv xs k && formE (xs.getD k dsl).1 (xs.getD k dsl).2.2.1
def goodAll (xs : List (Lb × Sl)) : Bool := (List.range xs.length).all (goodE xs)
theorem keeps_bl {B : Nat} {W W' : World} (u : Below W.heap.size W W') : KeepsFrom B W W' := ⟨u.size, fun k o _ hk _ => (u.block k (Array.getElem?_eq_some_iff.1 hk).1).trans hk⟩
theorem bl_row {B : Nat} {w W : World} (h : Below B w W) {g : Nat} (hg : B ≤ g) (cs : Array Value) : Below B w (W.setRow g cs) :=
  ⟨h.os, h.tape, h.output, by simpa using h.size, fun k hk => (setRow_other _ _ _ _ (by omega)).trans (h.block k hk)⟩
theorem firsts_mem (n : Nat) : ∀ (k : Nat) (h : k ≤ n) (j : Nat) (hj : j < k), (⟨j, by omega⟩ : { k : Nat // k < n }) ∈ firsts n k h
  | 0, _, j, hj => by omega
  | k + 1, h, j, hj => by
    unfold firsts
    by_cases e : j = k
    · subst e; simp
    · exact List.mem_append_left _ (firsts_mem n k (by omega) j (by omega))

end Go.Proofs.Ytooeemhlpmiceaa
