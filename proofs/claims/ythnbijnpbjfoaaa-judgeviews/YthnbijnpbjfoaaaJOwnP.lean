/-
  A list of items of one's own, whose bytes lie in blocks of a kind.
-/
import Derived.Test.YthnbijnpbjfoaaaJApp
import Derived.Test.YthnbijnpbjfoaaaJTold
namespace Go.Proofs.Ythnbijnpbjfoaaa
open Go.RowKit Go.Sort
set_option linter.unusedVariables false

def OwP (p : Nat → Prop) (B : Nat) (w : World) (r : Sr) (S : List Di) : Prop :=
  r.2.1 = S.length ∧ ∃ xs : List Ix, w.ownsRow B 34 2 (.slice r.1 r.2.1 r.2.2) S.length (cellI xs) ∧ xs.length = S.length ∧ ∀ (j : Nat) (x : Ix) (d : Di), xs[j]? = some x → S[j]? = some d → It p w x d
theorem OwP.nil (p : Nat → Prop) (B : Nat) (w : World) : OwP p B w (none, 0, 0) [] := ⟨rfl, [], ⟨rfl, .inl ⟨rfl, rfl⟩⟩, rfl, fun j x d hx => by simp at hx⟩
theorem OwP.keep {p : Nat → Prop} {B : Nat} {w w' : World} {r : Sr} {S : List Di} (h : OwP p B w r S) (u : Below w.heap.size w w') : OwP p B w' r S := by
  obtain ⟨h0, xs, h1, h2, h3⟩ := h
  exact ⟨h0, xs, h1.kept (gr_below u none) (by cases Value.ownBlock _ with | none => exact Or.inl rfl | some k => exact Or.inr (by simp)), h2, fun j x d hx hd => (h3 j x d hx hd).keep (Kp.up u)⟩
/-- Another block turns. -/
theorem OwP.other {p : Nat → Prop} {B G : Nat} {w w' : World} {r : Sr} {S : List Di} (h : OwP p B w r S) (u : w.grownBy w' (some G)) (hG : G < B) (hp : ∀ b, p b → b ≠ G) : OwP p B w' r S := by
  obtain ⟨h0, xs, h1, h2, h3⟩ := h
  refine ⟨h0, xs, h1.kept u ?_, h2, fun j x d hx hd => (h3 j x d hx hd).keep (Kp.grown u hp)⟩
  have hlt := h1.lt
  cases hb : Value.ownBlock (.slice r.1 r.2.1 r.2.2) with
  | none => exact Or.inl rfl
  | some k => exact Or.inr (by have := (hlt k hb).1; simp; omega)
theorem OwP.its {p : Nat → Prop} {B : Nat} {w : World} {r : Sr} {S : List Di} (h : OwP p B w r S) (hm : S.length ≤ 4398046511104) : Its (fun _ => True) w r.1 r.2.1 S := by
  obtain ⟨h0, xs, h1, h2, h3⟩ := h
  rcases IR.own h1 hm with ⟨e, h0'⟩ | ⟨g, cap, e, _, _, _, hI⟩
  · simp at e
    have : S = [] := List.length_eq_zero_iff.1 h0'
    subst this
    rw [e.1, e.2.1]
    exact Its.nil0 _ _
  · simp at e
    rw [e.1, h0]
    exact ⟨xs, hI.imp (fun _ _ _ => trivial), rfl, fun j x d hx hd => (h3 j x d hx hd).imp (fun _ _ _ => trivial)⟩
theorem OwP.cp {p : Nat → Prop} {B : Nat} {w : World} {r : Sr} {S : List Di} (h : OwP p B w r S) : Cp r ∧ (r.1 = none ∨ ∃ g, r.1 = some ⟨g, 0, none⟩) := by
  obtain ⟨h0, xs, h1, h2, h3⟩ := h
  rcases h1.2 with ⟨e, h0'⟩ | ⟨g, cap, cur, e, _, _, hn, hc, _⟩
  · simp at e
    obtain ⟨a, b, c⟩ := e
    exact ⟨⟨by omega, by omega, fun _ => c⟩, .inl a⟩
  · simp at e
    obtain ⟨a, b⟩ := e
    refine ⟨⟨by omega, by unfold maxLen at hc; omega, fun h => by rw [a] at h; cases h⟩, .inr ⟨g, a⟩⟩
theorem own_row {w : World} {B n : Nat} {v : Value} {vs : List Value} (h : w.ownsRow B 34 2 v n vs) : ∃ r : Sr, v = .slice r.1 r.2.1 r.2.2 ∧ r.2.1 = n := by
  rcases own_shape h with ⟨rfl, h0⟩ | ⟨g, cap, rfl, _⟩
  · exact ⟨(none, 0, 0), rfl, h0.symm⟩
  · exact ⟨(some ⟨g, 0, none⟩, n, cap), rfl, rfl⟩
theorem own_row1 {w : World} {B T n : Nat} {v : Value} {vs : List Value} (h : w.ownsRow B T 1 v n vs) : ∃ r : Sr, v = .slice r.1 r.2.1 r.2.2 ∧ r.2.1 = n := by
  rcases own_shape h with ⟨rfl, h0⟩ | ⟨g, cap, rfl, _⟩
  · exact ⟨(none, 0, 0), rfl, h0.symm⟩
  · exact ⟨(some ⟨g, 0, none⟩, n, cap), rfl, rfl⟩
theorem wrap_in {a : Int} (h : -9223372036854775808 ≤ a) (h' : a ≤ 9223372036854775807) : IntKind.i64.wrap a = a := by
  simp only [IntKind.wrap, IntKind.bits, IntKind.signed]
  go_num
theorem own_cap {w : World} {B T z n m : Nat} {ad : Addr} {cap : Nat} {vs : List Value} (h : w.ownsRow B T z (.slice (some ad) m cap) n vs) : n ≤ cap ∧ cap ≤ 9223372036854775807 := by
  rcases h.2 with ⟨e, _⟩ | ⟨g, cap', cur, e, _, _, hn, hc, _⟩
  · simp at e
  · simp at e
    obtain ⟨_, _, rfl⟩ := e
    exact ⟨hn, by unfold maxLen at hc; omega⟩
/-- One more, as a run. -/
theorem OwP.run {p : Nat → Prop} {B : Nat} {w : World} {r : Sr} {S : List Di} (h : OwP p B w r S) (hp : ∀ b, p b → b < B) (x : Ix) (d : Di) (hx : It p w x d) (hn : S.length ≤ 10000) (hB : B ≤ w.heap.size) {a : Addr} (ha : ∀ j u, ([.int .i64 x.1, .slice x.2.1 x.2.2.1 x.2.2.2] : List Value)[j]? = some u → w.cell? (a.add j) = some u) :
    ∃ (r' : Sr) (w' : World), (Builtin.append_ #[25, 25] 25 #[.slice r.1 r.2.1 r.2.2, .slice (some a) 1 1]).run Try.prog w = .ok (.slice r'.1 r'.2.1 r'.2.2) w' ∧ OwP p B w' r' (S ++ [d]) ∧ Below B w w' := by
  obtain ⟨h0, xs, h1, h2, h3⟩ := h
  obtain ⟨i0, hi0, hz0, hz1, hz2⟩ := info_parts infoI
  obtain ⟨v', w', k1, k2, k3, _⟩ := run_append_own_at (P := Try.prog) (w := w) B 25 25 34 i0 (.agg #[.int .i64 0, .slice none 0 0]) 2 32 und25 hi0 hz0 hz1 hz2 rfl (by decide) _ S.length (cellI xs) h1 a 1 1 [.int .i64 x.1, .slice x.2.1 x.2.2.1 x.2.2.2] rfl ha (fun u hu => by
    simp at hu
    rcases hu with rfl | rfl <;> rfl) (by unfold maxLen; omega) (by omega) hB
  have hb : Below B w w' := bl_grown (Below.refl _ _) hB k3 (fun k hk => (h1.lt k hk).1)
  obtain ⟨r', rfl, hr'⟩ := own_row k2
  refine ⟨r', w', k1, ⟨by simp [hr'], xs ++ [x], by rw [cellI_snoc]; simpa using k2, by simp [h2], fun j y e hy he => ?_⟩, hb⟩
  have kp : Kp p w w' := Kp.below hb hp
  by_cases hj : j < S.length
  · rw [List.getElem?_append_left (by omega)] at hy
    rw [List.getElem?_append_left hj] at he
    exact (h3 j y e hy he).keep kp
  · have hl := (List.getElem?_eq_some_iff.1 he).1
    simp at hl
    have : j = S.length := by omega
    subst this
    rw [List.getElem?_append_right (by omega), h2] at hy
    rw [List.getElem?_append_right (by omega)] at he
    simp at hy he
    subst hy he
    exact hx.keep kp
theorem Cnt.below {w w' : World} {g m B : Nat} {f : Nat → Nat} (h : Cnt w g m f) (u : Below B w w') (hg : g < B) : Cnt w' g m f := fun i hi => by
  obtain ⟨a, b⟩ := h i hi
  exact ⟨(u.cell hg).trans a, (u.frozen hg).trans b⟩
/-- A list of one list. -/
theorem own_one (w : World) (r : Sr) (B : Nat) (hB : B ≤ w.heap.size) : (w.alloc (.cells #[.slice r.1 r.2.1 r.2.2] 25)).ownsRow B 25 1 (.slice (some ⟨w.heap.size, 0, none⟩) 1 1) 1 (([r] : List Sr).map slv) :=
  ⟨rfl, .inr ⟨w.heap.size, 1, #[.slice r.1 r.2.1 r.2.2], rfl, hB, heap_alloc_new w _, Nat.le_refl _, by unfold maxLen; omega, rfl, rfl⟩⟩
/-- Both cells of an item. -/
theorem IR.put {w : World} {g n k : Nat} {xs : List Ix} {y : Ix} (h : IR (fun b => b = g) w (some ⟨g, 0, none⟩) n xs) (hk : k < xs.length) :
    IR (fun b => b = g) ((w.setCell ⟨g, k * 2, none⟩ (.int .i64 y.1)).setCell ⟨g, k * 2 + 1, none⟩ (.slice y.2.1 y.2.2.1 y.2.2.2)) (some ⟨g, 0, none⟩) n (xs.set k y) := by
  obtain ⟨h1, h2, h3, h4⟩ := h
  refine ⟨by simpa using h1, h2, h3, fun h0 => ?_⟩
  obtain ⟨b, off, e, hp, hc⟩ := h4 h0
  cases e
  refine ⟨_, _, rfl, rfl, fun j z hj => ?_⟩
  simp only [Nat.zero_add] at hc ⊢
  by_cases e : j = k
  · subst e
    rw [List.getElem?_set_self hk] at hj
    cases hj
    obtain ⟨c0, c1⟩ := hc j _ (List.getElem?_eq_getElem hk)
    refine ⟨setCell_other' (by simp <;> omega) (World.cell?_setCell_same' _ _ _ (by rw [c0]; rfl)), World.cell?_setCell_same' _ _ _ ?_⟩
    rw [setCell_other' (by simp <;> omega) c1]; rfl
  · rw [List.getElem?_set_ne (by omega)] at hj
    obtain ⟨c0, c1⟩ := hc j z hj
    exact ⟨setCell_other' (by simp <;> omega) (setCell_other' (by simp <;> omega) c0), setCell_other' (by simp <;> omega) (setCell_other' (by simp <;> omega) c1)⟩
end Go.Proofs.Ythnbijnpbjfoaaa
