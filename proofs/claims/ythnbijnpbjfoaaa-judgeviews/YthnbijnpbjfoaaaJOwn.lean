/-
  A list of items of one's own that grows.
-/
import Derived.Test.YthnbijnpbjfoaaaJRow
namespace Go.Proofs.Ythnbijnpbjfoaaa
open Go.RowKit Go.Sort
set_option linter.unusedVariables false

theorem wpList_append_gen {w : World} {ops : Array Oper} {rest : List Oper} {o : Oper} {a : Act} {Q : Exit → Act → World → Prop} (hgd : o.guard = none) (s x : Operand) (T E : TypeId)
    (ho : o.op = .call { callee := .builtin .append, args := #[s, x], argTypes := #[T, T] }) (z : Value) (size bytes : Nat) (hT : Try.prog.underlying T = some (.slice E)) (hi : (Try.prog.info? E).map (fun i => (i.zero, i.size, i.bytes)) = some (some z, size, bytes)) (hzs : z.cells.size = size) (hsz : 0 < size) (hby : bytes ≤ 1000)
    (B : Nat) (v : Value) (n : Nat) (xs : List Value) (hs : a.eval s = v) (hown : w.ownsRow B E size v n xs) (cs : List Value) (hcl : cs.length = size) (hone : ∀ u ∈ cs, u.oneCell' = true)
    (g : Nat) (hg : w.heap.size = g) (hx : a.eval x = .slice (some ⟨g, 0, none⟩) 1 1) (hn : n ≤ 10000) (hB : B ≤ w.heap.size)
    (h : ∀ v' w', w'.ownsRow B E size v' (n + 1) (xs ++ cs) → w.grownBy w' v.ownBlock → (v'.ownBlock = v.ownBlock ∨ ∃ k, v'.ownBlock = some k ∧ w.heap.size ≤ k) → wpList Try.prog ops Q rest (a.put o.dst v') w') :
    wpList Try.prog ops Q (o :: rest) a (w.alloc (.cells cs.toArray E)) := by
  subst hg
  have hal := bl1 w (.cells cs.toArray E)
  have hga : w.grownBy (w.alloc (.cells cs.toArray E)) none := ⟨hal.os, hal.tape, hal.output, hal.size, fun i hi _ => hal.block i hi⟩
  have hown2 := hown.kept (row := none) hga (by cases v.ownBlock with | none => exact Or.inl rfl | some k => exact Or.inr (by simp))
  obtain ⟨i0, hi0, hz0, hz1, hz2⟩ := info_parts hi
  have hb2 : (n + 1) * bytes ≤ 140737488355328 := by
    have h1 : (n + 1) * bytes ≤ 10001 * 1000 := Nat.mul_le_mul (by omega) hby
    omega
  refine wpList_append_own_at _ hgd s x T ho B E i0 z size bytes hT hi0 hz0 hz1 hz2 hzs hsz v n xs hs hown2 ⟨w.heap.size, 0, none⟩ 1 1 cs hx (by omega) (fun j u hj => ?_) hone (by unfold maxLen; omega) hb2 (Nat.le_trans hB hal.size) (fun v' w' a b _ d => h v' w' a ?_ ?_)
  · rw [Addr.add_lit, Nat.zero_add]
    exact cell_box w _ E j u (by simpa using hj)
  · exact ⟨b.os.trans hga.os, b.tape.trans hga.tape, b.output.trans hga.output, Nat.le_trans hga.size b.size, fun i hi hne => (b.block i (Nat.lt_of_lt_of_le hi hga.size) hne).trans (hga.block i hi (by simp))⟩
  · rcases d with d | d
    · exact .inl d
    · exact .inr ⟨_, d, hal.size⟩
/-- A list of one's own: its items' bytes lie in older blocks. -/
def OwS (B : Nat) (w : World) (v : Value) (S : List Di) : Prop :=
  ∃ xs : List Ix, w.ownsRow B 34 2 v S.length (cellI xs) ∧ xs.length = S.length ∧ ∀ (j : Nat) (x : Ix) (d : Di), xs[j]? = some x → S[j]? = some d → It (fun b => b < B) w x d
theorem OwS.nil (B : Nat) (w : World) : OwS B w (.slice none 0 0) [] := ⟨[], ⟨rfl, .inl ⟨rfl, rfl⟩⟩, rfl, fun j x d hx => by simp at hx⟩
theorem OwS.keep {B : Nat} {w w' : World} {v : Value} {S : List Di} (h : OwS B w v S) (u : Below w.heap.size w w') (hB : B ≤ w.heap.size) : OwS B w' v S := by
  obtain ⟨xs, h1, h2, h3⟩ := h
  exact ⟨xs, h1.kept (gr_below u none) (by cases v.ownBlock with | none => exact Or.inl rfl | some k => exact Or.inr (by simp)), h2, fun j x d hx hd => (h3 j x d hx hd).keep (Kp.up u)⟩
theorem OwS.its {B : Nat} {w : World} {v : Value} {S : List Di} (h : OwS B w v S) (hm : S.length ≤ 4398046511104) : ∃ r : Sr, v = .slice r.1 r.2.1 r.2.2 ∧ r.2.1 = S.length ∧ Its (fun _ => True) w r.1 r.2.1 S := by
  obtain ⟨xs, h1, h2, h3⟩ := h
  rcases IR.own h1 hm with ⟨rfl, h0⟩ | ⟨g, cap, rfl, _, _, _, hI⟩
  · have : S = [] := List.length_eq_zero_iff.1 h0
    subst this
    exact ⟨(none, 0, 0), rfl, rfl, Its.nil0 _ _⟩
  · exact ⟨(some ⟨g, 0, none⟩, S.length, cap), rfl, rfl, xs, hI.imp (fun _ _ _ => trivial), rfl, fun j x d hx hd => (h3 j x d hx hd).imp (fun _ _ _ => trivial)⟩
theorem cellI_snoc (xs : List Ix) (x : Ix) : cellI (xs ++ [x]) = cellI xs ++ [.int .i64 x.1, .slice x.2.1 x.2.2.1 x.2.2.2] := by simp [cellI]
/-- One more. -/
theorem OwS.more {B : Nat} {w w' : World} {v' : Value} {S : List Di} {xs : List Ix} {x : Ix} {d : Di} (h1 : w'.ownsRow B 34 2 v' (S.length + 1) (cellI xs ++ [.int .i64 x.1, .slice x.2.1 x.2.2.1 x.2.2.2])) (h2 : xs.length = S.length)
    (h3 : ∀ (j : Nat) (x : Ix) (d : Di), xs[j]? = some x → S[j]? = some d → It (fun b => b < B) w x d) (u : Below B w w') (hx : It (fun b => b < B) w x d) : OwS B w' v' (S ++ [d]) := by
  refine ⟨xs ++ [x], by rw [cellI_snoc]; simpa using h1, by simp [h2], fun j y e hy he => ?_⟩
  have kp : Kp (fun b => b < B) w w' := Kp.below u (fun _ hb => hb)
  by_cases hj : j < S.length
  · rw [List.getElem?_append_left (by omega)] at hy
    rw [List.getElem?_append_left hj] at he
    exact (h3 j y e hy he).keep kp
  · have hl := (List.getElem?_eq_some_iff.1 he).1
    simp at hl
    have : j = S.length := by omega
    subst this
    rw [List.getElem?_append_right (by omega), h2] at hy
    rw [List.getElem?_append_right (by omega)] at he
    simp at hy he
    subst hy he
    exact hx.keep kp
/-- .. as a slice. -/
def OwR (B : Nat) (w : World) (r : Sr) (S : List Di) : Prop := r.2.1 = S.length ∧ OwS B w (.slice r.1 r.2.1 r.2.2) S
theorem OwR.nil (B : Nat) (w : World) : OwR B w (none, 0, 0) [] := ⟨rfl, OwS.nil B w⟩
theorem OwS.row {B : Nat} {w : World} {v : Value} {S : List Di} (h : OwS B w v S) : ∃ r : Sr, v = .slice r.1 r.2.1 r.2.2 ∧ OwR B w r S := by
  have h' := h
  obtain ⟨xs, h1, _, _⟩ := h'
  rcases own_shape h1 with ⟨rfl, h0⟩ | ⟨g, cap, rfl, _⟩
  · exact ⟨(none, 0, 0), rfl, h0.symm, h⟩
  · exact ⟨(some ⟨g, 0, none⟩, S.length, cap), rfl, rfl, h⟩
theorem OwR.keep {B : Nat} {w w' : World} {r : Sr} {S : List Di} (h : OwR B w r S) (u : Below w.heap.size w w') (hB : B ≤ w.heap.size) : OwR B w' r S := ⟨h.1, h.2.keep u hB⟩
theorem OwR.its {B : Nat} {w : World} {r : Sr} {S : List Di} (h : OwR B w r S) (hm : S.length ≤ 4398046511104) : Its (fun _ => True) w r.1 r.2.1 S := by
  obtain ⟨r', e, _, hi⟩ := h.2.its hm
  simp only [Value.slice.injEq] at e
  obtain ⟨e1, e2, _⟩ := e
  rw [e1, e2]
  exact hi
end Go.Proofs.Ythnbijnpbjfoaaa
