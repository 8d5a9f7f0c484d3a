/-
  The document's Merge: entries by their labels, with others.
-/
import Derived.Test.YtlaihgdfedalmaaGreatFFind
import Derived.Deep.MidRow
namespace Go.Proofs.YtlaihgdfedalmaaGreat
open Go.RowKit
set_option linter.unusedVariables false
set_option linter.unusedSimpArgs false

/-- A row of entries that is being laid behind the world w1; their messages lay there before. -/
def OB (p : Nat → Prop) (w1 w : World) (v : Value) (out : List En) : Prop :=
  ∃ xs : List (Lb × Sl), xs.length = out.length ∧ w.ownsRow w1.heap.size 41 5 v out.length (flatE xs) ∧ (∀ (j : Nat) e x, out[j]? = some e → xs[j]? = some x → x.1 = e.1 ∧ Cd.Row w1 x.2.1 x.2.2.1 x.2.2.2 e.2 ∧ ∀ a, x.2.1 = some a → 0 < x.2.2.1 → p a.block) ∧ Below w1.heap.size w1 w
theorem OB.nil (p : Nat → Prop) (w1 : World) : OB p w1 w1 (.slice none 0 0) [] := ⟨[], rfl, World.ownsRow_nil _ _ _ _, fun j e x he => by simp at he, Below.refl _ _⟩
theorem OB.bl {p : Nat → Prop} {w1 w w' : World} {v : Value} {out : List En} (h : OB p w1 w v out) (u : Below w.heap.size w w') : OB p w1 w' v out := by
  obtain ⟨xs, h1, h2, h3, h4⟩ := h
  refine ⟨xs, h1, h2.kept (row := none) ⟨u.os, u.tape, u.output, u.size, fun i hi _ => u.block i hi⟩ ?_, h3, h4.trans (u.mono h4.size)⟩
  cases v.ownBlock with
  | none => exact Or.inl rfl
  | some k => exact Or.inr (by simp)
theorem OB.shape {p : Nat → Prop} {w1 w : World} {v : Value} {out : List En} (h : OB p w1 w v out) : ∃ ao cap, v = .slice ao out.length cap := by
  obtain ⟨xs, h1, h2, _⟩ := h
  rcases h2.2 with ⟨rfl, h0⟩ | ⟨g, cap, cur, rfl, _⟩
  · exact ⟨_, _, by rw [h0]⟩
  · exact ⟨_, _, rfl⟩
theorem OB.er {p : Nat → Prop} {w1 w : World} {v : Value} {out : List En} (h : OB p w1 w v out) (hp : ∀ k, w1.heap.size ≤ k → p k) : ∃ ao cap, v = .slice ao out.length cap ∧ ER p w ao out.length out ∧ (ao = none → cap = 0) := by
  obtain ⟨xs, hl, ho, hm, hb⟩ := h
  rcases id ho.2 with ⟨rfl, h0⟩ | ⟨g, cap, cur, rfl, hg, hh, hnc, hcm, hcs, htk⟩
  · exact ⟨none, 0, by rw [h0], ⟨rfl, by omega, fun hn => by omega⟩, fun _ => rfl⟩
  · refine ⟨_, _, rfl, ⟨rfl, by unfold maxLen at hcm; omega, fun hn => ⟨g, 0, rfl, hp g hg, fun j e he => ?_⟩⟩, fun e => by cases e⟩
    have hj : j < out.length := (List.getElem?_eq_some_iff.1 he).1
    obtain ⟨x, hx⟩ : ∃ x, xs[j]? = some x := ⟨xs[j]'(by omega), List.getElem?_eq_getElem (by omega)⟩
    obtain ⟨h1, h2, h3⟩ := hm j e x he hx
    have hcell : ∀ i, i < 5 → w.cell? ⟨g, 0 + j * 5 + i, none⟩ = (cells5 x)[i]? := fun i hi => by
      have e := flatE_get xs j x i hx hi
      have hlt : i < (cells5 x).length := by simpa [cells5] using hi
      rw [List.getElem?_eq_getElem hlt] at e ⊢
      have := ho.cells (g := g) rfl (5 * j + i) _ e
      rw [Addr.add_lit] at this
      rw [show 0 + j * 5 + i = 0 + (5 * j + i) by omega]
      exact this
    obtain ⟨x1, so, sn, sc⟩ := x
    simp only at h1
    subst h1
    exact ⟨so, sn, sc, hcell 0 (by omega), hcell 1 (by omega), hcell 2 (by omega), hcell 3 (by omega), hcell 4 (by omega), row_bl h2 hb (row_lt h2), h3⟩
/-- Where laying stands. -/
def LaidE (e : En) (l out : List En) (d : Bool) (i : Nat) : Prop :=
  (d = false ∧ out = l.take i ∧ ∀ j z, j < i → l[j]? = some z → ¬ ltL e.1 z.1) ∨ (d = true ∧ out ++ l.drop i = insR e l)
theorem drop_getE {l : List En} {i : Nat} {y : En} (h : l[i]? = some y) : l.drop i = y :: l.drop (i + 1) := by
  obtain ⟨h1, h2⟩ := List.getElem?_eq_some_iff.1 h
  rw [← h2]
  exact List.drop_eq_getElem_cons h1
theorem LaidE.behind {e y : En} {l out : List En} {i : Nat} (h : LaidE e l out true i) (hy : l[i]? = some y) : LaidE e l (out ++ [y]) true (i + 1) := by
  rcases h with ⟨h, _⟩ | ⟨_, h⟩
  · cases h
  · refine .inr ⟨rfl, ?_⟩
    rw [← h, drop_getE hy]
    simp
theorem LaidE.not {e y : En} {l out : List En} {i : Nat} (h : LaidE e l out false i) (hy : l[i]? = some y) (hlt : ¬ ltL e.1 y.1) : LaidE e l (out ++ [y]) false (i + 1) := by
  rcases h with ⟨_, h1, h2⟩ | ⟨h, _⟩
  · refine .inl ⟨rfl, by rw [h1, List.take_add_one, hy]; rfl, fun j z hj hz => ?_⟩
    by_cases e' : j = i
    · subst e'
      rw [hy] at hz
      cases hz
      exact hlt
    · exact h2 j z (by omega) hz
  · cases h
theorem und37s : (Tryz.prog.underlying 41).any (·.isRow) = true := by kernel_rfl
theorem info37 : (Tryz.prog.info? 41).map (·.size) = some 5 := by kernel_rfl
/-- An entry is read. -/
theorem wpList_load_E {ops : Array Oper} {rest : List Oper} {o : Oper} {a : Act} {w : World} {Q : Exit → Act → World → Prop} (hgd : o.guard = none) (x : Operand) (ho : o.op = .load 41 x) (b of : Nat) (hx : a.eval x = .pointer (some ⟨b, of, none⟩))
    (y : Lb) (v : Value) (h0 : w.cell? ⟨b, of, none⟩ = some (.int .u64 (y.1 : Nat))) (h1 : w.cell? ⟨b, of + 1, none⟩ = some (.int .i64 y.2.1)) (h2 : w.cell? ⟨b, of + 2, none⟩ = some (.int .u64 (y.2.2.1 : Nat))) (h3 : w.cell? ⟨b, of + 3, none⟩ = some (.int .i64 y.2.2.2)) (h4 : w.cell? ⟨b, of + 4, none⟩ = some v)
    (h : wpList Tryz.prog ops Q rest (a.put o.dst (.agg #[.int .u64 (y.1 : Nat), .int .i64 y.2.1, .int .u64 (y.2.2.1 : Nat), .int .i64 y.2.2.2, v])) w) : wpList Tryz.prog ops Q (o :: rest) a w := by
  obtain ⟨d, hd, hr⟩ := (Option.any_eq_true _ _).1 und37s
  refine wpList_load_mid hgd 41 x ho b of hx [.int .u64 (y.1 : Nat), .int .i64 y.2.1, .int .u64 (y.2.2.1 : Nat), .int .i64 y.2.2.2, v] d (fun j u hj => ?_) hd hr info37 h
  match j, hj with
  | 0, hj => simp at hj; subst hj; simpa using h0
  | 1, hj => simp at hj; subst hj; exact h1
  | 2, hj => simp at hj; subst hj; exact h2
  | 3, hj => simp at hj; subst hj; exact h3
  | 4, hj => simp at hj; subst hj; exact h4
  | n + 5, hj => simp at hj
end Go.Proofs.YtlaihgdfedalmaaGreat
