/-
  Rows of entries of one's own.
-/
import Derived.Test.YtlaihgdfedalmaaGreatERight
import Derived.Maps.AppendAt
namespace Go.Proofs.YtlaihgdfedalmaaGreat
open Go.RowKit
set_option linter.unusedVariables false
set_option linter.unusedSimpArgs false

def cells5 (x : Lb × Sl) : List Value := [.int .u64 (x.1.1 : Nat), .int .i64 x.1.2.1, .int .u64 (x.1.2.2.1 : Nat), .int .i64 x.1.2.2.2, .slice x.2.1 x.2.2.1 x.2.2.2]
def flatE (xs : List (Lb × Sl)) : List Value := xs.flatMap cells5
theorem flatE_cons (x : Lb × Sl) (xs : List (Lb × Sl)) : flatE (x :: xs) = cells5 x ++ flatE xs := by simp [flatE]
theorem flatE_snoc (xs : List (Lb × Sl)) (x : Lb × Sl) : flatE (xs ++ [x]) = flatE xs ++ cells5 x := by simp [flatE]
theorem flatE_get : ∀ (xs : List (Lb × Sl)) (j : Nat) (x : Lb × Sl) (i : Nat), xs[j]? = some x → i < 5 → (flatE xs)[5 * j + i]? = (cells5 x)[i]?
  | [], j, x, i, h, hi => by simp at h
  | a :: r, 0, x, i, h, hi => by
    simp at h; subst h
    rw [flatE_cons, List.getElem?_append_left (by simp [cells5]; omega)]; simp
  | a :: r, j + 1, x, i, h, hi => by
    rw [flatE_cons, List.getElem?_append_right (by simp [cells5]; omega), show 5 * (j + 1) + i - (cells5 a).length = 5 * j + i by simp [cells5]; omega]
    exact flatE_get r j x i (by simpa using h) hi
theorem infoE29 : (Tryz.prog.info? 41).map (fun i => (i.zero, i.size, i.bytes)) = some (some (.agg #[.int .u64 0, .int .i64 0, .int .u64 0, .int .i64 0, .slice none 0 0]), 5, 56) := by kernel_rfl
theorem und35 : Tryz.prog.underlying 42 = some (.slice 41) := by kernel_rfl

/-- A row of entries of one's own: its block and its messages' lie at B or behind it. -/
def EO (B : Nat) (w : World) (v : Value) (es : List (Lb × List UInt8)) : Prop :=
  ∃ xs : List (Lb × Sl), xs.length = es.length ∧ w.ownsRow B 41 5 v es.length (flatE xs) ∧ ∀ (j : Nat) e x, es[j]? = some e → xs[j]? = some x → x.1 = e.1 ∧ Cd.Row w x.2.1 x.2.2.1 x.2.2.2 e.2 ∧ ∀ a, x.2.1 = some a → 0 < x.2.2.1 → B ≤ a.block ∧ a.block < w.heap.size ∧ v.ownBlock ≠ some a.block
theorem EO.nil (B : Nat) (w : World) : EO B w (.slice none 0 0) [] := ⟨[], rfl, World.ownsRow_nil _ _ _ _, fun j e x he => by simp at he⟩
theorem ownE_lt {w : World} {B n : Nat} {v : Value} {xs : List Value} (h : w.ownsRow B 41 5 v n xs) : ∀ k, v.ownBlock = some k → B ≤ k ∧ k < w.heap.size := fun k hk => ⟨(h.lt k hk).1, (h.lt k hk).2⟩
theorem row_grown {w w' : World} {ao : Option Addr} {n cap : Nat} {xs : List UInt8} {row : Option Nat} (h : Cd.Row w ao n cap xs) (g : w.grownBy w' row) (hne : ∀ a, ao = some a → 0 < n → row ≠ some a.block) : Cd.Row w' ao n cap xs :=
  ⟨h.1, h.2.1, h.2.2.1, h.2.2.2.1, fun a ha i hi => by
    have hc := h.2.2.2.2 a ha i hi
    refine (World.cell?_of_block (a := a.add i) (g.block _ (World.block_lt_of_cell? w _ hc) ?_)).trans hc
    rw [add_block]
    exact fun e => hne a ha (by omega) e.symm⟩
/-- Others' blocks turn. -/
theorem EO.gr {B : Nat} {w w' : World} {v : Value} {es : List (Lb × List UInt8)} {row : Option Nat} (h : EO B w v es) (g : w.grownBy w' row) (hr : ∀ k, row = some k → k < B) : EO B w' v es := by
  obtain ⟨xs, hl, ho, hm⟩ := h
  refine ⟨xs, hl, ho.kept (row := row) g ?_, fun j e x he hx => ?_⟩
  · cases hv : v.ownBlock with
    | none => exact Or.inl rfl
    | some k =>
      refine Or.inr (fun e => ?_)
      have h1 := (ownE_lt ho k hv).1
      have h2 := hr k (by rw [← e])
      omega
  · obtain ⟨h1, h2, h3⟩ := hm j e x he hx
    refine ⟨h1, row_grown h2 g (fun a ha hn e => ?_), fun a ha hn => ⟨(h3 a ha hn).1, Nat.lt_of_lt_of_le (h3 a ha hn).2.1 g.size, (h3 a ha hn).2.2⟩⟩
    have := hr _ e
    have := (h3 a ha hn).1
    omega
theorem EO.bl {B : Nat} {w w' : World} {v : Value} {es : List (Lb × List UInt8)} (h : EO B w v es) (u : Below w.heap.size w w') : EO B w' v es :=
  h.gr (row := none) ⟨u.os, u.tape, u.output, u.size, fun i hi _ => u.block i hi⟩ (fun k hk => by cases hk)
/-- One more entry is laid behind. -/
theorem EO.snoc {B : Nat} {w w' : World} {v v' : Value} {es : List (Lb × List UInt8)} {e : Lb × List UInt8} {s : Sl} {xs : List (Lb × Sl)} (hl : xs.length = es.length)
    (hm : ∀ (j : Nat) e x, es[j]? = some e → xs[j]? = some x → x.1 = e.1 ∧ Cd.Row w x.2.1 x.2.2.1 x.2.2.2 e.2 ∧ ∀ a, x.2.1 = some a → 0 < x.2.2.1 → B ≤ a.block ∧ a.block < w.heap.size ∧ v.ownBlock ≠ some a.block)
    (hrow : Cd.Row w s.1 s.2.1 s.2.2 e.2) (hb : ∀ a, s.1 = some a → 0 < s.2.1 → B ≤ a.block ∧ v.ownBlock ≠ some a.block)
    (hown : w'.ownsRow B 41 5 v' (es.length + 1) (flatE xs ++ cells5 (e.1, s)))
    (hg : w.grownBy w' v.ownBlock) (hat : v'.ownBlock = v.ownBlock ∨ v'.ownBlock = some w.heap.size) : EO B w' v' (es ++ [e]) := by
  have hne : ∀ a : Addr, a.block < w.heap.size → v.ownBlock ≠ some a.block → v'.ownBlock ≠ some a.block := fun a h1 h2 h3 => by
    rcases hat with h4 | h4
    · exact h2 (by rw [← h4]; exact h3)
    · rw [h4] at h3; simp at h3; omega
  refine ⟨xs ++ [(e.1, s)], by simp [hl], ?_, fun j e' x he hx => ?_⟩
  · rw [flatE_snoc, List.length_append]
    exact hown
  · by_cases hj : j < es.length
    · rw [List.getElem?_append_left hj] at he
      rw [List.getElem?_append_left (by omega)] at hx
      obtain ⟨h1, h2, h3⟩ := hm j e' x he hx
      exact ⟨h1, row_grown h2 hg (fun a ha hn => (h3 a ha hn).2.2), fun a ha hn => ⟨(h3 a ha hn).1, Nat.lt_of_lt_of_le (h3 a ha hn).2.1 hg.size, hne a (h3 a ha hn).2.1 (h3 a ha hn).2.2⟩⟩
    · have hje : j = es.length := by
        have := (List.getElem?_eq_some_iff.1 he).1
        simp at this
        omega
      subst hje
      rw [List.getElem?_append_right (by omega)] at he
      rw [List.getElem?_append_right (by omega)] at hx
      simp [hl] at he hx
      subst he hx
      exact ⟨rfl, row_grown hrow hg (fun a ha hn => (hb a ha hn).2), fun a ha hn => ⟨(hb a ha hn).1, Nat.lt_of_lt_of_le (row_lt hrow a ha hn) hg.size, hne a (row_lt hrow a ha hn) (hb a ha hn).2⟩⟩
/-- Such a row is read as a list. -/
theorem EO.er {B : Nat} {w : World} {v : Value} {es : List (Lb × List UInt8)} (h : EO B w v es) : ∃ ao cap, v = .slice ao es.length cap ∧ (ao = none → es.length = 0) ∧ es.length ≤ cap ∧ ER (B ≤ ·) w ao es.length es := by
  obtain ⟨xs, hl, ho, hm⟩ := h
  rcases id ho.2 with ⟨rfl, h0⟩ | ⟨g, cap, cur, rfl, hg, hh, hnc, hcm, hcs, htk⟩
  · refine ⟨none, 0, by rw [h0], fun _ => h0, by omega, rfl, by omega, fun hn => by omega⟩
  · refine ⟨_, _, rfl, (fun e => by cases e), hnc, rfl, by unfold maxLen at hcm; omega, fun hn => ⟨g, 0, rfl, hg, fun j e he => ?_⟩⟩
    have hj : j < es.length := (List.getElem?_eq_some_iff.1 he).1
    obtain ⟨x, hx⟩ : ∃ x, xs[j]? = some x := ⟨xs[j]'(by omega), List.getElem?_eq_getElem (by omega)⟩
    obtain ⟨h1, h2, h3⟩ := hm j e x he hx
    have hcell : ∀ i, i < 5 → w.cell? ⟨g, 0 + j * 5 + i, none⟩ = (cells5 x)[i]? := fun i hi => by
      have e := flatE_get xs j x i hx hi
      have hlt : i < (cells5 x).length := by simpa [cells5] using hi
      rw [List.getElem?_eq_getElem hlt] at e ⊢
      have := ho.cells (g := g) rfl (5 * j + i) _ e
      rw [Addr.add_lit] at this
      rw [show 0 + j * 5 + i = 0 + (5 * j + i) by omega]
      exact this
    obtain ⟨x1, so, sn, sc⟩ := x
    simp only at h1
    subst h1
    exact ⟨so, sn, sc, hcell 0 (by omega), hcell 1 (by omega), hcell 2 (by omega), hcell 3 (by omega), hcell 4 (by omega), h2, fun a ha hn => (h3 a ha hn).1⟩
end Go.Proofs.YtlaihgdfedalmaaGreat
