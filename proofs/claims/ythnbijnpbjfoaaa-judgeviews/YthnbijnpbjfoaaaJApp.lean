/-
  Lists of lists of one's own that grow.
-/
import Derived.Test.YthnbijnpbjfoaaaJOwn
import Derived.Laws.AppendOwnNone
namespace Go.Proofs.Ythnbijnpbjfoaaa
open Go.RowKit Go.Sort
set_option linter.unusedVariables false

def slv (r : Sr) : Value := .slice r.1 r.2.1 r.2.2
theorem slv_one {rs : List Sr} {u : Value} (h : u ∈ rs.map slv) : u.oneCell' = true := by
  obtain ⟨r, _, rfl⟩ := List.mem_map.1 h
  rfl
theorem SlR.cells {p : Nat → Prop} {w : World} {a : Addr} {n : Nat} {rs : List Sr} (h : SlR p w (some a) n rs) : ∀ j u, (rs.map slv)[j]? = some u → w.cell? (a.add j) = some u := by
  intro j u hj
  obtain ⟨h1, h2, h3, h4⟩ := h
  rw [List.getElem?_map] at hj
  obtain ⟨r, hr, rfl⟩ := Option.map_eq_some_iff.1 hj
  have := (List.getElem?_eq_some_iff.1 hr).1
  obtain ⟨b, off, e, hp, hc⟩ := h4 (by omega)
  cases e
  rw [Addr.add_lit]
  exact hc j r hr
theorem SlR.own {w : World} {B T n : Nat} {v : Value} {rs : List Sr} (h : w.ownsRow B T 1 v n (rs.map slv)) (hm : n ≤ 140737488355328) : ∃ r : Sr, v = .slice r.1 r.2.1 r.2.2 ∧ r.2.1 = n ∧ SlR (fun _ => True) w r.1 n rs := by
  have hl : rs.length = n := by have := h.1; simp at this; omega
  rcases own_shape h with ⟨rfl, rfl⟩ | ⟨g, cap, rfl, hg, _⟩
  · exact ⟨(none, 0, 0), rfl, rfl, hl, by omega, fun _ => rfl, fun h => by omega⟩
  · refine ⟨(some ⟨g, 0, none⟩, n, cap), rfl, rfl, hl, hm, fun e => (by cases e), fun _ => ⟨g, 0, rfl, trivial, fun j r hj => ?_⟩⟩
    rw [Nat.zero_add]
    refine own_cell h j _ ?_
    rw [List.getElem?_map, hj]
    rfl
theorem info32 : (Try.prog.info? 32).map (fun i => (i.zero, i.size, i.bytes)) = some (some (.slice none 0 0), 1, 24) := by kernel_rfl
theorem info25 : (Try.prog.info? 25).map (fun i => (i.zero, i.size, i.bytes)) = some (some (.slice none 0 0), 1, 24) := by kernel_rfl
theorem und22' : Try.prog.underlying 22 = some (.slice 32) := by kernel_rfl
theorem und23' : Try.prog.underlying 23 = some (.slice 25) := by kernel_rfl
/-- 'append(s, l...)' of a list of lists. -/
theorem wpList_append_rows {w : World} {ops : Array Oper} {rest : List Oper} {o : Oper} {a : Act} {Q : Exit → Act → World → Prop} (hgd : o.guard = none) (s x : Operand) (T E : TypeId)
    (ho : o.op = .call { callee := .builtin .append, args := #[s, x], argTypes := #[T, T] }) (hT : Try.prog.underlying T = some (.slice E)) (hi : (Try.prog.info? E).map (fun i => (i.zero, i.size, i.bytes)) = some (some (.slice none 0 0), 1, 24))
    (B : Nat) (v : Value) (n : Nat) (rs : List Sr) (hs : a.eval s = v) (hown : w.ownsRow B E 1 v n (rs.map slv)) (ao : Option Addr) (m c : Nat) (xs : List Sr) (hx : a.eval x = .slice ao m c) (hx2 : SlR (fun _ => True) w ao m xs) (hz : ao = none → c = 0) (hn : n + m ≤ 10000) (hB : B ≤ w.heap.size)
    (h : ∀ v' w', w'.ownsRow B E 1 v' (n + m) ((rs ++ xs).map slv) → Below B w w' → wpList Try.prog ops Q rest (a.put o.dst v') w') : wpList Try.prog ops Q (o :: rest) a w := by
  obtain ⟨i0, hi0, hz0, hz1, hz2⟩ := info_parts hi
  have hl := hx2.1
  cases ao with
  | none =>
    obtain rfl := hz rfl
    obtain rfl := hx2.2.2.1 rfl
    obtain rfl : xs = [] := List.length_eq_zero_iff.1 hl
    exact wpList_append_own_none hgd s x T ho B E i0 1 hT hi0 v n _ hs hown hx (h _ _ (by simpa using hown) ((Below.refl _ _).mono hB))
  | some ad =>
    refine wpList_append_own_at _ hgd s x T ho B E i0 (.slice none 0 0) 1 24 hT hi0 hz0 hz1 hz2 rfl (by decide) v n _ hs hown ad m c (xs.map slv) hx (by simp [hl]) hx2.cells (fun u hu => slv_one hu) (by unfold maxLen; omega) (by omega) hB (fun v' w' hown' hgrow _ _ => h v' w' (by simpa using hown') ?_)
    refine bl_grown ((Below.refl _ _)) hB hgrow (fun k hk => ?_)
    rcases own_shape hown with ⟨e, _⟩ | ⟨g, cap, e, hg, _⟩
    · rw [e] at hk; simp [Value.ownBlock] at hk
    · rw [e] at hk; simp [Value.ownBlock] at hk; omega
/-- 'append(s, x)' of one list. -/
theorem wpList_append_row {w : World} {ops : Array Oper} {rest : List Oper} {o : Oper} {a : Act} {Q : Exit → Act → World → Prop} (hgd : o.guard = none) (s x : Operand) (T E : TypeId)
    (ho : o.op = .call { callee := .builtin .append, args := #[s, x], argTypes := #[T, T] }) (hT : Try.prog.underlying T = some (.slice E)) (hi : (Try.prog.info? E).map (fun i => (i.zero, i.size, i.bytes)) = some (some (.slice none 0 0), 1, 24))
    (B : Nat) (v : Value) (n : Nat) (rs : List Sr) (hs : a.eval s = v) (hown : w.ownsRow B E 1 v n (rs.map slv)) (r : Sr) (g : Nat) (hg : w.heap.size = g) (hx : a.eval x = .slice (some ⟨g, 0, none⟩) 1 1) (hn : n ≤ 10000) (hB : B ≤ w.heap.size)
    (h : ∀ v' w', w'.ownsRow B E 1 v' (n + 1) ((rs ++ [r]).map slv) → Below B w w' → wpList Try.prog ops Q rest (a.put o.dst v') w') : wpList Try.prog ops Q (o :: rest) a (w.alloc (.cells #[.slice r.1 r.2.1 r.2.2] E)) := by
  refine wpList_append_gen hgd s x T E ho (.slice none 0 0) 1 24 hT hi rfl (by decide) (by omega) B v n _ hs hown [.slice r.1 r.2.1 r.2.2] rfl (fun u hu => by simp at hu; subst hu; rfl) g hg hx hn hB (fun v' w' hown' hgrow _ => h v' w' (by simpa [slv] using hown') ?_)
  refine bl_grown ((Below.refl _ _)) hB hgrow (fun k hk => ?_)
  rcases own_shape hown with ⟨e, _⟩ | ⟨g, cap, e, hg, _⟩
  · rw [e] at hk; simp [Value.ownBlock] at hk
  · rw [e] at hk; simp [Value.ownBlock] at hk; omega
theorem own_none (w : World) (B T : Nat) : w.ownsRow B T 1 (.slice none 0 0) 0 (([] : List Sr).map slv) := ⟨rfl, .inl ⟨rfl, rfl⟩⟩
/-- The rows of one's own, and what each of them holds. -/
theorem Lr.mk {α : Type} {E : World → Sr → α → Prop} {w : World} {B T n : Nat} {v : Value} {rs : List Sr} {xs : List α} (h : w.ownsRow B T 1 v n (rs.map slv)) (hm : n ≤ 140737488355328) (hl : xs.length = n) (hc : ∀ r ∈ rs, Cp r) (hE : ∀ (j : Nat) r x, rs[j]? = some r → xs[j]? = some x → E w r x) :
    ∃ r : Sr, v = .slice r.1 r.2.1 r.2.2 ∧ r.2.1 = n ∧ Lr E w r.1 n xs := by
  obtain ⟨r, rfl, h1, h2⟩ := SlR.own h hm
  exact ⟨r, rfl, h1, rs, h2, hl, hc, hE⟩
/-- Two lists of lists, one behind the other. -/
theorem each_app {α : Type} {E : World → Sr → α → Prop} {w : World} {rs : List Sr} {xs : List α} (hl : rs.length = xs.length) (h : ∀ (j : Nat) r x, rs[j]? = some r → xs[j]? = some x → E w r x) {s : Sr} {y : α} (hy : E w s y) : ∀ (j : Nat) r x, (rs ++ [s])[j]? = some r → (xs ++ [y])[j]? = some x → E w r x := by
  intro j r x hr hx
  by_cases hj : j < xs.length
  · rw [List.getElem?_append_left (by omega)] at hr
    rw [List.getElem?_append_left hj] at hx
    exact h j r x hr hx
  · have hl2 := (List.getElem?_eq_some_iff.1 hx).1
    simp at hl2
    have : j = xs.length := by omega
    subst this
    rw [List.getElem?_append_right (by omega), hl] at hr
    rw [List.getElem?_append_right (by omega)] at hx
    simp at hr hx
    subst hr hx
    exact hy
theorem own_keep {w w' : World} {B T n : Nat} {v : Value} {xs : List Value} (h : w.ownsRow B T 1 v n xs) (u : Below w.heap.size w w') : w'.ownsRow B T 1 v n xs :=
  h.kept (gr_below u none) (by cases v.ownBlock with | none => exact Or.inl rfl | some k => exact Or.inr (by simp))
end Go.Proofs.Ythnbijnpbjfoaaa
