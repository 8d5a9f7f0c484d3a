/-
  Stays of all the nodes: plain facts on them; a row of pointers grows by another; a part of a group.
-/
import Derived.Test.YthnbijnpbjfoaaaJAgree
import Derived.Test.YthnbijnpbjfoaaaJSort
import Derived.Test.YthnbijnpbjfoaaaJFirst
import Derived.Test.YthnbijnpbjfoaaaJNil
namespace Go.Proofs.Ythnbijnpbjfoaaa
open Go.RowKit Go.Sort
set_option linter.unusedVariables false

theorem hasN_lt {s i : Nat} (hs : s < 65536) (h : hasN s (i : Int) = true) : i < 16 := by
  by_cases hi : i < 16
  · exact hi
  · exfalso
    unfold hasN at h
    simp at h
    omega
/-- What holds of a node's stays behind k events. -/
def StP (node k : Nat) (st : List Sy × Sy) : Prop :=
  (∀ y ∈ st.1 ++ [st.2], y.node = node ∧ y.s < 65536 ∧ y.safe ≤ k) ∧ (∀ y ∈ (st.1 ++ [st.2]).tail, y.node < 16) ∧ st.1.length ≤ k
theorem takeD_P {y y' : Sy} {e : Ev} (h : takeD y e = some y') : y'.node = y.node ∧ y'.s = y.s ∧ y'.safe ≤ y.safe + 1 := by
  unfold takeD at h
  repeat' split at h
  all_goals first | (cases h; done) | (cases h; exact ⟨rfl, rfl, by first | omega | (show _ ≤ _; dsimp only; omega)⟩)
theorem StP.step {node k : Nat} {st st' : List Sy × Sy} {e : Ev} (h : StP node k st) (he : EvOk e) (hs : stepD node st e = some st') : StP node (k + 1) st' := by
  obtain ⟨h1, h2, h3⟩ := h
  unfold stepD at hs
  split at hs
  · split at hs
    · rename_i hb
      cases hs
      have hn : node < 16 := by
        unfold beforeD at hb
        simp only [Bool.and_eq_true] at hb
        have := h1 st.2 (by simp)
        rw [this.1] at hb
        exact hasN_lt he.2.2.2.2.1 hb.2.1
      refine ⟨fun y hy => ?_, fun y hy => ?_, by simp; omega⟩
      · simp only [List.append_assoc, List.mem_append, List.mem_cons, List.not_mem_nil, or_false] at hy
        rcases hy with hy | rfl | rfl
        · obtain ⟨a, b, c⟩ := h1 y (by simp [hy]); exact ⟨a, b, by omega⟩
        · obtain ⟨a, b, c⟩ := h1 st.2 (by simp); exact ⟨a, b, by show st.2.safe ≤ k + 1; omega⟩
        · exact ⟨rfl, he.2.2.2.2.1, Nat.zero_le _⟩
      · have hy := List.mem_of_mem_tail hy
        simp only [List.append_assoc, List.mem_append, List.mem_cons, List.not_mem_nil, or_false] at hy
        rcases hy with hy | rfl | rfl
        · rw [(h1 y (by simp [hy])).1]; exact hn
        · show st.2.node < 16; rw [(h1 st.2 (by simp)).1]; exact hn
        · exact hn
    · cases hs
  · obtain ⟨y', hy', rfl⟩ := Option.map_eq_some_iff.1 hs
    obtain ⟨a, b, c⟩ := takeD_P hy'
    refine ⟨fun y hy => ?_, fun y hy => ?_, by show st.1.length ≤ k + 1; omega⟩
    · simp only [List.mem_append, List.mem_singleton] at hy
      rcases hy with hy | rfl
      · obtain ⟨a, b, c⟩ := h1 y (by simp [hy]); exact ⟨a, b, by omega⟩
      · obtain ⟨a', b', c'⟩ := h1 st.2 (by simp); exact ⟨by rw [a, a'], by rw [b]; exact b', by omega⟩
    · cases hl : st.1 with
      | nil => simp [hl] at hy
      | cons x r =>
        simp only [hl, List.cons_append, List.tail_cons, List.mem_append, List.mem_singleton] at hy h2
        rcases hy with hy | rfl
        · exact h2 y (.inl hy)
        · rw [a]; exact h2 st.2 (.inr rfl)
theorem runD_P {node : Nat} : ∀ (l : List Ev) {k : Nat} {st st' : List Sy × Sy}, StP node k st → (∀ e ∈ l, EvOk e) → runD node l st = some st' → StP node (k + l.length) st'
  | [], k, st, st', h, _, hr => by simp [runD] at hr; subst hr; exact h
  | e :: r, k, st, st', h, he, hr => by
    simp only [runD] at hr
    cases hs : stepD node st e with
    | none => rw [hs] at hr; simp at hr
    | some s =>
      rw [hs] at hr
      have := runD_P r (h.step (he e (by simp)) hs) (fun x hx => he x (by simp [hx])) hr
      rw [List.length_cons, show k + (r.length + 1) = k + 1 + r.length by omega]
      exact this
theorem staysD_P {node : Nat} {es : List Ev} {ys : List Sy} (he : ∀ e ∈ es, EvOk e) (h : staysD node es = some ys) : ys.length ≤ es.length ∧ ∀ y ∈ ys, y.node = node ∧ y.node < 16 ∧ y.s < 65536 ∧ y.safe ≤ es.length := by
  unfold staysD at h
  obtain ⟨st, hst, rfl⟩ := Option.map_eq_some_iff.1 h
  obtain ⟨h1, h2, h3⟩ := runD_P es (k := 0) (st := ([], zeroY node)) ⟨fun y hy => by simp at hy; subst hy; exact ⟨rfl, by show 0 < 65536; omega, Nat.le_refl _⟩, fun y hy => by simp at hy, Nat.le_refl _⟩ he hst
  rw [Nat.zero_add] at h1 h3
  refine ⟨by simp; exact h3, fun y hy => ?_⟩
  obtain ⟨a, b, c⟩ := h1 y (List.mem_of_mem_tail hy)
  exact ⟨a, h2 y hy, b, c⟩

set_option maxRecDepth 10000 in
theorem wpList_append_ptrs {w : World} {ops : Array Oper} {rest : List Oper} {o : Oper} {a : Act} {Q : Exit → Act → World → Prop} (hgd : o.guard = none) (s x : Operand)
    (ho : o.op = .call { callee := .builtin .append, args := #[s, x], argTypes := #[55, 55] })
    (B : Nat) (v : Value) (n : Nat) (vs : List Value) (hs : a.eval s = v) (hown : w.ownsRow B 59 1 v n vs) (B' : Nat) (v2 : Value) (m : Nat) (qs : List Nat) (hx : a.eval x = v2) (hr : w.ownsRow B' 59 1 v2 m (qs.map ptr)) (hn : n + m ≤ 100000) (hB : B ≤ w.heap.size)
    (h : ∀ v' w', w'.ownsRow B 59 1 v' (n + m) (vs ++ qs.map ptr) → w.grownBy w' v.ownBlock → (v' = .slice none 0 0 ↔ v = .slice none 0 0 ∧ m = 0) → (v'.ownBlock = v.ownBlock ∨ v'.ownBlock = some w.heap.size) → wpList Try.prog ops Q rest (a.put o.dst v') w') : wpList Try.prog ops Q (o :: rest) a w := by
  obtain ⟨i0, hi0, hz0, hz1, hz2⟩ := info_parts info59
  have hl := hr.1
  rcases own_shape hr with ⟨rfl, rfl⟩ | ⟨g, cap, rfl, _⟩
  · have hq : qs = [] := by simpa using hl
    subst hq
    exact wpList_append_own_none hgd s x 55 ho B 59 i0 1 und55 hi0 v n _ hs hown hx (h _ _ (by simpa using hown) (gr_below (Below.refl _ _) _) (by simp) (.inl rfl))
  · refine wpList_append_own_at _ hgd s x 55 ho B 59 i0 (.pointer none) 1 8 und55 hi0 hz0 hz1 hz2 rfl (by decide) v n _ hs hown ⟨g, 0, none⟩ m cap (qs.map ptr) hx hl (hr.cells (g := g) rfl) (fun u hu => ?_) (by unfold maxLen; omega) (by omega) hB h
    obtain ⟨q, _, rfl⟩ := List.mem_map.1 hu
    rfl

theorem und55e : Try.prog.underlying 55 = some (.slice (Try.prog.elem 55)) := by kernel_rfl
set_option maxRecDepth 100000 in
theorem size55 (w : World) : (sizeOf (Try.prog.elem 55)).run Try.prog w = .ok 1 w := by rfl
theorem slice_to55 (w : World) (b off L cap n : Nat) (hn : n ≤ cap) : (Instr.slice 55 (.slice (some ⟨b, off, none⟩) L cap) none (some (.int .i64 (n : Nat))) none).run Try.prog w = .ok (.slice (some ⟨b, off, none⟩) n cap) w := by
  rw [run_slice_h w 55 (some ⟨b, off, none⟩) L cap und55e .i64 (n : Nat) (by omega) (by omega), size55]
  simp only [Result.andThen_ok, sliced, Int.toNat_natCast, Nat.sub_zero, Nat.zero_mul]
  congr 2
  split
  · rfl
  · simp [Addr.add]
theorem slice_from55 (w : World) (b off L cap m : Nat) (hL : m ≤ L) (hc : L ≤ cap) : (Instr.slice 55 (.slice (some ⟨b, off, none⟩) L cap) (some (.int .i64 (m : Nat))) none none).run Try.prog w = .ok (.slice (some (if cap = m then ⟨b, off, none⟩ else ⟨b, off + m, none⟩)) ((L - m : Nat)) (cap - m)) w := by
  rw [run_slice_l w 55 (some ⟨b, off, none⟩) L cap und55e .i64 (m : Nat) (by omega) (by omega), size55]
  simp only [Result.andThen_ok, sliced, Int.toNat_natCast]
  congr 2
  split
  · rfl
  · simp [Addr.add_lit]

theorem perm_pre {α β : Type} {f : α → β} {xs ys : List β} (h : ys.Perm xs) : ∀ l : List α, l.map f = xs → ∃ l' : List α, l'.Perm l ∧ l'.map f = ys := by
  induction h with
  | nil => intro l hl; exact ⟨l, .refl _, hl⟩
  | cons a h ih =>
    intro l hl
    obtain ⟨b, r, rfl, rfl, hr⟩ := List.map_eq_cons_iff.1 hl
    obtain ⟨l', h1, h2⟩ := ih r hr
    exact ⟨b :: l', h1.cons b, by simp [h2]⟩
  | swap a b r =>
    intro l hl
    obtain ⟨x, r1, rfl, rfl, hr⟩ := List.map_eq_cons_iff.1 hl
    obtain ⟨y, r2, rfl, rfl, rfl⟩ := List.map_eq_cons_iff.1 hr
    exact ⟨y :: x :: r2, .swap _ _ _, rfl⟩
  | trans h1 h2 ih1 ih2 =>
    intro l hl
    obtain ⟨l1, a1, b1⟩ := ih2 l hl
    obtain ⟨l2, a2, b2⟩ := ih1 l1 b1
    exact ⟨l2, a2.trans a1, b2⟩

theorem Gr.drop {w : World} {g off n m : Nat} {ys : List Sy} (h : Gr w (some ⟨g, off, none⟩) n ys) (hm : m ≤ n) : Gr w (some ⟨g, off + m, none⟩) (n - m) (ys.drop m) := by
  obtain ⟨qs, ⟨h1, h2, h3, h4⟩, h5, h6⟩ := h
  refine ⟨qs.drop m, ⟨by simp [h1], by omega, fun e => (by cases e), fun h0 => ?_⟩, by simp [h5], fun j q y hq hy => ?_⟩
  · obtain ⟨b, o, e, hc⟩ := h4 (by omega)
    cases e
    refine ⟨g, off + m, rfl, fun j q hj => ?_⟩
    rw [List.getElem?_drop] at hj
    rw [Nat.add_assoc]
    exact hc (m + j) q hj
  · rw [List.getElem?_drop] at hq hy
    exact h6 (m + j) q y hq hy
theorem Gr.take {w : World} {ao : Option Addr} {n m : Nat} {ys : List Sy} (h : Gr w ao n ys) (hm : m ≤ n) : Gr w ao m (ys.take m) := by
  obtain ⟨qs, ⟨h1, h2, h3, h4⟩, h5, h6⟩ := h
  refine ⟨qs.take m, ⟨by simp [h1]; omega, by omega, fun e => by have := h3 e; omega, fun h0 => ?_⟩, by simp [h5]; omega, fun j q y hq hy => ?_⟩
  · obtain ⟨b, o, e, hc⟩ := h4 (by omega)
    refine ⟨b, o, e, fun j q hj => ?_⟩
    rw [List.getElem?_take] at hj
    split at hj
    · exact hc j q hj
    · cases hj
  · rw [List.getElem?_take] at hq hy
    split at hq
    · rename_i hjm
      rw [if_pos hjm] at hy
      exact h6 j q y hq hy
    · cases hq
end Go.Proofs.Ythnbijnpbjfoaaa
