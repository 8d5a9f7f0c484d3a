/-
  How the document sorts labels: each is laid into what is there.
-/
import Derived.Test.YtooeemhlpmiceaaQAll
namespace Go.Proofs.Ytooeemhlpmiceaa.Q
open Go.RowKit Go.Sort
set_option linter.unusedVariables false

/-- A label laid into the first k of a list: what is there, and whether it is laid. -/
def insK (x : Lb) (rs : List Lb) : Nat → List Lb × Bool
  | 0 => ([], false)
  | k + 1 => match rs[k]? with
    | some y => if ((insK x rs k).2 == false && decide (cmpL x y < 0)) = true then ((insK x rs k).1 ++ [x] ++ [y], true) else ((insK x rs k).1 ++ [y], (insK x rs k).2)
    | none => insK x rs k
theorem insK_done {x : Lb} {rs : List Lb} {k : Nat} {y : Lb} (h : rs[k]? = some y) (hd : (insK x rs k).2 = true) : insK x rs (k + 1) = ((insK x rs k).1 ++ [y], true) := by
  rw [insK, h]; simp only; rw [hd]; simp
theorem insK_now {x : Lb} {rs : List Lb} {k : Nat} {y : Lb} (h : rs[k]? = some y) (hd : (insK x rs k).2 = false) (hl : decide (cmpL x y < 0) = true) : insK x rs (k + 1) = ((insK x rs k).1 ++ [x] ++ [y], true) := by
  rw [insK, h]; simp only; rw [hd, hl]; simp
theorem insK_not {x : Lb} {rs : List Lb} {k : Nat} {y : Lb} (h : rs[k]? = some y) (hd : (insK x rs k).2 = false) (hl : decide (cmpL x y < 0) = false) : insK x rs (k + 1) = ((insK x rs k).1 ++ [y], false) := by
  rw [insK, h]; simp only; rw [hd, hl]; simp
theorem insK_len (x : Lb) (rs : List Lb) : ∀ k, k ≤ rs.length → (insK x rs k).1.length ≤ k + 1 ∧ ((insK x rs k).2 = false → (insK x rs k).1.length = k)
  | 0, _ => by simp [insK]
  | k + 1, hk => by
    have ih := insK_len x rs k (by omega)
    obtain ⟨y, hy⟩ : ∃ y, rs[k]? = some y := ⟨rs[k]'(by omega), List.getElem?_eq_getElem (by omega)⟩
    cases hd : (insK x rs k).2 with
    | true => rw [insK_done hy hd]; simp; omega
    | false =>
      have := ih.2 hd
      cases hl : decide (cmpL x y < 0) with
      | true => rw [insK_now hy hd hl]; simp; omega
      | false => rw [insK_not hy hd hl]; simp; omega
theorem insK_asc {x : Lb} {rs : List Lb} (h : rs.Pairwise ltL) (hx : x ∉ rs) : ∀ k, k ≤ rs.length → (insK x rs k).1.Pairwise ltL ∧ (∀ z, z ∈ (insK x rs k).1 ↔ z ∈ rs.take k ∨ ((insK x rs k).2 = true ∧ z = x)) ∧ ((insK x rs k).2 = false → ∀ z ∈ rs.take k, ltL z x) ∧ ((insK x rs k).2 = true → ∀ z ∈ rs.drop k, ltL x z)
  | 0, _ => by simp [insK]
  | k + 1, hk => by
    obtain ⟨h1, h2, h3, h4⟩ := insK_asc h hx k (by omega)
    obtain ⟨y, hy⟩ : ∃ y, rs[k]? = some y := ⟨rs[k]'(by omega), List.getElem?_eq_getElem (by omega)⟩
    have hyk : rs[k]'(by omega) = y := (List.getElem?_eq_some_iff.1 hy).2
    have ht : ∀ z, z ∈ rs.take (k + 1) ↔ z ∈ rs.take k ∨ z = y := fun z => by rw [List.take_add_one, hy]; simp
    have hdr : rs.drop k = y :: rs.drop (k + 1) := by rw [List.drop_eq_getElem_cons (by omega), hyk]
    have hpa : ∀ z ∈ rs.take k, ltL z y := fun z hz => by
      obtain ⟨j, hj, rfl⟩ := List.mem_iff_getElem.1 hz
      rw [List.length_take] at hj
      have := List.pairwise_iff_getElem.1 h j k (by omega) (by omega) (by omega)
      rw [hyk] at this
      simpa using this
    have hpb : ∀ z ∈ rs.drop (k + 1), ltL y z := fun z hz => by
      have hp : (rs.drop k).Pairwise ltL := h.drop
      rw [hdr] at hp
      exact (List.pairwise_cons.1 hp).1 z hz
    have hyr : y ∈ rs := List.mem_of_getElem? hy
    cases hd : (insK x rs k).2 with
    | true =>
      have h4' := h4 hd
      rw [insK_done hy hd]
      refine ⟨?_, fun z => ?_, fun e => by simp at e, fun _ z hz => h4' z (by rw [hdr]; exact List.mem_cons_of_mem _ hz)⟩
      · rw [List.pairwise_append]
        refine ⟨h1, by simp, fun a ha b hb => ?_⟩
        simp at hb
        subst hb
        rcases (h2 a).1 ha with ha | ⟨_, rfl⟩
        · exact hpa a ha
        · exact h4' b (by rw [hdr]; simp)
      · simp only [List.mem_append, h2 z, ht z, hd, List.mem_singleton]
        simp only [true_and]
        constructor
        · rintro ((a | a) | a)
          · exact Or.inl (Or.inl a)
          · exact Or.inr a
          · exact Or.inl (Or.inr a)
        · rintro ((a | a) | a)
          · exact Or.inl (Or.inl a)
          · exact Or.inr a
          · exact Or.inl (Or.inr a)
    | false =>
      have h3' := h3 hd
      cases hl : decide (cmpL x y < 0) with
      | true =>
        have hxy : ltL x y := (cmpL_lt x y).1 (by simpa using hl)
        rw [insK_now hy hd hl]
        refine ⟨?_, fun z => ?_, fun e => by simp at e, fun _ z hz => ltL_trans hxy (hpb z hz)⟩
        · rw [List.pairwise_append, List.pairwise_append]
          refine ⟨⟨h1, by simp, fun a ha b hb => ?_⟩, by simp, fun a ha b hb => ?_⟩
          · simp at hb; subst hb
            rcases (h2 a).1 ha with ha | ⟨e, _⟩
            · exact h3' a ha
            · rw [hd] at e; cases e
          · simp at hb; subst hb
            rw [List.mem_append] at ha
            rcases ha with ha | ha
            · rcases (h2 a).1 ha with ha | ⟨e, _⟩
              · exact hpa a ha
              · rw [hd] at e; cases e
            · simp at ha; subst ha; exact hxy
        · simp only [List.mem_append, h2 z, ht z, hd, List.mem_singleton]
          simp only [Bool.false_eq_true, false_and, or_false, true_and]
          constructor
          · rintro ((a | a) | a)
            · exact Or.inl (Or.inl a)
            · exact Or.inr a
            · exact Or.inl (Or.inr a)
          · rintro ((a | a) | a)
            · exact Or.inl (Or.inl a)
            · exact Or.inr a
            · exact Or.inl (Or.inr a)
      | false =>
        have hnxy : ¬ ltL x y := fun e => by have := (cmpL_lt x y).2 e; simp at hl; omega
        have hyx : ltL y x := Classical.byContradiction fun hn => hx (ltL_tri hnxy hn ▸ hyr)
        rw [insK_not hy hd hl]
        refine ⟨?_, fun z => ?_, fun _ z hz => ?_, fun e => by simp at e⟩
        · rw [List.pairwise_append]
          refine ⟨h1, by simp, fun a ha b hb => ?_⟩
          simp at hb
          subst hb
          rcases (h2 a).1 ha with ha | ⟨e, _⟩
          · exact hpa a ha
          · rw [hd] at e; cases e
        · simp only [List.mem_append, h2 z, ht z, hd, List.mem_singleton]
          simp
        · rcases (ht z).1 hz with hz | rfl
          · exact h3' z hz
          · exact hyx
/-- A label laid into a list. -/
def ins (x : Lb) (rs : List Lb) : List Lb := if (insK x rs rs.length).2 then (insK x rs rs.length).1 else (insK x rs rs.length).1 ++ [x]
theorem ins_asc {x : Lb} {rs : List Lb} (h : rs.Pairwise ltL) (hx : x ∉ rs) : (ins x rs).Pairwise ltL ∧ ∀ z, z ∈ ins x rs ↔ z ∈ rs ∨ z = x := by
  obtain ⟨h1, h2, h3, h4⟩ := insK_asc h hx rs.length (Nat.le_refl _)
  rw [List.take_of_length_le (Nat.le_refl _)] at h2 h3
  unfold ins
  cases hd : (insK x rs rs.length).2 with
  | true =>
    rw [if_pos rfl]
    refine ⟨h1, fun z => ?_⟩
    rw [h2 z, hd]; simp
  | false =>
    rw [if_neg (by simp)]
    refine ⟨?_, fun z => ?_⟩
    · rw [List.pairwise_append]
      refine ⟨h1, by simp, fun a ha b hb => ?_⟩
      simp at hb
      subst hb
      rcases (h2 a).1 ha with ha | ⟨e, _⟩
      · exact h3 hd a ha
      · rw [hd] at e; cases e
    · rw [List.mem_append, h2 z, hd]; simp
/-- A new block of one label. -/
theorem _root_.Go.Proofs.Ytooeemhlpmiceaa.LR.one (w : World) (x : Lb) : LR (w.alloc (.cells #[.int .u64 (x.1 : Nat), .int .i64 x.2.1, .int .u64 (x.2.2.1 : Nat), .int .i64 x.2.2.2] 34)) (some ⟨w.heap.size, 0, none⟩) 1 [x] := by
  refine ⟨rfl, by omega, fun _ => ⟨w.heap.size, 0, rfl, fun j y hj => ?_⟩⟩
  obtain rfl : j = 0 := by have := (List.getElem?_eq_some_iff.1 hj).1; simp at this; omega
  simp at hj
  subst hj
  exact ⟨cell_box w _ 34 0 _ rfl, cell_box w _ 34 1 _ rfl, cell_box w _ 34 2 _ rfl, cell_box w _ 34 3 _ rfl⟩
end Go.Proofs.Ytooeemhlpmiceaa.Q
