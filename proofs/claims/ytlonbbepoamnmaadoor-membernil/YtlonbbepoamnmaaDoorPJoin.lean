/-
  Joined states in plain data.
-/
import Derived.Test.YtlonbbepoamnmaaDoorSAgain
namespace Go.Proofs.YtlonbbepoamnmaaDoor
set_option linter.unusedVariables false

/-- A state: its view's number, its floor, what its items say. -/
abbrev Sd := Nat × Int × Int × List Di
def keyS (d : Sd) : Sx := (d.1, d.2.1, d.2.2.1, none, d.2.2.2.length, 0)
def joinOf (tl : List Tg) : List Tg := (tl.filter (fun t => bestK tl t tl.length)).foldl (fun r x => ins x r) []
theorem fold_ins : ∀ (L r : List Tg), r.Pairwise ltV → L.Pairwise (fun a b => ¬ sameV b a) → (∀ x ∈ L, ∀ y ∈ r, ¬ sameV x y) →
    (L.foldl (fun r x => ins x r) r).Pairwise ltV ∧ ∀ z, z ∈ L.foldl (fun r x => ins x r) r ↔ z ∈ r ∨ z ∈ L
  | [], r, hr, _, _ => ⟨hr, fun z => by simp⟩
  | x :: L, r, hr, hL, hx => by
    obtain ⟨h1, h2⟩ := List.pairwise_cons.1 hL
    obtain ⟨i1, i2⟩ := ins_asc hr (hx x (List.mem_cons_self))
    obtain ⟨j1, j2⟩ := fold_ins L (ins x r) i1 h2 (fun y hy z hz => by
      rcases (i2 z).1 hz with hz | rfl
      · exact hx y (List.mem_cons_of_mem _ hy) z hz
      · exact h1 y hy)
    refine ⟨j1, fun z => ?_⟩
    rw [List.foldl_cons, j2 z, i2 z, List.mem_cons]
    constructor
    · rintro ((h | h) | h)
      · exact .inl h
      · exact .inr (.inl h)
      · exact .inr (.inr h)
    · rintro (h | h | h)
      · exact .inl (.inl h)
      · exact .inl (.inr h)
      · exact .inr h
theorem joinOf_is (ss : List Sx) : IsJoin (tagl ss) (joinOf (tagl ss)) := by
  have hb : ∀ t, bestK (tagl ss) t (tagl ss).length = true ↔ Best (tagl ss) t := fun t => bestK_all (Nat.le_refl _)
  obtain ⟨h1, h2⟩ := fold_ins ((tagl ss).filter (fun t => bestK (tagl ss) t (tagl ss).length)) [] List.Pairwise.nil (by
    refine List.Pairwise.imp_of_mem ?_ (List.Pairwise.sublist List.filter_sublist (tagl_tags ss))
    intro a b ha hb' hlt
    obtain ⟨a1, a2⟩ := List.mem_filter.1 ha
    obtain ⟨b1, b2⟩ := List.mem_filter.1 hb'
    exact best_one b1 a1 ((hb b).1 b2) ((hb a).1 a2) (by omega)) (by simp)
  refine ⟨h1, fun t => ?_⟩
  unfold joinOf
  rw [h2 t, List.mem_filter, hb t]
  simp
def zeroS : Sd := (0, 0, 0, [])
/-- Of each view the state that has the most. -/
def joinD (ds : List Sd) : List Sd := (joinOf (tagl (ds.map keyS))).map (fun t => ds.getD t.2 zeroS)

/-- The same things where they lie elsewhere. -/
theorem isJoin_map {tl J : List Tg} (φ : Tg → Tg) (hφ : ∀ t ∈ tl, (φ t).1.1 = t.1.1 ∧ (φ t).1.2.1 = t.1.2.1 ∧ endS (φ t).1 = endS t.1 ∧ (φ t).2 = t.2) (h : IsJoin tl J) : IsJoin (tl.map φ) (J.map φ) := by
  have hJ : ∀ t ∈ J, t ∈ tl := fun t ht => ((h.2 t).1 ht).1
  have hB : ∀ t ∈ tl, (Best (tl.map φ) (φ t) ↔ Best tl t) := fun t ht => by
    obtain ⟨a, b, c, d⟩ := hφ t ht
    unfold Best
    rw [a]
    constructor
    · rintro ⟨h0, h1⟩
      refine ⟨h0, fun u hu hs hl => ?_⟩
      obtain ⟨a', b', c', d'⟩ := hφ u hu
      refine h1 (φ u) (List.mem_map.2 ⟨u, hu, rfl⟩) ?_ ?_
      · unfold sameV at hs ⊢; omega
      · unfold ltT ltK at hl ⊢; omega
    · rintro ⟨h0, h1⟩
      refine ⟨h0, fun u hu hs hl => ?_⟩
      obtain ⟨v, hv, rfl⟩ := List.mem_map.1 hu
      obtain ⟨a', b', c', d'⟩ := hφ v hv
      refine h1 v hv ?_ ?_
      · unfold sameV at hs ⊢; omega
      · unfold ltT ltK at hl ⊢; omega
  refine ⟨?_, fun t => ?_⟩
  · rw [List.pairwise_map]
    refine List.Pairwise.imp_of_mem ?_ h.1
    intro x y hx hy hl
    obtain ⟨a, b, _, _⟩ := hφ x (hJ x hx)
    obtain ⟨a', b', _, _⟩ := hφ y (hJ y hy)
    unfold ltV at hl ⊢
    omega
  · rw [List.mem_map, List.mem_map]
    constructor
    · rintro ⟨u, hu, rfl⟩
      obtain ⟨h1, h2⟩ := (h.2 u).1 hu
      exact ⟨⟨u, h1, rfl⟩, (hB u h1).2 h2⟩
    · rintro ⟨⟨u, hu, rfl⟩, hb⟩
      exact ⟨u, (h.2 u).2 ⟨hu, (hB u hu).1 hb⟩, rfl⟩

/-- States in memory and what they say. -/
def Says (ss : List Sx) (ds : List Sd) : Prop := ss.length = ds.length ∧ ∀ (j : Nat) (x : Sx) (d : Sd), ss[j]? = some x → ds[j]? = some d → x.1 = d.1 ∧ x.2.1 = d.2.1 ∧ x.2.2.1 = d.2.2.1 ∧ x.2.2.2.2.1 = d.2.2.2.length
theorem tagl_says {ss : List Sx} {ds : List Sd} (h : Says ss ds) : tagl (ds.map keyS) = (tagl ss).map (fun t => (keyS (ds.getD t.2 zeroS), t.2)) := by
  apply List.ext_getElem?
  intro j
  rw [List.getElem?_map]
  by_cases hj : j < ds.length
  · have e1 : (ds.map keyS)[j]? = some (keyS ds[j]) := by rw [List.getElem?_map, List.getElem?_eq_getElem hj]; rfl
    have e2 : ss[j]? = some (ss[j]'(by rw [h.1]; exact hj)) := List.getElem?_eq_getElem _
    rw [tagl_get e1, tagl_get e2]
    simp [List.getD, List.getElem?_eq_getElem hj]
  · have e1 : (tagl (ds.map keyS))[j]? = none := List.getElem?_eq_none (by rw [tagl_len, List.length_map]; omega)
    have e2 : (tagl ss)[j]? = none := List.getElem?_eq_none (by rw [tagl_len, h.1]; omega)
    rw [e1, e2]; rfl
theorem says_phi {ss : List Sx} {ds : List Sd} (h : Says ss ds) : ∀ t ∈ tagl ss, (keyS (ds.getD t.2 zeroS)).1 = t.1.1 ∧ (keyS (ds.getD t.2 zeroS)).2.1 = t.1.2.1 ∧ endS (keyS (ds.getD t.2 zeroS)) = endS t.1 ∧ t.2 = t.2 := fun t ht => by
  have hm := tagl_mem ht
  have hl := (List.getElem?_eq_some_iff.1 hm).1
  have hd : ds[t.2]? = some (ds.getD t.2 zeroS) := by rw [List.getD, List.getElem?_eq_getElem (by rw [← h.1]; exact hl)]; rfl
  obtain ⟨a, b, c, d⟩ := h.2 t.2 _ _ hm hd
  refine ⟨a.symm, b.symm, ?_, rfl⟩
  unfold endS keyS
  simp only
  rw [c, d]
theorem join_says {ss : List Sx} {ds : List Sd} {J : List Tg} (h : Says ss ds) (hJ : IsJoin (tagl ss) J) : J.map (fun t => ds.getD t.2 zeroS) = joinD ds := by
  have hm := isJoin_map (fun t => (keyS (ds.getD t.2 zeroS), t.2)) (says_phi h) hJ
  rw [← tagl_says h] at hm
  have he := hm.unique (joinOf_is (ds.map keyS))
  unfold joinD
  rw [← he, List.map_map]
  rfl
theorem joinD_keys (ds : List Sd) : (joinD ds).map keyS = (joinOf (tagl (ds.map keyS))).map (·.1) := by
  unfold joinD
  rw [List.map_map]
  apply List.map_congr_left
  intro t ht
  have hm := tagl_mem (((joinOf_is (ds.map keyS)).2 t).1 ht).1
  rw [List.getElem?_map] at hm
  obtain ⟨d, hd, he⟩ := Option.map_eq_some_iff.1 hm
  show keyS (ds.getD t.2 zeroS) = t.1
  rw [List.getD, hd]
  exact he
theorem joinD_again (ds : List Sd) : joinD (joinD ds) = joinD ds := by
  have hT : Twin ((joinOf (tagl (ds.map keyS))).map (·.1)) ((joinD ds).map keyS) := by
    rw [joinD_keys]
    exact ⟨rfl, fun j x y hx hy => by rw [hx] at hy; cases hy; exact ⟨rfl, rfl, rfl, rfl⟩⟩
  have ha := again (xs := []) (joinOf_is (ds.map keyS)) hT (by simp)
  rw [List.append_nil] at ha
  have he := (joinOf_is ((joinD ds).map keyS)).unique ha
  generalize joinD ds = rs at *
  unfold joinD
  rw [he]
  apply List.ext_getElem?
  intro j
  rw [List.getElem?_map]
  by_cases hj : j < rs.length
  · have e1 : (rs.map keyS)[j]? = some (keyS rs[j]) := by rw [List.getElem?_map, List.getElem?_eq_getElem hj]; rfl
    rw [tagl_get e1, List.getElem?_eq_getElem hj]
    simp [List.getD, List.getElem?_eq_getElem hj]
  · rw [List.getElem?_eq_none (by rw [tagl_len, List.length_map]; omega), List.getElem?_eq_none (by omega)]; rfl
theorem joinD_len (ds : List Sd) : (joinD ds).length ≤ ds.length := by
  unfold joinD
  rw [List.length_map]
  have h := joinOf_is (ds.map keyS)
  have := nodup_len (ascV_nodup h.1) (fun x hx => ((h.2 x).1 hx).1)
  rw [tagl_len, List.length_map] at this
  exact this
end Go.Proofs.YtlonbbepoamnmaaDoor
