/-
  States of one view among others: plain facts.
-/
import Derived.Test.YtbdbdpgnilhcpaaSAgain
namespace Go.Proofs.Ytbdbdpgnilhcpaa
open Go.RowKit Go.Sort
set_option linter.unusedVariables false
set_option linter.unusedSimpArgs false

abbrev Pr := Sx × List Di
def ofV (vn : Nat) (vp : Int) (q : Pr) : Bool := decide (q.1.1 = vn ∧ q.1.2.1 = vp)
theorem filter_at {α : Type} {p : α → Bool} : ∀ {A : List α} {i : Nat} {q : α}, A[i]? = some q → p q = true → (A.filter p)[(A.take i).countP p]? = some q
  | [], i, q, h, _ => by simp at h
  | a :: r, 0, q, h, hp => by
    simp at h; subst h
    simp [List.filter_cons, hp]
  | a :: r, i + 1, q, h, hp => by
    have ih := filter_at (A := r) (i := i) (by simpa using h) hp
    by_cases ha : p a = true
    · simp [List.filter_cons, ha]
      exact ih
    · simp [List.filter_cons, ha]
      exact ih
theorem filter_from {α : Type} {p : α → Bool} : ∀ {A : List α} {j : Nat} {q : α}, (A.filter p)[j]? = some q → ∃ i, A[i]? = some q ∧ p q = true ∧ (A.take i).countP p = j
  | [], j, q, h => by simp at h
  | a :: r, j, q, h => by
    by_cases ha : p a = true
    · rw [List.filter_cons, if_pos ha] at h
      cases j with
      | zero => simp at h; subst h; exact ⟨0, rfl, ha, rfl⟩
      | succ j =>
        obtain ⟨i, h1, h2, h3⟩ := filter_from (A := r) (j := j) (by simpa using h)
        exact ⟨i + 1, by simpa using h1, h2, by simp [ha, h3]⟩
    · rw [List.filter_cons, if_neg ha] at h
      obtain ⟨i, h1, h2, h3⟩ := filter_from (A := r) h
      exact ⟨i + 1, by simpa using h1, h2, by simp [ha, h3]⟩
theorem count_lt {α : Type} {p : α → Bool} {A : List α} {i j : Nat} {q : α} (h : A[i]? = some q) (hp : p q = true) (hij : i < j) : (A.take i).countP p < (A.take j).countP p := by
  have hs : (A.take (i + 1)).countP p = (A.take i).countP p + 1 := by rw [List.take_add_one, h]; simp [hp]
  have hle : (A.take (i + 1)).countP p ≤ (A.take j).countP p := by
    have : A.take (i + 1) = (A.take j).take (i + 1) := by rw [List.take_take]; congr 1; omega
    rw [this]
    exact List.Sublist.countP_le (List.take_sublist _ _)
  omega

/-- Of states of which those of v are P's, in their order: the one of v that has the most is P's. -/
structure Apart (vn : Nat) (vp : Int) (P A : List Pr) : Prop where
  fil : A.filter (ofV vn vp) = P
  nz : vn ≠ 0
theorem Apart.all {vn : Nat} {vp : Int} {P A : List Pr} (h : Apart vn vp P A) : ∀ q ∈ P, q.1.1 = vn ∧ q.1.2.1 = vp := fun q hq => by
  rw [← h.fil] at hq
  have := (List.mem_filter.1 hq).2
  simpa [ofV] using this
theorem tag_pair {A : List Pr} {t : Tg} (h : t ∈ tagl (A.map (·.1))) : ∃ e, A[t.2]? = some (t.1, e) := by
  have := tagl_mem h
  rw [List.getElem?_map] at this
  obtain ⟨q, hq, e⟩ := Option.map_eq_some_iff.1 this
  exact ⟨q.2, by rw [hq, ← e]⟩
theorem pair_tag {A : List Pr} {i : Nat} {q : Pr} (h : A[i]? = some q) : ((q.1, i) : Tg) ∈ tagl (A.map (·.1)) :=
  List.mem_of_getElem? (tagl_get (by rw [List.getElem?_map, h]; rfl))
/-- From all to P. -/
theorem Apart.down {vn : Nat} {vp : Int} {P A : List Pr} (h : Apart vn vp P A) {t : Tg} (ht : t ∈ tagl (A.map (·.1))) (hv : t.1.1 = vn ∧ t.1.2.1 = vp) (hb : Best (tagl (A.map (·.1))) t) :
    ∃ u, u ∈ tagl (P.map (·.1)) ∧ Best (tagl (P.map (·.1))) u ∧ u.1 = t.1 ∧ (P.map (·.2)).getD u.2 [] = (A.map (·.2)).getD t.2 [] := by
  obtain ⟨e, he⟩ := tag_pair ht
  have hof : ofV vn vp (t.1, e) = true := by simpa [ofV] using hv
  have hp := filter_at he hof
  rw [h.fil] at hp
  refine ⟨(t.1, (A.take t.2).countP (ofV vn vp)), pair_tag hp, ⟨by show t.1.1 ≠ 0; rw [hv.1]; exact h.nz, fun u hu hs hl => ?_⟩, rfl, ?_⟩
  · obtain ⟨e', he'⟩ := tag_pair hu
    have h1 := he'
    rw [← h.fil] at h1
    obtain ⟨i, a1, a2, a3⟩ := filter_from h1
    have hu2 := hb.2 (u.1, i) (pair_tag a1) hs
    have hij : i < t.2 ↔ u.2 < (A.take t.2).countP (ofV vn vp) := by
      rw [← a3]
      constructor
      · intro hlt; exact count_lt a1 a2 hlt
      · intro hlt
        rcases Nat.lt_or_ge i t.2 with h | h
        · exact h
        · rcases Nat.lt_or_ge t.2 i with h' | h'
          · have := count_lt he hof h'; omega
          · have : i = t.2 := by omega
            subst this; omega
    apply hu2
    unfold ltT ltK at hl ⊢
    simp only at hl ⊢
    omega
  · simp only [List.getD_eq_getElem?_getD, List.getElem?_map, hp, he, Option.map_some, Option.getD_some]
/-- From P to all. -/
theorem Apart.up {vn : Nat} {vp : Int} {P A : List Pr} (h : Apart vn vp P A) {u : Tg} (hu : u ∈ tagl (P.map (·.1))) (hb : Best (tagl (P.map (·.1))) u) :
    ∃ t, t ∈ tagl (A.map (·.1)) ∧ (t.1.1 = vn ∧ t.1.2.1 = vp) ∧ Best (tagl (A.map (·.1))) t := by
  obtain ⟨e, he⟩ := tag_pair hu
  have h1 := he
  rw [← h.fil] at h1
  obtain ⟨i, a1, a2, a3⟩ := filter_from h1
  have hv : u.1.1 = vn ∧ u.1.2.1 = vp := by simpa [ofV] using a2
  refine ⟨(u.1, i), pair_tag a1, hv, by show u.1.1 ≠ 0; rw [hv.1]; exact h.nz, fun t ht hs hl => ?_⟩
  obtain ⟨e', he'⟩ := tag_pair ht
  have hof : ofV vn vp (t.1, e') = true := by
    have : t.1.1 = vn ∧ t.1.2.1 = vp := ⟨hs.1.trans hv.1, hs.2.trans hv.2⟩
    simpa [ofV] using this
  have hp := filter_at he' hof
  rw [h.fil] at hp
  have hu2 := hb.2 (t.1, (A.take t.2).countP (ofV vn vp)) (pair_tag hp) hs
  have hij : t.2 < i ↔ (A.take t.2).countP (ofV vn vp) < u.2 := by
    rw [← a3]
    constructor
    · intro hlt; exact count_lt he' hof hlt
    · intro hlt
      rcases Nat.lt_or_ge t.2 i with h | h
      · exact h
      · rcases Nat.lt_or_ge i t.2 with h' | h'
        · have := count_lt a1 a2 h'; omega
        · have : i = t.2 := by omega
          subst this; omega
  apply hu2
  unfold ltT ltK at hl ⊢
  simp only at hl ⊢
  omega
theorem one_of_same {J : List Tg} (hp : J.Pairwise ltV) (hs : ∀ a ∈ J, ∀ b ∈ J, sameV a b) : J.length ≤ 1 := by
  match J, hp, hs with
  | [], _, _ => simp
  | [a], _, _ => simp
  | a :: b :: r, hp, hs =>
    exact absurd (hs a (by simp) b (by simp)) (ltV_ne ((List.pairwise_cons.1 hp).1 b (by simp)))
theorem Apart.one {vn : Nat} {vp : Int} {P A : List Pr} (h : Apart vn vp P A) {J : List Tg} (hJ : IsJoin (tagl (P.map (·.1))) J) : J.length ≤ 1 := by
  refine one_of_same hJ.1 (fun a ha b hb => ?_)
  obtain ⟨e, he⟩ := tag_pair ((hJ.2 a).1 ha).1
  obtain ⟨e', he'⟩ := tag_pair ((hJ.2 b).1 hb).1
  have h1 := h.all _ (List.mem_of_getElem? he)
  have h2 := h.all _ (List.mem_of_getElem? he')
  exact ⟨h1.1.trans h2.1.symm, h1.2.trans h2.2.symm⟩
/-- Where all's answer has one of v, P's has it alone. -/
theorem Apart.hit {vn : Nat} {vp : Int} {P A : List Pr} (h : Apart vn vp P A) {J K : List Tg} (hJ : IsJoin (tagl (P.map (·.1))) J) (hK : IsJoin (tagl (A.map (·.1))) K) {t : Tg} (ht : t ∈ K) (hv : t.1.1 = vn ∧ t.1.2.1 = vp) :
    ∃ u, J = [u] ∧ u.1 = t.1 ∧ (P.map (·.2)).getD u.2 [] = (A.map (·.2)).getD t.2 [] := by
  obtain ⟨h1, h2⟩ := (hK.2 t).1 ht
  obtain ⟨u, a, b, c, d⟩ := h.down h1 hv h2
  have hu := (hJ.2 u).2 ⟨a, b⟩
  have hl := h.one hJ
  match J, hu, hl with
  | [x], hu, _ => simp at hu; subst hu; exact ⟨u, rfl, c, d⟩
/-- How many of v all's answer has. -/
theorem Apart.count {vn : Nat} {vp : Int} {P A : List Pr} (h : Apart vn vp P A) {J K : List Tg} (hJ : IsJoin (tagl (P.map (·.1))) J) (hK : IsJoin (tagl (A.map (·.1))) K) : K.countP (fun t => decide (t.1.1 = vn ∧ t.1.2.1 = vp)) = J.length := by
  have hle : K.countP (fun t => decide (t.1.1 = vn ∧ t.1.2.1 = vp)) ≤ 1 := by
    rw [List.countP_eq_length_filter]
    refine one_of_same (List.Pairwise.sublist List.filter_sublist hK.1) (fun a ha b hb => ?_)
    have h1 : a.1.1 = vn ∧ a.1.2.1 = vp := by simpa using (List.mem_filter.1 ha).2
    have h2 : b.1.1 = vn ∧ b.1.2.1 = vp := by simpa using (List.mem_filter.1 hb).2
    exact ⟨h1.1.trans h2.1.symm, h1.2.trans h2.2.symm⟩
  have hl := h.one hJ
  match J, hl, hJ with
  | [], _, hJ =>
    show List.countP _ K = 0
    rw [List.countP_eq_zero]
    intro t ht hv
    obtain ⟨u, e, _⟩ := h.hit hJ hK ht (by simpa using hv)
    cases e
  | [u], _, hJ =>
    obtain ⟨h1, h2⟩ := (hJ.2 u).1 (by simp)
    obtain ⟨t, a, b, c⟩ := h.up h1 h2
    have htK := (hK.2 t).2 ⟨a, c⟩
    have : 0 < K.countP (fun t => decide (t.1.1 = vn ∧ t.1.2.1 = vp)) := List.countP_pos_iff.2 ⟨t, htK, by simpa using b⟩
    show List.countP _ K = 1
    omega
end Go.Proofs.Ytbdbdpgnilhcpaa
