/-
  What is sorted, the first of each label, is what the document merges.
-/
import Derived.Test.YtlaihgdfedalmaaGreatTAll
namespace Go.Proofs.YtlaihgdfedalmaaGreat
open Go.RowKit
set_option linter.unusedVariables false
set_option linter.unusedSimpArgs false

theorem findE_some_iff {l : List En} {x : Lb} : (findE l x).isSome = true ↔ ∃ e ∈ l, e.1 = x := by
  unfold findE
  rw [Option.isSome_map, List.find?_isSome]
  simp
theorem mstep_mem (l : List En) (e z : En) : z ∈ mstep l e ↔ z ∈ l ∨ (z = e ∧ ∀ y ∈ l, y.1 ≠ e.1) := by
  unfold mstep
  split
  · rename_i h
    obtain ⟨y, hy, he⟩ := findE_some_iff.1 h
    constructor
    · exact .inl
    · rintro (h | ⟨_, h⟩)
      · exact h
      · exact absurd he (h y hy)
  · rename_i h
    rw [insR_mem]
    have hn : ∀ y ∈ l, y.1 ≠ e.1 := fun y hy hh => h (findE_some_iff.2 ⟨y, hy, hh⟩)
    constructor
    · rintro (h | h)
      · exact .inr ⟨h, hn⟩
      · exact .inl h
    · rintro (h | ⟨h, _⟩)
      · exact .inr h
      · exact .inl h
/-- Of each label the first one. -/
def Fst (es : List En) (z : En) : Prop := ∃ i : Nat, es[i]? = some z ∧ ∀ (j : Nat) (y : En), j < i → es[j]? = some y → y.1 ≠ z.1
theorem mergeE_snoc (l more : List En) (e : En) : mergeE l (more ++ [e]) = mstep (mergeE l more) e := by unfold mergeE; simp
theorem mergeE_lab : ∀ (k : Nat) (es : List En), es.length = k → ∀ x, (∃ z ∈ mergeE [] es, z.1 = x) ↔ ∃ z ∈ es, z.1 = x
  | 0, es, hk, x => by
    obtain rfl : es = [] := List.eq_nil_of_length_eq_zero hk
    simp [mergeE]
  | k + 1, es, hk, x => by
    obtain ⟨es', e, rfl⟩ : ∃ es' e, es = es' ++ [e] := ⟨es.dropLast, es.getLast (by intro h; subst h; simp at hk), (List.dropLast_concat_getLast _).symm⟩
    have hl : es'.length = k := by simpa using hk
    have ih := mergeE_lab k es' hl
    rw [mergeE_snoc]
    constructor
    · rintro ⟨z, hz, hx⟩
      rcases (mstep_mem _ e z).1 hz with h | ⟨rfl, _⟩
      · obtain ⟨y, hy, hyx⟩ := (ih x).1 ⟨z, h, hx⟩
        exact ⟨y, by simp [hy], hyx⟩
      · exact ⟨z, by simp, hx⟩
    · rintro ⟨z, hz, hx⟩
      rw [List.mem_append, List.mem_singleton] at hz
      rcases hz with hz | rfl
      · obtain ⟨y, hy, hyx⟩ := (ih x).2 ⟨z, hz, hx⟩
        exact ⟨y, (mstep_mem _ e y).2 (.inl hy), hyx⟩
      · by_cases h : ∃ y ∈ mergeE [] es', y.1 = z.1
        · obtain ⟨y, hy, hyz⟩ := h
          exact ⟨y, (mstep_mem _ z y).2 (.inl hy), hyz.trans hx⟩
        · exact ⟨z, (mstep_mem _ z z).2 (.inr ⟨rfl, fun y hy hh => h ⟨y, hy, hh⟩⟩), hx⟩
theorem mergeE_fst : ∀ (k : Nat) (es : List En), es.length = k → ∀ z, z ∈ mergeE [] es ↔ Fst es z
  | 0, es, hk, z => by
    obtain rfl : es = [] := List.eq_nil_of_length_eq_zero hk
    simp [mergeE, Fst]
  | k + 1, es, hk, z => by
    obtain ⟨es', e, rfl⟩ : ∃ es' e, es = es' ++ [e] := ⟨es.dropLast, es.getLast (by intro h; subst h; simp at hk), (List.dropLast_concat_getLast _).symm⟩
    have hl : es'.length = k := by simpa using hk
    have ih := mergeE_fst k es' hl
    rw [mergeE_snoc, mstep_mem, ih z]
    constructor
    · rintro (⟨i, hi, hf⟩ | ⟨rfl, hn⟩)
      · have hil := (List.getElem?_eq_some_iff.1 hi).1
        refine ⟨i, by rw [List.getElem?_append_left hil]; exact hi, fun j y hj hy => hf j y hj ?_⟩
        rw [List.getElem?_append_left (by omega)] at hy
        exact hy
      · refine ⟨es'.length, by simp, fun j y hj hy hyz => ?_⟩
        rw [List.getElem?_append_left hj] at hy
        obtain ⟨y', hy', e'⟩ := (mergeE_lab k es' hl z.1).2 ⟨y, List.mem_of_getElem? hy, hyz⟩
        exact hn y' hy' e'
    · rintro ⟨i, hi, hf⟩
      by_cases hil : i < es'.length
      · refine .inl ⟨i, by rw [List.getElem?_append_left hil] at hi; exact hi, fun j y hj hy => hf j y hj ?_⟩
        rw [List.getElem?_append_left (by omega)]
        exact hy
      · have hie : i = es'.length := by
          have := (List.getElem?_eq_some_iff.1 hi).1
          simp at this
          omega
        subst hie
        simp at hi
        subst hi
        refine .inr ⟨rfl, fun y hy hyz => ?_⟩
        obtain ⟨y', hy', e'⟩ := (mergeE_lab k es' hl e.1).1 ⟨y, hy, hyz⟩
        obtain ⟨j, hj, hje⟩ := List.getElem_of_mem hy'
        exact hf j y' hj (by rw [List.getElem?_append_left hj, ← hje]; exact List.getElem?_eq_getElem hj) e'
theorem asc_ext : ∀ {a b : List En}, Asc a → Asc b → (∀ z, z ∈ a ↔ z ∈ b) → a = b
  | [], [], _, _, _ => rfl
  | [], y :: r, _, _, h => by have := (h y).2 (by simp); simp at this
  | x :: r, [], _, _, h => by have := (h x).1 (by simp); simp at this
  | x :: r, y :: s, ha, hb, h => by
    have ha' := List.pairwise_cons.1 ha
    have hb' := List.pairwise_cons.1 hb
    have e : x = y := by
      have h1 := (h x).1 (by simp)
      have h2 := (h y).2 (by simp)
      rw [List.mem_cons] at h1 h2
      rcases h1 with h1 | h1
      · exact h1
      · rcases h2 with h2 | h2
        · exact h2.symm
        · exact absurd (ltL_trans (hb'.1 x h1) (ha'.1 y h2)) (ltL_irr _)
    subst e
    congr 1
    refine asc_ext ha'.2 hb'.2 (fun z => ⟨fun hz => ?_, fun hz => ?_⟩)
    · have := (h z).1 (by simp [hz])
      rw [List.mem_cons] at this
      rcases this with rfl | h
      · exact absurd (ha'.1 z hz) (ltL_irr _)
      · exact h
    · have := (h z).2 (by simp [hz])
      rw [List.mem_cons] at this
      rcases this with rfl | h
      · exact absurd (hb'.1 z hz) (ltL_irr _)
      · exact h
/-- Is the k-th the first of its label? -/
def abvE (m : List En) (k : Nat) : Bool := decide (k = 0) || decide (0 < cmpL ((m[k]?.map (·.1)).getD (0, 0, 0, 0)) ((m[k - 1]?.map (·.1)).getD (0, 0, 0, 0)))
def keptE (m : List En) (k : Nat) : List En := ((List.range k).filter (abvE m)).filterMap (fun i => m[i]?)
theorem keptE_succ (m : List En) (k : Nat) (e : En) (h : m[k]? = some e) : keptE m (k + 1) = if abvE m k then keptE m k ++ [e] else keptE m k := by
  unfold keptE
  rw [List.range_succ, List.filter_append]
  cases hb : abvE m k <;> simp [hb, h]
theorem keptE_mem (m : List En) (k : Nat) (z : En) : z ∈ keptE m k ↔ ∃ i, i < k ∧ abvE m i = true ∧ m[i]? = some z := by
  unfold keptE
  simp only [List.mem_filterMap, List.mem_filter, List.mem_range]
  constructor
  · rintro ⟨i, ⟨h1, h2⟩, h3⟩
    exact ⟨i, h1, h2, h3⟩
  · rintro ⟨i, h1, h2, h3⟩
    exact ⟨i, ⟨h1, h2⟩, h3⟩
/-- Entries that bear where they stood, in the order of the sort. -/
def Ord (m : List (En × Nat)) : Prop := m.Pairwise (fun a b => ltL a.1.1 b.1.1 ∨ (¬ ltL b.1.1 a.1.1 ∧ a.2 < b.2))
theorem abvE_at {m : List En} {i : Nat} {x y : En} (hi : m[i + 1]? = some x) (hy : m[i]? = some y) : abvE m (i + 1) = true ↔ ltL y.1 x.1 := by
  unfold abvE
  simp only [Nat.add_one_ne_zero, decide_false, Bool.false_or, Nat.add_sub_cancel, hi, hy, Option.map_some, Option.getD_some]
  rw [decide_eq_true_iff]
  have h1 := cmpL_lt y.1 x.1
  have h2 : cmpL x.1 y.1 > 0 ↔ cmpL y.1 x.1 < 0 := by
    unfold cmpL cmpV sgn
    repeat' split
    all_goals omega
  rw [← h1, ← h2]
theorem kept_is {es : List En} {m : List (En × Nat)} (ho : Ord m) (hm : ∀ x, x ∈ m ↔ es[x.2]? = some x.1) : keptE (m.map (·.1)) m.length = mergeE [] es := by
  have hp := List.pairwise_iff_getElem.1 ho
  have get : ∀ i (h : i < m.length), (m.map (·.1))[i]? = some (m[i]).1 := fun i h => by rw [List.getElem?_map, List.getElem?_eq_getElem h]; rfl
  refine asc_ext ?_ (mergeE_asc es [] (by unfold Asc; simp)) (fun z => ?_)
  · -- it rises
    have key : ∀ k, k ≤ m.length → Asc (keptE (m.map (·.1)) k) := fun k => by
      induction k with
      | zero => intro _; unfold keptE Asc; simp
      | succ k ih =>
        intro hk
        rw [keptE_succ _ k _ (get k (by omega))]
        split
        · rename_i hab
          refine List.pairwise_append.2 ⟨ih (by omega), by simp, fun a ha b hb => ?_⟩
          rw [List.mem_singleton] at hb
          subst hb
          obtain ⟨i, hik, _, hi⟩ := (keptE_mem _ k a).1 ha
          rw [get i (by omega)] at hi
          simp only [Option.some.injEq] at hi
          subst hi
          obtain ⟨k', rfl⟩ : ∃ k', k = k' + 1 := ⟨k - 1, by omega⟩
          have h1 := (abvE_at (get (k' + 1) (by omega)) (get k' (by omega))).1 hab
          by_cases e : i = k'
          · subst e; exact h1
          · have h2 := hp i k' (by omega) (by omega) (by omega)
            rcases h2 with h2 | ⟨h2, _⟩
            · exact ltL_trans h2 h1
            · by_cases h3 : (m[i]).1.1 = (m[k']).1.1
              · rw [h3]; exact h1
              · exact ltL_trans (ltL_tri h2 h3) h1
        · exact ih (by omega)
    exact key _ (Nat.le_refl _)
  · rw [mergeE_fst es.length es rfl z, keptE_mem]
    constructor
    · rintro ⟨i, hi, hab, hz⟩
      rw [get i hi] at hz
      simp only [Option.some.injEq] at hz
      have hin := (hm (m[i])).1 (List.getElem_mem hi)
      rw [hz] at hin
      refine ⟨(m[i]).2, hin, fun j y hj hy hyz => ?_⟩
      obtain ⟨i', hi', he⟩ := List.getElem_of_mem ((hm (y, j)).2 hy)
      have hlt : i' < i := by
        rcases Nat.lt_trichotomy i' i with h | h | h
        · exact h
        · subst h
          rw [he] at hj
          exact absurd hj (Nat.lt_irrefl _)
        · have := hp i i' hi hi' h
          rw [he, hz] at this
          simp only at this
          rcases this with h | ⟨_, h⟩
          · rw [hyz] at h; exact absurd h (ltL_irr _)
          · omega
      obtain ⟨k', rfl⟩ : ∃ k', i = k' + 1 := ⟨i - 1, by omega⟩
      have h1 := (abvE_at (get (k' + 1) hi) (get k' (by omega))).1 hab
      rw [hz] at h1
      by_cases e : i' = k'
      · subst e
        rw [he] at h1
        simp only at h1
        rw [hyz] at h1
        exact ltL_irr _ h1
      · have h2 := hp i' k' hi' (by omega) (by omega)
        rw [he] at h2
        simp only at h2
        rw [hyz] at h2
        rcases h2 with h2 | ⟨h2, _⟩
        · exact ltL_irr _ (ltL_trans h2 h1)
        · exact h2 h1
    · rintro ⟨i, hi, hf⟩
      obtain ⟨k, hk, he⟩ := List.getElem_of_mem ((hm (z, i)).2 hi)
      refine ⟨k, hk, ?_, by rw [get k hk, he]⟩
      by_cases hk0 : k = 0
      · subst hk0; simp [abvE]
      · obtain ⟨k', rfl⟩ : ∃ k', k = k' + 1 := ⟨k - 1, by omega⟩
        refine (abvE_at (get (k' + 1) hk) (get k' (by omega))).2 ?_
        have h2 := hp k' (k' + 1) (by omega) hk (by omega)
        rw [he] at h2
        simp only at h2
        rw [he]
        simp only
        rcases h2 with h2 | ⟨h2, h3⟩
        · exact h2
        · by_cases hq : (m[k']).1.1 = z.1
          · exact absurd hq (hf _ _ h3 ((hm _).1 (List.getElem_mem _)))
          · exact ltL_tri h2 hq
end Go.Proofs.YtlaihgdfedalmaaGreat
