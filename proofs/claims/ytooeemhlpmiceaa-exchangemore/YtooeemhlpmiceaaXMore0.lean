/-
  One more node that told, with no primary view and below all others: nothing is chosen otherwise.
-/
import Derived.Test.YtooeemhlpmiceaaXOne
namespace Go.Proofs.Ytooeemhlpmiceaa
open Go.RowKit
set_option linter.unusedVariables false
set_option linter.unusedSimpArgs false

theorem high_nn : ∀ (ts : List Pt) (v : Nat × Int), gtV (0, 0) v = false → gtV (0, 0) (ts.foldl highF v) = false
  | [], v, h => h
  | t :: r, v, h => by
    refine high_nn r (highF v t) ?_
    unfold highF
    split
    · rename_i hg
      have h1 := (gt_iff _ _).1 hg
      have h2 := gt_no h
      refine gt_of (fun h3 => ?_)
      simp only at h1 h2 h3
      omega
    · exact h
theorem high_more (ts : List Pt) (z : Pt) (hz : z.hn = 0 ∧ z.hp = 0) : highT (ts ++ [z]) = highT ts := by
  unfold highT
  rw [List.foldl_append]
  show highF (ts.foldl highF (0, 0)) z = _
  have := high_nn ts (0, 0) (by decide)
  generalize ts.foldl highF (0, 0) = V at *
  unfold highF
  rw [hz.1, hz.2, if_neg]
  simp [this]
theorem ch_more (ts : List Pt) (z : Pt) (hz : z.hn = 0 ∧ z.hp = 0) (hn : z.node = 0) (hc : 0 ≤ chT ts) : chT (ts ++ [z]) = chT ts := by
  unfold chT
  rw [high_more ts z hz, List.foldl_append]
  show chF (highT ts) (ts.foldl (chF (highT ts)) (-1)) z = _
  unfold chT at hc
  generalize ts.foldl (chF (highT ts)) (-1) = V at *
  unfold chF
  split
  · rw [hn, if_neg (by omega)]
  · rfl
theorem short_more (ts : List Pt) (z : Pt) (hz : z.hn = 0 ∧ z.hp = 0) (hn : z.node = 0) (hc : 0 ≤ chT ts) : shortT (ts ++ [z]) = shortT ts := by
  have hex : ∃ t ∈ ts, t.node = chT ts := by
    rcases ch_has (highT ts) ts (-1) with h1 | h1
    · unfold chT at hc
      omega
    · exact h1
  obtain ⟨t, ht, hnt⟩ := hex
  unfold shortT
  rw [ch_more ts z hz hn hc, if_neg (by omega), if_neg (by omega)]
  unfold atT
  rw [List.find?_append]
  cases hf : ts.find? (fun t => decide (t.node = chT ts)) with
  | none =>
    rw [List.find?_eq_none] at hf
    exact absurd hnt (by have := hf t ht; simpa using this)
  | some x => rfl
theorem known_more (ts : List Pt) (z : Pt) (e : En) (he : e ∈ z.es) : e.1 ∈ fullT (ts ++ [z]) := by
  have hm : e ∈ allT (ts ++ [z]) := by
    unfold allT
    simp only [List.flatMap_append, List.mem_append, List.flatMap_cons, List.flatMap_nil, List.append_nil]
    exact .inr he
  have key : ∀ (more l : List En) (x : En), (x ∈ more ∨ x ∈ l) → ∃ y ∈ mergeE l more, y.1 = x.1 := fun more => by
    induction more with
    | nil => intro l x h; rcases h with h | h; simp at h; exact ⟨x, h, rfl⟩
    | cons a r ih =>
      intro l x h
      have step : ∀ x, (x = a ∨ x ∈ l) → ∃ y ∈ mstep l a, y.1 = x.1 := fun x hx => by
        unfold mstep
        split
        · rename_i hs
          rcases hx with rfl | hx
          · cases hf : l.find? (fun e => decide (e.1 = x.1)) with
            | none => unfold findE at hs; rw [hf] at hs; simp at hs
            | some y => exact ⟨y, List.mem_of_find?_eq_some hf, by have := List.find?_some hf; simpa using this⟩
          · exact ⟨x, hx, rfl⟩
        · rcases hx with rfl | hx
          · exact ⟨x, (insR_mem _ _ _).2 (.inl rfl), rfl⟩
          · exact ⟨x, (insR_mem _ _ _).2 (.inr hx), rfl⟩
      show ∃ y ∈ mergeE (mstep l a) r, y.1 = x.1
      rcases h with h | h
      · rcases List.mem_cons.1 h with rfl | h
        · obtain ⟨y, hy, e⟩ := step x (.inl rfl)
          obtain ⟨y2, hy2, e2⟩ := ih (mstep l x) y (.inr hy)
          exact ⟨y2, hy2, e2.trans e⟩
        · exact ih (mstep l a) x (.inl h)
      · obtain ⟨y, hy, e⟩ := step x (.inr h)
        obtain ⟨y2, hy2, e2⟩ := ih (mstep l a) y (.inr hy)
        exact ⟨y2, hy2, e2.trans e⟩
  obtain ⟨y, hy, e2⟩ := key (allT (ts ++ [z])) [] e (.inl hm)
  rw [← e2]
  unfold fullT
  rw [List.mem_append]
  by_cases hs : y.1 ∈ shortT (ts ++ [z])
  · exact .inl hs
  · exact .inr (List.mem_filter.2 ⟨List.mem_map.2 ⟨y, hy, rfl⟩, by simpa using hs⟩)
end Go.Proofs.Ytooeemhlpmiceaa
