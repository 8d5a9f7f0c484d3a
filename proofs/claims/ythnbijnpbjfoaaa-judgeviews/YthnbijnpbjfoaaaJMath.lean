/-
  Plain data: of which lists all are beginnings, and whether each item of it is the next one that its node told.
-/
import Derived.Test.YthnbijnpbjfoaaaProg
namespace Go.Proofs.Ythnbijnpbjfoaaa
set_option linter.unusedVariables false

/-- What an item says: whom it is from, and its bytes. -/
abbrev Di := Int × List UInt8
abbrev By := List UInt8

def cnt (l : List Di) (f : Int) : Nat := l.countP (fun d => decide (d.1 = f))
theorem cnt_nil (f : Int) : cnt [] f = 0 := rfl
theorem cnt_snoc (l : List Di) (d : Di) (f : Int) : cnt (l ++ [d]) f = cnt l f + (if d.1 = f then 1 else 0) := by
  unfold cnt; rw [List.countP_append]; simp [List.countP_cons, List.countP_nil]
theorem take_snoc {α : Type} {l : List α} {k : Nat} {d : α} (h : l[k]? = some d) : l.take (k + 1) = l.take k ++ [d] := by
  rw [List.take_add_one, h]; rfl
theorem cnt_step {l : List Di} {k : Nat} {d : Di} (h : l[k]? = some d) (f : Int) : cnt (l.take (k + 1)) f = cnt (l.take k) f + (if d.1 = f then 1 else 0) := by
  rw [take_snoc h, cnt_snoc]
theorem cnt_le (l : List Di) (f : Int) (k : Nat) : cnt (l.take k) f ≤ k := Nat.le_trans List.countP_le_length (by simp; omega)

/-- The k-th item is the next one that its node told. -/
def Nxt (S : List Di) (acc : List (List By)) (k : Nat) (d : Di) : Prop := 0 ≤ d.1 ∧ ∃ own, acc[d.1.toNat]? = some own ∧ own[cnt (S.take k) d.1]? = some d.2
def Told (S : List Di) (acc : List (List By)) : Prop := ∀ k d, S[k]? = some d → Nxt S acc k d
/-- S is the one sequence. -/
def SeqOk (acc : List (List By)) (del : List (List Di)) (S : List Di) : Prop := (∀ l ∈ del, l <+: S) ∧ (S = [] ∨ S ∈ del) ∧ Told S acc
theorem SeqOk.unique {acc : List (List By)} {del : List (List Di)} {S S' : List Di} (h : SeqOk acc del S) (h' : SeqOk acc del S') : S = S' := by
  have a : S <+: S' := by rcases h.2.1 with e | e; · rw [e]; exact List.nil_prefix
                          · exact h'.1 S e
  have b : S' <+: S := by rcases h'.2.1 with e | e; · rw [e]; exact List.nil_prefix
                          · exact h.1 S' e
  exact a.eq_of_length (Nat.le_antisymm a.length_le b.length_le)
/-- The longest of a list's first ones. -/
def Lng (del : List (List Di)) (k : Nat) (S : List Di) : Prop := (S = [] ∨ S ∈ del) ∧ ∀ (j : Nat) l, j < k → del[j]? = some l → l.length ≤ S.length
theorem Lng.zero (del : List (List Di)) : Lng del 0 [] := ⟨.inl rfl, fun j l h => by omega⟩
theorem Lng.more {del : List (List Di)} {k : Nat} {S l : List Di} (h : Lng del k S) (hl : del[k]? = some l) (hg : S.length < l.length) : Lng del (k + 1) l :=
  ⟨.inr (List.mem_of_getElem? hl), fun j m hj hm => by
    by_cases e : j = k
    · subst e; rw [hl] at hm; cases hm; exact Nat.le_refl _
    · exact Nat.le_trans (h.2 j m (by omega) hm) (by omega)⟩
theorem Lng.less {del : List (List Di)} {k : Nat} {S l : List Di} (h : Lng del k S) (hl : del[k]? = some l) (hg : ¬ S.length < l.length) : Lng del (k + 1) S :=
  ⟨h.1, fun j m hj hm => by
    by_cases e : j = k
    · subst e; rw [hl] at hm; cases hm; omega
    · exact h.2 j m (by omega) hm⟩
/-- If there is a sequence at all, it is the longest. -/
theorem Lng.is {acc : List (List By)} {del : List (List Di)} {S T : List Di} (h : Lng del del.length S) (hT : SeqOk acc del T) : T = S := by
  have b : S <+: T := by rcases h.1 with e | e; · rw [e]; exact List.nil_prefix
                         · exact hT.1 S e
  rcases hT.2.1 with e | e
  · subst e; exact (List.prefix_nil.1 b).symm
  · obtain ⟨j, hj, hm⟩ := List.mem_iff_getElem.1 e
    have := h.2 j T hj (by rw [List.getElem?_eq_getElem hj, hm])
    exact (b.eq_of_length (Nat.le_antisymm b.length_le this)).symm
theorem Lng.ok {acc : List (List By)} {del : List (List Di)} {S : List Di} (h : Lng del del.length S) (hp : ∀ l ∈ del, l <+: S) (ht : Told S acc) : SeqOk acc del S := ⟨hp, h.1, ht⟩
theorem no_prefix {acc : List (List By)} {del : List (List Di)} {S l : List Di} (h : Lng del del.length S) (hl : l ∈ del) (hn : l ≠ S.take l.length) : ¬ ∃ T, SeqOk acc del T := by
  rintro ⟨T, hT⟩
  have := h.is hT
  subst this
  exact hn (List.prefix_iff_eq_take.1 (hT.1 l hl))
theorem no_told {acc : List (List By)} {del : List (List Di)} {S : List Di} (h : Lng del del.length S) (hn : ¬ Told S acc) : ¬ ∃ T, SeqOk acc del T := by
  rintro ⟨T, hT⟩
  have := h.is hT
  subst this
  exact hn hT.2.2
theorem not_told {S : List Di} {acc : List (List By)} {k : Nat} {d : Di} (h : S[k]? = some d) (hn : ¬ Nxt S acc k d) : ¬ Told S acc := fun ht => hn (ht k d h)

/-- What was seen so far makes one list. -/
def One (del : List (List Di)) (k : Nat) (S : List Di) : Prop := (S = [] ∨ S ∈ del) ∧ ∀ (j : Nat) l, j < k → del[j]? = some l → l <+: S
theorem One.zero (del : List (List Di)) : One del 0 [] := ⟨.inl rfl, fun j l h => by omega⟩
theorem One.lng {del : List (List Di)} {k : Nat} {S : List Di} (h : One del k S) : Lng del k S := ⟨h.1, fun j l hj hl => (h.2 j l hj hl).length_le⟩
/-- In the midst of list l: S is what S was, or l's first k. -/
def OneIn (S0 l : List Di) (k : Nat) (S : List Di) : Prop := l.take k <+: S ∧ (S = S0 ∨ S0.length < k ∧ S0 <+: S ∧ S = l.take k)
theorem OneIn.zero (S0 l : List Di) : OneIn S0 l 0 S0 := ⟨by simp, .inl rfl⟩
theorem OneIn.grow {S0 l S : List Di} {k : Nat} {d : Di} (h : OneIn S0 l k S) (hd : l[k]? = some d) (hk : S.length = k) : OneIn S0 l (k + 1) (S ++ [d]) := by
  have hkl := (List.getElem?_eq_some_iff.1 hd).1
  have e : l.take k = S := by
    have := h.1
    exact this.eq_of_length (by rw [List.length_take, hk]; omega)
  refine ⟨by rw [take_snoc hd, e]; exact List.prefix_refl _, .inr ?_⟩
  rcases h.2 with h2 | ⟨h2, h3, h4⟩
  · subst h2; exact ⟨by omega, List.prefix_append _ _, by rw [take_snoc hd, e]⟩
  · exact ⟨by omega, h3.trans (List.prefix_append _ _), by rw [take_snoc hd, e]⟩
theorem OneIn.same {S0 l S : List Di} {k : Nat} {d : Di} (h : OneIn S0 l k S) (hd : l[k]? = some d) (hs : S[k]? = some d) : OneIn S0 l (k + 1) S := by
  have hks := (List.getElem?_eq_some_iff.1 hs).1
  have hkl := (List.getElem?_eq_some_iff.1 hd).1
  have e : l.take k = S.take k := by
    have := List.prefix_iff_eq_take.1 h.1
    rw [List.length_take, Nat.min_eq_left (by omega)] at this
    exact this
  refine ⟨?_, ?_⟩
  · rw [take_snoc hd, e, ← take_snoc hs]; exact List.take_prefix _ _
  · rcases h.2 with h2 | ⟨h2, h3, h4⟩
    · exact .inl h2
    · have : S.length ≤ k := by rw [h4]; simp; omega
      omega
theorem OneIn.len {S0 l S : List Di} {k : Nat} (h : OneIn S0 l k S) (hk : k < l.length) : k ≤ S.length := by
  have := h.1.length_le
  rw [List.length_take] at this
  omega
theorem OneIn.done {del : List (List Di)} {i : Nat} {S0 l S : List Di} (h0 : One del i S0) (hl : del[i]? = some l) (h : OneIn S0 l l.length S) : One del (i + 1) S := by
  rw [OneIn, List.take_length] at h
  have hS0 : S0 <+: S := by
    rcases h.2 with h2 | ⟨_, h3, _⟩
    · rw [h2]; exact List.prefix_refl _
    · exact h3
  refine ⟨?_, fun j m hj hm => ?_⟩
  · rcases h.2 with h2 | ⟨_, _, h4⟩
    · rw [h2]; exact h0.1
    · rw [h4]; exact .inr (List.mem_of_getElem? hl)
  · by_cases e : j = i
    · subst e; rw [hl] at hm; cases hm; exact h.1
    · exact (h0.2 j m (by omega) hm).trans hS0
theorem OneIn.done' {del : List (List Di)} {i n : Nat} {S0 l S : List Di} (h : OneIn S0 l n S) (h0 : One del i S0) (hl : del[i]? = some l) (hn : l.length = n) : One del (i + 1) S := by
  subst hn
  exact OneIn.done h0 hl h
theorem One.le {del : List (List Di)} {i N : Nat} {S : List Di} (h : One del i S) (hs : ∀ l ∈ del, l.length ≤ N) : S.length ≤ N := by
  rcases h.1 with e | e
  · rw [e]; simp
  · exact hs S e
theorem OneIn.le {S0 l S : List Di} {k N : Nat} (h : OneIn S0 l k S) (h0 : S0.length ≤ N) (hl : l.length ≤ N) : S.length ≤ N := by
  rcases h.2 with e | ⟨_, _, e⟩
  · rw [e]; exact h0
  · rw [e]; simp; omega
/-- Two that part at one place are no beginnings of one. -/
theorem parts_no {acc : List (List By)} {del : List (List Di)} {i k : Nat} {S0 l S : List Di} {d d' : Di} (h0 : One del i S0) (hl : del[i]? = some l) (h : OneIn S0 l k S) (hd : l[k]? = some d) (hs : S[k]? = some d') (hn : d' ≠ d) : ¬ ∃ T, SeqOk acc del T := by
  rintro ⟨T, hT⟩
  have hks := (List.getElem?_eq_some_iff.1 hs).1
  have hlT := hT.1 l (List.mem_of_getElem? hl)
  have hST : S <+: T := by
    rcases h.2 with h2 | ⟨_, _, h4⟩
    · subst h2
      rcases h0.1 with e | e
      · subst e; simp at hks
      · exact hT.1 _ e
    · have : S.length ≤ k := by rw [h4]; simp; omega
      omega
  have a : T[k]? = some d := by
    obtain ⟨t, rfl⟩ := hlT
    rw [List.getElem?_append_left (List.getElem?_eq_some_iff.1 hd).1]; exact hd
  have b : T[k]? = some d' := by
    obtain ⟨t, rfl⟩ := hST
    rw [List.getElem?_append_left hks]; exact hs
  rw [a] at b
  cases b
  exact hn rfl

/-- No node's are counted beyond what it told. -/
theorem cnt_own {S : List Di} {acc : List (List By)} {f : Nat} {own : List By} (ho : acc[f]? = some own) : ∀ k, k ≤ S.length → (∀ j d, j < k → S[j]? = some d → Nxt S acc j d) → cnt (S.take k) (f : Int) ≤ own.length
  | 0, _, _ => by simp [cnt]
  | k + 1, hk, h => by
    obtain ⟨d, hd⟩ : ∃ d, S[k]? = some d := ⟨S[k]'(by omega), List.getElem?_eq_getElem (by omega)⟩
    have ih := cnt_own ho k (by omega) (fun j d hj => h j d (by omega))
    rw [cnt_step hd]
    split
    · rename_i e
      obtain ⟨_, own', a, b⟩ := h k d (by omega) hd
      rw [e] at a b
      rw [Int.toNat_natCast, ho] at a
      cases a
      have := (List.getElem?_eq_some_iff.1 b).1
      omega
    · exact ih

/-- The document's second and third look: each is of somebody; each one's are in their order. -/
def Rng (S : List Di) (m : Nat) (k : Nat) : Prop := ∀ j d, j < k → S[j]? = some d → 0 ≤ d.1 ∧ d.1 < m
def Ord1 (S : List Di) (acc : List (List By)) (i k : Nat) : Prop := ∀ j d, j < k → S[j]? = some d → d.1 = (i : Int) → ∃ own, acc[i]? = some own ∧ own[cnt (S.take j) i]? = some d.2
theorem told_of {S : List Di} {acc : List (List By)} (hr : Rng S acc.length S.length) (ho : ∀ i, i < acc.length → Ord1 S acc i S.length) : Told S acc := by
  intro k d hd
  have hk := (List.getElem?_eq_some_iff.1 hd).1
  obtain ⟨h0, h1⟩ := hr k d hk hd
  obtain ⟨own, a, b⟩ := ho d.1.toNat (by omega) k d hk hd (by omega)
  have e : ((d.1.toNat : Nat) : Int) = d.1 := by omega
  rw [e] at b
  exact ⟨h0, own, a, b⟩
theorem not_rng {S : List Di} {acc : List (List By)} {k : Nat} {d : Di} (h : S[k]? = some d) (hn : ¬ (0 ≤ d.1 ∧ d.1 < acc.length)) : ¬ Told S acc := fun ht => by
  obtain ⟨h0, own, a, _⟩ := ht k d h
  have := (List.getElem?_eq_some_iff.1 a).1
  exact hn ⟨h0, by omega⟩
theorem not_ord {S : List Di} {acc : List (List By)} {k i : Nat} {d : Di} {own : List By} (h : S[k]? = some d) (hi : d.1 = (i : Int)) (ho : acc[i]? = some own) (hn : own[cnt (S.take k) i]? ≠ some d.2) : ¬ Told S acc := fun ht => by
  obtain ⟨h0, own', a, b⟩ := ht k d h
  rw [hi] at a b
  rw [Int.toNat_natCast, ho] at a
  cases a
  exact hn b
theorem Rng.zero (S : List Di) (m : Nat) : Rng S m 0 := fun j d hj => by omega
theorem Rng.more {S : List Di} {m k : Nat} {d : Di} (h : Rng S m k) (hd : S[k]? = some d) (h0 : 0 ≤ d.1) (h1 : d.1 < m) : Rng S m (k + 1) := fun j e hj he => by
  by_cases x : j = k
  · subst x; rw [hd] at he; cases he; exact ⟨h0, h1⟩
  · exact h j e (by omega) he
theorem Ord1.zero (S : List Di) (acc : List (List By)) (i : Nat) : Ord1 S acc i 0 := fun j d hj => by omega
theorem Ord1.skip {S : List Di} {acc : List (List By)} {i k : Nat} {d : Di} (h : Ord1 S acc i k) (hd : S[k]? = some d) (hn : d.1 ≠ (i : Int)) : Ord1 S acc i (k + 1) := fun j e hj he hi => by
  by_cases x : j = k
  · subst x; rw [hd] at he; cases he; exact absurd hi hn
  · exact h j e (by omega) he hi
theorem Ord1.more {S : List Di} {acc : List (List By)} {i k c : Nat} {d : Di} {own : List By} (h : Ord1 S acc i k) (hd : S[k]? = some d) (ho : acc[i]? = some own) (hc : cnt (S.take k) i = c) (hv : own[c]? = some d.2) : Ord1 S acc i (k + 1) := fun j e hj he hi => by
  by_cases x : j = k
  · subst x; rw [hd] at he; cases he; exact ⟨own, ho, by rw [hc]; exact hv⟩
  · exact h j e (by omega) he hi
theorem cnt_skip {l : List Di} {k c : Nat} {d : Di} {f : Int} (h : l[k]? = some d) (hc : cnt (l.take k) f = c) (hn : d.1 ≠ f) : cnt (l.take (k + 1)) f = c := by rw [cnt_step h, hc, if_neg hn]; rfl
theorem cnt_more {l : List Di} {k c : Nat} {d : Di} {f : Int} (h : l[k]? = some d) (hc : cnt (l.take k) f = c) (hn : d.1 = f) : cnt (l.take (k + 1)) f = c + 1 := by rw [cnt_step h, hc, if_pos hn]
end Go.Proofs.Ythnbijnpbjfoaaa
