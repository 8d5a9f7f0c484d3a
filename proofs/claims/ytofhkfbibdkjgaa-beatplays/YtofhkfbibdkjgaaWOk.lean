/-
  What a wheel holds, in plain data: each timer in the slot of its tick, at its place, and nothing else; the timers by how they were armed.
-/
import Derived.Test.YtofhkfbibdkjgaaWCmp
namespace Go.Proofs.Ytofhkfbibdkjgaa
set_option linter.unusedVariables false

def dueOf (T : Int → Option Tm) (i : Int) : Nat := ((T i).getD ⟨0, 0, 0⟩).due

def Slots (now : Nat) (T : Int → Option Tm) (S : Nat → List Int) (P : Int → Tm → Prop) : Prop :=
  ∀ k, k < 256 → ∀ j i, (S k)[j]? = some i ↔ ∃ tm, T i = some tm ∧ slotOf now tm.due = k ∧ tm.place = j ∧ P i tm

theorem Slots.nodup {now : Nat} {T : Int → Option Tm} {S : Nat → List Int} {P : Int → Tm → Prop} (h : Slots now T S P) {k : Nat} (hk : k < 256) : (S k).Nodup := by
  rw [List.Nodup, List.pairwise_iff_getElem]
  intro a b ha hb hab e
  obtain ⟨t1, h1, _, p1, _⟩ := (h k hk a _).1 (List.getElem?_eq_getElem ha)
  obtain ⟨t2, h2, _, p2, _⟩ := (h k hk b _).1 (List.getElem?_eq_getElem hb)
  rw [e, h2] at h1
  cases h1
  omega
theorem Slots.some {now : Nat} {T : Int → Option Tm} {S : Nat → List Int} {P : Int → Tm → Prop} (h : Slots now T S P) {k : Nat} (hk : k < 256) {i : Int} (hi : i ∈ S k) : ∃ tm, T i = .some tm ∧ slotOf now tm.due = k ∧ P i tm := by
  obtain ⟨j, hj⟩ := List.mem_iff_getElem?.1 hi
  obtain ⟨tm, h1, h2, _, h3⟩ := (h k hk j i).1 hj
  exact ⟨tm, h1, h2, h3⟩
theorem Slots.len {now : Nat} {T : Int → Option Tm} {S : Nat → List Int} {P : Int → Tm → Prop} (h : Slots now T S P) {L : List Int} (hL : ∀ i, (T i).isSome → i ∈ L) {k : Nat} (hk : k < 256) : (S k).length ≤ L.length := by
  refine (h.nodup hk).length_le_of_subset fun i hi => ?_
  obtain ⟨tm, h1, _⟩ := h.some hk hi
  exact hL i (by rw [h1]; rfl)

theorem Slots.put {now : Nat} {T : Int → Option Tm} {S : Nat → List Int} {P P' : Int → Tm → Prop} (h : Slots now T S P) (id : Int) (due armed : Nat) (hno : ∀ tm, T id = Option.some tm → ¬ P id tm)
    (hP : ∀ i tm, i ≠ id → (P' i tm ↔ P i tm)) (hid : P' id ⟨due, armed, (S (slotOf now due)).length⟩) :
    Slots now (upd T id (Option.some ⟨due, armed, (S (slotOf now due)).length⟩)) (put S (slotOf now due) (S (slotOf now due) ++ [id])) P' := by
  have hk0 := slotOf_lt now due
  have hnot : ∀ k, k < 256 → ∀ j, (S k)[j]? ≠ Option.some id := fun k hk j e => by
    obtain ⟨tm, h1, _, _, h2⟩ := (h k hk j id).1 e
    exact hno tm h1 h2
  generalize hk0e : slotOf now due = k0 at *
  intro k hk j i
  by_cases hi : i = id
  · subst hi
    rw [upd_same]
    by_cases e : k = k0
    · subst e
      rw [put_same, List.getElem?_append]
      by_cases hj : j < (S k).length
      · rw [if_pos hj]
        constructor
        · exact fun e => absurd e (hnot k hk j)
        · rintro ⟨tm, h1, h2, h3, _⟩
          cases h1
          simp at h3
          omega
      · rw [if_neg hj]
        constructor
        · intro e
          have : j - (S k).length = 0 := by
            rcases Nat.eq_zero_or_pos (j - (S k).length) with h0 | h0
            · exact h0
            · rw [List.getElem?_eq_none (by simp; omega)] at e; cases e
          exact ⟨_, rfl, hk0e, by simp; omega, hid⟩
        · rintro ⟨tm, h1, h2, h3, _⟩
          cases h1
          simp at h3
          rw [← h3, Nat.sub_self]
          rfl
    · rw [put_other _ _ e]
      constructor
      · exact fun e => absurd e (hnot k hk j)
      · rintro ⟨tm, h1, h2, _⟩
        cases h1
        exact absurd (hk0e.symm.trans h2).symm e
  · rw [upd_other _ _ _ _ hi]
    have hh : (Ytofhkfbibdkjgaa.put S k0 (S k0 ++ [id]) k)[j]? = Option.some i ↔ (S k)[j]? = Option.some i := by
      by_cases e : k = k0
      · subst e
        rw [put_same, List.getElem?_append]
        by_cases hj : j < (S k).length
        · rw [if_pos hj]
        · rw [if_neg hj, List.getElem?_eq_none (by omega : (S k).length ≤ j)]
          constructor
          · intro e
            have := List.mem_of_getElem? e
            simp at this
            exact absurd this hi
          · intro e; cases e
      · rw [put_other _ _ e]
    rw [hh, h k hk j i]
    constructor
    · rintro ⟨tm, h1, h2, h3, h4⟩; exact ⟨tm, h1, h2, h3, (hP i tm hi).2 h4⟩
    · rintro ⟨tm, h1, h2, h3, h4⟩; exact ⟨tm, h1, h2, h3, (hP i tm hi).1 h4⟩

theorem lose_get (xs : List Int) (j q : Nat) (hj : j < xs.length) : (lose xs j)[q]? = if q < xs.length - 1 then (if q = j then xs[xs.length - 1]? else xs[q]?) else none := by
  unfold lose
  rw [List.getElem?_take]
  by_cases hq : q < xs.length - 1
  · rw [if_pos hq, if_pos hq, List.getElem?_set]
    by_cases e : q = j
    · subst e
      rw [if_pos rfl, if_pos rfl, if_pos hj, List.getElem?_eq_getElem (by omega : xs.length - 1 < xs.length)]
      simp [List.getElem?_eq_getElem (by omega : xs.length - 1 < xs.length)]
    · rw [if_neg (by omega), if_neg e]
  · rw [if_neg hq, if_neg hq]

def Any (_ : Int) (_ : Tm) : Prop := True

theorem Slots.lose {now : Nat} {T : Int → Option Tm} {S : Nat → List Int} (h : Slots now T S Any) {id : Int} {t : Tm} (ht : T id = Option.some t) :
    ∃ last mt, t.place < (S (slotOf now t.due)).length ∧ (S (slotOf now t.due)).getD ((S (slotOf now t.due)).length - 1) 0 = last ∧ T last = Option.some mt ∧
      Slots now (upd (upd T last (Option.some ⟨mt.due, mt.armed, t.place⟩)) id none) (Ytofhkfbibdkjgaa.put S (slotOf now t.due) (Ytofhkfbibdkjgaa.lose (S (slotOf now t.due)) t.place)) Any := by
  have hk0 := slotOf_lt now t.due
  have hat := (h _ hk0 t.place id).2 ⟨t, ht, rfl, rfl, trivial⟩
  obtain ⟨hlt, _⟩ := List.getElem?_eq_some_iff.1 hat
  generalize hk0e : slotOf now t.due = k0 at *
  have hl : (S k0)[(S k0).length - 1]? = Option.some ((S k0)[(S k0).length - 1]'(by omega)) := List.getElem?_eq_getElem _
  generalize (S k0)[(S k0).length - 1]'(by omega) = last at *
  obtain ⟨mt, hm1, hm2, hm3, _⟩ := (h k0 hk0 _ _).1 hl
  refine ⟨last, mt, hlt, ?_, hm1, ?_⟩
  · rw [List.getD_eq_getElem?_getD, hl]; rfl
  intro k hk j i
  have hget := lose_get (S k0) t.place j hlt
  rw [hl] at hget
  by_cases hi : i = id
  · subst hi
    rw [upd_same]
    refine ⟨fun e => ?_, fun ⟨_, e, _⟩ => nomatch e⟩
    exfalso
    by_cases ek : k = k0
    · subst ek
      rw [put_same, hget] at e
      by_cases hq : j < (S k).length - 1
      · rw [if_pos hq] at e
        by_cases ej : j = t.place
        · rw [if_pos ej] at e
          cases e
          rw [ht] at hm1
          cases hm1
          omega
        · rw [if_neg ej] at e
          obtain ⟨t2, h1, _, h2, _⟩ := (h k hk j i).1 e
          rw [ht] at h1
          cases h1
          exact ej h2.symm
      · rw [if_neg hq] at e; cases e
    · rw [put_other _ _ ek] at e
      obtain ⟨t2, h1, h2, _⟩ := (h k hk j i).1 e
      rw [ht] at h1
      cases h1
      exact ek (h2.symm.trans hk0e)
  · rw [upd_other _ _ _ _ hi]
    by_cases hl2 : i = last
    · subst hl2
      rw [upd_same]
      have hne : t.place ≠ (S k0).length - 1 := by
        intro e
        rw [e, hl] at hat
        cases hat
        exact hi rfl
      by_cases ek : k = k0
      · subst ek
        rw [put_same, hget]
        by_cases hq : j < (S k).length - 1
        · rw [if_pos hq]
          by_cases ej : j = t.place
          · rw [if_pos ej]
            exact ⟨fun _ => ⟨_, rfl, hm2, ej.symm, trivial⟩, fun _ => rfl⟩
          · rw [if_neg ej]
            constructor
            · intro e
              obtain ⟨t2, h1, _, h2, _⟩ := (h k hk j i).1 e
              rw [hm1] at h1
              cases h1
              omega
            · rintro ⟨t2, h1, _, h2, _⟩
              cases h1
              exact absurd h2.symm ej
        · rw [if_neg hq]
          constructor
          · intro e; cases e
          · rintro ⟨t2, h1, _, h2, _⟩
            cases h1
            simp at h2
            omega
      · rw [put_other _ _ ek]
        constructor
        · intro e
          obtain ⟨t2, h1, h2, _⟩ := (h k hk j i).1 e
          rw [hm1] at h1
          cases h1
          exact absurd (h2.symm.trans hm2) ek
        · rintro ⟨t2, h1, h2, _⟩
          cases h1
          exact absurd (h2.symm.trans hm2) ek
    · rw [upd_other _ _ _ _ hl2, ← h k hk j i]
      by_cases ek : k = k0
      · subst ek
        rw [put_same, hget]
        by_cases hq : j < (S k).length - 1
        · rw [if_pos hq]
          by_cases ej : j = t.place
          · rw [if_pos ej, ej, hat]
            constructor
            · intro e; cases e; exact absurd rfl hl2
            · intro e; cases e; exact absurd rfl hi
          · rw [if_neg ej]
        · rw [if_neg hq]
          refine ⟨fun e => (nomatch e), fun e => ?_⟩
          by_cases ej : j = (S k).length - 1
          · rw [ej, hl] at e; cases e; exact absurd rfl hl2
          · rw [List.getElem?_eq_none (by omega)] at e; cases e
      · rw [put_other _ _ ek]

structure Ok (now arms n : Nat) (T : Int → Option Tm) (S : Nat → List Int) (L : List Int) : Prop where
  slots : Slots now T S Any
  bound : ∀ i tm, T i = some tm → In i ∧ now < tm.due ∧ tm.due ≤ 1152921504606846976 ∧ tm.armed < arms
  mem : ∀ i, i ∈ L ↔ (T i).isSome
  sorted : L.Pairwise (fun i j => armedOf T i < armedOf T j)
  len : L.length = n
  le : n ≤ arms
  now : now ≤ 1152921504606846976

theorem Ok.nodup {now arms n : Nat} {T : Int → Option Tm} {S : Nat → List Int} {L : List Int} (h : Ok now arms n T S L) : L.Nodup :=
  h.sorted.imp (fun {a b} hab e => by subst e; omega)
theorem Ok.slen {now arms n : Nat} {T : Int → Option Tm} {S : Nat → List Int} {L : List Int} (h : Ok now arms n T S L) {k : Nat} (hk : k < 256) : (S k).length ≤ n := by
  rw [← h.len]; exact h.slots.len (fun i hi => (h.mem i).2 hi) hk

/-- A timer that isn't armed is armed. -/
theorem Ok.put {now arms n : Nat} {T : Int → Option Tm} {S : Nat → List Int} {L : List Int} (h : Ok now arms n T S L) {id : Int} (hid : In id) (hT : T id = none) {due : Nat} (hd : now < due) (hd' : due ≤ 1152921504606846976) :
    Ok now (arms + 1) (cntUp T id n) (upd T id (some ⟨due, arms, (S (slotOf now due)).length⟩)) (Ytofhkfbibdkjgaa.put S (slotOf now due) (S (slotOf now due) ++ [id])) (L ++ [id]) where
  slots := h.slots.put id due arms (by rw [hT]; intro tm e; cases e) (fun _ _ _ => Iff.rfl) trivial
  bound := by
    intro i tm e
    by_cases hi : i = id
    · subst hi
      rw [upd_same] at e
      cases e
      exact ⟨hid, hd, hd', Nat.lt_succ_self _⟩
    · rw [upd_other _ _ _ _ hi] at e
      obtain ⟨a, b, c, d⟩ := h.bound i tm e
      exact ⟨a, b, c, by omega⟩
  mem := by
    intro i
    by_cases hi : i = id
    · subst hi; simp [upd_same]
    · rw [upd_other _ _ _ _ hi, ← h.mem]; simp [hi]
  sorted := by
    have hno : ∀ i, i ∈ L → i ≠ id := by
      rintro i hi rfl
      have := (h.mem i).1 hi
      rw [hT] at this
      cases this
    rw [List.pairwise_append]
    refine ⟨h.sorted.imp_of_mem (fun {a b} ha hb hab => ?_), by simp, fun a ha b hb => ?_⟩
    · unfold armedOf; rw [upd_other _ _ _ _ (hno a ha), upd_other _ _ _ _ (hno b hb)]; exact hab
    · simp at hb
      subst hb
      have := (h.mem a).1 ha
      obtain ⟨tm, htm⟩ := Option.isSome_iff_exists.1 this
      have := (h.bound a tm htm).2.2.2
      unfold armedOf
      rw [upd_same, upd_other _ _ _ _ (hno a ha), htm]
      exact this
  len := by unfold cntUp; rw [hT]; simp [h.len]
  le := by unfold cntUp; rw [hT]; have := h.le; simp; omega
  now := h.now

theorem Ok.lose {now arms n : Nat} {T : Int → Option Tm} {S : Nat → List Int} {L : List Int} (h : Ok now arms n T S L) {id : Int} {t : Tm} (ht : T id = some t) :
    ∃ last mt, t.place < (S (slotOf now t.due)).length ∧ (S (slotOf now t.due)).getD ((S (slotOf now t.due)).length - 1) 0 = last ∧ T last = some mt ∧ In last ∧
      Ok now arms (cntDown (upd T last (some ⟨mt.due, mt.armed, t.place⟩)) id (cntUp T last n)) (upd (upd T last (some ⟨mt.due, mt.armed, t.place⟩)) id none) (Ytofhkfbibdkjgaa.put S (slotOf now t.due) (Ytofhkfbibdkjgaa.lose (S (slotOf now t.due)) t.place)) (L.filter (· ≠ id)) ∧
      (∀ i, i ≠ id → dueOf (upd (upd T last (some ⟨mt.due, mt.armed, t.place⟩)) id none) i = dueOf T i) := by
  obtain ⟨last, mt, h1, h2, h3, h4⟩ := h.slots.lose ht
  have hkey : ∀ i, i ≠ id → ((upd (upd T last (some ⟨mt.due, mt.armed, t.place⟩)) id none) i).map (fun t => (t.due, t.armed)) = (T i).map (fun t => (t.due, t.armed)) := by
    intro i hi
    rw [upd_other _ _ _ _ hi]
    by_cases e : i = last
    · subst e; rw [upd_same, h3]; rfl
    · rw [upd_other _ _ _ _ e]
  have hgen : ∀ (T T' : Int → Option Tm) i, (T' i).map (fun t : Tm => (t.due, t.armed)) = (T i).map (fun t => (t.due, t.armed)) → dueOf T' i = dueOf T i ∧ armedOf T' i = armedOf T i ∧ (T' i).isSome = (T i).isSome := by
    intro T T' i e
    unfold dueOf armedOf
    cases h : T i <;> cases h' : T' i <;> simp_all
  have hin : id ∈ L := (h.mem id).2 (by rw [ht]; rfl)
  refine ⟨last, mt, h1, h2, h3, (h.bound last mt h3).1, ?_, fun i hi => (hgen _ _ i (hkey i hi)).1⟩
  exact {
    slots := h4
    bound := by
      intro i tm e
      by_cases hi : i = id
      · subst hi; rw [upd_same] at e; cases e
      · have hk := hkey i hi
        rw [e] at hk
        cases hT : T i with
        | none => rw [hT] at hk; cases hk
        | some tm' =>
          rw [hT] at hk
          simp at hk
          have := h.bound i tm' hT
          rw [hk.1, hk.2]
          exact this
    mem := by
      intro i
      by_cases hi : i = id
      · subst hi; simp [upd_same]
      · rw [(hgen _ _ i (hkey i hi)).2.2, ← h.mem]; simp [hi]
    sorted := by
      refine (h.sorted.sublist List.filter_sublist).imp_of_mem (fun {a b} ha hb hab => ?_)
      simp at ha hb
      rw [(hgen _ _ a (hkey a ha.2)).2.1, (hgen _ _ b (hkey b hb.2)).2.1]
      exact hab
    len := by
      rw [show (fun x : Int => decide (x ≠ id)) = (fun x => x != id) by funext x; simp [bne, BEq.beq], ← List.Nodup.erase_eq_filter h.nodup, List.length_erase_of_mem hin, h.len]
      unfold cntDown cntUp
      rw [h3]
      by_cases e : id = last
      · subst e; simp [upd_same]
      · rw [upd_other _ _ _ _ e, ht]; simp
    le := by
      have := h.le
      have : (cntDown (upd T last (some ⟨mt.due, mt.armed, t.place⟩)) id (cntUp T last n)) ≤ n := by
        unfold cntDown cntUp
        rw [h3]
        simp
        split <;> omega
      omega
    now := h.now }

end Go.Proofs.Ytofhkfbibdkjgaa
