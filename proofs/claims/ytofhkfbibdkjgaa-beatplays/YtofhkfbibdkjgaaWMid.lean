/-
  One tick of a wheel, in plain data: the slots that are reached, the timers that are put anew, those that are due.
-/
import Derived.Test.YtofhkfbibdkjgaaWSort
namespace Go.Proofs.Ytofhkfbibdkjgaa
set_option linter.unusedVariables false

theorem hit_succ (m l : Nat) : hit m (l + 1) ↔ hit m l ∧ dig m l = 0 := by
  unfold hit dig
  rw [Nat.mod_pow_succ]
  have := pow_pos16 l
  constructor
  · intro h
    have h1 : m % 16 ^ l = 0 := by omega
    refine ⟨h1, ?_⟩
    rw [h1, Nat.zero_add] at h
    rcases Nat.mul_eq_zero.1 h with h | h
    · omega
    · exact h
  · rintro ⟨h1, h2⟩
    rw [h1, h2]
    rfl
theorem hit_iff (m : Nat) : ∀ l, hit m l ↔ ∀ j, j < l → dig m j = 0
  | 0 => by
    refine ⟨fun _ j hj => by omega, fun _ => ?_⟩
    unfold hit
    rw [Nat.pow_zero, Nat.mod_one]
  | l + 1 => by
    rw [hit_succ, hit_iff m l]
    constructor
    · rintro ⟨h1, h2⟩ j hj
      by_cases e : j = l
      · rw [e]; exact h2
      · exact h1 j (by omega)
    · intro h
      exact ⟨fun j hj => h j (by omega), h l (by omega)⟩

def Reach (now z : Nat) : Prop := z ≤ 16 ∧ (∀ l, l + 1 < z → dig now l = 0) ∧ (z = 16 ∨ 0 < z ∧ dig now (z - 1) ≠ 0)
theorem Reach.iff {now z : Nat} (h : Reach now z) {l : Nat} (hl : l < 16) : l < z ↔ hit now l := by
  obtain ⟨h1, h2, h3⟩ := h
  rw [hit_iff]
  constructor
  · intro hlz j hj
    exact h2 j (by omega)
  · intro hh
    rcases h3 with h3 | ⟨h3, h4⟩
    · omega
    · rcases Nat.lt_or_ge l z with h5 | h5
      · exact h5
      · exact absurd (hh (z - 1) (by omega)) h4

theorem slot_stays {now due z : Nat} (hlt : now < due) (hd : due < 18446744073709551616) (hz : Reach (now + 1) z) (hno : ∀ l, l < z → slotOf now due ≠ 16 * l + dig (now + 1) l) :
    slotOf (now + 1) due = slotOf now due ∧ due ≠ now + 1 := by
  have hl := lvl_lt now due
  have hn : ¬ (hit (now + 1) (lvl now due) ∧ dig (now + 1) (lvl now due) = dig due (lvl now due)) := by
    rintro ⟨h1, h2⟩
    exact hno (lvl now due) ((hz.iff hl).2 h1) (by unfold slotOf; rw [h2])
  have hs := lvl_stays now due hlt hd hn
  refine ⟨by unfold slotOf; rw [hs], ?_⟩
  rintro rfl
  have h0 : lvl (now + 1) (now + 1) = 0 := lvl_eq _ _ 0 (by omega) rfl (by omega)
  rw [h0] at hs
  exact hn ⟨by rw [← hs]; unfold hit; rw [Nat.pow_zero, Nat.mod_one], rfl⟩

theorem mem_flat (now : Nat) (S : Nat → List Int) (i : Int) : ∀ z, i ∈ flat now S z ↔ ∃ l, l < z ∧ i ∈ S (16 * l + dig now l)
  | 0 => by simp [flat]
  | z + 1 => by
    rw [flat, List.mem_append, mem_flat now S i z]
    constructor
    · rintro (⟨l, hl, h⟩ | h)
      · exact ⟨l, by omega, h⟩
      · exact ⟨z, by omega, h⟩
    · rintro ⟨l, hl, h⟩
      by_cases e : l = z
      · subst e; exact .inr h
      · exact .inl ⟨l, by omega, h⟩
theorem cleared_hit (now : Nat) (S : Nat → List Int) : ∀ z l, l < z → cleared now S z (16 * l + dig now l) = []
  | 0, l, h => by omega
  | z + 1, l, h => by
    rw [cleared]
    by_cases e : l = z
    · subst e; rw [put_same]
    · have := dig_lt now l
      have := dig_lt now z
      rw [put_other _ _ (by omega), cleared_hit now S z l (by omega)]
theorem cleared_not (now : Nat) (S : Nat → List Int) : ∀ z k, (∀ l, l < z → k ≠ 16 * l + dig now l) → cleared now S z k = S k
  | 0, k, h => rfl
  | z + 1, k, h => by
    rw [cleared, put_other _ _ (h z (by omega)), cleared_not now S z k (fun l hl => h l (by omega))]

theorem idx_lt {now l : Nat} (hl : l < 16) : 16 * l + dig now l < 256 := by have := dig_lt now l; omega
theorem idx_inj {now l l' : Nat} (h : 16 * l + dig now l = 16 * l' + dig now l') : l = l' := by have := dig_lt now l; have := dig_lt now l'; omega

theorem flat_nodup {now now' : Nat} {T : Int → Option Tm} {S : Nat → List Int} {P : Int → Tm → Prop} (h : Slots now T S P) : ∀ z, z ≤ 16 → (flat now' S z).Nodup
  | 0, _ => by simp [flat]
  | z + 1, hz => by
    rw [flat, List.nodup_append]
    refine ⟨flat_nodup h z (by omega), h.nodup (idx_lt (by omega)), ?_⟩
    rintro a ha b hb rfl
    obtain ⟨l, hl, h1⟩ := (mem_flat now' S a z).1 ha
    obtain ⟨t1, e1, s1, _⟩ := h.some (idx_lt (by omega)) h1
    obtain ⟨t2, e2, s2, _⟩ := h.some (idx_lt (by omega)) hb
    rw [e1] at e2
    cases e2
    have := idx_inj (s1.symm.trans s2)
    omega

def kk (t : Tm) : Nat × Nat := (t.due, t.armed)
theorem kk_of {T T' : Int → Option Tm} {i : Int} (e : (T' i).map kk = (T i).map kk) : dueOf T' i = dueOf T i ∧ armedOf T' i = armedOf T i ∧ (T' i).isSome = (T i).isSome := by
  unfold dueOf armedOf
  cases h : T i <;> cases h' : T' i <;> simp_all [kk]
theorem dueOf_some {T : Int → Option Tm} {i : Int} {t : Tm} (h : T i = some t) : dueOf T i = t.due := by unfold dueOf; rw [h]; rfl

structure Mid (now : Nat) (T : Int → Option Tm) (ids : List Int) (r : Nat) (T' : Int → Option Tm) (S' : Nat → List Int) : Prop where
  key : ∀ i, (T' i).map kk = (T i).map kk
  slots : Slots now T' S' (fun i tm => i ∉ ids.drop r ∧ tm.due ≠ now)

theorem Mid.start {now arms n z : Nat} {T : Int → Option Tm} {S : Nat → List Int} {L : List Int} (h : Ok now arms n T S L) (hz : Reach (now + 1) z) :
    Mid (now + 1) T (flat (now + 1) S z) 0 T (cleared (now + 1) S z) := by
  refine ⟨fun _ => rfl, ?_⟩
  intro k hk j i
  rw [List.drop_zero]
  have hz16 := hz.1
  constructor
  · intro e
    have hno : ∀ l, l < z → k ≠ 16 * l + dig (now + 1) l := by
      rintro l hl rfl
      rw [cleared_hit _ _ _ _ hl] at e
      cases e
    rw [cleared_not _ _ _ _ hno] at e
    obtain ⟨tm, h1, h2, h3, _⟩ := (h.slots k hk j i).1 e
    have hb := h.bound i tm h1
    obtain ⟨s1, s2⟩ := slot_stays hb.2.1 (by omega) hz (by rw [h2]; exact hno)
    refine ⟨tm, h1, s1.trans h2, h3, ?_, s2⟩
    intro hi
    obtain ⟨l, hl, h4⟩ := (mem_flat _ _ _ _).1 hi
    obtain ⟨t2, e2, s3, _⟩ := h.slots.some (idx_lt (by omega)) h4
    rw [h1] at e2
    cases e2
    exact hno l hl (h2.symm.trans s3)
  · rintro ⟨tm, h1, h2, h3, h4, h5⟩
    have hb := h.bound i tm h1
    have hin := (h.slots _ (slotOf_lt now tm.due) j i).2 ⟨tm, h1, rfl, h3, trivial⟩
    have hno : ∀ l, l < z → slotOf now tm.due ≠ 16 * l + dig (now + 1) l := by
      intro l hl e
      rw [e] at hin
      exact h4 ((mem_flat _ _ _ _).2 ⟨l, hl, List.mem_of_getElem? hin⟩)
    obtain ⟨s1, _⟩ := slot_stays hb.2.1 (by omega) hz hno
    rw [s1] at h2
    rw [← h2, cleared_not _ _ _ _ hno]
    exact hin

theorem drop_at {ids : List Int} {r : Nat} {i : Int} (h : ids[r]? = some i) : ids.drop r = i :: ids.drop (r + 1) := by
  obtain ⟨hr, rfl⟩ := List.getElem?_eq_some_iff.1 h
  exact List.drop_eq_getElem_cons hr
theorem not_behind {ids : List Int} {r : Nat} {i : Int} (h : ids[r]? = some i) (hn : ids.Nodup) : i ∉ ids.drop (r + 1) := by
  have := hn.sublist (List.drop_sublist r ids)
  rw [drop_at h] at this
  exact (List.nodup_cons.1 this).1

theorem Mid.put {now r : Nat} {T T' : Int → Option Tm} {ids : List Int} {S' : Nat → List Int} (h : Mid now T ids r T' S') (hn : ids.Nodup) {id : Int} (hr : ids[r]? = some id) {tm : Tm} (ht : T' id = some tm) (hd : tm.due ≠ now) :
    Mid now T ids (r + 1) (upd T' id (some ⟨tm.due, tm.armed, (S' (slotOf now tm.due)).length⟩)) (Ytofhkfbibdkjgaa.put S' (slotOf now tm.due) (S' (slotOf now tm.due) ++ [id])) := by
  constructor
  · intro i
    by_cases e : i = id
    · subst e; rw [upd_same, ← h.key, ht]; rfl
    · rw [upd_other _ _ _ _ e]; exact h.key i
  · refine h.slots.put id tm.due tm.armed ?_ ?_ ?_
    · intro t2 _ h2
      exact h2.1 (by rw [drop_at hr]; simp)
    · intro i t2 hi
      rw [drop_at hr]
      simp [hi]
    · exact ⟨not_behind hr hn, hd⟩
theorem Mid.due {now r : Nat} {T T' : Int → Option Tm} {ids : List Int} {S' : Nat → List Int} (h : Mid now T ids r T' S') {id : Int} (hr : ids[r]? = some id) {tm : Tm} (ht : T' id = some tm) (hd : tm.due = now) :
    Mid now T ids (r + 1) T' S' := by
  refine ⟨h.key, ?_⟩
  intro k hk j i
  rw [h.slots k hk j i, drop_at hr]
  constructor
  · rintro ⟨t, h1, h2, h3, h4, h5⟩; exact ⟨t, h1, h2, h3, fun hm => h4 (List.mem_cons_of_mem _ hm), h5⟩
  · rintro ⟨t, h1, h2, h3, h4, h5⟩
    refine ⟨t, h1, h2, h3, ?_, h5⟩
    intro hm
    rcases List.mem_cons.1 hm with rfl | hm
    · rw [ht] at h1; cases h1; exact h5 hd
    · exact h4 hm

/-- The timers that are due, of those of the slots that were reached. -/
def dues (T : Int → Option Tm) (now : Nat) (ids : List Int) : List Int := ids.filter (fun i => decide (dueOf T i = now))
theorem dues_take {T : Int → Option Tm} {now r : Nat} {ids : List Int} {id : Int} (hr : ids[r]? = some id) :
    dues T now (ids.take (r + 1)) = dues T now (ids.take r) ++ (if dueOf T id = now then [id] else []) := by
  unfold dues
  rw [List.take_add_one, hr, List.filter_append]
  by_cases e : dueOf T id = now <;> simp [e]

theorem due_in {now arms n z : Nat} {T : Int → Option Tm} {S : Nat → List Int} {L : List Int} (h : Ok now arms n T S L) (hz : Reach (now + 1) z) {i : Int} {tm : Tm} (ht : T i = some tm) (hd : tm.due = now + 1) : i ∈ flat (now + 1) S z := by
  have hb := h.bound i tm ht
  have hin := (h.slots _ (slotOf_lt now tm.due) tm.place i).2 ⟨tm, ht, rfl, rfl, trivial⟩
  by_cases hno : ∀ l, l < z → slotOf now tm.due ≠ 16 * l + dig (now + 1) l
  · exact absurd hd (slot_stays hb.2.1 (by omega) hz hno).2
  · simp only [Classical.not_forall, Classical.not_not] at hno
    obtain ⟨l, hl, e⟩ := hno
    rw [e] at hin
    exact (mem_flat _ _ _ _).2 ⟨l, hl, List.mem_of_getElem? hin⟩
theorem flat_some {now arms n z : Nat} {T : Int → Option Tm} {S : Nat → List Int} {L : List Int} (h : Ok now arms n T S L) (hz : Reach (now + 1) z) {i : Int} (hi : i ∈ flat (now + 1) S z) : ∃ tm, T i = some tm := by
  obtain ⟨l, hl, h4⟩ := (mem_flat _ _ _ _).1 hi
  have := hz.1
  obtain ⟨t2, e2, _⟩ := h.slots.some (idx_lt (by omega)) h4
  exact ⟨t2, e2⟩

/-- The timers that are due, by how they were armed. -/
theorem dues_are {now arms n z : Nat} {T T' : Int → Option Tm} {S : Nat → List Int} {L : List Int} (h : Ok now arms n T S L) (hz : Reach (now + 1) z) (hk : ∀ i, (T' i).map kk = (T i).map kk) {ds : List Int}
    (hp : ds.Perm (dues T (now + 1) (flat (now + 1) S z))) (hs : ds.Pairwise (fun i j => ¬ armedOf T' j < armedOf T' i)) : ds = L.filter (fun i => decide (dueOf T i = now + 1)) := by
  have hmem : ∀ i, i ∈ dues T (now + 1) (flat (now + 1) S z) ↔ i ∈ L.filter (fun i => decide (dueOf T i = now + 1)) := by
    intro i
    unfold dues
    rw [List.mem_filter, List.mem_filter, h.mem]
    constructor
    · rintro ⟨h1, h2⟩
      obtain ⟨tm, e⟩ := flat_some h hz h1
      exact ⟨by rw [e]; rfl, h2⟩
    · rintro ⟨h1, h2⟩
      obtain ⟨tm, e⟩ := Option.isSome_iff_exists.1 h1
      refine ⟨due_in h hz e ?_, h2⟩
      rw [← dueOf_some e]
      simpa using h2
  have hP : ds.Perm (L.filter (fun i => decide (dueOf T i = now + 1))) :=
    hp.trans ((List.perm_ext_iff_of_nodup ((flat_nodup h.slots z hz.1).filter _) (h.nodup.filter _)).2 hmem)
  have hL : (L.filter (fun i => decide (dueOf T i = now + 1))).Pairwise (fun i j => armedOf T i < armedOf T j) := h.sorted.sublist List.filter_sublist
  refine hP.eq_of_pairwise (le := fun i j => ¬ armedOf T j < armedOf T i) ?_ (hs.imp (fun {a b} hab => ?_)) (hL.imp (fun {a b} hab => by omega))
  · intro a b ha hb h1 h2
    have ha' := hP.subset ha
    by_cases e : a = b
    · exact e
    · exfalso
      have hex := List.pairwise_iff_getElem.1 hL
      obtain ⟨x, hx, rfl⟩ := List.getElem_of_mem ha'
      obtain ⟨y, hy, rfl⟩ := List.getElem_of_mem hb
      rcases Nat.lt_trichotomy x y with hxy | hxy | hxy
      · have := hex x y hx hy hxy; omega
      · subst hxy; exact e rfl
      · have := hex y x hy hx hxy; omega
  · rw [(kk_of (hk a)).2.1, (kk_of (hk b)).2.1] at hab; exact hab

theorem two_parts (f : Int → Nat) (c : Nat) (L : List Int) : (L.filter (fun i => decide (f i = c))).length + (L.filter (fun i => decide (f i ≠ c))).length = L.length := by
  induction L with
  | nil => rfl
  | cons a L ih =>
    by_cases e : f a = c
    · rw [List.filter_cons_of_pos (by simpa using e), List.filter_cons_of_neg (by simpa using e)]
      simp only [List.length_cons]
      omega
    · rw [List.filter_cons_of_neg (by simpa using e), List.filter_cons_of_pos (by simpa using e)]
      simp only [List.length_cons]
      omega

theorem Ok.tick {now arms n z : Nat} {T T' T'' : Int → Option Tm} {S S' : Nat → List Int} {L : List Int} (h : Ok now arms n T S L) (hz : Reach (now + 1) z) (hm : Mid (now + 1) T (flat (now + 1) S z) (flat (now + 1) S z).length T' S')
    (hT : ∀ i, T'' i = if i ∈ L.filter (fun i => decide (dueOf T i = now + 1)) then none else T' i) {n' : Nat} (hn : n' + (L.filter (fun i => decide (dueOf T i = now + 1))).length = n) (hnow : now + 1 ≤ 1152921504606846976) :
    Ok (now + 1) arms n' T'' S' (L.filter (fun i => decide (dueOf T i ≠ now + 1))) ∧ ∀ i, dueOf T i ≠ now + 1 → dueOf T'' i = dueOf T i := by
  have hmem : ∀ i tm, T' i = some tm → (i ∈ L.filter (fun i => decide (dueOf T i = now + 1)) ↔ tm.due = now + 1) := by
    intro i tm e
    have hk := kk_of (hm.key i)
    rw [List.mem_filter, h.mem, ← hk.2.2, ← hk.1, dueOf_some e, e]
    simp
  have hsome : ∀ i tm, T'' i = some tm ↔ T' i = some tm ∧ tm.due ≠ now + 1 := by
    intro i tm
    rw [hT]
    constructor
    · intro e
      by_cases c : i ∈ L.filter (fun i => decide (dueOf T i = now + 1))
      · rw [if_pos c] at e; cases e
      · rw [if_neg c] at e; exact ⟨e, fun hd => c ((hmem i tm e).2 hd)⟩
    · rintro ⟨e, hd⟩
      rw [if_neg (fun c => hd ((hmem i tm e).1 c))]; exact e
  have hnot : ∀ i, dueOf T i ≠ now + 1 → T'' i = T' i := by
    intro i hd
    rw [hT, if_neg]
    intro c
    rw [List.mem_filter] at c
    simp at c
    exact hd c.2
  have hdue : ∀ i, dueOf T i ≠ now + 1 → dueOf T'' i = dueOf T i ∧ armedOf T'' i = armedOf T i ∧ (T'' i).isSome = (T i).isSome := by
    intro i hd
    have hk := kk_of (hm.key i)
    unfold dueOf armedOf at *
    rw [hnot i hd]
    exact hk
  refine ⟨?_, fun i hi => (hdue i hi).1⟩
  exact {
    slots := by
      intro k hk j i
      rw [hm.slots k hk j i]
      constructor
      · rintro ⟨tm, h1, h2, h3, _, h4⟩; exact ⟨tm, (hsome i tm).2 ⟨h1, h4⟩, h2, h3, trivial⟩
      · rintro ⟨tm, h1, h2, h3, _⟩
        obtain ⟨h4, h5⟩ := (hsome i tm).1 h1
        exact ⟨tm, h4, h2, h3, by simp, h5⟩
    bound := by
      intro i tm e
      obtain ⟨h1, h2⟩ := (hsome i tm).1 e
      have hk := hm.key i
      rw [h1] at hk
      cases hT0 : T i with
      | none => rw [hT0] at hk; cases hk
      | some t0 =>
        rw [hT0] at hk
        simp [kk] at hk
        have hb := h.bound i t0 hT0
        rw [hk.1, hk.2]
        refine ⟨hb.1, ?_, hb.2.2.1, hb.2.2.2⟩
        omega
    mem := by
      intro i
      rw [List.mem_filter, h.mem]
      by_cases c : dueOf T i = now + 1
      · constructor
        · rintro ⟨_, h2⟩; simp at h2; exact absurd c h2
        · intro h2
          obtain ⟨tm, e⟩ := Option.isSome_iff_exists.1 h2
          obtain ⟨h3, h4⟩ := (hsome i tm).1 e
          have hk := kk_of (hm.key i)
          rw [← hk.1, dueOf_some h3] at c
          exact absurd c h4
      · rw [(hdue i c).2.2]
        simp [c]
    sorted := by
      refine (h.sorted.sublist List.filter_sublist).imp_of_mem (fun {a b} ha hb hab => ?_)
      simp at ha hb
      rw [(hdue a ha.2).2.1, (hdue b hb.2).2.1]
      exact hab
    len := by
      have h1 := two_parts (dueOf T) (now + 1) L
      rw [h.len] at h1
      omega
    le := by have := h.le; omega
    now := hnow }

end Go.Proofs.Ytofhkfbibdkjgaa
