/-
  In whatever order nodes told: what comes of it is the same.
-/
import Derived.Test.YtooeemhlpmiceaaXFew
import Derived.Test.YtooeemhlpmiceaaEArgs4
import Derived.Test.YtooeemhlpmiceaaFPlain2
namespace Go.Proofs.Ytooeemhlpmiceaa
open Go.RowKit
set_option linter.unusedVariables false
set_option linter.unusedSimpArgs false

def baseF (x : Pt × Nat) : Pt := { x.1 with node := (x.2 : Nat), es := mergeE [] x.1.es }
/-- What nodes told, from 0 on. -/
def baseL (ss : List Pt) : List Pt := ss.zipIdx.map baseF
theorem baseL_len (ss : List Pt) : (baseL ss).length = ss.length := by simp [baseL]
theorem baseL_get {ss : List Pt} {k : Nat} {t : Pt} (h : ss[k]? = some t) : (baseL ss)[k]? = some (baseF (t, k)) := by
  unfold baseL
  rw [List.getElem?_map, List.getElem?_zipIdx, h]
  simp
theorem told_at {ss : List Pt} {m i k : Nat} (hk : (i + m) % ss.length = k) (hl : k < ss.length) : some (toldP ss m i) = (baseL ss)[k]? := by
  have h : ss[k]? = some (ss[k]) := List.getElem?_eq_getElem hl
  rw [baseL_get h]
  unfold toldP
  rw [hk]
  simp [baseF, List.getD_eq_getElem?_getD, h]
theorem told_turn (ss : List Pt) (m : Nat) : toldL ss m = (baseL ss).drop (m % ss.length) ++ (baseL ss).take (m % ss.length) := by
  have hbl := baseL_len ss
  apply List.ext_getElem?
  intro i
  by_cases hi : i < ss.length
  · have hr : m % ss.length < ss.length := Nat.mod_lt _ (by omega)
    have h1 : (toldL ss m)[i]? = some (toldP ss m i) := by
      unfold toldL
      rw [List.getElem?_map, List.getElem?_range hi]
      rfl
    rw [h1]
    by_cases h2 : i < ss.length - m % ss.length
    · have hk : (i + m) % ss.length = m % ss.length + i := by
        rw [Nat.add_mod, Nat.mod_eq_of_lt hi, Nat.mod_eq_of_lt (by omega)]
        omega
      rw [told_at hk (by omega), List.getElem?_append_left (by rw [List.length_drop]; omega), List.getElem?_drop]
    · have hk : (i + m) % ss.length = i - (ss.length - m % ss.length) := by
        rw [Nat.add_mod, Nat.mod_eq_of_lt hi, Nat.mod_eq_sub_mod (by omega), Nat.mod_eq_of_lt (by omega)]
        omega
      rw [told_at hk (by omega), List.getElem?_append_right (by rw [List.length_drop]; omega), List.length_drop, hbl, List.getElem?_take_of_lt (by omega)]
  · rw [List.getElem?_eq_none (by simp [toldL]; omega), List.getElem?_eq_none (by rw [List.length_append, List.length_drop, List.length_take]; omega)]
theorem told_mem (ss : List Pt) (m : Nat) (t : Pt) : t ∈ toldL ss m ↔ t ∈ baseL ss := by
  rw [told_turn, List.mem_append]
  constructor
  · rintro (h | h)
    · exact List.mem_of_mem_drop h
    · exact List.mem_of_mem_take h
  · intro h
    rw [← List.take_append_drop (m % ss.length) (baseL ss), List.mem_append] at h
    exact h.symm
theorem allT_app (a b : List Pt) : allT (a ++ b) = allT a ++ allT b := by simp [allT]
theorem told_all_len (ss : List Pt) (m : Nat) : (allT (toldL ss m)).length = (allT (baseL ss)).length := by
  rw [told_turn, allT_app, List.length_append]
  have := congrArg (fun l => (allT l).length) (List.take_append_drop (m % ss.length) (baseL ss))
  simp only [allT_app, List.length_append] at this
  omega
theorem base_all_le : ∀ (ss : List Pt) (s : Nat), (allT ((ss.zipIdx s).map baseF)).length ≤ sumT ss
  | [], s => by simp [allT, sumT]
  | t :: r, s => by
    have ih := base_all_le r (s + 1)
    have h1 := mergeE_len t.es []
    simp only [List.zipIdx_cons, List.map_cons]
    have e1 : allT (baseF (t, s) :: (r.zipIdx (s + 1)).map baseF) = mergeE [] t.es ++ allT ((r.zipIdx (s + 1)).map baseF) := by simp [allT, baseF]
    have e2 : sumT (t :: r) = szP t + sumT r := by simp [sumT]
    rw [e1, e2, List.length_append]
    unfold szP
    simp only [List.length_nil, Nat.zero_add] at h1
    omega
theorem told_all_le (ss : List Pt) (m : Nat) : (allT (toldL ss m)).length ≤ sumT ss := by
  rw [told_all_len]
  exact base_all_le ss 0
theorem base_mem {ss : List Pt} {t : Pt} (h : t ∈ baseL ss) : ∃ u ∈ ss, ∃ k : Nat, ss[k]? = some u ∧ t = baseF (u, k) := by
  unfold baseL at h
  obtain ⟨⟨u, k⟩, hu, rfl⟩ := List.mem_map.1 h
  have := List.mem_zipIdx_iff_getElem? (x := (u, k)) (l := ss)
  have hk := this.1 hu
  exact ⟨u, List.mem_of_getElem? hk, k, hk, rfl⟩
theorem sum_mem : ∀ {ss : List Pt} {t : Pt}, t ∈ ss → szP t ≤ sumT ss
  | u :: r, t, h => by
    have e2 : sumT (u :: r) = szP u + sumT r := by simp [sumT]
    rw [e2]
    rcases List.mem_cons.1 h with rfl | h
    · omega
    · have := sum_mem h
      omega
theorem told_ls {ss : List Pt} {m : Nat} {t : Pt} (h : t ∈ toldL ss m) : t.ls.length ≤ sumT ss := by
  obtain ⟨u, hu, k, _, rfl⟩ := base_mem ((told_mem ss m t).1 h)
  have := sum_mem hu
  unfold szP at this
  show u.ls.length ≤ _
  omega
theorem told_lok {ss : List Pt} (hok : ∀ t ∈ ss, OkP t) {m : Nat} : ∀ t ∈ toldL ss m, ∀ x ∈ t.ls, OkL x := fun t h x hx => by
  obtain ⟨u, hu, k, _, rfl⟩ := base_mem ((told_mem ss m t).1 h)
  exact (hok u hu).2.1 x hx
theorem told_eok {ss : List Pt} (hok : ∀ t ∈ ss, OkP t) {m : Nat} : ∀ e ∈ allT (toldL ss m), OkE e := fun e he => by
  unfold allT at he
  obtain ⟨t, ht, he⟩ := List.mem_flatMap.1 he
  obtain ⟨u, hu, k, _, rfl⟩ := base_mem ((told_mem ss m t).1 ht)
  rcases mergeE_mem u.es [] e he with h | h
  · simp at h
  · exact (hok u hu).1 e h
/-- The same nodes told the same, and none twice. -/
def Sm2 (ts us : List Pt) : Prop := (∀ t, t ∈ ts ↔ t ∈ us) ∧ ∀ t ∈ ts, ∀ u ∈ ts, t.node = u.node → t = u
theorem told_same (ss : List Pt) (a b : Nat) : Sm2 (toldL ss a) (toldL ss b) := by
  refine ⟨fun t => by rw [told_mem, told_mem], fun t ht u hu h => ?_⟩
  obtain ⟨x, _, k, hk, rfl⟩ := base_mem ((told_mem ss a t).1 ht)
  obtain ⟨y, _, j, hj, rfl⟩ := base_mem ((told_mem ss a u).1 hu)
  have e : k = j := by
    have : ((k : Nat) : Int) = (j : Nat) := h
    omega
  subst e
  rw [hk] at hj
  cases hj
  rfl
theorem gt_iff (a b : Nat × Int) : gtV a b = true ↔ (b.1 < a.1 ∨ a.1 = b.1 ∧ b.2 < a.2) := by
  unfold gtV cmpV sgn
  rw [decide_eq_true_iff]
  repeat' split
  all_goals omega
theorem gt_no {a b : Nat × Int} (h : gtV a b = false) : ¬ (b.1 < a.1 ∨ a.1 = b.1 ∧ b.2 < a.2) := fun h2 => by
  rw [(gt_iff a b).2 h2] at h
  cases h
theorem gt_anti {a b : Nat × Int} (h : gtV a b = false) (k : gtV b a = false) : a = b := by
  have h1 := gt_no h
  have h2 := gt_no k
  obtain ⟨a1, a2⟩ := a
  obtain ⟨b1, b2⟩ := b
  simp only at h1 h2
  simp only [Prod.mk.injEq]
  omega
theorem gt_of {a b : Nat × Int} (h : ¬ (b.1 < a.1 ∨ a.1 = b.1 ∧ b.2 < a.2)) : gtV a b = false := by
  cases hg : gtV a b with
  | false => rfl
  | true => exact absurd ((gt_iff a b).1 hg) h
theorem high_spec : ∀ (ts : List Pt) (v : Nat × Int), (ts.foldl highF v = v ∨ ∃ t ∈ ts, (t.hn, t.hp) = ts.foldl highF v) ∧ (∀ t ∈ ts, gtV (t.hn, t.hp) (ts.foldl highF v) = false) ∧ gtV v (ts.foldl highF v) = false
  | [], v => ⟨.inl rfl, by simp, gt_of (by show ¬ (v.1 < v.1 ∨ v.1 = v.1 ∧ v.2 < v.2); omega)⟩
  | t :: r, v => by
    obtain ⟨h1, h2, h3⟩ := high_spec r (highF v t)
    have e : (t :: r).foldl highF v = r.foldl highF (highF v t) := rfl
    rw [e]
    generalize r.foldl highF (highF v t) = z at *
    have hf : (highF v t = v ∧ gtV (t.hn, t.hp) v = false) ∨ (highF v t = (t.hn, t.hp) ∧ gtV (t.hn, t.hp) v = true) := by
      unfold highF
      cases hg : gtV (t.hn, t.hp) v with
      | true => exact .inr ⟨by simp, rfl⟩
      | false => exact .inl ⟨by simp, rfl⟩
    refine ⟨?_, ?_, ?_⟩
    · rcases h1 with h1 | ⟨u, hu, he⟩
      · rcases hf with ⟨hf, _⟩ | ⟨hf, _⟩
        · exact .inl (h1.trans hf)
        · exact .inr ⟨t, by simp, by rw [h1, hf]⟩
      · exact .inr ⟨u, by simp [hu], he⟩
    · intro u hu
      rcases List.mem_cons.1 hu with rfl | hu
      · rcases hf with ⟨hf, hg⟩ | ⟨hf, hg⟩
        · rw [hf] at h3
          have a1 := gt_no hg
          have a2 := gt_no h3
          exact gt_of (by simp only at *; omega)
        · rw [hf] at h3
          exact h3
      · exact h2 u hu
    · rcases hf with ⟨hf, hg⟩ | ⟨hf, hg⟩
      · rw [hf] at h3
        exact h3
      · rw [hf] at h3
        have a1 := (gt_iff _ _).1 hg
        have a2 := gt_no h3
        exact gt_of (by simp only at *; omega)
theorem high_same {ts us : List Pt} (h : ∀ t, t ∈ ts ↔ t ∈ us) : highT ts = highT us := by
  obtain ⟨a1, a2, a3⟩ := high_spec ts (0, 0)
  obtain ⟨b1, b2, b3⟩ := high_spec us (0, 0)
  unfold highT
  refine gt_anti ?_ ?_
  · rcases a1 with e | ⟨t, ht, e⟩
    · rw [e]; exact b3
    · rw [← e]; exact b2 t ((h t).1 ht)
  · rcases b1 with e | ⟨t, ht, e⟩
    · rw [e]; exact a3
    · rw [← e]; exact a2 t ((h t).2 ht)
theorem ch_spec (hh : Nat × Int) : ∀ (ts : List Pt) (c : Int), c ≤ ts.foldl (chF hh) c ∧ (∀ t ∈ ts, (decide (t.hn = hh.1) && decide (t.hp = hh.2)) = true → t.node ≤ ts.foldl (chF hh) c) ∧ (ts.foldl (chF hh) c = c ∨ ∃ t ∈ ts, (decide (t.hn = hh.1) && decide (t.hp = hh.2)) = true ∧ t.node = ts.foldl (chF hh) c)
  | [], c => ⟨by simp, by simp, .inl rfl⟩
  | t :: r, c => by
    obtain ⟨h1, h2, h3⟩ := ch_spec hh r (chF hh c t)
    have e : (t :: r).foldl (chF hh) c = r.foldl (chF hh) (chF hh c t) := rfl
    rw [e]
    generalize r.foldl (chF hh) (chF hh c t) = z at *
    cases hq : (decide (t.hn = hh.1) && decide (t.hp = hh.2)) with
    | false =>
      have hc : chF hh c t = c := by unfold chF; rw [hq]; rfl
      rw [hc] at h1 h3
      refine ⟨h1, fun u hu hk => ?_, ?_⟩
      · rcases List.mem_cons.1 hu with rfl | hu
        · rw [hq] at hk; cases hk
        · exact h2 u hu hk
      · rcases h3 with h | ⟨u, hu, hk, he⟩
        · exact .inl h
        · exact .inr ⟨u, by simp [hu], hk, he⟩
    | true =>
      have hc : chF hh c t = if c < t.node then t.node else c := by unfold chF; rw [hq]; rfl
      have hc1 : c ≤ chF hh c t ∧ t.node ≤ chF hh c t ∧ (chF hh c t = c ∨ chF hh c t = t.node) := by
        rw [hc]
        split
        · exact ⟨by omega, by omega, .inr rfl⟩
        · exact ⟨by omega, by omega, .inl rfl⟩
      refine ⟨by omega, fun u hu hk => ?_, ?_⟩
      · rcases List.mem_cons.1 hu with rfl | hu
        · omega
        · exact h2 u hu hk
      · rcases h3 with h | ⟨u, hu, hk, he⟩
        · rcases hc1.2.2 with e2 | e2
          · exact .inl (by rw [h, e2])
          · exact .inr ⟨t, by simp, hq, by rw [h, e2]⟩
        · exact .inr ⟨u, by simp [hu], hk, he⟩
theorem ch_same {ts us : List Pt} (h : ∀ t, t ∈ ts ↔ t ∈ us) : chT ts = chT us := by
  unfold chT
  rw [high_same h]
  obtain ⟨a1, a2, a3⟩ := ch_spec (highT us) ts (-1)
  obtain ⟨b1, b2, b3⟩ := ch_spec (highT us) us (-1)
  have l1 : ts.foldl (chF (highT us)) (-1) ≤ us.foldl (chF (highT us)) (-1) := by
    rcases a3 with e | ⟨t, ht, hk, e⟩
    · rw [e]; exact b1
    · rw [← e]; exact b2 t ((h t).1 ht) hk
  have l2 : us.foldl (chF (highT us)) (-1) ≤ ts.foldl (chF (highT us)) (-1) := by
    rcases b3 with e | ⟨t, ht, hk, e⟩
    · rw [e]; exact a1
    · rw [← e]; exact a2 t ((h t).2 ht) hk
  omega
theorem nx_spec : ∀ (ts : List Pt) (c : Int), c ≤ ts.foldl nxF c ∧ (∀ t ∈ ts, t.nx ≤ ts.foldl nxF c) ∧ (ts.foldl nxF c = c ∨ ∃ t ∈ ts, t.nx = ts.foldl nxF c)
  | [], c => ⟨by simp, by simp, .inl rfl⟩
  | t :: r, c => by
    obtain ⟨h1, h2, h3⟩ := nx_spec r (nxF c t)
    have e : (t :: r).foldl nxF c = r.foldl nxF (nxF c t) := rfl
    rw [e]
    generalize r.foldl nxF (nxF c t) = z at *
    have hc1 : c ≤ nxF c t ∧ t.nx ≤ nxF c t ∧ (nxF c t = c ∨ nxF c t = t.nx) := by
      unfold nxF
      split
      · exact ⟨by omega, by omega, .inr rfl⟩
      · exact ⟨by omega, by omega, .inl rfl⟩
    refine ⟨by omega, fun u hu => ?_, ?_⟩
    · rcases List.mem_cons.1 hu with rfl | hu
      · omega
      · exact h2 u hu
    · rcases h3 with h | ⟨u, hu, he⟩
      · rcases hc1.2.2 with e2 | e2
        · exact .inl (by rw [h, e2])
        · exact .inr ⟨t, by simp, by rw [h, e2]⟩
      · exact .inr ⟨u, by simp [hu], he⟩
theorem nx_same {ts us : List Pt} (h : ∀ t, t ∈ ts ↔ t ∈ us) : nxT ts = nxT us := by
  unfold nxT
  obtain ⟨a1, a2, a3⟩ := nx_spec ts 1
  obtain ⟨b1, b2, b3⟩ := nx_spec us 1
  have l1 : ts.foldl nxF 1 ≤ us.foldl nxF 1 := by
    rcases a3 with e | ⟨t, ht, e⟩
    · rw [e]; exact b1
    · rw [← e]; exact b2 t ((h t).1 ht)
  have l2 : us.foldl nxF 1 ≤ ts.foldl nxF 1 := by
    rcases b3 with e | ⟨t, ht, e⟩
    · rw [e]; exact a1
    · rw [← e]; exact a2 t ((h t).2 ht)
  omega
theorem short_same {ts us : List Pt} (h : Sm2 ts us) : shortT ts = shortT us := by
  unfold shortT
  rw [ch_same h.1]
  by_cases hc : chT us = -1
  · rw [if_pos hc, if_pos hc]
  · rw [if_neg hc, if_neg hc]
    have hex : ∃ t ∈ us, t.node = chT us := by
      rcases ch_has (highT us) us (-1) with h1 | h1
      · exact absurd h1 hc
      · exact h1
    obtain ⟨t, ht, hn⟩ := hex
    have one : ∀ (l : List Pt), (∀ x ∈ l, x ∈ ts) → t ∈ l → atT l (chT us) = some t := fun l hl htl => by
      unfold atT
      cases hf : l.find? (fun x => decide (x.node = chT us)) with
      | none => exact absurd hn (by have := List.find?_eq_none.1 hf t htl; simpa using this)
      | some x =>
        have hx := List.find?_some hf
        have hm := List.mem_of_find?_eq_some hf
        have e : x = t := h.2 x (hl x hm) t ((h.1 t).2 ht) (by rw [hn]; simpa using hx)
        rw [e]
    rw [one ts (fun x hx => hx) ((h.1 t).2 ht), one us (fun x hx => (h.1 x).2 hx) ht]
theorem known_labs {ts us : List Pt} (h : ∀ t, t ∈ ts ↔ t ∈ us) : (knownT ts).map (·.1) = (knownT us).map (·.1) := by
  have e : Asc ([] : List En) := by unfold Asc; simp
  refine labs_ext (mergeE_asc _ _ e) (mergeE_asc _ _ e) (fun l => ?_)
  unfold knownT
  rw [mergeE_lab _ _ rfl, mergeE_lab _ _ rfl]
  unfold allT
  simp only [List.mem_flatMap]
  constructor
  · rintro ⟨z, ⟨t, ht, hz⟩, hl⟩
    exact ⟨z, ⟨t, (h t).1 ht, hz⟩, hl⟩
  · rintro ⟨z, ⟨t, ht, hz⟩, hl⟩
    exact ⟨z, ⟨t, (h t).2 ht, hz⟩, hl⟩
theorem full_same {ts us : List Pt} (h : Sm2 ts us) : fullT ts = fullT us := by
  unfold fullT
  rw [short_same h, known_labs h.1]
end Go.Proofs.Ytooeemhlpmiceaa
