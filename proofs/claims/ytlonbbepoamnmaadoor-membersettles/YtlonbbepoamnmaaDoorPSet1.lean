/-
  Frames come one after the other till none is under way: it ends, and then no proposal is pending (plain data).
-/
import Derived.Test.YtlonbbepoamnmaaDoorPMove
namespace Go.Proofs.YtlonbbepoamnmaaDoor
set_option linter.unusedVariables false

def Gp.del (g : Gp) (x : Nat × PF) (l : List (Nat × PF)) : Gp := g.post x.1 l ((g.ms x.1).inn x.2 (stOf (g.ms x.1)))
theorem move_del {n : Nat} {g : Gp} {x : Nat × PF} {l : List (Nat × PF)} (h : g.bag = x :: l) : g.move n ⟨3, 0, 0, false⟩ = g.del x l := by
  unfold Gp.move Gp.rest Gp.del
  rw [h]
  simp

/-- How much may still come. -/
def wt (F : PF) : Nat := if F.kind = 2 then 2 else 1
def wb (l : List (Nat × PF)) : Nat := (l.map (fun x => wt x.2)).sum
def pend (m : Mm) : Nat := match m.own with
  | some p => if p.agreed = true then 0 else 1
  | none => 0
def npend (n : Nat) (ms : Nat → Mm) : Nat := ((List.range n).map (fun i => pend (ms i))).sum
def mu (n : Nat) (g : Gp) : Nat := wb g.bag + 6 * npend n g.ms
theorem wb_app (a b : List (Nat × PF)) : wb (a ++ b) = wb a + wb b := by unfold wb; rw [List.map_append, List.sum_append]
theorem wb_le : ∀ l : List (Nat × PF), wb l ≤ 2 * l.length
  | [] => by simp [wb]
  | x :: l => by
    have := wb_le l
    unfold wb at *
    rw [List.map_cons, List.sum_cons, List.length_cons]
    have : wt x.2 ≤ 2 := by unfold wt; split <;> omega
    omega
theorem wb_one {l : List (Nat × PF)} (h : ∀ x ∈ l, x.2.kind ≠ 2) : wb l = l.length := by
  induction l with
  | nil => rfl
  | cons x l ih =>
    unfold wb at *
    rw [List.map_cons, List.sum_cons, List.length_cons, ih (fun y hy => h y (by simp [hy]))]
    have : wt x.2 = 1 := by unfold wt; rw [if_neg (h x (by simp))]
    omega
theorem pend_le (m : Mm) : pend m ≤ 1 := by
  unfold pend
  split
  · split <;> omega
  · omega
theorem npend_le (ms : Nat → Mm) : ∀ n, npend n ms ≤ n
  | 0 => by simp [npend]
  | n + 1 => by
    have := npend_le ms n
    have := pend_le (ms n)
    unfold npend at *
    rw [List.range_succ, List.map_append, List.sum_append]
    simp
    omega
theorem npend_upd (ms : Nat → Mm) (d : Nat) (m : Mm) : ∀ n, d < n → npend n (upd ms d m) + pend (ms d) = npend n ms + pend m
  | 0, h => by omega
  | n + 1, h => by
    have e : ∀ f : Nat → Mm, npend (n + 1) f = npend n f + pend (f n) := fun f => by unfold npend; rw [List.range_succ, List.map_append, List.sum_append]; simp
    rw [e, e]
    by_cases hd : d = n
    · subst hd
      have e2 : npend d (upd ms d m) = npend d ms := by
        unfold npend
        congr 1
        apply List.map_congr_left
        intro i hi
        rw [upd_other _ _ (by have := List.mem_range.1 hi; omega)]
      rw [e2, upd_same]; omega
    · have := npend_upd ms d m n (by omega)
      rw [upd_other _ _ (fun h => hd h.symm)]; omega

section
variable {n i : Nat} {g : Gp} {H : List (Vid × Nat)}
theorem others_le6 (m : Mm) (p : Pp) (h : p.set < 64) : (m.others p).length ≤ 6 := by
  unfold Mm.others
  rw [nodes_len]
  refine cntF_small 16 6 _ (Nat.lt_of_le_of_lt ?_ h)
  unfold withoutN
  exact Nat.and_le_left
theorem own64 (h : GInv n g H) (hi : i < n) {p : Pp} (hp : (g.ms i).own = some p) : p.set < 64 := by
  obtain ⟨_, _, h3, _⟩ := h.ownset hi hp
  have : 2 ^ n ≤ 2 ^ 6 := Nat.pow_le_pow_right (by omega) h.n6
  omega
/-- Each frame that comes leaves less. -/
theorem mu_del (h : GInv n g H) {x : Nat × PF} {l : List (Nat × PF)} (hb : g.bag = x :: l) : mu n (g.del x l) + 1 ≤ mu n g := by
  obtain ⟨hd, j, hfrm, hj, hne, hB⟩ := h.bag x (by rw [hb]; simp)
  have hC := in_cases h (stOf (g.ms x.1)) hd hfrm hj hne hB
  have hmu : mu n g = wt x.2 + wb l + 6 * npend n g.ms := by unfold mu; rw [hb]; unfold wb; rw [List.map_cons, List.sum_cons]
  have key : ∀ R : Res, R = (g.ms x.1).inn x.2 (stOf (g.ms x.1)) → wb R.outs + 6 * pend R.m + 1 ≤ wt x.2 + 6 * pend (g.ms x.1) → mu n (g.del x l) + 1 ≤ mu n g := fun R hR hk => by
    have e := npend_upd g.ms x.1 R.m n hd
    rw [hmu]
    unfold mu Gp.del Gp.post
    rw [← hR]
    show wb (l ++ R.outs) + 6 * npend n (upd g.ms x.1 R.m) + 1 ≤ _
    rw [wb_app]
    omega
  have w1 : x.2.kind ≠ 2 → wt x.2 = 1 := fun h => by unfold wt; rw [if_neg h]
  have w2 : x.2.kind = 2 → wt x.2 = 2 := fun h => by unfold wt; rw [if_pos h]
  generalize hR : (g.ms x.1).inn x.2 (stOf (g.ms x.1)) = R at hC key
  refine key R rfl ?_
  cases hC with
  | beat e hk => rw [w1 (by omega)]; show 0 + 6 * pend (g.ms x.1) + 1 ≤ _; omega
  | take e hk h2 => rw [w2 hk]; show 1 + 6 * 0 + 1 ≤ _; omega
  | again e hk h1 h2 => rw [w2 hk]; show 1 + 6 * pend (g.ms x.1) + 1 ≤ _; omega
  | no e hk h1 => rw [w2 hk]; show 1 + 6 * pend (g.ms x.1) + 1 ≤ _; omega
  | acc e hk p d ho hst hid hs ha hg =>
    rw [w1 (by omega)]
    have e1 : pend (g.ms x.1) = 1 := by
      unfold pend; rw [ho]
      have : p.agreed = false := agreed_not.2 (fun e => by rw [e] at ha; rw [hs] at ha; cases ha)
      simp [this]
    have e2 := pend_le { g.ms x.1 with own := some (p.more x.2.frm d) }
    rw [e1]
    show 0 + 6 * pend { g.ms x.1 with own := some (p.more x.2.frm d) } + 1 ≤ _
    omega
  | all e hk p d ho hst hid hs ha hg =>
    rw [w1 (by omega)]
    have e1 : pend (g.ms x.1) = 1 := by
      unfold pend; rw [ho]
      have : p.agreed = false := agreed_not.2 (fun e => by rw [e] at ha; rw [hs] at ha; cases ha)
      simp [this]
    have e2 : pend (Mm.install { g.ms x.1 with own := some (p.more x.2.frm d) } (p.more x.2.frm d)) = 0 := by
      unfold pend Mm.install
      have : ({ p.more x.2.frm d with sts := joinD (p.more x.2.frm d).sts } : Pp).agreed = true := hg
      simp [this]
    have e3 : wb ((g.ms x.1).others p |>.map (fun i => (i, (g.ms x.1).commit { p.more x.2.frm d with sts := joinD (p.more x.2.frm d).sts }))) ≤ 6 := by
      rw [wb_one (fun y hy => by obtain ⟨i, _, rfl⟩ := List.mem_map.1 hy; show (5 : Nat) ≠ 2; omega), List.length_map]
      exact others_le6 _ _ (own64 h hd ho)
    rw [e1]
    show wb _ + 6 * pend (Mm.install { g.ms x.1 with own := some (p.more x.2.frm d) } (p.more x.2.frm d)) + 1 ≤ _
    rw [e2]
    exact Nat.le_trans (Nat.add_le_add_right (Nat.add_le_add_right e3 _) _) (by omega)
  | kill e hk p ho hg hid hl => rw [w1 (by omega)]; show 0 + 6 * 0 + 1 ≤ _; omega
  | high e hk hn => rw [w1 (by omega)]; show 0 + 6 * pend (g.ms x.1) + 1 ≤ _; omega
  | inst e hk h1 h2 => rw [w1 (by omega)]; show 0 + 6 * pend (g.ms x.1) + 1 ≤ _; omega
  | skip e h3 ha hc => rw [w1 (by omega)]; show 0 + 6 * pend (g.ms x.1) + 1 ≤ _; omega

/-- Whoever has not accepted a pending proposal will hear of it, or be heard. -/
def F1 (n : Nat) (g : Gp) (i : Nat) : Prop := ∀ p, (g.ms i).own = some p → p.agreed = false → ∀ k, k < n → k ≠ i → p.set.testBit k = true → p.acc.testBit k = false →
  (∃ x ∈ g.bag, x.1 = k ∧ x.2.kind = 2 ∧ x.2.frm = (i : Int) ∧ x.2.id = p.id) ∨ (∃ x ∈ g.bag, x.1 = i ∧ x.2.kind = 3 ∧ x.2.frm = (k : Int) ∧ x.2.id = p.id) ∨ (∃ x ∈ g.bag, x.1 = i ∧ x.2.kind = 4 ∧ x.2.frm = (k : Int) ∧ x.2.id = p.id ∧ vlt p.id x.2.prom)
/-- Whoever is in a view that was agreed upon has it, has accepted a later one, or will hear of it. -/
def F2 (n : Nat) (g : Gp) (i : Nat) : Prop := ∀ p, (g.ms i).own = some p → p.agreed = true → ∀ k, k < n → k ≠ i → p.set.testBit k = true →
  vle p.id (g.ms k).cur ∨ vlt p.id (g.ms k).prom ∨ ∃ x ∈ g.bag, x.1 = k ∧ x.2.kind = 5 ∧ x.2.frm = (i : Int) ∧ x.2.id = p.id
/-- A frame comes: both stay. -/
theorem del_F (h : GInv n g H) {x : Nat × PF} {l : List (Nat × PF)} (hb : g.bag = x :: l) (hi : i < n) (f1 : F1 n g i) (f2 : F2 n g i) : F1 n (g.del x l) i ∧ F2 n (g.del x l) i := by
  have hF := h.bag x (by rw [hb]; simp)
  have hs := in_step h (stOf (g.ms x.1)) hF
  obtain ⟨hd, j, hfrm, hj, hne, hB⟩ := hF
  have hC := in_cases h (stOf (g.ms x.1)) hd hfrm hj hne hB
  have hself := (h.mi x.1 hd).hs
  unfold Gp.del
  generalize hR : (g.ms x.1).inn x.2 (stOf (g.ms x.1)) = R at hC hs
  clear hR
  have inl : ∀ y ∈ l, y ∈ (g.post x.1 l R).bag := fun y hy => List.mem_append_left _ hy
  have inr : ∀ y ∈ R.outs, y ∈ (g.post x.1 l R).bag := fun y hy => List.mem_append_right _ hy
  have hms : ∀ k, (g.post x.1 l R).ms k = upd g.ms x.1 R.m k := fun _ => rfl
  have hcu : ∀ k, vle (g.ms k).cur ((g.post x.1 l R).ms k).cur := fun k => hs.curs k
  have hpr : ∀ k, vle (g.ms k).prom ((g.post x.1 l R).ms k).prom := fun k => hs.prom k
  by_cases hid0 : i = x.1
  · -- the node itself
    subst hid0
    -- its own proposal is as it was, and no frame that counts was the one that came
    have same1 : (∀ q, R.m.own = some q → (g.ms x.1).own = some q) → (∀ p, (g.ms x.1).own = some p → p.agreed = false → x.2.kind = 3 → ¬ (x.2.id = p.id ∧ p.set.testBit j = true ∧ p.acc.testBit j = false)) → (∀ p, (g.ms x.1).own = some p → p.agreed = false → x.2.kind = 4 → ¬ (x.2.id = p.id ∧ vlt p.id x.2.prom)) → F1 n (g.post x.1 l R) x.1 := by
      intro ho h3 h4 p hp hg k hk hki hsk hak
      rw [hms, upd_same] at hp
      have hp' := ho p hp
      rcases f1 p hp' hg k hk hki hsk hak with ⟨y, hy, a1, a2, a3, a4⟩ | ⟨y, hy, a1, a2, a3, a4⟩ | ⟨y, hy, a1, a2, a3, a4, a5⟩
      all_goals rw [hb, List.mem_cons] at hy
      · rcases hy with rfl | hy
        · exact absurd a1.symm hki
        · exact .inl ⟨y, inl y hy, a1, a2, a3, a4⟩
      · rcases hy with rfl | hy
        · have : j = k := by rw [hfrm] at a3; omega
          subst this
          exact absurd ⟨a4, hsk, hak⟩ (h3 p hp' hg a2)
        · exact .inr (.inl ⟨y, inl y hy, a1, a2, a3, a4⟩)
      · rcases hy with rfl | hy
        · exact absurd ⟨a4, a5⟩ (h4 p hp' hg a2)
        · exact .inr (.inr ⟨y, inl y hy, a1, a2, a3, a4, a5⟩)
    have same2 : (∀ q, R.m.own = some q → q.agreed = true → (g.ms x.1).own = some q) → F2 n (g.post x.1 l R) x.1 := by
      intro ho p hp hg k hk hki hsk
      rw [hms, upd_same] at hp
      rcases f2 p (ho p hp hg) hg k hk hki hsk with a | a | ⟨y, hy, a1, a2⟩
      · exact .inl (vle_trans a (hcu k))
      · exact .inr (.inl (vlt_of_lt_le a (hpr k)))
      · rw [hb, List.mem_cons] at hy
        rcases hy with rfl | hy
        · exact absurd a1.symm hki
        · exact .inr (.inr ⟨y, inl y hy, a1, a2⟩)
    cases hC with
    | beat e hk => exact ⟨same1 (fun _ h => h) (fun _ _ _ h => by omega) (fun _ _ _ h => by omega), same2 (fun _ h _ => h)⟩
    | take e hk h2 => exact ⟨same1 (fun q hq => by cases hq) (fun _ _ _ h => by omega) (fun _ _ _ h => by omega), same2 (fun q hq => by cases hq)⟩
    | again e hk h1 h2 => exact ⟨same1 (fun _ h => h) (fun _ _ _ h => by omega) (fun _ _ _ h => by omega), same2 (fun _ h _ => h)⟩
    | no e hk h1 => exact ⟨same1 (fun _ h => h) (fun _ _ _ h => by omega) (fun _ _ _ h => by omega), same2 (fun _ h _ => h)⟩
    | inst e hk h1 h2 => exact ⟨same1 (fun _ h => h) (fun _ _ _ h => by omega) (fun _ _ _ h => by omega), same2 (fun _ h _ => h)⟩
    | skip e h3 ha hc => exact ⟨same1 (fun _ h => h) (fun p hp _ h => ha h p hp) (fun _ _ _ h => by omega), same2 (fun _ h _ => h)⟩
    | high e hk hn => exact ⟨same1 (fun _ h => h) (fun _ _ _ h => by omega) (fun p hp hg _ hh => hn p hp ⟨hg, hh.1, by rw [hh.1]; exact hh.2⟩), same2 (fun _ h _ => h)⟩
    | kill e hk p ho hg hid hl => exact ⟨fun q hq => (by rw [hms, upd_same] at hq; cases hq), fun q hq => (by rw [hms, upd_same] at hq; cases hq)⟩
    | acc e hk p d ho hst hid hs2 ha hg =>
      have hpend : p.agreed = false := agreed_not.2 (fun e => by rw [e] at ha; rw [hs2] at ha; cases ha)
      have hj16 : j < 16 := by have := h.n6; omega
      refine ⟨fun p' hp' hg' k hk2 hki hsk hak => ?_, fun p' hp' hg' => ?_⟩
      · rw [hms, upd_same] at hp'
        have e1 : p.more x.2.frm d = p' := by simpa using hp'
        subst e1
        rw [hfrm, more_bit hj16, Bool.or_eq_false_iff] at hak
        have hjk : j ≠ k := fun e => by simp [e] at hak
        rcases f1 p ho hpend k hk2 hki hsk hak.1 with ⟨y, hy, a1, a2, a3, a4⟩ | ⟨y, hy, a1, a2, a3, a4⟩ | ⟨y, hy, a1, a2, a3, a4, a5⟩
        all_goals rw [hb, List.mem_cons] at hy
        · rcases hy with rfl | hy
          · omega
          · exact .inl ⟨y, inl y hy, a1, a2, a3, a4⟩
        · rcases hy with rfl | hy
          · rw [hfrm] at a3; omega
          · exact .inr (.inl ⟨y, inl y hy, a1, a2, a3, a4⟩)
        · rcases hy with rfl | hy
          · omega
          · exact .inr (.inr ⟨y, inl y hy, a1, a2, a3, a4, a5⟩)
      · rw [hms, upd_same] at hp'
        have e1 : p.more x.2.frm d = p' := by simpa using hp'
        subst e1
        rw [hg] at hg'; cases hg'
    | all e hk p d ho hst hid hs2 ha hg =>
      refine ⟨fun p' hp' hg' => ?_, fun p' hp' hg' k hk2 hki hsk => ?_⟩
      · rw [hms, upd_same] at hp'
        have e1 : ({ p.more x.2.frm d with sts := joinD (p.more x.2.frm d).sts } : Pp) = p' := by simpa [Mm.install] using hp'
        subst e1
        have : ({ p.more x.2.frm d with sts := joinD (p.more x.2.frm d).sts } : Pp).agreed = true := hg
        rw [this] at hg'; cases hg'
      · rw [hms, upd_same] at hp'
        have e1 : ({ p.more x.2.frm d with sts := joinD (p.more x.2.frm d).sts } : Pp) = p' := by simpa [Mm.install] using hp'
        subst e1
        obtain ⟨_, _, hset, _⟩ := h.ownset hd ho
        have hmem : k ∈ (g.ms x.1).others p := (mem_others (n := n) (by have := h.n6; omega) (by rw [hself]; exact hd) hset).2 ⟨hk2, hsk, by rw [hself]; exact hki⟩
        refine .inr (.inr ⟨_, inr _ (List.mem_map.2 ⟨k, hmem, rfl⟩), rfl, rfl, ?_, rfl⟩)
        show (((g.ms x.1).self : Nat) : Int) = _
        rw [hself]
  · -- another node
    have hown : (g.post x.1 l R).ms i = g.ms i := upd_other _ _ hid0
    refine ⟨fun p hp hg k hk hki hsk hak => ?_, fun p hp hg k hk hki hsk => ?_⟩
    · rw [hown] at hp
      rcases f1 p hp hg k hk hki hsk hak with ⟨y, hy, a1, a2, a3, a4⟩ | ⟨y, hy, a1, a2, a3, a4⟩ | ⟨y, hy, a1, a2, a3, a4, a5⟩
      all_goals rw [hb, List.mem_cons] at hy
      · rcases hy with rfl | hy
        · have hji : j = i := by rw [hfrm] at a3; omega
          subst hji
          subst a1
          cases hC with
          | beat e hk => omega
          | take e hk h2 => exact .inr (.inl ⟨_, inr _ (List.mem_singleton.2 rfl), rfl, rfl, by show (((g.ms y.1).self : Nat) : Int) = _; rw [hself], a4⟩)
          | again e hk h1 h2 => exact .inr (.inl ⟨_, inr _ (List.mem_singleton.2 rfl), rfl, rfl, by show (((g.ms y.1).self : Nat) : Int) = _; rw [hself], a4⟩)
          | no e hk h1 =>
            rcases h1 with h1 | h1
            · refine .inr (.inr ⟨_, inr _ (List.mem_singleton.2 rfl), rfl, rfl, by show (((g.ms y.1).self : Nat) : Int) = _; rw [hself], a4, ?_⟩)
              rw [← a4]; exact h1
            · have := h.com y.1 j p hd hj (fun e => hne e.symm) hp (by rw [← a4]; exact h1)
              rw [hg] at this; cases this
          | acc e hk => omega
          | all e hk => omega
          | kill e hk => omega
          | high e hk => omega
          | inst e hk => omega
          | skip e h3 => omega
        · exact .inl ⟨y, inl y hy, a1, a2, a3, a4⟩
      · rcases hy with rfl | hy
        · exact absurd a1.symm hid0
        · exact .inr (.inl ⟨y, inl y hy, a1, a2, a3, a4⟩)
      · rcases hy with rfl | hy
        · exact absurd a1.symm hid0
        · exact .inr (.inr ⟨y, inl y hy, a1, a2, a3, a4, a5⟩)
    · rw [hown] at hp
      rcases f2 p hp hg k hk hki hsk with a | a | ⟨y, hy, a1, a2, a3, a4⟩
      · exact .inl (vle_trans a (hcu k))
      · exact .inr (.inl (vlt_of_lt_le a (hpr k)))
      · rw [hb, List.mem_cons] at hy
        rcases hy with rfl | hy
        · subst a1
          cases hC with
          | beat e hk => omega
          | take e hk => omega
          | again e hk => omega
          | no e hk => omega
          | acc e hk => omega
          | all e hk => omega
          | kill e hk => omega
          | high e hk => omega
          | inst e hk h1 h2 =>
            left
            rw [hms, upd_same, ← a4]
            exact vle_refl _
          | skip e h3 ha hc =>
            have hacc : vle p.id (g.ms y.1).prom := h.acc i p y.1 hi hp (by rw [agreed_iff.1 hg]; exact hsk) hd
            rcases hc a2 with h5 | h5
            · rcases vle_lt_or_eq hacc with e5 | e5
              · exact absurd (a4.trans e5) h5
              · right; left
                rw [hms, upd_same]; exact e5
            · left
              rw [hms, upd_same, ← a4, h5]
              exact vle_refl _
        · exact .inr (.inr ⟨y, inl y hy, a1, a2, a3, a4⟩)
/-- A node ticks: both hold for it, and stay for others. -/
theorem remind_has {m : Mm} {p : Pp} (hn : n ≤ 16) (hsf : m.self = i) (hi : i < n) (hp : m.own = some p) (hset : p.set < 2 ^ n) {k : Nat} (hk : k < n) (hki : k ≠ i) (hsk : p.set.testBit k = true) :
    (p.agreed = true → (m.told k).1 ≠ p.id → (k, m.commit p) ∈ m.remind) ∧ (p.agreed = false → p.acc.testBit k = false → (k, m.ask p) ∈ m.remind) := by
  have hmem : k ∈ m.others p := (mem_others hn (by rw [hsf]; exact hi) hset).2 ⟨hk, hsk, by rw [hsf]; exact hki⟩
  refine ⟨fun hg ht => ?_, fun hg ha => ?_⟩
  · unfold Mm.remind
    rw [hp]
    simp only [hg, if_true]
    exact List.mem_map.2 ⟨k, List.mem_filter.2 ⟨hmem, by simp [ht]⟩, rfl⟩
  · unfold Mm.remind
    rw [hp]
    simp only [hg]
    rw [if_neg (by simp)]
    exact List.mem_map.2 ⟨k, List.mem_filter.2 ⟨hmem, by rw [hasN_nat _ (by omega), ha]; rfl⟩, rfl⟩
theorem tick_F (h : GInv n g H) {m : Nat} (hm : m < n) (est : Nat) (hi : i < n) (hf : i ≠ m → F1 n g i ∧ F2 n g i) : F1 n (g.post m g.bag ((g.ms m).tick est (stOf (g.ms m)))) i ∧ F2 n (g.post m g.bag ((g.ms m).tick est (stOf (g.ms m)))) i := by
  obtain ⟨H', hs⟩ := tick_step h hm est (stOf (g.ms m))
  have h' := h.step hm hs (fun x hx => hx)
  have hself := (h.mi m hm).hs
  by_cases e : i = m
  · subst e
    have key : ∀ R : Res, R.outs = R.m.remind ∨ (∃ p, R.m.own = some p ∧ p.agreed = true ∧ ∀ k, k ≠ i → p.set.testBit k = false) → R.m.self = i → TOk n g.ms i R.m.told → (∀ p, R.m.own = some p → p.set < 2 ^ n) → F1 n (g.post i g.bag R) i ∧ F2 n (g.post i g.bag R) i := by
      intro R hR hsf htold hset
      refine ⟨fun p hp hg k hk hki hsk hak => ?_, fun p hp hg k hk hki hsk => ?_⟩
      · have hp' : R.m.own = some p := by have : (upd g.ms i R.m i).own = some p := hp; rwa [upd_same] at this
        rcases hR with hR | ⟨p2, hp2, hg2, _⟩
        · refine .inl ⟨_, List.mem_append_right _ (by rw [hR]; exact (remind_has (by have := h.n6; omega) hsf hi hp' (hset p hp') hk hki hsk).2 hg hak), rfl, rfl, ?_, rfl⟩
          show ((R.m.self : Nat) : Int) = _
          rw [hsf]
        · rw [hp2] at hp'
          have : p2 = p := by simpa using hp'
          subst this
          rw [hg2] at hg; cases hg
      · have hp' : R.m.own = some p := by have : (upd g.ms i R.m i).own = some p := hp; rwa [upd_same] at this
        rcases hR with hR | ⟨p2, hp2, _, hb2⟩
        · by_cases ht : (R.m.told k).1 = p.id
          · left
            show vle p.id (upd g.ms i R.m k).cur
            rw [upd_other _ _ hki, ← ht]
            exact ((htold k).1 hk hki).1
          · refine .inr (.inr ⟨_, List.mem_append_right _ (by rw [hR]; exact (remind_has (by have := h.n6; omega) hsf hi hp' (hset p hp') hk hki hsk).1 hg ht), rfl, rfl, ?_, rfl⟩)
            show ((R.m.self : Nat) : Int) = _
            rw [hsf]
        · rw [hp2] at hp'
          have : p2 = p := by simpa using hp'
          subst this
          rw [hb2 k hki] at hsk; cases hsk
    refine key _ ?_ hs.inv.hs hs.told (fun p hp => ?_)
    · unfold Mm.tick
      split
      · split
        · rename_i h1 h2
          right
          refine ⟨_, rfl, h2, fun k hk => ?_⟩
          have e1 := agreed_iff.1 h2
          show (((g.ms i).prop ((g.ms i).estOf est) (stOf (g.ms i))).set).testBit k = false
          rw [← e1]
          show (withN 0 ((g.ms i).self : Nat)).testBit k = false
          rw [withN_bit _ _ _ (by rw [hself]; have := h.n6; omega), hself]
          simp
          exact fun e => hk e.symm
        · exact .inl rfl
      · exact .inl rfl
    · have := h'.ownset hi (p := p) (by show (upd g.ms i _ i).own = _; rw [upd_same]; exact hp)
      exact this.2.2.1
  · obtain ⟨f1, f2⟩ := hf e
    have hown : (g.post m g.bag ((g.ms m).tick est (stOf (g.ms m)))).ms i = g.ms i := upd_other _ _ e
    refine ⟨fun p hp hg k hk hki hsk hak => ?_, fun p hp hg k hk hki hsk => ?_⟩
    · rw [hown] at hp
      rcases f1 p hp hg k hk hki hsk hak with ⟨y, hy, a⟩ | ⟨y, hy, a⟩ | ⟨y, hy, a⟩
      · exact .inl ⟨y, List.mem_append_left _ hy, a⟩
      · exact .inr (.inl ⟨y, List.mem_append_left _ hy, a⟩)
      · exact .inr (.inr ⟨y, List.mem_append_left _ hy, a⟩)
    · rw [hown] at hp
      rcases f2 p hp hg k hk hki hsk with a | a | ⟨y, hy, a⟩
      · exact .inl (vle_trans a (hs.curs k))
      · exact .inr (.inl (vlt_of_lt_le a (hs.prom k)))
      · exact .inr (.inr ⟨y, List.mem_append_left _ hy, a⟩)
/-- Nothing is under way, and no proposal is pending. -/
structure Quiet (n : Nat) (g : Gp) : Prop where
  bag : g.bag = []
  own : ∀ i, i < n → ∀ p, (g.ms i).own = some p → p.agreed = true
  f2 : ∀ i, i < n → F2 n g i
theorem quiet_of (h : GInv n g H) (hb : g.bag = []) (hf : ∀ i, i < n → F1 n g i ∧ F2 n g i) : Quiet n g where
  bag := hb
  own := fun i hi p hp => by
    cases hg : p.agreed with
    | true => rfl
    | false =>
      obtain ⟨_, _, _, o4, o5⟩ := (h.mi i hi).own p hp
      obtain ⟨_, _, hset, _⟩ := h.ownset hi hp
      have hne := agreed_not.1 hg
      exfalso
      apply hne
      apply Nat.eq_of_testBit_eq
      intro k
      by_cases hs : p.set.testBit k = true
      · by_cases ha : p.acc.testBit k = true
        · rw [hs, ha]
        · have ha' : p.acc.testBit k = false := by simpa using ha
          have hki : k ≠ i := fun e => by rw [e, o4] at ha'; cases ha'
          rcases (hf i hi).1 p hp hg k (bit_small hset hs) hki hs ha' with ⟨y, hy, _⟩ | ⟨y, hy, _⟩ | ⟨y, hy, _⟩ <;> (rw [hb] at hy; cases hy)
      · have hs' : p.set.testBit k = false := by simpa using hs
        rw [hs']
        cases ha : p.acc.testBit k with
        | false => rfl
        | true => exact absurd (o5 k ha) hs
  f2 := fun i hi => (hf i hi).2
end
end Go.Proofs.YtlonbbepoamnmaaDoor
