/-
  Rounds of nodes that hear of one another, each step (plain data).
-/
import Derived.Test.YtlonbbepoamnmaaDoorPSet2
namespace Go.Proofs.YtlonbbepoamnmaaDoor
set_option linter.unusedVariables false

section
variable {n i : Nat} {g : Gp} {H : List (Vid × Nat)} {x : Nat × PF} {l : List (Nat × PF)}
theorem RI.del {P : Nat → Vid} (h : GInv n g H) (hb : g.bag = x :: l) (r : RI n P g) : RI n P (g.del x l) := by
  obtain ⟨c1, c2, c3, c4, _⟩ := del_common h hb r.pr r.pd
  have hs := in_step h (stOf (g.ms x.1)) (h.bag x (by rw [hb]; simp))
  unfold Gp.del
  generalize (g.ms x.1).inn x.2 (stOf (g.ms x.1)) = R at *
  have p0 : ((g.post x.1 l R).ms 0).prom = (g.ms 0).prom := by
    show (upd g.ms x.1 R.m 0).prom = _
    by_cases e : x.1 = 0
    · rw [e, upd_same]; exact c2 e
    · rw [upd_other _ _ (fun h => e h.symm)]
  have hl : ∀ y ∈ l, y ∈ g.bag := fun y hy => by rw [hb]; exact List.mem_cons_of_mem _ hy
  refine ⟨fun y hy hk => ?_, fun j hj => ?_, fun y hy hk => ?_, fun j hj h0 => ?_, fun j hj h0 => ?_⟩
  · rw [p0]
    exact (List.mem_append.1 hy).elim (fun hy => r.pr y (hl y hy) hk) (fun hy => absurd hk (c1 y hy).2)
  · rw [p0]
    show (upd g.ms x.1 R.m j).prom = _ ∨ (upd g.ms x.1 R.m j).prom = _
    by_cases e : j = x.1
    · subst e
      rw [upd_same]
      by_cases e0 : x.1 = 0
      · exact .inr (c2 e0)
      · rcases (c3 e0).1 with a | a
        · rw [a]; exact r.pm _ hj
        · exact .inr a
    · rw [upd_other _ _ e]; exact r.pm j hj
  · exact (List.mem_append.1 hy).elim (fun hy => r.bt y (hl y hy) hk) (fun hy => absurd hk (c1 y hy).1)
  · show ∀ p, (upd g.ms x.1 R.m j).own = some p → _
    by_cases e : j = x.1
    · subst e; rw [upd_same]; exact (c3 h0).2
    · rw [upd_other _ _ e]; exact r.pd j hj h0
  · show (((upd g.ms x.1 R.m 0).told j).2 = P j ∧ (P j).1 ≤ (upd g.ms x.1 R.m 0).high) ∨ _
    by_cases e : x.1 = 0
    · have hhi : (g.ms 0).high ≤ R.m.high := by have := hs.hi; rw [e] at this; exact this
      rw [e, upd_same]
      rw [e] at c4
      rcases c4 with ⟨k1, t1, t2⟩ | ⟨k1, t1⟩
      · by_cases ej : x.2.frm = (j : Int)
        · have hp := r.bt x (by rw [hb]; simp) k1 e j ej
          left
          rw [t1, ej, Int.toNat_natCast, upd_same]
          refine ⟨hp, ?_⟩
          have : (P j).1 = x.2.promN := by rw [← hp]; rfl
          omega
        · have e1 : (R.m.told j) = ((g.ms 0).told j) := by
            rw [t1]
            refine upd_other _ _ (fun e2 => ej ?_)
            obtain ⟨_, j', hf, _⟩ := h.bag x (by rw [hb]; simp)
            rw [hf, Int.toNat_natCast] at e2
            rw [hf, e2]
          rw [e1]
          rcases r.hd j hj h0 with ⟨a, b⟩ | ⟨y, hy, a1, a2, a3⟩
          · exact .inl ⟨a, Nat.le_trans b hhi⟩
          · rw [hb, List.mem_cons] at hy
            rcases hy with rfl | hy
            · exact absurd a3 ej
            · exact .inr ⟨y, List.mem_append_left _ hy, a1, a2, a3⟩
      · rw [t1]
        rcases r.hd j hj h0 with ⟨a, b⟩ | ⟨y, hy, a1, a2, a3⟩
        · exact .inl ⟨a, Nat.le_trans b hhi⟩
        · rw [hb, List.mem_cons] at hy
          rcases hy with rfl | hy
          · exact absurd a2 k1
          · exact .inr ⟨y, List.mem_append_left _ hy, a1, a2, a3⟩
    · rw [upd_other _ _ (fun h => e h.symm)]
      rcases r.hd j hj h0 with a | ⟨y, hy, a1, a2, a3⟩
      · exact .inl a
      · rw [hb, List.mem_cons] at hy
        rcases hy with rfl | hy
        · exact absurd a1 e
        · exact .inr ⟨y, List.mem_append_left _ hy, a1, a2, a3⟩
theorem EI.del {c : Vid} (h : GInv n g H) (hb : g.bag = x :: l) (r : EI n c g) : EI n c (g.del x l) := by
  obtain ⟨c1, c2, c3, _, c5⟩ := del_common h hb r.pr r.pd
  have hF := h.bag x (by rw [hb]; simp)
  have h1 := h.n1
  unfold Gp.del
  have p0 : ((g.post x.1 l ((g.ms x.1).inn x.2 (stOf (g.ms x.1)))).ms 0).prom = (g.ms 0).prom := by
    show (upd g.ms x.1 _ 0).prom = _
    by_cases e : x.1 = 0
    · rw [e, upd_same, ← c2 e, e]
    · rw [upd_other _ _ (fun h => e h.symm)]
  have hl : ∀ y ∈ l, y ∈ g.bag := fun y hy => by rw [hb]; exact List.mem_cons_of_mem _ hy
  refine ⟨fun y hy hk => ?_, ?_, fun j hj => ?_, by rw [p0]; exact r.cc, fun j hj h0 => ?_⟩
  · rw [p0]
    exact (List.mem_append.1 hy).elim (fun hy => r.pr y (hl y hy) hk) (fun hy => absurd hk (c1 y hy).2)
  · obtain ⟨p, hp, hset⟩ := r.own
    show ∃ q, (upd g.ms x.1 _ 0).own = some q ∧ _
    by_cases e : x.1 = 0
    · rw [e] at c5
      rw [e, upd_same]
      rcases c5 p hp with ⟨q, hq, hqs⟩ | hk | ⟨hk, hid, hlt⟩
      · exact ⟨q, by rw [← hq], by rw [hqs]; exact hset⟩
      · obtain ⟨_, j, hf, _, hne, _⟩ := hF
        have := (r.pr x (by rw [hb]; simp) hk).1
        rw [hf] at this
        omega
      · exfalso
        obtain ⟨_, j, hf, hj, hne, hB⟩ := hF
        have hpr : vle x.2.prom (g.ms j).prom := by
          rcases hB with ⟨k, _⟩ | ⟨k, _⟩ | ⟨k, _⟩ | ⟨k, a⟩ | ⟨k, _⟩
          all_goals first | exact a | omega
        have hpid := ((h.mi 0 (by omega)).own p hp).1
        rw [hid, hpid] at hlt
        exact vlt_irr _ (vlt_of_lt_le hlt (vle_trans hpr (r.le j hj)))
    · rw [upd_other _ _ (fun h => e h.symm)]
      exact ⟨p, hp, hset⟩
  · rw [p0]
    show vle (upd g.ms x.1 _ j).prom _
    by_cases e : j = x.1
    · subst e
      rw [upd_same]
      by_cases e0 : x.1 = 0
      · rw [c2 e0]; exact vle_refl _
      · rcases (c3 e0).1 with a | a
        · rw [a]; exact r.le _ hj
        · rw [a]; exact vle_refl _
    · rw [upd_other _ _ e]; exact r.le j hj
  · show ∀ p, (upd g.ms x.1 _ j).own = some p → _
    by_cases e : j = x.1
    · subst e; rw [upd_same]; exact (c3 h0).2
    · rw [upd_other _ _ e]; exact r.pd j hj h0

/-- What is known to node 0. -/
def Kn (n : Nat) (g : Gp) : Prop := ∀ j, j < n → (g.ms j).prom.1 ≤ (g.ms 0).high ∧ (vle (g.ms j).prom ((g.ms 0).told j).2 ∨ vle (g.ms j).prom (g.ms 0).prom)
theorem RI.kn {P : Nat → Vid} (h : GInv n g H) (r : RI n P g) (hb : g.bag = []) : Kn n g := by
  intro j hj
  have h1 := h.n1
  have hph := (h.mi 0 (by omega)).ph
  by_cases h0 : j = 0
  · subst h0; exact ⟨hph, .inr (vle_refl _)⟩
  · rcases r.hd j hj h0 with ⟨a, b⟩ | ⟨y, hy, _⟩
    · rcases r.pm j hj with e | e
      · rw [e]; exact ⟨b, .inl (by rw [a]; exact vle_refl _)⟩
      · rw [e]; exact ⟨hph, .inr (vle_refl _)⟩
    · rw [hb] at hy; cases hy
/-- One view of all. -/
structure St (n : Nat) (c : Vid) (g : Gp) : Prop where
  q : Quiet n g
  all : ∀ j, j < n → (g.ms j).cur = c ∧ (g.ms j).prom = c ∧ (g.ms j).cset = 2 ^ n - 1
  pos : 1 ≤ c.1
theorem EI.st {c : Vid} (h : GInv n g H) (r : EI n c g) (q : Quiet n g) : St n c g := by
  have h1 := h.n1
  obtain ⟨p, hp, hset⟩ := r.own
  have hag := q.own 0 (by omega) p hp
  obtain ⟨o1, _, o3, _⟩ := (h.mi 0 (by omega)).own p hp
  obtain ⟨d1, d2⟩ := (h.mi 0 (by omega)).done p hp hag
  have hpc : p.id = c := o1.trans r.cc
  have hpH := h.ownH 0 p (by omega) hp
  refine ⟨q, fun j hj => ?_, by rw [← hpc]; exact o3⟩
  by_cases h0 : j = 0
  · subst h0; exact ⟨d1.trans hpc, r.cc, by rw [d2, hset]⟩
  · have hle : vle (g.ms j).prom c := by have := r.le j hj; rw [r.cc] at this; exact this
    have hcp := (h.mi j hj).cp
    have hcj : (g.ms j).cur = c := by
      rcases q.f2 0 (by omega) p hp hag j hj h0 (by rw [hset]; exact all_bit hj) with a | a | ⟨y, hy, _⟩
      · rw [hpc] at a; exact vle_antisymm (vle_trans hcp hle) a
      · rw [hpc] at a; exact absurd (vlt_of_lt_le a hle) (vlt_irr _)
      · rw [q.bag] at hy; cases hy
    refine ⟨hcj, vle_antisymm hle (by rw [← hcj]; exact hcp), ?_⟩
    rcases h.curH hj with ⟨z, _⟩ | ⟨z, _⟩
    · rw [hcj] at z
      rw [hpc, z] at o3
      exact absurd o3 (by decide)
    · rw [hcj] at z
      rw [hpc, hset] at hpH
      exact h.uniq c _ _ z hpH
/-- Node 0 ticks first. -/
theorem tick0_parts (h : GInv n g H) : ∃ R : Res, (g.ms 0).tick (2 ^ n - 1) (stOf (g.ms 0)) = R ∧ R.m.told = (g.ms 0).told ∧ (∀ y ∈ R.outs, y.2.kind ≠ 1 ∧ (y.2.kind = 2 → y.2.frm = 0 ∧ y.2.id = R.m.prom)) ∧
    ((R.m.own = (g.ms 0).own ∧ R.m.prom = (g.ms 0).prom ∧ R.m = g.ms 0 ∧ (g.ms 0).proposes (2 ^ n - 1) = false) ∨ ((g.ms 0).proposes (2 ^ n - 1) = true ∧ (∃ p, R.m.own = some p ∧ p.set = 2 ^ n - 1) ∧ R.m.prom = ((g.ms 0).high + 1, 0))) := by
  have h1 := h.n1
  have hm := h.mi 0 (by omega)
  obtain ⟨H', hs⟩ := tick_step h (i := 0) (by omega) (2 ^ n - 1) (stOf (g.ms 0))
  have e : (g.ms 0).estOf (2 ^ n - 1) = 2 ^ n - 1 := by have := est_all (m := g.ms 0) (by rw [hm.hn, hm.hs]; omega) (by rw [hm.hn]; have := h.n6; omega); rw [hm.hn] at this; exact this
  have hrem : ∀ m : Mm, m.self = 0 → (∀ p, m.own = some p → p.id = m.prom) → ∀ y ∈ m.remind, y.2.kind ≠ 1 ∧ (y.2.kind = 2 → y.2.frm = 0 ∧ y.2.id = m.prom) := by
    intro m hsf hid y hy
    unfold Mm.remind at hy
    split at hy
    · cases hy
    · rename_i p hp
      split at hy
      · obtain ⟨k, _, rfl⟩ := List.mem_map.1 hy
        exact ⟨by show (5 : Nat) ≠ 1; omega, fun h => by have h' : (5 : Nat) = 2 := h; omega⟩
      · obtain ⟨k, _, rfl⟩ := List.mem_map.1 hy
        exact ⟨by show (2 : Nat) ≠ 1; omega, fun _ => ⟨by show ((m.self : Nat) : Int) = 0; rw [hsf]; rfl, hid p hp⟩⟩
  have hinv := hs.inv
  refine ⟨_, rfl, ?_⟩
  unfold Mm.tick at hinv ⊢
  rw [e] at hinv ⊢
  by_cases hpr : (g.ms 0).proposes (2 ^ n - 1) = true
  · rw [if_pos hpr] at hinv ⊢
    have hpm : ((g.ms 0).high + 1, ((g.ms 0).self : Int)) = ((g.ms 0).high + 1, (0 : Int)) := by rw [hm.hs]; rfl
    by_cases hag : ((g.ms 0).prop (2 ^ n - 1) (stOf (g.ms 0))).agreed = true
    · rw [if_pos hag]
      exact ⟨rfl, (fun y hy => by cases hy), .inr ⟨hpr, ⟨_, rfl, rfl⟩, hpm⟩⟩
    · rw [if_neg hag] at hinv ⊢
      exact ⟨rfl, hrem _ hinv.hs (fun p hp => (hinv.own p hp).1), .inr ⟨hpr, ⟨_, rfl, rfl⟩, hpm⟩⟩
  · rw [if_neg hpr] at hinv ⊢
    exact ⟨rfl, hrem _ hinv.hs (fun p hp => (hinv.own p hp).1), .inl ⟨rfl, rfl, rfl, by simpa using hpr⟩⟩
theorem RI.tick0 {P : Nat → Vid} (h : GInv n g H) (hk : ∀ y ∈ g.bag, y.2.kind = 1) (hpm : ∀ j, j < n → (g.ms j).prom = P j) (r : RI n P g) : RI n P (g.post 0 g.bag ((g.ms 0).tick (2 ^ n - 1) (stOf (g.ms 0)))) := by
  obtain ⟨R, hR, t1, t2, _⟩ := tick0_parts h
  obtain ⟨H', hs⟩ := tick_step h (i := 0) (by have := h.n1; omega) (2 ^ n - 1) (stOf (g.ms 0))
  rw [hR] at hs ⊢
  have e0 : (g.post 0 g.bag R).ms 0 = R.m := by show upd g.ms 0 R.m 0 = R.m; exact upd_same _ _ _
  refine ⟨fun y hy hk2 => ?_, fun j hj => ?_, fun y hy hk1 => ?_, fun j hj h0 => ?_, fun j hj h0 => ?_⟩
  · rw [e0]
    rcases List.mem_append.1 hy with hy | hy
    · have := hk y hy; omega
    · exact (t2 y hy).2 hk2
  · by_cases h0 : j = 0
    · subst h0; exact .inr rfl
    · left
      show (upd g.ms 0 R.m j).prom = _
      rw [upd_other _ _ h0]; exact hpm j hj
  · rcases List.mem_append.1 hy with hy | hy
    · exact r.bt y hy hk1
    · exact absurd hk1 (t2 y hy).1
  · show ∀ p, (upd g.ms 0 R.m j).own = some p → _
    rw [upd_other _ _ h0]; exact r.pd j hj h0
  · rw [e0, t1]
    rcases r.hd j hj h0 with ⟨a, b⟩ | ⟨y, hy, a⟩
    · exact .inl ⟨a, Nat.le_trans b hs.hi⟩
    · exact .inr ⟨y, List.mem_append_left _ hy, a⟩
theorem EI.tick0 (h : GInv n g H) (hk : ∀ y ∈ g.bag, y.2.kind = 1) (pd : ∀ j, j < n → ∀ p, (g.ms j).own = some p → p.agreed = true) (kn : Kn n g) (hh : (g.ms 0).high < 18446744073709551615) :
    EI n ((g.post 0 g.bag ((g.ms 0).tick (2 ^ n - 1) (stOf (g.ms 0)))).ms 0).prom (g.post 0 g.bag ((g.ms 0).tick (2 ^ n - 1) (stOf (g.ms 0)))) ∧
      ∀ c : Vid, (∀ j, j < n → (g.ms j).cur = c ∧ (g.ms j).prom = c ∧ (g.ms j).cset = 2 ^ n - 1) → 1 ≤ c.1 → ((g.post 0 g.bag ((g.ms 0).tick (2 ^ n - 1) (stOf (g.ms 0)))).ms 0).prom = c := by
  obtain ⟨R, hR, t1, t2, t3⟩ := tick0_parts h
  have h1 := h.n1
  have hm := h.mi 0 (by omega)
  rw [hR]
  have e0 : (g.post 0 g.bag R).ms 0 = R.m := by show upd g.ms 0 R.m 0 = R.m; exact upd_same _ _ _
  have hst : (g.ms 0).stands (2 ^ n - 1) = false := by
    unfold Mm.stands
    split
    · rfl
    · rename_i p hp
      rw [pd 0 (by omega) p hp]; rfl
  have hprop : (g.ms 0).proposes (2 ^ n - 1) = (g.ms 0).needs (2 ^ n - 1) := by
    unfold Mm.proposes
    rw [hst, least_all h1, hm.hs, decide_eq_true hh]
    simp
  have main : (∃ p, R.m.own = some p ∧ p.set = 2 ^ n - 1) ∧ ∀ j, j < n → vle (g.ms j).prom R.m.prom := by
    rcases t3 with ⟨a1, a2, _, a4⟩ | ⟨_, b1, b2⟩
    · rw [hprop] at a4
      unfold Mm.needs at a4
      simp only [Bool.or_eq_false_iff, Bool.not_eq_false', decide_eq_true_eq] at a4
      obtain ⟨⟨o1, o2⟩, o3⟩ := a4
      unfold Mm.opn at o1
      simp only [Bool.and_eq_true, decide_eq_true_eq] at o1
      obtain ⟨o4, o5⟩ := o1
      rcases h.curH (i := 0) (by omega) with ⟨z, _⟩ | ⟨z, _⟩
      · rw [z] at o4; exact absurd o4 (by decide)
      · obtain ⟨i0, _, z2, _, _, _, _, z7⟩ := h.hok _ _ z
        have hi0 : i0 = 0 := by
          by_cases hlt : 0 < i0
          · have := z7 0 hlt
            rw [o2, all_bit (by omega)] at this; cases this
          · omega
        rw [hi0] at z2
        obtain ⟨p, hp, hg⟩ := hm.mine z2 o5.symm (by omega)
        obtain ⟨d1, d2⟩ := hm.done p hp hg
        refine ⟨⟨p, by rw [a1]; exact hp, by rw [← d2]; exact o2⟩, fun j hj => ?_⟩
        rw [a2]
        rcases (kn j hj).2 with k | k
        · refine vle_trans k ?_
          rw [o5]
          unfold Mm.passed at o3
          have := List.any_eq_false.1 o3 j (mem_nodes.2 ⟨by have := h.n6; omega, all_bit hj⟩)
          exact not_vlt.1 (by simpa using this)
        · exact k
    · refine ⟨b1, fun j hj => ?_⟩
      rw [b2]
      left
      have := (kn j hj).1
      show (g.ms j).prom.1 < (g.ms 0).high + 1
      omega
  refine ⟨⟨fun y hy hk2 => ?_, by rw [e0]; exact main.1, fun j hj => ?_, rfl, fun j hj h0 => ?_⟩, fun c hc hpos => ?_⟩
  · rw [e0]
    rcases List.mem_append.1 hy with hy | hy
    · have := hk y hy; omega
    · exact (t2 y hy).2 hk2
  · rw [e0]
    by_cases h0 : j = 0
    · subst h0; rw [e0]; exact vle_refl _
    · show vle (upd g.ms 0 R.m j).prom _
      rw [upd_other _ _ h0]; exact main.2 j hj
  · show ∀ p, (upd g.ms 0 R.m j).own = some p → _
    rw [upd_other _ _ h0]; exact pd j hj
  · rw [e0]
    obtain ⟨k1, k2, k3⟩ := hc 0 (by omega)
    rcases t3 with ⟨_, a2, _⟩ | ⟨b0, _⟩
    · rw [a2]; exact k2
    · exfalso
      rw [hprop] at b0
      unfold Mm.needs at b0
      have o1 : (g.ms 0).opn = true := by
        unfold Mm.opn
        rw [k1, k2, decide_eq_true (show 0 < c.1 by omega)]
        simp
      have o3 : (g.ms 0).passed (2 ^ n - 1) (g.ms 0).cur = false := by
        unfold Mm.passed
        apply List.any_eq_false.2
        intro j hj
        obtain ⟨_, hb⟩ := mem_nodes.1 hj
        have hjn : j < n := by rw [Nat.testBit_two_pow_sub_one] at hb; simpa using hb
        rw [k1]
        have ht := h.told 0 (by omega) j
        by_cases h0 : j = 0
        · subst h0
          rw [ht.2 (by omega)]
          simp only [decide_eq_true_eq]
          intro hv
          have hv' : c.1 < 0 ∨ c.1 = 0 ∧ c.2 < 0 := hv
          omega
        · have := (ht.1 hjn h0).2
          rw [(hc j hjn).2.1] at this
          simp only [decide_eq_true_eq]
          exact not_vlt.2 this
      rw [o1, k3, o3] at b0
      simp at b0
end
end Go.Proofs.YtlonbbepoamnmaaDoor
