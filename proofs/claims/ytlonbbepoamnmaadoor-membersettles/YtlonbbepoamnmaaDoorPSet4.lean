/-
  Rounds of nodes that hear of one another: their phases, and how much there is (plain data).
-/
import Derived.Test.YtlonbbepoamnmaaDoorPSet3
namespace Go.Proofs.YtlonbbepoamnmaaDoor
set_option linter.unusedVariables false

section
variable {n i : Nat} {g : Gp} {H : List (Vid × Nat)}
theorem remind_le6 {m : Mm} (h : ∀ p, m.own = some p → p.set < 64) : m.remind.length ≤ 6 := by
  unfold Mm.remind
  split
  · simp
  · rename_i p hp
    have h1 := others_le6 m p (h p hp)
    split <;> rw [List.length_map]
    · exact Nat.le_trans (List.length_filter_le _ _) h1
    · exact Nat.le_trans (List.length_filter_le _ _) h1
theorem move_more (h : GInv n g H) (a : Mv) {T : Nat} (hT : ∀ i, i < n → (g.ms i).high ≤ T) : (∀ i, i < n → ((g.move n a).ms i).high ≤ T + 1) ∧ (g.move n a).bag.length ≤ g.bag.length + 6 := by
  have h1 := h.n1
  have hi : a.i % n < n := Nat.mod_lt _ (by omega)
  have hp : ∀ (d : Nat) (bag0 : List (Nat × PF)) (R : Res), d < n → R.m.high ≤ T + 1 → R.outs.length ≤ 6 → bag0.length ≤ g.bag.length → (∀ i, i < n → ((g.post d bag0 R).ms i).high ≤ T + 1) ∧ (g.post d bag0 R).bag.length ≤ g.bag.length + 6 := by
    intro d bag0 R hd r1 r2 r3
    refine ⟨fun i hi => ?_, by show (bag0 ++ R.outs).length ≤ _; rw [List.length_append]; omega⟩
    show (upd g.ms d R.m i).high ≤ _
    by_cases e : i = d
    · subst e; rw [upd_same]; exact r1
    · rw [upd_other _ _ e]; have := hT i hi; omega
  unfold Gp.move
  split
  · obtain ⟨H', hs⟩ := tick_step h hi a.est (stOf (g.ms (a.i % n)))
    have h' := h.step hi hs (fun x hx => hx)
    have h64 : ∀ p, ((g.ms (a.i % n)).tick a.est (stOf (g.ms (a.i % n)))).m.own = some p → p.set < 64 := fun p hp => own64 h' hi (p := p) (by show (upd g.ms (a.i % n) _ (a.i % n)).own = _; rw [upd_same]; exact hp)
    refine hp _ _ _ hi ?_ ?_ (Nat.le_refl _)
    · unfold Mm.tick
      have := hT _ hi
      split
      · split
        · show (g.ms (a.i % n)).high + 1 ≤ _; omega
        · show (g.ms (a.i % n)).high + 1 ≤ _; omega
      · show (g.ms (a.i % n)).high ≤ _; omega
    · unfold Mm.tick at h64 ⊢
      split
      · rename_i h2
        rw [if_pos h2] at h64
        split
        · simp
        · rename_i h3
          rw [if_neg h3] at h64
          exact remind_le6 h64
      · rename_i h2
        rw [if_neg h2] at h64
        exact remind_le6 h64
  split
  · split
    · exact ⟨fun i hi => by have := hT i hi; omega, by omega⟩
    · rename_i o ho
      have hF := h.bag o (List.mem_of_getElem? ho)
      have hd := hF.1
      split
      · refine hp _ _ _ hd ?_ ?_ (rest_le _ _)
        · obtain ⟨_, j, hfrm, hj, hne, hB⟩ := hF
          have hC := in_cases h (stOf (g.ms o.1)) hd hfrm hj hne hB
          have hT0 := hT _ hd
          have hTj := hT j hj
          have hmj := h.mi j hj
          have hcj : (g.ms j).cur.1 ≤ (g.ms j).prom.1 := vle_fst hmj.cp
          have hpj := hmj.ph
          have n1 : o.2.kind = 1 → o.2.curN ≤ T ∧ o.2.promN ≤ T := fun hk => by
            rcases hB with ⟨k, b1, b2⟩ | ⟨k, _⟩ | ⟨k, _⟩ | ⟨k, _⟩ | ⟨k, _⟩
            · have c1 : o.2.curN ≤ (g.ms j).cur.1 := vle_fst b1
              have c2 : o.2.promN ≤ (g.ms j).prom.1 := vle_fst b2
              omega
            all_goals omega
          have n2 : o.2.kind = 2 → o.2.idN ≤ T := fun hk => by
            rcases hB with ⟨k, _⟩ | ⟨k, b1, _⟩ | ⟨k, _⟩ | ⟨k, _⟩ | ⟨k, _⟩
            · omega
            · obtain ⟨i0, z1, _, _, z4, _⟩ := h.hok _ _ b1
              have := hT i0 z1
              have z4' : o.2.idN ≤ (g.ms i0).high := z4
              omega
            all_goals omega
          have n4 : o.2.kind = 4 → o.2.promN ≤ T := fun hk => by
            rcases hB with ⟨k, _⟩ | ⟨k, _⟩ | ⟨k, _⟩ | ⟨k, b1⟩ | ⟨k, _⟩
            · omega
            · omega
            · omega
            · have c2 : o.2.promN ≤ (g.ms j).prom.1 := vle_fst b1
              omega
            · omega
          generalize (g.ms o.1).inn o.2 (stOf (g.ms o.1)) = R at hC
          cases hC with
          | beat e hk => have := n1 hk; show max (max (g.ms o.1).high o.2.curN) o.2.promN ≤ _; omega
          | take e hk => have := n2 hk; show max (g.ms o.1).high o.2.idN ≤ _; omega
          | again e hk => have := n2 hk; show max (g.ms o.1).high o.2.idN ≤ _; omega
          | no e hk => have := n2 hk; show max (g.ms o.1).high o.2.idN ≤ _; omega
          | acc e hk => show (g.ms o.1).high ≤ _; omega
          | all e hk => show (g.ms o.1).high ≤ _; omega
          | kill e hk => have := n4 hk; show max (g.ms o.1).high o.2.promN ≤ _; omega
          | high e hk => have := n4 hk; show max (g.ms o.1).high o.2.promN ≤ _; omega
          | inst e hk => show (g.ms o.1).high ≤ _; omega
          | skip e h3 => show (g.ms o.1).high ≤ _; omega
        · obtain ⟨_, j, hfrm, hj, hne, hB⟩ := hF
          have hC := in_cases h (stOf (g.ms o.1)) hd hfrm hj hne hB
          generalize (g.ms o.1).inn o.2 (stOf (g.ms o.1)) = R at hC
          cases hC with
          | all e hk p d ho2 => show (List.map _ ((g.ms o.1).others p)).length ≤ 6; rw [List.length_map]; exact others_le6 _ _ (own64 h hd ho2)
          | beat e hk => simp
          | take e hk => simp
          | again e hk => simp
          | no e hk => simp
          | acc e hk => simp
          | kill e hk => simp
          | high e hk => simp
          | inst e hk => simp
          | skip e h3 => simp
      · exact ⟨fun i hi => by have := hT i hi; show (g.ms i).high ≤ _; omega, by have := rest_le g a; show (g.rest a).length ≤ _; omega⟩
  · refine ⟨fun i hi => by have := hT i hi; show (g.ms i).high ≤ _; omega, ?_⟩
    show (g.bag ++ beatsTo g (a.i % n) n).length ≤ _
    have := beats_len g (a.i % n) n
    have := h.n6
    rw [List.length_append]; omega

/-- Beats of the first nodes. -/
def Gp.bt (g : Gp) (n i : Nat) : Gp := { g with bag := g.bag ++ (List.range i).flatMap (fun j => beatsTo g j n) }
theorem bt_zero (g : Gp) (n : Nat) : g.bt n 0 = g := by unfold Gp.bt; simp
theorem bt_move (hi : i < n) : (g.bt n i).move n ⟨8, i, 0, false⟩ = g.bt n (i + 1) := by
  unfold Gp.move
  rw [if_neg (show ¬ 8 % 9 < 3 by decide), if_neg (show ¬ 8 % 9 < 8 by decide)]
  unfold Gp.bt
  rw [List.range_succ, List.flatMap_append]
  simp only [Nat.mod_eq_of_lt hi, List.flatMap_cons, List.flatMap_nil, List.append_nil, ← List.append_assoc]
  rfl
/-- What holds where a round begins. -/
def Sb (lv : Nat) (c : Vid) (n : Nat) (g : Gp) : Prop := lv = 0 ∨ (lv = 1 ∧ Quiet n g) ∨ (lv = 2 ∧ Quiet n g ∧ Kn n g) ∨ (lv = 3 ∧ St n c g)
/-- .. behind the beats. -/
def Tz (lv : Nat) (c : Vid) (n : Nat) (g : Gp) : Prop := lv = 0 ∨ ((∀ y ∈ g.bag, y.2.kind = 1) ∧ (∀ j, j < n → ∀ p, (g.ms j).own = some p → p.agreed = true) ∧
  ((lv = 1 ∧ ∃ P, (∀ j, j < n → (g.ms j).prom = P j) ∧ RI n P g) ∨ (lv = 2 ∧ Kn n g) ∨ (lv = 3 ∧ Kn n g ∧ (∀ j, j < n → (g.ms j).cur = c ∧ (g.ms j).prom = c ∧ (g.ms j).cset = 2 ^ n - 1) ∧ 1 ≤ c.1)))
/-- .. among the ticks, and till no frame is under way. -/
def Tr (lv : Nat) (c : Vid) (n : Nat) (g : Gp) : Prop := lv = 0 ∨ (lv = 1 ∧ ∃ P, RI n P g) ∨ (lv = 2 ∧ ∃ c', EI n c' g) ∨ (lv = 3 ∧ EI n c g)
def Tk (lv : Nat) (c : Vid) (n i : Nat) (g : Gp) : Prop := (∀ k, k < i → F1 n g k ∧ F2 n g k) ∧ (i = 0 → Tz lv c n g) ∧ (1 ≤ i → Tr lv c n g)
theorem bt_kind (hb : g.bag = []) : ∀ y ∈ (g.bt n n).bag, y.2.kind = 1 := by
  intro y hy
  have hy' : y ∈ g.bag ++ (List.range n).flatMap (fun j => beatsTo g j n) := hy
  rw [hb, List.nil_append] at hy'
  obtain ⟨j, _, hy⟩ := List.mem_flatMap.1 hy'
  unfold beatsTo at hy
  obtain ⟨k, _, rfl⟩ := List.mem_map.1 hy
  rfl
theorem tz_of {lv : Nat} {c : Vid} (h : GInv n g H) (hs : Sb lv c n g) : Tk lv c n 0 (g.bt n n) := by
  have h1 := h.n1
  refine ⟨fun k hk => by omega, fun _ => ?_, fun h => by omega⟩
  rcases hs with e | ⟨e, q⟩ | ⟨e, q, k⟩ | ⟨e, s⟩
  · exact .inl e
  · refine .inr ⟨bt_kind q.bag, q.own, .inl ⟨e, fun j => (g.ms j).prom, fun j hj => rfl, ?_⟩⟩
    have hk := bt_kind (n := n) q.bag
    refine ⟨fun x hx hk2 => by have := hk x hx; omega, fun j hj => .inl rfl, fun x hx _ _ j hj => ?_, fun j hj _ => q.own j hj, fun j hj h0 => .inr ?_⟩
    · have hx' : x ∈ g.bag ++ (List.range n).flatMap (fun j => beatsTo g j n) := hx
      rw [q.bag, List.nil_append] at hx'
      obtain ⟨j', _, hy⟩ := List.mem_flatMap.1 hx'
      unfold beatsTo at hy
      obtain ⟨k, _, rfl⟩ := List.mem_map.1 hy
      have : (j' : Int) = (j : Int) := hj
      have : j' = j := by omega
      subst this
      rfl
    · refine ⟨(0, beatF (g.ms j) j), List.mem_append_right _ (List.mem_flatMap.2 ⟨j, List.mem_range.2 hj, ?_⟩), rfl, rfl, rfl⟩
      unfold beatsTo
      exact List.mem_map.2 ⟨0, List.mem_filter.2 ⟨List.mem_range.2 (by omega), by simp; omega⟩, rfl⟩
  · exact .inr ⟨bt_kind q.bag, q.own, .inr (.inl ⟨e, k⟩)⟩
  · refine .inr ⟨bt_kind s.q.bag, s.q.own, .inr (.inr ⟨e, fun j hj => ?_, s.all, s.pos⟩)⟩
    have e1 : (g.ms j).prom = (g.ms 0).prom := by rw [(s.all j hj).2.1, (s.all 0 (by omega)).2.1]
    show (g.ms j).prom.1 ≤ (g.ms 0).high ∧ _
    rw [e1]
    exact ⟨(h.mi 0 (by omega)).ph, .inr (by show vle (g.ms j).prom (g.ms 0).prom; rw [e1]; exact vle_refl _)⟩
theorem tick_move (hi : i < n) : g.move n ⟨0, i, 2 ^ n - 1, false⟩ = g.post i g.bag ((g.ms i).tick (2 ^ n - 1) (stOf (g.ms i))) := by
  unfold Gp.move
  rw [if_pos (show 0 % 9 < 3 by decide)]
  simp only [Nat.mod_eq_of_lt hi]
/-- A tick of a round. -/
theorem tk_step {lv : Nat} {c : Vid} (h : GInv n g H) (hi : i < n) (hh : (g.ms 0).high < 18446744073709551615) (t : Tk lv c n i g) : Tk lv c n (i + 1) (g.move n ⟨0, i, 2 ^ n - 1, false⟩) := by
  rw [tick_move hi]
  refine ⟨fun k hk => tick_F h hi _ (by omega) (fun e => t.1 k (by omega)), fun h => by omega, fun _ => ?_⟩
  by_cases h0 : i = 0
  · subst h0
    rcases t.2.1 rfl with e | ⟨hk, pd, ⟨e, P, hP, r⟩ | ⟨e, kn⟩ | ⟨e, kn, hc, hpos⟩⟩
    · exact .inl e
    · exact .inr (.inl ⟨e, P, r.tick0 h hk hP⟩)
    · exact .inr (.inr (.inl ⟨e, _, (EI.tick0 h hk pd kn hh).1⟩))
    · obtain ⟨x1, x2⟩ := EI.tick0 h hk pd kn hh
      rw [x2 c hc hpos] at x1
      exact .inr (.inr (.inr ⟨e, x1⟩))
  · have e1 := tick_else h hi h0
    rw [e1, post_still _ rfl rfl]
    rcases t.2.2 (by omega) with e | ⟨e, P, r⟩ | ⟨e, c', r⟩ | ⟨e, r⟩
    · exact .inl e
    · exact .inr (.inl ⟨e, P, r.soft (remind_soft (r.pd i hi h0))⟩)
    · exact .inr (.inr (.inl ⟨e, c', r.soft (remind_soft (r.pd i hi h0))⟩))
    · exact .inr (.inr (.inr ⟨e, r.soft (remind_soft (r.pd i hi h0))⟩))
theorem tk_del {lv : Nat} {c : Vid} (h : GInv n g H) {x : Nat × PF} {l : List (Nat × PF)} (hb : g.bag = x :: l) (t : Tk lv c n n g) : Tk lv c n n (g.del x l) := by
  have h1 := h.n1
  refine ⟨fun k hk => del_F h hb hk (t.1 k hk).1 (t.1 k hk).2, fun h => by omega, fun _ => ?_⟩
  rcases t.2.2 h1 with e | ⟨e, P, r⟩ | ⟨e, c', r⟩ | ⟨e, r⟩
  · exact .inl e
  · exact .inr (.inl ⟨e, P, r.del h hb⟩)
  · exact .inr (.inr (.inl ⟨e, c', r.del h hb⟩))
  · exact .inr (.inr (.inr ⟨e, r.del h hb⟩))
/-- What holds where a round ends. -/
theorem tk_end {lv : Nat} {c : Vid} (h : GInv n g H) (hb : g.bag = []) (t : Tk lv c n n g) : (lv = 0 → Quiet n g) ∧ (lv = 1 → Quiet n g ∧ Kn n g) ∧ (lv = 2 → ∃ c', St n c' g) ∧ (lv = 3 → St n c g) := by
  have q := quiet_of h hb t.1
  have h1 := h.n1
  rcases t.2.2 h1 with e | ⟨e, P, r⟩ | ⟨e, c', r⟩ | ⟨e, r⟩
  · exact ⟨fun _ => q, fun e2 => by omega, fun e2 => by omega, fun e2 => by omega⟩
  · exact ⟨fun _ => q, fun _ => ⟨q, r.kn h hb⟩, fun e2 => by omega, fun e2 => by omega⟩
  · exact ⟨fun _ => q, fun e2 => by omega, fun _ => ⟨c', r.st h q⟩, fun e2 => by omega⟩
  · exact ⟨fun _ => q, fun e2 => by omega, fun e2 => by omega, fun _ => r.st h q⟩
theorem mu_le (n : Nat) (h6 : n ≤ 6) (g : Gp) : mu n g ≤ 2 * g.bag.length + 36 := by
  have := wb_le g.bag
  have := npend_le g.ms n
  unfold mu
  omega
theorem bag_mu (n : Nat) (g : Gp) : g.bag.length ≤ mu n g := by
  have : ∀ l : List (Nat × PF), l.length ≤ wb l := fun l => by
    induction l with
    | nil => simp
    | cons x l ih =>
      unfold wb at *
      rw [List.map_cons, List.sum_cons, List.length_cons]
      have : 1 ≤ wt x.2 := by unfold wt; split <;> omega
      omega
  have := this g.bag
  unfold mu
  omega
end
end Go.Proofs.YtlonbbepoamnmaaDoor
