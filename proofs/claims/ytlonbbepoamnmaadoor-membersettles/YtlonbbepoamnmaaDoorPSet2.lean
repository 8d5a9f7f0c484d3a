/-
  Rounds of nodes that hear of one another: quiet, then known, then one view of all (plain data).
-/
import Derived.Test.YtlonbbepoamnmaaDoorPSet1
namespace Go.Proofs.YtlonbbepoamnmaaDoor
set_option linter.unusedVariables false

section
variable {n i : Nat} {g : Gp} {H : List (Vid × Nat)}
theorem est_all {m : Mm} (hs : m.self < m.n) (hn : m.n ≤ 16) : m.estOf (2 ^ m.n - 1) = 2 ^ m.n - 1 := by
  apply Nat.eq_of_testBit_eq
  intro x
  rw [est_bit (by omega), Nat.testBit_two_pow_sub_one]
  by_cases h : x < m.n
  · simp [h]
  · simp [h]; omega
theorem least_all (h1 : 1 ≤ n) : leastN (2 ^ n - 1) = ((0 : Nat) : Int) := least_of (by omega) (by rw [Nat.testBit_two_pow_sub_one]; simp; omega) (fun k hk => by omega)
theorem all_bit {k : Nat} (hk : k < n) : (2 ^ n - 1).testBit k = true := by rw [Nat.testBit_two_pow_sub_one]; simp [hk]
/-- Frames of which none asks for anything, or tells of a node's numbers. -/
def Soft (l : List (Nat × PF)) : Prop := ∀ x ∈ l, x.2.kind ≠ 1 ∧ x.2.kind ≠ 2
theorem tick_else (h : GInv n g H) (hi : i < n) (h0 : i ≠ 0) : (g.ms i).tick (2 ^ n - 1) (stOf (g.ms i)) = ⟨g.ms i, (g.ms i).remind, none, 0⟩ := by
  have hm := h.mi i hi
  have e : (g.ms i).estOf (2 ^ n - 1) = 2 ^ n - 1 := by have := est_all (m := g.ms i) (by rw [hm.hn, hm.hs]; exact hi) (by rw [hm.hn]; have := h.n6; omega); rw [hm.hn] at this; exact this
  unfold Mm.tick
  rw [if_neg]
  rw [e]
  unfold Mm.proposes
  rw [least_all h.n1, hm.hs]
  simp
  intro e
  omega
theorem post_still (R : Res) (hm : R.m = g.ms i) (hin : R.inst = none) : g.post i g.bag R = { g with bag := g.bag ++ R.outs } := by
  unfold Gp.post
  rw [hm, hin, upd_self]
  have : g.views i ++ insL none = g.views i := by simp [insL]
  rw [this, upd_self]
theorem remind_soft {m : Mm} (h : ∀ p, m.own = some p → p.agreed = true) : Soft m.remind := by
  intro x hx
  unfold Mm.remind at hx
  split at hx
  · cases hx
  · rename_i p hp
    rw [if_pos (h p hp)] at hx
    obtain ⟨k, _, rfl⟩ := List.mem_map.1 hx
    exact ⟨by show (5 : Nat) ≠ 1; omega, by show (5 : Nat) ≠ 2; omega⟩

structure RI (n : Nat) (P : Nat → Vid) (g : Gp) : Prop where
  pr : ∀ x ∈ g.bag, x.2.kind = 2 → x.2.frm = 0 ∧ x.2.id = (g.ms 0).prom
  pm : ∀ j, j < n → (g.ms j).prom = P j ∨ (g.ms j).prom = (g.ms 0).prom
  bt : ∀ x ∈ g.bag, x.2.kind = 1 → x.1 = 0 → ∀ j : Nat, x.2.frm = (j : Int) → x.2.prom = P j
  pd : ∀ j, j < n → j ≠ 0 → ∀ p, (g.ms j).own = some p → p.agreed = true
  hd : ∀ j, j < n → j ≠ 0 → (((g.ms 0).told j).2 = P j ∧ (P j).1 ≤ (g.ms 0).high) ∨ ∃ x ∈ g.bag, x.1 = 0 ∧ x.2.kind = 1 ∧ x.2.frm = (j : Int)
structure EI (n : Nat) (c : Vid) (g : Gp) : Prop where
  pr : ∀ x ∈ g.bag, x.2.kind = 2 → x.2.frm = 0 ∧ x.2.id = (g.ms 0).prom
  own : ∃ p, (g.ms 0).own = some p ∧ p.set = 2 ^ n - 1
  le : ∀ j, j < n → vle (g.ms j).prom (g.ms 0).prom
  cc : (g.ms 0).prom = c
  pd : ∀ j, j < n → j ≠ 0 → ∀ p, (g.ms j).own = some p → p.agreed = true
theorem RI.soft {P : Nat → Vid} (h : RI n P g) {l : List (Nat × PF)} (hl : Soft l) : RI n P { g with bag := g.bag ++ l } where
  pr := fun x hx hk => (List.mem_append.1 hx).elim (fun hx => h.pr x hx hk) (fun hx => absurd hk (hl x hx).2)
  pm := h.pm
  bt := fun x hx hk => (List.mem_append.1 hx).elim (fun hx => h.bt x hx hk) (fun hx => absurd hk (hl x hx).1)
  pd := h.pd
  hd := fun j hj h0 => (h.hd j hj h0).imp id (fun ⟨x, hx, a⟩ => ⟨x, List.mem_append_left _ hx, a⟩)
theorem EI.soft {c : Vid} (h : EI n c g) {l : List (Nat × PF)} (hl : Soft l) : EI n c { g with bag := g.bag ++ l } where
  pr := fun x hx hk => (List.mem_append.1 hx).elim (fun hx => h.pr x hx hk) (fun hx => absurd hk (hl x hx).2)
  own := h.own
  le := h.le
  cc := h.cc
  pd := h.pd

/-- What a frame that comes does, where node 0 alone proposes. -/
theorem del_common (h : GInv n g H) {x : Nat × PF} {l : List (Nat × PF)} (hb : g.bag = x :: l) (pr : ∀ y ∈ g.bag, y.2.kind = 2 → y.2.frm = 0 ∧ y.2.id = (g.ms 0).prom) (pd : ∀ j, j < n → j ≠ 0 → ∀ p, (g.ms j).own = some p → p.agreed = true) :
    Soft ((g.ms x.1).inn x.2 (stOf (g.ms x.1))).outs ∧ (x.1 = 0 → ((g.ms x.1).inn x.2 (stOf (g.ms x.1))).m.prom = (g.ms 0).prom) ∧
    (x.1 ≠ 0 → (((g.ms x.1).inn x.2 (stOf (g.ms x.1))).m.prom = (g.ms x.1).prom ∨ ((g.ms x.1).inn x.2 (stOf (g.ms x.1))).m.prom = (g.ms 0).prom) ∧ ∀ p, ((g.ms x.1).inn x.2 (stOf (g.ms x.1))).m.own = some p → p.agreed = true) ∧
    ((x.2.kind = 1 ∧ ((g.ms x.1).inn x.2 (stOf (g.ms x.1))).m.told = upd (g.ms x.1).told x.2.frm.toNat (x.2.cur, x.2.prom) ∧ x.2.promN ≤ ((g.ms x.1).inn x.2 (stOf (g.ms x.1))).m.high) ∨ (x.2.kind ≠ 1 ∧ ((g.ms x.1).inn x.2 (stOf (g.ms x.1))).m.told = (g.ms x.1).told)) ∧
    (∀ p, (g.ms x.1).own = some p → (∃ q, ((g.ms x.1).inn x.2 (stOf (g.ms x.1))).m.own = some q ∧ q.set = p.set) ∨ (x.2.kind = 2) ∨ (x.2.kind = 4 ∧ x.2.id = p.id ∧ vlt x.2.id x.2.prom)) := by
  obtain ⟨hd, j, hfrm, hj, hne, hB⟩ := h.bag x (by rw [hb]; simp)
  have hC := in_cases h (stOf (g.ms x.1)) hd hfrm hj hne hB
  have hx2 : x.2.kind = 2 → x.1 ≠ 0 ∧ x.2.id = (g.ms 0).prom := fun hk => by
    obtain ⟨a, b⟩ := pr x (by rw [hb]; simp) hk
    refine ⟨fun e => ?_, b⟩
    rw [hfrm] at a
    omega
  generalize (g.ms x.1).inn x.2 (stOf (g.ms x.1)) = R at hC
  have snil : Soft [] := fun y hy => by cases hy
  have sone : ∀ y : Nat × PF, y.2.kind ≠ 1 → y.2.kind ≠ 2 → Soft [y] := fun y h1 h2 z hz => by rw [List.mem_singleton] at hz; subst hz; exact ⟨h1, h2⟩
  cases hC with
  | beat e hk => exact ⟨snil, fun e0 => by show (g.ms x.1).prom = _; rw [e0], fun h0 => ⟨.inl rfl, pd _ hd h0⟩, .inl ⟨hk, rfl, by show x.2.promN ≤ max _ _; omega⟩, fun p hp => .inl ⟨p, hp, rfl⟩⟩
  | take e hk h2 => exact ⟨sone _ (by show (3 : Nat) ≠ 1; omega) (by show (3 : Nat) ≠ 2; omega), fun e0 => absurd e0 (hx2 hk).1, fun h0 => ⟨.inr (hx2 hk).2, fun p hp => by cases hp⟩, .inr ⟨by omega, rfl⟩, fun p hp => .inr (.inl hk)⟩
  | again e hk h1 h2 => exact ⟨sone _ (by show (3 : Nat) ≠ 1; omega) (by show (3 : Nat) ≠ 2; omega), fun e0 => by show (g.ms x.1).prom = _; rw [e0], fun h0 => ⟨.inl rfl, pd _ hd h0⟩, .inr ⟨by omega, rfl⟩, fun p hp => .inl ⟨p, hp, rfl⟩⟩
  | no e hk h1 => exact ⟨sone _ (by show (4 : Nat) ≠ 1; omega) (by show (4 : Nat) ≠ 2; omega), fun e0 => by show (g.ms x.1).prom = _; rw [e0], fun h0 => ⟨.inl rfl, pd _ hd h0⟩, .inr ⟨by omega, rfl⟩, fun p hp => .inl ⟨p, hp, rfl⟩⟩
  | acc e hk p d ho hst hid hs2 ha hg =>
    refine ⟨snil, fun e0 => by show (g.ms x.1).prom = _; rw [e0], fun h0 => ⟨.inl rfl, ?_⟩, .inr ⟨by omega, rfl⟩, fun p' hp' => .inl ⟨_, rfl, ?_⟩⟩
    · have := agreed_iff.1 (pd _ hd h0 p ho)
      rw [this, hs2] at ha; cases ha
    · rw [ho] at hp'
      have : p = p' := by simpa using hp'
      rw [← this]; rfl
  | all e hk p d ho hst hid hs2 ha hg =>
    refine ⟨fun y hy => ?_, fun e0 => by show (g.ms x.1).prom = _; rw [e0], fun h0 => ⟨.inl rfl, ?_⟩, .inr ⟨by omega, rfl⟩, fun p' hp' => .inl ⟨_, rfl, ?_⟩⟩
    · obtain ⟨k, _, rfl⟩ := List.mem_map.1 hy
      exact ⟨by show (5 : Nat) ≠ 1; omega, by show (5 : Nat) ≠ 2; omega⟩
    · have := agreed_iff.1 (pd _ hd h0 p ho)
      rw [this, hs2] at ha; cases ha
    · rw [ho] at hp'
      have : p = p' := by simpa using hp'
      rw [← this]; rfl
  | kill e hk p ho hg hid hl =>
    refine ⟨snil, fun e0 => by show (g.ms x.1).prom = _; rw [e0], fun h0 => ⟨.inl rfl, fun q hq => by cases hq⟩, .inr ⟨by omega, rfl⟩, fun p' hp' => .inr (.inr ⟨hk, ?_, hl⟩)⟩
    rw [ho] at hp'
    have : p = p' := by simpa using hp'
    rw [← this]; exact hid
  | high e hk hn => exact ⟨snil, fun e0 => by show (g.ms x.1).prom = _; rw [e0], fun h0 => ⟨.inl rfl, pd _ hd h0⟩, .inr ⟨by omega, rfl⟩, fun p hp => .inl ⟨p, hp, rfl⟩⟩
  | inst e hk h1 h2 => exact ⟨snil, fun e0 => by show (g.ms x.1).prom = _; rw [e0], fun h0 => ⟨.inl rfl, pd _ hd h0⟩, .inr ⟨by omega, rfl⟩, fun p hp => .inl ⟨p, hp, rfl⟩⟩
  | skip e h3 ha hc => exact ⟨snil, fun e0 => by show (g.ms x.1).prom = _; rw [e0], fun h0 => ⟨.inl rfl, pd _ hd h0⟩, .inr ⟨by omega, rfl⟩, fun p hp => .inl ⟨p, hp, rfl⟩⟩
end
end Go.Proofs.YtlonbbepoamnmaaDoor
