/-
  Nodes and the frames between them, in plain data: what always holds.
  Each step of a node keeps what always holds.
  Each frame that comes keeps what always holds.
-/
import Derived.Test.YtlonbbepoamnmaaDoorMBase
namespace Go.Proofs.YtlonbbepoamnmaaDoor
set_option linter.unusedVariables false

/-- Facts of one node. -/
structure MInv (n i : Nat) (m : Mm) : Prop where
  hn : m.n = n
  hs : m.self = i
  ph : m.prom.1 ≤ m.high
  cp : vle m.cur m.prom
  own : ∀ p, m.own = some p → p.id = m.prom ∧ p.id.2 = (i : Int) ∧ 1 ≤ p.id.1 ∧ p.acc.testBit i = true ∧ (∀ k, p.acc.testBit k = true → p.set.testBit k = true)
  pend : ∀ p, m.own = some p → p.agreed = false → vlt m.cur p.id
  done : ∀ p, m.own = some p → p.agreed = true → m.cur = p.id ∧ m.cset = p.set
  mine : m.cur.2 = (i : Int) → m.cur = m.prom → 1 ≤ m.cur.1 → ∃ p, m.own = some p ∧ p.agreed = true

/-- Nodes, frames under way, and the views that each has installed. -/
structure Gp where
  ms : Nat → Mm
  bag : List (Nat × PF)
  views : Nat → List (Vid × Nat)

/-- A frame that may be under way, from node j. -/
def Body (ms : Nat → Mm) (H : List (Vid × Nat)) (dst j : Nat) (F : PF) : Prop :=
  (F.kind = 1 ∧ vle F.cur (ms j).cur ∧ vle F.prom (ms j).prom) ∨
  (F.kind = 2 ∧ (F.id, F.set) ∈ H ∧ F.idP = (j : Int) ∧ F.set.testBit dst = true) ∨
  (F.kind = 3 ∧ F.st.length = 1 ∧ vle F.id (ms j).prom) ∨
  (F.kind = 4 ∧ vle F.prom (ms j).prom) ∨
  (F.kind = 5 ∧ (F.id, F.set) ∈ H ∧ F.idP = (j : Int) ∧ F.set.testBit dst = true ∧ ∀ p, (ms j).own = some p → p.id = F.id → p.agreed = true)
def FOk (n : Nat) (ms : Nat → Mm) (H : List (Vid × Nat)) (dst : Nat) (F : PF) : Prop := dst < n ∧ ∃ j : Nat, F.frm = (j : Int) ∧ j < n ∧ j ≠ dst ∧ Body ms H dst j F
/-- A view that was proposed. -/
def HOk (n : Nat) (ms : Nat → Mm) (v : Vid) (s : Nat) : Prop := ∃ i : Nat, i < n ∧ v.2 = (i : Int) ∧ 1 ≤ v.1 ∧ v.1 ≤ (ms i).high ∧ s.testBit i = true ∧ s < 2 ^ n ∧ ∀ k, k < i → s.testBit k = false
def zero2 : Vid × Vid := ((0, 0), (0, 0))
def TOk (n : Nat) (ms : Nat → Mm) (i : Nat) (t : Nat → Vid × Vid) : Prop := ∀ j, (j < n → j ≠ i → vle (t j).1 (ms j).cur ∧ vle (t j).2 (ms j).prom) ∧ (¬ (j < n ∧ j ≠ i) → t j = zero2)
def VOk (H : List (Vid × Nat)) (i : Nat) (vs : List (Vid × Nat)) (c : Vid × Nat) : Prop :=
  vs.Pairwise (fun a b => vlt a.1 b.1) ∧ (∀ v ∈ vs, v ∈ H ∧ v.2.testBit i = true) ∧ c = vs.getLastD ((0, 0), 0)

structure GInv (n : Nat) (g : Gp) (H : List (Vid × Nat)) : Prop where
  n1 : 1 ≤ n
  n6 : n ≤ 6
  mi : ∀ i, i < n → MInv n i (g.ms i)
  hok : ∀ v s, (v, s) ∈ H → HOk n g.ms v s
  uniq : ∀ v s s', (v, s) ∈ H → (v, s') ∈ H → s = s'
  ownH : ∀ i p, i < n → (g.ms i).own = some p → (p.id, p.set) ∈ H
  acc : ∀ i p k, i < n → (g.ms i).own = some p → p.acc.testBit k = true → k < n → vle p.id (g.ms k).prom
  told : ∀ i, i < n → TOk n g.ms i (g.ms i).told
  com : ∀ i j p, i < n → j < n → i ≠ j → (g.ms j).own = some p → p.id = (g.ms i).cur → p.agreed = true
  bag : ∀ x ∈ g.bag, FOk n g.ms H x.1 x.2
  views : ∀ i, i < n → VOk H i (g.views i) ((g.ms i).cur, (g.ms i).cset)

theorem GInv.curH {n : Nat} {g : Gp} {H : List (Vid × Nat)} (h : GInv n g H) {i : Nat} (hi : i < n) : ((g.ms i).cur = (0, 0) ∧ (g.ms i).cset = 0) ∨ (((g.ms i).cur, (g.ms i).cset) ∈ H ∧ (g.ms i).cset.testBit i = true) := by
  obtain ⟨h1, h2, h3⟩ := h.views i hi
  rcases List.eq_nil_or_concat (g.views i) with e | ⟨l, x, e⟩
  · rw [e] at h3
    simp at h3
    exact .inl h3
  · have hx : ((g.ms i).cur, (g.ms i).cset) = x := by rw [h3, e]; simp
    have := h2 x (by rw [e]; simp)
    rw [← hx] at this
    exact .inr this

/-- What a step of one node owes. -/
structure LStep (n i : Nat) (ms : Nat → Mm) (H H' : List (Vid × Nat)) (m' : Mm) (outs : List (Nat × PF)) (inst : List (Vid × Nat)) : Prop where
  inv : MInv n i m'
  pr : vle (ms i).prom m'.prom
  cu : vle (ms i).cur m'.cur
  hi : (ms i).high ≤ m'.high
  sub : ∀ x ∈ H, x ∈ H'
  uniq : ∀ v s s', (v, s) ∈ H' → (v, s') ∈ H' → s = s'
  hnew : ∀ v s, (v, s) ∈ H' → (v, s) ∈ H ∨ (v.2 = (i : Int) ∧ 1 ≤ v.1 ∧ v.1 ≤ m'.high ∧ s.testBit i = true ∧ s < 2 ^ n ∧ ∀ k, k < i → s.testBit k = false)
  own : ∀ p, m'.own = some p → (p.id, p.set) ∈ H'
  acc : ∀ p k, m'.own = some p → p.acc.testBit k = true → k < n → k ≠ i → vle p.id (ms k).prom
  told : TOk n ms i m'.told
  pend : ∀ p, m'.own = some p → p.agreed = false → (∃ q, (ms i).own = some q ∧ q.agreed = false ∧ q.id = p.id) ∨ (ms i).high < p.id.1
  cur : (m'.cur = (ms i).cur ∧ m'.cset = (ms i).cset ∧ inst = []) ∨ (vlt (ms i).cur m'.cur ∧ inst = [(m'.cur, m'.cset)] ∧ (m'.cur, m'.cset) ∈ H' ∧ m'.cset.testBit i = true ∧ ∀ j p, j < n → j ≠ i → (ms j).own = some p → p.id = m'.cur → p.agreed = true)
  outs : ∀ x ∈ outs, FOk n (upd ms i m') H' x.1 x.2

section
variable {n i : Nat} {ms : Nat → Mm} {H H' : List (Vid × Nat)} {m' : Mm} {outs : List (Nat × PF)} {inst : List (Vid × Nat)}

theorem LStep.prom (s : LStep n i ms H H' m' outs inst) (j : Nat) : vle (ms j).prom (upd ms i m' j).prom := by
  by_cases e : j = i
  · subst e; rw [upd_same]; exact s.pr
  · rw [upd_other _ _ e]; exact vle_refl _
theorem LStep.curs (s : LStep n i ms H H' m' outs inst) (j : Nat) : vle (ms j).cur (upd ms i m' j).cur := by
  by_cases e : j = i
  · subst e; rw [upd_same]; exact s.cu
  · rw [upd_other _ _ e]; exact vle_refl _
theorem LStep.high (s : LStep n i ms H H' m' outs inst) (j : Nat) : (ms j).high ≤ (upd ms i m' j).high := by
  by_cases e : j = i
  · subst e; rw [upd_same]; exact s.hi
  · rw [upd_other _ _ e]; exact Nat.le_refl _
theorem LStep.fok (s : LStep n i ms H H' m' outs inst) (hok : ∀ v t, (v, t) ∈ H → HOk n ms v t) {dst : Nat} {F : PF} (h : FOk n ms H dst F) : FOk n (upd ms i m') H' dst F := by
  obtain ⟨h1, j, h2, h3, h4, h5⟩ := h
  refine ⟨h1, j, h2, h3, h4, ?_⟩
  rcases h5 with ⟨k, a, b⟩ | ⟨k, a, b, c⟩ | ⟨k, a, b⟩ | ⟨k, a⟩ | ⟨k, a, b, c, d⟩
  · exact .inl ⟨k, vle_trans a (s.curs j), vle_trans b (s.prom j)⟩
  · exact .inr (.inl ⟨k, s.sub _ a, b, c⟩)
  · exact .inr (.inr (.inl ⟨k, a, vle_trans b (s.prom j)⟩))
  · exact .inr (.inr (.inr (.inl ⟨k, vle_trans a (s.prom j)⟩)))
  · refine .inr (.inr (.inr (.inr ⟨k, s.sub _ a, b, c, fun p hp he => ?_⟩)))
    by_cases e : j = i
    · subst e
      rw [upd_same] at hp
      cases hg : p.agreed
      · rcases s.pend p hp hg with ⟨q, q1, q2, q3⟩ | hf
        · have := d q q1 (q3.trans he)
          rw [this] at q2; cases q2
        · obtain ⟨i', _, e2, _, e4, _⟩ := hok _ _ a
          have : i' = j := by
            have : F.id.2 = (j : Int) := b
            omega
          subst this
          rw [he] at hf
          omega
      · rfl
    · rw [upd_other _ _ e] at hp
      exact d p hp he
end

/-- A step of one node. -/
theorem GInv.step {n i : Nat} {g : Gp} {H H' : List (Vid × Nat)} {m' : Mm} {outs bag0 : List (Nat × PF)} {inst : List (Vid × Nat)} (h : GInv n g H) (hi : i < n) (s : LStep n i g.ms H H' m' outs inst) (hb : ∀ x ∈ bag0, x ∈ g.bag) :
    GInv n ⟨upd g.ms i m', bag0 ++ outs, upd g.views i (g.views i ++ inst)⟩ H' where
  n1 := h.n1
  n6 := h.n6
  mi := fun j hj => by
    by_cases e : j = i
    · subst e; simp only [upd_same]; exact s.inv
    · simp only [upd_other _ _ e]; exact h.mi j hj
  hok := fun v t hv => by
    rcases s.hnew v t hv with h1 | ⟨a, b, c, d, e, f⟩
    · obtain ⟨k, e1, e2, e3, e4, e5⟩ := h.hok v t h1
      exact ⟨k, e1, e2, e3, Nat.le_trans e4 (s.high k), e5⟩
    · exact ⟨i, hi, a, b, by simp only [upd_same]; exact c, d, e, f⟩
  uniq := s.uniq
  ownH := fun j p hj hp => by
    by_cases e : j = i
    · subst e; simp only [upd_same] at hp; exact s.own p hp
    · simp only [upd_other _ _ e] at hp; exact s.sub _ (h.ownH j p hj hp)
  acc := fun j p k hj hp ha hk => by
    by_cases e : j = i
    · subst e
      simp only [upd_same] at hp
      by_cases e2 : k = j
      · subst e2; simp only [upd_same]; exact vle_of_eq (s.inv.own p hp).1
      · simp only [upd_other _ _ e2]; exact s.acc p k hp ha hk e2
    · simp only [upd_other _ _ e] at hp
      exact vle_trans (h.acc j p k hj hp ha hk) (s.prom k)
  told := fun j hj => by
    by_cases e : j = i
    · subst e
      simp only [upd_same]
      intro k
      refine ⟨fun h1 h2 => ?_, (s.told k).2⟩
      simp only [upd_other _ _ h2]
      exact (s.told k).1 h1 h2
    · simp only [upd_other _ _ e]
      intro k
      refine ⟨fun h1 h2 => ?_, (h.told j hj k).2⟩
      obtain ⟨a, b⟩ := (h.told j hj k).1 h1 h2
      exact ⟨vle_trans a (s.curs k), vle_trans b (s.prom k)⟩
  com := fun a b p ha hb' hab hp he => by
    by_cases eb : b = i
    · subst eb
      simp only [upd_same] at hp
      simp only [upd_other _ _ hab] at he
      cases hg : p.agreed
      · rcases s.pend p hp hg with ⟨q, q1, q2, q3⟩ | hf
        · have := h.com a b q ha hb' hab q1 (q3.trans he)
          rw [this] at q2; cases q2
        · obtain ⟨_, o2, o3, _⟩ := s.inv.own p hp
          rcases h.curH ha with ⟨c, _⟩ | ⟨c, _⟩
          · rw [he, c] at o3
            simp at o3
          · obtain ⟨k, _, e2, _, e4, _⟩ := h.hok _ _ c
            rw [← he] at e2 e4
            have : k = b := by omega
            subst this
            omega
      · rfl
    · simp only [upd_other _ _ eb] at hp
      by_cases ea : a = i
      · subst ea
        simp only [upd_same] at he
        rcases s.cur with ⟨c1, _⟩ | ⟨_, _, _, _, c5⟩
        · exact h.com a b p ha hb' hab hp (he.trans c1)
        · exact c5 b p hb' (fun e => hab e.symm) hp he
      · simp only [upd_other _ _ ea] at he
        exact h.com a b p ha hb' hab hp he
  bag := fun x hx => by
    rcases List.mem_append.1 hx with hx | hx
    · exact s.fok h.hok (h.bag x (hb x hx))
    · exact s.outs x hx
  views := fun j hj => by
    by_cases e : j = i
    · subst e
      simp only [upd_same]
      obtain ⟨v1, v2, v3⟩ := h.views j hj
      rcases s.cur with ⟨c1, c2, c3⟩ | ⟨c1, c2, c3, c4, _⟩
      · rw [c3, List.append_nil, c1, c2]
        exact ⟨v1, fun v hv => ⟨s.sub _ (v2 v hv).1, (v2 v hv).2⟩, v3⟩
      · rw [c2]
        refine ⟨?_, fun v hv => ?_, by simp⟩
        · rw [List.pairwise_append]
          refine ⟨v1, by simp, fun a ha b hb => ?_⟩
          rw [List.mem_singleton] at hb
          subst hb
          refine vlt_of_le_lt ?_ c1
          rcases List.eq_nil_or_concat (g.views j) with e | ⟨l, x, e⟩
          · rw [e] at ha; cases ha
          · have hx : ((g.ms j).cur, (g.ms j).cset) = x := by rw [v3, e]; simp
            rw [e] at ha v1
            rw [List.concat_eq_append, List.pairwise_append] at v1
            simp only [List.concat_eq_append, List.mem_append, List.mem_singleton] at ha
            rcases ha with ha | rfl
            · have := vlt_le (v1.2.2 a ha x (by simp))
              rw [← hx] at this
              exact this
            · rw [← hx]; exact vle_refl _
        · rcases List.mem_append.1 hv with hv | hv
          · exact ⟨s.sub _ (v2 v hv).1, (v2 v hv).2⟩
          · rw [List.mem_singleton] at hv
            subst hv
            exact ⟨c3, c4⟩
    · simp only [upd_other _ _ e]
      obtain ⟨v1, v2, v3⟩ := h.views j hj
      exact ⟨v1, fun v hv => ⟨s.sub _ (v2 v hv).1, (v2 v hv).2⟩, v3⟩
end Go.Proofs.YtlonbbepoamnmaaDoor
namespace Go.Proofs.YtlonbbepoamnmaaDoor
set_option linter.unusedVariables false

theorem hasN_nat {i : Nat} (s : Nat) (hi : i < 16) : hasN s (i : Int) = s.testBit i := by simp [hasN]; omega
theorem withN_bit (s k x : Nat) (hk : k < 16) : (withN s (k : Int)).testBit x = (s.testBit x || decide (k = x)) := by
  unfold withN onlyN
  rw [if_pos (by omega), Int.toNat_natCast, Nat.testBit_or, Nat.testBit_two_pow]
theorem high_bit {s x : Nat} (hs : s < 65536) (hx : 16 ≤ x) : s.testBit x = false :=
  Nat.testBit_lt_two_pow (Nat.lt_of_lt_of_le hs (by have := Nat.pow_le_pow_right (show 0 < 2 by omega) hx; omega))
theorem withoutN_bit (s k x : Nat) (hs : s < 65536) (hk : k < 16) : (withoutN s (k : Int)).testBit x = (s.testBit x && !decide (k = x)) := by
  unfold withoutN onlyN
  rw [if_pos (by omega), Int.toNat_natCast]
  have hp : 2 ^ k ≤ 32768 := by have := Nat.pow_le_pow_right (show 0 < 2 by omega) (show k ≤ 15 by omega); omega
  have e : 65535 - 2 ^ k = 2 ^ 16 - (2 ^ k + 1) := by omega
  rw [Nat.testBit_and, e, Nat.testBit_two_pow_sub_succ (by omega), Nat.testBit_two_pow]
  by_cases hx : x < 16
  · simp [hx]
  · simp [high_bit hs (by omega : 16 ≤ x)]
theorem mem_nodes {s k x : Nat} : x ∈ nodes s k ↔ x < k ∧ s.testBit x = true := by simp [nodes]
theorem leastN_is {s i : Nat} (h : leastN s = (i : Int)) : s.testBit i = true ∧ ∀ k, k < i → s.testBit k = false := by
  unfold leastN at h
  cases e : (nodes s 16)[0]? with
  | none => rw [e] at h; simp at h
  | some k =>
    rw [e] at h
    have hk : k = i := by
      have h' : (k : Int) = (i : Int) := by simpa using h
      omega
    subst hk
    rw [nodes, ← List.head?_eq_getElem?, List.head?_filter, List.find?_range_eq_some] at e
    exact ⟨e.1, fun j hj => by simpa using e.2.2 j hj⟩
theorem least_of {s i : Nat} (hi : i < 16) (h1 : s.testBit i = true) (h2 : ∀ k, k < i → s.testBit k = false) : leastN s = (i : Int) := by
  apply leastN_some
  rw [nodes, ← List.head?_eq_getElem?, List.head?_filter, List.find?_range_eq_some]
  exact ⟨h1, by simpa using hi, fun j hj => by simpa using h2 j hj⟩
theorem small_of_bits {s n : Nat} (h : ∀ x, n ≤ x → s.testBit x = false) : s < 2 ^ n := Nat.lt_pow_two_of_testBit s h
theorem bit_small {s n x : Nat} (h : s < 2 ^ n) (hb : s.testBit x = true) : x < n := by
  rcases Nat.lt_or_ge x n with h1 | h1
  · exact h1
  · have := Nat.testBit_lt_two_pow (Nat.lt_of_lt_of_le h (Nat.pow_le_pow_right (by omega) h1))
    rw [this] at hb; cases hb
theorem set16 {s n : Nat} (hn : n ≤ 16) (h : s < 2 ^ n) : s < 65536 := Nat.lt_of_lt_of_le h (by have := Nat.pow_le_pow_right (show 0 < 2 by omega) hn; omega)
theorem est_bit {m : Mm} {est x : Nat} (hs : m.self < 16) : (m.estOf est).testBit x = ((est.testBit x && decide (x < m.n)) || decide (m.self = x)) := by
  unfold Mm.estOf
  rw [withN_bit _ _ _ hs, Nat.testBit_and, Nat.testBit_two_pow_sub_one]
theorem est_lt {m : Mm} {est : Nat} (hs : m.self < m.n) (hn : m.n ≤ 16) : m.estOf est < 2 ^ m.n := by
  apply small_of_bits
  intro x hx
  rw [est_bit (by omega)]
  simp; omega
theorem mem_others {m : Mm} {p : Pp} {n x : Nat} (hn : n ≤ 16) (hs : m.self < n) (hp : p.set < 2 ^ n) : x ∈ m.others p ↔ x < n ∧ p.set.testBit x = true ∧ x ≠ m.self := by
  unfold Mm.others
  rw [mem_nodes, withoutN_bit _ _ _ (set16 hn hp) (by omega)]
  constructor
  · rintro ⟨h1, h2⟩
    simp at h2
    exact ⟨bit_small hp h2.1, h2.1, fun e => h2.2 e.symm⟩
  · rintro ⟨h1, h2, h3⟩
    refine ⟨by omega, ?_⟩
    simp [h2]
    exact fun e => h3 e.symm
def insL (o : Option Ins) : List (Vid × Nat) := match o with | none => [] | some x => [(x.id, x.set)]

theorem fr_id (k frm : Nat) (v : Vid) : (fr k frm v).id = v := rfl
theorem commit_id (m : Mm) (p : Pp) : (m.commit p).id = p.id ∧ (m.commit p).set = p.set ∧ (m.commit p).kind = 5 ∧ (m.commit p).frm = (m.self : Int) ∧ (m.commit p).idP = p.id.2 := ⟨rfl, rfl, rfl, rfl, rfl⟩
theorem ask_id (m : Mm) (p : Pp) : (m.ask p).id = p.id ∧ (m.ask p).set = p.set ∧ (m.ask p).kind = 2 ∧ (m.ask p).frm = (m.self : Int) ∧ (m.ask p).idP = p.id.2 := ⟨rfl, rfl, rfl, rfl, rfl⟩

/-- A commit of what all have accepted may be under way; so may what was proposed. -/
theorem fok_commit {n i : Nat} {ms : Nat → Mm} {H : List (Vid × Nat)} {m : Mm} {p : Pp} {dst : Nat} (hs : m.self = i) (hi : i < n) (ht : dst < n) (hne : dst ≠ i) (hb : p.set.testBit dst = true) (hH : (p.id, p.set) ∈ H) (hP : p.id.2 = (i : Int)) (hd : ∀ q, (ms i).own = some q → q.id = p.id → q.agreed = true) : FOk n ms H dst (m.commit p) := by
  obtain ⟨a, b, c, d, e⟩ := commit_id m p
  refine ⟨ht, i, by rw [d, hs], hi, fun e => hne e.symm, .inr (.inr (.inr (.inr ⟨c, ?_, by rw [e, hP], by rw [b]; exact hb, fun q hq he => hd q hq (he.trans a)⟩)))⟩
  rw [a, b]; exact hH
theorem fok_ask {n i : Nat} {ms : Nat → Mm} {H : List (Vid × Nat)} {m : Mm} {p : Pp} {dst : Nat} (hs : m.self = i) (hi : i < n) (ht : dst < n) (hne : dst ≠ i) (hb : p.set.testBit dst = true) (hH : (p.id, p.set) ∈ H) (hP : p.id.2 = (i : Int)) : FOk n ms H dst (m.ask p) := by
  obtain ⟨a, b, c, d, e⟩ := ask_id m p
  refine ⟨ht, i, by rw [d, hs], hi, fun e => hne e.symm, .inr (.inl ⟨c, ?_, by rw [e, hP], by rw [b]; exact hb⟩)⟩
  rw [a, b]; exact hH
theorem fok_remind {n i : Nat} {ms : Nat → Mm} {H : List (Vid × Nat)} {m : Mm} (hn : n ≤ 16) (hi : i < n) (hs : m.self = i) (hm : ms i = m) (hown : ∀ p, m.own = some p → (p.id, p.set) ∈ H ∧ p.id.2 = (i : Int) ∧ p.set < 2 ^ n) : ∀ x ∈ m.remind, FOk n ms H x.1 x.2 := by
  intro x hx
  unfold Mm.remind at hx
  cases ho : m.own with
  | none => rw [ho] at hx; cases hx
  | some p =>
    rw [ho] at hx
    obtain ⟨h1, h2, h3⟩ := hown p ho
    simp only at hx
    split at hx
    · rename_i hg
      obtain ⟨t, ht, rfl⟩ := List.mem_map.1 hx
      obtain ⟨a, b, c⟩ := (mem_others hn (by omega) h3).1 (List.mem_filter.1 ht).1
      exact fok_commit hs hi a (by omega) b h1 h2 (fun q hq he => by rw [hm, ho] at hq; cases hq; exact hg)
    · obtain ⟨t, ht, rfl⟩ := List.mem_map.1 hx
      obtain ⟨a, b, c⟩ := (mem_others hn (by omega) h3).1 (List.mem_filter.1 ht).1
      exact fok_ask hs hi a (by omega) b h1 h2

section
variable {n i : Nat} {g : Gp} {H : List (Vid × Nat)}

theorem GInv.ownset (h : GInv n g H) (hi : i < n) {p : Pp} (hp : (g.ms i).own = some p) : (p.id, p.set) ∈ H ∧ p.id.2 = (i : Int) ∧ p.set < 2 ^ n ∧ p.set.testBit i = true := by
  have hH := h.ownH i p hi hp
  have hP := ((h.mi i hi).own p hp).2.1
  obtain ⟨k, _, e2, _, _, e5, e6, _⟩ := h.hok _ _ hH
  have : k = i := by omega
  subst this
  exact ⟨hH, hP, e6, e5⟩

/-- Nothing of the node changes: what it sends may be under way. -/
theorem LStep.still (h : GInv n g H) (hi : i < n) {outs : List (Nat × PF)} (ho : ∀ x ∈ outs, FOk n g.ms H x.1 x.2) : LStep n i g.ms H H (g.ms i) outs [] where
  inv := h.mi i hi
  pr := vle_refl _
  cu := vle_refl _
  hi := Nat.le_refl _
  sub := fun _ hx => hx
  uniq := h.uniq
  hnew := fun v s hv => .inl hv
  own := fun p hp => h.ownH i p hi hp
  acc := fun p k hp ha hk _ => h.acc i p k hi hp ha hk
  told := h.told i hi
  pend := fun p hp hg => .inl ⟨p, hp, hg, rfl⟩
  cur := .inl ⟨rfl, rfl, rfl⟩
  outs := by
    have : upd g.ms i (g.ms i) = g.ms := by funext j; unfold upd; split <;> simp_all
    rw [this]; exact ho
/-- Only the greatest counter rises, and what others told. -/
theorem LStep.soft (h : GInv n g H) (hi : i < n) {m' : Mm} {outs : List (Nat × PF)} (e1 : m'.n = (g.ms i).n) (e2 : m'.self = (g.ms i).self) (e3 : m'.cur = (g.ms i).cur) (e4 : m'.cset = (g.ms i).cset) (e5 : m'.prom = (g.ms i).prom) (e6 : (g.ms i).high ≤ m'.high)
    (e7 : m'.own = (g.ms i).own) (e8 : TOk n g.ms i m'.told) (ho : ∀ x ∈ outs, FOk n (upd g.ms i m') H x.1 x.2) : LStep n i g.ms H H m' outs [] where
  inv := by
    have hm := h.mi i hi
    exact ⟨e1.trans hm.hn, e2.trans hm.hs, by rw [e5]; exact Nat.le_trans hm.ph e6, by rw [e3, e5]; exact hm.cp, by rw [e7, e5]; exact hm.own, by rw [e7, e3]; exact hm.pend, by rw [e7, e3, e4]; exact hm.done, by rw [e7, e3, e5]; exact hm.mine⟩
  pr := by rw [e5]; exact vle_refl _
  cu := by rw [e3]; exact vle_refl _
  hi := e6
  sub := fun _ hx => hx
  uniq := h.uniq
  hnew := fun v s hv => .inl hv
  own := fun p hp => h.ownH i p hi (e7 ▸ hp)
  acc := fun p k hp ha hk _ => h.acc i p k hi (e7 ▸ hp) ha hk
  told := e8
  pend := fun p hp hg => .inl ⟨p, e7 ▸ hp, hg, rfl⟩
  cur := .inl ⟨e3, e4, rfl⟩
  outs := ho

theorem agreed_iff {p : Pp} : p.agreed = true ↔ p.acc = p.set := by unfold Pp.agreed; simp
theorem agreed_not {p : Pp} : p.agreed = false ↔ p.acc ≠ p.set := by unfold Pp.agreed; simp

/-- A tick keeps what always holds. -/
theorem tick_step (h : GInv n g H) (hi : i < n) (est : Nat) (st : Sd) : ∃ H', LStep n i g.ms H H' ((g.ms i).tick est st).m ((g.ms i).tick est st).outs (insL ((g.ms i).tick est st).inst) := by
  have hm := h.mi i hi
  have hn := h.n6
  obtain ⟨m, hme⟩ : ∃ m, g.ms i = m := ⟨_, rfl⟩
  rw [hme] at hm
  have hself := hm.hs
  have hmn := hm.hn
  obtain ⟨e, hee⟩ : ∃ e, m.estOf est = e := ⟨_, rfl⟩
  rw [hme]
  unfold Mm.tick
  rw [hee]
  by_cases hpr : m.proposes e = true
  · rw [if_pos hpr]
    have helt : e < 2 ^ n := by rw [← hee, ← hmn]; exact est_lt (by omega) (by omega)
    have hebit : e.testBit i = true := by rw [← hee, est_bit (by omega), hself]; simp
    have hleast : ∀ k, k < i → e.testBit k = false := by
      unfold Mm.proposes at hpr
      simp only [Bool.and_eq_true, decide_eq_true_eq] at hpr
      have := hpr.1.1.1
      rw [hself] at this
      exact (leastN_is this).2
    obtain ⟨q, hq⟩ : ∃ q, m.prop e st = q := ⟨_, rfl⟩
    have q1 : q.id = (m.high + 1, (i : Int)) := by rw [← hq, ← hself]; rfl
    have q2 : q.set = e := by rw [← hq]; rfl
    have q3 : q.acc = withN 0 ((i : Nat) : Int) := by rw [← hq, ← hself]; rfl
    have q4 : ∀ k, q.acc.testBit k = true ↔ k = i := fun k => by rw [q3, withN_bit _ _ _ (by omega)]; simp; exact eq_comm
    have hfresh : ∀ s, ((m.high + 1, (i : Int)), s) ∉ H := fun s hs => by
      obtain ⟨k, _, e2, _, e4, _⟩ := h.hok _ _ hs
      have e2' : (i : Int) = (k : Int) := e2
      have : k = i := by omega
      subst this
      rw [hme] at e4
      simp at e4
      omega
    have hlt : vlt m.prom q.id := by
      have := hm.ph
      rw [q1]; unfold vlt; simp; omega
    have huniq : ∀ v s s', (v, s) ∈ (q.id, q.set) :: H → (v, s') ∈ (q.id, q.set) :: H → s = s' := by
      intro v s s' h1 h2
      rcases List.mem_cons.1 h1 with h1 | h1 <;> rcases List.mem_cons.1 h2 with h2 | h2
      · cases h1; cases h2; rfl
      · cases h1; rw [q1] at h2; exact absurd h2 (hfresh _)
      · cases h2; rw [q1] at h1; exact absurd h1 (hfresh _)
      · exact h.uniq v s s' h1 h2
    have hnew : ∀ v s, (v, s) ∈ (q.id, q.set) :: H → (v, s) ∈ H ∨ (v.2 = (i : Int) ∧ 1 ≤ v.1 ∧ v.1 ≤ m.high + 1 ∧ s.testBit i = true ∧ s < 2 ^ n ∧ ∀ k, k < i → s.testBit k = false) := by
      intro v s hv
      rcases List.mem_cons.1 hv with h1 | h1
      · cases h1
        rw [q1, q2]
        exact .inr ⟨rfl, by simp, by simp, hebit, helt, hleast⟩
      · exact .inl h1
    have hacc : ∀ k, q.acc.testBit k = true → q.set.testBit k = true := fun k hk => by rw [(q4 k).1 hk, q2]; exact hebit
    rw [hq]
    by_cases hg : q.agreed = true
    · rw [if_pos hg]
      obtain ⟨m', hm'⟩ : ∃ m', (m.propose e st).install q = m' := ⟨_, rfl⟩
      have o1 : m'.n = n := by rw [← hm']; exact hmn
      have o2 : m'.self = i := by rw [← hm']; exact hself
      have o3 : m'.cur = q.id := by rw [← hm']; rfl
      have o4 : m'.cset = q.set := by rw [← hm']; rfl
      have o5 : m'.prom = q.id := by rw [← hm', q1, ← hself]; rfl
      have o6 : m'.high = m.high + 1 := by rw [← hm']; rfl
      have o7 : m'.own = some { q with sts := joinD q.sts } := by rw [← hm']; rfl
      have o8 : m'.told = m.told := by rw [← hm']; rfl
      simp only [hm', insL, insOf]
      refine ⟨(q.id, q.set) :: H, { inv := ?_, pr := by rw [hme, o5]; exact vlt_le hlt, cu := by rw [hme, o3]; exact vle_trans hm.cp (vlt_le hlt), hi := by rw [hme, o6]; omega, sub := fun x hx => List.mem_cons_of_mem _ hx, uniq := huniq, hnew := by rw [o6]; exact hnew, own := ?_, acc := ?_, told := by rw [o8, ← hme]; exact h.told i hi, pend := ?_, cur := ?_, outs := by simp }⟩
      · refine ⟨o1, o2, by rw [o5, o6, q1]; exact Nat.le_refl _, by rw [o3, o5]; exact vle_refl _, fun p hp => ?_, fun p hp hgp => ?_, fun p hp _ => ?_, fun _ _ _ => ⟨_, o7, hg⟩⟩
        · rw [o7] at hp; cases hp
          exact ⟨o5.symm, by show q.id.2 = _; rw [q1], by show 1 ≤ q.id.1; rw [q1]; simp, (q4 i).2 rfl, hacc⟩
        · rw [o7] at hp; cases hp
          exact absurd (show q.agreed = true from hg) (by rw [show q.agreed = false from hgp]; simp)
        · rw [o7] at hp; cases hp
          exact ⟨o3, o4⟩
      · intro p hp; rw [o7] at hp; cases hp; exact List.mem_cons_self
      · intro p k hp ha _ hki; rw [o7] at hp; cases hp; exact absurd ((q4 k).1 ha) hki
      · intro p hp hgp; rw [o7] at hp; cases hp
        exact absurd (show q.agreed = true from hg) (by rw [show q.agreed = false from hgp]; simp)
      · refine .inr ⟨by rw [hme, o3]; exact vlt_of_le_lt hm.cp hlt, by rw [o3, o4], by rw [o3, o4]; exact List.mem_cons_self, by rw [o4, q2]; exact hebit, fun j p hj hji hp he => ?_⟩
        exfalso
        rw [o3] at he
        have h2 := ((h.mi j hj).own p hp).2.1
        rw [he, q1] at h2
        simp at h2
        omega
    · rw [if_neg hg]
      obtain ⟨m', hm'⟩ : ∃ m', m.propose e st = m' := ⟨_, rfl⟩
      have o1 : m'.n = n := by rw [← hm']; exact hmn
      have o2 : m'.self = i := by rw [← hm']; exact hself
      have o3 : m'.cur = m.cur := by rw [← hm']; rfl
      have o4 : m'.cset = m.cset := by rw [← hm']; rfl
      have o5 : m'.prom = q.id := by rw [← hm', q1, ← hself]; rfl
      have o6 : m'.high = m.high + 1 := by rw [← hm']; rfl
      have o7 : m'.own = some q := by rw [← hm', ← hq]; rfl
      have o8 : m'.told = m.told := by rw [← hm']; rfl
      simp only [hm', insL]
      have hg' : q.agreed = false := by simpa using hg
      refine ⟨(q.id, q.set) :: H, { inv := ?_, pr := by rw [hme, o5]; exact vlt_le hlt, cu := by rw [hme, o3]; exact vle_refl _, hi := by rw [hme, o6]; omega, sub := fun x hx => List.mem_cons_of_mem _ hx, uniq := huniq, hnew := by rw [o6]; exact hnew, own := ?_, acc := ?_, told := by rw [o8, ← hme]; exact h.told i hi, pend := ?_, cur := .inl ⟨by rw [hme, o3], by rw [hme, o4], rfl⟩, outs := ?_ }⟩
      · refine ⟨o1, o2, by rw [o5, o6, q1]; exact Nat.le_refl _, by rw [o3, o5]; exact vle_trans hm.cp (vlt_le hlt), fun p hp => ?_, fun p hp _ => ?_, fun p hp hgp => ?_, fun _ hc _ => ?_⟩
        · rw [o7] at hp; cases hp
          exact ⟨o5.symm, by rw [q1], by rw [q1]; simp, (q4 i).2 rfl, hacc⟩
        · rw [o7] at hp; cases hp
          rw [o3]; exact vlt_of_le_lt hm.cp hlt
        · rw [o7] at hp; cases hp
          rw [hg'] at hgp; cases hgp
        · exfalso
          rw [o3, o5] at hc
          exact vlt_ne (vlt_of_le_lt hm.cp hlt) hc
      · intro p hp; rw [o7] at hp; cases hp; exact List.mem_cons_self
      · intro p k hp ha _ hki; rw [o7] at hp; cases hp; exact absurd ((q4 k).1 ha) hki
      · intro p hp hgp; rw [o7] at hp; cases hp
        exact .inr (by rw [hme, q1]; simp)
      · refine fok_remind (by omega) hi o2 (upd_same _ _ _) (fun p hp => ?_)
        rw [o7] at hp; cases hp
        exact ⟨List.mem_cons_self, by rw [q1], by rw [q2]; exact helt⟩
  · rw [if_neg hpr]
    refine ⟨H, ?_⟩
    have := LStep.still (i := i) h hi (outs := m.remind) (fok_remind (by omega) hi hself hme (fun p hp => by
      obtain ⟨a, b, c, _⟩ := h.ownset hi (hme ▸ hp)
      exact ⟨a, b, c⟩))
    rw [hme] at this
    exact this
end
end Go.Proofs.YtlonbbepoamnmaaDoor
namespace Go.Proofs.YtlonbbepoamnmaaDoor
set_option linter.unusedVariables false
section
variable {n i : Nat} {g : Gp} {H : List (Vid × Nat)}

theorem LStep.nokeep (h : GInv n g H) (hi : i < n) {m' : Mm} {outs : List (Nat × PF)} (e1 : m'.n = (g.ms i).n) (e2 : m'.self = (g.ms i).self) (e3 : m'.cur = (g.ms i).cur) (e4 : m'.cset = (g.ms i).cset) (e5 : vle (g.ms i).prom m'.prom) (e6 : (g.ms i).high ≤ m'.high) (e6' : m'.prom.1 ≤ m'.high)
    (e7 : m'.own = none) (e8 : m'.told = (g.ms i).told) (e9 : m'.cur ≠ m'.prom) (ho : ∀ x ∈ outs, FOk n (upd g.ms i m') H x.1 x.2) : LStep n i g.ms H H m' outs [] where
  inv := by
    have hm := h.mi i hi
    exact ⟨e1.trans hm.hn, e2.trans hm.hs, e6', by rw [e3]; exact vle_trans hm.cp e5, (fun p hp => by rw [e7] at hp; cases hp), (fun p hp => by rw [e7] at hp; cases hp), (fun p hp => by rw [e7] at hp; cases hp), fun _ hc _ => absurd hc e9⟩
  pr := e5
  cu := by rw [e3]; exact vle_refl _
  hi := e6
  sub := fun _ hx => hx
  uniq := h.uniq
  hnew := fun v s hv => .inl hv
  own := fun p hp => by rw [e7] at hp; cases hp
  acc := fun p k hp => by rw [e7] at hp; cases hp
  told := by rw [e8]; exact h.told i hi
  pend := fun p hp => by rw [e7] at hp; cases hp
  cur := .inl ⟨e3, e4, rfl⟩
  outs := ho

theorem others_ok (hn : n ≤ 16) (hi : i < n) {j : Nat} (hj : j < n) (hne : j ≠ i) : hasN (withoutN (2 ^ n - 1) ((i : Nat) : Int)) ((j : Nat) : Int) = true := by
  have h2 : 2 ^ n ≤ 65536 := Nat.pow_le_pow_right (by omega) hn
  have h1 := Nat.one_le_two_pow (n := n)
  rw [hasN_nat _ (by omega), withoutN_bit _ _ _ (by omega) (by omega), Nat.testBit_two_pow_sub_one]
  simp [hj]
  omega
theorem within (hn : n ≤ 16) {s : Nat} (hs : s < 2 ^ n) : s &&& (65535 - (2 ^ n - 1)) = 0 := by
  have h2 : 2 ^ n ≤ 65536 := Nat.pow_le_pow_right (by omega) hn
  have h1 := Nat.one_le_two_pow (n := n)
  apply Nat.eq_of_testBit_eq
  intro x
  rw [Nat.testBit_and, Nat.zero_testBit]
  by_cases hx : x < n
  · have e : 65535 - (2 ^ n - 1) = 2 ^ 16 - ((2 ^ n - 1) + 1) := by omega
    rw [e, Nat.testBit_two_pow_sub_succ (by omega), Nat.testBit_two_pow_sub_one]
    simp [hx]
  · rw [Nat.testBit_lt_two_pow (Nat.lt_of_lt_of_le hs (Nat.pow_le_pow_right (by omega) (by omega)))]
    rfl

/-- What a frame does to a node, case by case. -/
inductive InC (m : Mm) (j : Nat) (F : PF) (st : Sd) : Res → Prop
  | beat (e : Nat) (hk : F.kind = 1) : InC m j F st ⟨m.beat F, [], none, e⟩
  | take (e : Nat) (hk : F.kind = 2) (h : vlt m.prom F.id) : InC m j F st ⟨{ m with high := max m.high F.idN, prom := F.id, own := none }, [(j, m.yes F st)], none, e⟩
  | again (e : Nat) (hk : F.kind = 2) (h : F.id = m.prom) (h2 : F.id ≠ m.cur) : InC m j F st ⟨{ m with high := max m.high F.idN }, [(j, m.yes F st)], none, e⟩
  | no (e : Nat) (hk : F.kind = 2) (h : vlt F.id m.prom ∨ F.id = m.cur) : InC m j F st ⟨{ m with high := max m.high F.idN }, [(j, m.no F)], none, e⟩
  | acc (e : Nat) (hk : F.kind = 3) (p : Pp) (d : Sd) (ho : m.own = some p) (hst : F.st = [d]) (hid : F.id = p.id) (hs : p.set.testBit j = true) (ha : p.acc.testBit j = false) (hg : (p.more F.frm d).agreed = false) : InC m j F st ⟨{ m with own := some (p.more F.frm d) }, [], none, e⟩
  | all (e : Nat) (hk : F.kind = 3) (p : Pp) (d : Sd) (ho : m.own = some p) (hst : F.st = [d]) (hid : F.id = p.id) (hs : p.set.testBit j = true) (ha : p.acc.testBit j = false) (hg : (p.more F.frm d).agreed = true) :
      InC m j F st ⟨{ m with own := some (p.more F.frm d) }.install (p.more F.frm d), (m.others p).map (fun i => (i, m.commit { p.more F.frm d with sts := joinD (p.more F.frm d).sts })), some (insOf (p.more F.frm d)), e⟩
  | kill (e : Nat) (hk : F.kind = 4) (p : Pp) (ho : m.own = some p) (hg : p.agreed = false) (hid : F.id = p.id) (hl : vlt F.id F.prom) : InC m j F st ⟨{ m with high := max m.high F.promN, own := none }, [], none, e⟩
  | high (e : Nat) (hk : F.kind = 4) (hn : ∀ p, m.own = some p → ¬ (p.agreed = false ∧ F.id = p.id ∧ vlt F.id F.prom)) : InC m j F st ⟨{ m with high := max m.high F.promN }, [], none, e⟩
  | inst (e : Nat) (hk : F.kind = 5) (h1 : F.id = m.prom) (h2 : F.id ≠ m.cur) : InC m j F st ⟨{ m with cur := F.id, cset := F.set }, [], some ⟨F.id, F.set, F.st⟩, e⟩
  | skip (e : Nat) (h3 : F.kind = 3 ∨ F.kind = 5) (ha : F.kind = 3 → ∀ p, m.own = some p → ¬ (F.id = p.id ∧ p.set.testBit j = true ∧ p.acc.testBit j = false)) (hc : F.kind = 5 → F.id ≠ m.prom ∨ F.id = m.cur) : InC m j F st ⟨m, [], none, e⟩

theorem refused_none {m : Mm} (F : PF) (ho : m.own = none) : m.refused F = { m with high := max m.high F.promN } := by unfold Mm.refused; split <;> simp_all
theorem refused_kill {m : Mm} {F : PF} {p : Pp} (ho : m.own = some p) (h : p.agreed = false ∧ F.id = p.id ∧ vlt F.id F.prom) : m.refused F = { m with high := max m.high F.promN, own := none } := by
  unfold Mm.refused; split
  · rename_i q hq; rw [ho] at hq; cases hq; rw [if_pos h]
  · rename_i hq; rw [ho] at hq; cases hq
theorem refused_keep {m : Mm} {F : PF} {p : Pp} (ho : m.own = some p) (h : ¬ (p.agreed = false ∧ F.id = p.id ∧ vlt F.id F.prom)) : m.refused F = { m with high := max m.high F.promN } := by
  unfold Mm.refused; split
  · rename_i q hq; rw [ho] at hq; cases hq; rw [if_neg h]
  · rename_i hq; exact absurd (ho.symm.trans hq) (by simp)
theorem in_cases (h : GInv n g H) {F : PF} (st : Sd) {j : Nat} (hi : i < n) (hfrm : F.frm = (j : Int)) (hj : j < n) (hne : j ≠ i) (hB : Body g.ms H i j F) : InC (g.ms i) j F st ((g.ms i).inn F st) := by
  have hm := h.mi i hi
  have hn6 := h.n6
  have hok := h.hok
  generalize g.ms i = m at *
  have hself := hm.hs
  have hmn := hm.hn
  unfold Mm.inn
  rw [hmn, hself, hfrm, others_ok (by omega) hi hj hne, if_neg (by simp)]
  rcases hB with ⟨k, a, b⟩ | ⟨k, a, b, c⟩ | ⟨k, a, b⟩ | ⟨k, a⟩ | ⟨k, a, b, c, d⟩
  · rw [if_pos k]; exact .beat _ k
  · rw [if_neg (by omega), if_pos k]
    obtain ⟨k', _, e2, _, _, e5, e6, _⟩ := hok _ _ a
    have hk' : k' = j := by have : F.id.2 = (j : Int) := b; omega
    subst hk'
    unfold Mm.proposed
    rw [if_neg (by
      rw [hfrm, b, hself, hmn, hasN_nat _ (by omega), hasN_nat _ (by omega), e5, c, within (by omega) e6]
      simp)]
    unfold Mm.took
    by_cases hl : vlt m.prom F.id
    · rw [if_pos hl, if_neg (by
        rintro (h1 | h1)
        · exact h1 rfl
        · exact vlt_ne (vlt_of_le_lt hm.cp hl) h1.symm), hfrm]
      exact .take _ k hl
    · rw [if_neg hl]
      by_cases hc : F.id ≠ m.prom ∨ F.id = m.cur
      · rw [if_pos hc, hfrm]
        refine .no _ k ?_
        rcases hc with hc | hc
        · exact .inl ((vle_lt_or_eq (not_vlt.1 hl)).resolve_left hc)
        · exact .inr hc
      · rw [if_neg hc, hfrm]
        have h1 : F.id = m.prom := Classical.byContradiction fun e => hc (.inl e)
        exact .again _ k h1 (fun e => hc (.inr e))
  · rw [if_neg (by omega), if_neg (by omega), if_pos k]
    obtain ⟨d, hd⟩ : ∃ d, F.st = [d] := List.length_eq_one_iff.1 a
    unfold Mm.accepted
    cases ho : m.own with
    | none =>
      rw [hd]
      exact .skip _ (.inl k) (fun _ p hp => by rw [ho] at hp; cases hp) (fun e => by omega)
    | some p =>
      rw [hd]
      simp only [hfrm, hasN_nat _ (show j < 16 by omega)]
      by_cases hc : F.id = p.id ∧ p.set.testBit j = true ∧ p.acc.testBit j = false
      · rw [if_pos hc]
        rw [← hfrm]
        by_cases hg : (p.more F.frm d).agreed = true
        · rw [if_pos hg]; exact .all _ k p d ho hd hc.1 hc.2.1 hc.2.2 hg
        · rw [if_neg hg]; exact .acc _ k p d ho hd hc.1 hc.2.1 hc.2.2 (by simpa using hg)
      · rw [if_neg hc]
        exact .skip _ (.inl k) (fun _ q hq => by rw [ho] at hq; cases hq; exact hc) (fun e => by omega)
  · rw [if_neg (by omega), if_neg (by omega), if_neg (by omega), if_pos k]
    cases ho : m.own with
    | none => rw [refused_none F ho]; exact .high _ k (fun p hp => by rw [ho] at hp; cases hp)
    | some p =>
      by_cases hc : p.agreed = false ∧ F.id = p.id ∧ vlt F.id F.prom
      · rw [refused_kill ho hc]; exact .kill _ k p ho hc.1 hc.2.1 hc.2.2
      · rw [refused_keep ho hc]; exact .high _ k (fun q hq => by rw [ho] at hq; cases hq; exact hc)
  · rw [if_neg (by omega), if_neg (by omega), if_neg (by omega), if_neg (by omega), if_pos k]
    unfold Mm.committed
    by_cases hc : F.id ≠ m.prom ∨ F.id = m.cur
    · rw [if_pos (by rcases hc with hc | hc; exact .inl hc; exact .inr (.inl hc))]
      exact .skip _ (.inr k) (fun e => by omega) (fun _ => hc)
    · rw [if_neg (by
        rintro (h1 | h1 | h1 | h1)
        · exact hc (.inl h1)
        · exact hc (.inr h1)
        · rw [hself, hasN_nat _ (by omega), c] at h1; cases h1
        · exact h1 (by rw [b, hfrm]))]
      exact .inst _ k (Classical.byContradiction fun e => hc (.inl e)) (fun e => hc (.inr e))

theorem more_bit {p : Pp} {j : Nat} {d : Sd} (hj : j < 16) (x : Nat) : (p.more (j : Int) d).acc.testBit x = (p.acc.testBit x || decide (j = x)) := by
  show (withN p.acc (j : Int)).testBit x = _
  exact withN_bit _ _ _ hj

/-- A frame that comes keeps what always holds. -/
theorem in_step (h : GInv n g H) {F : PF} (st : Sd) (hF : FOk n g.ms H i F) : LStep n i g.ms H H ((g.ms i).inn F st).m ((g.ms i).inn F st).outs (insL ((g.ms i).inn F st).inst) := by
  obtain ⟨hi, j, hfrm, hj, hne, hB⟩ := hF
  have hc := in_cases h st hi hfrm hj hne hB
  have hm := h.mi i hi
  have hn6 := h.n6
  have hself := hm.hs
  generalize hr : (g.ms i).inn F st = r at hc
  cases hc with
  | beat e hk =>
    have hb : vle F.cur (g.ms j).cur ∧ vle F.prom (g.ms j).prom := by
      rcases hB with ⟨k, a, b⟩ | ⟨k, _⟩ | ⟨k, _⟩ | ⟨k, _⟩ | ⟨k, _⟩
      · exact ⟨a, b⟩
      all_goals omega
    refine LStep.soft h hi rfl rfl rfl rfl rfl ?_ rfl ?_ (by simp)
    · show (g.ms i).high ≤ max (max (g.ms i).high _) _
      omega
    · intro k
      show (k < n → k ≠ i → vle (upd (g.ms i).told F.frm.toNat (F.cur, F.prom) k).1 _ ∧ vle (upd (g.ms i).told F.frm.toNat (F.cur, F.prom) k).2 _) ∧ (_ → upd (g.ms i).told F.frm.toNat (F.cur, F.prom) k = zero2)
      rw [hfrm, Int.toNat_natCast]
      by_cases e : k = j
      · subst e
        rw [upd_same]
        exact ⟨fun _ _ => hb, fun hx => absurd ⟨hj, hne⟩ hx⟩
      · rw [upd_other _ _ e]
        exact h.told i hi k
  | take e hk hl =>
    refine LStep.nokeep h hi rfl rfl rfl rfl (vlt_le hl) (Nat.le_max_left _ _) (by show F.idN ≤ _; exact Nat.le_max_right _ _) rfl rfl (vlt_ne (vlt_of_le_lt hm.cp hl)) ?_
    intro x hx
    rw [List.mem_singleton] at hx
    subst hx
    refine ⟨hj, i, ?_, hi, fun e => hne e.symm, .inr (.inr (.inl ⟨rfl, rfl, ?_⟩))⟩
    · show ((g.ms i).self : Int) = _; rw [hself]
    · rw [upd_same]; exact vle_refl _
  | again e hk h1 h2 =>
    refine LStep.soft h hi rfl rfl rfl rfl rfl (Nat.le_max_left _ _) rfl (h.told i hi) ?_
    intro x hx
    rw [List.mem_singleton] at hx
    subst hx
    refine ⟨hj, i, ?_, hi, fun e => hne e.symm, .inr (.inr (.inl ⟨rfl, rfl, ?_⟩))⟩
    · show ((g.ms i).self : Int) = _; rw [hself]
    · rw [upd_same]; exact vle_of_eq h1
  | no e hk h1 =>
    refine LStep.soft h hi rfl rfl rfl rfl rfl (Nat.le_max_left _ _) rfl (h.told i hi) ?_
    intro x hx
    rw [List.mem_singleton] at hx
    subst hx
    refine ⟨hj, i, ?_, hi, fun e => hne e.symm, .inr (.inr (.inr (.inl ⟨rfl, ?_⟩)))⟩
    · show ((g.ms i).self : Int) = _; rw [hself]
    · rw [upd_same]; exact vle_refl _
  | acc e hk p d ho hst hid hs ha hg =>
    have hF3 : vle F.id (g.ms j).prom := by
      rcases hB with ⟨k, _⟩ | ⟨k, _⟩ | ⟨k, a, b⟩ | ⟨k, _⟩ | ⟨k, _⟩
      · omega
      · omega
      · exact b
      · omega
      · omega
    obtain ⟨o1, o2, o3, o4, o5⟩ := hm.own p ho
    have hbit : ∀ x, (p.more F.frm d).acc.testBit x = (p.acc.testBit x || decide (j = x)) := fun x => by rw [hfrm]; exact more_bit (by omega) x
    have hpg : p.agreed = false := agreed_not.2 (fun e => by rw [e, hs] at ha; cases ha)
    refine { inv := ?_, pr := vle_refl _, cu := vle_refl _, hi := Nat.le_refl _, sub := fun _ hx => hx, uniq := h.uniq, hnew := fun v s hv => .inl hv, own := ?_, acc := ?_, told := h.told i hi, pend := ?_, cur := .inl ⟨rfl, rfl, rfl⟩, outs := by simp }
    · refine ⟨hm.hn, hm.hs, hm.ph, hm.cp, fun q hq => ?_, fun q hq _ => ?_, fun q hq hgq => ?_, fun c1 c2 c3 => ?_⟩
      · cases hq
        refine ⟨o1, o2, o3, by rw [hbit, o4]; rfl, fun k hk => ?_⟩
        rw [hbit, Bool.or_eq_true, decide_eq_true_eq] at hk
        rcases hk with hk | rfl
        · exact o5 k hk
        · exact hs
      · cases hq; exact hm.pend p ho hpg
      · cases hq; rw [hg] at hgq; cases hgq
      · exfalso
        obtain ⟨q, hq, hgq⟩ := hm.mine c1 c2 c3
        rw [ho] at hq; cases hq; rw [hpg] at hgq; cases hgq
    · intro q hq; cases hq; exact h.ownH i p hi ho
    · intro q k hq hk hkn hki
      cases hq
      rw [hbit, Bool.or_eq_true, decide_eq_true_eq] at hk
      rcases hk with hk | rfl
      · exact h.acc i p k hi ho hk hkn
      · show vle p.id _; rw [← hid]; exact hF3
    · intro q hq hgq; cases hq; exact .inl ⟨p, ho, hpg, rfl⟩
  | all e hk p d ho hst hid hs ha hg =>
    have hF3 : vle F.id (g.ms j).prom := by
      rcases hB with ⟨k, _⟩ | ⟨k, _⟩ | ⟨k, a, b⟩ | ⟨k, _⟩ | ⟨k, _⟩
      · omega
      · omega
      · exact b
      · omega
      · omega
    obtain ⟨o1, o2, o3, o4, o5⟩ := hm.own p ho
    obtain ⟨p1, p2, p3, p4⟩ := h.ownset hi ho
    have hbit : ∀ x, (p.more F.frm d).acc.testBit x = (p.acc.testBit x || decide (j = x)) := fun x => by rw [hfrm]; exact more_bit (by omega) x
    have hpg : p.agreed = false := agreed_not.2 (fun e => by rw [e, hs] at ha; cases ha)
    have hlt := hm.pend p ho hpg
    refine { inv := ?_, pr := vle_refl _, cu := vlt_le hlt, hi := Nat.le_refl _, sub := fun _ hx => hx, uniq := h.uniq, hnew := fun v s hv => .inl hv, own := ?_, acc := ?_, told := h.told i hi, pend := ?_, cur := ?_, outs := ?_ }
    · refine ⟨hm.hn, hm.hs, hm.ph, vle_of_eq o1, fun q hq => ?_, fun q hq hgq => ?_, fun q hq hgq => ?_, fun c1 c2 c3 => ⟨_, rfl, hg⟩⟩
      · cases hq
        refine ⟨o1, o2, o3, by show (p.more F.frm d).acc.testBit i = true; rw [hbit, o4]; rfl, fun k hk => ?_⟩
        have hk' : (p.more F.frm d).acc.testBit k = true := hk
        rw [hbit, Bool.or_eq_true, decide_eq_true_eq] at hk'
        rcases hk' with hk | rfl
        · exact o5 k hk
        · exact hs
      · cases hq; exact absurd (show (p.more F.frm d).agreed = false from hgq) (by rw [hg]; simp)
      · cases hq; exact ⟨rfl, rfl⟩
    · intro q hq; cases hq; exact p1
    · intro q k hq hk hkn hki
      cases hq
      have hk' : (p.more F.frm d).acc.testBit k = true := hk
      rw [hbit, Bool.or_eq_true, decide_eq_true_eq] at hk'
      rcases hk' with hk | rfl
      · exact h.acc i p k hi ho hk hkn
      · show vle p.id _; rw [← hid]; exact hF3
    · intro q hq hgq; cases hq; exact absurd (show (p.more F.frm d).agreed = false from hgq) (by rw [hg]; simp)
    · refine .inr ⟨hlt, rfl, p1, p4, fun k q hk hki hq he => ?_⟩
      exfalso
      have h2 := ((h.mi k hk).own q hq).2.1
      have he' : q.id = p.id := he
      rw [he', o2] at h2
      omega
    · intro x hx
      obtain ⟨t, ht, rfl⟩ := List.mem_map.1 hx
      obtain ⟨a, b, c⟩ := (mem_others (n := n) (by omega) (by omega) p3).1 ht
      refine fok_commit hself hi a (by omega) b p1 o2 (fun q hq he => ?_)
      rw [upd_same] at hq
      cases hq
      exact hg
  | kill e hk p ho hg hid hl =>
    have hpd := hm.pend p ho hg
    refine LStep.nokeep h hi rfl rfl rfl rfl (vle_refl _) (Nat.le_max_left _ _) (Nat.le_trans hm.ph (Nat.le_max_left _ _)) rfl rfl ?_ (by simp)
    show (g.ms i).cur ≠ (g.ms i).prom
    rw [← (hm.own p ho).1]
    exact vlt_ne hpd
  | high e hk hn =>
    exact LStep.soft h hi rfl rfl rfl rfl rfl (Nat.le_max_left _ _) rfl (h.told i hi) (by simp)
  | inst e hk h1 h2 =>
    have hF5 : (F.id, F.set) ∈ H ∧ F.idP = (j : Int) ∧ F.set.testBit i = true ∧ ∀ p, (g.ms j).own = some p → p.id = F.id → p.agreed = true := by
      rcases hB with ⟨k, _⟩ | ⟨k, _⟩ | ⟨k, a, b⟩ | ⟨k, _⟩ | ⟨k, a⟩
      · omega
      · omega
      · omega
      · omega
      · exact a
    obtain ⟨a, b, c, d⟩ := hF5
    have hb2 : F.id.2 = (j : Int) := b
    have hno : ∀ p, (g.ms i).own ≠ some p := fun p hp => by
      obtain ⟨o1, o2, _⟩ := hm.own p hp
      rw [o1, ← h1, hb2] at o2
      omega
    have hlt : vlt (g.ms i).cur F.id := (vle_lt_or_eq (h1 ▸ hm.cp)).resolve_left (fun e => h2 e.symm)
    refine { inv := ?_, pr := vle_refl _, cu := vlt_le hlt, hi := Nat.le_refl _, sub := fun _ hx => hx, uniq := h.uniq, hnew := fun v s hv => .inl hv, own := fun p hp => absurd hp (hno p), acc := fun p k hp => absurd hp (hno p), told := h.told i hi, pend := fun p hp => absurd hp (hno p), cur := ?_, outs := by simp }
    · refine ⟨hm.hn, hm.hs, hm.ph, vle_of_eq h1, fun p hp => absurd hp (hno p), fun p hp => absurd hp (hno p), fun p hp => absurd hp (hno p), fun c1 => ?_⟩
      exfalso
      have c1' : F.id.2 = (i : Int) := c1
      omega
    · refine .inr ⟨hlt, rfl, a, c, fun k q hk hki hq he => ?_⟩
      have h2 := ((h.mi k hk).own q hq).2.1
      have he' : q.id = F.id := he
      rw [he', hb2] at h2
      have : k = j := by omega
      subst this
      exact d q hq he'
  | skip e h3 ha hc => exact LStep.still h hi (by simp)
end
end Go.Proofs.YtlonbbepoamnmaaDoor
