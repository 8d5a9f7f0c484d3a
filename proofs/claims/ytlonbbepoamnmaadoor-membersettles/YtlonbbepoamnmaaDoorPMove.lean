/-
  What happens among nodes, in plain data: a move, and what it keeps.
-/
import Derived.Test.YtlonbbepoamnmaaDoorPAll
namespace Go.Proofs.YtlonbbepoamnmaaDoor
set_option linter.unusedVariables false

/-- What happens among nodes. -/
structure Mv where
  kind : Nat
  i : Nat
  est : Nat
  keep : Bool
/-- The state that a node tells here. -/
def stOf (m : Mm) : Sd := (m.cur.1, m.cur.2, 0, [])
def Gp.post (g : Gp) (i : Nat) (bag0 : List (Nat × PF)) (R : Res) : Gp := ⟨upd g.ms i R.m, bag0 ++ R.outs, upd g.views i (g.views i ++ insL R.inst)⟩
def beatF (m : Mm) (i : Nat) : PF := { zeroF with kind := 1, frm := (i : Int), curN := m.cur.1, curP := m.cur.2, promN := m.prom.1, promP := m.prom.2 }
def beatsTo (g : Gp) (i n : Nat) : List (Nat × PF) := ((List.range n).filter (fun j => decide (j ≠ i))).map (fun j => (j, beatF (g.ms i) i))
theorem beats_succ (g : Gp) (i k : Nat) : beatsTo g i (k + 1) = beatsTo g i k ++ (if k = i then [] else [(k, beatF (g.ms i) i)]) := by
  unfold beatsTo
  rw [List.range_succ, List.filter_append, List.map_append]
  by_cases e : k = i <;> simp [e]
theorem beats_len (g : Gp) (i n : Nat) : (beatsTo g i n).length ≤ n := by
  unfold beatsTo
  rw [List.length_map]
  have := List.length_filter_le (fun j => decide (j ≠ i)) (List.range n)
  simpa using this
def Gp.rest (g : Gp) (a : Mv) : List (Nat × PF) := if a.keep = true then g.bag else g.bag.take (a.est % g.bag.length) ++ g.bag.drop (a.est % g.bag.length + 1)
/-- It happens. -/
def Gp.move (n : Nat) (g : Gp) (a : Mv) : Gp :=
  if a.kind % 9 < 3 then g.post (a.i % n) g.bag ((g.ms (a.i % n)).tick a.est (stOf (g.ms (a.i % n))))
  else if a.kind % 9 < 8 then
    match g.bag[a.est % g.bag.length]? with
    | none => g
    | some o => if a.kind % 9 < 7 then g.post o.1 (g.rest a) ((g.ms o.1).inn o.2 (stOf (g.ms o.1))) else { g with bag := g.rest a }
  else { g with bag := g.bag ++ beatsTo g (a.i % n) n }

/-- What a move may do to each node. -/
def MvOk (n : Nat) (g g' : Gp) : Prop := ∀ k, k < n → vle (g.ms k).prom (g'.ms k).prom ∧
  (g'.views k = g.views k ∨ ∃ v, g'.views k = g.views k ++ [v] ∧ v.1 = (g'.ms k).prom ∧ (g'.ms k).opn = true ∧ (v.1.2 = (k : Int) ∨ v.1 = (g.ms k).prom))
theorem MvOk.refl (n : Nat) (g : Gp) : MvOk n g g := fun k _ => ⟨vle_refl _, .inl rfl⟩

section
variable {n i : Nat} {g : Gp} {H : List (Vid × Nat)}
theorem tick_ok (h : GInv n g H) (hi : i < n) (est : Nat) (st : Sd) : ∀ x, ((g.ms i).tick est st).inst = some x → x.id = ((g.ms i).tick est st).m.prom ∧ ((g.ms i).tick est st).m.opn = true ∧ x.id.2 = (i : Int) := by
  intro x hx
  have hs := (h.mi i hi).hs
  unfold Mm.tick at hx ⊢
  split at hx
  · rename_i h1
    rw [if_pos h1]
    split at hx
    · rename_i h2
      rw [if_pos h2]
      simp only [Option.some.injEq] at hx
      subst hx
      refine ⟨rfl, ?_, ?_⟩
      · unfold Mm.opn Mm.install Mm.propose Mm.prop
        simp
      · show ((g.ms i).self : Int) = (i : Int)
        rw [hs]
    · cases hx
  · cases hx
theorem in_ok (h : GInv n g H) {F : PF} (st : Sd) (hF : FOk n g.ms H i F) : ∀ x, ((g.ms i).inn F st).inst = some x → x.id = ((g.ms i).inn F st).m.prom ∧ ((g.ms i).inn F st).m.opn = true ∧ (x.id.2 = (i : Int) ∨ x.id = (g.ms i).prom) := by
  obtain ⟨hi, j, hfrm, hj, hne, hB⟩ := hF
  have hC := in_cases h st hi hfrm hj hne hB
  generalize hR : (g.ms i).inn F st = R at hC ⊢
  clear hR
  intro x hx
  cases hC with
  | beat => cases hx
  | take => cases hx
  | again => cases hx
  | no => cases hx
  | acc => cases hx
  | kill => cases hx
  | high => cases hx
  | skip => cases hx
  | all e hk p d ho hst hid hs ha hg =>
    simp only [Option.some.injEq] at hx
    subst hx
    obtain ⟨o1, o2, o3, _⟩ := (h.mi i hi).own p ho
    refine ⟨o1, ?_, .inl o2⟩
    unfold Mm.opn Mm.install
    have e1 : (p.more F.frm d).id = p.id := rfl
    simp only [e1]
    rw [decide_eq_true (show 0 < p.id.1 by omega), decide_eq_true o1.symm]
    rfl
  | inst e hk h1 h2 =>
    simp only [Option.some.injEq] at hx
    subst hx
    refine ⟨h1, ?_, .inr h1⟩
    have h5 : (F.id, F.set) ∈ H := by
      rcases hB with ⟨k, _⟩ | ⟨k, _⟩ | ⟨k, _⟩ | ⟨k, _⟩ | ⟨k, a, _⟩
      all_goals first | exact a | (rw [hk] at k; cases k)
    obtain ⟨_, _, _, h6, _⟩ := h.hok _ _ h5
    unfold Mm.opn
    simp only
    rw [decide_eq_true (show 0 < F.id.1 by omega), decide_eq_true h1.symm]
    rfl
theorem post_ok {R : Res} {bag0 : List (Nat × PF)} (hi : i < n) (hp : vle (g.ms i).prom R.m.prom) (hx : ∀ x, R.inst = some x → x.id = R.m.prom ∧ R.m.opn = true ∧ (x.id.2 = (i : Int) ∨ x.id = (g.ms i).prom)) : MvOk n g (g.post i bag0 R) := by
  intro k hk
  unfold Gp.post
  by_cases e : k = i
  · subst e
    simp only [upd_same]
    refine ⟨hp, ?_⟩
    cases hR : R.inst with
    | none => left; simp [insL]
    | some x =>
      obtain ⟨x1, x2, x3⟩ := hx x hR
      refine .inr ⟨(x.id, x.set), ?_, x1, x2, x3⟩
      simp [insL]
  · refine ⟨?_, .inl (upd_other _ _ e)⟩
    show vle _ (upd g.ms i R.m k).prom
    rw [upd_other _ _ e]; exact vle_refl _
theorem upd_self {α : Type} (f : Nat → α) (i : Nat) : upd f i (f i) = f := by funext j; unfold upd; split <;> simp_all
theorem rest_mem {a : Mv} : ∀ x ∈ g.rest a, x ∈ g.bag := by
  intro x hx
  unfold Gp.rest at hx
  split at hx
  · exact hx
  · rcases List.mem_append.1 hx with hx | hx
    · exact List.mem_of_mem_take hx
    · exact List.mem_of_mem_drop hx
theorem beat_fok (h : GInv n g H) (hi : i < n) : ∀ x ∈ beatsTo g i n, FOk n g.ms H x.1 x.2 := by
  intro x hx
  unfold beatsTo at hx
  obtain ⟨j, hj, rfl⟩ := List.mem_map.1 hx
  obtain ⟨hj1, hj2⟩ := List.mem_filter.1 hj
  have hjn := List.mem_range.1 hj1
  have hne : j ≠ i := by simpa using hj2
  exact ⟨hjn, i, rfl, hi, fun e => hne e.symm, .inl ⟨rfl, vle_refl _, vle_refl _⟩⟩
/-- A move keeps what always holds. -/
theorem move_inv (h : GInv n g H) (a : Mv) : ∃ H', GInv n (g.move n a) H' ∧ MvOk n g (g.move n a) := by
  have hn := h.n1
  have hi : a.i % n < n := Nat.mod_lt _ (by omega)
  unfold Gp.move
  split
  · obtain ⟨H', s⟩ := tick_step h hi a.est (stOf (g.ms (a.i % n)))
    exact ⟨H', h.step hi s (fun x hx => hx), post_ok hi s.pr (fun x hx => by obtain ⟨x1, x2, x3⟩ := tick_ok h hi _ _ x hx; exact ⟨x1, x2, .inl x3⟩)⟩
  split
  · split
    · exact ⟨H, h, MvOk.refl _ _⟩
    · rename_i o ho
      have hF := h.bag o (List.mem_of_getElem? ho)
      split
      · have s := in_step h (stOf (g.ms o.1)) hF
        exact ⟨H, h.step hF.1 s rest_mem, post_ok hF.1 s.pr (in_ok h _ hF)⟩
      · have := h.step (bag0 := g.rest a) hi (LStep.still h hi (outs := []) (by simp)) rest_mem
        rw [upd_self, List.append_nil, List.append_nil, upd_self] at this
        exact ⟨H, this, fun k _ => ⟨vle_refl _, .inl rfl⟩⟩
  · have := h.step (bag0 := g.bag) hi (LStep.still h hi (beat_fok h hi)) (fun x hx => hx)
    rw [upd_self, List.append_nil, upd_self] at this
    exact ⟨H, this, fun k _ => ⟨vle_refl _, .inl rfl⟩⟩
end

theorem nodes16_le (s : Nat) : (nodes s 16).length ≤ 16 := by rw [nodes_len]; exact cntF_le _ _
theorem remind_le (m : Mm) : m.remind.length ≤ 16 := by
  unfold Mm.remind
  split
  · simp
  · rename_i p _
    have h1 := nodes16_le (withoutN p.set (m.self : Nat))
    split <;> rw [List.length_map]
    · have := List.length_filter_le (fun i => !decide ((m.told i).1 = p.id)) (m.others p)
      unfold Mm.others at *
      omega
    · have := List.length_filter_le (fun i => !hasN p.acc (i : Nat)) (m.others p)
      unfold Mm.others at *
      omega
theorem tick_outs_le (m : Mm) (est : Nat) (st : Sd) : (m.tick est st).outs.length ≤ 16 := by
  unfold Mm.tick
  split
  · split
    · simp
    · show (m.propose (m.estOf est) st).remind.length ≤ 16
      exact remind_le _
  · show m.remind.length ≤ 16
    exact remind_le _
theorem inn_outs_le (m : Mm) (F : PF) (st : Sd) : (m.inn F st).outs.length ≤ 16 := by
  unfold Mm.inn
  split
  · simp
  split
  · simp
  split
  · unfold Mm.proposed
    split
    · simp
    split <;> simp
  split
  · unfold Mm.accepted
    split
    · split
      · split
        · simp only [List.length_map]
          exact nodes16_le _
        · simp
      · simp
    · simp
  split
  · simp
  split
  · unfold Mm.committed
    split <;> simp
  · simp
theorem rest_le (g : Gp) (a : Mv) : (g.rest a).length ≤ g.bag.length := by
  unfold Gp.rest
  split
  · exact Nat.le_refl _
  · rw [List.length_append, List.length_take, List.length_drop]
    omega
theorem insL_le (o : Option Ins) : (insL o).length ≤ 1 := by cases o <;> simp [insL]
/-- How much more there is behind a move. -/
theorem move_sz (n : Nat) (hn : n ≤ 16) (g : Gp) (a : Mv) : (g.move n a).bag.length ≤ g.bag.length + 16 ∧ ∀ i, ((g.move n a).views i).length ≤ (g.views i).length + 1 := by
  have hp : ∀ (i : Nat) (bag0 : List (Nat × PF)) (R : Res), bag0.length ≤ g.bag.length → R.outs.length ≤ 16 → (g.post i bag0 R).bag.length ≤ g.bag.length + 16 ∧ ∀ j, ((g.post i bag0 R).views j).length ≤ (g.views j).length + 1 := by
    intro i bag0 R h1 h2
    unfold Gp.post
    refine ⟨by rw [List.length_append]; omega, fun j => ?_⟩
    by_cases e : j = i
    · subst e
      simp only [upd_same]
      have := insL_le R.inst
      rw [List.length_append]; omega
    · simp only [upd_other _ _ e]; omega
  unfold Gp.move
  split
  · exact hp _ _ _ (Nat.le_refl _) (tick_outs_le _ _ _)
  split
  · split
    · exact ⟨by omega, fun _ => by omega⟩
    · split
      · exact hp _ _ _ (rest_le _ _) (inn_outs_le _ _ _)
      · exact ⟨by have := rest_le g a; show (g.rest a).length ≤ _; omega, fun _ => by show (g.views _).length ≤ _; omega⟩
  · refine ⟨?_, fun _ => by show (g.views _).length ≤ _; omega⟩
    show (g.bag ++ beatsTo g (a.i % n) n).length ≤ _
    have := beats_len g (a.i % n) n
    rw [List.length_append]; omega
/-- Nodes without views. -/
def begG (n : Nat) : Gp := ⟨fun i => newM n i, [], fun _ => []⟩
theorem beg_inv (n : Nat) (h1 : 1 ≤ n) (h6 : n ≤ 6) : GInv n (begG n) [] where
  n1 := h1
  n6 := h6
  mi := fun i hi => {
    hn := rfl
    hs := rfl
    ph := Nat.le_refl _
    cp := vle_refl _
    own := fun p hp => by cases hp
    pend := fun p hp => by cases hp
    done := fun p hp => by cases hp
    mine := fun _ _ h => absurd (show (1 : Nat) ≤ 0 from h) (by omega) }
  hok := fun v s hv => by cases hv
  uniq := fun v s s' hv => by cases hv
  ownH := fun i p hi hp => by cases hp
  acc := fun i p k hi hp => by cases hp
  told := fun i hi j => ⟨fun _ _ => ⟨vle_refl _, vle_refl _⟩, fun _ => rfl⟩
  com := fun i j p hi hj hij hp => by cases hp
  bag := fun x hx => by cases hx
  views := fun i hi => ⟨List.Pairwise.nil, fun v hv => (by cases hv), rfl⟩
end Go.Proofs.YtlonbbepoamnmaaDoor
