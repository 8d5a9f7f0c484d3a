/-
  States are joined (proposal.join, joined); a proposal that all have accepted is installed (Member.installOwn).
-/
import Derived.Test.YtlonbbepoamnmaaDoorMProp
namespace Go.Proofs.YtlonbbepoamnmaaDoor
open Go.RowKit
set_option linter.unusedVariables false

section
variable {w : World} {F Z : Nat → Prop} {q p : Nat} {M : Mm} {P : Pp} {o : Option Nat}

theorem own_row {w : World} {F Z : Nat → Prop} {ao : Option Addr} {n cap : Nat} {ss : List Sx} (h : w.ownsRow 1 45 4 (.slice ao n cap) n (flat ss)) : SR (fun _ => True) w ao n ss := by
  obtain ⟨ao', c', e', hsr, _⟩ := SR.own h
  simp only [Value.slice.injEq] at e'
  obtain ⟨rfl, _, rfl⟩ := e'
  exact hsr.imp (fun _ _ _ => trivial)
theorem own_base {w : World} {B n : Nat} {v : Value} {xs : List Value} (h : w.ownsRow B 45 4 v n xs) (hB : 1 ≤ B) : w.ownsRow 1 45 4 v n xs := own_mono h hB

/-- joined: what is to be told of the states, in memory of its own. -/
theorem joined_any (hp : Pb w F Z q p P) : Calls Tryd.prog 61 #[.pointer (some ⟨p, 0, none⟩)] w fun e w' => ∃ ao cap, e = .returned (.slice ao (joinD P.sts).length cap) ∧ Ss (fun b => w.heap.size ≤ b) w' ao (joinD P.sts).length (joinD P.sts) ∧ Below w.heap.size w w' := by
  obtain ⟨ao, cap, ss, r1, r2, r3, r4, r5⟩ := hp.row
  have hlen : P.sts.length ≤ 16 := Nat.le_trans hp.len (cntF_le 16 _)
  have hj := joinS_any w ao P.sts.length cap ss P.sts (own_row (F := F) (Z := Z) r2) rfl r5 (by omega)
  clear hp r2 r3 r4 r5
  go_enter Tryd.func61, Tryd.ntmps61
  go_wp2_with fail
  refine hj.mono ?_
  rintro e w1 ⟨ao', cap', rs, rfl, hown, hrl, hsi, hb⟩
  have HE : Hid (Ss (fun b => w.heap.size ≤ b) w1 ao' (joinD P.sts).length (joinD P.sts) ∧ Below w.heap.size w w1) := by
    obtain ⟨ao2, c2, e2, hsr, _⟩ := SR.own hown
    simp only [Value.slice.injEq] at e2
    obtain ⟨rfl, _, rfl⟩ := e2
    exact ⟨⟨rs, hsr.imp (fun b _ h => h.2), rfl, fun j x d hx hd => (hsi j x d hx hd).imp (fun b _ h => h.1)⟩, hb⟩
  clear hj hown hrl hsi hb
  go_wp2
  go_ret
  exact ⟨ao', cap', rfl, HE.out⟩

/-- join: from now on just what is to be told is kept. -/
theorem join_mem2 (h : Mb w F Z q M (some p)) (hM : M.own = some P) {w1 : World} {ao' : Option Addr} {cap' : Nat} {rs : List Sx} (hown : w1.ownsRow w.heap.size 45 4 (.slice ao' (joinD P.sts).length cap') (joinD P.sts).length (flat rs)) (hrl : rs.length = (joinD P.sts).length)
    (hsi : ∀ (j : Nat) (x : Sx) (d : Sd), rs[j]? = some x → (joinD P.sts)[j]? = some d → Si (fun b => w.heap.size ≤ b ∧ ∀ a, ao' = some a → b ≠ a.block) w1 x d) (hb : Below w.heap.size w w1) :
    ∃ F' Z', Sp w F Z (w1.setCell ⟨p, 4, none⟩ (.slice ao' (joinD P.sts).length cap')) F' Z' ∧ Mb (w1.setCell ⟨p, 4, none⟩ (.slice ao' (joinD P.sts).length cap')) F' Z' q { M with own := some { P with sts := joinD P.sts } } (some p) := by
  obtain ⟨_, hpe, hp⟩ := h.ownSome hM
  cases hpe
  have hpl := h.lt p hp.fp
  have hql := h.lt q h.fq
  have h1z := h.tab.lt
  have s1 := hb.size
  have newb : ∀ a, ao' = some a → w.heap.size ≤ a.block ∧ a.block < w1.heap.size := fun a ha => by
    subst ha
    exact hown.lt _ (by simp [Value.ownBlock])
  have blk : ∀ b, b < w.heap.size → b ≠ p → (w1.setCell ⟨p, 4, none⟩ (.slice ao' (joinD P.sts).length cap')).heap[b]? = w.heap[b]? := fun b hbb hbp => (heap_setCell_other _ _ _ _ hbp).trans (hb.block b hbb)
  have pcell : ∀ j, j ≠ 4 → (w1.setCell ⟨p, 4, none⟩ (.slice ao' (joinD P.sts).length cap')).cell? ⟨p, j, none⟩ = w.cell? ⟨p, j, none⟩ := fun j hj => by rw [set_other hj, cell_block (hb.block p hpl)]
  obtain ⟨ao, cap, ss, r1, r2, r3, r4, r5⟩ := hp.row
  refine ⟨fun b => F b ∨ ∃ a, ao' = some a ∧ b = a.block, fun b => Z b ∨ (w.heap.size ≤ b ∧ b < w1.heap.size ∧ ∀ a, ao' = some a → b ≠ a.block), ⟨(Turned.of_below hb).setCell (.inl hp.fp) _, ?_, fun b hb => .inl hb, ?_, ?_⟩, ?_⟩
  · rintro b (hb | ⟨a, ha, rfl⟩)
    · exact .inl hb
    · exact .inr (newb a ha).1
  · rintro b (hb | hb)
    · exact .inl hb
    · exact .inr hb.1
  · rintro b (hb | hb)
    · rw [World.size_setCell]; have := h.zl b hb; omega
    · rw [World.size_setCell]; exact hb.2.1
  · have hqp : q ≠ p := fun e => hp.ne e.symm
    refine { cell := fun k hk => ?_, fr := fun k => ?_, fq := .inl h.fq, lt := ?_, f0 := ?_, zf := ?_, zl := ?_, tab := ?_, n16 := h.n16, sn := h.sn, own := ?_ }
    · rw [cell_block (blk q hql hqp), h.cell k hk]
      rfl
    · rw [frozen_block (blk q hql hqp)]; exact h.fr k
    · rintro b (hb | ⟨a, ha, rfl⟩)
      · rw [World.size_setCell]; have := h.lt b hb; omega
      · rw [World.size_setCell]; exact (newb a ha).2
    · rintro b (hb | ⟨a, ha, rfl⟩)
      · exact h.f0 b hb
      · have := (newb a ha).1; omega
    · rintro b (hb | hb) (hf | ⟨a, ha, e⟩)
      · exact h.zf b hb hf
      · have := h.zl b hb; have := (newb a ha).1; omega
      · have := h.lt b hf; omega
      · exact hb.2.2 a ha e
    · rintro b (hb | hb)
      · rw [World.size_setCell]; have := h.zl b hb; omega
      · rw [World.size_setCell]; exact hb.2.1
    · exact h.tab.keep (blk 0 h1z (by have := h.f0 p hp.fp; omega))
    · show Pb _ _ _ _ _ _
      refine { ne := hp.ne, fp := .inl hp.fp, c0 := (pcell 0 (by omega)).trans hp.c0, c1 := (pcell 1 (by omega)).trans hp.c1, c2 := (pcell 2 (by omega)).trans hp.c2, c3 := (pcell 3 (by omega)).trans hp.c3, fr := fun k => by rw [World.frozen?_setCell, frozen_block (hb.block p hpl)]; exact hp.fr k, s16 := hp.s16, a16 := hp.a16, len := Nat.le_trans (joinD_len _) hp.len, row := ?_ }
      refine ⟨ao', cap', rs, set_cell ((cell_block (hb.block p hpl)).trans r1), ?_, fun a ha => ⟨.inr ⟨a, ha, rfl⟩, ?_⟩, hrl, fun j x d hx hd => ?_⟩
      · refine row_block (own_base hown h1z) (fun b hbb => heap_setCell_other _ _ _ _ ?_)
        show b ≠ p
        have := (hown.lt b hbb).1
        omega
      · have := (newb a ha).1
        exact ⟨by omega, by omega⟩
      · refine ((hsi j x d hx hd).imp (q := fun b => w.heap.size ≤ b ∧ b < w1.heap.size ∧ ∀ a, ao' = some a → b ≠ a.block) (fun b hbl hb => ⟨hb.1, hbl, hb.2⟩)).keep (Kp.setCell (fun b hb e => ?_)) |>.imp (fun b _ hb => .inr hb)
        have := hb.1
        omega
theorem join_own (h : Mb w F Z q M (some p)) (hM : M.own = some P) : Calls Tryd.prog 60 #[.pointer (some ⟨p, 0, none⟩)] w fun e w' => e = .returned (.tuple #[]) ∧ ∃ F' Z', Sp w F Z w' F' Z' ∧ Mb w' F' Z' q { M with own := some { P with sts := joinD P.sts } } (some p) := by
  obtain ⟨_, hpe, hp⟩ := h.ownSome hM
  cases hpe
  obtain ⟨ao, cap, ss, r1, r2, r3, r4, r5⟩ := hp.row
  have hlen : P.sts.length ≤ 16 := Nat.le_trans hp.len (cntF_le 16 _)
  have hj := joinS_any w ao P.sts.length cap ss P.sts (own_row (F := F) (Z := Z) r2) rfl r5 (by omega)
  have HM : Hid (Mb w F Z q M (some p) ∧ p < w.heap.size ∧ w.frozen? ⟨p, 4, none⟩ = false) := ⟨h, h.lt p hp.fp, hp.fr 4⟩
  clear h hp r2 r3 r4 r5
  go_enter Tryd.func60, Tryd.ntmps60
  go_wp2_with fail
  refine hj.mono ?_
  rintro e w1 ⟨ao', cap', rs, rfl, hown, hrl, hsi, hb⟩
  have HE : Hid (∃ F' Z', Sp w F Z (w1.setCell ⟨p, 4, none⟩ (.slice ao' (joinD P.sts).length cap')) F' Z' ∧ Mb (w1.setCell ⟨p, 4, none⟩ (.slice ao' (joinD P.sts).length cap')) F' Z' q { M with own := some { P with sts := joinD P.sts } } (some p)) := join_mem2 HM.out.1 hM hown hrl hsi hb
  have c4 := (cell_block (o := 4) (hb.block p HM.out.2.1)).trans r1
  have f4 := (frozen_block (o := 4) (hb.block p HM.out.2.1)).trans HM.out.2.2
  clear hj hown hrl hsi hb HM hM r1
  go_wp2
  go_end0
  exact ⟨rfl, HE.out⟩

/-- A view that is installed, in memory. -/
structure Ib (w : World) (Z : Nat → Prop) (b : Nat) (I : Ins) : Prop where
  zb : Z b
  cell : ∃ ao cap, w.heap[b]? = some (.cells #[.int .u64 (I.id.1 : Nat), .int .i64 I.id.2, .int .u16 (I.set : Nat), .slice ao I.sts.length cap] 82 (0, 0)) ∧ Ss Z w ao I.sts.length I.sts
theorem Ib.keep {w w' : World} {Z Z' : Nat → Prop} {b : Nat} {I : Ins} (h : Ib w Z b I) (hk : Kp Z w w') (hb : w'.heap[b]? = w.heap[b]?) (hz : ∀ b, Z b → Z' b) : Ib w' Z' b I := by
  obtain ⟨ao, cap, h1, h2⟩ := h.cell
  exact ⟨hz _ h.zb, ao, cap, hb.trans h1, (h2.keep hk).imp (fun _ _ h => hz _ h)⟩

theorem install_not (h : Mb w F Z q M (some p)) (hM : M.own = some P) (hg : P.agreed = false) : Calls Tryd.prog 33 #[.pointer (some ⟨q, 0, none⟩)] w fun e w' => e = .returned (.pointer none) ∧ Below w.heap.size w w' := by
  obtain ⟨_, hpe, hp⟩ := h.ownSome hM
  cases hpe
  have c8 := h.cell 8 (by omega)
  unfold mcell ptr at c8
  simp only [Option.map_some] at c8
  have ha := agreed_any hp
  rw [hg] at ha
  clear h hp hg
  go_enter Tryd.func33, Tryd.ntmps33
  go_wp2_with fail
  refine ha.mono ?_
  rintro e w1 ⟨rfl, u1⟩
  clear ha
  go_wp2
  go_ret
  exact ⟨rfl, u1.bl⟩

set_option maxRecDepth 10000 in
set_option maxHeartbeats 1000000 in
theorem install_any (h : Mb w F Z q M (some p)) (hM : M.own = some P) (hg : P.agreed = true) : Calls Tryd.prog 33 #[.pointer (some ⟨q, 0, none⟩)] w fun e w' => ∃ b, e = .returned (.pointer (some ⟨b, 0, none⟩)) ∧ ∃ F' Z', Sp w F Z w' F' Z' ∧ Mb w' F' Z' q (M.install P) (some p) ∧ Ib w' Z' b (insOf P) := by
  obtain ⟨_, hpe, hp⟩ := h.ownSome hM
  cases hpe
  have c8 := h.cell 8 (by omega)
  unfold mcell ptr at c8
  simp only [Option.map_some] at c8
  have ha := agreed_any hp
  rw [hg] at ha
  have HM : Hid (Mb w F Z q M (some p)) := h
  clear h hp hg
  go_enter Tryd.func33, Tryd.ntmps33
  go_wp2_with fail
  refine ha.mono ?_
  rintro e w1 ⟨rfl, u1⟩
  have h1 := HM.out.still u1.bl
  have sp1 : Sp w F Z w1 F Z := Sp.still u1.bl HM.out.zl
  have d8 := h1.cell 8 (by omega)
  unfold mcell ptr at d8
  simp only [Option.map_some] at d8
  have hjn := join_own h1 hM
  have HS : Hid (Sp w F Z w1 F Z) := sp1
  clear ha u1 h1 sp1 c8 HM
  go_wp2_with fail
  refine hjn.mono ?_
  rintro e w2 ⟨rfl, F2, Z2, sp2, h2⟩
  obtain ⟨_, hpe, hp2⟩ := h2.ownSome rfl
  cases hpe
  have sp02 := HS.out.trans sp2
  have e8 := h2.cell 8 (by omega)
  have e2 := h2.cell 2 (by omega)
  have e3 := h2.cell 3 (by omega)
  have e4 := h2.cell 4 (by omega)
  unfold mcell at e8 e2 e3 e4
  unfold ptr at e8
  simp only [Option.map_some] at e8 e2 e3 e4
  have p0 := hp2.c0
  have p1 := hp2.c1
  have p2 := hp2.c2
  have g2 := h2.fr 2
  have g3 := h2.fr 3
  have g4 := h2.fr 4
  obtain ⟨w3, hw3⟩ : ∃ w3, ((w2.setCell ⟨q, 2, none⟩ (.int .u64 (P.id.1 : Nat))).setCell ⟨q, 3, none⟩ (.int .i64 P.id.2)).setCell ⟨q, 4, none⟩ (.int .u16 (P.set : Nat)) = w3 := ⟨_, rfl⟩
  have h3 : Mb w3 F2 Z2 q (M.install P) (some p) := by rw [← hw3]; exact h2.setCur P.id P.set
  have sp3 : Sp w F Z w3 F2 Z2 := by
    have a1 := sp_set (w' := w) h2 sp02 2 (.int .u64 (P.id.1 : Nat))
    have st : ∀ {W : World} (k : Nat) (v : Value), Sp w F Z W F2 Z2 → Sp w F Z (W.setCell ⟨q, k, none⟩ v) F2 Z2 := fun {W} k v s => s.trans ⟨(Turned.refl F2 _).setCell (.inl h2.fq) _, fun _ h => .inl h, fun _ h => h, fun _ h => .inl h, fun b hb => by rw [World.size_setCell]; exact s.zlt b hb⟩
    rw [← hw3]
    exact st 4 _ (st 3 _ a1)
  obtain ⟨_, hpe, hp3⟩ := h3.ownSome (P := { P with sts := joinD P.sts }) rfl
  cases hpe
  have hjd := joined_any (hp3.frame (w' := w3.drew) (Z' := Z2) (fun b hb => rfl) (Kp.up ((Below.refl _ w3).drew)) (fun _ h => h))
  have k8 := h3.cell 8 (by omega)
  have k2 := h3.cell 2 (by omega)
  have k3 := h3.cell 3 (by omega)
  have k4 := h3.cell 4 (by omega)
  unfold mcell at k8 k2 k3 k4
  unfold ptr at k8
  simp only [Option.map_some] at k8
  have hS : w3.drew.cell? ⟨q, 8, none⟩ = some (.pointer (some ⟨p, 0, none⟩)) ∧ w3.drew.cell? ⟨q, 2, none⟩ = some (.int .u64 (P.id.1 : Nat)) ∧ w3.drew.cell? ⟨q, 3, none⟩ = some (.int .i64 P.id.2) ∧ w3.drew.cell? ⟨q, 4, none⟩ = some (.int .u16 (P.set : Nat)) := ⟨k8, k2, k3, k4⟩
  have H3 : Hid (Mb w3 F2 Z2 q (M.install P) (some p) ∧ Sp w F Z w3 F2 Z2) := ⟨h3, sp3⟩
  clear h2 sp2 hp2 sp02 HS hjn h3 sp3 hp3 k8 k2 k3 k4 d8 hM
  go_wp2_with fail
  (try simp only [hw3])
  clear hw3 e8 e2 e3 e4 p0 p1 p2 g2 g3 g4
  refine wp_region_noPanic ?_
  refine wp_region_held_drew (S := fun wx => wx.cell? ⟨q, 8, none⟩ = some (.pointer (some ⟨p, 0, none⟩)) ∧ wx.cell? ⟨q, 2, none⟩ = some (.int .u64 (P.id.1 : Nat)) ∧ wx.cell? ⟨q, 3, none⟩ = some (.int .i64 P.id.2) ∧ wx.cell? ⟨q, 4, none⟩ = some (.int .u16 (P.set : Nat))) (by kernel_rfl) hS (fun hHeld => ?_)
  refine take_first 0 (v := ?_) rfl (by kernel_rfl) (by kernel_rfl) (by kernel_rfl) (fun _ _ _ h => h) (Or.inl ⟨by rfl, by intro wx hSw; (try dsimp only at hSw); obtain ⟨a1, a2, a3, a4⟩ := hSw; go_simp; try with_reducible rfl⟩) (by assumption) ?_
  (try simp only [Act.put, List.setIfInBounds_toArray, List.set_cons_zero, List.set_cons_succ])
  refine take_first 1 (v := ?_) rfl (by kernel_rfl) (by kernel_rfl) (by kernel_rfl) (fun _ _ _ h => h) (Or.inl ⟨by rfl, by intro wx hSw; (try dsimp only at hSw); obtain ⟨a1, a2, a3, a4⟩ := hSw; go_simp; try with_reducible rfl⟩) (by assumption) ?_
  (try simp only [Act.put, List.setIfInBounds_toArray, List.set_cons_zero, List.set_cons_succ])
  refine take_first 2 (v := ?_) rfl (by kernel_rfl) (by kernel_rfl) (by kernel_rfl) (fun _ _ _ h => h) (Or.inl ⟨by rfl, by intro wx hSw; (try dsimp only at hSw); obtain ⟨a1, a2, a3, a4⟩ := hSw; go_simp; try with_reducible rfl⟩) (by assumption) ?_
  (try simp only [Act.put, List.setIfInBounds_toArray, List.set_cons_zero, List.set_cons_succ])
  refine take_first 3 (v := ?_) rfl (by kernel_rfl) (by kernel_rfl) (by kernel_rfl) (fun _ _ _ h => h) (Or.inl ⟨by rfl, by intro wx hSw; (try dsimp only at hSw); obtain ⟨a1, a2, a3, a4⟩ := hSw; go_simp; try with_reducible rfl⟩) (by assumption) ?_
  (try simp only [Act.put, List.setIfInBounds_toArray, List.set_cons_zero, List.set_cons_succ])
  refine take_first 4 (v := ?_) rfl (by kernel_rfl) (by kernel_rfl) (by kernel_rfl) (fun _ _ _ h => h) (Or.inl ⟨by rfl, by intro wx hSw; (try dsimp only at hSw); obtain ⟨a1, a2, a3, a4⟩ := hSw; go_simp; try with_reducible rfl⟩) (by assumption) ?_
  (try simp only [Act.put, List.setIfInBounds_toArray, List.set_cons_zero, List.set_cons_succ])
  refine take_first 5 (v := ?_) rfl (by kernel_rfl) (by kernel_rfl) (by kernel_rfl) (fun _ _ _ h => h) (Or.inl ⟨by rfl, by intro wx hSw; (try dsimp only at hSw); obtain ⟨a1, a2, a3, a4⟩ := hSw; go_simp; try with_reducible rfl⟩) (by assumption) ?_
  (try simp only [Act.put, List.setIfInBounds_toArray, List.set_cons_zero, List.set_cons_succ])
  refine take_first 6 (v := ?_) rfl (by kernel_rfl) (by kernel_rfl) (by kernel_rfl) (fun _ _ _ h => h) (Or.inl ⟨by rfl, by intro wx hSw; (try dsimp only at hSw); obtain ⟨a1, a2, a3, a4⟩ := hSw; go_simp; try with_reducible rfl⟩) (by assumption) ?_
  (try simp only [Act.put, List.setIfInBounds_toArray, List.set_cons_zero, List.set_cons_succ])
  refine take_first 7 (v := ?_) rfl (by kernel_rfl) (by kernel_rfl) (by kernel_rfl) (fun _ _ _ h => h) (Or.inl ⟨by rfl, by intro wx hSw; (try dsimp only at hSw); obtain ⟨a1, a2, a3, a4⟩ := hSw; go_simp; try with_reducible rfl⟩) (by assumption) ?_
  (try simp only [Act.put, List.setIfInBounds_toArray, List.set_cons_zero, List.set_cons_succ])
  refine comes_up 8 rfl (by kernel_rfl) (fun K hK => ?_)
  go_simp
  refine hjd.mono ?_
  rintro e w4 ⟨ao4, cap4, rfl, hss, hb4⟩
  have hb4' : Below w3.heap.size w3 w4 := ⟨hb4.os, hb4.tape, hb4.output, hb4.size, hb4.block⟩
  have hS4 : w4.cell? ⟨q, 8, none⟩ = some (.pointer (some ⟨p, 0, none⟩)) ∧ w4.cell? ⟨q, 2, none⟩ = some (.int .u64 (P.id.1 : Nat)) ∧ w4.cell? ⟨q, 3, none⟩ = some (.int .i64 P.id.2) ∧ w4.cell? ⟨q, 4, none⟩ = some (.int .u16 (P.set : Nat)) := ⟨bl_cell hb4' hS.1, bl_cell hb4' hS.2.1, bl_cell hb4' hS.2.2.1, bl_cell hb4' hS.2.2.2⟩
  obtain ⟨o5, ho5⟩ : ∃ o5 : Obj, Obj.cells #[.int .u64 (P.id.1 : Nat), .int .i64 P.id.2, .int .u16 (P.set : Nat), .slice ao4 (joinD (joinD P.sts)).length cap4] 82 = o5 := ⟨_, rfl⟩
  have hb5 : Below w3.heap.size w3 (w4.alloc o5) := hb4'.alloc hb4'.size o5
  have hS5 : (w4.alloc o5).cell? ⟨q, 8, none⟩ = some (.pointer (some ⟨p, 0, none⟩)) ∧ (w4.alloc o5).cell? ⟨q, 2, none⟩ = some (.int .u64 (P.id.1 : Nat)) ∧ (w4.alloc o5).cell? ⟨q, 3, none⟩ = some (.int .i64 P.id.2) ∧ (w4.alloc o5).cell? ⟨q, 4, none⟩ = some (.int .u16 (P.set : Nat)) := ⟨bl_cell hb5 hS.1, bl_cell hb5 hS.2.1, bl_cell hb5 hS.2.2.1, bl_cell hb5 hS.2.2.2⟩
  have HE : Hid (∃ F' Z', Sp w F Z (w4.alloc o5) F' Z' ∧ Mb (w4.alloc o5) F' Z' q (M.install P) (some p) ∧ Ib (w4.alloc o5) Z' w4.heap.size (insOf P)) := by
    refine ⟨F2, nz Z2 w3 (w4.alloc o5), H3.out.2.trans (Sp.up hb5 H3.out.1.zl), H3.out.1.up hb5, ⟨.inr ⟨hb4'.size, by simp⟩, ao4, cap4, ?_, ?_⟩⟩
    · rw [← ho5]; exact heap_alloc_new _ _
    · refine ((hss.imp (q := fun b => w3.heap.size ≤ b ∧ b < w4.heap.size) (fun b hl hb => ⟨hb, hl⟩)).keep (Kp.up (bl1 w4 o5))).imp (fun b _ hb => .inr ⟨hb.1, by simp; omega⟩)
  rw [← ho5] at hS5 HE
  clear ho5 hjd hss hb4 hb4' hb5 H3 hS
  go_wp2_with fail
  refine hK.out _ _ hS4 (fun hHeld => ?_)
  clear hK K
  (try simp only [Act.put, List.setIfInBounds_toArray, List.set_cons_zero, List.set_cons_succ])
  refine take_first 9 (v := ?_) rfl (by kernel_rfl) (by kernel_rfl) (by kernel_rfl) (fun _ _ _ h => h) (Or.inl ⟨by rfl, by intro wx hSw; (try dsimp only at hSw); obtain ⟨a1, a2, a3, a4⟩ := hSw; go_simp; try with_reducible rfl⟩) (by assumption) ?_
  (try simp only [Act.put, List.setIfInBounds_toArray, List.set_cons_zero, List.set_cons_succ])
  refine comes_up 10 rfl (by kernel_rfl) (fun K hK => ?_)
  go_simp
  refine hK.out _ _ hS5 (fun hHeld => ?_)
  clear hK K
  (try simp only [Act.put, List.setIfInBounds_toArray, List.set_cons_zero, List.set_cons_succ])
  refine take_first 11 (v := ?_) rfl (by kernel_rfl) (by kernel_rfl) (by kernel_rfl) (fun _ _ _ h => h) (Or.inl ⟨by rfl, by intro wx hSw; (try dsimp only at hSw); obtain ⟨a1, a2, a3, a4⟩ := hSw; go_simp; try with_reducible rfl⟩) (by assumption) ?_
  (try simp only [Act.put, List.setIfInBounds_toArray, List.set_cons_zero, List.set_cons_succ])
  refine wpAnyH_done (by kernel_rfl) ?_ _
  refine NoPanic.normal ?_
  go_wp2
  go_ret
  exact ⟨_, rfl, HE.out⟩
end
end Go.Proofs.YtlonbbepoamnmaaDoor
