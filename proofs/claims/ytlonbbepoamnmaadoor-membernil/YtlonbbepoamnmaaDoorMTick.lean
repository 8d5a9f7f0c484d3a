/-
  A tick (Member.remind, Tick).
-/
import Derived.Test.YtlonbbepoamnmaaDoorMToD
namespace Go.Proofs.YtlonbbepoamnmaaDoor
open Go.RowKit
set_option linter.unusedVariables false

theorem OutsPost.base {ex : List (Nat × PF)} {w w2 w' : World} {e : Ending} (h : OutsPost ex w2 e w') (u : Below w.heap.size w w2) : OutsPost ex w e w' := by
  obtain ⟨v, L, h1, h2, h3, h4, h5⟩ := h
  exact ⟨v, L, h1, h2, own_lower h3 u.size, h4.imp (fun b _ hb => ⟨Nat.le_trans u.size hb.1, hb.2⟩), bl_step u h5⟩
/-- Frames to be sent, in memory that nobody writes to. -/
def OutsIs (w : World) (Z : Nat → Prop) (v : Value) (outs : List (Nat × PF)) : Prop := ∃ L, plainO L = outs ∧ w.ownsRow 1 87 16 v L.length (flatO L) ∧ (∀ b, v.ownBlock = some b → Z b) ∧ OIn Z w L
def InstIs (w : World) (Z : Nat → Prop) (iv : Value) : Option Ins → Prop
  | none => iv = .pointer none
  | some I => ∃ b, iv = .pointer (some ⟨b, 0, none⟩) ∧ Ib w Z b I
theorem OutsIs.nil (w : World) (Z : Nat → Prop) : OutsIs w Z (.slice none 0 0) [] := ⟨[], rfl, World.ownsRow_nil _ _ _ _, (fun b hb => by cases hb), (fun x hx => by cases hx)⟩
theorem OutsPost.is {ex : List (Nat × PF)} {w w' : World} {v : Value} {Z : Nat → Prop} (h : OutsPost ex w (.returned v) w') (h1 : 1 ≤ w.heap.size) : OutsIs w' (nz Z w w') v ex ∧ Below w.heap.size w w' := by
  obtain ⟨v', L, h0, h2, h3, h4, h5⟩ := h
  cases h0
  exact ⟨⟨L, h2, own_lower h3 h1, fun b hb => .inr (h3.lt b hb), h4.imp (fun b hl hb => .inr ⟨hb.1, hl⟩)⟩, h5⟩
theorem OutsIs.keep {w w' : World} {Z Z' : Nat → Prop} {v : Value} {outs : List (Nat × PF)} (h : OutsIs w Z v outs) (hb : ∀ b, Z b → b < w.heap.size → w'.heap[b]? = w.heap[b]?) (hz : ∀ b, Z b → Z' b) : OutsIs w' Z' v outs := by
  obtain ⟨L, h1, h2, h3, h4⟩ := h
  refine ⟨L, h1, row_block h2 (fun b hb' => hb b (h3 b hb') (h2.lt b hb').2), fun b hb' => hz b (h3 b hb'), (h4.keep (fun ad u hz' hc => ?_)).imp (fun b _ hb' => hz b hb')⟩
  rw [World.cell?_of_block (w := w) (hb _ hz' (World.block_lt_of_cell? w _ hc))]; exact hc

section
variable {w : World} {F Z : Nat → Prop} {q p : Nat} {M : Mm} {P : Pp} {o : Option Nat}

theorem remind_nil {M : Mm} (h : M.own = none) : M.remind = [] := by unfold Mm.remind; rw [h]
theorem remind_yes {M : Mm} {P : Pp} (h : M.own = some P) (hg : P.agreed = true) : M.remind = ((M.others P).filter (fun i => !decide ((M.told i).1 = P.id))).map (fun i => (i, (commitF P).by_ M.self)) := by
  unfold Mm.remind; rw [h]; simp only; rw [if_pos hg]; rfl
theorem remind_no {M : Mm} {P : Pp} (h : M.own = some P) (hg : P.agreed = false) : M.remind = ((M.others P).filter (fun i => !hasN P.acc (i : Nat))).map (fun i => (i, (askF P).by_ M.self)) := by
  unfold Mm.remind; rw [h]; simp only; rw [if_neg (by rw [hg]; simp)]; rfl

set_option maxRecDepth 10000 in
set_option maxHeartbeats 1000000 in
theorem remind_any (h : Mb w F Z q M o) : Calls Tryd.prog 34 #[.pointer (some ⟨q, 0, none⟩)] w fun e w' => OutsPost M.remind w e w' := by
  obtain ⟨pv, hpv⟩ : ∃ pv, ptr o = pv := ⟨_, rfl⟩
  obtain ⟨w2, hw2⟩ : ∃ w2, (w.alloc (.cells #[.pointer (some ⟨q, 0, none⟩)] 24)).alloc (.cells #[pv] 90) = w2 := ⟨_, rfl⟩
  have hb2 : Below w.heap.size w w2 := by rw [← hw2]; exact bl2 _ _ _
  have b1 : w2.cell? ⟨w.heap.size, 0, none⟩ = some (.pointer (some ⟨q, 0, none⟩)) := by rw [← hw2]; exact ((Up.refl _).alloc _).cell (cell_box w _ 24 0 _ rfl)
  have b2 : w2.cell? ⟨w.heap.size + 1, 0, none⟩ = some pv := by rw [← hw2]; exact cell_box2 w _ _ 24 90 0 _ rfl
  have k8 := (h.still (bl1 w (.cells #[.pointer (some ⟨q, 0, none⟩)] 24))).cell 8 (by omega)
  unfold mcell at k8
  rw [hpv] at k8
  have h2 := h.still hb2
  obtain ⟨EX, hEX⟩ : ∃ EX, M.remind = EX := ⟨_, rfl⟩
  rw [hEX]
  cases hM : M.own with
  | none =>
    obtain rfl := h.ownNone hM
    have HE : Hid ([] = EX ∧ Below w.heap.size w w2) := ⟨by rw [← hEX, remind_nil hM], hb2⟩
    unfold ptr at hpv
    simp only [Option.map_none] at hpv
    subst hpv
    clear h h2 hM hEX b1 b2
    have HW : Hid ((w.alloc (.cells #[.pointer (some ⟨q, 0, none⟩)] 24)).alloc (.cells #[.pointer none] 90) = w2) := hw2
    clear hw2 hb2
    go_enter Tryd.func34, Tryd.ntmps34
    go_wp2
    go_ret
    rw [HW.out]
    exact ⟨_, [], rfl, HE.out.1, World.ownsRow_nil _ _ _ _, (fun x hx => by cases hx), HE.out.2⟩
  | some P =>
    obtain ⟨p, rfl, -⟩ := h.ownSome hM
    obtain ⟨_, hpe, hp2⟩ := h2.ownSome hM
    cases hpe
    unfold ptr at hpv
    simp only [Option.map_some] at hpv
    subst hpv
    have ha := agreed_any hp2
    have HW : Hid ((w.alloc (.cells #[.pointer (some ⟨q, 0, none⟩)] 24)).alloc (.cells #[.pointer (some ⟨p, 0, none⟩)] 90) = w2 ∧ Below w.heap.size w w2) := ⟨hw2, hb2⟩
    have HM : Hid (Mb w2 F Z q M (some p)) := h2
    clear h h2 hp2 hb2 hw2
    cases hg : P.agreed with
    | true =>
      rw [hg] at ha
      have HX := remind_yes hM hg
      rw [hEX] at HX
      clear hEX hg
      go_enter Tryd.func34, Tryd.ntmps34
      go_wp2_with fail
      rw [HW.out.1]
      refine ha.mono ?_
      rintro e w3 ⟨rfl, u3⟩
      have c1 := u3.cell b1
      have c2 := u3.cell b2
      have ht := toOthersC_any (HM.out.still u3.bl) hM (w.heap.size) (w.heap.size + 1) c1 c2
      rw [← HX] at ht
      have HU : Hid (Below w.heap.size w w3) := bl_step HW.out.2 u3.bl
      clear ha u3 b1 b2 HX hM HW HM k8
      go_wp2_with fail
      refine ht.mono ?_
      intro e w4 hpost
      have hp4 := hpost.base HU.out
      clear hpost ht
      obtain ⟨v, L, rfl, r1, r2, r3, r4⟩ := hp4
      have HE : Hid (plainO L = EX ∧ w4.ownsRow w.heap.size 87 16 v L.length (flatO L) ∧ OIn (fun b => w.heap.size ≤ b ∧ v.ownBlock ≠ some b) w4 L ∧ Below w.heap.size w w4) := ⟨r1, r2, r3, r4⟩
      clear r1 r2 r3 r4
      go_wp2
      go_ret
      exact ⟨_, L, rfl, HE.out⟩
    | false =>
      rw [hg] at ha
      have HX := remind_no hM hg
      rw [hEX] at HX
      clear hEX hg
      go_enter Tryd.func34, Tryd.ntmps34
      go_wp2_with fail
      rw [HW.out.1]
      refine ha.mono ?_
      rintro e w3 ⟨rfl, u3⟩
      have c1 := u3.cell b1
      have c2 := u3.cell b2
      have ht := toOthersA_any (HM.out.still u3.bl) hM (w.heap.size + 1) c2
      rw [← HX] at ht
      have HU : Hid (Below w.heap.size w w3) := bl_step HW.out.2 u3.bl
      clear ha u3 b1 b2 HX hM HW HM k8
      go_wp2_with fail
      refine ht.mono ?_
      intro e w4 hpost
      have hp4 := hpost.base HU.out
      clear hpost ht
      obtain ⟨v, L, rfl, r1, r2, r3, r4⟩ := hp4
      have HE : Hid (plainO L = EX ∧ w4.ownsRow w.heap.size 87 16 v L.length (flatO L) ∧ OIn (fun b => w.heap.size ≤ b ∧ v.ownBlock ≠ some b) w4 L ∧ Below w.heap.size w w4) := ⟨r1, r2, r3, r4⟩
      clear r1 r2 r3 r4
      go_wp2
      go_ret
      exact ⟨_, L, rfl, HE.out⟩

/-- What a tick, or a frame that has come, leaves and answers. -/
def StepPost (w : World) (F Z : Nat → Prop) (q : Nat) (R : Res) (v iv : Value) (w' : World) : Prop := ∃ F' Z' o', Sp w F Z w' F' Z' ∧ Mb w' F' Z' q R.m o' ∧ OutsIs w' Z' v R.outs ∧ InstIs w' Z' iv R.inst
def TickPost (w : World) (F Z : Nat → Prop) (q : Nat) (R : Res) (e : Ending) (w' : World) : Prop := ∃ v iv, e = .returned (.tuple #[v, iv]) ∧ StepPost w F Z q R v iv w'
theorem tick_nil (w : World) (est : Nat) (x : Sx) : Calls Tryd.prog 14 #[.pointer none, .int .u16 (est : Nat), sta x] w fun e w' => e = .returned (.tuple #[.slice none 0 0, .pointer none]) ∧ Below w.heap.size w w' := by
  unfold sta
  go_enter Tryd.func14, Tryd.ntmps14
  go_wp2
  go_ret2
  exact ⟨rfl, bl1 _ _⟩

set_option maxRecDepth 10000 in
set_option maxHeartbeats 2000000 in
theorem tick_any (h : Mb w F Z q M o) (est : Nat) (hest : est < 65536) (x : Sx) (d : Sd) (hd : Si Z w x d) : Calls Tryd.prog 14 #[.pointer (some ⟨q, 0, none⟩), .int .u16 (est : Nat), sta x] w fun e w' => TickPost w F Z q (M.tick est d) e w' := by
  have hself16 : M.self < 16 := Nat.lt_of_lt_of_le h.sn h.n16
  have hpow : 2 ^ M.n ≤ 65536 := Nat.pow_le_pow_right (by omega) h.n16
  have hpos := Nat.one_le_two_pow (n := M.n)
  have h1z := h.tab.lt
  have hand := u16_and_nat est (2 ^ M.n - 1) hest (by omega)
  have handlt : est &&& (2 ^ M.n - 1) < 65536 := Nat.lt_of_le_of_lt Nat.and_le_left hest
  obtain ⟨w1, hw1⟩ : ∃ w1, (w.alloc (.cells #[.int .u64 (x.1 : Nat), .int .i64 x.2.1, .int .i64 x.2.2.1, .slice x.2.2.2.1 x.2.2.2.2.1 x.2.2.2.2.2] 45)).drew = w1 := ⟨_, rfl⟩
  have hb1 : Below w.heap.size w w1 := by rw [← hw1]; exact (bl1 w _).drew
  have h1 := h.still hb1
  have hbox : w1.heap[w.heap.size]? = some (.cells #[.int .u64 (x.1 : Nat), .int .i64 x.2.1, .int .i64 x.2.2.1, .slice x.2.2.2.1 x.2.2.2.2.1 x.2.2.2.2.2] 45 (0, 0)) := by rw [← hw1]; exact heap_alloc_new _ _
  have c0 := h1.cell 0 (by omega)
  have c1 := h1.cell 1 (by omega)
  unfold mcell at c0 c1
  have hwith := fun W => with_any W (est &&& (2 ^ M.n - 1)) handlt ((M.self : Nat) : Int)
  have he16 : M.estOf est < 65536 := withN_lt _ handlt _
  have hE : withN (est &&& (2 ^ M.n - 1)) ((M.self : Nat) : Int) = M.estOf est := rfl
  rw [hE] at hwith
  have HT : Hid (M.tick est d = if M.proposes (M.estOf est) = true then (if (M.prop (M.estOf est) d).agreed = true then (⟨(M.propose (M.estOf est) d).install (M.prop (M.estOf est) d), [], some (insOf (M.prop (M.estOf est) d)), 0⟩ : Res) else ⟨M.propose (M.estOf est) d, (M.propose (M.estOf est) d).remind, none, 0⟩) else ⟨M, M.remind, none, 0⟩) := rfl
  obtain ⟨R, hR⟩ : ∃ R, M.tick est d = R := ⟨_, rfl⟩
  rw [hR] at HT ⊢
  clear hE hR
  obtain ⟨e, hee⟩ : ∃ e, M.estOf est = e := ⟨_, rfl⟩
  rw [hee] at hwith he16 HT
  obtain ⟨N, hN⟩ : ∃ N, 2 ^ M.n - 1 = N := ⟨_, rfl⟩
  rw [hN] at hand c0 hwith
  obtain ⟨A, hA⟩ : ∃ A, est &&& N = A := ⟨_, rfl⟩
  rw [hA] at hand hwith
  have hS : w1.cell? ⟨q, 0, none⟩ = some (.int .u16 (N : Nat)) ∧ w1.cell? ⟨q, 1, none⟩ = some (.int .i64 (M.self : Nat)) := ⟨c0, c1⟩
  have hpro := proposes_any h1 e he16
  have HM : Hid (Mb w F Z q M o ∧ Mb w1 F Z q M o ∧ Below w.heap.size w w1 ∧ Si Z w x d ∧ w1.heap[w.heap.size]? = some (.cells #[.int .u64 (x.1 : Nat), .int .i64 x.2.1, .int .i64 x.2.2.1, .slice x.2.2.2.1 x.2.2.2.2.1 x.2.2.2.2.2] 45 (0, 0)) ∧ 0 < w.heap.size) := ⟨h, h1, hb1, hd, hbox, h1z⟩
  have HW : Hid ((w.alloc (.cells #[.int .u64 (x.1 : Nat), .int .i64 x.2.1, .int .i64 x.2.2.1, .slice x.2.2.2.1 x.2.2.2.2.1 x.2.2.2.2.2] 45)).drew = w1) := hw1
  clear h h1 hb1 hbox hd c0 c1 hw1 handlt hpow hpos h1z hN hA hee
  unfold sta
  go_enter Tryd.func14, Tryd.ntmps14
  go_wp2_with fail
  refine wp_region_noPanic ?_
  refine wp_region_held_drew (S := fun wx => wx.cell? ⟨q, 0, none⟩ = some (.int .u16 (N : Nat)) ∧ wx.cell? ⟨q, 1, none⟩ = some (.int .i64 (M.self : Nat))) (by kernel_rfl) (by rw [HW.out]; exact hS) (fun hHeld => ?_)
  rw [HW.out] at hHeld ⊢
  clear HW
  refine take_first 0 (v := ?_) rfl (by kernel_rfl) (by kernel_rfl) (by kernel_rfl) (fun _ _ _ h => h) (Or.inl ⟨by rfl, by intro wx hSw; (try dsimp only at hSw); obtain ⟨a1, a2⟩ := hSw; go_simp; try with_reducible rfl⟩) (by assumption) ?_
  (try simp only [Act.put, List.setIfInBounds_toArray, List.set_cons_zero, List.set_cons_succ])
  refine take_first 1 (v := ?_) rfl (by kernel_rfl) (by kernel_rfl) (by kernel_rfl) (fun _ _ _ h => h) (Or.inl ⟨by rfl, by intro wx hSw; (try dsimp only at hSw); obtain ⟨a1, a2⟩ := hSw; go_simp; try with_reducible rfl⟩) (by assumption) ?_
  (try simp only [Act.put, List.setIfInBounds_toArray, List.set_cons_zero, List.set_cons_succ])
  refine take_first 2 (v := ?_) rfl (by kernel_rfl) (by kernel_rfl) (by kernel_rfl) (fun _ _ _ h => h) (Or.inl ⟨by rfl, by intro wx hSw; (try dsimp only at hSw); obtain ⟨a1, a2⟩ := hSw; go_simp; try with_reducible rfl⟩) (by assumption) ?_
  (try simp only [Act.put, List.setIfInBounds_toArray, List.set_cons_zero, List.set_cons_succ])
  refine take_first 3 (v := ?_) rfl (by kernel_rfl) (by kernel_rfl) (by kernel_rfl) (fun _ _ _ h => h) (Or.inl ⟨by rfl, by intro wx hSw; (try dsimp only at hSw); obtain ⟨a1, a2⟩ := hSw; go_simp; try with_reducible rfl⟩) (by assumption) ?_
  (try simp only [Act.put, List.setIfInBounds_toArray, List.set_cons_zero, List.set_cons_succ])
  refine take_first 4 (v := ?_) rfl (by kernel_rfl) (by kernel_rfl) (by kernel_rfl) (fun _ _ _ h => h) (Or.inl ⟨by rfl, by intro wx hSw; (try dsimp only at hSw); obtain ⟨a1, a2⟩ := hSw; go_simp; try with_reducible rfl⟩) (by assumption) ?_
  (try simp only [Act.put, List.setIfInBounds_toArray, List.set_cons_zero, List.set_cons_succ])
  refine take_first 5 (v := ?_) rfl (by kernel_rfl) (by kernel_rfl) (by kernel_rfl) (fun _ _ _ h => h) (Or.inl ⟨by rfl, by intro wx hSw; (try dsimp only at hSw); obtain ⟨a1, a2⟩ := hSw; go_simp; try with_reducible rfl⟩) (by assumption) ?_
  (try simp only [Act.put, List.setIfInBounds_toArray, List.set_cons_zero, List.set_cons_succ])
  refine take_first 6 (v := ?_) rfl (by kernel_rfl) (by kernel_rfl) (by kernel_rfl) (fun _ _ _ h => h) (Or.inl ⟨by rfl, by intro wx hSw; (try dsimp only at hSw); obtain ⟨a1, a2⟩ := hSw; go_simp; try with_reducible rfl⟩) (by assumption) ?_
  (try simp only [Act.put, List.setIfInBounds_toArray, List.set_cons_zero, List.set_cons_succ])
  refine take_first 7 (v := ?_) rfl (by kernel_rfl) (by kernel_rfl) (by kernel_rfl) (fun _ _ _ h => h) (Or.inl ⟨by rfl, by intro wx hSw; (try dsimp only at hSw); obtain ⟨a1, a2⟩ := hSw; go_simp; try with_reducible rfl⟩) (by assumption) ?_
  (try simp only [Act.put, List.setIfInBounds_toArray, List.set_cons_zero, List.set_cons_succ])
  refine take_first 8 (v := ?_) rfl (by kernel_rfl) (by kernel_rfl) (by kernel_rfl) (fun _ _ _ h => h) (Or.inl ⟨by rfl, by intro wx hSw; (try dsimp only at hSw); obtain ⟨a1, a2⟩ := hSw; go_simp; try with_reducible rfl⟩) (by assumption) ?_
  (try simp only [Act.put, List.setIfInBounds_toArray, List.set_cons_zero, List.set_cons_succ])
  refine take_first 9 (v := ?_) rfl (by kernel_rfl) (by kernel_rfl) (by kernel_rfl) (fun _ _ _ h => h) (Or.inl ⟨by rfl, by intro wx hSw; (try dsimp only at hSw); obtain ⟨a1, a2⟩ := hSw; go_simp; try with_reducible rfl⟩) (by assumption) ?_
  (try simp only [Act.put, List.setIfInBounds_toArray, List.set_cons_zero, List.set_cons_succ])
  refine comes_up 10 rfl (by kernel_rfl) (fun K hK => ?_)
  go_simp
  refine (hwith _).mono ?_
  rintro r w2 ⟨rfl, rfl⟩
  clear hwith
  go_wp2_with fail
  refine hK.out _ _ hS (fun hHeld => ?_)
  clear hK K
  (try simp only [Act.put, List.setIfInBounds_toArray, List.set_cons_zero, List.set_cons_succ])
  refine take_first 11 (v := ?_) rfl (by kernel_rfl) (by kernel_rfl) (by kernel_rfl) (fun _ _ _ h => h) (Or.inl ⟨by rfl, by intro wx hSw; (try dsimp only at hSw); obtain ⟨a1, a2⟩ := hSw; go_simp; try with_reducible rfl⟩) (by assumption) ?_
  (try simp only [Act.put, List.setIfInBounds_toArray, List.set_cons_zero, List.set_cons_succ])
  refine wpAnyH_done (by kernel_rfl) ?_ _
  refine NoPanic.normal ?_
  clear hand hS
  go_wp2_with fail
  refine hpro.mono ?_
  rintro r w2 ⟨rfl, b2⟩
  have hm2 := HM.out.2.1.still b2
  have hbw2 := bl_step HM.out.2.2.1 b2
  have hbox2 := (b2.block w.heap.size (heap_lt HM.out.2.2.2.2.1)).trans HM.out.2.2.2.2.1
  have d0 := heap_cell (j := 0) hbox2 rfl
  have d1 := heap_cell (j := 1) hbox2 rfl
  have d2 := heap_cell (j := 2) hbox2 rfl
  have d3 := heap_cell (j := 3) hbox2 rfl
  have h1z := HM.out.2.2.2.2.2
  have sp2 : Sp w F Z w2 F Z := Sp.still hbw2 HM.out.1.zl
  have hsi2 := HM.out.2.2.2.1.keep (Kp.up hbw2)
  clear hpro b2 hbox2
  cases hpr : M.proposes e with
  | false =>
    have hRe : R = ⟨M, M.remind, none, 0⟩ := by rw [HT.out, hpr, if_neg (by simp)]
    have hre := remind_any hm2
    have HRE : Hid (R = ⟨M, M.remind, none, 0⟩) := hRe
    clear hRe HT
    have HK : Hid (Mb w2 F Z q M o ∧ Sp w F Z w2 F Z ∧ 1 ≤ w2.heap.size) := ⟨hm2, sp2, Nat.le_trans h1z hbw2.size⟩
    clear HM hm2 hbw2 sp2 hsi2 hpr
    go_wp2_with fail
    refine hre.mono ?_
    intro r w3 hpost
    obtain ⟨v, L, rfl, r1, r2, r3, r4⟩ := id hpost
    have HE : Hid (StepPost w F Z q R v (.pointer none) w3) := by
      rw [HRE.out]
      obtain ⟨o1, o2⟩ := OutsPost.is (Z := Z) hpost HK.out.2.2
      exact ⟨F, nz Z w2 w3, o, HK.out.2.1.trans (Sp.up o2 HK.out.1.zl), HK.out.1.up o2, o1, rfl⟩
    clear hre hpost r1 r2 r3 r4 HK d0 d1 d2 d3
    go_wp2
    go_ret2
    exact ⟨_, _, rfl, HE.out⟩
  | true =>
    have hRe1 : R = if (M.prop e d).agreed = true then (⟨(M.propose e d).install (M.prop e d), [], some (insOf (M.prop e d)), 0⟩ : Res) else ⟨M.propose e d, (M.propose e d).remind, none, 0⟩ := by rw [HT.out, hpr, if_pos rfl]
    have HR1 : Hid (R = if (M.prop e d).agreed = true then (⟨(M.propose e d).install (M.prop e d), [], some (insOf (M.prop e d)), 0⟩ : Res) else ⟨M.propose e d, (M.propose e d).remind, none, 0⟩) := hRe1
    clear hRe1 HT
    have hhigh : M.high < 18446744073709551615 := by
      unfold Mm.proposes at hpr
      simp only [Bool.and_eq_true, decide_eq_true_eq] at hpr
      exact hpr.2
    have hpp := propose_any hm2 e he16 hhigh x d hsi2
    have HK : Hid (Sp w F Z w2 F Z) := sp2
    unfold sta at hpp
    clear HM hm2 hbw2 sp2 hsi2 hpr hhigh
    go_wp2_with fail
    refine hpp.mono ?_
    rintro r w3 ⟨rfl, F3, Z3, p3, sp3, hm3⟩
    have hsp := HK.out.trans sp3
    clear hpp HK sp3 d0 d1 d2 d3
    cases hg : (M.prop e d).agreed with
    | true =>
      have HRe : Hid (R = ⟨(M.propose e d).install (M.prop e d), [], some (insOf (M.prop e d)), 0⟩) := by unfold Hid; rw [HR1.out, hg, if_pos rfl]
      have hin := install_any hm3 (P := M.prop e d) rfl hg
      have HK : Hid (Sp w F Z w3 F3 Z3) := hsp
      clear hm3 hsp hg
      go_wp2_with fail
      refine hin.mono ?_
      rintro r w4 ⟨b4, rfl, F4, Z4, sp4, hm4, hib⟩
      have HE : Hid (StepPost w F Z q R (.slice none 0 0) (.pointer (some ⟨b4, 0, none⟩)) w4) := by
        rw [HRe.out]
        exact ⟨F4, Z4, some p3, HK.out.trans sp4, hm4, OutsIs.nil _ _, b4, rfl, hib⟩
      clear hin sp4 hm4 hib HK
      go_wp2
      go_ret2
      exact ⟨_, _, rfl, HE.out⟩
    | false =>
      have HRe : Hid (R = ⟨M.propose e d, (M.propose e d).remind, none, 0⟩) := by unfold Hid; rw [HR1.out, hg, if_neg (by simp)]
      have hin := install_not hm3 (P := M.prop e d) rfl hg
      have HK : Hid (Sp w F Z w3 F3 Z3 ∧ Mb w3 F3 Z3 q (M.propose e d) (some p3)) := ⟨hsp, hm3⟩
      clear hm3 hsp hg
      go_wp2_with fail
      refine hin.mono ?_
      rintro r w4 ⟨rfl, b4⟩
      have hm4 := HK.out.2.still b4
      have hre := remind_any hm4
      have HK4 : Hid (Mb w4 F3 Z3 q (M.propose e d) (some p3) ∧ Sp w F Z w4 F3 Z3) := ⟨hm4, HK.out.1.trans (Sp.still b4 HK.out.2.zl)⟩
      clear hin b4 hm4 HK
      go_wp2_with fail
      refine hre.mono ?_
      intro r w5 hpost
      obtain ⟨v, L, rfl, r1, r2, r3, r4⟩ := id hpost
      have HE : Hid (StepPost w F Z q R v (.pointer none) w5) := by
        rw [HRe.out]
        obtain ⟨o1, o2⟩ := OutsPost.is (Z := Z3) hpost HK4.out.1.tab.lt
        exact ⟨F3, nz Z3 w4 w5, some p3, HK4.out.2.trans (Sp.up o2 HK4.out.1.zl), HK4.out.1.up o2, o1, rfl⟩
      clear hre hpost r1 r2 r3 r4 HK4
      go_wp2
      go_ret2
      exact ⟨_, _, rfl, HE.out⟩
end
end Go.Proofs.YtlonbbepoamnmaaDoor
