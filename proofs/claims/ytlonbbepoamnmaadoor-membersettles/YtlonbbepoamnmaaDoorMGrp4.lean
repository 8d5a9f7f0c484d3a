/-
  What a node sends, and the view that it has installed (group.post).
-/
import Derived.Test.YtlonbbepoamnmaaDoorMGrp3
namespace Go.Proofs.YtlonbbepoamnmaaDoor
open Go.RowKit
set_option linter.unusedVariables false

theorem from_row {w : World} {e sz n : Nat} {v : Value} {xs : List Value} (h : w.ownsRow 1 e sz v n xs) : From w v n xs := by
  have hl := h.1
  rcases h.2 with ⟨rfl, rfl⟩ | ⟨g, cap, cur, rfl, _⟩
  · exact .inl ⟨rfl, rfl, List.length_eq_zero_iff.1 (by omega)⟩
  · exact .inr ⟨_, cap, rfl, h.cells rfl⟩
theorem flatO_one' (L : List Ox) : ∀ u ∈ flatO L, u.oneCell' = true := by
  intro u hu
  obtain ⟨x, _, hx⟩ := List.mem_flatMap.1 hu
  exact ocells_one _ _ _ u hx
theorem flatO_len (L : List Ox) : (flatO L).length = L.length * 16 := by
  induction L with
  | nil => rfl
  | cons a L ih =>
    simp only [flatO, List.flatMap_cons, List.length_append, List.length_cons] at *
    rw [ih, ocells_len]; omega
theorem plainO_app (A B : List Ox) : plainO (A ++ B) = plainO A ++ plainO B := by simp [plainO]
theorem plainO_len (A : List Ox) : (plainO A).length = A.length := by simp [plainO]
def MovPost (W0 : World) (B : Nat → Prop) (n gq : Nat) (g : Gp) (e : Ending) (w' : World) : Prop := e = .returned (.tuple #[]) ∧ GrpOk W0 B n gq g w'

section
variable {W0 w : World} {col : Nat → Nat} {B : Nat → Prop} {n gq : Nat} {A : Ga} {g : Gp}
set_option maxRecDepth 20000 in
set_option maxHeartbeats 2000000 in
theorem post_any (h : Gs W0 B w col n n n gq A g) (i : Nat) (hi : i < n) (v iv : Value) (Z : Nat → Prop) (hZ : ∀ b, Z b → col b = 5) {outs : List (Nat × PF)} {inst : Option Ins} (ho : OutsIs w Z v outs) (hin : InstIs w Z iv inst) (hb : g.bag.length + outs.length ≤ 10000000) (hv : (g.views i).length + 1 ≤ 10000000) (hsz : BagSz (g.bag ++ outs)) :
    Calls Tryd.prog 52 #[.pointer (some ⟨gq, 0, none⟩), .int .i64 (i : Nat), v, iv] w fun e w' => MovPost W0 B n gq { g with bag := g.bag ++ outs, views := upd g.views i (g.views i ++ insL inst) } e w' := by
  have hW1 : 1 ≤ w.heap.size := Nat.succ_le_of_lt (h.hB 0 h.hB1)
  obtain ⟨L, l1, l2, l3, l4⟩ := ho
  obtain ⟨L0, k1, k2, k3, k4⟩ := h.bag
  have hlen : L0.length + L.length ≤ 100000000 := by rw [← plainO_len L0, ← plainO_len L, k1, l1]; omega
  obtain ⟨v1, w1, hrun, hrow, hgr, hat⟩ := row_append und49 info87z rfl (by decide) (by decide) k2 (from_row l2) (flatO_len L) (flatO_one' L) hlen hW1 49
  obtain ⟨ao1, cap1, rfl, _⟩ := own_slice hrow
  have hat' : ∀ b, (Value.slice ao1 (L0.length + L.length) cap1).ownBlock = some b → A.bv.ownBlock = some b ∨ w.heap.size ≤ b := fun b hb => by
    rcases hat with e | e
    · exact .inl (by rw [← e]; exact hb)
    · rw [e] at hb
      have : w.heap.size = b := by simpa using hb
      exact .inr (by omega)
  obtain ⟨col2, hG2, hkz⟩ := h.setBag (L := L0 ++ L) hgr (by rw [List.length_append, flatO_app]; exact hrow) (bag' := g.bag ++ outs) (by rw [plainO_app, k1, l1]) hat' (fun x hx => (List.mem_append.1 hx).elim (k4 x) (fun hx => (l4 x hx).imp (fun b _ hb => hZ b hb)))
  have hgb : w1.heap[gq]? = w.heap[gq]? := hgr.block gq (h.lo gq (by rw [h.cg]; decide)).2 (fun e => by have := k3 gq e.symm; rw [h.cg] at this; omega)
  have f1 : w1.frozen? ⟨gq, 2, none⟩ = false := by rw [frozen_block hgb]; exact h.fz 2
  have e1 : w1.cell? ⟨gq, 2, none⟩ = some A.bv := by rw [cell_block hgb]; exact h.c2
  have d1 : w.cell? ⟨gq, 2, none⟩ = some A.bv := h.c2
  obtain ⟨N, hN⟩ : ∃ N, L0.length + L.length = N := ⟨_, rfl⟩
  rw [hN] at hrun hrow hG2 hat' hkz
  obtain ⟨w2, hw2⟩ : ∃ w2, w1.setCell ⟨gq, 2, none⟩ (.slice ao1 N cap1) = w2 := ⟨_, rfl⟩
  rw [hw2] at hG2 hkz
  have HR : Hid ((Builtin.append_ #[49, 49] 49 #[A.bv, v]).run Tryd.prog w = .ok (.slice ao1 N cap1) w1) := hrun
  have HW : Hid (w1.setCell ⟨gq, 2, none⟩ (.slice ao1 N cap1) = w2) := hw2
  cases inst with
  | none =>
    have hiv : iv = .pointer none := hin
    subst hiv
    have HE : Hid (GrpOk W0 B n gq { g with bag := g.bag ++ outs, views := upd g.views i (g.views i ++ insL none) } w2) := by
      have e : upd g.views i (g.views i ++ insL none) = g.views := by
        have : g.views i ++ insL none = g.views i := by simp [insL]
        rw [this, upd_self]
      rw [e]
      exact ⟨hsz, col2, _, hG2⟩
    clear h l1 l2 l3 l4 k1 k2 k3 k4 hlen hrun hrow hgr hat hat' hG2 hkz hgb hw2 hin hN hb hv hsz
    go_enter Tryd.func52, Tryd.ntmps52
    go_wp2_with (at_builtin; refine wpList_append_run rfl _ _ 49 49 rfl A.bv v (.slice ao1 N cap1) w1 rfl rfl HR.out ?_)
    rw [HW.out]
    go_end0
    exact ⟨rfl, HE.out⟩
  | some I =>
    obtain ⟨ib, rfl, hib⟩ := hin
    obtain ⟨iao, icap, hic, _⟩ := hib.cell
    obtain ⟨z1, z2⟩ := hkz.1 ib (hZ ib hib.zb) (by have := hib.cell; obtain ⟨_, _, hx, _⟩ := this; exact (Array.getElem?_eq_some_iff.1 hx).1)
    rw [← z2] at hic
    have i0 : w2.cell? ⟨ib, 0, none⟩ = some (.int .u64 (I.id.1 : Nat)) := heap_cell (j := 0) hic rfl
    have i1 : w2.cell? ⟨ib, 1, none⟩ = some (.int .i64 I.id.2) := heap_cell (j := 1) hic rfl
    have i2 : w2.cell? ⟨ib, 2, none⟩ = some (.int .u16 (I.set : Nat)) := heap_cell (j := 2) hic rfl
    obtain ⟨vao, vcap, hvv, hvc, hvm, hvg⟩ := own_slice hG2.vs.1
    obtain ⟨vb, rfl⟩ := hvg (by omega)
    have hvv' : A.vv = .slice (some ⟨vb, 0, none⟩) n vcap := hvv
    have c3 : w2.cell? ⟨gq, 3, none⟩ = some (.slice (some ⟨vb, 0, none⟩) n vcap) := by rw [← hvv]; exact hG2.c3
    have hvl : A.vl.length = n := by have := hG2.vs.1.1; simpa using this
    obtain ⟨x, hx⟩ : ∃ x, A.vl[i]? = some x := ⟨A.vl[i]'(by omega), List.getElem?_eq_getElem (by omega)⟩
    obtain ⟨r1, r2⟩ := hG2.vs.2.2 i x hx
    obtain ⟨xo, xc, hxe, _, _, _⟩ := own_slice r1
    have ci : w2.cell? ⟨vb, i, none⟩ = some (.slice xo (g.views i).length xc) := by
      have hv1 := hG2.vs.1
      rw [hvv] at hv1
      rw [hv1.cellAt i (by omega)]
      rw [hx, hxe]
    have hfv : w2.frozen? ⟨vb, i, none⟩ = false := by
      have hv1 := hG2.vs.1
      rw [hvv] at hv1
      exact hv1.frozenAt i
    have hG3 := (hG2.up (bl1 w2 (.cells #[.int .u64 (I.id.1 : Nat), .int .i64 I.id.2, .int .u16 (I.set : Nat)] 34))).drew
    obtain ⟨w3, hw3⟩ : ∃ w3, (w2.alloc (.cells #[.int .u64 (I.id.1 : Nat), .int .i64 I.id.2, .int .u16 (I.set : Nat)] 34)).drew = w3 := ⟨_, rfl⟩
    have hh3 : w3.heap[w2.heap.size]? = some (.cells #[.int .u64 (I.id.1 : Nat), .int .i64 I.id.2, .int .u16 (I.set : Nat)] 34 (0, 0)) := by rw [← hw3]; exact heap_alloc_new _ _
    have b3 : Below w2.heap.size w2 w3 := by rw [← hw3]; exact (bl1 _ _).drew
    rw [hw3] at hG3
    obtain ⟨s1, s2⟩ := hG3.vs.2.2 i x hx
    obtain ⟨v4, w4, hrun4, hrow4, hgr4, hat4⟩ := row_append und71 info34 rfl (by decide) (by decide) s1 (From.one hh3 (news := vcells (I.id, I.set)) rfl 1 (m := 1)) rfl (vcells_one _) (by show (g.views i).length + 1 ≤ _; omega) (Nat.succ_le_of_lt (hG3.hB 0 hG3.hB1)) 71
    obtain ⟨ao4, cap4, rfl, _⟩ := own_slice hrow4
    have hat4' : ∀ b, (Value.slice ao4 ((g.views i).length + 1) cap4).ownBlock = some b → x.ownBlock = some b ∨ w3.heap.size ≤ b := fun b hb => by
      rcases hat4 with e | e
      · exact .inl (by rw [← e]; exact hb)
      · exact .inr (by
          have hb' : (Value.slice ao4 ((g.views i).length + 1) cap4).ownBlock = some b := hb
          have e' : (Value.slice ao4 ((g.views i).length + 1) cap4).ownBlock = some w3.heap.size := e
          rw [e'] at hb'
          have : w3.heap.size = b := by simpa using hb'
          omega)
    obtain ⟨col5, hG5⟩ := hG3.setView (v := (I.id, I.set)) hx hvv' hgr4 (by rw [flatV_app, flatV_one]; exact hrow4) hat4'
    have hc3 : col2 gq ≠ 20 + i ∧ col2 vb ≠ 20 + i ∧ col2 ib ≠ 20 + i := by
      have hn6 := h.n6
      have q1 := hG2.vs.2.1 vb (by rw [hvv']; rfl)
      rw [hG2.cg, q1, z1]; omega
    have hbk : ∀ b, col2 b ≠ 20 + i → b < w3.heap.size → w4.heap[b]? = w3.heap[b]? := fun b hb hl => hgr4.block b hl (fun e => hb (s2 b e.symm))
    have hl2 : gq < w2.heap.size ∧ vb < w2.heap.size ∧ ib < w2.heap.size := ⟨(hG2.lo gq (by rw [hG2.cg]; decide)).2, World.block_lt_of_cell? _ _ ci, World.block_lt_of_cell? _ _ i0⟩
    have hS2 : w2.cell? ⟨gq, 3, none⟩ = some (.slice (some ⟨vb, 0, none⟩) n vcap) ∧ w2.cell? ⟨vb, i, none⟩ = some (.slice xo (g.views i).length xc) ∧ w2.cell? ⟨ib, 0, none⟩ = some (.int .u64 (I.id.1 : Nat)) ∧ w2.cell? ⟨ib, 1, none⟩ = some (.int .i64 I.id.2) ∧ w2.cell? ⟨ib, 2, none⟩ = some (.int .u16 (I.set : Nat)) := ⟨c3, ci, i0, i1, i2⟩
    have hS3 : w3.cell? ⟨gq, 3, none⟩ = some (.slice (some ⟨vb, 0, none⟩) n vcap) ∧ w3.cell? ⟨vb, i, none⟩ = some (.slice xo (g.views i).length xc) ∧ w3.cell? ⟨ib, 0, none⟩ = some (.int .u64 (I.id.1 : Nat)) ∧ w3.cell? ⟨ib, 1, none⟩ = some (.int .i64 I.id.2) ∧ w3.cell? ⟨ib, 2, none⟩ = some (.int .u16 (I.set : Nat)) :=
      ⟨(b3.cell hl2.1).trans c3, (b3.cell hl2.2.1).trans ci, (b3.cell hl2.2.2).trans i0, (b3.cell hl2.2.2).trans i1, (b3.cell hl2.2.2).trans i2⟩
    have hl3 := b3.size
    have hS4 : w4.cell? ⟨gq, 3, none⟩ = some (.slice (some ⟨vb, 0, none⟩) n vcap) ∧ w4.cell? ⟨vb, i, none⟩ = some (.slice xo (g.views i).length xc) ∧ w4.cell? ⟨ib, 0, none⟩ = some (.int .u64 (I.id.1 : Nat)) ∧ w4.cell? ⟨ib, 1, none⟩ = some (.int .i64 I.id.2) ∧ w4.cell? ⟨ib, 2, none⟩ = some (.int .u16 (I.set : Nat)) :=
      ⟨(cell_block (hbk _ hc3.1 (by omega))).trans hS3.1, (cell_block (hbk _ hc3.2.1 (by omega))).trans hS3.2.1, (cell_block (hbk _ hc3.2.2 (by omega))).trans hS3.2.2.1, (cell_block (hbk _ hc3.2.2 (by omega))).trans hS3.2.2.2.1, (cell_block (hbk _ hc3.2.2 (by omega))).trans hS3.2.2.2.2⟩
    have f4 : w4.frozen? ⟨vb, i, none⟩ = false := (frozen_block (hbk _ hc3.2.1 (by omega))).trans ((b3.frozen hl2.2.1).trans hfv)
    have HE : Hid (GrpOk W0 B n gq { g with bag := g.bag ++ outs, views := upd g.views i (g.views i ++ insL (some I)) } (w4.setCell ⟨vb, i, none⟩ (.slice ao4 ((g.views i).length + 1) cap4))) := ⟨hsz, col5, _, hG5⟩
    obtain ⟨m, hm⟩ : ∃ m, (g.views i).length + 1 = m := ⟨_, rfl⟩
    obtain ⟨m0, hm0⟩ : ∃ m, (g.views i).length = m := ⟨_, rfl⟩
    rw [hxe] at hrun4
    have HR4 : Hid ((Builtin.append_ #[71, 71] 71 #[.slice xo (g.views i).length xc, .slice (some ⟨w2.heap.size, 0, none⟩) 1 1]).run Tryd.prog (w2.alloc (.cells #[.int .u64 (I.id.1 : Nat), .int .i64 I.id.2, .int .u16 (I.set : Nat)] 34)).drew = .ok (.slice ao4 ((g.views i).length + 1) cap4) w4) := by rw [hw3]; exact hrun4
    rw [hm] at HE HR4
    rw [hm0] at HR4 hS2 hS3 hS4
    have hS : w2.drew.cell? ⟨gq, 3, none⟩ = some (.slice (some ⟨vb, 0, none⟩) n vcap) ∧ w2.drew.cell? ⟨vb, i, none⟩ = some (.slice xo m0 xc) ∧ w2.drew.cell? ⟨ib, 0, none⟩ = some (.int .u64 (I.id.1 : Nat)) ∧ w2.drew.cell? ⟨ib, 1, none⟩ = some (.int .i64 I.id.2) ∧ w2.drew.cell? ⟨ib, 2, none⟩ = some (.int .u16 (I.set : Nat)) := hS2
    have hi0 : ¬ ((i : Int) < 0) := by omega
    have hiI : (i : Int) < (n : Int) := by omega
    rw [← hw3] at hS3
    obtain ⟨IN, hIN⟩ : ∃ IN, I.id.1 = IN := ⟨_, rfl⟩
    obtain ⟨IP, hIP⟩ : ∃ IP, I.id.2 = IP := ⟨_, rfl⟩
    obtain ⟨IS, hIS⟩ : ∃ IS, I.set = IS := ⟨_, rfl⟩
    rw [hIN, hIP, hIS] at hS hS3 hS4 HR4
    clear h l1 l2 l3 l4 k1 k2 k3 k4 hlen hrun hrow hgr hat hat' hG2 hkz hgb hw2 hib hic hN hb hv hsz i0 i1 i2 hvv hvc hvm hvg hvv' c3 hvl hx r1 r2 hxe ci hfv hG3 hw3 hh3 b3 s1 s2 hrun4 hrow4 hgr4 hat4 hat4' hG5 hc3 hbk hl2 hS2 hm hm0 z1 z2 hl3 hIN hIP hIS
    go_enter Tryd.func52, Tryd.ntmps52
    go_wp2_with (at_builtin; refine wpList_append_run rfl _ _ 49 49 rfl A.bv v (.slice ao1 N cap1) w1 rfl rfl HR.out ?_)
    rw [HW.out]
    refine wp_region_noPanic ?_
    refine beginE (fun wx => wx.cell? ⟨gq, 3, none⟩ = some (.slice (some ⟨vb, 0, none⟩) n vcap) ∧ wx.cell? ⟨vb, i, none⟩ = some (.slice xo m0 xc) ∧ wx.cell? ⟨ib, 0, none⟩ = some (.int .u64 (IN : Nat)) ∧ wx.cell? ⟨ib, 1, none⟩ = some (.int .i64 IP) ∧ wx.cell? ⟨ib, 2, none⟩ = some (.int .u16 (IS : Nat))) 19 (by kernel_rfl) hS (fun hHeld => ?_)
    refine tkE 0 rfl (fun wx ⟨q1, q2, q3, q4, q5⟩ => by go_simp; try with_reducible rfl) ?_
    refine tkE 1 rfl (fun wx ⟨q1, q2, q3, q4, q5⟩ => by go_simp; try with_reducible rfl) ?_
    refine tkE 2 rfl (fun wx ⟨q1, q2, q3, q4, q5⟩ => by go_simp; try with_reducible rfl) ?_
    refine tkE 3 rfl (fun wx ⟨q1, q2, q3, q4, q5⟩ => by go_simp; try with_reducible rfl) ?_
    refine tkE 4 rfl (fun wx ⟨q1, q2, q3, q4, q5⟩ => by go_simp; try with_reducible rfl) ?_
    refine tkE 5 rfl (fun wx ⟨q1, q2, q3, q4, q5⟩ => by go_simp; try with_reducible rfl) ?_
    refine tkE 6 rfl (fun wx ⟨q1, q2, q3, q4, q5⟩ => by go_simp; try with_reducible rfl) ?_
    refine tkE 7 rfl (fun wx ⟨q1, q2, q3, q4, q5⟩ => by go_simp; try with_reducible rfl) ?_
    refine tkE 8 rfl (fun wx ⟨q1, q2, q3, q4, q5⟩ => by go_simp; try with_reducible rfl) ?_
    refine tkE 9 rfl (fun wx ⟨q1, q2, q3, q4, q5⟩ => by go_simp; try with_reducible rfl) ?_
    refine tkE 10 rfl (fun wx ⟨q1, q2, q3, q4, q5⟩ => by go_simp; try with_reducible rfl) ?_
    refine tkE 11 rfl (fun wx ⟨q1, q2, q3, q4, q5⟩ => by go_simp; try with_reducible rfl) ?_
    refine tkE 12 rfl (fun wx ⟨q1, q2, q3, q4, q5⟩ => by go_simp; try with_reducible rfl) ?_
    refine tkE 13 rfl (fun wx ⟨q1, q2, q3, q4, q5⟩ => by go_simp; try with_reducible rfl) ?_
    refine tkE 14 rfl (fun wx ⟨q1, q2, q3, q4, q5⟩ => by go_simp; try with_reducible rfl) ?_
    refine tkE 15 rfl (fun wx ⟨q1, q2, q3, q4, q5⟩ => by go_simp; try with_reducible rfl) ?_
    refine upE 16 rfl (by kernel_rfl) (fun K hK => ?_)
    go_simp
    refine hK.out _ _ hS3 (fun hHeld => ?_)
    clear hK K
    (try simp only [Act.put, List.setIfInBounds_toArray, List.set_cons_zero, List.set_cons_succ])
    refine upE 17 rfl (by kernel_rfl) (fun K hK => ?_)
    refine step_append_run rfl (.tmp 30) (.tmp 35) 71 rfl (.slice xo m0 xc) (.slice (some ⟨w2.heap.size, 0, none⟩) 1 1) (.slice ao4 m cap4) w4 rfl rfl HR4.out ?_
    refine hK.out _ _ hS4 (fun hHeld => ?_)
    clear hK K
    (try simp only [Act.put, List.setIfInBounds_toArray, List.set_cons_zero, List.set_cons_succ])
    have q2 := hS4.2.1
    refine pureE 18 (v := ?_) rfl (by kernel_rfl) (by kernel_rfl) (by kernel_rfl) (by kernel_rfl) (fun _ _ _ h => h) (Or.inl ⟨by rfl, by intro wx hSw; (try dsimp only at hSw); go_simp; try with_reducible rfl⟩) (by assumption) ?_
    (try simp only [Act.put, List.setIfInBounds_toArray, List.set_cons_zero, List.set_cons_succ])
    refine lastE 19 rfl (by kernel_rfl) (by kernel_rfl) (fun K hK => ?_)
    go_simp
    refine hK.out _ _ ?_
    clear hK K
    (try simp only [Act.put, List.setIfInBounds_toArray, List.set_cons_zero, List.set_cons_succ])
    refine doneE (by kernel_rfl) ?_ _
    refine NoPanic.normal ?_
    go_wp2
    go_end0
    exact ⟨rfl, HE.out⟩
end
end Go.Proofs.YtlonbbepoamnmaaDoor
