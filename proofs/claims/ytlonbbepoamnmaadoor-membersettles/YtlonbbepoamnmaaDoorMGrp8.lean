/-
  Moves (group.move): a frame comes, or is lost, and is no longer under way.
-/
import Derived.Test.YtlonbbepoamnmaaDoorMGrp7
namespace Go.Proofs.YtlonbbepoamnmaaDoor
open Go.RowKit
set_option linter.unusedVariables false

section
variable {W0 w : World} {col : Nat → Nat} {B : Nat → Prop} {n gq : Nat} {A : Ga} {g : Gp}

set_option maxRecDepth 20000 in
set_option maxHeartbeats 8000000 in
theorem move_lost (hG : Gs W0 B w col n n n gq A g) (hsz : BagSz g.bag) (h1 : 1 ≤ n) (a : Mv) (ha : a.kind < 256 ∧ a.i < 256 ∧ a.est < 65536) (hk : 3 ≤ a.kind % 9) (hk7 : a.kind % 9 = 7) (hkp : a.keep = false) (t : Nat) (F : PF) (hat : g.bag[a.est % g.bag.length]? = some (t, F)) (htn : t < n) (hb : g.bag.length ≤ 9000000) (hv : ∀ i, (g.views i).length ≤ 9000000) :
    Calls Tryd.prog 25 #[.pointer (some ⟨gq, 0, none⟩), mval a] w fun e w' => MovPost W0 B n gq (g.move n a) e w' := by
  obtain ⟨at_, hate⟩ : ∃ k, a.est % g.bag.length = k := ⟨_, rfl⟩
  have hrest : g.rest a = g.bag.take at_ ++ g.bag.drop (at_ + 1) := by unfold Gp.rest; rw [hkp, if_neg (by simp), hate]
  have hmv : g.move n a = { g with bag := g.rest a } := by unfold Gp.move; rw [if_neg (by omega), if_pos (by omega), hat]; simp only [if_neg (show ¬ a.kind % 9 < 7 by omega)]
  rw [hmv, hrest]
  rw [hate] at hat
  have hatl : at_ < g.bag.length := (List.getElem?_eq_some_iff.1 hat).1
  have hmem := List.mem_of_getElem? hat
  obtain ⟨hst16, hset16⟩ := hsz _ hmem
  obtain ⟨i, hi⟩ : ∃ i, a.i % n = i := ⟨_, rfl⟩
  obtain ⟨w0, hw0⟩ : ∃ w0, w.alloc (mobj a) = w0 := ⟨_, rfl⟩
  have hG0 : Gs W0 B w0 col n n n gq A g := by rw [← hw0]; exact hG.up (bl1 _ _)
  obtain ⟨x0, x1, x2, x3⟩ := mobj_cell w a
  rw [hw0] at x0 x1 x2 x3
  have c0 := hG0.c0
  have hbx : col w.heap.size = 0 := by
    by_cases e : col w.heap.size = 0
    · exact e
    · have := (hG.lo _ e).2; omega
  obtain ⟨bx, hbxe⟩ : ∃ bx, w.heap.size = bx := ⟨_, rfl⟩
  rw [hbxe] at x0 x1 x2 x3 hbx
  have HW : Hid (w.alloc (mobj a) = w0 ∧ w.heap.size = bx) := ⟨hw0, hbxe⟩
  have hk9 : ¬ ((a.kind : Nat) : Int) % 9 < 3 := by omega
  have hk98 : ((a.kind : Nat) : Int) % 9 < 8 := by omega
  have hk97 : ¬ ((a.kind : Nat) : Int) % 9 < 7 := by omega
  have hwr : IntKind.i64.wrap ((a.i : Nat) : Int) = (a.i : Nat) := by have := ha.2.1; unfold IntKind.wrap; simp [IntKind.bits, IntKind.signed]; omega
  have htm : Int.tmod ((a.i : Nat) : Int) ((n : Nat) : Int) = ((i : Nat) : Int) := by rw [← hi]; rfl
  have hwe : IntKind.i64.wrap ((a.est : Nat) : Int) = (a.est : Nat) := by have := ha.2.2; unfold IntKind.wrap; simp [IntKind.bits, IntKind.signed]; omega
  obtain ⟨N, hN⟩ : ∃ N, g.bag.length = N := ⟨_, rfl⟩
  have hte : Int.tmod ((a.est : Nat) : Int) ((N : Nat) : Int) = ((at_ : Nat) : Int) := by rw [← hate, hN]; rfl
  have hnN : ¬ n = 0 := by omega
  have hNN : ¬ N = 0 := by omega
  have hn0 : ¬ ((n : Nat) : Int) = 0 := by omega
  have hN0 : ¬ ((N : Nat) : Int) = 0 := by omega
  obtain ⟨bb, bc, fa, L, hbv, hbc, hbm, hb3, l1, l2, l4, hoc, hss⟩ := hG0.drew.drew.bag.at hat
  have c2 : w0.cell? ⟨gq, 2, none⟩ = some (.slice (some ⟨bb, 0, none⟩) N bc) := by rw [← hN, ← hbv]; exact hG0.c2
  obtain ⟨lb, lc, hlv, hl2, hlc⟩ := hG0.lcell h1
  have c1 : w0.cell? ⟨gq, 1, none⟩ = some (.slice (some ⟨lb, 0, none⟩) n lc) := by rw [← hlv]; exact hG0.c1
  have ct := hlc t htn
  have hS1 : w0.drew.cell? ⟨bx, 1, none⟩ = some (.int .u8 (a.i : Nat)) ∧ w0.drew.cell? ⟨gq, 0, none⟩ = some (.int .i64 (n : Nat)) := ⟨x1, c0⟩
  have hS2 : w0.drew.drew.cell? ⟨bx, 2, none⟩ = some (.int .u16 (a.est : Nat)) ∧ w0.drew.drew.cell? ⟨gq, 2, none⟩ = some (.slice (some ⟨bb, 0, none⟩) N bc) := ⟨x2, c2⟩
  -- the frame's box
  obtain ⟨w1, hw1⟩ : ∃ w1, w0.drew.drew = w1 := ⟨_, rfl⟩
  rw [hw1] at hoc hss l2 l4
  have hG1 : Gs W0 B w1 col n n n gq A g := by rw [← hw1]; exact hG0.drew.drew
  obtain ⟨w2, hw2⟩ : ∃ w2, w1.alloc (.cells (ocells t F fa).toArray 87) = w2 := ⟨_, rfl⟩
  have u2 : Below w1.heap.size w1 w2 := by rw [← hw2]; exact bl1 _ _
  have hG2 := hG1.up u2
  have hh2 : w2.heap[w1.heap.size]? = some (.cells (ocells t F fa).toArray 87 (0, 0)) := by rw [← hw2]; exact heap_alloc_new _ _
  have hbo : col w1.heap.size = 0 := by
    by_cases e : col w1.heap.size = 0
    · exact e
    · have := (hG1.lo _ e).2; omega
  have hss2 : Ss (fun b => col b = 5) w2 fa.so F.st.length F.st := hss.keep (Kp.up u2)
  have l2' : w2.ownsRow 1 87 16 (.slice (some ⟨bb, 0, none⟩) L.length bc) L.length (flatO L) := row_block l2 (fun b hb => u2.block b (l2.lt b hb).2)
  have l4' : OIn (fun b => col b = 5) w2 L := l4.keep (Kp.up u2)
  have kp3 : w2.cell? ⟨bx, 3, none⟩ = some (.bool false) := by rw [← hkp]; exact bl_cell u2 (by rw [← hw1]; exact x3)
  have kp0 : w2.cell? ⟨gq, 2, none⟩ = some (.slice (some ⟨bb, 0, none⟩) N bc) := bl_cell u2 (by rw [← hw1]; exact c2)
  have e1' : w2.cell? ⟨gq, 1, none⟩ = some (.slice (some ⟨lb, 0, none⟩) n lc) := bl_cell u2 (by rw [← hw1]; exact c1)
  have et' : w2.cell? ⟨lb, t, none⟩ = some (.pointer (some ⟨A.qs t, 0, none⟩)) := bl_cell u2 (by rw [← hw1]; exact ct)
  have o0 : w1.cell? ⟨bb, at_ * 16, none⟩ = some (.int .i64 (t : Nat)) := hoc 0 _ rfl
  have o1 := hoc 1 _ rfl
  have o2 := hoc 2 _ rfl
  have o3 := hoc 3 _ rfl
  have o4 := hoc 4 _ rfl
  have o5 := hoc 5 _ rfl
  have o6 := hoc 6 _ rfl
  have o7 := hoc 7 _ rfl
  have o8 := hoc 8 _ rfl
  have o9 := hoc 9 _ rfl
  have o10 := hoc 10 _ rfl
  have o11 := hoc 11 _ rfl
  have o12 := hoc 12 _ rfl
  have o13 := hoc 13 _ rfl
  have o14 := hoc 14 _ rfl
  have o15 := hoc 15 _ rfl
  have c21 : w1.cell? ⟨gq, 2, none⟩ = some (.slice (some ⟨bb, 0, none⟩) N bc) := by rw [← hw1]; exact c2
  have HC2 : Hid (w0.drew.drew = w1 ∧ w1.alloc (.cells (ocells t F fa).toArray 87) = w2) := ⟨hw1, hw2⟩
  have hatI : (at_ : Int) < (N : Int) := by omega
  have hat0 : ¬ ((at_ : Int) < 0) := by omega
  have ht0 : ¬ ((t : Int) < 0) := by omega
  have htI : (t : Int) < (n : Int) := by omega
  have hmaxb : bc ≤ 9223372036854775807 := by unfold maxLen at hbm; omega
  obtain ⟨u, hu⟩ : ∃ u : Value, u = .slice (if bc = at_ + 1 then some ⟨bb, 0, none⟩ else some ⟨bb, (at_ + 1) * 16, none⟩) (g.bag.length - (at_ + 1)) (bc - (at_ + 1)) := ⟨_, rfl⟩
  obtain ⟨ao1, k1, wa, ao2, k2, wb, col3, r1, r2, hG3, hKz, hblk⟩ := hG2.without hbv hbc hatl hb l1 l2' l4' u hu
  have hsz3 : BagSz (g.bag.take at_ ++ g.bag.drop (at_ + 1)) := fun x hx => (List.mem_append.1 hx).elim (fun h => hsz x (List.mem_of_mem_take h)) (fun h => hsz x (List.mem_of_mem_drop h))
  have hlen3 : (g.bag.take at_ ++ g.bag.drop (at_ + 1)).length ≤ 9000000 := by rw [List.length_append, List.length_take, List.length_drop]; omega
  rw [hN] at r2 hG3 hKz
  obtain ⟨N1, hN1⟩ : ∃ N1, N - 1 = N1 := ⟨_, rfl⟩
  rw [hN1] at r2 hG3 hKz
  rw [hN] at hu
  subst hu
  have ea : wa.cell? ⟨gq, 2, none⟩ = some (.slice (some ⟨bb, 0, none⟩) N bc) := (cell_block (hblk gq (hG2.lo gq (by rw [hG2.cg]; decide)).2).1).trans kp0
  have eb : wb.cell? ⟨gq, 2, none⟩ = some (.slice (some ⟨bb, 0, none⟩) N bc) := (cell_block (hblk gq (hG2.lo gq (by rw [hG2.cg]; decide)).2).2).trans kp0
  have fb : wb.frozen? ⟨gq, 2, none⟩ = false := (frozen_block (hblk gq (hG2.lo gq (by rw [hG2.cg]; decide)).2).2).trans (hG2.fz 2)
  obtain ⟨w3, hw3⟩ : ∃ w3, wb.setCell ⟨gq, 2, none⟩ (.slice ao2 N1 k2) = w3 := ⟨_, rfl⟩
  have hsame : ∀ b, b < w2.heap.size → b ≠ gq → w3.heap[b]? = w2.heap[b]? := fun b hb hne => by rw [← hw3]; exact (Below.heap_setCell _ _ _ _ hne).trans (hblk b hb).2
  have hg3 : w3.cell? ⟨gq, 1, none⟩ = some (.slice (some ⟨lb, 0, none⟩) n lc) := by rw [← hw3, set_other (by decide)]; exact (cell_block (hblk gq (hG2.lo gq (by rw [hG2.cg]; decide)).2).2).trans e1'
  rw [hw3] at hG3 hKz
  have HR1a : Hid ((Builtin.append_ #[49, 49] 49 #[.slice none 0 0, .slice (some ⟨bb, 0, none⟩) at_ bc]).run Tryd.prog w2 = .ok (.slice ao1 at_ k1) wa) := r1
  have HR2 : Hid ((Builtin.append_ #[49, 49] 49 #[.slice ao1 at_ k1, .slice (if bc = at_ + 1 then some ⟨bb, 0, none⟩ else some ⟨bb, (at_ + 1) * 16, none⟩) (N - (at_ + 1)) (bc - (at_ + 1))]).run Tryd.prog wa = .ok (.slice ao2 N1 k2) wb) := r2
  have HW3 : Hid (wb.setCell ⟨gq, 2, none⟩ (.slice ao2 N1 k2) = w3) := hw3
  have hatc : at_ ≤ bc := by omega
  have hatn : at_ + 1 ≤ N := by omega
  have hnc : N ≤ bc := by omega
  have hatw : IntKind.i64.wrap ((at_ : Int) + 1) = ((at_ + 1 : Nat) : Int) := by unfold IntKind.wrap; simp [IntKind.bits, IntKind.signed]; omega
  have hGQ : gq < w2.heap.size ∧ lb < w2.heap.size ∧ w1.heap.size < w2.heap.size := ⟨World.block_lt_of_cell? _ _ kp0, World.block_lt_of_cell? _ _ et', by rw [← hw2]; simp⟩
  have hgl : lb ≠ gq ∧ w1.heap.size ≠ gq := ⟨fun e => by rw [e, hG2.cg] at hl2; omega, fun e => by rw [e, hG2.cg] at hbo; omega⟩
  have et3 : w3.cell? ⟨lb, t, none⟩ = some (.pointer (some ⟨A.qs t, 0, none⟩)) := (cell_block (hsame lb hGQ.2.1 hgl.1)).trans et'
  have hh3 : w3.heap[w1.heap.size]? = some (.cells (ocells t F fa).toArray 87 (0, 0)) := (hsame _ hGQ.2.2 hgl.2).trans hh2
  have hss3 : Ss (fun b => col3 b = 5) w3 fa.so F.st.length F.st := (hss2.keep (fun ad x hz hc => by rw [World.cell?_of_block (w := w2) (hKz.1 _ hz (World.block_lt_of_cell? _ _ hc)).2]; exact hc)).imp (q := fun b => col3 b = 5) (fun b hb hz => ?_)
  rotate_left
  · have hlt : b < w2.heap.size ∨ ¬ b < w2.heap.size := Nat.lt_or_ge b _ |>.imp id (fun h => by omega)
    rcases hlt with hlt | hlt
    · exact (hKz.1 b hz hlt).1
    · exact absurd (hG2.lo b (by rw [hz]; decide)).2 hlt
  have HF : Hid (Gs W0 B w3 col3 n n n gq { A with bv := .slice ao2 N1 k2 } { g with bag := (g.bag.take at_ ++ g.bag.drop (at_ + 1)) } ∧ BagSz (g.bag.take at_ ++ g.bag.drop (at_ + 1)) ∧ (g.bag.take at_ ++ g.bag.drop (at_ + 1)).length ≤ 9000000 ∧ (g.views t).length ≤ 9000000 ∧ Ss (fun b => col3 b = 5) w3 fa.so F.st.length F.st ∧ F.st.length ≤ 16 ∧ F.set < 65536) := ⟨hG3, hsz3, hlen3, hv t, hss3, hst16, hset16⟩
  have HCo : Hid (col3 lb = 2 ∧ col3 w1.heap.size = 0) := ⟨hG3.l.2 lb (by show A.lv.ownBlock = some lb; rw [hlv]; rfl), hKz.2 _ hGQ.2.2 hbo⟩
  obtain ⟨bo, hboe⟩ : ∃ bo, w1.heap.size = bo := ⟨_, rfl⟩
  have HBO : Hid (w1.heap.size = bo) := hboe

  rw [hboe] at hh3 HCo
  have p0 := heap_cell (w := w3) (b := bo) (j := 0) hh3 rfl
  have p1 := heap_cell (w := w3) (b := bo) (j := 1) hh3 rfl
  have p2 := heap_cell (w := w3) (b := bo) (j := 2) hh3 rfl
  have p3 := heap_cell (w := w3) (b := bo) (j := 3) hh3 rfl
  have p4 := heap_cell (w := w3) (b := bo) (j := 4) hh3 rfl
  have p5 := heap_cell (w := w3) (b := bo) (j := 5) hh3 rfl
  have p6 := heap_cell (w := w3) (b := bo) (j := 6) hh3 rfl
  have p7 := heap_cell (w := w3) (b := bo) (j := 7) hh3 rfl
  have p8 := heap_cell (w := w3) (b := bo) (j := 8) hh3 rfl
  have p9 := heap_cell (w := w3) (b := bo) (j := 9) hh3 rfl
  have p10 := heap_cell (w := w3) (b := bo) (j := 10) hh3 rfl
  have p11 := heap_cell (w := w3) (b := bo) (j := 11) hh3 rfl
  have p12 := heap_cell (w := w3) (b := bo) (j := 12) hh3 rfl
  have p13 := heap_cell (w := w3) (b := bo) (j := 13) hh3 rfl
  have p14 := heap_cell (w := w3) (b := bo) (j := 14) hh3 rfl
  have p15 := heap_cell (w := w3) (b := bo) (j := 15) hh3 rfl
  unfold mval
  unfold mobj at HW
  unfold ocells fcells at HC2
  have kp3r : (w1.alloc (.cells #[.int .i64 (t : Nat), .int .u8 (F.kind : Nat), .int .i64 F.frm, .int .u64 (F.idN : Nat), .int .i64 F.idP, .int .u16 (F.set : Nat), .int .u64 (F.curN : Nat), .int .i64 F.curP, .int .u64 (F.promN : Nat), .int .i64 F.promP, .slice fa.so F.st.length fa.sc, .int .u64 (F.base : Nat), .slice fa.mo F.ms.length fa.mc, .slice fa.io F.it.length fa.ic, .int .u64 (F.ack : Nat), .int .u64 (F.safe : Nat)] 87)).cell? ⟨bx, 3, none⟩ = some (.bool false) := by rw [HC2.out.2]; exact kp3
  have HR1 : Hid ((Builtin.append_ #[49, 49] 49 #[.slice none 0 0, .slice (some ⟨bb, 0, none⟩) at_ bc]).run Tryd.prog (w1.alloc (.cells #[.int .i64 (t : Nat), .int .u8 (F.kind : Nat), .int .i64 F.frm, .int .u64 (F.idN : Nat), .int .i64 F.idP, .int .u16 (F.set : Nat), .int .u64 (F.curN : Nat), .int .i64 F.curP, .int .u64 (F.promN : Nat), .int .i64 F.promP, .slice fa.so F.st.length fa.sc, .int .u64 (F.base : Nat), .slice fa.mo F.ms.length fa.mc, .slice fa.io F.it.length fa.ic, .int .u64 (F.ack : Nat), .int .u64 (F.safe : Nat)] 87)) = .ok (.slice ao1 at_ k1) wa) := by rw [HC2.out.2]; exact HR1a.out
  have kp0r : (w1.alloc (.cells #[.int .i64 (t : Nat), .int .u8 (F.kind : Nat), .int .i64 F.frm, .int .u64 (F.idN : Nat), .int .i64 F.idP, .int .u16 (F.set : Nat), .int .u64 (F.curN : Nat), .int .i64 F.curP, .int .u64 (F.promN : Nat), .int .i64 F.promP, .slice fa.so F.st.length fa.sc, .int .u64 (F.base : Nat), .slice fa.mo F.ms.length fa.mc, .slice fa.io F.it.length fa.ic, .int .u64 (F.ack : Nat), .int .u64 (F.safe : Nat)] 87)).cell? ⟨gq, 2, none⟩ = some (.slice (some ⟨bb, 0, none⟩) N bc) := by rw [HC2.out.2]; exact kp0
  clear hG hG0 hG1 hG2 hG3 hsz ha hk hk7 hkp hat hb hv hate hrest hmv hmem hst16 hset16 hi hw0 hbx hbxe hbv hbc hbm hb3 l1 l2 l4 hoc hss hlv hl2 hlc hw1 hw2 u2 hh2 hbo hss2 l2' l4' hsz3 hlen3 hKz hsame hGQ hgl hh3 hss3 hboe hatl hN htn r1 r2 hblk hN1 hw3
  go_enter Tryd.func25, Tryd.ntmps25
  go_wp2_with fail
  rw [HW.out.1]
  (try rw [HW.out.2])
  refine wp_region_noPanic ?_
  refine wp_region_held_drew (S := fun wx => wx.cell? ⟨bx, 1, none⟩ = some (.int .u8 (a.i : Nat)) ∧ wx.cell? ⟨gq, 0, none⟩ = some (.int .i64 (n : Nat))) (by kernel_rfl) hS1 (fun hHeld => ?_)
  refine tk 0 rfl (fun wx ⟨y1, y2⟩ => by go_simp; try with_reducible rfl) ?_
  refine tk 1 rfl (fun wx ⟨y1, y2⟩ => by go_simp; try with_reducible rfl) ?_
  refine tk 2 rfl (fun wx ⟨y1, y2⟩ => by go_simp; try with_reducible rfl) ?_
  refine tk 3 rfl (fun wx ⟨y1, y2⟩ => by go_simp; try with_reducible rfl) ?_
  refine tk 4 rfl (fun wx ⟨y1, y2⟩ => by go_simp; try with_reducible rfl) ?_
  refine tk 5 rfl (fun wx ⟨y1, y2⟩ => by go_simp; try with_reducible rfl) ?_
  refine tk 6 rfl (fun wx ⟨y1, y2⟩ => by go_simp; try with_reducible rfl) ?_
  refine tk 7 rfl (fun wx ⟨y1, y2⟩ => by go_simp; try with_reducible rfl) ?_
  refine tk 8 rfl (fun wx ⟨y1, y2⟩ => by go_simp; try with_reducible rfl) ?_
  refine wpAnyH_done (by kernel_rfl) ?_ _
  refine NoPanic.normal ?_
  clear hHeld hS1 hwr htm hnN
  have y0 : w0.drew.cell? ⟨bx, 0, none⟩ = some (.int .u8 (a.kind : Nat)) := x0
  have y2 : w0.drew.cell? ⟨gq, 2, none⟩ = some (.slice (some ⟨bb, 0, none⟩) N bc) := c2
  clear x0 x1 x2 x3 c0 c1 c2 ct
  go_wp2_with fail
  refine wp_region_noPanic ?_
  refine wp_region_held_drew (S := fun wx => wx.cell? ⟨bx, 2, none⟩ = some (.int .u16 (a.est : Nat)) ∧ wx.cell? ⟨gq, 2, none⟩ = some (.slice (some ⟨bb, 0, none⟩) N bc)) (by kernel_rfl) hS2 (fun hHeld => ?_)
  refine tk 0 rfl (fun wx ⟨z1, z2⟩ => by go_simp; try with_reducible rfl) ?_
  refine tk 1 rfl (fun wx ⟨z1, z2⟩ => by go_simp; try with_reducible rfl) ?_
  refine tk 2 rfl (fun wx ⟨z1, z2⟩ => by go_simp; try with_reducible rfl) ?_
  refine tk 3 rfl (fun wx ⟨z1, z2⟩ => by go_simp; try with_reducible rfl) ?_
  refine tk 4 rfl (fun wx ⟨z1, z2⟩ => by go_simp; try with_reducible rfl) ?_
  refine tk 5 rfl (fun wx ⟨z1, z2⟩ => by go_simp; try with_reducible rfl) ?_
  refine tk 6 rfl (fun wx ⟨z1, z2⟩ => by go_simp; try with_reducible rfl) ?_
  refine tk 7 rfl (fun wx ⟨z1, z2⟩ => by go_simp; try with_reducible rfl) ?_
  refine tk 8 rfl (fun wx ⟨z1, z2⟩ => by go_simp; try with_reducible rfl) ?_
  refine tk 9 rfl (fun wx ⟨z1, z2⟩ => by go_simp; try with_reducible rfl) ?_
  refine wpAnyH_done (by kernel_rfl) ?_ _
  refine NoPanic.normal ?_
  clear hHeld hS2 hwe hte hNN y0 y2
  rw [HC2.out.1]
  go_wp2_with (first | (at_builtin; refine wpList_append_run rfl _ _ 49 49 rfl (.slice none 0 0) (.slice (some ⟨bb, 0, none⟩) at_ bc) (.slice ao1 at_ k1) wa rfl rfl HR1.out ?_) | (at_builtin; refine wpList_append_run rfl _ _ 49 49 rfl (.slice ao1 at_ k1) (.slice (if bc = at_ + 1 then some ⟨bb, 0, none⟩ else some ⟨bb, (at_ + 1) * 16, none⟩) (N - (at_ + 1)) (bc - (at_ + 1))) (.slice ao2 N1 k2) wb rfl rfl HR2.out ?_))
  all_goals
    rw [HW3.out]
    clear o0 o1 o2 o3 o4 o5 o6 o7 o8 o9 o10 o11 o12 o13 o14 o15 c21 kp3r kp0r kp3 kp0 e1' et' hk9 hk98 hk97
    (try rw [HBO.out])
    go_wp2
    go_end0
    exact ⟨rfl, HF.out.2.1, col3, _, HF.out.1⟩
end
end Go.Proofs.YtlonbbepoamnmaaDoor
