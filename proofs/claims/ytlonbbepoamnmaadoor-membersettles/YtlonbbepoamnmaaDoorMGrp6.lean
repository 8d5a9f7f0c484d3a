/-
  Moves (group.move): a node beats to all; there is no frame that could come.
-/
import Derived.Test.YtlonbbepoamnmaaDoorMGrp5
namespace Go.Proofs.YtlonbbepoamnmaaDoor
open Go.RowKit
set_option linter.unusedVariables false

section
variable {W0 w : World} {col : Nat → Nat} {B : Nat → Prop} {n gq : Nat} {A : Ga} {g : Gp}
theorem results_none {P : Program} {fn : Func} (h : fn.results = #[]) (tmps : Array Value) (w : World) : (results fn tmps).run P w = .ok (.tuple #[]) w := by simp [results, h]
theorem GB.len (h : GB w col A.bv g.bag) : ∃ ao bc, A.bv = .slice ao g.bag.length bc ∧ g.bag.length ≤ bc ∧ bc ≤ maxLen := by
  obtain ⟨L, l1, l2, _⟩ := h
  obtain ⟨ao, bc, e, e1, e2, _⟩ := own_slice l2
  have hl : L.length = g.bag.length := by rw [← l1, plainO_len]
  exact ⟨ao, bc, by rw [e, hl], by omega, e2⟩

set_option maxRecDepth 20000 in
set_option maxHeartbeats 4000000 in
theorem move_none (hG : Gs W0 B w col n n n gq A g) (hsz : BagSz g.bag) (h1 : 1 ≤ n) (a : Mv) (ha : a.kind < 256 ∧ a.i < 256 ∧ a.est < 65536) (hk : 3 ≤ a.kind % 9) (hk8 : a.kind % 9 < 8) (he : g.bag = []) :
    Calls Tryd.prog 25 #[.pointer (some ⟨gq, 0, none⟩), mval a] w fun e w' => MovPost W0 B n gq (g.move n a) e w' := by
  have hmv : g.move n a = g := by unfold Gp.move; rw [if_neg (by omega), if_pos hk8, he]; rfl
  rw [hmv]
  obtain ⟨i, hi⟩ : ∃ i, a.i % n = i := ⟨_, rfl⟩
  obtain ⟨w0, hw0⟩ : ∃ w0, w.alloc (mobj a) = w0 := ⟨_, rfl⟩
  have hG0 : Gs W0 B w0 col n n n gq A g := by rw [← hw0]; exact hG.up (bl1 _ _)
  obtain ⟨x0, x1, x2, x3⟩ := mobj_cell w a
  rw [hw0] at x0 x1 x2 x3
  have c0 := hG0.c0
  obtain ⟨ao, bc, hbv, _⟩ := hG0.bag.len
  have c2 : w0.drew.cell? ⟨gq, 2, none⟩ = some (.slice ao 0 bc) := by
    have := hG0.c2
    rw [hbv, he] at this
    exact this
  obtain ⟨bx, hbxe⟩ : ∃ bx, w.heap.size = bx := ⟨_, rfl⟩
  rw [hbxe] at x0 x1
  have HW : Hid (w.alloc (mobj a) = w0 ∧ w.heap.size = bx) := ⟨hw0, hbxe⟩
  have hk9 : ¬ ((a.kind : Nat) : Int) % 9 < 3 := by omega
  have hk98 : ((a.kind : Nat) : Int) % 9 < 8 := by omega
  have hwr : IntKind.i64.wrap ((a.i : Nat) : Int) = (a.i : Nat) := by have := ha.2.1; unfold IntKind.wrap; simp [IntKind.bits, IntKind.signed]; omega
  have htm : Int.tmod ((a.i : Nat) : Int) ((n : Nat) : Int) = ((i : Nat) : Int) := by rw [← hi]; rfl
  have hnN : ¬ n = 0 := by omega
  have hn0 : ¬ ((n : Nat) : Int) = 0 := by omega
  have HG : Hid (GrpOk W0 B n gq g w0.drew) := ⟨hsz, col, A, hG0.drew⟩
  have hS1 : w0.drew.cell? ⟨bx, 1, none⟩ = some (.int .u8 (a.i : Nat)) ∧ w0.drew.cell? ⟨gq, 0, none⟩ = some (.int .i64 (n : Nat)) := ⟨x1, c0⟩
  unfold mval
  unfold mobj at HW hw0
  clear hG hG0 hw0 hbxe hi hmv hsz ha hk hk8 he hbv
  go_enter Tryd.func25, Tryd.ntmps25
  go_wp2_with fail
  rw [HW.out.1]
  (try rw [HW.out.2])
  refine wp_region_noPanic ?_
  refine wp_region_held_drew (S := fun wx => wx.cell? ⟨bx, 1, none⟩ = some (.int .u8 (a.i : Nat)) ∧ wx.cell? ⟨gq, 0, none⟩ = some (.int .i64 (n : Nat))) (by kernel_rfl) hS1 (fun hHeld => ?_)
  refine tk 0 rfl (fun wx ⟨y1, y2⟩ => by go_simp; try with_reducible rfl) ?_
  refine tk 1 rfl (fun wx ⟨y1, y2⟩ => by go_simp; try with_reducible rfl) ?_
  refine tk 2 rfl (fun wx ⟨y1, y2⟩ => by go_simp; try with_reducible rfl) ?_
  refine tk 3 rfl (fun wx ⟨y1, y2⟩ => by go_simp; try with_reducible rfl) ?_
  refine tk 4 rfl (fun wx ⟨y1, y2⟩ => by go_simp; try with_reducible rfl) ?_
  refine tk 5 rfl (fun wx ⟨y1, y2⟩ => by go_simp; try with_reducible rfl) ?_
  refine tk 6 rfl (fun wx ⟨y1, y2⟩ => by go_simp; try with_reducible rfl) ?_
  refine tk 7 rfl (fun wx ⟨y1, y2⟩ => by go_simp; try with_reducible rfl) ?_
  refine tk 8 rfl (fun wx ⟨y1, y2⟩ => by go_simp; try with_reducible rfl) ?_
  refine wpAnyH_done (by kernel_rfl) ?_ _
  refine NoPanic.normal ?_
  clear hHeld hS1 hwr htm hnN
  have y0 : w0.drew.cell? ⟨bx, 0, none⟩ = some (.int .u8 (a.kind : Nat)) := x0
  go_wp2_with fail
  refine bodyPost_ret (results_none rfl _ _) rfl ?_
  exact ⟨rfl, HG.out⟩

def BeatAt (W0 : World) (B : Nat → Prop) (n gq i k : Nat) (g : Gp) (w : World) : Prop := GrpOk W0 B n gq { g with bag := g.bag ++ beatsTo g i k } w
/-- A beat's cells. -/
def bobj (j i : Nat) (m : Mm) : Obj := .cells #[.int .i64 (j : Nat), .int .u8 1, .int .i64 (i : Nat), .int .u64 0, .int .i64 0, .int .u16 0, .int .u64 (m.cur.1 : Nat), .int .i64 m.cur.2, .int .u64 (m.prom.1 : Nat), .int .i64 m.prom.2, .slice none 0 0, .int .u64 0, .slice none 0 0, .slice none 0 0, .int .u64 0, .int .u64 0] 87

set_option maxRecDepth 20000 in
set_option maxHeartbeats 4000000 in
theorem move_beat (hG : Gs W0 B w col n n n gq A g) (hsz : BagSz g.bag) (h1 : 1 ≤ n) (a : Mv) (ha : a.kind < 256 ∧ a.i < 256 ∧ a.est < 65536) (hk : ¬ a.kind % 9 < 8) (hb : g.bag.length ≤ 9000000) :
    Calls Tryd.prog 25 #[.pointer (some ⟨gq, 0, none⟩), mval a] w fun e w' => MovPost W0 B n gq (g.move n a) e w' := by
  obtain ⟨i, hi⟩ : ∃ i, a.i % n = i := ⟨_, rfl⟩
  have hin : i < n := by rw [← hi]; exact Nat.mod_lt _ (by omega)
  have hmv : g.move n a = { g with bag := g.bag ++ beatsTo g i n } := by unfold Gp.move; rw [if_neg (by omega), if_neg hk, hi]
  rw [hmv]
  obtain ⟨w0, hw0⟩ : ∃ w0, w.alloc (mobj a) = w0 := ⟨_, rfl⟩
  have hG0 : Gs W0 B w0 col n n n gq A g := by rw [← hw0]; exact hG.up (bl1 _ _)
  obtain ⟨x0, x1, x2, x3⟩ := mobj_cell w a
  rw [hw0] at x0 x1 x2 x3
  have c0 := hG0.c0
  obtain ⟨bx, hbxe⟩ : ∃ bx, w.heap.size = bx := ⟨_, rfl⟩
  rw [hbxe] at x0 x1
  have HW : Hid (w.alloc (mobj a) = w0 ∧ w.heap.size = bx) := ⟨hw0, hbxe⟩
  have hk9 : ¬ ((a.kind : Nat) : Int) % 9 < 3 := by omega
  have hk98 : ¬ ((a.kind : Nat) : Int) % 9 < 8 := by omega
  have hwr : IntKind.i64.wrap ((a.i : Nat) : Int) = (a.i : Nat) := by have := ha.2.1; unfold IntKind.wrap; simp [IntKind.bits, IntKind.signed]; omega
  have htm : Int.tmod ((a.i : Nat) : Int) ((n : Nat) : Int) = ((i : Nat) : Int) := by rw [← hi]; rfl
  have hnN : ¬ n = 0 := by omega
  have hn0 : ¬ ((n : Nat) : Int) = 0 := by omega
  have HG : Hid (BeatAt W0 B n gq i 0 g w0.drew) := ⟨by simpa [beatsTo] using hsz, col, A, by simpa [beatsTo] using hG0.drew⟩
  have hS1 : w0.drew.cell? ⟨bx, 1, none⟩ = some (.int .u8 (a.i : Nat)) ∧ w0.drew.cell? ⟨gq, 0, none⟩ = some (.int .i64 (n : Nat)) := ⟨x1, c0⟩
  have HB : Hid (g.bag.length ≤ 9000000) := hb
  have hn6 := hG.n6
  have HSZ : Hid (BagSz g.bag) := hsz
  unfold mval
  unfold mobj at HW hw0
  clear hG hG0 hw0 hbxe hi hmv hsz ha hk hb
  go_enter Tryd.func25, Tryd.ntmps25
  go_wp2_with fail
  rw [HW.out.1]
  (try rw [HW.out.2])
  refine wp_region_noPanic ?_
  refine wp_region_held_drew (S := fun wx => wx.cell? ⟨bx, 1, none⟩ = some (.int .u8 (a.i : Nat)) ∧ wx.cell? ⟨gq, 0, none⟩ = some (.int .i64 (n : Nat))) (by kernel_rfl) hS1 (fun hHeld => ?_)
  refine tk 0 rfl (fun wx ⟨y1, y2⟩ => by go_simp; try with_reducible rfl) ?_
  refine tk 1 rfl (fun wx ⟨y1, y2⟩ => by go_simp; try with_reducible rfl) ?_
  refine tk 2 rfl (fun wx ⟨y1, y2⟩ => by go_simp; try with_reducible rfl) ?_
  refine tk 3 rfl (fun wx ⟨y1, y2⟩ => by go_simp; try with_reducible rfl) ?_
  refine tk 4 rfl (fun wx ⟨y1, y2⟩ => by go_simp; try with_reducible rfl) ?_
  refine tk 5 rfl (fun wx ⟨y1, y2⟩ => by go_simp; try with_reducible rfl) ?_
  refine tk 6 rfl (fun wx ⟨y1, y2⟩ => by go_simp; try with_reducible rfl) ?_
  refine tk 7 rfl (fun wx ⟨y1, y2⟩ => by go_simp; try with_reducible rfl) ?_
  refine tk 8 rfl (fun wx ⟨y1, y2⟩ => by go_simp; try with_reducible rfl) ?_
  refine wpAnyH_done (by kernel_rfl) ?_ _
  refine NoPanic.normal ?_
  clear hHeld hS1 hwr htm hnN
  have y0 : w0.drew.cell? ⟨bx, 0, none⟩ = some (.int .u8 (a.kind : Nat)) := x0
  clear x0 x1 c0
  go_wp2_with fail
  clear y0 hk9 hk98
  go_loopw [14] (fun jv wr => ∃ k : Nat, k ≤ n ∧ jv = .int .i64 (k : Nat) ∧ Hid (BeatAt W0 B n gq i k g wr)) (fun jv _ => n - (intOf jv).toNat)
  case atStart => exact ⟨0, by omega, rfl, HG⟩
  case round =>
    obtain ⟨k, hk, rfl, hw⟩ := hrel
    have hwg := hw.out.2
    obtain ⟨colr, Ar, hGr⟩ := hwg
    have c0 := hGr.c0
    by_cases hlt : k < n
    · have hltI : (k : Int) < (n : Int) := by omega
      by_cases hki : k = i
      · subst hki
        have HX : Hid (BeatAt W0 B n gq k (k + 1) g wr) := by
          have e : beatsTo g k (k + 1) = beatsTo g k k := by rw [beats_succ, if_pos rfl, List.append_nil]
          show BeatAt W0 B n gq k (k + 1) g wr
          unfold BeatAt
          rw [e]; exact hw.out
        clear hGr hw
        go_wp2_with fail
        go_roundw
        case rel => exact ⟨k + 1, by omega, by go_num, HX⟩
        case measure => simp [intOf]; omega
      · have hkI : ¬ ((k : Int) = (i : Int)) := by omega
        have hkB : ((k : Int) == (i : Int)) = false := by simpa using hkI
        obtain ⟨lb, lc, hlv, hl2, hlc⟩ := hGr.lcell h1
        obtain ⟨ao, bc, hbv, hbc, hbm⟩ := hGr.bag.len
        have c1 := hGr.c1
        have c2 := hGr.c2
        rw [hlv] at c1
        rw [hbv] at c2
        have ci := hlc i hin
        have hi0 : ¬ ((i : Int) < 0) := by omega
        have hiI : (i : Int) < (n : Int) := by omega
        have hcu := cur_any (hGr.drew.mb i hin)
        have q34 := fun W => field34_0 ((g.ms i).cur.1 : Nat) (g.ms i).cur.2 ((g.ms i).cset : Nat) W
        obtain ⟨N, hN⟩ : ∃ N, (g.bag ++ beatsTo g i k).length = N := ⟨_, rfl⟩
        have hN' : N ≤ 9000006 := by rw [← hN, List.length_append]; have := beats_len g i k; have := HB.out; omega
        have c2N : wr.cell? ⟨gq, 2, none⟩ = some (.slice ao N bc) := by rw [← hN]; exact c2
        have hbvN : Ar.bv = .slice ao N bc := by rw [← hN]; exact hbv
        have hS7 : wr.drew.cell? ⟨gq, 1, none⟩ = some (.slice (some ⟨lb, 0, none⟩) n lc) ∧ wr.drew.cell? ⟨gq, 2, none⟩ = some (.slice ao N bc) ∧ wr.drew.cell? ⟨lb, i, none⟩ = some (.pointer (some ⟨Ar.qs i, 0, none⟩)) := ⟨c1, c2N, ci⟩
        have HGR : Hid (Gs W0 B wr.drew colr n n n gq Ar { g with bag := g.bag ++ beatsTo g i k }) := hGr.drew
        have HL : Hid (Ar.bv = .slice ao N bc ∧ colr lb = 2 ∧ (g.bag ++ beatsTo g i k).length = N ∧ BagSz (g.bag ++ beatsTo g i k) ∧ k ≠ i) := ⟨hbvN, hl2, hN, hw.out.1, hki⟩
        unfold vw at hcu
        clear hGr hw hlv hl2 hlc hbv hbc hbm c1 c2 ci hN c2N hbvN hki
        go_wp2_with fail
        refine wp_region_noPanic ?_
        refine beginE (fun wx => wx.cell? ⟨gq, 1, none⟩ = some (.slice (some ⟨lb, 0, none⟩) n lc) ∧ wx.cell? ⟨gq, 2, none⟩ = some (.slice ao N bc) ∧ wx.cell? ⟨lb, i, none⟩ = some (.pointer (some ⟨Ar.qs i, 0, none⟩))) 30 (by kernel_rfl) hS7 (fun hHeld => ?_)
        refine tkE 0 rfl (fun wx ⟨z1, z2, z3⟩ => by go_simp; try with_reducible rfl) ?_
        refine tkE 1 rfl (fun wx ⟨z1, z2, z3⟩ => by go_simp; try with_reducible rfl) ?_
        refine tkE 2 rfl (fun wx ⟨z1, z2, z3⟩ => by go_simp; try with_reducible rfl) ?_
        refine tkE 3 rfl (fun wx ⟨z1, z2, z3⟩ => by go_simp; try with_reducible rfl) ?_
        refine tkE 4 rfl (fun wx ⟨z1, z2, z3⟩ => by go_simp; try with_reducible rfl) ?_
        refine tkE 5 rfl (fun wx ⟨z1, z2, z3⟩ => by go_simp; try with_reducible rfl) ?_
        refine tkE 6 rfl (fun wx ⟨z1, z2, z3⟩ => by go_simp; try with_reducible rfl) ?_
        refine tkE 7 rfl (fun wx ⟨z1, z2, z3⟩ => by go_simp; try with_reducible rfl) ?_
        refine tkE 8 rfl (fun wx ⟨z1, z2, z3⟩ => by go_simp; try with_reducible rfl) ?_
        refine tkE 9 rfl (fun wx ⟨z1, z2, z3⟩ => by go_simp; try with_reducible rfl) ?_
        refine tkE 10 rfl (fun wx ⟨z1, z2, z3⟩ => by go_simp; try with_reducible rfl) ?_
        refine tkE 11 rfl (fun wx ⟨z1, z2, z3⟩ => by go_simp; try with_reducible rfl) ?_
        refine tkE 12 rfl (fun wx ⟨z1, z2, z3⟩ => by go_simp; try with_reducible rfl) ?_
        refine tkE 13 rfl (fun wx ⟨z1, z2, z3⟩ => by go_simp; try with_reducible rfl) ?_
        refine tkE 16 rfl (fun wx ⟨z1, z2, z3⟩ => by go_simp; try with_reducible rfl) ?_
        refine tkE 17 rfl (fun wx ⟨z1, z2, z3⟩ => by go_simp; try with_reducible rfl) ?_
        refine tkE 18 rfl (fun wx ⟨z1, z2, z3⟩ => by go_simp; try with_reducible rfl) ?_
        refine tkE 19 rfl (fun wx ⟨z1, z2, z3⟩ => by go_simp; try with_reducible rfl) ?_
        refine tkE 20 rfl (fun wx ⟨z1, z2, z3⟩ => by go_simp; try with_reducible rfl) ?_
        refine tkE 21 rfl (fun wx ⟨z1, z2, z3⟩ => by go_simp; try with_reducible rfl) ?_
        refine tkE 22 rfl (fun wx ⟨z1, z2, z3⟩ => by go_simp; try with_reducible rfl) ?_
        refine upE 14 rfl (by kernel_rfl) (fun K hK => ?_)
        go_simp
        refine hcu.mono ?_
        rintro e w1 ⟨rfl, u1⟩
        have hG1 := HGR.out.up u1.bl
        have hpr := prom_any (hG1.mb i hin)
        unfold vid at hpr
        have hS8 : w1.cell? ⟨gq, 1, none⟩ = some (.slice (some ⟨lb, 0, none⟩) n lc) ∧ w1.cell? ⟨gq, 2, none⟩ = some (.slice ao N bc) ∧ w1.cell? ⟨lb, i, none⟩ = some (.pointer (some ⟨Ar.qs i, 0, none⟩)) := ⟨u1.cell hS7.1, u1.cell hS7.2.1, u1.cell hS7.2.2⟩
        clear hcu u1
        go_wp2_with fail
        refine hK.out _ _ hS8 (fun hHeld => ?_)
        clear hK K
        (try simp only [Act.put, List.setIfInBounds_toArray, List.set_cons_zero, List.set_cons_succ])
        refine tkE 15 rfl (fun wx ⟨z1, z2, z3⟩ => by go_simp; try with_reducible rfl) ?_
        refine upE 23 rfl (by kernel_rfl) (fun K hK => ?_)
        go_simp
        refine hpr.mono ?_
        rintro e w2 ⟨rfl, u2⟩
        have hG2 := hG1.up u2.bl
        have hS9 : w2.cell? ⟨gq, 1, none⟩ = some (.slice (some ⟨lb, 0, none⟩) n lc) ∧ w2.cell? ⟨gq, 2, none⟩ = some (.slice ao N bc) ∧ w2.cell? ⟨lb, i, none⟩ = some (.pointer (some ⟨Ar.qs i, 0, none⟩)) := ⟨u2.cell hS8.1, u2.cell hS8.2.1, u2.cell hS8.2.2⟩
        have u3 := bl1 w2 (bobj k i (g.ms i))
        have hG3 := hG2.up u3
        have hh3 : (w2.alloc (bobj k i (g.ms i))).heap[w2.heap.size]? = some (bobj k i (g.ms i)) := heap_alloc_new _ _
        have hS10 : (w2.alloc (bobj k i (g.ms i))).cell? ⟨gq, 1, none⟩ = some (.slice (some ⟨lb, 0, none⟩) n lc) ∧ (w2.alloc (bobj k i (g.ms i))).cell? ⟨gq, 2, none⟩ = some (.slice ao N bc) ∧ (w2.alloc (bobj k i (g.ms i))).cell? ⟨lb, i, none⟩ = some (.pointer (some ⟨Ar.qs i, 0, none⟩)) := ⟨bl_cell u3 hS9.1, bl_cell u3 hS9.2.1, bl_cell u3 hS9.2.2⟩
        obtain ⟨L0, k1, k2, k3, k4⟩ := hG3.bag
        obtain ⟨z1, z2, z3, z4, z5⟩ := HL.out
        have hL0 : L0.length = N := by rw [← plainO_len, k1]; exact z3
        obtain ⟨v4, w4, hrun, hrow, hgr, hat⟩ := row_append und49 info87z rfl (by decide) (by decide) k2 (From.one hh3 (news := ocells k (beatF (g.ms i) i) Fa.none) rfl 1 (m := 1)) rfl (ocells_one _ _ _) (by omega) (Nat.succ_le_of_lt (hG3.hB 0 hG3.hB1)) 49
        obtain ⟨ao4, cap4, rfl, _⟩ := own_slice hrow
        have hat' : ∀ b, (Value.slice ao4 (L0.length + 1) cap4).ownBlock = some b → Ar.bv.ownBlock = some b ∨ (w2.alloc (bobj k i (g.ms i))).heap.size ≤ b := fun b hb => by
          rcases hat with e | e
          · exact .inl (by rw [← e]; exact hb)
          · exact .inr (by rw [e] at hb; have : (w2.alloc (bobj k i (g.ms i))).heap.size = b := by simpa using hb
                           omega)
        obtain ⟨col5, hG5, _⟩ := hG3.setBag (L := L0 ++ [(k, beatF (g.ms i) i, Fa.none)]) (bag' := g.bag ++ beatsTo g i (k + 1)) hgr (by rw [List.length_append, flatO_app, flatO_one]; exact hrow) (by rw [plainO_app, k1, beats_succ, if_neg z5, List.append_assoc]; rfl) hat' (fun x hx => (List.mem_append.1 hx).elim (k4 x) (fun hx => by
          rw [List.mem_singleton] at hx; subst hx; exact Ss.nil _ _))
        have hgb : w4.heap[gq]? = (w2.alloc (bobj k i (g.ms i))).heap[gq]? := hgr.block gq (hG3.lo gq (by rw [hG3.cg]; decide)).2 (fun e => by have := k3 gq e.symm; rw [hG3.cg] at this; omega)
        have hlb : w4.heap[lb]? = (w2.alloc (bobj k i (g.ms i))).heap[lb]? := hgr.block lb (World.block_lt_of_cell? _ _ hS10.2.2) (fun e => by have := k3 lb e.symm; omega)
        have hS11 : w4.cell? ⟨gq, 1, none⟩ = some (.slice (some ⟨lb, 0, none⟩) n lc) ∧ w4.cell? ⟨gq, 2, none⟩ = some (.slice ao N bc) ∧ w4.cell? ⟨lb, i, none⟩ = some (.pointer (some ⟨Ar.qs i, 0, none⟩)) := ⟨(cell_block hgb).trans hS10.1, (cell_block hgb).trans hS10.2.1, (cell_block hlb).trans hS10.2.2⟩
        have f4 : w4.frozen? ⟨gq, 2, none⟩ = false := by rw [frozen_block hgb]; exact hG3.fz 2
        rw [hL0] at hG5
        rw [z1, hL0] at hrun
        obtain ⟨N1, hN1⟩ : ∃ N1, N + 1 = N1 := ⟨_, rfl⟩
        rw [hN1] at hrun hG5
        have HX : Hid (BeatAt W0 B n gq i (k + 1) g (w4.setCell ⟨gq, 2, none⟩ (.slice ao4 N1 cap4))) := ⟨by
          show BagSz (g.bag ++ beatsTo g i (k + 1))
          rw [beats_succ, if_neg z5, ← List.append_assoc]
          exact z4.app (fun x hx => by rw [List.mem_singleton] at hx; subst hx; exact ⟨Nat.zero_le _, by show (0 : Nat) < _; omega⟩), col5, _, hG5⟩
        have HR : Hid ((Builtin.append_ #[49, 49] 49 #[.slice ao N bc, .slice (some ⟨w2.heap.size, 0, none⟩) 1 1]).run Tryd.prog (w2.alloc (bobj k i (g.ms i))) = .ok (.slice ao4 N1 cap4) w4) := hrun
        unfold bobj at HR hS10
        clear hpr hrun hrow hgr hat hat' hG5 hG1 hG2 hG3 k1 k2 k3 k4 z1 z2 z3 z4 z5 hgb hlb hh3 u2 u3 hL0 hN1 HL HGR hS7 hS8
        go_wp2_with fail
        refine hK.out _ _ hS9 (fun hHeld => ?_)
        clear hK K
        (try simp only [Act.put, List.setIfInBounds_toArray, List.set_cons_zero, List.set_cons_succ])
        refine tkE 24 rfl (fun wx ⟨z1, z2, z3⟩ => by go_simp; try with_reducible rfl) ?_
        refine tkE 25 rfl (fun wx ⟨z1, z2, z3⟩ => by go_simp; try with_reducible rfl) ?_
        refine upE 26 rfl (by kernel_rfl) (fun K hK => ?_)
        go_simp
        refine hK.out _ _ hS10 (fun hHeld => ?_)
        clear hK K
        (try simp only [Act.put, List.setIfInBounds_toArray, List.set_cons_zero, List.set_cons_succ])
        refine upE 27 rfl (by kernel_rfl) (fun K hK => ?_)
        refine step_append_run rfl (.tmp 41) (.tmp 63) 49 rfl (.slice ao N bc) (.slice (some ⟨w2.heap.size, 0, none⟩) 1 1) (.slice ao4 N1 cap4) w4 rfl rfl HR.out ?_
        refine hK.out _ _ hS11 (fun hHeld => ?_)
        clear hK K
        (try simp only [Act.put, List.setIfInBounds_toArray, List.set_cons_zero, List.set_cons_succ])
        have z2 := hS11.2.1
        refine pureE 28 (v := ?_) rfl (by kernel_rfl) (by kernel_rfl) (by kernel_rfl) (by kernel_rfl) (fun _ _ _ h => h) (Or.inl ⟨by rfl, by intro wx hSw; (try dsimp only at hSw); go_simp; try with_reducible rfl⟩) (by assumption) ?_
        (try simp only [Act.put, List.setIfInBounds_toArray, List.set_cons_zero, List.set_cons_succ])
        refine pureE 29 (v := ?_) rfl (by kernel_rfl) (by kernel_rfl) (by kernel_rfl) (by kernel_rfl) (fun _ _ _ h => h) (Or.inl ⟨by rfl, by intro wx hSw; (try dsimp only at hSw); go_simp; try with_reducible rfl⟩) (by assumption) ?_
        (try simp only [Act.put, List.setIfInBounds_toArray, List.set_cons_zero, List.set_cons_succ])
        refine lastE 30 rfl (by kernel_rfl) (by kernel_rfl) (fun K hK => ?_)
        go_simp
        refine hK.out _ _ ?_
        clear hK K
        (try simp only [Act.put, List.setIfInBounds_toArray, List.set_cons_zero, List.set_cons_succ])
        refine doneE (by kernel_rfl) ?_ _
        refine NoPanic.normal ?_
        clear hHeld hS9 hS10 hS11 q34 z2 f4
        go_wp2_with fail
        go_roundw
        case rel => exact ⟨k + 1, by omega, by go_num, HX⟩
        case measure => simp [intOf]; omega
    · obtain rfl : k = n := by omega
      have hltI : ¬ ((k : Int) < (k : Int)) := by omega
      have HX : Hid (BeatAt W0 B k gq i k g wr) := hw
      clear hGr hw
      go_wp2_with fail
      go_end0
      exact ⟨rfl, HX.out⟩
end
end Go.Proofs.YtlonbbepoamnmaaDoor
