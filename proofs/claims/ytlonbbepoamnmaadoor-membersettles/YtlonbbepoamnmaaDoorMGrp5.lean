/-
  A node's calls among others; a tick (group.move).
-/
import Derived.Test.YtlonbbepoamnmaaDoorMGrp4
namespace Go.Proofs.YtlonbbepoamnmaaDoor
open Go.RowKit
set_option linter.unusedVariables false

/-- What a node holds of its own proposal. -/
def OwnSz (m : Mm) : Prop := ∀ p, m.own = some p → p.sts.length ≤ 16 ∧ p.set < 65536
theorem Mb.sz {w : World} {F Z : Nat → Prop} {q : Nat} {M : Mm} {o : Option Nat} (h : Mb w F Z q M o) : OwnSz M := fun p hp => by
  obtain ⟨_, _, hb⟩ := h.ownSome hp
  exact ⟨Nat.le_trans hb.len (cntF_le _ _), hb.s16⟩
theorem commit_sz (m : Mm) (p : Pp) (h : p.sts.length ≤ 16 ∧ p.set < 65536) : (m.commit p).st.length ≤ 16 ∧ (m.commit p).set < 65536 := ⟨Nat.le_trans (joinD_len p.sts) h.1, h.2⟩
theorem remind_sz (m : Mm) (h : OwnSz m) : BagSz m.remind := by
  intro x hx
  unfold Mm.remind at hx
  split at hx
  · cases hx
  · rename_i p hp
    split at hx
    · obtain ⟨i, _, rfl⟩ := List.mem_map.1 hx
      exact commit_sz m p (h p hp)
    · obtain ⟨i, _, rfl⟩ := List.mem_map.1 hx
      exact ⟨Nat.zero_le _, (h p hp).2⟩
theorem tick_sz (m : Mm) (est : Nat) (st : Sd) (h : OwnSz (m.tick est st).m) : BagSz (m.tick est st).outs := by
  unfold Mm.tick at h ⊢
  split at h
  · rename_i h1
    rw [if_pos h1]
    split at h
    · rename_i h2
      rw [if_pos h2]
      intro x hx; cases hx
    · rename_i h2
      rw [if_neg h2]
      exact remind_sz _ h
  · rename_i h1
    rw [if_neg h1]
    exact remind_sz _ h
theorem inn_sz (m : Mm) (F : PF) (st : Sd) (h : OwnSz (m.inn F st).m) : BagSz (m.inn F st).outs := by
  unfold Mm.inn at h ⊢
  split at h
  · rename_i h1; rw [if_pos h1]; intro x hx; cases hx
  rename_i h1; rw [if_neg h1]
  split at h
  · rename_i h2; rw [if_pos h2]; intro x hx; cases hx
  rename_i h2; rw [if_neg h2]
  split at h
  · rename_i h3; rw [if_pos h3]
    unfold Mm.proposed
    split
    · intro x hx; cases hx
    split
    · intro x hx
      rw [List.mem_singleton] at hx; subst hx
      exact ⟨Nat.zero_le _, by show (0 : Nat) < _; omega⟩
    · intro x hx
      rw [List.mem_singleton] at hx; subst hx
      exact ⟨by show (1 : Nat) ≤ _; omega, by show (0 : Nat) < _; omega⟩
  rename_i h3; rw [if_neg h3]
  split at h
  · rename_i h4; rw [if_pos h4]
    unfold Mm.accepted at h ⊢
    split at h
    · rename_i p d hp hd
      split at h
      · rename_i h5
        split at h
        · rename_i h6
          simp only [if_pos h5, if_pos h6]
          intro x hx
          obtain ⟨i, _, rfl⟩ := List.mem_map.1 hx
          exact commit_sz m _ (h _ rfl)
        · rename_i h6
          simp only [if_pos h5, if_neg h6]
          intro x hx; cases hx
      · rename_i h5
        simp only [if_neg h5]
        intro x hx; cases hx
    · intro x hx; cases hx
  rename_i h4; rw [if_neg h4]
  split at h
  · rename_i h5; rw [if_pos h5]; intro x hx; cases hx
  rename_i h5; rw [if_neg h5]
  split at h
  · rename_i h6; rw [if_pos h6]
    unfold Mm.committed
    split <;> (intro x hx; cases hx)
  · rename_i h6; rw [if_neg h6]; intro x hx; cases hx
theorem BagSz.app {l m : List (Nat × PF)} (h : BagSz l) (k : BagSz m) : BagSz (l ++ m) := fun x hx => (List.mem_append.1 hx).elim (h x) (k x)

/-- Behind a node's call. -/
def CallPost (W0 : World) (B : Nat → Prop) (n gq : Nat) (A : Ga) (g : Gp) (i : Nat) (R : Res) (w : World) (col : Nat → Nat) (v iv : Value) (w' : World) : Prop :=
  ∃ col' o', Gs W0 B w' col' n n n gq { A with os := upd A.os i o' } { g with ms := upd g.ms i R.m } ∧ OutsIs w' (fun b => col' b = 5) v R.outs ∧ InstIs w' (fun b => col' b = 5) iv R.inst ∧ Turned (fun b => col b = 10 + i) w w' ∧ OwnSz R.m

section
variable {W0 w : World} {col : Nat → Nat} {B : Nat → Prop} {n gq : Nat} {A : Ga} {g : Gp}
theorem Gs.step (h : Gs W0 B w col n n n gq A g) {i : Nat} (hi : i < n) {R : Res} {v iv : Value} {w' : World} (hs : StepPost w (fun b => col b = 10 + i) (fun b => col b = 5) (A.qs i) R v iv w') : CallPost W0 B n gq A g i R w col v iv w' := by
  obtain ⟨F', Z', o', sp, hm, ho, hi'⟩ := hs
  obtain ⟨col', hz, hG⟩ := h.call hi sp hm
  have e : Z' = fun b => col' b = 5 := funext fun b => propext (hz b).symm
  rw [e] at ho hi'
  exact ⟨col', o', hG, ho, hi', sp.turned, hm.sz⟩
theorem gtick_any (h : Gs W0 B w col n n n gq A g) {i : Nat} (hi : i < n) (est : Nat) (hest : est < 65536) : Calls Tryd.prog 14 #[.pointer (some ⟨A.qs i, 0, none⟩), .int .u16 (est : Nat), .agg #[.int .u64 ((g.ms i).cur.1 : Nat), .int .i64 (g.ms i).cur.2, .int .i64 0, .slice none 0 0]] w fun e w' =>
    ∃ v iv, e = .returned (.tuple #[v, iv]) ∧ CallPost W0 B n gq A g i ((g.ms i).tick est (stOf (g.ms i))) w col v iv w' := by
  have ht := tick_any (h.mb i hi) est hest ((g.ms i).cur.1, (g.ms i).cur.2, 0, none, 0, 0) (stOf (g.ms i)) (Si.nil _ _ _ _ _ _)
  unfold sta at ht
  refine ht.mono ?_
  rintro e w' ⟨v, iv, rfl, hs⟩
  exact ⟨v, iv, rfl, h.step hi hs⟩
theorem gin_any (h : Gs W0 B w col n n n gq A g) {i : Nat} (hi : i < n) (Fr : PF) (a : Fa) (hss : Ss (fun b => col b = 5) w a.so Fr.st.length Fr.st) (hst : Fr.st.length ≤ 16) (hset : Fr.set < 65536) : Calls Tryd.prog 18 #[.pointer (some ⟨A.qs i, 0, none⟩), fval Fr a, .agg #[.int .u64 ((g.ms i).cur.1 : Nat), .int .i64 (g.ms i).cur.2, .int .i64 0, .slice none 0 0]] w fun e w' =>
    ∃ v iv er, e = .returned (.tuple #[v, iv, .int .i64 er]) ∧ CallPost W0 B n gq A g i ((g.ms i).inn Fr (stOf (g.ms i))) w col v iv w' := by
  have ht := in_any (h.mb i hi) Fr a hss (by omega) hset ((g.ms i).cur.1, (g.ms i).cur.2, 0, none, 0, 0) (stOf (g.ms i)) (Si.nil _ _ _ _ _ _)
  unfold sta at ht
  refine ht.mono ?_
  rintro e w' ⟨v, iv, rfl, hs⟩
  exact ⟨v, iv, _, rfl, h.step hi hs⟩
theorem Gs.lcell (h : Gs W0 B w col n n n gq A g) (h1 : 1 ≤ n) : ∃ lb lc, A.lv = .slice (some ⟨lb, 0, none⟩) n lc ∧ col lb = 2 ∧ ∀ i, i < n → w.cell? ⟨lb, i, none⟩ = some (.pointer (some ⟨A.qs i, 0, none⟩)) := by
  obtain ⟨ao, lc, e, _, _, hg⟩ := own_slice h.l.1
  obtain ⟨lb, rfl⟩ := hg (by omega)
  refine ⟨lb, lc, e, h.l.2 lb (by rw [e]; rfl), fun i hi => ?_⟩
  have hr := h.l.1
  rw [e] at hr
  rw [hr.cellAt i (by omega)]
  unfold ptrs
  rw [List.getElem?_map, List.getElem?_range hi]
  rfl

theorem field34_0 (n p s : Int) (W : World) : Sem.run Tryd.prog (Instr.field 34 (.agg #[.int .u64 n, .int .i64 p, .int .u16 s]) 0) W = .ok (.agg #[.int .u64 n, .int .i64 p]) W := by kernel_rfl
def mval (a : Mv) : Value := .agg #[.int .u8 (a.kind : Nat), .int .u8 (a.i : Nat), .int .u16 (a.est : Nat), .bool a.keep]
def mobj (a : Mv) : Obj := .cells #[.int .u8 (a.kind : Nat), .int .u8 (a.i : Nat), .int .u16 (a.est : Nat), .bool a.keep] 70
theorem mobj_cell (w : World) (a : Mv) : (w.alloc (mobj a)).cell? ⟨w.heap.size, 0, none⟩ = some (.int .u8 (a.kind : Nat)) ∧ (w.alloc (mobj a)).cell? ⟨w.heap.size, 1, none⟩ = some (.int .u8 (a.i : Nat)) ∧ (w.alloc (mobj a)).cell? ⟨w.heap.size, 2, none⟩ = some (.int .u16 (a.est : Nat)) ∧ (w.alloc (mobj a)).cell? ⟨w.heap.size, 3, none⟩ = some (.bool a.keep) := by
  have hb : (w.alloc (mobj a)).heap[w.heap.size]? = some (mobj a) := heap_alloc_new _ _
  unfold mobj at *
  exact ⟨heap_cell (j := 0) hb rfl, heap_cell (j := 1) hb rfl, heap_cell (j := 2) hb rfl, heap_cell (j := 3) hb rfl⟩

set_option maxRecDepth 20000 in
set_option maxHeartbeats 4000000 in
theorem move_tick (hG : Gs W0 B w col n n n gq A g) (hsz : BagSz g.bag) (h1 : 1 ≤ n) (a : Mv) (ha : a.kind < 256 ∧ a.i < 256 ∧ a.est < 65536) (hk : a.kind % 9 < 3) (hb : g.bag.length ≤ 9000000) (hv : ∀ i, (g.views i).length ≤ 9000000) :
    Calls Tryd.prog 25 #[.pointer (some ⟨gq, 0, none⟩), mval a] w fun e w' => MovPost W0 B n gq (g.move n a) e w' := by
  obtain ⟨i, hi⟩ : ∃ i, a.i % n = i := ⟨_, rfl⟩
  have hin : i < n := by rw [← hi]; exact Nat.mod_lt _ (by omega)
  have hmv : g.move n a = g.post i g.bag ((g.ms i).tick a.est (stOf (g.ms i))) := by unfold Gp.move; rw [if_pos hk, hi]
  rw [hmv]
  obtain ⟨w0, hw0⟩ : ∃ w0, w.alloc (mobj a) = w0 := ⟨_, rfl⟩
  have hG0 : Gs W0 B w0 col n n n gq A g := by rw [← hw0]; exact hG.up (bl1 _ _)
  obtain ⟨x0, x1, x2, x3⟩ := mobj_cell w a
  rw [hw0] at x0 x1 x2 x3
  obtain ⟨lb, lc, hlv, hl2, hlc⟩ := hG0.lcell h1
  have c0 := hG0.c0
  have c1 := hG0.c1
  rw [hlv] at c1
  have ci := hlc i hin
  have hbx : col w.heap.size = 0 := by
    by_cases e : col w.heap.size = 0
    · exact e
    · have := (hG.lo _ e).2; omega
  obtain ⟨bx, hbxe⟩ : ∃ bx, w.heap.size = bx := ⟨_, rfl⟩
  rw [hbxe] at x0 x1 x2 x3 hbx
  have HW : Hid (w.alloc (mobj a) = w0 ∧ w.heap.size = bx) := ⟨hw0, hbxe⟩
  have hwr : IntKind.i64.wrap ((a.i : Nat) : Int) = (a.i : Nat) := by have := ha.2.1; unfold IntKind.wrap; simp [IntKind.bits, IntKind.signed]; omega
  have htm : Int.tmod ((a.i : Nat) : Int) ((n : Nat) : Int) = ((i : Nat) : Int) := by rw [← hi]; rfl
  have hnN : ¬ n = 0 := by omega
  have hk9 : ((a.kind : Nat) : Int) % 9 < 3 := by omega
  have hn0 : ¬ ((n : Nat) : Int) = 0 := by omega
  have hi0 : ¬ ((i : Int) < 0) := by omega
  have hiI : (i : Int) < (n : Int) := by omega
  have HG : Hid (Gs W0 B w0 col n n n gq A g) := hG0
  have hS1 : w0.drew.cell? ⟨bx, 1, none⟩ = some (.int .u8 (a.i : Nat)) ∧ w0.drew.cell? ⟨gq, 0, none⟩ = some (.int .i64 (n : Nat)) := ⟨x1, c0⟩
  have HL : Hid (A.lv = .slice (some ⟨lb, 0, none⟩) n lc ∧ col lb = 2 ∧ col bx = 0 ∧ w0.cell? ⟨bx, 2, none⟩ = some (.int .u16 (a.est : Nat))) := ⟨hlv, hl2, hbx, x2⟩
  have HZ : Hid (BagSz g.bag ∧ g.bag.length ≤ 9000000 ∧ (g.views i).length ≤ 9000000 ∧ a.est < 65536) := ⟨hsz, hb, hv i, ha.2.2⟩
  have q34 := fun W => field34_0 ((g.ms i).cur.1 : Nat) (g.ms i).cur.2 ((g.ms i).cset : Nat) W
  unfold mval
  unfold mobj at HW hw0
  clear hG hG0 hlc hlv hw0 hbxe hi hmv hsz hb hv ha hk hl2 hbx
  go_enter Tryd.func25, Tryd.ntmps25
  go_wp2_with fail
  rw [HW.out.1]
  (try rw [HW.out.2])
  refine wp_region_noPanic ?_
  refine wp_region_held_drew (S := fun wx => wx.cell? ⟨bx, 1, none⟩ = some (.int .u8 (a.i : Nat)) ∧ wx.cell? ⟨gq, 0, none⟩ = some (.int .i64 (n : Nat))) (by kernel_rfl) hS1 (fun hHeld => ?_)
  refine tk 0 rfl (fun wx ⟨y1, y2⟩ => by go_simp; try with_reducible rfl) ?_
  refine tk 1 rfl (fun wx ⟨y1, y2⟩ => by go_simp; try with_reducible rfl) ?_
  refine tk 2 rfl (fun wx ⟨y1, y2⟩ => by go_simp; try with_reducible rfl) ?_
  refine tk 3 rfl (fun wx ⟨y1, y2⟩ => by go_simp; try with_reducible rfl) ?_
  refine tk 4 rfl (fun wx ⟨y1, y2⟩ => by go_simp; try with_reducible rfl) ?_
  refine tk 5 rfl (fun wx ⟨y1, y2⟩ => by go_simp; try with_reducible rfl) ?_
  refine tk 6 rfl (fun wx ⟨y1, y2⟩ => by go_simp; try with_reducible rfl) ?_
  refine tk 7 rfl (fun wx ⟨y1, y2⟩ => by go_simp; try with_reducible rfl) ?_
  refine tk 8 rfl (fun wx ⟨y1, y2⟩ => by go_simp; try with_reducible rfl) ?_
  refine wpAnyH_done (by kernel_rfl) ?_ _
  refine NoPanic.normal ?_
  clear hHeld hS1 hwr htm hnN
  have y0 : w0.drew.cell? ⟨bx, 0, none⟩ = some (.int .u8 (a.kind : Nat)) := x0
  have hS9 : w0.drew.drew.cell? ⟨gq, 1, none⟩ = some (.slice (some ⟨lb, 0, none⟩) n lc) ∧ w0.drew.drew.cell? ⟨lb, i, none⟩ = some (.pointer (some ⟨A.qs i, 0, none⟩)) ∧ w0.drew.drew.cell? ⟨bx, 2, none⟩ = some (.int .u16 (a.est : Nat)) := ⟨c1, ci, x2⟩
  go_wp2_with fail
  refine wp_region_noPanic ?_
  refine wp_region_held_drew (S := fun wx => wx.cell? ⟨gq, 1, none⟩ = some (.slice (some ⟨lb, 0, none⟩) n lc) ∧ wx.cell? ⟨lb, i, none⟩ = some (.pointer (some ⟨A.qs i, 0, none⟩)) ∧ wx.cell? ⟨bx, 2, none⟩ = some (.int .u16 (a.est : Nat))) (by kernel_rfl) hS9 (fun hHeld => ?_)
  refine tk 0 rfl (fun wx ⟨y1, y2, y3⟩ => by go_simp; try with_reducible rfl) ?_
  refine tk 1 rfl (fun wx ⟨y1, y2, y3⟩ => by go_simp; try with_reducible rfl) ?_
  refine tk 2 rfl (fun wx ⟨y1, y2, y3⟩ => by go_simp; try with_reducible rfl) ?_
  refine tk 3 rfl (fun wx ⟨y1, y2, y3⟩ => by go_simp; try with_reducible rfl) ?_
  refine tk 4 rfl (fun wx ⟨y1, y2, y3⟩ => by go_simp; try with_reducible rfl) ?_
  refine tk 5 rfl (fun wx ⟨y1, y2, y3⟩ => by go_simp; try with_reducible rfl) ?_
  refine tk 6 rfl (fun wx ⟨y1, y2, y3⟩ => by go_simp; try with_reducible rfl) ?_
  refine tk 7 rfl (fun wx ⟨y1, y2, y3⟩ => by go_simp; try with_reducible rfl) ?_
  refine tk 8 rfl (fun wx ⟨y1, y2, y3⟩ => by go_simp; try with_reducible rfl) ?_
  refine tk 9 rfl (fun wx ⟨y1, y2, y3⟩ => by go_simp; try with_reducible rfl) ?_
  refine tk 10 rfl (fun wx ⟨y1, y2, y3⟩ => by go_simp; try with_reducible rfl) ?_
  refine tk 11 rfl (fun wx ⟨y1, y2, y3⟩ => by go_simp; try with_reducible rfl) ?_
  refine tk 12 rfl (fun wx ⟨y1, y2, y3⟩ => by go_simp; try with_reducible rfl) ?_
  refine tk 13 rfl (fun wx ⟨y1, y2, y3⟩ => by go_simp; try with_reducible rfl) ?_
  refine tk 14 rfl (fun wx ⟨y1, y2, y3⟩ => by go_simp; try with_reducible rfl) ?_
  refine tk 15 rfl (fun wx ⟨y1, y2, y3⟩ => by go_simp; try with_reducible rfl) ?_
  refine comes_up 16 rfl (by kernel_rfl) (fun K hK => ?_)
  go_simp
  have hG2 : Gs W0 B w0.drew.drew col n n n gq A g := HG.out.drew.drew
  have hcu := cur_any (hG2.mb i hin)
  unfold vw at hcu
  refine hcu.mono ?_
  rintro e w1 ⟨rfl, u1⟩
  have hG3 := hG2.up u1.bl
  have hS10 : w1.cell? ⟨gq, 1, none⟩ = some (.slice (some ⟨lb, 0, none⟩) n lc) ∧ w1.cell? ⟨lb, i, none⟩ = some (.pointer (some ⟨A.qs i, 0, none⟩)) ∧ w1.cell? ⟨bx, 2, none⟩ = some (.int .u16 (a.est : Nat)) := ⟨u1.cell hS9.1, u1.cell hS9.2.1, u1.cell hS9.2.2⟩
  have htk := gtick_any hG3 hin a.est HZ.out.2.2.2
  clear hcu hHeld hS9 hG2 y0 x0 x1 x3 x2 c0 c1 ci u1
  go_wp2_with fail
  refine hK.out _ _ hS10 (fun hHeld => ?_)
  clear hK K
  (try simp only [Act.put, List.setIfInBounds_toArray, List.set_cons_zero, List.set_cons_succ])
  refine tk 17 rfl (fun wx ⟨y1, y2, y3⟩ => by go_simp; try with_reducible rfl) ?_
  refine tk 18 rfl (fun wx ⟨y1, y2, y3⟩ => by go_simp; try with_reducible rfl) ?_
  refine comes_up 19 rfl (by kernel_rfl) (fun K hK => ?_)
  go_simp
  refine htk.mono ?_
  rintro e w2 ⟨v, iv, rfl, col2, o2, hG4, ho, hin2, htn, hos⟩
  have hS11 : w2.cell? ⟨gq, 1, none⟩ = some (.slice (some ⟨lb, 0, none⟩) n lc) ∧ w2.cell? ⟨lb, i, none⟩ = some (.pointer (some ⟨A.qs i, 0, none⟩)) ∧ w2.cell? ⟨bx, 2, none⟩ = some (.int .u16 (a.est : Nat)) := by
    obtain ⟨z1, z2, z3, _⟩ := HL.out
    have hgb := htn.block gq (World.block_lt_of_cell? _ _ hS10.1) (by rw [hG3.cg]; omega)
    have hlb := htn.block lb (World.block_lt_of_cell? _ _ hS10.2.1) (by rw [z2]; omega)
    have hxb := htn.block bx (World.block_lt_of_cell? _ _ hS10.2.2) (by rw [z3]; omega)
    exact ⟨(cell_block hgb).trans hS10.1, (cell_block hlb).trans hS10.2.1, (cell_block hxb).trans hS10.2.2⟩
  have hpo := post_any hG4 i hin v iv (fun b => col2 b = 5) (fun _ h => h) ho hin2 (by have := tick_outs_le (g.ms i) a.est (stOf (g.ms i)); have := HZ.out.2.1; show g.bag.length + _ ≤ _; omega) (by have := HZ.out.2.2.1; show (g.views i).length + 1 ≤ _; omega) (HZ.out.1.app (tick_sz _ _ _ hos))
  clear htk hG3 hG4 hS10 ho hin2 htn hos
  go_wp2_with fail
  refine hK.out _ _ hS11 (fun hHeld => ?_)
  clear hK K
  (try simp only [Act.put, List.setIfInBounds_toArray, List.set_cons_zero, List.set_cons_succ])
  refine tk 20 rfl (fun wx ⟨y1, y2, y3⟩ => by go_simp; try with_reducible rfl) ?_
  refine tk 21 rfl (fun wx ⟨y1, y2, y3⟩ => by go_simp; try with_reducible rfl) ?_
  refine tk 22 rfl (fun wx ⟨y1, y2, y3⟩ => by go_simp; try with_reducible rfl) ?_
  refine tk 23 rfl (fun wx ⟨y1, y2, y3⟩ => by go_simp; try with_reducible rfl) ?_
  refine tk 24 rfl (fun wx ⟨y1, y2, y3⟩ => by go_simp; try with_reducible rfl) ?_
  refine wpAnyH_done (by kernel_rfl) ?_ _
  refine NoPanic.normal ?_
  clear hHeld hS11 q34
  go_wp2_with fail
  refine hpo.mono ?_
  rintro e w3 ⟨rfl, hfin⟩
  have HFIN : Hid (GrpOk W0 B n gq (g.post i g.bag ((g.ms i).tick a.est (stOf (g.ms i)))) w3) := hfin
  clear hpo hfin
  go_wp2
  go_end0
  exact ⟨rfl, HFIN.out⟩
end
end Go.Proofs.YtlonbbepoamnmaaDoor
