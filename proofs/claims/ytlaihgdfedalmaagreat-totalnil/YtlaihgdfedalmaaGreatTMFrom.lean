/-
  Package total's markFrom: somebody's summary is safe.
-/
import Derived.Test.YtlaihgdfedalmaaGreatTSettle
import Derived.Test.YtlaihgdfedalmaaGreatTMark
namespace Go.Proofs.YtlaihgdfedalmaaGreat
open Go.RowKit Go.Sort Go.Conc
set_option linter.unusedVariables false
set_option linter.unusedSimpArgs false

theorem und39s : (Tryz.prog.underlying 39).any (·.isRow) = true := by kernel_rfl
/-- A label is read. -/
theorem wpList_load_L {ops : Array Oper} {rest : List Oper} {o : Oper} {a : Act} {w : World} {Q : Exit → Act → World → Prop} (hgd : o.guard = none) (x : Operand) (ho : o.op = .load 39 x) (b of : Nat) (hx : a.eval x = .pointer (some ⟨b, of, none⟩))
    (v1 v2 v3 v4 : Value) (h1 : w.cell? ⟨b, of, none⟩ = some v1) (h2 : w.cell? ⟨b, of + 1, none⟩ = some v2) (h3 : w.cell? ⟨b, of + 2, none⟩ = some v3) (h4 : w.cell? ⟨b, of + 3, none⟩ = some v4)
    (h : wpList Tryz.prog ops Q rest (a.put o.dst (.agg #[v1, v2, v3, v4])) w) : wpList Tryz.prog ops Q (o :: rest) a w := by
  obtain ⟨d, hd, hr⟩ := (Option.any_eq_true _ _).1 und39s
  refine wpList_load_mid hgd 39 x ho b of hx [v1, v2, v3, v4] d (fun j u hj => ?_) hd hr infoS39 h
  match j, hj with
  | 0, hj => simp at hj; subst hj; simpa using h1
  | 1, hj => simp at hj; subst hj; exact h2
  | 2, hj => simp at hj; subst hj; exact h3
  | 3, hj => simp at hj; subst hj; exact h4
  | n + 4, hj => simp at hj
/-- All these are safe. -/
def Tot.marks (T : Tot) (ls : List Lb) : Tot := ls.foldl Tot.mark T
theorem marks_is : ∀ (ls : List Lb) (T : Tot), T.marks ls = { T with safe := ls.reverse ++ T.safe, K := T.K + ls.length }
  | [], T => rfl
  | x :: r, T => by
    show (T.mark x).marks r = _
    rw [marks_is r (T.mark x)]
    unfold Tot.mark
    simp only [List.reverse_cons, List.append_assoc, List.singleton_append, List.length_cons]
    congr 1
    omega
theorem marks_take {T : Tot} {ls : List Lb} {k : Nat} {x : Lb} (h : ls[k]? = some x) : T.marks (ls.take (k + 1)) = (T.marks (ls.take k)).mark x := by unfold Tot.marks; exact foldl_take _ _ _ _ _ h
def Tot.markFrom (T : Tot) (f : Int) : Tot := if withN T.sf f = T.vs then ({ T with sf := withN T.sf f } : Tot).marks (fullT T.told) else { T with sf := withN T.sf f }
theorem Tt.setSf {w : World} {col : Nat → Nat} {Z : Nat → Prop} {q : Nat} {T : Tot} {a : Ta} (h : Tt w col Z q T a) (s : Nat) : Tt (w.setCell ⟨q, 18, none⟩ (.int .u16 (s : Nat))) col Z q { T with sf := s } a :=
  h.setc 18 _ (fun j hj => by unfold tcell; split <;> simp_all) (by omega) (fun W d => ⟨d.ch, d.con, d.am, d.sa, d.bu, d.od, d.tl, d.cc, d.ccb, d.cab, d.csb, d.cbv, d.cov, d.ctv, d.lt, d.zf, d.zl⟩)
def S2f (q : Nat) (v18 v6 : Value) (W : World) : Prop := W.cell? ⟨q, 18, none⟩ = some v18 ∧ W.cell? ⟨q, 6, none⟩ = some v6
/-- Where the loop stands: w0 behind Full. -/
structure Mr (w0 : World) (col : Nat → Nat) (Z : Nat → Prop) (q : Nat) (T : Tot) (ao : Option Addr) (ls : List Lb) (k : Nat) (wr : World) : Prop where
  t : ∃ c a, Tt wr c Z q (T.marks (ls.take k)) a ∧ Gt w0 col wr c
  l : LR wr ao ls.length ls
  z : ∀ ad, ao = some ad → 0 < ls.length → Z ad.block
set_option maxRecDepth 10000 in
set_option maxHeartbeats 4000000 in
theorem markFrom_any {w : World} {col : Nat → Nat} {Z : Nat → Prop} {q : Nat} {T : Tot} {a : Ta} (h : Tt w col Z q T a) (hn : Tn T) (hsf : T.sf < 65536) (hb : Tb T.told) (hK : T.K + 10000 < 1000000) (f : Int) : Calls Tryz.prog 71 #[.pointer (some ⟨q, 0, none⟩), .int .i64 f] w fun e w' => e = .returned (.tuple #[]) ∧ Stp w col Z q (T.markFrom f) w' := by
  have c18 := h.cell 18 (by omega)
  simp only [tcell] at c18
  have hwi := with_any w T.sf hsf f
  obtain ⟨s, hs⟩ : ∃ s, withN T.sf f = s := ⟨_, rfl⟩
  have hR : T.markFrom f = if s = T.vs then ({ T with sf := s } : Tot).marks (fullT T.told) else { T with sf := s } := by unfold Tot.markFrom; rw [hs]
  rw [hs] at hwi
  rw [hR]
  have f18 := h.fr 18
  obtain ⟨w1, hw1⟩ : ∃ w1, w.setCell ⟨q, 18, none⟩ (.int .u16 (s : Nat)) = w1 := ⟨_, rfl⟩
  have HW1 : Hid (w.setCell ⟨q, 18, none⟩ (.int .u16 (s : Nat)) = w1) := hw1
  have h1 : Tt w1 col Z q { T with sf := s } a := by rw [← hw1]; exact h.setSf s
  have G1 : Gt w col w1 col := by rw [← hw1]; exact Gt.set (by rw [h.fq]; omega) _
  have hs1 : S2f q (.int .u16 (s : Nat)) (.int .u16 (T.vs : Nat)) w1.drew := ⟨h1.cell 18 (by omega), h1.cell 6 (by omega)⟩
  have hd := h1.still (Below.refl _ w1).drew
  have G2 := G1.trans (Gt.bl col (Below.refl _ w1).drew)
  obtain ⟨w2, hw2⟩ : ∃ w2, w1.drew = w2 := ⟨_, rfl⟩
  rw [hw2] at hd G2
  have HW2 : Hid (w1.drew = w2) := hw2
  have H2 : Hid (Tt w2 col Z q { T with sf := s } a ∧ Gt w col w2 col) := ⟨hd, G2⟩
  by_cases hsv : s = T.vs
  · rw [if_pos hsv]
    have ev : ((s : Int) != (T.vs : Int)) = false := by simp; omega
    have HT : Hid (Tb T.told ∧ T.K + 10000 < 1000000) := ⟨hb, hK⟩
    obtain ⟨ta, tc, htv, hTL⟩ := hd.tolds
    have c17 := hd.cell 17 (by omega)
    simp only [tcell] at c17
    rw [htv] at c17
    have hfu := full_any _ w2 ta T.told.length tc T.told hTL hb.al hb.am hb.ao hb.ll hb.lo
    obtain ⟨ls, hls⟩ : ∃ ls, fullT T.told = ls := ⟨_, rfl⟩
    have HLS : Hid (ls.length ≤ 10000 ∧ ∀ x ∈ ls, OkL x) := by rw [← hls]; exact ⟨full_len HT.out.1, full_ok HT.out.1⟩
    rw [hls]
    rw [hls] at hfu
    clear h hn hsf hb hK hs hR hw1 h1 G1 hd G2 hw2 hsv htv hTL hls
    go_enter Tryz.func71, Tryz.ntmps71
    go_wp2_with fail
    refine hwi.mono ?_
    rintro e w' ⟨rfl, rfl⟩
    clear hwi
    go_upto_region 1 with fail
    rw [HW1.out]
    clear c18 f18 HW1
    go_wp2_with fail
    refine wp_region_noPanic ?_
    refine wp_region_held_drew (S := S2f q (.int .u16 (s : Nat)) (.int .u16 (T.vs : Nat))) (by kernel_rfl) (hs1) (fun hHeld => ?_)
    unfold S2f at hHeld
    refine tq 0 ?_
    refine tq 1 ?_
    refine tq 2 ?_
    refine tq 3 ?_
    refine tq 4 ?_
    refine tq 5 ?_
    refine tq 6 ?_
    refine tq 7 ?_
    refine tq 8 ?_
    refine tq 9 ?_
    refine wpAnyH_done (by kernel_rfl) ?_ _
    refine NoPanic.normal ?_
    rw [HW2.out]
    clear hHeld hs1 HW2
    go_wp2_with fail
    refine hfu.mono ?_
    rintro e w3 ⟨v3, rfl, ho3, u3⟩
    obtain ⟨ao, cap, rfl, hL, hz⟩ := LR.own2 ho3
    have hmax := hL.2.1
    have HI : Hid (Mr w3 col (fun k => Z k ∨ (w2.heap.size ≤ k ∧ k < w3.heap.size)) q { T with sf := s } ao ls 0 w3) := by
      refine ⟨⟨col, a, ?_, Gt.refl _ _⟩, hL, fun ad e hn => ?_⟩
      · have h3 := H2.out.1.more u3
        have e : ({ T with sf := s } : Tot).marks (ls.take 0) = { T with sf := s } := rfl
        rw [e]; exact h3
      · have := ho3.lt ad.block (by rw [e]; rfl)
        exact .inr this
    have H3 : Hid (Below w2.heap.size w2 w3) := u3
    obtain ⟨Z2, hZ2⟩ : ∃ Z2 : Nat → Prop, (fun k => Z k ∨ (w2.heap.size ≤ k ∧ k < w3.heap.size)) = Z2 := ⟨_, rfl⟩
    have H4 : Hid ((∀ b, Z b → Z2 b) ∧ ∀ b, Z2 b → Z b ∨ w2.heap.size ≤ b) := by rw [← hZ2]; exact ⟨fun _ e => .inl e, fun _ e => e.imp id (fun e => e.1)⟩
    rw [hZ2] at HI
    clear hfu c17 ho3 u3 hL hz hZ2
    go_wp2_with fail
    go_loopw [31] (fun iv wr => ∃ k : Nat, k ≤ ls.length ∧ iv = .int .i64 (k : Nat) ∧ Hid (Mr w3 col Z2 q { T with sf := s } ao ls k wr)) (fun iv _ => ls.length - (intOf iv).toNat)
    case atStart => exact ⟨0, Nat.zero_le _, rfl, HI⟩
    case round =>
      clear HI
      obtain ⟨k, hk, rfl, HI⟩ := hrel
      by_cases hlt : k < ls.length
      · have hltI : (k : Int) < (ls.length : Int) := by omega
        have hk0 : ¬ ((k : Int) < 0) := by omega
        obtain ⟨x, hx⟩ : ∃ z, ls[k]? = some z := ⟨ls[k]'hlt, List.getElem?_eq_getElem hlt⟩
        obtain ⟨b, off, hao, hc⟩ := HI.out.l.2.2 (by omega)
        obtain ⟨c0, c1, c2, c3⟩ := hc k x hx
        have hxo := HLS.out.2 x (List.mem_of_getElem? hx)
        have HMT : Hid (({ T with sf := s } : Tot).marks (ls.take (k + 1)) = (({ T with sf := s } : Tot).marks (ls.take k)).mark x) := marks_take hx
        obtain ⟨w4, hw4⟩ : ∃ w4, (wr.alloc (.cells #[.int .u64 0, .int .i64 0, .int .u64 0, .int .i64 0] 39)).setRow wr.heap.size #[.int .u64 (x.1 : Nat), .int .i64 x.2.1, .int .u64 (x.2.2.1 : Nat), .int .i64 x.2.2.2] = w4 := ⟨_, rfl⟩
        have HW4 : Hid ((wr.alloc (.cells #[.int .u64 0, .int .i64 0, .int .u64 0, .int .i64 0] 39)).setRow wr.heap.size #[.int .u64 (x.1 : Nat), .int .i64 x.2.1, .int .u64 (x.2.2.1 : Nat), .int .i64 x.2.2.2] = w4) := hw4
        have hB0 : (wr.alloc (.cells #[.int .u64 0, .int .i64 0, .int .u64 0, .int .i64 0] 39)).heap[wr.heap.size]? = some (.cells #[.int .u64 0, .int .i64 0, .int .u64 0, .int .i64 0] 39 (0, 0)) := heap_alloc_new _ _
        have u4 : Below wr.heap.size wr w4 := by rw [← hw4]; exact bl_rowL (bl1 _ _) (Nat.le_refl _) _
        have hB4 : w4.heap[wr.heap.size]? = some (.cells #[.int .u64 (x.1 : Nat), .int .i64 x.2.1, .int .u64 (x.2.2.1 : Nat), .int .i64 x.2.2.2] 39 (0, 0)) := by rw [← hw4]; exact setRow_heap _ _ _ _ _ _ hB0
        have k0 : w4.cell? ⟨wr.heap.size, 0, none⟩ = _ := cell_of_heap hB4 0
        have k1 : w4.cell? ⟨wr.heap.size, 1, none⟩ = _ := cell_of_heap hB4 1
        have k2 : w4.cell? ⟨wr.heap.size, 2, none⟩ = _ := cell_of_heap hB4 2
        have k3 : w4.cell? ⟨wr.heap.size, 3, none⟩ = _ := cell_of_heap hB4 3
        simp only [List.getElem?_toArray, List.getElem?_cons_zero, List.getElem?_cons_succ] at k0 k1 k2 k3
        obtain ⟨c, ar, ht, hg⟩ := HI.out.t
        have h4 := ht.still u4
        have hmk := mark_any w4 c Z2 q _ ar h4 x hxo (by rw [marks_is]; simp only [List.length_take]; have := HT.out.2; have := HLS.out.1; omega)
        unfold lab at hmk
        have H5 : Hid (Tt w4 c Z2 q (({ T with sf := s } : Tot).marks (ls.take k)) ar ∧ Gt w3 col w4 c ∧ Below wr.heap.size wr w4) := ⟨h4, hg.trans (Gt.bl c u4), u4⟩
        have HAO : Hid (ao = some ⟨b, off, none⟩) := hao
        rw [hao]
        clear hao hc hx hxo hw4 u4 hB4 ht hg h4
        go_wp2_with (first | (refine wpList_store_row rfl 39 (.tmp 5) (.tmp 34) rfl wr.heap.size #[.int .u64 (x.1 : Nat), .int .i64 x.2.1, .int .u64 (x.2.2.1 : Nat), .int .i64 x.2.2.2] rfl rfl 39 _ hB0 infoS39 rfl (by simp [Value.oneCell']) ?_; rw [HW4.out]) | (refine wpList_load_L rfl (.tmp 5) rfl wr.heap.size 0 rfl _ _ _ _ k0 k1 k2 k3 ?_))
        clear hB0 HW4 c0 c1 c2 c3
        refine hmk.mono ?_
        rintro e w5 ⟨rfl, c', a', h5, g5⟩
        have HN : Hid (Mr w3 col Z2 q { T with sf := s } ao ls (k + 1) w5) := by
          refine ⟨⟨c', a', by rw [HMT.out]; exact h5, H5.out.2.1.trans g5⟩, ?_, HI.out.z⟩
          exact LR.kp (LR.up HI.out.l H5.out.2.2) HI.out.z (g5.turned.kp (fun b hz e => by have := H5.out.1.d.zf b hz; omega))
        rw [HAO.out] at HN
        clear hmk k0 k1 k2 k3 h5 g5 HI H5 HMT
        go_wp2
        go_roundw
        case rel => first | exact ⟨k + 1, by omega, by go_num, HN⟩ | ((repeat apply Exists.intro); exact ⟨⟨k + 1, by omega, by go_num, HN⟩, rfl⟩)
        case measure => simp [intOf]; omega
      · obtain rfl : k = ls.length := by omega
        have HF : Hid (Stp w col Z q (({ T with sf := s } : Tot).marks ls) wr) := by
          obtain ⟨c, ar, ht, hg⟩ := HI.out.t
          rw [List.take_length] at ht
          exact ⟨c, Z2, ar, ht, (H2.out.2.trans (Gt.bl col H3.out)).trans hg, H4.out.1, fun b e => (H4.out.2 b e).imp id (fun e => Nat.le_trans H2.out.2.turned.size e)⟩
        clear HI
        go_wp2
        go_end0
        exact ⟨rfl, HF.out⟩
  · rw [if_neg hsv]
    have ev : ((s : Int) != (T.vs : Int)) = true := by simp; omega
    have HF : Hid (Stp w col Z q { T with sf := s } w2) := ⟨col, Z, a, H2.out.1, H2.out.2, fun _ e => e, fun _ e => .inl e⟩
    clear h hn hsf hb hK hs hR hw1 h1 G1 hd G2 hw2 hsv H2
    go_enter Tryz.func71, Tryz.ntmps71
    go_wp2_with fail
    refine hwi.mono ?_
    rintro e w' ⟨rfl, rfl⟩
    clear hwi
    go_upto_region 1 with fail
    rw [HW1.out]
    clear c18 f18 HW1
    go_wp2_with fail
    refine wp_region_noPanic ?_
    refine wp_region_held_drew (S := S2f q (.int .u16 (s : Nat)) (.int .u16 (T.vs : Nat))) (by kernel_rfl) (hs1) (fun hHeld => ?_)
    unfold S2f at hHeld
    refine tq 0 ?_
    refine tq 1 ?_
    refine tq 2 ?_
    refine tq 3 ?_
    refine tq 4 ?_
    refine tq 5 ?_
    refine tq 6 ?_
    refine tq 7 ?_
    refine tq 8 ?_
    refine tq 9 ?_
    refine wpAnyH_done (by kernel_rfl) ?_ _
    refine NoPanic.normal ?_
    rw [HW2.out]
    clear hHeld hs1 HW2
    go_wp2
    refine bodyPost_ret (results_none rfl _ _ _) rfl ?_
    exact ⟨rfl, HF.out⟩
end Go.Proofs.YtlaihgdfedalmaaGreat
