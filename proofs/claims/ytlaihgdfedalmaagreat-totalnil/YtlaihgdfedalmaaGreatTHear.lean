/-
  Package total's hear: somebody tells a summary.
-/
import Derived.Test.YtlaihgdfedalmaaGreatTHear0
import Derived.Test.YtlaihgdfedalmaaGreatXTold
namespace Go.Proofs.YtlaihgdfedalmaaGreat
open Go.RowKit Go.Sort Go.Conc
set_option linter.unusedVariables false
set_option linter.unusedSimpArgs false

/-- A node that told: all that it knows is known. -/
def Tot.heard (T : Tot) (x : Pt) : Tot := { T with con := mergeE T.con x.es, told := T.told ++ [x], K := T.K + x.es.length }
def tval (x : El) : Value := .agg #[.int .i64 x.1.node, .slice x.2.1.1 x.1.es.length x.2.1.2, .slice x.2.2.1 x.1.ls.length x.2.2.2, .int .i64 x.1.nx, .int .u64 (x.1.hn : Nat), .int .i64 x.1.hp]
set_option maxRecDepth 10000 in
set_option maxHeartbeats 1000000 in
theorem hear_busy {w : World} {col : Nat → Nat} {Z : Nat → Prop} {q : Nat} {T : Tot} {a : Ta} (h : Tt w col Z q T a) (x : El) (hb : ∃ t ∈ T.told, t.node = x.1.node) : Calls Tryz.prog 58 #[.pointer (some ⟨q, 0, none⟩), tval x] w fun e w' => e = .returned (.int .i64 8) ∧ Below w.heap.size w w' := by
  unfold tval
  have u1 : Below w.heap.size w (w.alloc (.cells #[.int .i64 x.1.node, .slice x.2.1.1 x.1.es.length x.2.1.2, .slice x.2.2.1 x.1.ls.length x.2.2.2, .int .i64 x.1.nx, .int .u64 (x.1.hn : Nat), .int .i64 x.1.hp] 120)) := bl1 _ _
  have h1 := h.still u1
  obtain ⟨ta, tc, htv, hTL⟩ := h1.tolds
  have c17 := h1.cell 17 (by omega)
  simp only [tcell] at c17
  rw [htv] at c17
  have hco := contains_any _ _ ta T.told.length tc T.told hTL w.heap.size x.1.node (cell_box w _ 120 0 _ rfl)
  have HB : Hid (∃ t ∈ T.told, t.node = x.1.node) := hb
  clear h h1 hb htv hTL
  go_enter Tryz.func58, Tryz.ntmps58
  go_wp2_with fail
  refine hco.mono ?_
  rintro e w2 ⟨⟨b, rfl, hb⟩, u2⟩
  obtain rfl : b = true := hb.2 HB.out
  have uf := bl_step u1 u2
  clear hco hb u2
  go_wp2
  go_ret
  exact ⟨rfl, uf⟩
def S7h (q B : Nat) (v b0 b1 b2 b3 b4 b5 : Value) (W : World) : Prop := W.cell? ⟨q, 17, none⟩ = some v ∧ W.cell? ⟨B, 0, none⟩ = some b0 ∧ W.cell? ⟨B, 1, none⟩ = some b1 ∧ W.cell? ⟨B, 2, none⟩ = some b2 ∧ W.cell? ⟨B, 3, none⟩ = some b3 ∧ W.cell? ⟨B, 4, none⟩ = some b4 ∧ W.cell? ⟨B, 5, none⟩ = some b5
/-- Where the loop of hear stands. -/
structure Hr (w : World) (col : Nat → Nat) (Z : Nat → Prop) (q : Nat) (T : Tot) (a : Ta) (x : El) (k : Nat) (wr : World) : Prop where
  t : Tt wr col Z q { T with con := mergeE T.con (x.1.es.take k), K := T.K + k } a
  gt : Gt w col wr col
  b : wr.heap[w.heap.size]? = some (.cells #[.int .i64 x.1.node, .slice x.2.1.1 x.1.es.length x.2.1.2, .slice x.2.2.1 x.1.ls.length x.2.2.2, .int .i64 x.1.nx, .int .u64 (x.1.hn : Nat), .int .i64 x.1.hp] 120 (0, 0))
theorem Hr.kp {w : World} {col : Nat → Nat} {Z : Nat → Prop} {q : Nat} {T : Tot} {a : Ta} {x : El} {k : Nat} {wr : World} (h : Hr w col Z q T a x k wr) : Kp Z w wr := h.gt.turned.kp (fun b hz e => by have := h.t.d.zf b hz; omega)
theorem merge_take {l es : List En} {k : Nat} {e : En} (h : es[k]? = some e) : mergeE l (es.take (k + 1)) = mstep (mergeE l (es.take k)) e := by unfold mergeE; exact foldl_take _ _ _ _ _ h
set_option maxRecDepth 10000 in
set_option maxHeartbeats 4000000 in
theorem hear_new {w : World} {col : Nat → Nat} {Z : Nat → Prop} {q : Nat} {T : Tot} {a : Ta} (h : Tt w col Z q T a) (x : El) (hx : Fx Z w x) (hno : ∀ t ∈ T.told, t.node ≠ x.1.node) (hok : ∀ e ∈ x.1.es, OkL e.1) (hn : Tn (T.heard x.1)) (hb : Tb (T.told ++ [x.1])) (htl : T.told.length ≤ 4999) : Calls Tryz.prog 58 #[.pointer (some ⟨q, 0, none⟩), tval x] w fun e w' => e = .returned (.int .i64 0) ∧ LabPost w col Z q (T.heard x.1).settle w' := by
  unfold tval
  obtain ⟨w1, hw1⟩ : ∃ w1, w.alloc (.cells #[.int .i64 x.1.node, .slice x.2.1.1 x.1.es.length x.2.1.2, .slice x.2.2.1 x.1.ls.length x.2.2.2, .int .i64 x.1.nx, .int .u64 (x.1.hn : Nat), .int .i64 x.1.hp] 120) = w1 := ⟨_, rfl⟩
  have u1 : Below w.heap.size w w1 := by rw [← hw1]; exact bl1 _ _
  have hB1 : w1.heap[w.heap.size]? = some (.cells #[.int .i64 x.1.node, .slice x.2.1.1 x.1.es.length x.2.1.2, .slice x.2.2.1 x.1.ls.length x.2.2.2, .int .i64 x.1.nx, .int .u64 (x.1.hn : Nat), .int .i64 x.1.hp] 120 (0, 0)) := by rw [← hw1]; exact heap_alloc_new _ _
  have h1 := h.still u1
  obtain ⟨ta, tc, htv, hTL⟩ := h1.tolds
  have c17 := h1.cell 17 (by omega)
  simp only [tcell] at c17
  rw [htv] at c17
  have hco := contains_any _ _ ta T.told.length tc T.told hTL w.heap.size x.1.node (cell_of_heap hB1 0)
  have HNO : Hid (∀ t ∈ T.told, t.node ≠ x.1.node) := hno
  have HT : Hid (Tt w col Z q T a ∧ Fx Z w x ∧ (∀ e ∈ x.1.es, OkL e.1) ∧ Tn (T.heard x.1) ∧ Tb (T.told ++ [x.1]) ∧ T.told.length ≤ 4999 ∧ Below w.heap.size w w1 ∧ w1.heap[w.heap.size]? = some (.cells #[.int .i64 x.1.node, .slice x.2.1.1 x.1.es.length x.2.1.2, .slice x.2.2.1 x.1.ls.length x.2.2.2, .int .i64 x.1.nx, .int .u64 (x.1.hn : Nat), .int .i64 x.1.hp] 120 (0, 0))) := ⟨h, hx, hok, hn, hb, htl, u1, hB1⟩
  have HW1 : Hid (w.alloc (.cells #[.int .i64 x.1.node, .slice x.2.1.1 x.1.es.length x.2.1.2, .slice x.2.2.1 x.1.ls.length x.2.2.2, .int .i64 x.1.nx, .int .u64 (x.1.hn : Nat), .int .i64 x.1.hp] 120) = w1) := hw1
  have hes := hx.1.1
  have hmax := hx.1.2.1
  clear h h1 hx hno hok hn hb htl htv hTL hB1 u1 hw1
  go_enter Tryz.func58, Tryz.ntmps58
  go_upto_region 1 with fail
  rw [HW1.out]
  clear HW1
  go_wp2_with fail
  refine hco.mono ?_
  rintro e w2 ⟨⟨b, rfl, hb⟩, u2⟩
  have hbf : b = false := by
    cases b with
    | false => rfl
    | true => obtain ⟨t, ht, hc⟩ := hb.1 rfl; exact absurd hc (HNO.out t ht)
  subst hbf
  have HI : Hid (Hr w col Z q T a x 0 w2) := by
    have uf := bl_step HT.out.2.2.2.2.2.2.1 u2
    refine ⟨?_, Gt.bl col uf, (u2.block _ (Array.getElem?_eq_some_iff.1 HT.out.2.2.2.2.2.2.2).1).trans HT.out.2.2.2.2.2.2.2⟩
    have h2 := HT.out.1.still uf
    have e : ({ T with con := mergeE T.con (x.1.es.take 0), K := T.K + 0 } : Tot) = T := by simp [mergeE]
    rw [e]; exact h2
  have k1 : w2.cell? ⟨w.heap.size, 1, none⟩ = some (.slice x.2.1.1 x.1.es.length x.2.1.2) := cell_of_heap HI.out.b 1
  clear hco hb HNO u2 c17
  clear hes
  go_wp2_with fail
  go_loopw [19] (fun iv wr => ∃ k : Nat, k ≤ x.1.es.length ∧ iv = .int .i64 (k : Nat) ∧ Hid (Hr w col Z q T a x k wr)) (fun iv _ => x.1.es.length - (intOf iv).toNat)
  case atStart => exact ⟨0, Nat.zero_le _, rfl, HI⟩
  case round =>
    clear k1 HI
    obtain ⟨k, hk, rfl, HI⟩ := hrel
    by_cases hlt : k < x.1.es.length
    · have hltI : (k : Int) < (x.1.es.length : Int) := by omega
      have hk0 : ¬ ((k : Int) < 0) := by omega
      obtain ⟨e, he⟩ : ∃ z, x.1.es[k]? = some z := ⟨x.1.es[k]'hlt, List.getElem?_eq_getElem hlt⟩
      obtain ⟨b, off, hao, _, hc⟩ := (HT.out.2.1.1.kp HI.out.kp).2.2 (by omega)
      obtain ⟨so, sn, sc, d0, d1, d2, d3, d4, hrow, hz⟩ := hc k e he
      have hyok := HT.out.2.2.1 e (List.mem_of_getElem? he)
      have HMT : Hid (mergeE T.con (x.1.es.take (k + 1)) = mstep (mergeE T.con (x.1.es.take k)) e) := merge_take he
      obtain ⟨y, em⟩ := e
      simp only at d0 d1 d2 d3 d4 hrow hyok HMT
      have hm : Mg Z wr (so, sn, sc) em := ⟨hrow, hz⟩
      obtain ⟨w3, hw3⟩ : ∃ w3, (wr.alloc (.cells #[.int .u64 0, .int .i64 0, .int .u64 0, .int .i64 0, .slice none 0 0] 41)).setRow wr.heap.size #[.int .u64 (y.1 : Nat), .int .i64 y.2.1, .int .u64 (y.2.2.1 : Nat), .int .i64 y.2.2.2, .slice so sn sc] = w3 := ⟨_, rfl⟩
      have HW3 : Hid ((wr.alloc (.cells #[.int .u64 0, .int .i64 0, .int .u64 0, .int .i64 0, .slice none 0 0] 41)).setRow wr.heap.size #[.int .u64 (y.1 : Nat), .int .i64 y.2.1, .int .u64 (y.2.2.1 : Nat), .int .i64 y.2.2.2, .slice so sn sc] = w3) := hw3
      have hB0 : (wr.alloc (.cells #[.int .u64 0, .int .i64 0, .int .u64 0, .int .i64 0, .slice none 0 0] 41)).heap[wr.heap.size]? = some (.cells #[.int .u64 0, .int .i64 0, .int .u64 0, .int .i64 0, .slice none 0 0] 41 (0, 0)) := heap_alloc_new _ _
      have u3 : Below wr.heap.size wr w3 := by rw [← hw3]; exact bl_rowL (bl1 _ _) (Nat.le_refl _) _
      have hB3 : w3.heap[wr.heap.size]? = some (.cells #[.int .u64 (y.1 : Nat), .int .i64 y.2.1, .int .u64 (y.2.2.1 : Nat), .int .i64 y.2.2.2, .slice so sn sc] 41 (0, 0)) := by rw [← hw3]; exact setRow_heap _ _ _ _ _ _ hB0
      have h3 := (HI.out.t.still u3).still ((Below.refl _ w3).drew)
      have hm3 : Mg Z w3.drew (so, sn, sc) em := hm.kp (Kp.bl u3.drew) (fun _ e => e)
      obtain ⟨m, hS, hC, hZ⟩ := h3.d.con
      have hKl : T.K + k < maxLen := by have := HT.out.2.2.2.1.K; unfold Tot.heard at this; simp only at this; unfold maxLen; omega
      have hput := put_any w3.drew a.cb (T.K + k) m hS hKl y hyok (so, sn, sc)
      have HC : Hid (Con w3.drew m (mergeE T.con (x.1.es.take k)) ∧ ∀ x s, OkL x → m x = some s → ∀ ad, s.1 = some ad → 0 < s.2.1 → Z ad.block) := ⟨hC, hZ⟩
      unfold ent sv at hput
      simp only at hput
      have hgq : wr.heap.size ≠ q := fun e => by have := HI.out.t.d.lt q (by rw [HI.out.t.fq]; omega); omega
      have hgc : wr.heap.size ≠ a.cb := fun e => by have := HI.out.t.d.lt a.cb (by rw [HI.out.t.d.ccb]; omega); omega
      have hqc : q ≠ a.cb := fun e => by have h1 := h3.fq; have h2 := h3.d.ccb; rw [← e] at h2; omega
      have hgl : wr.heap.size < w3.heap.size := (Array.getElem?_eq_some_iff.1 hB3).1
      have hql3 : q < w3.drew.heap.size := h3.d.lt q (by rw [h3.fq]; omega)
      have HS6 : Hid (∀ W : World, W.heap[q]? = w3.heap[q]? → W.heap[wr.heap.size]? = w3.heap[wr.heap.size]? → S6t q 10 wr.heap.size (.map (some a.cb)) (.int .u64 (y.1 : Nat)) (.int .i64 y.2.1) (.int .u64 (y.2.2.1 : Nat)) (.int .i64 y.2.2.2) (.slice so sn sc) W) := fun W e1 e2 => by
        have hb : ∀ j, W.cell? ⟨wr.heap.size, j, none⟩ = (#[.int .u64 (y.1 : Nat), .int .i64 y.2.1, .int .u64 (y.2.2.1 : Nat), .int .i64 y.2.2.2, .slice so sn sc] : Array Value)[j]? := fun j => (cell_block e2).trans (cell_of_heap hB3 j)
        exact ⟨(cell_block e1).trans (h3.cell 10 (by omega)), hb 0, hb 1, hb 2, hb 3, hb 4⟩
      have s6 := HS6.out w3.drew rfl rfl
      have H3 : Hid (Tt w3.drew col Z q { T with con := mergeE T.con (x.1.es.take k), K := T.K + k } a ∧ Mg Z w3.drew (so, sn, sc) em ∧ OkL y ∧ Below wr.heap.size wr w3.drew ∧ q < w3.drew.heap.size ∧ wr.heap.size < w3.heap.size) := ⟨h3, hm3, hyok, u3.drew, hql3, hgl⟩
      have hne : Hid (wr.heap.size ≠ q ∧ wr.heap.size ≠ a.cb ∧ q ≠ a.cb) := ⟨hgq, hgc, hqc⟩
      clear hS hC hZ h3 hm3 hm hc he hrow hz hyok hw3 u3 hB3 hKl hgq hgc hqc hgl hql3
      rw [hao]
      clear hao
      go_wp2_with (first | (refine wpList_load_E rfl (.tmp 21) rfl b (off + k * 5) rfl y (.slice so sn sc) d0 d1 d2 d3 d4 ?_) | (refine wpList_store_row rfl 41 (.tmp 7) (.tmp 22) rfl wr.heap.size #[.int .u64 (y.1 : Nat), .int .i64 y.2.1, .int .u64 (y.2.2.1 : Nat), .int .i64 y.2.2.2, .slice so sn sc] rfl rfl 41 _ hB0 infoS41 rfl (by simp [Value.oneCell']) ?_))
      rw [HW3.out]
      clear d0 d1 d2 d3 d4 hB0 HW3
      refine wp_region_noPanic ?_
      refine wp_region_held_drew (S := S6t q 10 wr.heap.size (.map (some a.cb)) (.int .u64 (y.1 : Nat)) (.int .i64 y.2.1) (.int .u64 (y.2.2.1 : Nat)) (.int .i64 y.2.2.2) (.slice so sn sc)) (by kernel_rfl) (s6) (fun hHeld => ?_)
      unfold S6t at hHeld
      refine tq 0 ?_
      refine tq 1 ?_
      refine tq 2 ?_
      refine tq 3 ?_
      refine tq 4 ?_
      refine comes_up 5 rfl (by kernel_rfl) (fun K hK => ?_)
      go_simp
      refine hput.mono ?_
      rintro e w4 ⟨rfl, hS4, g4⟩
      clear hput
      have hq4 : w4.heap[q]? = w3.heap[q]? := g4.block q H3.out.2.2.2.2.1 (by simp; exact hne.out.2.2)
      have hb4 : w4.heap[wr.heap.size]? = w3.heap[wr.heap.size]? := g4.block wr.heap.size H3.out.2.2.2.2.2 (by simp; exact hne.out.2.1)
      go_wp2_with fail
      refine hK.out _ _ ((HS6.out w4 hq4 hb4)) (fun hHeld => ?_)
      clear hK K
      (try simp only [Act.put, List.setIfInBounds_toArray, List.set_cons_zero, List.set_cons_succ])
      refine wpAnyH_done (by kernel_rfl) ?_ _
      refine NoPanic.normal ?_
      have HN : Hid (Hr w col Z q T a x (k + 1) w4) := by
        have h4 := H3.out.1.putC (w' := w4) HC.out H3.out.2.2.1 H3.out.2.1 hS4 g4
        have hg4 : Gt w3.drew col w4 col := Gt.gr (col := col) g4 (fun k e => by cases e; rw [H3.out.1.d.ccb]; omega)
        have hBl := (Array.getElem?_eq_some_iff.1 HI.out.b).1
        have hBc : w.heap.size ≠ a.cb := fun e => by have := HT.out.1.d.lt a.cb (by rw [HT.out.1.d.ccb]; omega); omega
        refine ⟨by rw [HMT.out]; exact h4, (HI.out.gt.trans (Gt.bl col H3.out.2.2.2.1)).trans hg4, ?_⟩
        exact (g4.block _ (by have := H3.out.2.2.2.1.size; omega) (by simp; exact hBc)).trans ((H3.out.2.2.2.1.block _ hBl).trans HI.out.b)
      clear hHeld HS6 s6 H3 hne HC HMT hS4 g4 hq4 hb4 HI
      go_wp2
      go_roundw
      case rel => first | exact ⟨k + 1, by omega, by go_num, HN⟩ | ((repeat apply Exists.intro); exact ⟨⟨k + 1, by omega, by go_num, HN⟩, rfl⟩)
      case measure => simp [intOf]; omega
    · obtain rfl : k = x.1.es.length := by omega
      have hI := HI.out
      have ht := hI.t
      rw [List.take_length] at ht
      obtain ⟨xs, hxs, hxr, hxf⟩ := ht.d.tl
      simp only at hxs hxr hxf
      have hFx : Fx Z wr x := HT.out.2.1.kp hI.kp
      obtain ⟨wa, hwa⟩ : ∃ wa, wr.alloc (.cells #[.int .i64 x.1.node, .slice x.2.1.1 x.1.es.length x.2.1.2, .slice x.2.2.1 x.1.ls.length x.2.2.2, .int .i64 x.1.nx, .int .u64 (x.1.hn : Nat), .int .i64 x.1.hp] 120) = wa := ⟨_, rfl⟩
      have HWA : Hid (wr.alloc (.cells #[.int .i64 x.1.node, .slice x.2.1.1 x.1.es.length x.2.1.2, .slice x.2.2.1 x.1.ls.length x.2.2.2, .int .i64 x.1.nx, .int .u64 (x.1.hn : Nat), .int .i64 x.1.hp] 120) = wa) := hwa
      have uA : Below wr.heap.size wr wa.drew := by rw [← hwa]; exact (bl1 _ _).drew
      have hxrA : Rw wa.drew 120 6 a.tv T.told.length (f6 xs) := hxr.frame (fun k e => uA.block k (hxr.lt k e))
      have hcA : ∀ j u, (c6 x)[j]? = some u → wa.drew.cell? ((⟨wr.heap.size, 0, none⟩ : Addr).add j) = some u := fun j u hj => by
        rw [Addr.add_lit, Nat.zero_add, ← hwa]
        exact cell_box wr #[.int .i64 x.1.node, .slice x.2.1.1 x.1.es.length x.2.1.2, .slice x.2.2.1 x.1.ls.length x.2.2.2, .int .i64 x.1.nx, .int .u64 (x.1.hn : Nat), .int .i64 x.1.hp] 120 j u (by simpa [c6, c5] using hj)
      have htl := HT.out.2.2.2.2.2.1
      obtain ⟨v4, w4, hrun, hR4, g4, loc4⟩ := rw_append (w := wa.drew) und45 infoT rfl (by omega) (by omega) hxrA (by omega) ⟨wr.heap.size, 0, none⟩ 1 (c6 x) (by simp [c6, c5]) hcA (fun u hu => by simp [c6, c5] at hu; rcases hu with rfl | rfl | rfl | rfl | rfl | rfl <;> rfl) 100
      obtain ⟨col', hFin, hGf⟩ := ht.putT uA v4 hxs hxf hFx hR4 g4 loc4
      have hst := settle_any hFin HT.out.2.2.2.1 HT.out.2.2.2.2.1
      have hGG := hI.gt.trans hGf
      have hBl := (Array.getElem?_eq_some_iff.1 hI.b).1
      have hql := ht.d.lt q (by rw [ht.fq]; omega)
      have hq4 : w4.heap[q]? = wr.heap[q]? := (g4.block q (Nat.lt_of_lt_of_le hql uA.size) (fun e => by have := ht.d.ctv q e.symm; rw [ht.fq] at this; omega)).trans (uA.block q hql)
      have hne8 : ∀ k, a.tv.ownBlock = some k → k ≠ w.heap.size := fun k e e' => by
        have h8 := ht.d.ctv k e
        rcases hI.gt.foot k (by rw [h8]; omega) with h9 | h9
        · have := HT.out.1.d.lt k h9
          omega
        · have h10 := HT.out.1.d.lt k (by rw [h8]; omega)
          omega
      have hb4 : w4.heap[w.heap.size]? = wr.heap[w.heap.size]? := (g4.block _ (by have := uA.size; omega) (fun e => hne8 _ e.symm rfl)).trans (uA.block _ hBl)
      obtain ⟨bo, bcap, hbv, _, _⟩ := hxr.shape
      obtain ⟨vo, vcap, hv4, _, _⟩ := hR4.shape
      have HS9 : Hid (∀ W : World, W.heap[q]? = wr.heap[q]? → W.heap[w.heap.size]? = wr.heap[w.heap.size]? → S7h q w.heap.size (.slice bo T.told.length bcap) (.int .i64 x.1.node) (.slice x.2.1.1 x.1.es.length x.2.1.2) (.slice x.2.2.1 x.1.ls.length x.2.2.2) (.int .i64 x.1.nx) (.int .u64 (x.1.hn : Nat)) (.int .i64 x.1.hp) W) := fun W e1 e2 => by
        have hb : ∀ j, W.cell? ⟨w.heap.size, j, none⟩ = (#[.int .i64 x.1.node, .slice x.2.1.1 x.1.es.length x.2.1.2, .slice x.2.2.1 x.1.ls.length x.2.2.2, .int .i64 x.1.nx, .int .u64 (x.1.hn : Nat), .int .i64 x.1.hp] : Array Value)[j]? := fun j => (cell_block e2).trans (cell_of_heap hI.b j)
        exact ⟨(cell_block e1).trans ((ht.cell 17 (by omega)).trans (by show some a.tv = _; rw [hbv])), hb 0, hb 1, hb 2, hb 3, hb 4, hb 5⟩
      have hfz : w4.frozen? ⟨q, 17, none⟩ = false := (frozen_block hq4).trans (ht.fr 17)
      have hc4 : w4.cell? ⟨q, 17, none⟩ = some (.slice bo T.told.length bcap) := (HS9.out w4 hq4 hb4).1
      have sA := HS9.out wr.drew rfl rfl
      have sB := HS9.out wa.drew (uA.block q hql) (uA.block _ hBl)
      have sC := HS9.out w4 hq4 hb4
      have eT : ({ T with con := mergeE T.con x.1.es, K := T.K + x.1.es.length, told := T.told ++ [x.1] } : Tot) = T.heard x.1 := rfl
      rw [hbv] at hrun
      rw [hv4] at hrun hst hGG
      have HF : Hid (∀ w', LabPost (w4.setCell ⟨q, 17, none⟩ (.slice vo (T.told.length + 1) vcap)) col' Z q (T.heard x.1).settle w' → LabPost w col Z q (T.heard x.1).settle w') := fun w' hp => by
        obtain ⟨c2, a2, p1, p2⟩ := hp
        exact ⟨c2, a2, p1, hGG.trans p2⟩
      have HRUN : Hid ((Builtin.append_ #[100, 100] 100 #[.slice bo T.told.length bcap, .slice (some ⟨wr.heap.size, 0, none⟩) 1 1]).run Tryz.prog wa.drew = .ok (.slice vo (T.told.length + 1) vcap) w4) := hrun
      rw [← hwa] at sB HRUN
      clear hI ht hxs hxr hxf hFx hwa uA hxrA hcA htl hrun hR4 g4 loc4 hFin hGf hGG hBl hne8 hql hq4 hb4 hbv hv4 HS9 eT HI HT HWA
      go_wp2_with fail
      refine wp_region_noPanic ?_
      refine beginE (S7h q w.heap.size (.slice bo T.told.length bcap) (.int .i64 x.1.node) (.slice x.2.1.1 x.1.es.length x.2.1.2) (.slice x.2.2.1 x.1.ls.length x.2.2.2) (.int .i64 x.1.nx) (.int .u64 (x.1.hn : Nat)) (.int .i64 x.1.hp)) 10 (by kernel_rfl) (sA) (fun hHeld => ?_)
      unfold S7h at hHeld
      refine tqE 0 ?_
      refine tqE 1 ?_
      refine tqE 2 ?_
      refine tqE 3 ?_
      refine tqE 4 ?_
      refine tqE 5 ?_
      refine upE 6 rfl (by kernel_rfl) (fun K hK => ?_)
      go_simp
      refine hK.out _ _ (sB) (fun hHeld => ?_)
      clear hK K
      (try simp only [Act.put, List.setIfInBounds_toArray, List.set_cons_zero, List.set_cons_succ])
      refine upE 7 rfl (by kernel_rfl) (fun K hK => ?_)
      refine step_append_run rfl (.tmp 34) (.tmp 36) 100 rfl (.slice bo T.told.length bcap) (.slice (some ⟨wr.heap.size, 0, none⟩) 1 1) (.slice vo (T.told.length + 1) vcap) w4 rfl rfl HRUN.out ?_
      refine hK.out _ _ (sC) (fun hHeld => ?_)
      clear hK K
      (try simp only [Act.put, List.setIfInBounds_toArray, List.set_cons_zero, List.set_cons_succ])
      refine pureE 8 (v := ?_) rfl (by kernel_rfl) (by kernel_rfl) (by kernel_rfl) (by kernel_rfl) (fun _ _ _ h => h) (Or.inl ⟨by rfl, by intro wx hSw; (try dsimp only at hSw); go_simp; try with_reducible rfl⟩) (by assumption) ?_
      (try simp only [Act.put, List.setIfInBounds_toArray, List.set_cons_zero, List.set_cons_succ])
      refine pureE 9 (v := ?_) rfl (by kernel_rfl) (by kernel_rfl) (by kernel_rfl) (by kernel_rfl) (fun _ _ _ h => h) (Or.inl ⟨by rfl, by intro wx hSw; (try dsimp only at hSw); go_simp; try with_reducible rfl⟩) (by assumption) ?_
      (try simp only [Act.put, List.setIfInBounds_toArray, List.set_cons_zero, List.set_cons_succ])
      refine lastE 10 rfl (by kernel_rfl) (by kernel_rfl) (fun K hK => ?_)
      go_simp
      refine hK.out _ _ ?_
      clear hK K
      (try simp only [Act.put, List.setIfInBounds_toArray, List.set_cons_zero, List.set_cons_succ])
      refine doneE (by kernel_rfl) ?_ _
      refine NoPanic.normal ?_
      clear hHeld sA sB sC hfz hc4 HRUN
      go_wp2_with fail
      refine hst.mono ?_
      rintro e w5 ⟨rfl, hp⟩
      have HP := HF.out w5 hp
      have HPP : Hid _ := HP
      clear hst hp HP HF
      go_wp2
      go_ret
      exact ⟨rfl, HPP.out⟩
theorem hear_any {w : World} {col : Nat → Nat} {Z : Nat → Prop} {q : Nat} {T : Tot} {a : Ta} (h : Tt w col Z q T a) (x : El) (hx : Fx Z w x) (hok : ∀ e ∈ x.1.es, OkL e.1) (hn : Tn (T.heard x.1)) (hb : Tb (T.told ++ [x.1])) (htl : T.told.length ≤ 4999) : Calls Tryz.prog 58 #[.pointer (some ⟨q, 0, none⟩), tval x] w fun e w' =>
    if ∃ t ∈ T.told, t.node = x.1.node then e = .returned (.int .i64 8) ∧ LabPost w col Z q T w' else e = .returned (.int .i64 0) ∧ LabPost w col Z q (T.heard x.1).settle w' := by
  by_cases hc : ∃ t ∈ T.told, t.node = x.1.node
  · refine (hear_busy h x hc).mono ?_
    rintro e w' ⟨rfl, u⟩
    rw [if_pos hc]
    exact ⟨rfl, col, a, h.still u, Gt.bl col u⟩
  · refine (hear_new h x hx (fun t ht he => hc ⟨t, ht, he⟩) hok hn hb htl).mono ?_
    rintro e w' hp
    rw [if_neg hc]
    exact hp
end Go.Proofs.YtlaihgdfedalmaaGreat
