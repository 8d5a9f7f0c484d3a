/-
  Texts of the walk, one behind the other.
-/
import Derived.Test.YtlaihgdfedalmaaGreatTLab0
import Derived.Test.YtlaihgdfedalmaaGreatNHold
import Derived.Test.YtlaihgdfedalmaaGreatJAll
/-
  A node's buffer: one more entry behind the others.
-/
namespace Go.Proofs.YtlaihgdfedalmaaGreat
open Go.RowKit Go.Sort
set_option linter.unusedVariables false

theorem infoE41 : (Tryz.prog.info? 41).map (fun i => (i.zero, i.size, i.bytes)) = some (some (.agg #[.int .u64 0, .int .i64 0, .int .u64 0, .int .i64 0, .slice none 0 0]), 5, 56) := infoE29
/-- A colour for a row that has moved. -/
def recol (col : Nat → Nat) (old new : Option Nat) (c : Nat) : Nat → Nat := fun k => if new = some k then c else if old = some k then 0 else col k
section
variable {w w1 w2 : World} {col : Nat → Nat} {Z : Nat → Prop} {q : Nat} {T : Tot} {a : Ta}
theorem Tt.putB (h : Tt w col Z q T a) (u : Below w.heap.size w w1) (v : Value) {xs : List (Lb × Sv)} (hxl : xs.length = T.buf.length) (hxm : ∀ (j : Nat) e x, T.buf[j]? = some e → xs[j]? = some x → x.1 = e.1 ∧ Mg Z w x.2 e.2)
    {x : Lb} {s : Sv} {b : List UInt8} (hg : Mg Z w s b) (hR : Rw w2 41 5 v (T.buf.length + 1) (flatE xs ++ cells5 (x, s))) (g : w1.grownBy w2 a.bv.ownBlock) (loc : ∀ b, v.ownBlock = some b → a.bv.ownBlock = some b ∨ w1.heap.size ≤ b) :
    ∃ col', Tt (w2.setCell ⟨q, 9, none⟩ v) col' Z q { T with buf := T.buf ++ [(x, b)] } { a with bv := v } ∧ Gt w col (w2.setCell ⟨q, 9, none⟩ v) col' := by
  have h1 := h.still u
  have hsz := u.size
  have hgs := g.size
  have hfq := h.fq
  have hbl : ∀ k, 0 < col k → col k ≠ 6 → w2.heap[k]? = w.heap[k]? := fun k p1 p2 => (g.block k (h1.d.lt k p1) (fun e => p2 (h.d.cbv k e.symm))).trans (u.block k (h.d.lt k p1))
  have hkp : Kp Z w w2 := (Kp.bl u).trans ((Turned.of_grown (F := fun k => a.bv.ownBlock = some k) g (fun k e => e)).kp (fun k hz e => by have := h.d.zf k hz; rw [h.d.cbv k e] at this; omega))
  have hnew : ∀ k, v.ownBlock = some k → ¬ Z k ∧ (0 < col k → col k = 6) := fun k e => by
    rcases loc k e with e' | e'
    · have := h.d.cbv k e'
      exact ⟨fun hz => by have := h.d.zf k hz; omega, fun _ => this⟩
    · exact ⟨fun hz => by have := h.d.zl k hz; omega, fun hc => by have := h.d.lt k hc; omega⟩
  have hcol : ∀ k c, col k = c → 0 < c → c ≠ 6 → recol col a.bv.ownBlock v.ownBlock 6 k = c := fun k c e hc h6 => by
    unfold recol
    rw [if_neg (fun e' => by have := (hnew k e').2 (by omega); omega), if_neg (fun e' => by have := h.d.cbv k e'; omega)]
    exact e
  have hset : ∀ k, k ≠ q → (w2.setCell ⟨q, 9, none⟩ v).heap[k]? = w2.heap[k]? := fun k hk => Below.heap_setCell _ _ _ _ hk
  have hblk : ∀ k c, col k = c → 1 < c → c ≠ 6 → (w2.setCell ⟨q, 9, none⟩ v).heap[k]? = w.heap[k]? := fun k c e hc h6 => (hset k (fun e' => by rw [e', hfq] at e; omega)).trans (hbl k (by omega) (by omega))
  have hkp2 : Kp Z w (w2.setCell ⟨q, 9, none⟩ v) := fun ad u hz hu => by
    rw [World.cell?_setCell_other _ _ _ _ (fun e => by have := h.d.zf _ hz; rw [← e] at this; simp at this; omega)]
    exact hkp ad u hz hu
  have hs2 : (w2.setCell ⟨q, 9, none⟩ v).heap.size = w2.heap.size := by simp [World.setCell]
  have hqb : w2.heap[q]? = w.heap[q]? := hbl q (by omega) (by omega)
  refine ⟨recol col a.bv.ownBlock v.ownBlock 6, ⟨fun k hk => ?_, fun k => ?_, hcol q 1 hfq (by omega) (by omega), ?_⟩, ?_⟩
  · by_cases e : k = 9
    · subst e
      exact World.cell?_setCell_same w2 _ _ ((cell_block hqb).trans (h.cell 9 hk))
    · rw [World.cell?_setCell_other _ _ _ _ (by intro e'; simp only [Addr.mk.injEq] at e'; omega), cell_block hqb, h.cell k hk]
      congr 1
      unfold tcell
      split <;> first | rfl | omega
  · rw [World.frozen?_setCell, frozen_block hqb]
    exact h.fr k
  · refine { ch := ?_, con := ?_, am := ?_, sa := ?_, bu := ?_, od := ?_, tl := ?_, cc := hcol _ _ h.d.cc (by omega) (by omega), ccb := hcol _ _ h.d.ccb (by omega) (by omega), cab := hcol _ _ h.d.cab (by omega) (by omega), csb := hcol _ _ h.d.csb (by omega) (by omega), cbv := fun b e => by unfold recol; rw [if_pos e], cov := fun b e => hcol _ _ (h.d.cov b e) (by omega) (by omega), ctv := fun b e => hcol _ _ (h.d.ctv b e) (by omega) (by omega), lt := fun k hk => ?_, zf := fun k hz => ?_, zl := fun k hz => by have := h.d.zl k hz; omega }
    · obtain ⟨s', r, vs, h1, h2, h3⟩ := h.d.ch
      exact ⟨s', r, vs, by rw [hblk _ _ h.d.cc (by omega) (by omega)]; exact h1, h2, fun j y c e1 e2 => (h3 j y c e1 e2).kp hkp2 (fun _ e => e)⟩
    · obtain ⟨m, c1, c2, c3⟩ := h.d.con
      refine ⟨m, c1.of_block (hblk _ _ h.d.ccb (by omega) (by omega)), ⟨c2.1, c2.2.1, c2.2.2.1, fun y t hy hyt => ?_⟩, c3⟩
      obtain ⟨bs, q1, q2⟩ := c2.2.2.2 y t hy hyt
      exact ⟨bs, q1, row_kp q2 (c3 y t hy hyt) hkp2⟩
    · obtain ⟨S, c1, c2⟩ := h.d.am
      exact ⟨S, c1.of_block (hblk _ _ h.d.cab (by omega) (by omega)), c2⟩
    · obtain ⟨S, c1, c2⟩ := h.d.sa
      exact ⟨S, c1.of_block (hblk _ _ h.d.csb (by omega) (by omega)), c2⟩
    · refine ⟨xs ++ [(x, s)], by simp [hxl], ?_, fun j e y e1 e2 => ?_⟩
      · rw [flatE_snoc, show (T.buf ++ [(x, b)]).length = T.buf.length + 1 by simp]
        exact hR.frame (fun k e => hset k (fun e' => by have := (hnew k e).2 (by rw [e', hfq]; omega); rw [e', hfq] at this; omega))
      · simp only at e1
        by_cases hj : j < T.buf.length
        · rw [List.getElem?_append_left hj] at e1
          rw [List.getElem?_append_left (by omega)] at e2
          obtain ⟨p1, p2⟩ := hxm j e y e1 e2
          exact ⟨p1, p2.kp hkp2 (fun _ e => e)⟩
        · have hje : j = T.buf.length := by
            have := (List.getElem?_eq_some_iff.1 e1).1
            simp at this
            omega
          subst hje
          rw [List.getElem?_append_right (by omega)] at e1
          rw [List.getElem?_append_right (by omega)] at e2
          simp [hxl] at e1 e2
          subst e1 e2
          exact ⟨rfl, hg.kp hkp2 (fun _ e => e)⟩
    · exact h.d.od.frame (fun k e => hblk _ _ (h.d.cov k e) (by omega) (by omega))
    · obtain ⟨ys, c1, c2, c3⟩ := h.d.tl
      exact ⟨ys, c1, c2.frame (fun k e => hblk _ _ (h.d.ctv k e) (by omega) (by omega)), fun y hy => (c3 y hy).kp hkp2⟩
    · unfold recol at hk
      split at hk
      · rename_i e
        have := hR.lt k e
        omega
      · split at hk
        · omega
        · have := h.d.lt k hk
          omega
    · unfold recol
      rw [if_neg (fun e => (hnew k e).1 hz)]
      split
      · rfl
      · exact h.d.zf k hz
  · refine ⟨⟨?_, ?_, ?_, by omega, fun k hk hn => ?_⟩, fun k hk => ?_⟩
    · simpa [World.setCell] using g.os.trans u.os
    · simpa [World.setCell] using g.tape.trans u.tape
    · simpa [World.setCell] using g.output.trans u.output
    · rw [hset k (fun e => hn (by rw [e, hfq]; omega))]
      exact (g.block k (by omega) (fun e => hn (by rw [h.d.cbv k e.symm]; omega))).trans (u.block k hk)
    · unfold recol at hk
      split at hk
      · rename_i e
        rcases loc k e with e' | e'
        · exact .inl (by rw [h.d.cbv k e']; omega)
        · exact .inr (by omega)
      · split at hk
        · omega
        · exact .inl hk
end
end Go.Proofs.YtlaihgdfedalmaaGreat

/-
  Package total's label: a message has a label; it is in the store, and waits to be sent.
-/
namespace Go.Proofs.YtlaihgdfedalmaaGreat
open Go.RowKit Go.Sort
set_option linter.unusedVariables false
set_option linter.unusedSimpArgs false

/-- The label of the next message. -/
def Tot.nextL (T : Tot) : Lb := (T.vn, T.vp, T.seq + 1, T.self)
def Tot.label (T : Tot) (b : List UInt8) : Tot := { T with seq := T.seq + 1, con := mstep T.con (T.nextL, b), buf := T.buf ++ [(T.nextL, b)], K := T.K + 1 }
/-- A node's numbers are numbers. -/
structure Tn (T : Tot) : Prop where
  n : 1 ≤ T.n ∧ T.n ≤ 16
  self : 0 ≤ T.self ∧ T.self < T.n
  vn : T.vn < 18446744073709551616
  vp : In T.vp
  vs : T.vs < 65536
  st : T.st < 256
  K : T.K ≤ 1000000
def S4t (q : Nat) (v4 v5 v8 v1 : Value) (W : World) : Prop := W.cell? ⟨q, 4, none⟩ = some v4 ∧ W.cell? ⟨q, 5, none⟩ = some v5 ∧ W.cell? ⟨q, 8, none⟩ = some v8 ∧ W.cell? ⟨q, 1, none⟩ = some v1
def S6t (q o g : Nat) (v e0 e1 e2 e3 e4 : Value) (W : World) : Prop := W.cell? ⟨q, o, none⟩ = some v ∧ W.cell? ⟨g, 0, none⟩ = some e0 ∧ W.cell? ⟨g, 1, none⟩ = some e1 ∧ W.cell? ⟨g, 2, none⟩ = some e2 ∧ W.cell? ⟨g, 3, none⟩ = some e3 ∧ W.cell? ⟨g, 4, none⟩ = some e4
theorem cell_of_heap {w : World} {b : Nat} {cs : Array Value} {t : TypeId} (h : w.heap[b]? = some (.cells cs t (0, 0))) (j : Nat) : w.cell? ⟨b, j, none⟩ = cs[j]? := by
  simp [World.cell?, h]
theorem infoS41 : (Tryz.prog.info? 41).map (·.size) = some 5 := by kernel_rfl
def LabPost (w : World) (col : Nat → Nat) (Z : Nat → Prop) (q : Nat) (T : Tot) (w' : World) : Prop := ∃ col' a', Tt w' col' Z q T a' ∧ Gt w col w' col'
set_option maxRecDepth 10000 in
set_option maxHeartbeats 2000000 in
theorem label_any (w : World) (col : Nat → Nat) (Z : Nat → Prop) (q : Nat) (T : Tot) (a : Ta) (h : Tt w col Z q T a) (hn : Tn T) (hseq : T.seq + 1 < 18446744073709551616) (hbl : T.buf.length ≤ 999) (s0 : Option Addr) (s1 s2 : Nat) (b : List UInt8) (hm : Mg Z w (s0, s1, s2) b) :
    Calls Tryz.prog 89 #[.pointer (some ⟨q, 0, none⟩), .slice s0 s1 s2] w fun e w' => e = .returned (.tuple #[]) ∧ LabPost w col Z q (T.label b) w' := by
  have hx : OkL T.nextL := ⟨hn.vn, hn.vp, hseq, by have := hn.n; have := hn.self; unfold In Tot.nextL; simp; omega⟩
  have hK := hn.K
  have h1 : Tt (w.setCell ⟨q, 8, none⟩ (.int .u64 ((T.seq + 1 : Nat) : Int))) col Z q { T with seq := T.seq + 1 } a := h.setc 8 _ (fun j hj => by unfold tcell; split <;> simp_all) (by omega) (fun W d => ⟨d.ch, d.con, d.am, d.sa, d.bu, d.od, d.tl, d.cc, d.ccb, d.cab, d.csb, d.cbv, d.cov, d.ctv, d.lt, d.zf, d.zl⟩)
  have g1 : Gt w col (w.setCell ⟨q, 8, none⟩ (.int .u64 ((T.seq + 1 : Nat) : Int))) col := Gt.set (by rw [h.fq]; omega) _
  have hm1 : Mg Z (w.setCell ⟨q, 8, none⟩ (.int .u64 ((T.seq + 1 : Nat) : Int))) (s0, s1, s2) b := hm.kp (g1.turned.kp (fun k hz e => by have := h.d.zf k hz; omega)) (fun _ e => e)
  have c8 := h.cell 8 (by omega)
  have f8 := h.fr 8
  have e8 : ((T.seq + 1 : Nat) : Int) = (T.seq : Int) + 1 := by omega
  rw [e8] at h1 g1 hm1
  obtain ⟨w1, hw1⟩ : ∃ w1, w1 = w.setCell ⟨q, 8, none⟩ (.int .u64 ((T.seq : Int) + 1)) := ⟨_, rfl⟩
  rw [← hw1] at h1 g1 hm1
  have HW : Hid (∀ W, Below w1.heap.size w1 W → S4t q (.int .u64 (T.vn : Nat)) (.int .i64 T.vp) (.int .u64 ((T.seq : Int) + 1)) (.int .i64 T.self) W) := fun W u => by
    have k8 := (h1.still u).cell 8 (by omega)
    simp only [tcell, e8] at k8
    exact ⟨(h1.still u).cell 4 (by omega), (h1.still u).cell 5 (by omega), k8, (h1.still u).cell 1 (by omega)⟩
  have hwr : IntKind.wrap .u64 ((T.seq : Int) + 1) = (T.seq : Int) + 1 := by simp [IntKind.wrap, IntKind.bits, IntKind.signed]; omega
  simp only [tcell] at c8
  have HT : Hid (Tt w1 col Z q { T with seq := T.seq + 1 } a ∧ Gt w col w1 col ∧ Mg Z w1 (s0, s1, s2) b) := ⟨h1, g1, hm1⟩
  have HX : Hid (OkL T.nextL ∧ T.K ≤ 1000000 ∧ T.buf.length ≤ 999) := ⟨hx, hK, hbl⟩
  have HW1 : Hid (w1 = w.setCell ⟨q, 8, none⟩ (.int .u64 ((T.seq : Int) + 1))) := hw1
  have hql : q < w.heap.size := h.d.lt q (by rw [h.fq]; omega)
  clear h hn hm h1 g1 hm1 hw1 hx hK hbl hseq
  go_enter Tryz.func89, Tryz.ntmps89
  go_wp2_with fail
  rw [← HW1.out]
  clear c8 f8 HW1 hwr
  have ud : Below w1.heap.size w1 w1.drew := Below.drew (Below.refl _ _)
  have uA : Below w1.heap.size w1 ((w1.alloc (.cells #[.int .u64 0, .int .i64 0, .int .u64 0, .int .i64 0, .slice none 0 0] 41)).drew) := Below.drew ((Below.refl _ _).alloc (Nat.le_refl _) _)
  have hBx : ((w1.alloc (.cells #[.int .u64 0, .int .i64 0, .int .u64 0, .int .i64 0, .slice none 0 0] 41)).drew).heap[w1.heap.size]? = some (.cells #[.int .u64 0, .int .i64 0, .int .u64 0, .int .i64 0, .slice none 0 0] 41 (0, 0)) := heap_alloc_new w1 _
  have uB : Below w1.heap.size w1 (((w1.alloc (.cells #[.int .u64 0, .int .i64 0, .int .u64 0, .int .i64 0, .slice none 0 0] 41)).drew).setRow w1.heap.size #[.int .u64 (T.vn : Nat), .int .i64 T.vp, .int .u64 ((T.seq : Int) + 1), .int .i64 T.self, .slice s0 s1 s2]) := bl_rowL uA (Nat.le_refl _) _
  have hBy : (((w1.alloc (.cells #[.int .u64 0, .int .i64 0, .int .u64 0, .int .i64 0, .slice none 0 0] 41)).drew).setRow w1.heap.size #[.int .u64 (T.vn : Nat), .int .i64 T.vp, .int .u64 ((T.seq : Int) + 1), .int .i64 T.self, .slice s0 s1 s2]).heap[w1.heap.size]? = some (.cells #[.int .u64 (T.vn : Nat), .int .i64 T.vp, .int .u64 ((T.seq : Int) + 1), .int .i64 T.self, .slice s0 s1 s2] 41 (0, 0)) := setRow_heap _ _ _ _ _ _ hBx
  have s1a := HW.out _ ud
  refine wp_region_noPanic ?_
  refine wp_region_held_drew (S := S4t q (.int .u64 (T.vn : Nat)) (.int .i64 T.vp) (.int .u64 ((T.seq : Int) + 1)) (.int .i64 T.self)) (by kernel_rfl) s1a (fun hHeld => ?_)
  unfold S4t at hHeld
  refine tq 0 ?_
  refine tq 1 ?_
  refine tq 2 ?_
  refine tq 3 ?_
  refine tq 4 ?_
  refine tq 5 ?_
  refine tq 6 ?_
  refine tq 7 ?_
  refine tq 8 ?_
  refine tq 9 ?_
  refine tq 10 ?_
  refine tq 11 ?_
  refine tq 12 ?_
  refine tq 13 ?_
  refine tq 14 ?_
  refine tq 15 ?_
  refine comes_up 16 rfl (by kernel_rfl) (fun K hK => ?_)
  go_simp
  refine hK.out _ _ (HW.out _ uA) (fun hHeld => ?_)
  clear hK K
  (try simp only [Act.put, List.setIfInBounds_toArray, List.set_cons_zero, List.set_cons_succ])
  refine comes_up 17 rfl (by kernel_rfl) (fun K hK => ?_)
  refine step_store_row rfl 41 (.tmp 4) (.tmp 27) rfl w1.heap.size #[.int .u64 (T.vn : Nat), .int .i64 T.vp, .int .u64 ((T.seq : Int) + 1), .int .i64 T.self, .slice s0 s1 s2] rfl rfl 41 _ hBx infoS41 rfl (by simp [Value.oneCell']) ?_
  refine hK.out _ _ (HW.out _ uB) (fun hHeld => ?_)
  clear hK K
  (try simp only [Act.put, List.setIfInBounds_toArray, List.set_cons_zero, List.set_cons_succ])
  refine wpAnyH_done (by kernel_rfl) ?_ _
  refine NoPanic.normal ?_
  clear hHeld HW s1a ud uA hBx
  generalize ((w1.alloc (.cells #[.int .u64 0, .int .i64 0, .int .u64 0, .int .i64 0, .slice none 0 0] 41)).drew).setRow w1.heap.size #[.int .u64 (T.vn : Nat), .int .i64 T.vp, .int .u64 ((T.seq : Int) + 1), .int .i64 T.self, .slice s0 s1 s2] = w2 at *
  have h2 := HT.out.1.still uB
  have hm2 : Mg Z w2 (s0, s1, s2) b := HT.out.2.2.kp (Kp.bl uB) (fun _ e => e)
  have hgq : w1.heap.size ≠ q := fun e => by have := HT.out.1.d.lt q (by rw [HT.out.1.fq]; omega); omega
  have hgc : w1.heap.size ≠ a.cb := fun e => by have := HT.out.1.d.lt a.cb (by rw [HT.out.1.d.ccb]; omega); omega
  have hqc : q ≠ a.cb := fun e => by have h1 := HT.out.1.fq; have h2 := HT.out.1.d.ccb; rw [← e] at h2; omega
  have hg2 : w1.heap.size < w2.heap.size := (Array.getElem?_eq_some_iff.1 hBy).1
  obtain ⟨m, hS, hC, hZ⟩ := h2.d.con
  have HC : Hid (Con w2 m T.con ∧ ∀ x s, OkL x → m x = some s → ∀ ad, s.1 = some ad → 0 < s.2.1 → Z ad.block) := ⟨hC, hZ⟩
  have hput := put_any w2.drew a.cb T.K m (hS.of_block rfl) (by have := HX.out.2.1; unfold maxLen; omega) T.nextL HX.out.1 (s0, s1, s2)
  unfold ent sv at hput
  simp only [show T.nextL.1 = T.vn from rfl, show T.nextL.2.1 = T.vp from rfl, show T.nextL.2.2.1 = T.seq + 1 from rfl, show T.nextL.2.2.2 = T.self from rfl, e8] at hput
  have HS6 : Hid (∀ W : World, W.heap[q]? = w2.heap[q]? → W.heap[w1.heap.size]? = w2.heap[w1.heap.size]? → S6t q 10 w1.heap.size (.map (some a.cb)) (.int .u64 (T.vn : Nat)) (.int .i64 T.vp) (.int .u64 ((T.seq : Int) + 1)) (.int .i64 T.self) (.slice s0 s1 s2) W) := fun W e1 e2 => by
    have hb : ∀ j, W.cell? ⟨w1.heap.size, j, none⟩ = (#[.int .u64 (T.vn : Nat), .int .i64 T.vp, .int .u64 ((T.seq : Int) + 1), .int .i64 T.self, .slice s0 s1 s2] : Array Value)[j]? := fun j => (cell_block e2).trans (cell_of_heap hBy j)
    exact ⟨(cell_block e1).trans (h2.cell 10 (by omega)), hb 0, hb 1, hb 2, hb 3, hb 4⟩
  have s6 := HS6.out w2.drew rfl rfl
  clear hS hC hZ
  go_wp2_with fail
  refine wp_region_noPanic ?_
  refine wp_region_held_drew (S := S6t q 10 w1.heap.size (.map (some a.cb)) (.int .u64 (T.vn : Nat)) (.int .i64 T.vp) (.int .u64 ((T.seq : Int) + 1)) (.int .i64 T.self) (.slice s0 s1 s2)) (by kernel_rfl) s6 (fun hHeld => ?_)
  unfold S6t at hHeld
  refine tq 0 ?_
  refine tq 1 ?_
  refine tq 2 ?_
  refine tq 3 ?_
  refine tq 4 ?_
  refine comes_up 5 rfl (by kernel_rfl) (fun K hK => ?_)
  go_simp
  refine hput.mono ?_
  rintro e w3 ⟨rfl, hS3, g3⟩
  clear hput
  have hq3 : w3.heap[q]? = w2.heap[q]? := g3.block q (h2.d.lt q (by rw [h2.fq]; omega)) (by simp; exact hqc)
  have hb3 : w3.heap[w1.heap.size]? = w2.heap[w1.heap.size]? := g3.block w1.heap.size hg2 (by simp; exact hgc)
  go_wp2_with fail
  refine hK.out _ _ (HS6.out w3 hq3 hb3) (fun hHeld => ?_)
  clear hK K
  (try simp only [Act.put, List.setIfInBounds_toArray, List.set_cons_zero, List.set_cons_succ])
  refine wpAnyH_done (by kernel_rfl) ?_ _
  refine NoPanic.normal ?_
  clear hHeld HS6 s6
  have h3 := (h2.still (Below.drew (Below.refl _ _))).putC (w' := w3) HC.out HX.out.1 hm2 hS3 g3
  have hG3 : Gt w col w3 col := HT.out.2.1.trans ((Gt.bl col uB).trans (Gt.trans (w' := w2.drew) (c' := col) (Gt.bl col (Below.drew (Below.refl _ _))) (Gt.gr (col := col) g3 (fun k e => by cases e; rw [h2.d.ccb]; omega))))
  have hm3 : Mg Z w3 (s0, s1, s2) b := hm2.kp ((Turned.of_grown (F := fun k => k = a.cb) (w := w2.drew) g3 (by simp)).kp (fun k hz e => by have := h2.d.zf k hz; rw [e, h2.d.ccb] at this; omega)) (fun _ e => e)
  obtain ⟨xs, hxl, hxr, hxm⟩ := h3.d.bu
  simp only at hxl hxr hxm
  have hbl := HX.out.2.2
  have hxrA : Rw (w3.alloc (.cells #[.int .u64 (T.vn : Nat), .int .i64 T.vp, .int .u64 ((T.seq : Int) + 1), .int .i64 T.self, .slice s0 s1 s2] 41)).drew 41 5 a.bv T.buf.length (flatE xs) := hxr.frame (fun k e => Below.heap_alloc _ _ _ (hxr.lt k e))
  have hcA : ∀ j u, (cells5 (T.nextL, (s0, s1, s2)))[j]? = some u → (w3.alloc (.cells #[.int .u64 (T.vn : Nat), .int .i64 T.vp, .int .u64 ((T.seq : Int) + 1), .int .i64 T.self, .slice s0 s1 s2] 41)).drew.cell? ((⟨w3.heap.size, 0, none⟩ : Addr).add j) = some u := fun j u hj => by
    rw [Addr.add_lit, Nat.zero_add]
    simp only [cells5, show T.nextL.1 = T.vn from rfl, show T.nextL.2.1 = T.vp from rfl, show T.nextL.2.2.1 = T.seq + 1 from rfl, show T.nextL.2.2.2 = T.self from rfl, e8] at hj
    exact cell_box w3 #[.int .u64 (T.vn : Nat), .int .i64 T.vp, .int .u64 ((T.seq : Int) + 1), .int .i64 T.self, .slice s0 s1 s2] 41 j u (by simpa using hj)
  obtain ⟨v4, w4, hrun, hR4, g4, loc4⟩ := rw_append (w := (w3.alloc (.cells #[.int .u64 (T.vn : Nat), .int .i64 T.vp, .int .u64 ((T.seq : Int) + 1), .int .i64 T.self, .slice s0 s1 s2] 41)).drew) und35 infoE41 rfl (by omega) (by omega) hxrA (by omega) ⟨w3.heap.size, 0, none⟩ 1 (cells5 (T.nextL, (s0, s1, s2))) (by simp [cells5]) hcA (fun u hu => by simp [cells5] at hu; rcases hu with rfl | rfl | rfl | rfl | rfl <;> rfl) 42
  have uA3 : Below w3.heap.size w3 (w3.alloc (.cells #[.int .u64 (T.vn : Nat), .int .i64 T.vp, .int .u64 ((T.seq : Int) + 1), .int .i64 T.self, .slice s0 s1 s2] 41)).drew := Below.drew ((Below.refl _ _).alloc (Nat.le_refl _) _)
  obtain ⟨col', hFin, hGf⟩ := h3.putB uA3 v4 hxl hxm hm3 hR4 g4 loc4
  have hq4 : w4.heap[q]? = w3.heap[q]? := (g4.block q (Nat.lt_of_lt_of_le (h3.d.lt q (by rw [h3.fq]; omega)) uA3.size) (fun e => by have := h3.d.cbv q e.symm; rw [h3.fq] at this; omega)).trans (uA3.block q (h3.d.lt q (by rw [h3.fq]; omega)))
  have hb4 : w4.heap[w1.heap.size]? = w2.heap[w1.heap.size]? := ((g4.block w1.heap.size (by have := uA3.size; have := g3.size; have : w2.drew.heap.size = w2.heap.size := rfl; omega) (fun e => by have := HT.out.1.d.lt w1.heap.size (by rw [HT.out.1.d.cbv _ e.symm]; omega); omega)).trans (uA3.block w1.heap.size (by have := g3.size; have : w2.drew.heap.size = w2.heap.size := rfl; omega))).trans hb3
  obtain ⟨bo, bcap, hbv, _, _⟩ := hxr.shape
  obtain ⟨vo, vcap, hv4, _, _⟩ := hR4.shape
  have HS9 : Hid (∀ W : World, W.heap[q]? = w3.heap[q]? → W.heap[w1.heap.size]? = w2.heap[w1.heap.size]? → S6t q 9 w1.heap.size (.slice bo T.buf.length bcap) (.int .u64 (T.vn : Nat)) (.int .i64 T.vp) (.int .u64 ((T.seq : Int) + 1)) (.int .i64 T.self) (.slice s0 s1 s2) W) := fun W e1 e2 => by
    have hb : ∀ j, W.cell? ⟨w1.heap.size, j, none⟩ = (#[.int .u64 (T.vn : Nat), .int .i64 T.vp, .int .u64 ((T.seq : Int) + 1), .int .i64 T.self, .slice s0 s1 s2] : Array Value)[j]? := fun j => (cell_block e2).trans (cell_of_heap hBy j)
    exact ⟨(cell_block e1).trans ((h3.cell 9 (by omega)).trans (by show some a.bv = _; rw [hbv])), hb 0, hb 1, hb 2, hb 3, hb 4⟩
  have hfz : w4.frozen? ⟨q, 9, none⟩ = false := (frozen_block hq4).trans (h3.fr 9)
  have hc4 : w4.cell? ⟨q, 9, none⟩ = some (.slice bo T.buf.length bcap) := (HS9.out w4 hq4 hb4).1
  have HF : Hid (LabPost w col Z q (T.label b) (w4.setCell ⟨q, 9, none⟩ v4)) := ⟨col', _, hFin, hG3.trans hGf⟩
  rw [hbv] at hrun
  rw [hv4] at hrun HF
  have sA := HS9.out w3.drew rfl hb3
  have sB := HS9.out (w3.alloc (.cells #[.int .u64 (T.vn : Nat), .int .i64 T.vp, .int .u64 ((T.seq : Int) + 1), .int .i64 T.self, .slice s0 s1 s2] 41)).drew (uA3.block q (h3.d.lt q (by rw [h3.fq]; omega))) ((uA3.block w1.heap.size (by have := g3.size; have : w2.drew.heap.size = w2.heap.size := rfl; omega)).trans hb3)
  have sC := HS9.out w4 hq4 hb4
  clear hFin hGf hR4 g4 loc4 hxrA hcA hxr hxm hG3 hm3 h3 hS3 g3 HC hm2 h2 HT uB hBy HS9 hq3 hb3 hq4 hb4 uA3 hxl
  go_wp2_with fail
  refine wp_region_noPanic ?_
  refine beginE (S6t q 9 w1.heap.size (.slice bo T.buf.length bcap) (.int .u64 (T.vn : Nat)) (.int .i64 T.vp) (.int .u64 ((T.seq : Int) + 1)) (.int .i64 T.self) (.slice s0 s1 s2)) 10 (by kernel_rfl) sA (fun hHeld => ?_)
  unfold S6t at hHeld
  refine tqE 0 ?_
  refine tqE 1 ?_
  refine tqE 2 ?_
  refine tqE 3 ?_
  refine tqE 4 ?_
  refine tqE 5 ?_
  refine upE 6 rfl (by kernel_rfl) (fun K hK => ?_)
  go_simp
  refine hK.out _ _ sB (fun hHeld => ?_)
  clear hK K
  (try simp only [Act.put, List.setIfInBounds_toArray, List.set_cons_zero, List.set_cons_succ])
  refine upE 7 rfl (by kernel_rfl) (fun K hK => ?_)
  refine step_append_run rfl (.tmp 38) (.tmp 40) 42 rfl (.slice bo T.buf.length bcap) (.slice (some ⟨w3.heap.size, 0, none⟩) 1 1) (.slice vo (T.buf.length + 1) vcap) w4 rfl rfl hrun ?_
  refine hK.out _ _ sC (fun hHeld => ?_)
  clear hK K
  (try simp only [Act.put, List.setIfInBounds_toArray, List.set_cons_zero, List.set_cons_succ])
  refine pureE 8 (v := ?_) rfl (by kernel_rfl) (by kernel_rfl) (by kernel_rfl) (by kernel_rfl) (fun _ _ _ h => h) (Or.inl ⟨by rfl, by intro wx hSw; (try dsimp only at hSw); go_simp; try with_reducible rfl⟩) (by assumption) ?_
  (try simp only [Act.put, List.setIfInBounds_toArray, List.set_cons_zero, List.set_cons_succ])
  refine pureE 9 (v := ?_) rfl (by kernel_rfl) (by kernel_rfl) (by kernel_rfl) (by kernel_rfl) (fun _ _ _ h => h) (Or.inl ⟨by rfl, by intro wx hSw; (try dsimp only at hSw); go_simp; try with_reducible rfl⟩) (by assumption) ?_
  (try simp only [Act.put, List.setIfInBounds_toArray, List.set_cons_zero, List.set_cons_succ])
  refine lastE 10 rfl (by kernel_rfl) (by kernel_rfl) (fun K hK => ?_)
  go_simp
  refine hK.out _ _ ?_
  clear hK K
  (try simp only [Act.put, List.setIfInBounds_toArray, List.set_cons_zero, List.set_cons_succ])
  refine doneE (by kernel_rfl) ?_ _
  refine NoPanic.normal ?_
  go_wp2
  go_end0
  exact ⟨rfl, HF.out⟩
end Go.Proofs.YtlaihgdfedalmaaGreat

/-
  Package total's labelDelay: in a view all that waits has labels.
-/
namespace Go.Proofs.YtlaihgdfedalmaaGreat
open Go.RowKit Go.Sort Go.Conc
set_option linter.unusedVariables false
set_option linter.unusedSimpArgs false

theorem inView_any (w : World) (q n : Nat) (hc : w.cell? ⟨q, 4, none⟩ = some (.int .u64 (n : Nat))) :
    Calls Tryz.prog 53 #[.pointer (some ⟨q, 0, none⟩)] w fun e w' => e = .returned (.bool (decide (n ≠ 0))) ∧ w' = w := by
  go_enter Tryz.func53, Tryz.ntmps53
  go_wp2
  go_ret
  have hd : ((n : Int) != 0) = decide (n ≠ 0) := by
    by_cases h : n = 0
    · subst h; rfl
    · have : ((n : Int) == 0) = false := by simpa using h
      simp [bne, this, h]
  refine ⟨?_, rfl⟩
  rw [← hd]
  rfl
/-- The eldest that waits is taken; the others go on waiting. -/
def Tot.pop (T : Tot) : Tot := match T.dl with
  | [] => T
  | b :: r => ({ T with dl := r } : Tot).label b
def Tot.drain : Nat → Tot → Tot
  | 0, T => T
  | n + 1, T => Tot.drain n T.pop
/-- In a view all that waits has labels. -/
def Tot.labelAll (T : Tot) : Tot := if T.vn = 0 then T else T.drain T.dl.length
section
variable {w : World} {col : Nat → Nat} {Z : Nat → Prop} {q : Nat} {T : Tot} {a : Ta}
theorem setChan_heap_other (w : World) (c cap : Nat) (buf : Array Value) (cl : Bool) (s r : Nat) (tm : Bool) {k : Nat} (h : k ≠ c) : (w.setChan c cap buf cl s r tm).heap[k]? = w.heap[k]? := by
  simp [World.setChan, Array.getElem?_setIfInBounds_ne (Ne.symm h)]
/-- The channel's block has turned. -/
theorem Tt.chan (h : Tt w col Z q T a) {dl : List (List UInt8)} {vs : List Sv} {s r : Nat} (hl : vs.length = dl.length) (hm : ∀ (j : Nat) x b, vs[j]? = some x → dl[j]? = some b → Mg Z w x b) :
    Tt (w.setChan a.c T.qc (vs.map sv).toArray false s r false) col Z q { T with dl := dl } a ∧ Gt w col (w.setChan a.c T.qc (vs.map sv).toArray false s r false) col := by
  have hcc := h.d.cc
  have hlc := h.d.lt a.c (by omega)
  have hkp : Kp Z w (w.setChan a.c T.qc (vs.map sv).toArray false s r false) := fun ad u hz hu => by
    have hne : ad.block ≠ a.c := fun e => by have := h.d.zf _ hz; rw [e] at this; omega
    rw [World.cell?_of_block (w := w) (setChan_heap_other _ _ _ _ _ _ _ _ hne)]
    exact hu
  have hb : ∀ k c, col k = c → c ≠ 2 → (w.setChan a.c T.qc (vs.map sv).toArray false s r false).heap[k]? = w.heap[k]? := fun k c e h2 => setChan_heap_other _ _ _ _ _ _ _ _ (fun e' => by rw [e'] at e; omega)
  have hsz : (w.setChan a.c T.qc (vs.map sv).toArray false s r false).heap.size = w.heap.size := size_setChan _ _ _ _ _ _ _ _
  refine ⟨⟨fun k hk => ?_, fun k => ?_, h.fq, ?_⟩, ⟨⟨rfl, rfl, rfl, by omega, fun k hk hn => ?_⟩, fun _ e => .inl e⟩⟩
  · rw [cell_block (hb q 1 h.fq (by omega))]; exact h.cell k hk
  · rw [frozen_block (hb q 1 h.fq (by omega))]; exact h.fr k
  · refine { ch := ⟨s, r, vs, heap_setChan _ _ _ _ _ _ _ _ hlc, hl, fun j x b e1 e2 => (hm j x b e1 e2).kp hkp (fun _ e => e)⟩, con := ?_, am := ?_, sa := ?_, bu := ?_, od := ?_, tl := ?_, cc := h.d.cc, ccb := h.d.ccb, cab := h.d.cab, csb := h.d.csb, cbv := h.d.cbv, cov := h.d.cov, ctv := h.d.ctv, lt := fun b hb => by have := h.d.lt b hb; omega, zf := h.d.zf, zl := fun b hb => by have := h.d.zl b hb; omega }
    · obtain ⟨m, c1, c2, c3⟩ := h.d.con
      refine ⟨m, c1.of_block (hb _ _ h.d.ccb (by omega)), ⟨c2.1, c2.2.1, c2.2.2.1, fun y t hy hyt => ?_⟩, c3⟩
      obtain ⟨bs, q1, q2⟩ := c2.2.2.2 y t hy hyt
      exact ⟨bs, q1, row_kp q2 (c3 y t hy hyt) hkp⟩
    · obtain ⟨S, c1, c2⟩ := h.d.am
      exact ⟨S, c1.of_block (hb _ _ h.d.cab (by omega)), c2⟩
    · obtain ⟨S, c1, c2⟩ := h.d.sa
      exact ⟨S, c1.of_block (hb _ _ h.d.csb (by omega)), c2⟩
    · obtain ⟨xs, c1, c2, c3⟩ := h.d.bu
      exact ⟨xs, c1, c2.frame (fun k e => hb _ _ (h.d.cbv k e) (by omega)), fun j e x e1 e2 => ⟨(c3 j e x e1 e2).1, (c3 j e x e1 e2).2.kp hkp (fun _ e => e)⟩⟩
    · exact h.d.od.frame (fun k e => hb _ _ (h.d.cov k e) (by omega))
    · obtain ⟨ys, c1, c2, c3⟩ := h.d.tl
      exact ⟨ys, c1, c2.frame (fun k e => hb _ _ (h.d.ctv k e) (by omega)), fun y hy => (c3 y hy).kp hkp⟩
  · exact setChan_heap_other _ _ _ _ _ _ _ _ (fun e => hn (by rw [e, hcc]; omega))
theorem Tt.recv (h : Tt w col Z q T a) {b : List UInt8} {r : List (List UInt8)} (hd : T.dl = b :: r) :
    ∃ (s k : Nat) (x : Sv) (vs : List Sv), w.heap[a.c]? = some (.chan T.qc (sv x :: vs.map sv).toArray false s k false) ∧ Mg Z (w.setChan a.c T.qc (vs.map sv).toArray false s (k + 1) false) x b ∧ Tt (w.setChan a.c T.qc (vs.map sv).toArray false s (k + 1) false) col Z q { T with dl := r } a ∧ Gt w col (w.setChan a.c T.qc (vs.map sv).toArray false s (k + 1) false) col := by
  obtain ⟨s, k, vs, h1, h2, h3⟩ := h.d.ch
  rw [hd] at h2 h3
  obtain ⟨x, vs, rfl⟩ : ∃ x ys, vs = x :: ys := by
    cases vs with
    | nil => simp at h2
    | cons x ys => exact ⟨x, ys, rfl⟩
  obtain ⟨c1, c2⟩ := h.chan (dl := r) (vs := vs) (s := s) (r := k + 1) (by simpa using h2) (fun j x b e1 e2 => h3 (j + 1) x b (by simpa using e1) (by simpa using e2))
  refine ⟨s, k, x, vs, by simpa using h1, (h3 0 x b rfl rfl).kp (c2.turned.kp (fun j hz e => by have := h.d.zf j hz; omega)) (fun _ e => e), c1, c2⟩
/-- What is bounded while labels are given. -/
structure Lim (T : Tot) (n : Nat) : Prop where
  tn : Tn T
  seq : T.seq + n < 18446744073709551616
  buf : T.buf.length + n ≤ 1000
  K : T.K + n ≤ 1000000
theorem Lim.pop {n : Nat} {b : List UInt8} {r : List (List UInt8)} (h : Lim T (n + 1)) (hd : T.dl = b :: r) : Lim T.pop n := by
  obtain ⟨h1, h2, h3, h4⟩ := h
  have e : T.pop = ({ T with dl := r } : Tot).label b := by unfold Tot.pop; rw [hd]
  rw [e]
  exact ⟨⟨h1.n, h1.self, h1.vn, h1.vp, h1.vs, h1.st, by simp [Tot.label]; omega⟩, by simp [Tot.label]; omega, by simp [Tot.label]; omega, by simp [Tot.label]; omega⟩
end
def DelPost (w : World) (col : Nat → Nat) (Z : Nat → Prop) (q : Nat) (T : Tot) (e : Ending) (w' : World) : Prop := e = .returned (.tuple #[]) ∧ LabPost w col Z q T.labelAll w'
/-- Where the loop stands. -/
def DelAt (w : World) (col : Nat → Nat) (Z : Nat → Prop) (q : Nat) (T : Tot) (n : Nat) (W : World) : Prop := ∃ col' a' T', Tt W col' Z q T' a' ∧ Gt w col W col' ∧ T'.dl.length = n ∧ Lim T' n ∧ T'.vn = T.vn ∧ (T.vn ≠ 0 → T'.drain n = T.drain T.dl.length) ∧ (T.vn = 0 → T' = T)
set_option maxRecDepth 10000 in
set_option maxHeartbeats 2000000 in
theorem labelDelay_any (w : World) (col : Nat → Nat) (Z : Nat → Prop) (q : Nat) (T : Tot) (a : Ta) (h : Tt w col Z q T a) (hl : Lim T T.dl.length) :
    Calls Tryz.prog 48 #[.pointer (some ⟨q, 0, none⟩)] w (DelPost w col Z q T) := by
  refine calls_of_wpN Tryz.func48 rfl ?_
  refine wpN_block ?_
  refine wpN_loop (fun n A W => (∃ u1 u2 u3 u4 u5 u6 u7 u8 u9 u10 u11 u12 u13 u14 u15, A = { tmps := #[.pointer (some ⟨q, 0, none⟩), u1, u2, u3, u4, u5, u6, u7, u8, u9, u10, u11, u12, u13, u14, u15], defers := [] }) ∧ DelAt w col Z q T n W) ?round T.dl.length _ _ ?start
  case start =>
    refine ⟨⟨_, _, _, _, _, _, _, _, _, _, _, _, _, _, _, rfl⟩, col, a, T, h, Gt.refl _ _, rfl, hl, rfl, fun _ => rfl, fun _ => rfl⟩
  case round =>
    rintro n A W ⟨⟨u1, u2, u3, u4, u5, u6, u7, u8, u9, u10, u11, u12, u13, u14, u15, rfl⟩, col', a', T', hT, hG, hn, hL, hv, hd0, hd1⟩
    have hc4 := hT.cell 4 (by omega)
    have hiv := inView_any W q T'.vn hc4
    refine wpN_seq ?_
    go_wp2_with fail
    refine hiv.mono ?_
    rintro e W1 ⟨rfl, rfl⟩
    clear hiv
    by_cases h0 : T'.vn = 0
    · have hdc : decide (T'.vn ≠ 0) = false := by simp [h0]
      rw [hdc]
      have HP : Hid (DelPost w col Z q T (.returned (.tuple #[])) W1) := ⟨rfl, by
        unfold Tot.labelAll
        rw [if_pos (by rw [← hv]; exact h0)]
        have := hd1 (by rw [← hv]; exact h0)
        subst this
        exact ⟨_, _, hT, hG⟩⟩
      clear hdc hT hG hc4 hL hd0 hd1 h hl
      go_wp2
      go_end0
      exact HP.out
    · have hdc : decide (T'.vn ≠ 0) = true := by simp [h0]
      rw [hdc]
      have hc2 := hT.cell 2 (by omega)
      simp only [tcell] at hc2
      clear hdc h hl
      go_wp2_with fail
      refine wpN_block ?_
      refine wpN_seq ?_
      go_wp2_with fail
      refine wpN_seq' ?_
      cases hdl : T'.dl with
      | nil =>
        obtain ⟨s, r, vs, k1, k2, k3⟩ := hT.d.ch
        rw [hdl] at k2
        obtain rfl : vs = [] := List.eq_nil_of_length_eq_zero k2
        have HP : Hid (DelPost w col Z q T (.returned (.tuple #[])) W1) := ⟨rfl, by
          unfold Tot.labelAll
          rw [if_neg (by rw [← hv]; exact h0), ← hd0 (by rw [← hv]; exact h0)]
          have : n = 0 := by rw [← hn, hdl]; rfl
          subst this
          exact ⟨_, _, hT, hG⟩⟩
        refine wpN_recv_none (c := a'.c) (z := .slice none 0 0) rfl (by simp [go_sem, execOp, rcase, Act.eval]) k1 ?_
        clear hT hG hL hn hv hd0 hd1 hc4 hc2 k1 k2 k3 h0 hdl
        simp only [Act.put, List.setIfInBounds_toArray, List.set_cons_zero, List.set_cons_succ]
        go_wp2_with fail
        refine wpN_of ?_
        go_wp2
        go_end0
        exact HP.out
      | cons b rest =>
        obtain ⟨s, k, x, vs, k1, hm, hT2, hG2⟩ := hT.recv hdl
        refine wpN_recv_buf (c := a'.c) (z := .slice none 0 0) rfl (by simp [go_sem, execOp, rcase, Act.eval]) k1 (by simp) ?_
        have hn1 : n = rest.length + 1 := by rw [← hn, hdl]; rfl
        subst hn1
        obtain ⟨x0, x1, x2⟩ := x
        have e1 : ((sv (x0, x1, x2) :: vs.map sv).toArray.extract 1 (sv (x0, x1, x2) :: vs.map sv).toArray.size) = (vs.map sv).toArray := by
          simp
          rw [show vs.length = (vs.map sv).length by simp, List.take_length]
        have e2 : (sv (x0, x1, x2) :: vs.map sv).toArray.getD 0 undef = .slice x0 x1 x2 := by simp [sv]
        rw [e1, e2]
        have hpop : T'.pop = ({ T' with dl := rest } : Tot).label b := by unfold Tot.pop; rw [hdl]
        have hL2 := hL.pop hdl
        have hlab := label_any _ col' Z q { T' with dl := rest } a' hT2 ⟨hL.tn.n, hL.tn.self, hL.tn.vn, hL.tn.vp, hL.tn.vs, hL.tn.st, hL.tn.K⟩ (by have := hL.seq; simp; omega) (by have := hL.buf; simp; omega) x0 x1 x2 b hm
        have HR : Hid (∀ W3, LabPost (W1.setChan a'.c T'.qc (vs.map sv).toArray false s (k + 1) false) col' Z q (({ T' with dl := rest } : Tot).label b) W3 → DelAt w col Z q T rest.length W3) := by
          rintro W3 ⟨c3, a3, h3, g3⟩
          refine ⟨c3, a3, _, h3, (hG.trans hG2).trans g3, rfl, ?_, hv, fun hne => ?_, fun e => absurd (hv.trans e) h0⟩
          · rw [← hpop]; exact hL2
          · rw [← hd0 hne, ← hpop]; rfl
        generalize hpost : LabPost (W1.setChan a'.c T'.qc (vs.map sv).toArray false s (k + 1) false) col' Z q (({ T' with dl := rest } : Tot).label b) = Po at *
        generalize hW2 : W1.setChan a'.c T'.qc (vs.map sv).toArray false s (k + 1) false = W2 at *
        clear hT hT2 hG hG2 hL hL2 hn hv hd0 hd1 hc4 hc2 k1 h0 hdl e1 e2 hpop hm hpost hW2
        simp only [Act.put, List.setIfInBounds_toArray, List.set_cons_zero, List.set_cons_succ]
        go_wp2_with fail
        refine wpN_of ?_
        go_wp2_with fail
        refine hlab.mono ?_
        rintro e W3 ⟨rfl, hp⟩
        have HD := HR.out W3 hp
        clear hlab HR hp
        go_wp2_with fail
        exact ⟨rest.length, Nat.lt_succ_self _, ⟨_, _, _, _, _, _, _, _, _, _, _, _, _, _, _, rfl⟩, HD⟩
end Go.Proofs.YtlaihgdfedalmaaGreat
