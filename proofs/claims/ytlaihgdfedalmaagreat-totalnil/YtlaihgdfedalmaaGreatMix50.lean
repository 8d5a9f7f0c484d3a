/-
  Texts of the walk, one behind the other.
-/
import Derived.Test.YtlaihgdfedalmaaGreatMix49
import Derived.Test.YtlaihgdfedalmaaGreatXTol
import Derived.Test.YtlaihgdfedalmaaGreatMix47
import Derived.Test.YtlaihgdfedalmaaGreatERight
import Derived.Test.YtlaihgdfedalmaaGreatEAlike
import Derived.Test.YtlaihgdfedalmaaGreatLSrtAll
/-
  Package total's hear: has a node told already? And one more that told.
-/
namespace Go.Proofs.YtlaihgdfedalmaaGreat
open Go.RowKit Go.Sort Go.Conc
set_option linter.unusedVariables false
set_option linter.unusedSimpArgs false

set_option maxRecDepth 10000 in
theorem before_any (w : World) (B : Nat) (c : Int) (hB : w.cell? ⟨B, 0, none⟩ = some (.int .i64 c)) (v0 : Int) (v1 v2 v3 v4 v5 : Value) :
    Calls Tryz.prog 99 #[.agg #[.int .i64 v0, v1, v2, v3, v4, v5], .pointer (some ⟨B, 0, none⟩)] w fun e w' => e = .returned (.bool (decide (v0 = c))) ∧ Below w.heap.size w w' := by
  have ba := bl1 w (.cells #[.int .i64 v0, v1, v2, v3, v4, v5] 120)
  have x0 := cell_box w #[.int .i64 v0, v1, v2, v3, v4, v5] 120 0 _ rfl
  have y0 := bl_cell ba hB
  go_enter Tryz.func99, Tryz.ntmps99
  go_wp2
  go_ret
  exact ⟨ret_bool (by first | rfl | (by_cases h : v0 = c <;> simp [h])), ba⟩
set_option maxRecDepth 10000 in
set_option maxHeartbeats 2000000 in
theorem indexB_any (p : Nat → Prop) (w : World) (ao : Option Addr) (n cap : Nat) (ts : List Pt) (h : TL p w ao n ts) (B : Nat) (c : Int) (hB : w.cell? ⟨B, 0, none⟩ = some (.int .i64 c)) :
    Calls Tryz.prog 129 #[.slice ao n cap, .func (.func 99) #[] #[.pointer (some ⟨B, 0, none⟩)]] w fun e w' => ((∃ (j : Nat), e = .returned (.int .i64 (j : Nat)) ∧ ∃ t ∈ ts, t.node = c) ∨ (e = .returned (.int .i64 (-1)) ∧ ∀ t ∈ ts, t.node ≠ c)) ∧ Below w.heap.size w w' := by
  have hl := h.1
  have hmax := h.2.1
  go_enter Tryz.func129, Tryz.ntmps129
  go_wp2_with fail
  go_loopw [5, 8] (fun jv iv wr => ∃ (k : Nat), k ≤ n ∧ iv = .int .i64 k ∧ (∃ u, jv = u) ∧ (∀ (j : Nat) t, j < k → ts[j]? = some t → t.node ≠ c) ∧ Below w.heap.size w wr) (fun _ iv _ => n - (intOf iv).toNat)
  case atStart => exact ⟨0, by omega, rfl, ⟨_, rfl⟩, fun j t hj => by omega, Below.refl _ _⟩
  case round =>
    obtain ⟨k, hk, rfl, ⟨bv, hbv⟩, hno, hb⟩ := hrel
    have HNO : Hid (∀ (j : Nat) t, j < k → ts[j]? = some t → t.node ≠ c) := hno
    clear hno
    replace hbv := hbv.symm
    subst hbv
    by_cases hlt : k < n
    · have hltI : (k : Int) < (n : Int) := by omega
      have hk0 : ¬ ((k : Int) < 0) := by omega
      obtain ⟨t, ht⟩ : ∃ z, ts[k]? = some z := ⟨ts[k]'(by omega), List.getElem?_eq_getElem (by omega)⟩
      have HT : Hid (ts[k]? = some t) := ht
      obtain ⟨b, off, hao, _, hc⟩ := h.2.2 (by omega)
      obtain ⟨c0, ca, cc, oa, oc, ⟨c1, c2, c3, c4, c5⟩, hrest⟩ := hc k t ht
      have kk : ∀ {ad : Addr} {v : Value}, w.cell? ad = some v → wr.cell? ad = some v := fun hv => (hb.cell (World.block_lt_of_cell? w _ hv)).trans hv
      replace c0 := kk c0
      replace c1 := kk c1
      replace c2 := kk c2
      replace c3 := kk c3
      replace c4 := kk c4
      replace c5 := kk c5
      have hin := before_any wr B c (kk hB) t.node (.slice ca t.es.length cc) (.slice oa t.ls.length oc) (.int .i64 t.nx) (.int .u64 (t.hn : Nat)) (.int .i64 t.hp)
      subst hao
      obtain ⟨q, hq⟩ : ∃ q, decide (t.node = c) = q := ⟨_, rfl⟩
      rw [hq] at hin
      clear hc ht kk hrest
      cases q with
      | true =>
        have HA : Hid (∃ t ∈ ts, t.node = c) := ⟨t, List.mem_of_getElem? HT.out, by simpa using hq⟩
        clear hq HNO
        go_wp2_with (refine wpList_load_T rfl (.tmp 14) rfl b (off + k * 6) rfl _ _ _ _ _ _ c0 c1 c2 c3 c4 c5 ?_)
        refine hin.mono ?_
        rintro e w2 ⟨rfl, u2⟩
        have uf := bl_step hb u2
        clear hin
        go_wp2
        go_ret
        exact ⟨.inl ⟨k, rfl, HA.out⟩, uf⟩
      | false =>
        have HN2 : Hid (∀ (j : Nat) t, j < k + 1 → ts[j]? = some t → t.node ≠ c) := fun j u hj hu => by
          by_cases e : j = k
          · subst e
            rw [HT.out] at hu
            cases hu
            simpa using hq
          · exact HNO.out j u (by omega) hu
        clear hq HNO
        go_wp2_with (refine wpList_load_T rfl (.tmp 14) rfl b (off + k * 6) rfl _ _ _ _ _ _ c0 c1 c2 c3 c4 c5 ?_)
        refine hin.mono ?_
        rintro e w2 ⟨rfl, u2⟩
        have uf := bl_step hb u2
        clear hin
        go_wp2
        go_roundw
        case rel => first | exact ⟨k + 1, by omega, by go_num, ⟨_, rfl⟩, HN2.out, uf⟩ | ((repeat apply Exists.intro); exact ⟨⟨k + 1, by omega, by go_num, ⟨_, rfl⟩, HN2.out, uf⟩, rfl⟩)
        case measure => simp [intOf]; omega
    · have HA : Hid (∀ t ∈ ts, t.node ≠ c) := fun t ht => by
        obtain ⟨j, hj, hje⟩ := List.getElem_of_mem ht
        exact HNO.out j t (by omega) (by rw [← hje]; exact List.getElem?_eq_getElem hj)
      clear HNO
      go_wp2
      go_ret
      exact ⟨.inr ⟨rfl, HA.out⟩, hb⟩
set_option maxRecDepth 10000 in
theorem contains_any (p : Nat → Prop) (w : World) (ao : Option Addr) (n cap : Nat) (ts : List Pt) (h : TL p w ao n ts) (B : Nat) (c : Int) (hB : w.cell? ⟨B, 0, none⟩ = some (.int .i64 c)) :
    Calls Tryz.prog 100 #[.slice ao n cap, .func (.func 99) #[] #[.pointer (some ⟨B, 0, none⟩)]] w fun e w' => (∃ b, e = .returned (.bool b) ∧ (b = true ↔ ∃ t ∈ ts, t.node = c)) ∧ Below w.heap.size w w' := by
  have hi := indexB_any p w ao n cap ts h B c hB
  clear h hB
  go_enter Tryz.func100, Tryz.ntmps100
  go_wp2_with fail
  refine hi.mono ?_
  rintro e w1 ⟨⟨j, rfl, hj⟩ | ⟨rfl, hj⟩, u⟩
  · have HJ : Hid (∃ t ∈ ts, t.node = c) := hj
    clear hi hj
    have h0 : (0 : Int) ≤ (j : Int) := by omega
    have h1 : ¬ ((j : Int) < 0) := by omega
    go_wp2
    go_ret
    exact ⟨⟨true, by first | rfl | simp, fun _ => HJ.out, fun _ => rfl⟩, u⟩
  · have HJ : Hid (∀ t ∈ ts, t.node ≠ c) := hj
    clear hi hj
    go_wp2
    go_ret
    exact ⟨⟨false, by first | rfl | simp, ⟨fun h => (by cases h), fun h => absurd h (fun ⟨t, ht, hc⟩ => HJ.out t ht hc)⟩⟩, u⟩
section
variable {w w1 w2 : World} {col : Nat → Nat} {Z : Nat → Prop} {q : Nat} {T : Tot} {a : Ta}
theorem Tt.putT (h : Tt w col Z q T a) (u : Below w.heap.size w w1) (v : Value) {xs : List El} (hxs : xs.map (·.1) = T.told) (hxf : ∀ x ∈ xs, Fx Z w x)
    {x : El} (hg : Fx Z w x) (hR : Rw w2 120 6 v (T.told.length + 1) (f6 xs ++ c6 x)) (g : w1.grownBy w2 a.tv.ownBlock) (loc : ∀ b, v.ownBlock = some b → a.tv.ownBlock = some b ∨ w1.heap.size ≤ b) :
    ∃ col', Tt (w2.setCell ⟨q, 17, none⟩ v) col' Z q { T with told := T.told ++ [x.1] } { a with tv := v } ∧ Gt w col (w2.setCell ⟨q, 17, none⟩ v) col' := by
  have h1 := h.still u
  have hsz := u.size
  have hgs := g.size
  have hfq := h.fq
  have hbl : ∀ k, 0 < col k → col k ≠ 8 → w2.heap[k]? = w.heap[k]? := fun k p1 p2 => (g.block k (h1.d.lt k p1) (fun e => p2 (h.d.ctv k e.symm))).trans (u.block k (h.d.lt k p1))
  have hkp : Kp Z w w2 := (Kp.bl u).trans ((Turned.of_grown (F := fun k => a.tv.ownBlock = some k) g (fun k e => e)).kp (fun k hz e => by have := h.d.zf k hz; rw [h.d.ctv k e] at this; omega))
  have hnew : ∀ k, v.ownBlock = some k → ¬ Z k ∧ (0 < col k → col k = 8) := fun k e => by
    rcases loc k e with e' | e'
    · have := h.d.ctv k e'
      exact ⟨fun hz => by have := h.d.zf k hz; omega, fun _ => this⟩
    · exact ⟨fun hz => by have := h.d.zl k hz; omega, fun hc => by have := h.d.lt k hc; omega⟩
  have hcol : ∀ k c, col k = c → 0 < c → c ≠ 8 → recol col a.tv.ownBlock v.ownBlock 8 k = c := fun k c e hc h6 => by
    unfold recol
    rw [if_neg (fun e' => by have := (hnew k e').2 (by omega); omega), if_neg (fun e' => by have := h.d.ctv k e'; omega)]
    exact e
  have hset : ∀ k, k ≠ q → (w2.setCell ⟨q, 17, none⟩ v).heap[k]? = w2.heap[k]? := fun k hk => Below.heap_setCell _ _ _ _ hk
  have hblk : ∀ k c, col k = c → 1 < c → c ≠ 8 → (w2.setCell ⟨q, 17, none⟩ v).heap[k]? = w.heap[k]? := fun k c e hc h6 => (hset k (fun e' => by rw [e', hfq] at e; omega)).trans (hbl k (by omega) (by omega))
  have hkp2 : Kp Z w (w2.setCell ⟨q, 17, none⟩ v) := fun ad u hz hu => by
    rw [World.cell?_setCell_other _ _ _ _ (fun e => by have := h.d.zf _ hz; rw [← e] at this; simp at this; omega)]
    exact hkp ad u hz hu
  have hs2 : (w2.setCell ⟨q, 17, none⟩ v).heap.size = w2.heap.size := by simp [World.setCell]
  have hqb : w2.heap[q]? = w.heap[q]? := hbl q (by omega) (by omega)
  have hid : ∀ b, Z b → Z b := fun _ e => e
  refine ⟨recol col a.tv.ownBlock v.ownBlock 8, ⟨fun k hk => ?_, fun k => ?_, hcol q 1 hfq (by omega) (by omega), ?_⟩, ?_⟩
  · by_cases e : k = 17
    · subst e
      exact World.cell?_setCell_same w2 _ _ ((cell_block hqb).trans (h.cell 17 hk))
    · rw [World.cell?_setCell_other _ _ _ _ (by intro e'; simp only [Addr.mk.injEq] at e'; omega), cell_block hqb, h.cell k hk]
      congr 1
      unfold tcell
      split <;> first | rfl | omega
  · rw [World.frozen?_setCell, frozen_block hqb]
    exact h.fr k
  · refine { ch := kCh (T := T) (a := a) h.d (hblk _ _ h.d.cc (by omega) (by omega)) hkp2 hid, con := kCon (T := T) (a := a) h.d (hblk _ _ h.d.ccb (by omega) (by omega)) hkp2 hid (Nat.le_refl _), am := kAm (T := T) (a := a) h.d (hblk _ _ h.d.cab (by omega) (by omega)) (Nat.le_refl _), sa := kSa (T := T) (a := a) h.d (hblk _ _ h.d.csb (by omega) (by omega)) (Nat.le_refl _), bu := kBu (T := T) (a := a) h.d (fun b e => hblk _ _ (h.d.cbv b e) (by omega) (by omega)) hkp2 hid, od := kOd (T := T) (a := a) h.d (fun b e => hblk _ _ (h.d.cov b e) (by omega) (by omega)), tl := ⟨xs ++ [x], by simp [hxs], ?_, fun y hy => ?_⟩, cc := hcol _ _ h.d.cc (by omega) (by omega), ccb := hcol _ _ h.d.ccb (by omega) (by omega), cab := hcol _ _ h.d.cab (by omega) (by omega), csb := hcol _ _ h.d.csb (by omega) (by omega), cbv := fun b e => hcol _ _ (h.d.cbv b e) (by omega) (by omega), cov := fun b e => hcol _ _ (h.d.cov b e) (by omega) (by omega), ctv := fun b e => by unfold recol; rw [if_pos e], lt := fun k hk => ?_, zf := fun k hz => ?_, zl := fun k hz => by have := h.d.zl k hz; omega }
    · rw [f6_snoc, show (T.told ++ [x.1]).length = T.told.length + 1 by simp]
      exact hR.frame (fun k e => hset k (fun e' => by have := (hnew k e).2 (by rw [e', hfq]; omega); rw [e', hfq] at this; omega))
    · rcases List.mem_append.1 hy with hy | hy
      · exact (hxf y hy).kp hkp2
      · rw [List.mem_singleton] at hy
        subst hy
        exact hg.kp hkp2
    · unfold recol at hk
      split at hk
      · rename_i e
        rw [hs2]
        exact hR.lt k e
      · split at hk
        · omega
        · have := h.d.lt k hk; omega
    · unfold recol
      rw [if_neg (fun e => (hnew k e).1 hz)]
      split
      · rfl
      · exact h.d.zf k hz
  · refine ⟨((Turned.of_below (F := fun b => 0 < col b) u).trans (Turned.of_grown (F := fun k => a.tv.ownBlock = some k) g (fun k e => e)) (fun i e => .inl (by have := h.d.ctv i e; omega))).setCell (p := ⟨q, 17, none⟩) (.inl (by show 0 < col q; omega)) v, fun b hb => ?_⟩
    unfold recol at hb
    split at hb
    · rename_i e
      rcases loc b e with e' | e'
      · exact .inl (by rw [h.d.ctv b e']; omega)
      · exact .inr (by omega)
    · split at hb
      · omega
      · exact .inl hb
end
end Go.Proofs.YtlaihgdfedalmaaGreat

/-
  The law's told: what nodes from 0 on told, in an order that is turned.
-/
namespace Go.Proofs.YtlaihgdfedalmaaGreat
open Go.RowKit
set_option linter.unusedVariables false
set_option linter.unusedSimpArgs false

theorem infoT : (Tryz.prog.info? 120).map (fun i => (i.zero, i.size, i.bytes)) = some (some (.agg #[.int .i64 0, .slice none 0 0, .slice none 0 0, .int .i64 0, .int .u64 0, .int .i64 0]), 6, 80) := by kernel_rfl
theorem und45 : Tryz.prog.underlying 100 = some (.slice 120) := by kernel_rfl
theorem und63s : (Tryz.prog.underlying 45).any (·.isRow) = true := by kernel_rfl
theorem info63 : (Tryz.prog.info? 45).map (·.size) = some 5 := by kernel_rfl
/-- A summary is read. -/
theorem wpList_load_S {ops : Array Oper} {rest : List Oper} {o : Oper} {a : Act} {w : World} {Q : Exit → Act → World → Prop} (hgd : o.guard = none) (x : Operand) (ho : o.op = .load 45 x) (b of : Nat) (hx : a.eval x = .pointer (some ⟨b, of, none⟩))
    (v1 v2 v3 v4 v5 : Value) (h1 : w.cell? ⟨b, of, none⟩ = some v1) (h2 : w.cell? ⟨b, of + 1, none⟩ = some v2) (h3 : w.cell? ⟨b, of + 2, none⟩ = some v3) (h4 : w.cell? ⟨b, of + 3, none⟩ = some v4) (h5 : w.cell? ⟨b, of + 4, none⟩ = some v5)
    (h : wpList Tryz.prog ops Q rest (a.put o.dst (.agg #[v1, v2, v3, v4, v5])) w) : wpList Tryz.prog ops Q (o :: rest) a w := by
  obtain ⟨d, hd, hr⟩ := (Option.any_eq_true _ _).1 und63s
  refine wpList_load_mid hgd 45 x ho b of hx [v1, v2, v3, v4, v5] d (fun j u hj => ?_) hd hr info63 h
  match j, hj with
  | 0, hj => simp at hj; subst hj; simpa using h1
  | 1, hj => simp at hj; subst hj; exact h2
  | 2, hj => simp at hj; subst hj; exact h3
  | 3, hj => simp at hj; subst hj; exact h4
  | 4, hj => simp at hj; subst hj; exact h5
  | n + 5, hj => simp at hj
end Go.Proofs.YtlaihgdfedalmaaGreat

/-
  Package total's hear: somebody tells a summary.
-/
namespace Go.Proofs.YtlaihgdfedalmaaGreat
open Go.RowKit Go.Sort Go.Conc
set_option linter.unusedVariables false
set_option linter.unusedSimpArgs false

/-- A node that told: all that it knows is known. -/
def Tot.heard (T : Tot) (x : Pt) : Tot := { T with con := mergeE T.con x.es, told := T.told ++ [x], K := T.K + x.es.length }
def tval (x : El) : Value := .agg #[.int .i64 x.1.node, .slice x.2.1.1 x.1.es.length x.2.1.2, .slice x.2.2.1 x.1.ls.length x.2.2.2, .int .i64 x.1.nx, .int .u64 (x.1.hn : Nat), .int .i64 x.1.hp]
set_option maxRecDepth 10000 in
set_option maxHeartbeats 1000000 in
theorem hear_busy {w : World} {col : Nat → Nat} {Z : Nat → Prop} {q : Nat} {T : Tot} {a : Ta} (h : Tt w col Z q T a) (x : El) (hb : ∃ t ∈ T.told, t.node = x.1.node) : Calls Tryz.prog 58 #[.pointer (some ⟨q, 0, none⟩), tval x] w fun e w' => e = .returned (.int .i64 8) ∧ Below w.heap.size w w' := by
  unfold tval
  have u1 : Below w.heap.size w (w.alloc (.cells #[.int .i64 x.1.node, .slice x.2.1.1 x.1.es.length x.2.1.2, .slice x.2.2.1 x.1.ls.length x.2.2.2, .int .i64 x.1.nx, .int .u64 (x.1.hn : Nat), .int .i64 x.1.hp] 120)) := bl1 _ _
  have h1 := h.still u1
  obtain ⟨ta, tc, htv, hTL⟩ := h1.tolds
  have c17 := h1.cell 17 (by omega)
  simp only [tcell] at c17
  rw [htv] at c17
  have hco := contains_any _ _ ta T.told.length tc T.told hTL w.heap.size x.1.node (cell_box w _ 120 0 _ rfl)
  have HB : Hid (∃ t ∈ T.told, t.node = x.1.node) := hb
  clear h h1 hb htv hTL
  go_enter Tryz.func58, Tryz.ntmps58
  go_wp2_with fail
  refine hco.mono ?_
  rintro e w2 ⟨⟨b, rfl, hb⟩, u2⟩
  obtain rfl : b = true := hb.2 HB.out
  have uf := bl_step u1 u2
  clear hco hb u2
  go_wp2
  go_ret
  exact ⟨rfl, uf⟩
def S7h (q B : Nat) (v b0 b1 b2 b3 b4 b5 : Value) (W : World) : Prop := W.cell? ⟨q, 17, none⟩ = some v ∧ W.cell? ⟨B, 0, none⟩ = some b0 ∧ W.cell? ⟨B, 1, none⟩ = some b1 ∧ W.cell? ⟨B, 2, none⟩ = some b2 ∧ W.cell? ⟨B, 3, none⟩ = some b3 ∧ W.cell? ⟨B, 4, none⟩ = some b4 ∧ W.cell? ⟨B, 5, none⟩ = some b5
/-- Where the loop of hear stands. -/
structure Hr (w : World) (col : Nat → Nat) (Z : Nat → Prop) (q : Nat) (T : Tot) (a : Ta) (x : El) (k : Nat) (wr : World) : Prop where
  t : Tt wr col Z q { T with con := mergeE T.con (x.1.es.take k), K := T.K + k } a
  gt : Gt w col wr col
  b : wr.heap[w.heap.size]? = some (.cells #[.int .i64 x.1.node, .slice x.2.1.1 x.1.es.length x.2.1.2, .slice x.2.2.1 x.1.ls.length x.2.2.2, .int .i64 x.1.nx, .int .u64 (x.1.hn : Nat), .int .i64 x.1.hp] 120 (0, 0))
theorem Hr.kp {w : World} {col : Nat → Nat} {Z : Nat → Prop} {q : Nat} {T : Tot} {a : Ta} {x : El} {k : Nat} {wr : World} (h : Hr w col Z q T a x k wr) : Kp Z w wr := h.gt.turned.kp (fun b hz e => by have := h.t.d.zf b hz; omega)
theorem merge_take {l es : List En} {k : Nat} {e : En} (h : es[k]? = some e) : mergeE l (es.take (k + 1)) = mstep (mergeE l (es.take k)) e := by unfold mergeE; exact foldl_take _ _ _ _ _ h
set_option maxRecDepth 10000 in
set_option maxHeartbeats 4000000 in
theorem hear_new {w : World} {col : Nat → Nat} {Z : Nat → Prop} {q : Nat} {T : Tot} {a : Ta} (h : Tt w col Z q T a) (x : El) (hx : Fx Z w x) (hno : ∀ t ∈ T.told, t.node ≠ x.1.node) (hok : ∀ e ∈ x.1.es, OkL e.1) (hn : Tn (T.heard x.1)) (hb : Tb (T.told ++ [x.1])) (htl : T.told.length ≤ 4999) : Calls Tryz.prog 58 #[.pointer (some ⟨q, 0, none⟩), tval x] w fun e w' => e = .returned (.int .i64 0) ∧ LabPost w col Z q (T.heard x.1).settle w' := by
  unfold tval
  obtain ⟨w1, hw1⟩ : ∃ w1, w.alloc (.cells #[.int .i64 x.1.node, .slice x.2.1.1 x.1.es.length x.2.1.2, .slice x.2.2.1 x.1.ls.length x.2.2.2, .int .i64 x.1.nx, .int .u64 (x.1.hn : Nat), .int .i64 x.1.hp] 120) = w1 := ⟨_, rfl⟩
  have u1 : Below w.heap.size w w1 := by rw [← hw1]; exact bl1 _ _
  have hB1 : w1.heap[w.heap.size]? = some (.cells #[.int .i64 x.1.node, .slice x.2.1.1 x.1.es.length x.2.1.2, .slice x.2.2.1 x.1.ls.length x.2.2.2, .int .i64 x.1.nx, .int .u64 (x.1.hn : Nat), .int .i64 x.1.hp] 120 (0, 0)) := by rw [← hw1]; exact heap_alloc_new _ _
  have h1 := h.still u1
  obtain ⟨ta, tc, htv, hTL⟩ := h1.tolds
  have c17 := h1.cell 17 (by omega)
  simp only [tcell] at c17
  rw [htv] at c17
  have hco := contains_any _ _ ta T.told.length tc T.told hTL w.heap.size x.1.node (cell_of_heap hB1 0)
  have HNO : Hid (∀ t ∈ T.told, t.node ≠ x.1.node) := hno
  have HT : Hid (Tt w col Z q T a ∧ Fx Z w x ∧ (∀ e ∈ x.1.es, OkL e.1) ∧ Tn (T.heard x.1) ∧ Tb (T.told ++ [x.1]) ∧ T.told.length ≤ 4999 ∧ Below w.heap.size w w1 ∧ w1.heap[w.heap.size]? = some (.cells #[.int .i64 x.1.node, .slice x.2.1.1 x.1.es.length x.2.1.2, .slice x.2.2.1 x.1.ls.length x.2.2.2, .int .i64 x.1.nx, .int .u64 (x.1.hn : Nat), .int .i64 x.1.hp] 120 (0, 0))) := ⟨h, hx, hok, hn, hb, htl, u1, hB1⟩
  have HW1 : Hid (w.alloc (.cells #[.int .i64 x.1.node, .slice x.2.1.1 x.1.es.length x.2.1.2, .slice x.2.2.1 x.1.ls.length x.2.2.2, .int .i64 x.1.nx, .int .u64 (x.1.hn : Nat), .int .i64 x.1.hp] 120) = w1) := hw1
  have hes := hx.1.1
  have hmax := hx.1.2.1
  clear h h1 hx hno hok hn hb htl htv hTL hB1 u1 hw1
  go_enter Tryz.func58, Tryz.ntmps58
  go_upto_region 1 with fail
  rw [HW1.out]
  clear HW1
  go_wp2_with fail
  refine hco.mono ?_
  rintro e w2 ⟨⟨b, rfl, hb⟩, u2⟩
  have hbf : b = false := by
    cases b with
    | false => rfl
    | true => obtain ⟨t, ht, hc⟩ := hb.1 rfl; exact absurd hc (HNO.out t ht)
  subst hbf
  have HI : Hid (Hr w col Z q T a x 0 w2) := by
    have uf := bl_step HT.out.2.2.2.2.2.2.1 u2
    refine ⟨?_, Gt.bl col uf, (u2.block _ (Array.getElem?_eq_some_iff.1 HT.out.2.2.2.2.2.2.2).1).trans HT.out.2.2.2.2.2.2.2⟩
    have h2 := HT.out.1.still uf
    have e : ({ T with con := mergeE T.con (x.1.es.take 0), K := T.K + 0 } : Tot) = T := by simp [mergeE]
    rw [e]; exact h2
  have k1 : w2.cell? ⟨w.heap.size, 1, none⟩ = some (.slice x.2.1.1 x.1.es.length x.2.1.2) := cell_of_heap HI.out.b 1
  clear hco hb HNO u2 c17
  clear hes
  go_wp2_with fail
  go_loopw [19] (fun iv wr => ∃ k : Nat, k ≤ x.1.es.length ∧ iv = .int .i64 (k : Nat) ∧ Hid (Hr w col Z q T a x k wr)) (fun iv _ => x.1.es.length - (intOf iv).toNat)
  case atStart => exact ⟨0, Nat.zero_le _, rfl, HI⟩
  case round =>
    clear k1 HI
    obtain ⟨k, hk, rfl, HI⟩ := hrel
    by_cases hlt : k < x.1.es.length
    · have hltI : (k : Int) < (x.1.es.length : Int) := by omega
      have hk0 : ¬ ((k : Int) < 0) := by omega
      obtain ⟨e, he⟩ : ∃ z, x.1.es[k]? = some z := ⟨x.1.es[k]'hlt, List.getElem?_eq_getElem hlt⟩
      obtain ⟨b, off, hao, _, hc⟩ := (HT.out.2.1.1.kp HI.out.kp).2.2 (by omega)
      obtain ⟨so, sn, sc, d0, d1, d2, d3, d4, hrow, hz⟩ := hc k e he
      have hyok := HT.out.2.2.1 e (List.mem_of_getElem? he)
      have HMT : Hid (mergeE T.con (x.1.es.take (k + 1)) = mstep (mergeE T.con (x.1.es.take k)) e) := merge_take he
      obtain ⟨y, em⟩ := e
      simp only at d0 d1 d2 d3 d4 hrow hyok HMT
      have hm : Mg Z wr (so, sn, sc) em := ⟨hrow, hz⟩
      obtain ⟨w3, hw3⟩ : ∃ w3, (wr.alloc (.cells #[.int .u64 0, .int .i64 0, .int .u64 0, .int .i64 0, .slice none 0 0] 41)).setRow wr.heap.size #[.int .u64 (y.1 : Nat), .int .i64 y.2.1, .int .u64 (y.2.2.1 : Nat), .int .i64 y.2.2.2, .slice so sn sc] = w3 := ⟨_, rfl⟩
      have HW3 : Hid ((wr.alloc (.cells #[.int .u64 0, .int .i64 0, .int .u64 0, .int .i64 0, .slice none 0 0] 41)).setRow wr.heap.size #[.int .u64 (y.1 : Nat), .int .i64 y.2.1, .int .u64 (y.2.2.1 : Nat), .int .i64 y.2.2.2, .slice so sn sc] = w3) := hw3
      have hB0 : (wr.alloc (.cells #[.int .u64 0, .int .i64 0, .int .u64 0, .int .i64 0, .slice none 0 0] 41)).heap[wr.heap.size]? = some (.cells #[.int .u64 0, .int .i64 0, .int .u64 0, .int .i64 0, .slice none 0 0] 41 (0, 0)) := heap_alloc_new _ _
      have u3 : Below wr.heap.size wr w3 := by rw [← hw3]; exact bl_rowL (bl1 _ _) (Nat.le_refl _) _
      have hB3 : w3.heap[wr.heap.size]? = some (.cells #[.int .u64 (y.1 : Nat), .int .i64 y.2.1, .int .u64 (y.2.2.1 : Nat), .int .i64 y.2.2.2, .slice so sn sc] 41 (0, 0)) := by rw [← hw3]; exact setRow_heap _ _ _ _ _ _ hB0
      have h3 := (HI.out.t.still u3).still ((Below.refl _ w3).drew)
      have hm3 : Mg Z w3.drew (so, sn, sc) em := hm.kp (Kp.bl u3.drew) (fun _ e => e)
      obtain ⟨m, hS, hC, hZ⟩ := h3.d.con
      have hKl : T.K + k < maxLen := by have := HT.out.2.2.2.1.K; unfold Tot.heard at this; simp only at this; unfold maxLen; omega
      have hput := put_any w3.drew a.cb (T.K + k) m hS hKl y hyok (so, sn, sc)
      have HC : Hid (Con w3.drew m (mergeE T.con (x.1.es.take k)) ∧ ∀ x s, OkL x → m x = some s → ∀ ad, s.1 = some ad → 0 < s.2.1 → Z ad.block) := ⟨hC, hZ⟩
      unfold ent sv at hput
      simp only at hput
      have hgq : wr.heap.size ≠ q := fun e => by have := HI.out.t.d.lt q (by rw [HI.out.t.fq]; omega); omega
      have hgc : wr.heap.size ≠ a.cb := fun e => by have := HI.out.t.d.lt a.cb (by rw [HI.out.t.d.ccb]; omega); omega
      have hqc : q ≠ a.cb := fun e => by have h1 := h3.fq; have h2 := h3.d.ccb; rw [← e] at h2; omega
      have hgl : wr.heap.size < w3.heap.size := (Array.getElem?_eq_some_iff.1 hB3).1
      have hql3 : q < w3.drew.heap.size := h3.d.lt q (by rw [h3.fq]; omega)
      have HS6 : Hid (∀ W : World, W.heap[q]? = w3.heap[q]? → W.heap[wr.heap.size]? = w3.heap[wr.heap.size]? → S6t q 10 wr.heap.size (.map (some a.cb)) (.int .u64 (y.1 : Nat)) (.int .i64 y.2.1) (.int .u64 (y.2.2.1 : Nat)) (.int .i64 y.2.2.2) (.slice so sn sc) W) := fun W e1 e2 => by
        have hb : ∀ j, W.cell? ⟨wr.heap.size, j, none⟩ = (#[.int .u64 (y.1 : Nat), .int .i64 y.2.1, .int .u64 (y.2.2.1 : Nat), .int .i64 y.2.2.2, .slice so sn sc] : Array Value)[j]? := fun j => (cell_block e2).trans (cell_of_heap hB3 j)
        exact ⟨(cell_block e1).trans (h3.cell 10 (by omega)), hb 0, hb 1, hb 2, hb 3, hb 4⟩
      have s6 := HS6.out w3.drew rfl rfl
      have H3 : Hid (Tt w3.drew col Z q { T with con := mergeE T.con (x.1.es.take k), K := T.K + k } a ∧ Mg Z w3.drew (so, sn, sc) em ∧ OkL y ∧ Below wr.heap.size wr w3.drew ∧ q < w3.drew.heap.size ∧ wr.heap.size < w3.heap.size) := ⟨h3, hm3, hyok, u3.drew, hql3, hgl⟩
      have hne : Hid (wr.heap.size ≠ q ∧ wr.heap.size ≠ a.cb ∧ q ≠ a.cb) := ⟨hgq, hgc, hqc⟩
      clear hS hC hZ h3 hm3 hm hc he hrow hz hyok hw3 u3 hB3 hKl hgq hgc hqc hgl hql3
      rw [hao]
      clear hao
      go_wp2_with (first | (refine wpList_load_E rfl (.tmp 21) rfl b (off + k * 5) rfl y (.slice so sn sc) d0 d1 d2 d3 d4 ?_) | (refine wpList_store_row rfl 41 (.tmp 7) (.tmp 22) rfl wr.heap.size #[.int .u64 (y.1 : Nat), .int .i64 y.2.1, .int .u64 (y.2.2.1 : Nat), .int .i64 y.2.2.2, .slice so sn sc] rfl rfl 41 _ hB0 infoS41 rfl (by simp [Value.oneCell']) ?_))
      rw [HW3.out]
      clear d0 d1 d2 d3 d4 hB0 HW3
      refine wp_region_noPanic ?_
      refine wp_region_held_drew (S := S6t q 10 wr.heap.size (.map (some a.cb)) (.int .u64 (y.1 : Nat)) (.int .i64 y.2.1) (.int .u64 (y.2.2.1 : Nat)) (.int .i64 y.2.2.2) (.slice so sn sc)) (by kernel_rfl) (s6) (fun hHeld => ?_)
      unfold S6t at hHeld
      refine tq 0 ?_
      refine tq 1 ?_
      refine tq 2 ?_
      refine tq 3 ?_
      refine tq 4 ?_
      refine comes_up 5 rfl (by kernel_rfl) (fun K hK => ?_)
      go_simp
      refine hput.mono ?_
      rintro e w4 ⟨rfl, hS4, g4⟩
      clear hput
      have hq4 : w4.heap[q]? = w3.heap[q]? := g4.block q H3.out.2.2.2.2.1 (by simp; exact hne.out.2.2)
      have hb4 : w4.heap[wr.heap.size]? = w3.heap[wr.heap.size]? := g4.block wr.heap.size H3.out.2.2.2.2.2 (by simp; exact hne.out.2.1)
      go_wp2_with fail
      refine hK.out _ _ ((HS6.out w4 hq4 hb4)) (fun hHeld => ?_)
      clear hK K
      (try simp only [Act.put, List.setIfInBounds_toArray, List.set_cons_zero, List.set_cons_succ])
      refine wpAnyH_done (by kernel_rfl) ?_ _
      refine NoPanic.normal ?_
      have HN : Hid (Hr w col Z q T a x (k + 1) w4) := by
        have h4 := H3.out.1.putC (w' := w4) HC.out H3.out.2.2.1 H3.out.2.1 hS4 g4
        have hg4 : Gt w3.drew col w4 col := Gt.gr (col := col) g4 (fun k e => by cases e; rw [H3.out.1.d.ccb]; omega)
        have hBl := (Array.getElem?_eq_some_iff.1 HI.out.b).1
        have hBc : w.heap.size ≠ a.cb := fun e => by have := HT.out.1.d.lt a.cb (by rw [HT.out.1.d.ccb]; omega); omega
        refine ⟨by rw [HMT.out]; exact h4, (HI.out.gt.trans (Gt.bl col H3.out.2.2.2.1)).trans hg4, ?_⟩
        exact (g4.block _ (by have := H3.out.2.2.2.1.size; omega) (by simp; exact hBc)).trans ((H3.out.2.2.2.1.block _ hBl).trans HI.out.b)
      clear hHeld HS6 s6 H3 hne HC HMT hS4 g4 hq4 hb4 HI
      go_wp2
      go_roundw
      case rel => first | exact ⟨k + 1, by omega, by go_num, HN⟩ | ((repeat apply Exists.intro); exact ⟨⟨k + 1, by omega, by go_num, HN⟩, rfl⟩)
      case measure => simp [intOf]; omega
    · obtain rfl : k = x.1.es.length := by omega
      have hI := HI.out
      have ht := hI.t
      rw [List.take_length] at ht
      obtain ⟨xs, hxs, hxr, hxf⟩ := ht.d.tl
      simp only at hxs hxr hxf
      have hFx : Fx Z wr x := HT.out.2.1.kp hI.kp
      obtain ⟨wa, hwa⟩ : ∃ wa, wr.alloc (.cells #[.int .i64 x.1.node, .slice x.2.1.1 x.1.es.length x.2.1.2, .slice x.2.2.1 x.1.ls.length x.2.2.2, .int .i64 x.1.nx, .int .u64 (x.1.hn : Nat), .int .i64 x.1.hp] 120) = wa := ⟨_, rfl⟩
      have HWA : Hid (wr.alloc (.cells #[.int .i64 x.1.node, .slice x.2.1.1 x.1.es.length x.2.1.2, .slice x.2.2.1 x.1.ls.length x.2.2.2, .int .i64 x.1.nx, .int .u64 (x.1.hn : Nat), .int .i64 x.1.hp] 120) = wa) := hwa
      have uA : Below wr.heap.size wr wa.drew := by rw [← hwa]; exact (bl1 _ _).drew
      have hxrA : Rw wa.drew 120 6 a.tv T.told.length (f6 xs) := hxr.frame (fun k e => uA.block k (hxr.lt k e))
      have hcA : ∀ j u, (c6 x)[j]? = some u → wa.drew.cell? ((⟨wr.heap.size, 0, none⟩ : Addr).add j) = some u := fun j u hj => by
        rw [Addr.add_lit, Nat.zero_add, ← hwa]
        exact cell_box wr #[.int .i64 x.1.node, .slice x.2.1.1 x.1.es.length x.2.1.2, .slice x.2.2.1 x.1.ls.length x.2.2.2, .int .i64 x.1.nx, .int .u64 (x.1.hn : Nat), .int .i64 x.1.hp] 120 j u (by simpa [c6, c5] using hj)
      have htl := HT.out.2.2.2.2.2.1
      obtain ⟨v4, w4, hrun, hR4, g4, loc4⟩ := rw_append (w := wa.drew) und45 infoT rfl (by omega) (by omega) hxrA (by omega) ⟨wr.heap.size, 0, none⟩ 1 (c6 x) (by simp [c6, c5]) hcA (fun u hu => by simp [c6, c5] at hu; rcases hu with rfl | rfl | rfl | rfl | rfl | rfl <;> rfl) 100
      obtain ⟨col', hFin, hGf⟩ := ht.putT uA v4 hxs hxf hFx hR4 g4 loc4
      have hst := settle_any hFin HT.out.2.2.2.1 HT.out.2.2.2.2.1
      have hGG := hI.gt.trans hGf
      have hBl := (Array.getElem?_eq_some_iff.1 hI.b).1
      have hql := ht.d.lt q (by rw [ht.fq]; omega)
      have hq4 : w4.heap[q]? = wr.heap[q]? := (g4.block q (Nat.lt_of_lt_of_le hql uA.size) (fun e => by have := ht.d.ctv q e.symm; rw [ht.fq] at this; omega)).trans (uA.block q hql)
      have hne8 : ∀ k, a.tv.ownBlock = some k → k ≠ w.heap.size := fun k e e' => by
        have h8 := ht.d.ctv k e
        rcases hI.gt.foot k (by rw [h8]; omega) with h9 | h9
        · have := HT.out.1.d.lt k h9
          omega
        · have h10 := HT.out.1.d.lt k (by rw [h8]; omega)
          omega
      have hb4 : w4.heap[w.heap.size]? = wr.heap[w.heap.size]? := (g4.block _ (by have := uA.size; omega) (fun e => hne8 _ e.symm rfl)).trans (uA.block _ hBl)
      obtain ⟨bo, bcap, hbv, _, _⟩ := hxr.shape
      obtain ⟨vo, vcap, hv4, _, _⟩ := hR4.shape
      have HS9 : Hid (∀ W : World, W.heap[q]? = wr.heap[q]? → W.heap[w.heap.size]? = wr.heap[w.heap.size]? → S7h q w.heap.size (.slice bo T.told.length bcap) (.int .i64 x.1.node) (.slice x.2.1.1 x.1.es.length x.2.1.2) (.slice x.2.2.1 x.1.ls.length x.2.2.2) (.int .i64 x.1.nx) (.int .u64 (x.1.hn : Nat)) (.int .i64 x.1.hp) W) := fun W e1 e2 => by
        have hb : ∀ j, W.cell? ⟨w.heap.size, j, none⟩ = (#[.int .i64 x.1.node, .slice x.2.1.1 x.1.es.length x.2.1.2, .slice x.2.2.1 x.1.ls.length x.2.2.2, .int .i64 x.1.nx, .int .u64 (x.1.hn : Nat), .int .i64 x.1.hp] : Array Value)[j]? := fun j => (cell_block e2).trans (cell_of_heap hI.b j)
        exact ⟨(cell_block e1).trans ((ht.cell 17 (by omega)).trans (by show some a.tv = _; rw [hbv])), hb 0, hb 1, hb 2, hb 3, hb 4, hb 5⟩
      have hfz : w4.frozen? ⟨q, 17, none⟩ = false := (frozen_block hq4).trans (ht.fr 17)
      have hc4 : w4.cell? ⟨q, 17, none⟩ = some (.slice bo T.told.length bcap) := (HS9.out w4 hq4 hb4).1
      have sA := HS9.out wr.drew rfl rfl
      have sB := HS9.out wa.drew (uA.block q hql) (uA.block _ hBl)
      have sC := HS9.out w4 hq4 hb4
      have eT : ({ T with con := mergeE T.con x.1.es, K := T.K + x.1.es.length, told := T.told ++ [x.1] } : Tot) = T.heard x.1 := rfl
      rw [hbv] at hrun
      rw [hv4] at hrun hst hGG
      have HF : Hid (∀ w', LabPost (w4.setCell ⟨q, 17, none⟩ (.slice vo (T.told.length + 1) vcap)) col' Z q (T.heard x.1).settle w' → LabPost w col Z q (T.heard x.1).settle w') := fun w' hp => by
        obtain ⟨c2, a2, p1, p2⟩ := hp
        exact ⟨c2, a2, p1, hGG.trans p2⟩
      have HRUN : Hid ((Builtin.append_ #[100, 100] 100 #[.slice bo T.told.length bcap, .slice (some ⟨wr.heap.size, 0, none⟩) 1 1]).run Tryz.prog wa.drew = .ok (.slice vo (T.told.length + 1) vcap) w4) := hrun
      rw [← hwa] at sB HRUN
      clear hI ht hxs hxr hxf hFx hwa uA hxrA hcA htl hrun hR4 g4 loc4 hFin hGf hGG hBl hne8 hql hq4 hb4 hbv hv4 HS9 eT HI HT HWA
      go_wp2_with fail
      refine wp_region_noPanic ?_
      refine beginE (S7h q w.heap.size (.slice bo T.told.length bcap) (.int .i64 x.1.node) (.slice x.2.1.1 x.1.es.length x.2.1.2) (.slice x.2.2.1 x.1.ls.length x.2.2.2) (.int .i64 x.1.nx) (.int .u64 (x.1.hn : Nat)) (.int .i64 x.1.hp)) 10 (by kernel_rfl) (sA) (fun hHeld => ?_)
      unfold S7h at hHeld
      refine tqE 0 ?_
      refine tqE 1 ?_
      refine tqE 2 ?_
      refine tqE 3 ?_
      refine tqE 4 ?_
      refine tqE 5 ?_
      refine upE 6 rfl (by kernel_rfl) (fun K hK => ?_)
      go_simp
      refine hK.out _ _ (sB) (fun hHeld => ?_)
      clear hK K
      (try simp only [Act.put, List.setIfInBounds_toArray, List.set_cons_zero, List.set_cons_succ])
      refine upE 7 rfl (by kernel_rfl) (fun K hK => ?_)
      refine step_append_run rfl (.tmp 34) (.tmp 36) 100 rfl (.slice bo T.told.length bcap) (.slice (some ⟨wr.heap.size, 0, none⟩) 1 1) (.slice vo (T.told.length + 1) vcap) w4 rfl rfl HRUN.out ?_
      refine hK.out _ _ (sC) (fun hHeld => ?_)
      clear hK K
      (try simp only [Act.put, List.setIfInBounds_toArray, List.set_cons_zero, List.set_cons_succ])
      refine pureE 8 (v := ?_) rfl (by kernel_rfl) (by kernel_rfl) (by kernel_rfl) (by kernel_rfl) (fun _ _ _ h => h) (Or.inl ⟨by rfl, by intro wx hSw; (try dsimp only at hSw); go_simp; try with_reducible rfl⟩) (by assumption) ?_
      (try simp only [Act.put, List.setIfInBounds_toArray, List.set_cons_zero, List.set_cons_succ])
      refine pureE 9 (v := ?_) rfl (by kernel_rfl) (by kernel_rfl) (by kernel_rfl) (by kernel_rfl) (fun _ _ _ h => h) (Or.inl ⟨by rfl, by intro wx hSw; (try dsimp only at hSw); go_simp; try with_reducible rfl⟩) (by assumption) ?_
      (try simp only [Act.put, List.setIfInBounds_toArray, List.set_cons_zero, List.set_cons_succ])
      refine lastE 10 rfl (by kernel_rfl) (by kernel_rfl) (fun K hK => ?_)
      go_simp
      refine hK.out _ _ ?_
      clear hK K
      (try simp only [Act.put, List.setIfInBounds_toArray, List.set_cons_zero, List.set_cons_succ])
      refine doneE (by kernel_rfl) ?_ _
      refine NoPanic.normal ?_
      clear hHeld sA sB sC hfz hc4 HRUN
      go_wp2_with fail
      refine hst.mono ?_
      rintro e w5 ⟨rfl, hp⟩
      have HP := HF.out w5 hp
      have HPP : Hid _ := HP
      clear hst hp HP HF
      go_wp2
      go_ret
      exact ⟨rfl, HPP.out⟩
theorem hear_any {w : World} {col : Nat → Nat} {Z : Nat → Prop} {q : Nat} {T : Tot} {a : Ta} (h : Tt w col Z q T a) (x : El) (hx : Fx Z w x) (hok : ∀ e ∈ x.1.es, OkL e.1) (hn : Tn (T.heard x.1)) (hb : Tb (T.told ++ [x.1])) (htl : T.told.length ≤ 4999) : Calls Tryz.prog 58 #[.pointer (some ⟨q, 0, none⟩), tval x] w fun e w' =>
    if ∃ t ∈ T.told, t.node = x.1.node then e = .returned (.int .i64 8) ∧ LabPost w col Z q T w' else e = .returned (.int .i64 0) ∧ LabPost w col Z q (T.heard x.1).settle w' := by
  by_cases hc : ∃ t ∈ T.told, t.node = x.1.node
  · refine (hear_busy h x hc).mono ?_
    rintro e w' ⟨rfl, u⟩
    rw [if_pos hc]
    exact ⟨rfl, col, a, h.still u, Gt.bl col u⟩
  · refine (hear_new h x hx (fun t ht he => hc ⟨t, ht, he⟩) hok hn hb htl).mono ?_
    rintro e w' hp
    rw [if_neg hc]
    exact hp
end Go.Proofs.YtlaihgdfedalmaaGreat

/-
  Package total's Recv: a message of the view is received.
-/
namespace Go.Proofs.YtlaihgdfedalmaaGreat
open Go.RowKit Go.Sort Go.Conc
set_option linter.unusedVariables false
set_option linter.unusedSimpArgs false

/-- What a message holds: nothing that counts. -/
def RdErr (w : World) (E : Int) (e : Ending) (w' : World) : Prop := ∃ kd x m c o nx hn hp, e = .returned (.tuple #[.int .u8 kd, ent x (sv m), .agg #[sv c, sv o, .int .i64 nx, .int .u64 (hn : Int), .int .i64 hp], .int .i64 E]) ∧ Below w.heap.size w w'
/-- One message with its label, in new memory. -/
def RdOne (w : World) (x : Lb) (bs : List UInt8) (e : Ending) (w' : World) : Prop := ∃ (m c o : Sv) (nx hn hp : Int), e = .returned (.tuple #[.int .u8 1, ent x (sv m), .agg #[sv c, sv o, .int .i64 nx, .int .u64 hn, .int .i64 hp], .int .i64 0]) ∧ Below w.heap.size w w' ∧ Cd.Row w' m.1 m.2.1 m.2.2 bs ∧ ∀ ad, m.1 = some ad → 0 < m.2.1 → w.heap.size ≤ ad.block ∧ ad.block < w'.heap.size
/-- A summary, in new memory. -/
def RdAll (w : World) (t : Pt) (e : Ending) (w' : World) : Prop := ∃ (x : Lb) (m : Sv) (ca : Option Addr) (cc : Nat) (oa : Option Addr) (oc : Nat), e = .returned (.tuple #[.int .u8 2, ent x (sv m), .agg #[.slice ca t.es.length cc, .slice oa t.ls.length oc, .int .i64 t.nx, .int .u64 (t.hn : Nat), .int .i64 t.hp], .int .i64 0]) ∧ Below w.heap.size w w' ∧ Fx (fun k => w.heap.size ≤ k ∧ k < w'.heap.size) w' (t, (ca, cc), (oa, oc))
def Tot.gotOne (T : Tot) (x : Lb) (bs : List UInt8) : Tot := if T.prim then ({ T with con := mstep T.con (x, bs), K := T.K + 1 } : Tot).putO x else { T with con := mstep T.con (x, bs), K := T.K + 1 }
def Tot.gotAll (T : Tot) (t : Pt) : Tot × Int := if ∃ y ∈ T.told, y.node = t.node then (T, 8) else ((T.heard t).settle, 0)
set_option maxRecDepth 10000 in
set_option maxHeartbeats 1000000 in
theorem recv_err (w : World) (q : Value) (f : Int) (ao : Option Addr) (n cap : Nat) (E : Int) (hE : E ≠ 0) (hr : Calls Tryz.prog 57 #[q, .int .i64 f, .slice ao n cap] w (RdErr w E)) : Calls Tryz.prog 23 #[q, .int .i64 f, .slice ao n cap] w fun e w' => e = .returned (.int .i64 E) ∧ Below w.heap.size w w' := by
  have e1 : (E != 0) = true := by simp [hE]
  go_enter Tryz.func23, Tryz.ntmps23
  go_wp2_with fail
  refine hr.mono ?_
  rintro e w1 ⟨kd, x, ⟨m0, m1, m2⟩, ⟨c0, c1, c2⟩, ⟨o0, o1, o2⟩, nx, hn, hp, rfl, u⟩
  obtain ⟨a1, a2, u2⟩ := read_rows w1 _ (Below.refl _ _)
  obtain ⟨b2, f1, f2⟩ := read_fin _ _ a1 a2 #[.int .u64 (x.1 : Nat), .int .i64 x.2.1, .int .u64 (x.2.2.1 : Nat), .int .i64 x.2.2.2, .slice m0 m1 m2] #[.slice c0 c1 c2, .slice o0 o1 o2, .int .i64 nx, .int .u64 hn, .int .i64 hp]
  have uf := bl_rowL (bl_rowL (bl_step u u2) u.size #[.int .u64 (x.1 : Nat), .int .i64 x.2.1, .int .u64 (x.2.2.1 : Nat), .int .i64 x.2.2.2, .slice m0 m1 m2]) (Nat.le_trans u.size (Nat.le_succ _)) #[.slice c0 c1 c2, .slice o0 o1 o2, .int .i64 nx, .int .u64 hn, .int .i64 hp]
  clear hr f1 f2 a2 u2 u hE
  unfold ent sv
  go_wp2_with (first | (refine wpList_store_row rfl 41 (.tmp 8) (.tmp 17) rfl w1.heap.size #[.int .u64 (x.1 : Nat), .int .i64 x.2.1, .int .u64 (x.2.2.1 : Nat), .int .i64 x.2.2.2, .slice m0 m1 m2] rfl rfl 41 _ a1 infoS41 rfl (by simp [Value.oneCell']) ?_) | (refine wpList_store_row rfl 45 (.tmp 9) (.tmp 18) rfl (w1.heap.size + 1) #[.slice c0 c1 c2, .slice o0 o1 o2, .int .i64 nx, .int .u64 hn, .int .i64 hp] rfl rfl 45 _ b2 infoS38 rfl (by simp [Value.oneCell']) ?_))
  go_ret
  exact ⟨rfl, uf⟩
/-- Where the answer of read was laid. -/
structure Lay (w w4 : World) (g : Nat) (r1 r2 : Array Value) : Prop where
  u : Below w.heap.size w w4
  gl : w.heap.size ≤ g
  b1 : w4.heap[g]? = some (.cells r1 41 (0, 0))
  b2 : w4.heap[g + 1]? = some (.cells r2 45 (0, 0))
theorem lay_of {w w1 : World} (u : Below w.heap.size w w1) (r1 r2 : Array Value) : ((w1.alloc (.cells #[.int .u64 0, .int .i64 0, .int .u64 0, .int .i64 0, .slice none 0 0] 41)).alloc (.cells #[.slice none 0 0, .slice none 0 0, .int .i64 0, .int .u64 0, .int .i64 0] 45)).heap[w1.heap.size]? = some (.cells #[.int .u64 0, .int .i64 0, .int .u64 0, .int .i64 0, .slice none 0 0] 41 (0, 0)) ∧ (((w1.alloc (.cells #[.int .u64 0, .int .i64 0, .int .u64 0, .int .i64 0, .slice none 0 0] 41)).alloc (.cells #[.slice none 0 0, .slice none 0 0, .int .i64 0, .int .u64 0, .int .i64 0] 45)).setRow w1.heap.size r1).heap[w1.heap.size + 1]? = some (.cells #[.slice none 0 0, .slice none 0 0, .int .i64 0, .int .u64 0, .int .i64 0] 45 (0, 0)) ∧ Lay w ((((w1.alloc (.cells #[.int .u64 0, .int .i64 0, .int .u64 0, .int .i64 0, .slice none 0 0] 41)).alloc (.cells #[.slice none 0 0, .slice none 0 0, .int .i64 0, .int .u64 0, .int .i64 0] 45)).setRow w1.heap.size r1).setRow (w1.heap.size + 1) r2) w1.heap.size r1 r2 ∧ Below w1.heap.size w1 ((((w1.alloc (.cells #[.int .u64 0, .int .i64 0, .int .u64 0, .int .i64 0, .slice none 0 0] 41)).alloc (.cells #[.slice none 0 0, .slice none 0 0, .int .i64 0, .int .u64 0, .int .i64 0] 45)).setRow w1.heap.size r1).setRow (w1.heap.size + 1) r2) := by
  obtain ⟨a1, a2, u2⟩ := read_rows w1 _ (Below.refl _ _)
  obtain ⟨b2, f1, f2⟩ := read_fin _ _ a1 a2 r1 r2
  have uu := bl_rowL (bl_rowL u2 (Nat.le_refl _) r1) (Nat.le_succ _) r2
  refine ⟨a1, b2, ⟨bl_step u uu, u.size, ?_, setRow_heap _ _ _ r2 _ _ b2⟩, uu⟩
  rw [setRow_other _ _ _ _ (by omega)]
  exact setRow_heap _ _ _ r1 _ _ a1
def S5r (B : Nat) (b0 b1 b2 b3 : Value) (W : World) : Prop := W.cell? ⟨B, 0, none⟩ = some b0 ∧ W.cell? ⟨B, 1, none⟩ = some b1 ∧ W.cell? ⟨B, 2, none⟩ = some b2 ∧ W.cell? ⟨B, 3, none⟩ = some b3
set_option maxRecDepth 10000 in
set_option maxHeartbeats 4000000 in
theorem recv_one {w : World} {col : Nat → Nat} {Z : Nat → Prop} {q : Nat} {T : Tot} {a : Ta} (h : Tt w col Z q T a) (hn : Tn T) (hK : T.K + 2 < 1000000) (hol : T.ord.length ≤ 4999) (f : Int) (ao : Option Addr) (n cap : Nat) (x : Lb) (hx : OkL x) (bs : List UInt8) (hr : Calls Tryz.prog 57 #[.pointer (some ⟨q, 0, none⟩), .int .i64 f, .slice ao n cap] w (RdOne w x bs)) :
    Calls Tryz.prog 23 #[.pointer (some ⟨q, 0, none⟩), .int .i64 f, .slice ao n cap] w fun e w' => e = .returned (.int .i64 0) ∧ Stp w col Z q (T.gotOne x bs) w' := by
  have HT : Hid (Tt w col Z q T a ∧ Tn T ∧ T.K + 2 < 1000000 ∧ T.ord.length ≤ 4999 ∧ OkL x) := ⟨h, hn, hK, hol, hx⟩
  clear h hn hK hol hx
  go_enter Tryz.func23, Tryz.ntmps23
  go_wp2_with fail
  refine hr.mono ?_
  rintro e w1 ⟨⟨m0, m1, m2⟩, ⟨c0, c1, c2⟩, ⟨o0, o1, o2⟩, nx, hn, hp, rfl, u, hrow, hloc⟩
  obtain ⟨a1, b2, hL, u14⟩ := lay_of u #[.int .u64 (x.1 : Nat), .int .i64 x.2.1, .int .u64 (x.2.2.1 : Nat), .int .i64 x.2.2.2, .slice m0 m1 m2] #[.slice c0 c1 c2, .slice o0 o1 o2, .int .i64 nx, .int .u64 hn, .int .i64 hp]
  obtain ⟨w4, hw4⟩ : ∃ w4, ((((w1.alloc (.cells #[.int .u64 0, .int .i64 0, .int .u64 0, .int .i64 0, .slice none 0 0] 41)).alloc (.cells #[.slice none 0 0, .slice none 0 0, .int .i64 0, .int .u64 0, .int .i64 0] 45)).setRow w1.heap.size #[.int .u64 (x.1 : Nat), .int .i64 x.2.1, .int .u64 (x.2.2.1 : Nat), .int .i64 x.2.2.2, .slice m0 m1 m2]).setRow (w1.heap.size + 1) #[.slice c0 c1 c2, .slice o0 o1 o2, .int .i64 nx, .int .u64 hn, .int .i64 hp]) = w4 := ⟨_, rfl⟩
  have HW4 : Hid (((((w1.alloc (.cells #[.int .u64 0, .int .i64 0, .int .u64 0, .int .i64 0, .slice none 0 0] 41)).alloc (.cells #[.slice none 0 0, .slice none 0 0, .int .i64 0, .int .u64 0, .int .i64 0] 45)).setRow w1.heap.size #[.int .u64 (x.1 : Nat), .int .i64 x.2.1, .int .u64 (x.2.2.1 : Nat), .int .i64 x.2.2.2, .slice m0 m1 m2]).setRow (w1.heap.size + 1) #[.slice c0 c1 c2, .slice o0 o1 o2, .int .i64 nx, .int .u64 hn, .int .i64 hp]) = w4) := hw4
  rw [hw4] at hL u14
  obtain ⟨Z2, hZ2⟩ : ∃ Z2 : Nat → Prop, (fun k => Z k ∨ (w.heap.size ≤ k ∧ k < w1.heap.size)) = Z2 := ⟨_, rfl⟩
  have h1 : Tt w1 col Z2 q T a := by rw [← hZ2]; exact HT.out.1.more u
  have HZ : Hid ((∀ b, Z b → Z2 b) ∧ ∀ b, Z2 b → Z b ∨ w.heap.size ≤ b) := by rw [← hZ2]; exact ⟨fun _ e => .inl e, fun _ e => e.imp id (fun e => e.1)⟩
  have hm1 : Mg Z2 w1 (m0, m1, m2) bs := ⟨hrow, fun ad e hn => by rw [← hZ2]; exact .inr (hloc ad e hn)⟩
  have h4 := (h1.still u14).still (Below.refl _ w4).drew
  have hm4 : Mg Z2 w4.drew (m0, m1, m2) bs := hm1.kp (Kp.bl u14.drew) (fun _ e => e)
  have hgl : w1.heap.size < w4.heap.size := (Array.getElem?_eq_some_iff.1 hL.b1).1
  have hBr := hL.b1
  have G4 : Gt w col w4.drew col := Gt.bl col hL.u.drew
  obtain ⟨m, hS, hC, hZm⟩ := h4.d.con
  have hput := put_any w4.drew a.cb T.K m hS (by have := HT.out.2.2.1; unfold maxLen; omega) x HT.out.2.2.2.2 (m0, m1, m2)
  unfold ent sv at hput
  simp only at hput
  have hgq : w1.heap.size ≠ q := fun e => by have := h1.d.lt q (by rw [h1.fq]; omega); omega
  have hgc : w1.heap.size ≠ a.cb := fun e => by have := h1.d.lt a.cb (by rw [h1.d.ccb]; omega); omega
  have hqc : q ≠ a.cb := fun e => by have h1 := h4.fq; have h2 := h4.d.ccb; rw [← e] at h2; omega
  have hql4 : q < w4.drew.heap.size := h4.d.lt q (by rw [h4.fq]; omega)
  have HS6 : Hid (∀ W : World, W.heap[q]? = w4.heap[q]? → W.heap[w1.heap.size]? = w4.heap[w1.heap.size]? → S6t q 10 w1.heap.size (.map (some a.cb)) (.int .u64 (x.1 : Nat)) (.int .i64 x.2.1) (.int .u64 (x.2.2.1 : Nat)) (.int .i64 x.2.2.2) (.slice m0 m1 m2) W) := fun W e1 e2 => by
    have hb : ∀ j, W.cell? ⟨w1.heap.size, j, none⟩ = (#[.int .u64 (x.1 : Nat), .int .i64 x.2.1, .int .u64 (x.2.2.1 : Nat), .int .i64 x.2.2.2, .slice m0 m1 m2] : Array Value)[j]? := fun j => (cell_block e2).trans (cell_of_heap hBr j)
    exact ⟨(cell_block e1).trans (h4.cell 10 (by omega)), hb 0, hb 1, hb 2, hb 3, hb 4⟩
  have s6 := HS6.out w4.drew rfl rfl
  have H4 : Hid (Tt w4.drew col Z2 q T a ∧ Mg Z2 w4.drew (m0, m1, m2) bs ∧ Gt w col w4.drew col ∧ q < w4.drew.heap.size ∧ w1.heap.size < w4.heap.size ∧ (Con w4.drew m T.con ∧ ∀ x s, OkL x → m x = some s → ∀ ad, s.1 = some ad → 0 < s.2.1 → Z2 ad.block)) := ⟨h4, hm4, G4, hql4, hgl, hC, hZm⟩
  have hne : Hid (w1.heap.size ≠ q ∧ w1.heap.size ≠ a.cb ∧ q ≠ a.cb) := ⟨hgq, hgc, hqc⟩
  have HU1 : Hid (w.heap.size ≤ w1.heap.size) := u.size
  clear hr hrow hloc u hL u14 hw4 hZ2 h1 hm1 h4 hm4 hgl hBr G4 hS hC hZm hgq hgc hqc hql4
  unfold ent sv
  go_wp2_with (first | (refine wpList_store_row rfl 41 (.tmp 8) (.tmp 17) rfl w1.heap.size #[.int .u64 (x.1 : Nat), .int .i64 x.2.1, .int .u64 (x.2.2.1 : Nat), .int .i64 x.2.2.2, .slice m0 m1 m2] rfl rfl 41 _ a1 infoS41 rfl (by simp [Value.oneCell']) ?_) | (refine wpList_store_row rfl 45 (.tmp 9) (.tmp 18) rfl (w1.heap.size + 1) #[.slice c0 c1 c2, .slice o0 o1 o2, .int .i64 nx, .int .u64 hn, .int .i64 hp] rfl rfl 45 _ b2 infoS38 rfl (by simp [Value.oneCell']) ?_; rw [HW4.out]))
  clear a1 b2 HW4
  refine wp_region_noPanic ?_
  refine wp_region_held_drew (S := S6t q 10 w1.heap.size (.map (some a.cb)) (.int .u64 (x.1 : Nat)) (.int .i64 x.2.1) (.int .u64 (x.2.2.1 : Nat)) (.int .i64 x.2.2.2) (.slice m0 m1 m2)) (by kernel_rfl) (s6) (fun hHeld => ?_)
  unfold S6t at hHeld
  refine tq 0 ?_
  refine tq 1 ?_
  refine tq 2 ?_
  refine tq 3 ?_
  refine tq 4 ?_
  refine comes_up 5 rfl (by kernel_rfl) (fun K hK => ?_)
  go_simp
  refine hput.mono ?_
  rintro e w5 ⟨rfl, hS5, g5⟩
  clear hput
  have hq5 : w5.heap[q]? = w4.heap[q]? := g5.block q H4.out.2.2.2.1 (by simp; exact hne.out.2.2)
  have hb5 : w5.heap[w1.heap.size]? = w4.heap[w1.heap.size]? := g5.block w1.heap.size H4.out.2.2.2.2.1 (by simp; exact hne.out.2.1)
  go_wp2_with fail
  refine hK.out _ _ ((HS6.out w5 hq5 hb5)) (fun hHeld => ?_)
  clear hK K
  (try simp only [Act.put, List.setIfInBounds_toArray, List.set_cons_zero, List.set_cons_succ])
  refine wpAnyH_done (by kernel_rfl) ?_ _
  refine NoPanic.normal ?_
  have s55 := HS6.out w5 hq5 hb5
  have h5 : Tt w5 col Z2 q { T with con := mstep T.con (x, bs), K := T.K + 1 } a := H4.out.1.putC (w' := w5) H4.out.2.2.2.2.2 HT.out.2.2.2.2 H4.out.2.1 hS5 g5
  have G5 : Gt w col w5 col := H4.out.2.2.1.trans (Gt.gr (col := col) g5 (fun k e => by cases e; rw [H4.out.1.d.ccb]; omega))
  have hgl5 : w1.heap.size < w5.heap.size := by have := g5.size; have := H4.out.2.2.2.2.1; have : w4.drew.heap.size = w4.heap.size := rfl; omega
  have hpr := prim_any h5 ⟨HT.out.2.1.n, HT.out.2.1.self, HT.out.2.1.vn, HT.out.2.1.vp, HT.out.2.1.vs, HT.out.2.1.st, by have := HT.out.2.2.1; show T.K + 1 ≤ 1000000; omega⟩
  have hpe : ({ T with con := mstep T.con (x, bs), K := T.K + 1 } : Tot).prim = T.prim := rfl
  rw [hpe] at hpr
  obtain ⟨b, hb⟩ : ∃ b, T.prim = b := ⟨_, rfl⟩
  rw [hb] at hpr
  have HB : Hid (T.prim = b) := hb
  have H5 : Hid (Tt w5 col Z2 q { T with con := mstep T.con (x, bs), K := T.K + 1 } a ∧ Gt w col w5 col ∧ w1.heap.size < w5.heap.size ∧ S6t q 10 w1.heap.size (.map (some a.cb)) (.int .u64 (x.1 : Nat)) (.int .i64 x.2.1) (.int .u64 (x.2.2.1 : Nat)) (.int .i64 x.2.2.2) (.slice m0 m1 m2) w5) := ⟨h5, G5, hgl5, s55⟩
  clear hHeld HS6 s6 H4 hS5 g5 hq5 hb5 h5 G5 hgl5 hpe hb s55
  go_wp2_with fail
  refine hpr.mono ?_
  rintro e w6 ⟨rfl, k6, hk6⟩
  have u6 : Below w5.heap.size w5 w6 := by rw [hk6]; exact ⟨rfl, rfl, rfl, Nat.le_refl _, fun _ _ => rfl⟩
  clear hpr hk6
  cases b with
  | false =>
    have HF : Hid (Stp w col Z q (T.gotOne x bs) w6) := by
      have e : T.gotOne x bs = { T with con := mstep T.con (x, bs), K := T.K + 1 } := by unfold Tot.gotOne; rw [HB.out]; rfl
      rw [e]
      exact ⟨col, Z2, a, H5.out.1.still u6, H5.out.2.1.trans (Gt.bl col u6), HZ.out.1, HZ.out.2⟩
    clear H5 HB HZ HT u6 hne HU1
    go_wp2
    go_ret
    exact ⟨rfl, HF.out⟩
  | true =>
    have h6 := H5.out.1.still (show Below w5.heap.size w5 w6.drew from u6.drew)
    have hpl := putL_any w6.drew col Z2 q _ a h6 x HT.out.2.2.2.2 (by have := HT.out.2.2.1; show T.K + 1 < 1000000; omega) HT.out.2.2.2.1
    have s6 : S5r w1.heap.size (.int .u64 (x.1 : Nat)) (.int .i64 x.2.1) (.int .u64 (x.2.2.1 : Nat)) (.int .i64 x.2.2.2) w6.drew := by
      obtain ⟨_, p0, p1, p2, p3, _⟩ := H5.out.2.2.2
      have uu : Below w5.heap.size w5 w6.drew := u6.drew
      exact ⟨bl_cell uu p0, bl_cell uu p1, bl_cell uu p2, bl_cell uu p3⟩
    have H6 : Hid (Gt w col w6.drew col ∧ w1.heap.size < w6.heap.size ∧ Tt w6.drew col Z2 q { T with con := mstep T.con (x, bs), K := T.K + 1 } a) := ⟨H5.out.2.1.trans (Gt.bl col u6.drew), by have := u6.size; have := H5.out.2.2.1; omega, h6⟩
    unfold lab at hpl
    clear h6 H5 u6
    go_wp2_with fail
    refine wp_region_noPanic ?_
    refine wp_region_held_drew (S := S5r w1.heap.size (.int .u64 (x.1 : Nat)) (.int .i64 x.2.1) (.int .u64 (x.2.2.1 : Nat)) (.int .i64 x.2.2.2)) (by kernel_rfl) (s6) (fun hHeld => ?_)
    unfold S5r at hHeld
    refine tq 0 ?_
    refine tq 1 ?_
    refine tq 2 ?_
    refine tq 3 ?_
    refine tq 4 ?_
    refine comes_up 5 rfl (by kernel_rfl) (fun K hK => ?_)
    go_simp
    refine hpl.mono ?_
    rintro e w7 ⟨rfl, c7, a7, h7, g7⟩
    have hb7 : w7.heap[w1.heap.size]? = w6.drew.heap[w1.heap.size]? := g7.turned.block _ H6.out.2.1 (fun hc => by have := HT.out.1.d.lt _ hc; have := HU1.out; omega)
    have s7 : S5r w1.heap.size (.int .u64 (x.1 : Nat)) (.int .i64 x.2.1) (.int .u64 (x.2.2.1 : Nat)) (.int .i64 x.2.2.2) w7 := ⟨(cell_block hb7).trans s6.1, (cell_block hb7).trans s6.2.1, (cell_block hb7).trans s6.2.2.1, (cell_block hb7).trans s6.2.2.2⟩
    clear hpl hb7
    go_wp2_with fail
    refine hK.out _ _ (s7) (fun hHeld => ?_)
    clear hK K
    (try simp only [Act.put, List.setIfInBounds_toArray, List.set_cons_zero, List.set_cons_succ])
    refine wpAnyH_done (by kernel_rfl) ?_ _
    refine NoPanic.normal ?_
    have HF : Hid (Stp w col Z q (T.gotOne x bs) w7) := by
      have e : T.gotOne x bs = ({ T with con := mstep T.con (x, bs), K := T.K + 1 } : Tot).putO x := by unfold Tot.gotOne; rw [HB.out]; rfl
      rw [e]
      exact ⟨c7, Z2, a7, h7, H6.out.1.trans g7, HZ.out.1, HZ.out.2⟩
    clear hHeld s6 s7 H6 HB HZ HT h7 g7 hne HU1
    go_wp2
    go_ret
    exact ⟨rfl, HF.out⟩
set_option maxRecDepth 10000 in
set_option maxHeartbeats 4000000 in
theorem recv_all {w : World} {col : Nat → Nat} {Z : Nat → Prop} {q : Nat} {T : Tot} {a : Ta} (h : Tt w col Z q T a) (t : Pt) (hok : ∀ e ∈ t.es, OkL e.1) (hn : Tn (T.heard t)) (hb : Tb (T.told ++ [t])) (htl : T.told.length ≤ 4999) (ao : Option Addr) (n cap : Nat) (hr : Calls Tryz.prog 57 #[.pointer (some ⟨q, 0, none⟩), .int .i64 t.node, .slice ao n cap] w (RdAll w t)) :
    Calls Tryz.prog 23 #[.pointer (some ⟨q, 0, none⟩), .int .i64 t.node, .slice ao n cap] w fun e w' => e = .returned (.int .i64 (T.gotAll t).2) ∧ Stp w col Z q (T.gotAll t).1 w' := by
  have HT : Hid (Tt w col Z q T a ∧ (∀ e ∈ t.es, OkL e.1) ∧ Tn (T.heard t) ∧ Tb (T.told ++ [t]) ∧ T.told.length ≤ 4999) := ⟨h, hok, hn, hb, htl⟩
  clear h hok hn hb htl
  go_enter Tryz.func23, Tryz.ntmps23
  go_wp2_with fail
  refine hr.mono ?_
  rintro e w1 ⟨x, ⟨m0, m1, m2⟩, ca, cc, oa, oc, rfl, u, hfx⟩
  obtain ⟨a1, b2, hL, u14⟩ := lay_of u #[.int .u64 (x.1 : Nat), .int .i64 x.2.1, .int .u64 (x.2.2.1 : Nat), .int .i64 x.2.2.2, .slice m0 m1 m2] #[.slice ca t.es.length cc, .slice oa t.ls.length oc, .int .i64 t.nx, .int .u64 (t.hn : Nat), .int .i64 t.hp]
  obtain ⟨w4, hw4⟩ : ∃ w4, ((((w1.alloc (.cells #[.int .u64 0, .int .i64 0, .int .u64 0, .int .i64 0, .slice none 0 0] 41)).alloc (.cells #[.slice none 0 0, .slice none 0 0, .int .i64 0, .int .u64 0, .int .i64 0] 45)).setRow w1.heap.size #[.int .u64 (x.1 : Nat), .int .i64 x.2.1, .int .u64 (x.2.2.1 : Nat), .int .i64 x.2.2.2, .slice m0 m1 m2]).setRow (w1.heap.size + 1) #[.slice ca t.es.length cc, .slice oa t.ls.length oc, .int .i64 t.nx, .int .u64 (t.hn : Nat), .int .i64 t.hp]) = w4 := ⟨_, rfl⟩
  have HW4 : Hid (((((w1.alloc (.cells #[.int .u64 0, .int .i64 0, .int .u64 0, .int .i64 0, .slice none 0 0] 41)).alloc (.cells #[.slice none 0 0, .slice none 0 0, .int .i64 0, .int .u64 0, .int .i64 0] 45)).setRow w1.heap.size #[.int .u64 (x.1 : Nat), .int .i64 x.2.1, .int .u64 (x.2.2.1 : Nat), .int .i64 x.2.2.2, .slice m0 m1 m2]).setRow (w1.heap.size + 1) #[.slice ca t.es.length cc, .slice oa t.ls.length oc, .int .i64 t.nx, .int .u64 (t.hn : Nat), .int .i64 t.hp]) = w4) := hw4
  rw [hw4] at hL u14
  obtain ⟨Z2, hZ2⟩ : ∃ Z2 : Nat → Prop, (fun k => Z k ∨ (w.heap.size ≤ k ∧ k < w1.heap.size)) = Z2 := ⟨_, rfl⟩
  have h1 : Tt w1 col Z2 q T a := by rw [← hZ2]; exact HT.out.1.more u
  have HZ : Hid ((∀ b, Z b → Z2 b) ∧ ∀ b, Z2 b → Z b ∨ w.heap.size ≤ b) := by rw [← hZ2]; exact ⟨fun _ e => .inl e, fun _ e => e.imp id (fun e => e.1)⟩
  have hf4 : Fx Z2 w4 (t, (ca, cc), (oa, oc)) := (hfx.kp (Kp.bl u14)).mono (fun k e => by rw [← hZ2]; exact .inr e)
  have hhe := hear_any (h1.still u14) (t, (ca, cc), (oa, oc)) hf4 HT.out.2.1 HT.out.2.2.1 HT.out.2.2.2.1 HT.out.2.2.2.2
  unfold tval at hhe
  simp only at hhe
  have k0 := cell_of_heap hL.b2 0
  have k1 := cell_of_heap hL.b2 1
  have k2 := cell_of_heap hL.b2 2
  have k3 := cell_of_heap hL.b2 3
  have k4 := cell_of_heap hL.b2 4
  simp only [List.getElem?_toArray, List.getElem?_cons_zero, List.getElem?_cons_succ] at k0 k1 k2 k3 k4
  have G4 : Hid (Gt w col w4 col) := Gt.bl col hL.u
  have HU1 : Hid (w.heap.size ≤ w4.heap.size) := hL.u.size
  clear hr hfx u hL u14 hw4 hZ2 h1 hf4
  unfold ent sv
  go_wp2_with (first | (refine wpList_store_row rfl 41 (.tmp 8) (.tmp 17) rfl w1.heap.size #[.int .u64 (x.1 : Nat), .int .i64 x.2.1, .int .u64 (x.2.2.1 : Nat), .int .i64 x.2.2.2, .slice m0 m1 m2] rfl rfl 41 _ a1 infoS41 rfl (by simp [Value.oneCell']) ?_) | (refine wpList_store_row rfl 45 (.tmp 9) (.tmp 18) rfl (w1.heap.size + 1) #[.slice ca t.es.length cc, .slice oa t.ls.length oc, .int .i64 t.nx, .int .u64 (t.hn : Nat), .int .i64 t.hp] rfl rfl 45 _ b2 infoS38 rfl (by simp [Value.oneCell']) ?_; rw [HW4.out]) | (refine wpList_load_S rfl (.tmp 9) rfl (w1.heap.size + 1) 0 rfl _ _ _ _ _ k0 k1 k2 k3 k4 ?_))
  clear a1 b2 HW4 k0 k1 k2 k3 k4
  refine hhe.mono ?_
  intro e w5 hp
  have HF : Hid (∃ r : Int, e = .returned (.int .i64 r) ∧ r = (T.gotAll t).2 ∧ Stp w col Z q (T.gotAll t).1 w5) := by
    unfold Tot.gotAll
    by_cases hc : ∃ y ∈ T.told, y.node = t.node
    · rw [if_pos hc] at hp ⊢
      obtain ⟨rfl, c, ar, p1, p2⟩ := hp
      exact ⟨8, rfl, rfl, c, Z2, ar, p1, G4.out.trans p2, HZ.out.1, HZ.out.2⟩
    · rw [if_neg hc] at hp ⊢
      obtain ⟨rfl, c, ar, p1, p2⟩ := hp
      exact ⟨0, rfl, rfl, c, Z2, ar, p1, G4.out.trans p2, HZ.out.1, HZ.out.2⟩
  obtain ⟨r, rfl, hre, hst⟩ := HF.out
  have HFF : Hid (r = (T.gotAll t).2 ∧ Stp w col Z q (T.gotAll t).1 w5) := ⟨hre, hst⟩
  clear hhe hp HF hre hst G4 HZ HU1 HT
  go_wp2
  go_ret
  exact ⟨by rw [HFF.out.1]; rfl, HFF.out.2⟩
end Go.Proofs.YtlaihgdfedalmaaGreat

/-
  Right: is it a summary?
-/
namespace Go.Proofs.YtlaihgdfedalmaaGreat
open Go.RowKit
set_option linter.unusedVariables false
set_option linter.unusedSimpArgs false

set_option maxRecDepth 10000 in
theorem clo57_any (w : World) (x : Lb) : Calls Tryz.prog 148 #[lab x] w fun e w' => e = .returned (.bool (!formL x)) ∧ Up w w' := by
  have c1 := fun W => formL_any W x
  have up0 : Up w (w.alloc (.cells #[.int .u64 (x.1 : Nat), .int .i64 x.2.1, .int .u64 (x.2.2.1 : Nat), .int .i64 x.2.2.2] 39)) := (Up.refl _).alloc _
  obtain ⟨d0, d1, d2, d3⟩ := bx_new w x.1 x.2.1 x.2.2.1 x.2.2.2 39
  generalize formL x = f at *
  obtain ⟨a, b, c, d⟩ := x
  unfold lab at *
  simp only at *
  go_enter Tryz.func148, Tryz.ntmps148
  go_wp2_with fail
  refine (c1 _).mono ?_
  rintro e w1 ⟨rfl, hu⟩
  have up1 := up0.trans hu
  clear c1 up0 hu d0 d1 d2 d3
  go_wp2
  go_ret
  exact ⟨rfl, up1⟩
set_option maxRecDepth 10000 in
set_option maxHeartbeats 1000000 in
theorem index57_any (w : World) (ao : Option Addr) (n cap : Nat) (ls : List Lb) (h : LR w ao n ls) :
    Calls Tryz.prog 172 #[.slice ao n cap, .func (.func 148) #[] #[]] w fun e w' => ∃ i : Int, e = .returned (.int .i64 i) ∧ (decide (0 ≤ i) = !ls.all formL) ∧ Up w w' := by
  have hl := h.1
  have hmax := h.2.1
  have hcl := fun W x => clo57_any W x
  go_enter Tryz.func172, Tryz.ntmps172
  go_wp2_with fail
  go_loopw [8] (fun iv wr => ∃ k : Nat, k ≤ n ∧ iv = .int .i64 k ∧ (ls.take k).all formL = true ∧ LR wr ao n ls ∧ Up w wr) (fun iv _ => n - (intOf iv).toNat)
  case atStart => exact ⟨0, by omega, rfl, by simp, h, Up.refl _⟩
  case round =>
    obtain ⟨k, hk, rfl, hno, hr, hu⟩ := hrel
    have HNO : Hid ((ls.take k).all formL = true) := hno
    clear hno h
    by_cases hlt : k < n
    · have hltI : (k : Int) < (n : Int) := by omega
      obtain ⟨x, hx⟩ : ∃ y, ls[k]? = some y := ⟨ls[k]'(by omega), List.getElem?_eq_getElem (by omega)⟩
      have HX : Hid (ls[k]? = some x) := hx
      obtain ⟨b, off, hao, hc⟩ := hr.2.2 (by omega)
      obtain ⟨c0, c1, c2, c3⟩ := hc k x hx
      have HR := hr
      subst hao
      have hk0 : ¬ ((k : Int) < 0) := by omega
      have hc1 := hcl wr x
      have HF : Hid (∀ f, f = formL x → if f = true then (ls.take (k + 1)).all formL = true else ls.all formL = false) := by
        show ∀ f, f = formL x → _
        intro f hf
        cases f with
        | true =>
          simp only [if_true]
          rw [List.take_add_one, HX.out, List.all_append, HNO.out]
          simp [← hf]
        | false =>
          simp
          exact ⟨x.1, x.2.1, x.2.2.1, x.2.2.2, List.mem_of_getElem? HX.out, hf.symm⟩
      unfold lab at hc1
      obtain ⟨f, hf⟩ : ∃ f, formL x = f := ⟨_, rfl⟩
      rw [hf] at hc1
      have hff := HF.out f hf.symm
      clear hc hx hr hcl HF hf
      cases f with
      | true =>
        simp only [if_true] at hff
        have HFF : Hid ((ls.take (k + 1)).all formL = true) := hff
        clear hff HNO
        go_wp2_with fail
        refine hc1.mono ?_
        rintro e w1 ⟨rfl, hu1⟩
        have hu2 := hu.trans hu1
        have HR2 := HR.up hu1.bl
        clear hc1 HR c0 c1 c2 c3 hu hu1
        go_wp2
        go_roundw
        case rel => first | exact ⟨k + 1, by omega, by go_num, HFF.out, HR2, hu2⟩ | ((repeat apply Exists.intro); exact ⟨⟨k + 1, by omega, by go_num, HFF.out, HR2, hu2⟩, rfl⟩)
        case measure => simp [intOf]; omega
      | false =>
        have HFF : Hid (ls.all formL = false) := (by simpa using hff : ls.all formL = false)
        clear hff HNO
        go_wp2_with fail
        refine hc1.mono ?_
        rintro e w1 ⟨rfl, hu1⟩
        have hu2 := hu.trans hu1
        clear hc1 HR c0 c1 c2 c3 hu hu1
        go_wp2
        go_ret
        exact ⟨k, rfl, by rw [HFF.out]; simp, hu2⟩
    · obtain rfl : k = n := by omega
      have HFF : Hid (ls.all formL = true) := by
        have e := HNO.out
        rwa [List.take_of_length_le (by omega)] at e
      clear HNO hr hcl
      go_wp2
      go_ret
      exact ⟨-1, rfl, by rw [HFF.out]; simp, hu⟩
set_option maxRecDepth 10000 in
theorem contains57_any (w : World) (ao : Option Addr) (n cap : Nat) (ls : List Lb) (h : LR w ao n ls) :
    Calls Tryz.prog 149 #[.slice ao n cap, .func (.func 148) #[] #[]] w fun e w' => e = .returned (.bool (!ls.all formL)) ∧ Up w w' := by
  have hi := index57_any w ao n cap ls h
  generalize ls.all formL = f at *
  clear h
  go_enter Tryz.func149, Tryz.ntmps149
  go_wp2_with fail
  refine hi.mono ?_
  rintro e w1 ⟨i, rfl, hd, hu⟩
  clear hi
  cases f with
  | true =>
    have hd' : ¬ (0 ≤ i) := by simpa using hd
    clear hd
    go_wp2
    go_ret
    exact ⟨ret_bool (by simp [*] <;> omega), hu⟩
  | false =>
    have hd' : 0 ≤ i := by simpa using hd
    clear hd
    go_wp2
    go_ret
    exact ⟨ret_bool (by simp [*] <;> omega), hu⟩
set_option maxRecDepth 10000 in
theorem rightOrder_any (w : World) (ao : Option Addr) (n cap : Nat) (ls : List Lb) (h : LR w ao n ls) (hn : n ≤ 5000) (hz : ao = none → n = 0) :
    Calls Tryz.prog 117 #[.slice ao n cap] w fun e w' => e = .returned (.bool (ls.all formL && decide ls.Nodup)) ∧ Below w.heap.size w w' := by
  have hc := contains57_any w ao n cap ls h
  have ht := fun W (u : Up w W) => twice_any W ao n cap ls (h.up u.bl) hn hz
  obtain ⟨f, hf⟩ : ∃ f, ls.all formL = f := ⟨_, rfl⟩
  rw [hf] at hc ⊢
  cases f with
  | false =>
    simp only [Bool.false_and]
    clear ht hf h
    go_enter Tryz.func117, Tryz.ntmps117
    go_wp2_with fail
    refine hc.mono ?_
    rintro e w1 ⟨rfl, hu⟩
    have hb := hu.bl
    clear hc hu
    go_wp2
    go_ret
    exact ⟨rfl, hb⟩
  | true =>
    simp only [Bool.true_and]
    obtain ⟨d, hd⟩ : ∃ d, decide (¬ ls.Nodup) = d := ⟨_, rfl⟩
    have hd2 : decide ls.Nodup = !d := by rw [← hd]; simp
    rw [hd] at ht
    rw [hd2]
    clear hf h hd hd2
    go_enter Tryz.func117, Tryz.ntmps117
    go_wp2_with fail
    refine hc.mono ?_
    rintro e w1 ⟨rfl, hu⟩
    have ht1 := ht w1 hu
    have hb := hu.bl
    clear hc hu ht
    go_wp2_with fail
    refine ht1.mono ?_
    rintro e w2 ⟨rfl, hb2⟩
    have hbb := bl_step hb hb2
    clear ht1 hb hb2
    go_wp2
    go_ret
    exact ⟨rfl, hbb⟩
end Go.Proofs.YtlaihgdfedalmaaGreat

/-
  Right: is it a summary?
-/
namespace Go.Proofs.YtlaihgdfedalmaaGreat
open Go.RowKit
set_option linter.unusedVariables false
set_option linter.unusedSimpArgs false

def den : Lb × List UInt8 := ((0, 0, 0, 0), [])
/-- Is the k-th entry right, and above the one ahead of it? -/
def gooE (es : List (Lb × List UInt8)) (k : Nat) : Bool := (decide (k = 0) || decide (0 < cmpL (es.getD k den).1 (es.getD (k - 1) den).1)) && formE (es.getD k den).1 (es.getD k den).2.length
def ascE (es : List (Lb × List UInt8)) : Bool := (List.range es.length).all (gooE es)
/-- Is a summary right? -/
def rightS (es : List (Lb × List UInt8)) (ls : List Lb) (nx : Int) (hn : Nat) (hp : Int) : Bool := ascE es && (ls.all formL && decide ls.Nodup) && decide (1 ≤ nx) && decide (nx ≤ (ls.length : Int) + 1) && formV hn hp
theorem good_asc {es : List (Lb × List UInt8)} {xs : List (Lb × Sl)} (hl : xs.length = es.length) (h : ∀ (j : Nat) (e : Lb × List UInt8) (x : Lb × Sl), es[j]? = some e → xs[j]? = some x → x.1 = e.1 ∧ e.2.length = x.2.2.1) : goodAll xs = ascE es := by
  unfold goodAll ascE
  rw [hl, Bool.eq_iff_iff, List.all_eq_true, List.all_eq_true]
  have key : ∀ k, k < es.length → (xs.getD k dsl).1 = (es.getD k den).1 ∧ (xs.getD k dsl).2.2.1 = (es.getD k den).2.length := fun k hk => by
    have h1 : es[k]? = some (es[k]'hk) := List.getElem?_eq_getElem hk
    have h2 : xs[k]? = some (xs[k]'(by omega)) := List.getElem?_eq_getElem (by omega)
    have := h k _ _ h1 h2
    simp only [List.getD, h1, h2, Option.getD_some]
    exact ⟨this.1, this.2.symm⟩
  have each : ∀ k, k ∈ List.range es.length → goodE xs k = gooE es k := fun k hk => by
    have hk' : k < es.length := by simpa using hk
    unfold goodE gooE abv
    rw [(key k hk').1, (key k hk').2, (key (k - 1) (by omega)).1]
  exact ⟨fun hh k hk => by rw [← each k hk]; exact hh k hk, fun hh k hk => by rw [each k hk]; exact hh k hk⟩
theorem rightEs_any (p : Nat → Prop) (w : World) (ao : Option Addr) (n cap : Nat) (es : List (Lb × List UInt8)) (h : ER p w ao n es) (hmax : n ≤ 140737488355328) :
    Calls Tryz.prog 116 #[.slice ao n cap] w fun e w' => e = .returned (.bool (ascE es)) ∧ Below w.heap.size w w' := by
  obtain ⟨xs, hl, hx, b, off, hao, hc⟩ := h.split
  rw [← good_asc (xs := xs) (by rw [hl, h.1]) (fun j e x he hj => ⟨(hx j e x he hj).1, (hx j e x he hj).2.1.1⟩)]
  subst hl
  exact rightEntries_any w ao cap b off xs hmax (fun h => (hao h).1) hc
set_option maxRecDepth 10000 in
set_option maxHeartbeats 2000000 in
theorem right_any (p : Nat → Prop) (w : World) (ao : Option Addr) (n ac : Nat) (es : List (Lb × List UInt8)) (h : ER p w ao n es) (hmax : n ≤ 140737488355328) (bo : Option Addr) (m bc : Nat) (ls : List Lb) (g : LR w bo m ls) (hm : m ≤ 5000) (hz : bo = none → m = 0) (nx : Int) (hn : Nat) (hp : Int) :
    Calls Tryz.prog 92 #[sumv (.slice ao n ac) (.slice bo m bc) nx hn hp] w fun e w' => e = .returned (.bool (rightS es ls nx hn hp)) ∧ Below w.heap.size w w' := by
  unfold sumv
  have b0 : Below w.heap.size w (w.alloc (.cells #[.slice ao n ac, .slice bo m bc, .int .i64 nx, .int .u64 (hn : Nat), .int .i64 hp] 45)) := bl1 _ _
  have c1 := sb_new w (.slice ao n ac) (.slice bo m bc) nx hn hp 45
  have h1 := rightEs_any p _ ao n ac es (h.bl b0) hmax
  have h2 := fun W (u : Below w.heap.size w W) => rightOrder_any W bo m bc ls (g.up u) hm hz
  have h3 := fun W => form_any W hn hp
  have hml := g.1
  have hwm : wrap64 ((m : Int) + 1) = (m : Int) + 1 := IntWalk.wrap64_in _ (by omega)
  unfold rightS
  rw [hml]
  generalize ascE es = f1 at *
  generalize (ls.all formL && decide ls.Nodup) = f2 at *
  generalize formV hn hp = f3 at *
  clear h g hml hm hz hmax
  unfold vid at h3
  have C1 := c1
  obtain ⟨x0, x1, x2, x3, x4⟩ := c1
  cases f1 with
  | false =>
    simp only [Bool.false_and]
    go_enter Tryz.func92, Tryz.ntmps92
    go_wp2_with fail
    refine h1.mono ?_
    rintro e w1 ⟨rfl, hb⟩
    have hbb := bl_step b0 hb
    clear h1 h2 h3 C1 x0 x1 x2 x3 x4 b0 hb hwm
    go_wp2
    go_ret
    exact ⟨rfl, hbb⟩
  | true =>
    simp only [Bool.true_and]
    cases f2 with
    | false =>
      simp only [Bool.false_and]
      go_enter Tryz.func92, Tryz.ntmps92
      go_wp2_with fail
      refine h1.mono ?_
      rintro e w1 ⟨rfl, hb⟩
      have hbb := bl_step b0 hb
      have D1 := C1.bl hb
      have k2 := h2 w1 hbb
      clear h1 h2 h3 C1 x0 x1 x2 x3 x4 b0 hb hwm
      obtain ⟨x0, x1, x2, x3, x4⟩ := D1
      go_wp2_with fail
      refine k2.mono ?_
      rintro e w2 ⟨rfl, hb2⟩
      have hbb2 := bl_step hbb hb2
      clear k2 x0 x1 x2 x3 x4 hbb hb2
      go_wp2
      go_ret
      exact ⟨rfl, hbb2⟩
    | true =>
      simp only [Bool.true_and]
      go_enter Tryz.func92, Tryz.ntmps92
      go_wp2_with fail
      refine h1.mono ?_
      rintro e w1 ⟨rfl, hb⟩
      have hbb := bl_step b0 hb
      have D1 := C1.bl hb
      have k2 := h2 w1 hbb
      clear h1 h2 C1 x0 x1 x2 x3 x4 b0 hb
      obtain ⟨x0, x1, x2, x3, x4⟩ := id D1
      go_wp2_with fail
      refine k2.mono ?_
      rintro e w2 ⟨rfl, hb2⟩
      have hbb2 := bl_step hbb hb2
      have E1 := D1.bl hb2
      clear k2 x0 x1 x2 x3 x4 hbb hb2 D1
      obtain ⟨x0, x1, x2, x3, x4⟩ := E1
      by_cases q1 : 1 ≤ nx
      · by_cases q2 : nx ≤ (m : Int) + 1
        · go_wp2_with fail
          refine (h3 _).mono ?_
          rintro e w3 ⟨rfl, hu3⟩
          have hbb3 := bl_step hbb2 hu3.bl
          clear h3 x0 x1 x2 x3 x4 hbb2 hu3
          go_wp2
          go_ret
          exact ⟨ret_bool (by simp [q1, q2]), hbb3⟩
        · clear h3
          go_wp2
          go_ret
          exact ⟨ret_bool (by simp <;> intros <;> omega), hbb2⟩
      · clear h3
        go_wp2
        go_ret
        exact ⟨ret_bool (by simp <;> intros <;> omega), hbb2⟩
end Go.Proofs.YtlaihgdfedalmaaGreat

/-
  A view's message that is a summary: Decode.
-/
namespace Go.Proofs.YtlaihgdfedalmaaGreat
open Go.RowKit
set_option linter.unusedVariables false
set_option linter.unusedSimpArgs false

theorem Dn.set9 {w W : World} {r b : Nat} {c8 c9 : Array Value} {st : Option (List UInt8)} (h : Dn w W r b c8 c9 st) (hn : noByte c9) (cs : Array Value) : Dn w (W.setRow (b + 1) cs) r b c8 cs st :=
  have hb := h.rb
  have hr := h.rl
  { rd := rd_setRow h.rd (by omega) h.e9 hn, a1 := (setRow_other _ _ _ _ (by omega)).trans h.a1, a2 := (setRow_other _ _ _ _ (by omega)).trans h.a2, e8 := (setRow_other _ _ _ _ (by omega)).trans h.e8, e9 := setRow_heap _ _ _ _ _ _ h.e9, bl := bl_row h.bl (by omega) cs, rl := hr, rb := hb }
theorem lr_row {w : World} {ao : Option Addr} {n : Nat} {ls : List Lb} (h : LR w ao n ls) {g : Nat} (cs : Array Value) (hg : ∀ a, ao = some a → a.block ≠ g) : LR (w.setRow g cs) ao n ls :=
  h.of_cells (fun ad v e hv => (cell_setRow_other _ _ _ _ (fun e2 => by
    cases ao with
    | none => simp at e
    | some a =>
      simp at e
      exact hg a rfl (by rw [e]; exact e2))).trans hv)
def ExS (b : Nat) (c o : Value) (nx : Int) (hn : Nat) (hp : Int) (w : World) : Prop :=
  w.cell? ⟨b, 0, none⟩ = some (.int .u64 0) ∧ w.cell? ⟨b, 1, none⟩ = some (.int .i64 0) ∧ w.cell? ⟨b, 2, none⟩ = some (.int .u64 0) ∧ w.cell? ⟨b, 3, none⟩ = some (.int .i64 0) ∧ w.cell? ⟨b, 4, none⟩ = some (.slice none 0 0) ∧
  w.cell? ⟨b + 1, 0, none⟩ = some c ∧ w.cell? ⟨b + 1, 1, none⟩ = some o ∧ w.cell? ⟨b + 1, 2, none⟩ = some (.int .i64 nx) ∧ w.cell? ⟨b + 1, 3, none⟩ = some (.int .u64 (hn : Nat)) ∧ w.cell? ⟨b + 1, 4, none⟩ = some (.int .i64 hp)
theorem exs_row {w : World} {b g : Nat} {c o : Value} {nx : Int} {hn : Nat} {hp : Int} (h : ExS b c o nx hn hp w) (h1 : g ≠ b) (h2 : g ≠ b + 1) (cs : Array Value) : ExS b c o nx hn hp (w.setRow g cs) :=
  have key : ∀ k j v, g ≠ k → w.cell? ⟨k, j, none⟩ = some v → (w.setRow g cs).cell? ⟨k, j, none⟩ = some v := fun k j v hk hc => (cell_setRow_other _ _ _ _ (by show k ≠ g; omega)).trans hc
  ⟨key _ _ _ h1 h.1, key _ _ _ h1 h.2.1, key _ _ _ h1 h.2.2.1, key _ _ _ h1 h.2.2.2.1, key _ _ _ h1 h.2.2.2.2.1, key _ _ _ h2 h.2.2.2.2.2.1, key _ _ _ h2 h.2.2.2.2.2.2.1, key _ _ _ h2 h.2.2.2.2.2.2.2.1, key _ _ _ h2 h.2.2.2.2.2.2.2.2.1, key _ _ _ h2 h.2.2.2.2.2.2.2.2.2⟩
set_option maxRecDepth 10000 in
set_option maxHeartbeats 1000000 in
theorem decode_all_good (w : World) (ao : Option Addr) (n cap : Nat) (xs : List UInt8) (h : Cd.Row w ao n cap xs) (hn : n ≤ 140737488355328) (st : Option (List UInt8)) (hk : Cd.rInt (some xs) 2 = (2, st)) (hl : ∀ ys, st = some ys → ys.length ≤ 1000000) (hls : (decS st).1.ls.length ≤ 5000) (hEl : (decS st).1.es.length ≤ 1000000)
    (hok : rightS (decS st).1.es (decS st).1.ls (decS st).1.nx (decS st).1.hn (decS st).1.hp = true ∧ (decS st).2 = some []) :
    Calls Tryz.prog 98 #[.slice ao n cap] w fun e w' => ∃ ao ac bo bc, e = .returned (.tuple #[.int .u8 2, .agg Ze, sumv (.slice ao (decS st).1.es.length ac) (.slice bo (decS st).1.ls.length bc) (decS st).1.nx (decS st).1.hn (decS st).1.hp, .int .i64 0]) ∧ ER (fun k => w.heap.size < k) w' ao (decS st).1.es.length (decS st).1.es ∧ LR w' bo (decS st).1.ls.length (decS st).1.ls ∧ ((ao = none → (decS st).1.es.length = 0 ∧ ac = 0) ∧ (bo = none → (decS st).1.ls.length = 0 ∧ bc = 0) ∧ ∀ a, bo = some a → w.heap.size < a.block) ∧ (decS st).1.ls.length ≤ bc ∧ Below w.heap.size w w' := by
  have hb0 : Below w.heap.size w ((w.alloc (.cells Ze 41)).alloc (.cells Zs 45)) := bl2 _ _ _
  have hnew := Cd.newReader_any _ ao n cap xs (h.below hb0 (Nat.le_refl _)) hn
  have hint : ∀ W r, Cd.Rd W r (some xs) → _ := fun W r hW => Cd.int_rd W r (some xs) hW 2 (by omega) (by omega)
  have hre : ∀ W r, Cd.Rd W r st → _ := fun W r hW => readSummary_rd W r st hW hl
  generalize decS st = D at *
  obtain ⟨⟨es, ls, nx, hn', hp⟩, st1⟩ := D
  simp only at hok hre hls hEl ⊢
  obtain ⟨hfm, hst1⟩ := hok
  rw [hk] at hint
  simp only at hint
  have hbd := fun W r => Cd.bad_rd W r st1
  have hlf := fun W r => Cd.left_rd W r st1
  have hDn : ∀ w1 w2 r, (w.heap.size + 2) ≤ r → Cd.Rd w1 r (some xs) → Below ((w.alloc (.cells Ze 41)).alloc (.cells Zs 45)).heap.size ((w.alloc (.cells Ze 41)).alloc (.cells Zs 45)) w1 → Cd.Rd w2 r st → w1.grownBy w2 (some r) → Dn w ((w2.alloc (.cells Ze 41)).alloc (.cells Zs 45)) r w2.heap.size Ze Zs st := by
    intro w1 w2 r hr hr1 hb1 hr2 hg
    have hrl := hr1.lt
    have hsz := hg.size
    have hs1 := hb1.size
    have e1 : ((w.alloc (.cells Ze 41)).alloc (.cells Zs 45)).heap.size = w.heap.size + 2 := by simp
    rw [e1] at hs1
    have k1 : ((w.alloc (.cells Ze 41)).alloc (.cells Zs 45)).heap[w.heap.size]? = some (.cells Ze 41 (0, 0)) := (Below.heap_alloc _ _ _ (by simp)).trans (heap_alloc_new _ _)
    have k2 : ((w.alloc (.cells Ze 41)).alloc (.cells Zs 45)).heap[w.heap.size + 1]? = some (.cells Zs 45 (0, 0)) := by
      have := heap_alloc_new (w.alloc (.cells Ze 41)) (.cells Zs 45)
      simpa using this
    have key : ∀ k o, k < w.heap.size + 2 → ((w.alloc (.cells Ze 41)).alloc (.cells Zs 45)).heap[k]? = some o → ((w2.alloc (.cells Ze 41)).alloc (.cells Zs 45)).heap[k]? = some o := fun k o hlt hk =>
      (Below.heap_alloc _ _ _ (by simp; omega)).trans ((Below.heap_alloc _ _ _ (by omega)).trans ((hg.block k (by omega) (by simp; omega)).trans ((hb1.block k (by rw [e1]; exact hlt)).trans hk)))
    have e8 : ((w2.alloc (.cells Ze 41)).alloc (.cells Zs 45)).heap[w2.heap.size]? = some (.cells Ze 41 (0, 0)) := (Below.heap_alloc _ _ _ (by simp)).trans (heap_alloc_new _ _)
    have e9 : ((w2.alloc (.cells Ze 41)).alloc (.cells Zs 45)).heap[w2.heap.size + 1]? = some (.cells Zs 45 (0, 0)) := by
      have := heap_alloc_new (w2.alloc (.cells Ze 41)) (.cells Zs 45)
      simpa using this
    have bl1' : Below w.heap.size w w1 := hb0.trans (hb1.mono (by rw [e1]; omega))
    have bl2' : Below w.heap.size w w2 := bl_grown bl1' bl1'.size hg (fun k hk => by cases hk; omega)
    exact { rd := rd_alloc (rd_alloc hr2 _) _, a1 := key _ _ (by omega) k1, a2 := key _ _ (by omega) k2, e8 := e8, e9 := e9, bl := bl2'.trans ((bl2 w2 _ _).mono bl2'.size), rl := by omega, rb := by omega }
  have hsz0 : ((w.alloc (.cells Ze 41)).alloc (.cells Zs 45)).heap.size = w.heap.size + 2 := by simp
  unfold Ze Zs at hnew hDn hsz0
  go_enter Tryz.func98, Tryz.ntmps98
  go_wp2_with fail
  refine hnew.mono ?_
  rintro e w1 ⟨r, rfl, hrb, hr1, hb1⟩
  rw [hsz0] at hrb
  clear hnew hsz0 h hb0
  go_wp2_with fail
  refine (hint w1 r hr1).mono ?_
  rintro e w2 ⟨rfl, hr2, hg2⟩
  have G := hDn w1 w2 r hrb hr1 hb1 hr2 hg2
  have hre2 := hre _ r G.rd
  have hxl := hr1.lt
  clear hint hDn hre hr1 hb1 hr2 hg2
  unfold sumv at hre2
  go_wp2_with fail
  refine hre2.mono ?_
  rintro e w3 ⟨ao3, ac3, bo3, bc3, rfl, hER, hLR, hbz, hbc, hbb, hr3, hg3⟩
  have HBZ : Hid ((ao3 = none → es.length = 0 ∧ ac3 = 0) ∧ (bo3 = none → ls.length = 0 ∧ bc3 = 0)) := hbz
  have G3 := G.step hr3 hg3
  have h9 := G3.e9
  have G4 := G3.set9 (noByte_sum _ _ _ _ _ _ _ _ _) #[.slice ao3 es.length ac3, .slice bo3 ls.length bc3, .int .i64 (nx : Nat), .int .u64 (hn' : Nat), .int .i64 (hp : Nat)]
  have hsz3 : ((w2.alloc (.cells Ze 41)).alloc (.cells Zs 45)).heap.size = w2.heap.size + 2 := by simp
  have hER4 := er_row hER (g := w2.heap.size + 1) #[.slice ao3 es.length ac3, .slice bo3 ls.length bc3, .int .i64 (nx : Nat), .int .u64 (hn' : Nat), .int .i64 (hp : Nat)] (fun e => by simp at e; omega)
  have hLR4 := lr_row hLR (g := w2.heap.size + 1) #[.slice ao3 es.length ac3, .slice bo3 ls.length bc3, .int .i64 (nx : Nat), .int .u64 (hn' : Nat), .int .i64 (hp : Nat)] (fun a ha => by have := hbb a ha; simp at this; omega)
  have hrb4 := G.rb
  have hrl4 := G.rl
  have HBB : Hid ((∀ a, bo3 = some a → w.heap.size + 1 < a.block ∧ a.block ≠ w.heap.size) ∧ (∀ k, ((w2.alloc (.cells Ze 41)).alloc (.cells Zs 45)).heap.size < k → w.heap.size + 1 < k)) := ⟨fun a ha => by have := hbb a ha; simp at this; omega, fun k hk => by simp at hk; omega⟩
  obtain ⟨b8, hb8⟩ : ∃ b, Hid (w2.heap.size = b) := ⟨_, rfl⟩
  obtain ⟨W4, hW4⟩ : ∃ W, Hid (w3.setRow (w2.heap.size + 1) #[.slice ao3 es.length ac3, .slice bo3 ls.length bc3, .int .i64 (nx : Nat), .int .u64 (hn' : Nat), .int .i64 (hp : Nat)] = W) := ⟨_, rfl⟩
  have hER5 := hER4.mono HBB.out.2
  rw [hW4.out] at hER5 hLR4 G4
  rw [hb8.out] at G4 h9
  have kE : ∀ j, W4.cell? ⟨b8 + 1, j, none⟩ = _ := fun j => cell_of_row W4 (b8 + 1) j _ 45 (0, 0) G4.e9
  have k0 := kE 0
  have k1 := kE 1
  have k2 := kE 2
  have k3 := kE 3
  have k4 := kE 4
  simp at k0 k1 k2 k3 k4
  have hlen9 : es.length ≤ 140737488355328 := by have := hEl; omega
  have hrt := right_any (fun k => w.heap.size + 1 < k) W4 ao3 es.length ac3 es hER5 hlen9 bo3 ls.length bc3 ls hLR4 hls (fun e => (hbz.2 e).1) nx hn' hp
  unfold sumv at hrt
  clear hre2 G hER hER4 hLR hr3 hg3 G3 kE
  go_wp2_with (first | (rw [hb8.out]; refine wpList_store_row rfl 45 (.tmp 9) (.tmp 26) rfl (b8 + 1) #[.slice ao3 es.length ac3, .slice bo3 ls.length bc3, .int .i64 (nx : Nat), .int .u64 (hn' : Nat), .int .i64 (hp : Nat)] rfl rfl 45 _ h9 infoS38 rfl (by simp [Value.oneCell']) ?_; rw [← hb8.out, hW4.out, hb8.out]; clear h9 hW4 hb8))
  refine hrt.mono ?_
  rintro e w5 ⟨rfl, hu5⟩
  have G5 := G4.below hu5
  have hER6 := hER5.bl hu5
  have hLR6 := hLR4.up hu5
  have hbd5 := hbd w5 r G5.rd
  have hlf5 := hlf w5 r G5.rd
  clear hrt hbd hlf G4 hER5 hLR4 hu5 k0 k1 k2 k3 k4
  rw [hfm]
  rw [hst1] at hbd5 hlf5
  simp only [Option.isNone_some] at hbd5
  simp only [Cd.rLeft, List.length_nil] at hlf5
  rw [show ((0 : Nat) : Int) = 0 from rfl] at hlf5
  have ud : Below w5.heap.size w5 w5.drew := (Below.refl _ _).drew
  have G6 := G5.below ud
  have hER7 := hER6.bl ud
  have hLR7 := hLR6.up ud
  have q1 := G6.a1
  have q2 := G6.a2
  have q2' : (w5.drew.setRow w.heap.size #[.int .u64 0, .int .i64 0, .int .u64 0, .int .i64 0, .slice none 0 0]).heap[w.heap.size + 1]? = some (.cells Zs 45 (0, 0)) := (setRow_other _ _ _ _ (by omega)).trans q2
  have q1' := setRow_heap _ _ _ #[.int .u64 0, .int .i64 0, .int .u64 0, .int .i64 0, .slice none 0 0] _ _ q1
  have f1 : ((w5.drew.setRow w.heap.size #[.int .u64 0, .int .i64 0, .int .u64 0, .int .i64 0, .slice none 0 0]).setRow (w.heap.size + 1) #[.slice ao3 es.length ac3, .slice bo3 ls.length bc3, .int .i64 (nx : Nat), .int .u64 (hn' : Nat), .int .i64 (hp : Nat)]).heap[w.heap.size]? = some (.cells #[.int .u64 0, .int .i64 0, .int .u64 0, .int .i64 0, .slice none 0 0] 41 (0, 0)) := (setRow_other _ _ _ _ (by omega)).trans q1'
  have f2 := setRow_heap _ _ _ #[.slice ao3 es.length ac3, .slice bo3 ls.length bc3, .int .i64 (nx : Nat), .int .u64 (hn' : Nat), .int .i64 (hp : Nat)] _ _ q2'
  have hrb5 := G6.rb
  have hrl5 := G6.rl
  have s0 : ExS b8 (.slice ao3 es.length ac3) (.slice bo3 ls.length bc3) (nx : Nat) hn' (hp : Nat) w5.drew := by
    have h1 := fun j => cell_of_row _ b8 j _ 41 (0, 0) G6.e8
    have h2 := fun j => cell_of_row _ (b8 + 1) j _ 45 (0, 0) G6.e9
    exact ⟨h1 0, h1 1, h1 2, h1 3, h1 4, h2 0, h2 1, h2 2, h2 3, h2 4⟩
  have s1 := exs_row (g := w.heap.size) s0 (by omega) (by omega) #[.int .u64 0, .int .i64 0, .int .u64 0, .int .i64 0, .slice none 0 0]
  have s2 := exs_row (g := w.heap.size + 1) s1 (by omega) (by omega) #[.slice ao3 es.length ac3, .slice bo3 ls.length bc3, .int .i64 (nx : Nat), .int .u64 (hn' : Nat), .int .i64 (hp : Nat)]
  have HE : Hid (ER (fun k => w.heap.size < k) ((w5.drew.setRow w.heap.size #[.int .u64 0, .int .i64 0, .int .u64 0, .int .i64 0, .slice none 0 0]).setRow (w.heap.size + 1) #[.slice ao3 es.length ac3, .slice bo3 ls.length bc3, .int .i64 (nx : Nat), .int .u64 (hn' : Nat), .int .i64 (hp : Nat)]) ao3 es.length es ∧ LR ((w5.drew.setRow w.heap.size #[.int .u64 0, .int .i64 0, .int .u64 0, .int .i64 0, .slice none 0 0]).setRow (w.heap.size + 1) #[.slice ao3 es.length ac3, .slice bo3 ls.length bc3, .int .i64 (nx : Nat), .int .u64 (hn' : Nat), .int .i64 (hp : Nat)]) bo3 ls.length ls ∧ Below w.heap.size w ((w5.drew.setRow w.heap.size #[.int .u64 0, .int .i64 0, .int .u64 0, .int .i64 0, .slice none 0 0]).setRow (w.heap.size + 1) #[.slice ao3 es.length ac3, .slice bo3 ls.length bc3, .int .i64 (nx : Nat), .int .u64 (hn' : Nat), .int .i64 (hp : Nat)])) := by
    refine ⟨?_, ?_, bl_row (bl_row G6.bl (Nat.le_refl _) _) (by omega) _⟩
    · exact (er_row (er_row hER7 _ (fun e => by omega)) _ (fun e => by omega)).mono (fun k hk => by omega)
    · exact lr_row (lr_row hLR7 _ (fun a ha => (HBB.out.1 a ha).2)) _ (fun a ha => by have := (HBB.out.1 a ha).1; omega)
  have kA := fun j => cell_of_row _ w.heap.size j _ 41 (0, 0) f1
  have kB := fun j => cell_of_row _ (w.heap.size + 1) j _ 45 (0, 0) f2
  have a0 := kA 0
  have a1 := kA 1
  have a2 := kA 2
  have a3 := kA 3
  have a4 := kA 4
  have b0 := kB 0
  have b1 := kB 1
  have b2 := kB 2
  have b3 := kB 3
  have b4 := kB 4
  simp at a0 a1 a2 a3 a4 b0 b1 b2 b3 b4
  obtain ⟨HS0, HS1, HS2⟩ : Hid (ExS b8 (.slice ao3 es.length ac3) (.slice bo3 ls.length bc3) (nx : Nat) hn' (hp : Nat) w5.drew) ∧ Hid _ ∧ Hid _ := ⟨s0, s1, s2⟩
  clear kA kB f1 f2 G5 G6 hER6 hLR6 hER7 hLR7 q1' hrb5 hrl5 s0 s1 s2
  go_wp2_with fail
  refine hbd5.mono ?_
  rintro e w6 ⟨rfl, rfl⟩
  clear hbd5
  go_wp2_with fail
  refine hlf5.mono ?_
  rintro e w7 ⟨rfl, rfl⟩
  clear hlf5
  go_wp2_with fail
  refine wp_region_noPanic ?_
  refine wp_region_held_drew (S := ExS b8 (.slice ao3 es.length ac3) (.slice bo3 ls.length bc3) (nx : Nat) hn' (hp : Nat)) (by kernel_rfl) HS0.out (fun hHeld => ?_)
  unfold ExS at hHeld
  refine tq 0 ?_
  refine tq 1 ?_
  refine tq 2 ?_
  refine tq 3 ?_
  refine comes_up 4 rfl (by kernel_rfl) (fun K hK => ?_)
  refine step_store_row rfl 41 (.tmp 3) (.tmp 43) rfl w.heap.size #[.int .u64 0, .int .i64 0, .int .u64 0, .int .i64 0, .slice none 0 0] rfl rfl 41 _ q1 infoS29 rfl (by simp [Value.oneCell']) ?_
  refine hK.out _ _ HS1.out (fun hHeld => ?_)
  clear hK K
  (try simp only [Act.put])
  refine comes_up 5 rfl (by kernel_rfl) (fun K hK => ?_)
  refine step_store_row rfl 45 (.tmp 4) (.tmp 44) rfl (w.heap.size + 1) #[.slice ao3 es.length ac3, .slice bo3 ls.length bc3, .int .i64 (nx : Nat), .int .u64 (hn' : Nat), .int .i64 (hp : Nat)] rfl rfl 45 _ q2' infoS38 rfl (by simp [Value.oneCell']) ?_
  refine hK.out _ _ HS2.out (fun hHeld => ?_)
  clear hK K
  (try simp only [Act.put])
  refine tq 6 ?_
  refine wpAnyH_done (by kernel_rfl) ?_ _
  refine NoPanic.normal ?_
  go_wp2
  refine bodyPost_ret (v := .tuple #[.int .u8 2, .agg Ze, sumv (.slice ao3 es.length ac3) (.slice bo3 ls.length bc3) (nx : Nat) hn' (hp : Nat), .int .i64 0]) ?_ rfl ?_
  · simp [results, Tryz.results98, go_sem, a0, a1, a2, a3, a4, b0, b1, b2, b3, b4, Ze, sumv]
  · exact ⟨_, _, _, _, rfl, HE.out.1, HE.out.2.1, ⟨HBZ.out.1, HBZ.out.2, fun a ha => Nat.lt_of_succ_lt (HBB.out.1 a ha).1⟩, hbc, HE.out.2.2⟩
end Go.Proofs.YtlaihgdfedalmaaGreat

/-
  What is read of an entry's bytes is the entry; what is read as an entry was its bytes.
-/
namespace Go.Proofs.YtlaihgdfedalmaaGreat
open Go.RowKit
set_option linter.unusedVariables false

theorem dec_encV (N : Nat) (hN : N < 18446744073709551616) (p : Int) (hf : formV N p = true) (rest : List UInt8) : decV (some (Cd.enc N ++ [pb p] ++ rest)) = ((N, p.toNat), some rest) := by
  have hp : 0 ≤ p ∧ p ≤ (if N = 0 then 0 else 15) := by simpa [formV] using hf
  have hp15 : p ≤ 15 := by have := hp.2; split at this <;> omega
  have e1 : Cd.rUint (some (Cd.enc N ++ [pb p] ++ rest)) = (N, some ([pb p] ++ rest)) := by
    have := Cd.rd_enc N ([pb p] ++ rest) hN
    rw [List.append_assoc]
    simp only [Cd.rUint, this]
    simp
  have hb : [pb p] = Cd.enc p.toNat := (Cd.encF_small 9 p.toNat (by omega)).symm
  have e2 : Cd.rUint (some ([pb p] ++ rest)) = (p.toNat, some rest) := by
    have := Cd.rd_enc p.toNat rest (by omega)
    rw [hb]
    simp only [Cd.rUint, this]
    simp
  unfold decV
  rw [e1]
  simp only
  have e3 : Cd.rInt (some ([pb p] ++ rest)) (if N = 0 then 0 else 15) = (p.toNat, some rest) := by
    unfold Cd.rInt
    rw [e2]
    simp only
    rw [if_neg]
    have h1 := hp.1
    have h2 := hp.2
    split <;> rename_i hN0
    · rw [if_pos hN0] at h2; omega
    · omega
  rw [e3]
theorem rUint_enc (n : Nat) (h : n < 18446744073709551616) (t : List UInt8) : Cd.rUint (some (Cd.enc n ++ t)) = (n, some t) := by
  have := Cd.rd_enc n t h
  simp [Cd.rUint, this]
theorem rInt_enc (n : Nat) (h : n < 18446744073709551616) (m : Int) (hm : (n : Int) ≤ m) (t : List UInt8) : Cd.rInt (some (Cd.enc n ++ t)) m = (n, some t) := by
  unfold Cd.rInt
  rw [rUint_enc n h t]
  simp only
  rw [if_neg (by omega)]
theorem dec_encL (x : Lb) (hx : x.1 < 18446744073709551616) (hx2 : x.2.2.1 < 18446744073709551616) (hf : formL x = true) (t : List UInt8) : decL (some (encL x ++ t)) = (x, some t) := by
  obtain ⟨hv, _, _, hq0, hq15⟩ := formL_parts hf
  obtain ⟨hp0, hp15⟩ := formV_p hv
  obtain ⟨N, p, s, q⟩ := x
  simp only at *
  have e0 : decV (some (encL (N, p, s, q) ++ t)) = ((N, p.toNat), some (Cd.enc s ++ ([pb q] ++ t))) := by
    have := dec_encV N hx p hv (Cd.enc s ++ ([pb q] ++ t))
    unfold encL
    simpa using this
  have hb : [pb q] = Cd.enc q.toNat := (Cd.encF_small 9 q.toNat (by omega)).symm
  have e2 : Cd.rInt (some ([pb q] ++ t)) 15 = (q.toNat, some t) := by
    rw [hb]
    exact rInt_enc q.toNat (by omega) 15 (by omega) t
  unfold decL
  rw [e0]
  simp only
  rw [rUint_enc s hx2, e2]
  simp only
  have hpp : ((p.toNat : Nat) : Int) = p := by omega
  have hqq : ((q.toNat : Nat) : Int) = q := by omega
  rw [hpp, hqq, hf]
theorem dec_encE (x : Lb) (m : List UInt8) (hx : x.1 < 18446744073709551616) (hx2 : x.2.2.1 < 18446744073709551616) (hf : formL x = true) (hm : m.length ≤ 64) (t : List UInt8) : decE (some (encE x m ++ t)) = ((x, m), some t) := by
  unfold decE encE
  rw [List.append_assoc, dec_encL x hx hx2 hf]
  simp only
  have : Cd.rBytes (some (Cd.enc m.length ++ m ++ t)) 64 = (m, some t) := by
    unfold Cd.rBytes
    rw [List.append_assoc, rInt_enc m.length (by omega) 64 (by omega) (m ++ t)]
    simp
  rw [this]
end Go.Proofs.YtlaihgdfedalmaaGreat

/-
  A summary as a view's message: EncodeAll.
-/
namespace Go.Proofs.YtlaihgdfedalmaaGreat
open Go.RowKit
set_option linter.unusedVariables false
set_option linter.unusedSimpArgs false

set_option maxRecDepth 10000 in
set_option maxHeartbeats 1000000 in
theorem addNumber_any (w : World) (B : Nat) (hB : B ≤ w.heap.size) (v : Value) (xs : List UInt8) (hv : w.ownsRow B 5 1 v xs.length (xs.map Cd.by8)) (k : Nat) (hk : k < 9223372036854775808) (hr : xs.length + 100 ≤ 140737488355328) :
    Calls Tryz.prog 93 #[v, .int .i64 (k : Nat)] w fun e w' => ∃ v', e = .returned v' ∧ Adds B w w' v v' (xs ++ Cd.enc k) := by
  obtain ⟨ao, cap, rfl⟩ := row_shape hv
  have he := Cd.uint_any w none 0 0 [] (nil_row w) k (by omega) (by omega)
  have hlen := Cd.enc_length k
  have hpos := Cd.enc_pos k
  simp only [Nat.zero_add, List.nil_append] at he
  generalize Cd.enc k = E at *
  have hwr : IntKind.u64.wrap (k : Int) = (k : Int) := IntWalk.u64_in _ (by omega)
  go_enter Tryz.func93, Tryz.ntmps93
  go_wp2_with fail
  refine he.mono ?_
  rintro e w1 ⟨v1, rfl, ho1, hb1⟩
  have hv1 := own_bytes_below hv hb1
  obtain ⟨g, cg, rfl, _⟩ := row_some ho1 hpos
  have hcs := ho1.cells (g := g) rfl
  have hs1 : B ≤ w1.heap.size := Nat.le_trans hB hb1.size
  clear he ho1 hv
  go_wp2_with (at_builtin; refine wpList_append_adds rfl (.tmp 5) (.tmp 8) rfl B _ xs rfl ?d1 ⟨g, 0, none⟩ E.length cg E rfl rfl ?d2 ?d3 ?d4 ?_)
  case d1 => exact hv1
  case d2 => exact hcs
  case d3 => omega
  case d4 => exact hs1
  intro v2 w2 ha
  have hab := Adds.after hb1 ha
  clear ha hcs hv1 hb1 hs1
  go_wp2
  go_ret
  exact ⟨v2, rfl, hab⟩

/-- Entries' bytes. -/
def encEs (es : List (Lb × List UInt8)) : List UInt8 := es.flatMap fun e => encE e.1 e.2
def encLs (ls : List Lb) : List UInt8 := ls.flatMap encL
/-- A summary's bytes. -/
def allB (es : List (Lb × List UInt8)) (ls : List Lb) (nx : Nat) (hn : Nat) (hp : Int) : List UInt8 :=
  ([2] ++ Cd.enc es.length ++ encEs es ++ Cd.enc ls.length ++ encLs ls ++ Cd.enc nx) ++ Cd.enc hn ++ [pb hp]
theorem encEs_take {es : List (Lb × List UInt8)} {k : Nat} {e : Lb × List UInt8} (h : es[k]? = some e) : encEs (es.take (k + 1)) = encEs (es.take k) ++ encE e.1 e.2 := by
  unfold encEs
  rw [List.take_add_one, h]
  simp
theorem encLs_take {ls : List Lb} {k : Nat} {x : Lb} (h : ls[k]? = some x) : encLs (ls.take (k + 1)) = encLs (ls.take k) ++ encL x := by
  unfold encLs
  rw [List.take_add_one, h]
  simp
theorem encE_len (x : Lb) (m : List UInt8) (hm : m.length ≤ 64) : (encE x m).length ≤ 96 := by
  have h1 := encL_len x
  have h2 := Cd.enc_length m.length
  unfold encE
  simp
  omega
theorem encEs_len : ∀ (es : List (Lb × List UInt8)), (∀ e ∈ es, e.2.length ≤ 64) → (encEs es).length ≤ 96 * es.length
  | [], _ => by simp [encEs]
  | e :: es, h => by
    have h1 := encE_len e.1 e.2 (h e (by simp))
    have h2 := encEs_len es (fun x hx => h x (by simp [hx]))
    simp only [encEs, List.flatMap_cons, List.length_append, List.length_cons] at *
    omega
theorem encLs_len : ∀ (ls : List Lb), (encLs ls).length ≤ 22 * ls.length
  | [] => by simp [encLs]
  | x :: ls => by
    have h1 := encL_len x
    have h2 := encLs_len ls
    simp only [encLs, List.flatMap_cons, List.length_append, List.length_cons] at *
    omega

set_option maxRecDepth 10000 in
set_option maxHeartbeats 1000000 in
theorem encodeAll_bad (p : Nat → Prop) (w : World) (ao : Option Addr) (n ac : Nat) (es : List (Lb × List UInt8)) (h : ER p w ao n es) (hmax : n ≤ 140737488355328) (bo : Option Addr) (m bc : Nat) (ls : List Lb) (g : LR w bo m ls) (hm : m ≤ 5000) (hz : bo = none → m = 0) (nx : Int) (hn : Nat) (hp : Int) (hR : rightS es ls nx hn hp = false) :
    Calls Tryz.prog 54 #[sumv (.slice ao n ac) (.slice bo m bc) nx hn hp] w fun e w' => e = .returned (.tuple #[.slice none 0 0, .int .i64 3]) ∧ Below w.heap.size w w' := by
  have b0 : Below w.heap.size w (w.alloc (.cells #[.slice ao n ac, .slice bo m bc, .int .i64 nx, .int .u64 (hn : Nat), .int .i64 hp] 45)) := bl1 _ _
  have hr := right_any p _ ao n ac es (h.bl b0) hmax bo m bc ls (g.up b0) hm hz nx hn hp
  rw [hR] at hr
  obtain ⟨x0, x1, x2, x3, x4⟩ := sb_new w (.slice ao n ac) (.slice bo m bc) nx hn hp 45
  unfold sumv at *
  clear h g
  go_enter Tryz.func54, Tryz.ntmps54
  go_wp2_with fail
  refine hr.mono ?_
  rintro e w1 ⟨rfl, hb1⟩
  have hbb := bl_step b0 hb1
  clear hr b0 hb1 x0 x1 x2 x3 x4
  go_wp2
  go_ret2
  exact ⟨rfl, hbb⟩

set_option maxRecDepth 20000 in
set_option maxHeartbeats 2000000 in
theorem encodeAll_any (p : Nat → Prop) (w : World) (ao : Option Addr) (n ac : Nat) (es : List (Lb × List UInt8)) (h : ER p w ao n es) (hn1 : n ≤ 5000) (bo : Option Addr) (m bc : Nat) (ls : List Lb) (g : LR w bo m ls) (hm : m ≤ 5000) (hz : bo = none → m = 0) (nx : Nat) (hn : Nat) (hp : Int) (hR : rightS es ls nx hn hp = true)
    (hok : ∀ e ∈ es, e.1.1 < 18446744073709551616 ∧ e.1.2.2.1 < 18446744073709551616 ∧ formL e.1 = true ∧ e.2.length ≤ 64) (hol : ∀ x ∈ ls, x.1 < 18446744073709551616 ∧ x.2.2.1 < 18446744073709551616 ∧ formL x = true) (hnx : nx ≤ 10000) (hhn : hn < 18446744073709551616) (hfv : formV hn hp = true) :
    Calls Tryz.prog 54 #[sumv (.slice ao n ac) (.slice bo m bc) nx hn hp] w fun e w' => ∃ v, e = .returned (.tuple #[v, .int .i64 0]) ∧ w'.ownsRow w.heap.size 5 1 v (allB es ls nx hn hp).length ((allB es ls nx hn hp).map Cd.by8) ∧ Below w.heap.size w w' := by
  have b0 : Below w.heap.size w (w.alloc (.cells #[.slice ao n ac, .slice bo m bc, .int .i64 nx, .int .u64 (hn : Nat), .int .i64 hp] 45)) := bl1 _ _
  have hr := right_any p _ ao n ac es (h.bl b0) (by omega) bo m bc ls (g.up b0) hm hz nx hn hp
  rw [hR] at hr
  have c1 := sb_new w (.slice ao n ac) (.slice bo m bc) nx hn hp 45
  have H := ((h.bl b0).here).mono (fun k hk => hk.2)
  have G := g.up b0
  have hel := h.1
  have hll := g.1
  obtain ⟨W0, hW0⟩ : ∃ W, Hid (w.alloc (.cells #[.slice ao n ac, .slice bo m bc, .int .i64 nx, .int .u64 (hn : Nat), .int .i64 hp] 45) = W) := ⟨_, rfl⟩
  rw [hW0.out] at b0 c1 H G hr
  obtain ⟨g0, hg0⟩ : ∃ g, Hid (w.heap.size = g) := ⟨_, rfl⟩
  rw [hg0.out] at c1
  have C0 : Sb g0 (.slice ao n ac) (.slice bo m bc) nx hn hp W0 := c1
  have hadd0 : ∀ W, Below W0.heap.size W0 W → Calls Tryz.prog 93 #[.slice (some ⟨W.heap.size, 0, none⟩) 1 1, .int .i64 (n : Nat)] (W.alloc (.cells #[.int .u8 2] 5)) (fun e w' => ∃ v', e = .returned v' ∧ w'.ownsRow W0.heap.size 5 1 v' ([2] ++ Cd.enc n).length (([2] ++ Cd.enc n).map Cd.by8) ∧ Below W0.heap.size W0 w') := by
    intro W hW
    have h1 : (W.alloc (.cells #[.int .u8 2] 5)).ownsRow W0.heap.size 5 1 (.slice (some ⟨W.heap.size, 0, none⟩) 1 1) [(2 : UInt8)].length ([(2 : UInt8)].map Cd.by8) := by
      have := World.ownsRow_lit (base := W0.heap.size) (e := 5) (size := 1) W #[.int .u8 2] 1 hW.size (by unfold maxLen; omega) rfl
      simpa [Cd.by8] using this
    have hb := hW.alloc hW.size (.cells #[.int .u8 2] 5)
    refine (addNumber_any _ W0.heap.size hb.size _ [2] h1 n (by omega) (by simp)).mono ?_
    rintro e w1 ⟨v1, rfl, ha⟩
    exact ⟨v1, rfl, ha.own, hb.trans (ha.below hb.size (fun k hk => (own_lt h1 k hk).1))⟩
  obtain ⟨x0, x1, x2, x3, x4⟩ := id c1
  unfold sumv at *
  clear h g hR
  go_enter Tryz.func54, Tryz.ntmps54
  go_wp2_with fail
  rw [hW0.out, hg0.out]
  refine hr.mono ?_
  rintro e w1 ⟨rfl, hb1⟩
  have ha0 := hadd0 w1 hb1
  have c2 := (C0.bl hb1)
  have c3 := c2.bl (bl1 w1 (.cells #[.int .u8 2] 5))
  obtain ⟨y0, y1, y2, y3, y4⟩ := c2
  obtain ⟨z0, z1, z2, z3, z4⟩ := c3
  clear hr hadd0 x0 x1 x2 x3 x4 hb1
  go_wp2_with fail
  refine ha0.mono ?_
  rintro e w2 ⟨v2, rfl, ho2, hb2⟩
  obtain ⟨po2, pc2, rfl⟩ := row_shape ho2
  have c4 := C0.bl hb2
  clear ha0 y0 y1 y2 y3 y4 z0 z1 z2 z3 z4
  obtain ⟨y0, y1, y2, y3, y4⟩ := c4
  obtain ⟨A, HA⟩ : ∃ A : Nat → List UInt8, Hid (∀ k, A k = [2] ++ Cd.enc n ++ encEs (es.take k)) := ⟨fun k => [2] ++ Cd.enc n ++ encEs (es.take k), fun _ => rfl⟩
  obtain ⟨D, HD⟩ : ∃ D : Nat → List UInt8, Hid (∀ k, D k = A n ++ Cd.enc m ++ encLs (ls.take k)) := ⟨fun k => A n ++ Cd.enc m ++ encLs (ls.take k), fun _ => rfl⟩
  have hAl : ∀ k, (A k).length ≤ 600000 := fun k => by
    rw [HA.out]
    have h1 := encEs_len (es.take k) (fun e he => (hok e (List.mem_of_mem_take he)).2.2.2)
    have h2 := Cd.enc_length n
    have h3 : (es.take k).length ≤ 5000 := by simp; omega
    simp only [List.length_append, List.length_cons, List.length_nil]
    omega
  have hDl : ∀ k, (D k).length ≤ 1000000 := fun k => by
    rw [HD.out]
    have h1 := encLs_len (ls.take k)
    have h2 := Cd.enc_length m
    have h3 : (ls.take k).length ≤ 5000 := by simp; omega
    have h4 := hAl n
    simp only [List.length_append]
    omega
  have ho2' : w2.ownsRow W0.heap.size 5 1 (.slice po2 ([2] ++ Cd.enc n).length pc2) (A 0).length ((A 0).map Cd.by8) := by
    rw [HA.out]
    simpa [encEs] using ho2
  have hstep : ∀ (k : Nat) (e : Lb × List UInt8) (W : World) (pv : Value) (so : Option Addr) (sn sc : Nat), es[k]? = some e → W.ownsRow W0.heap.size 5 1 pv (A k).length ((A k).map Cd.by8) → Below W0.heap.size W0 W → Cd.Row W so sn sc e.2 → (∀ a, so = some a → 0 < sn → a.block < W0.heap.size) →
      Calls Tryz.prog 94 #[pv, ent e.1 (.slice so sn sc)] W (fun r w' => ∃ v', r = .returned v' ∧ w'.ownsRow W0.heap.size 5 1 v' (A (k + 1)).length ((A (k + 1)).map Cd.by8) ∧ Below W0.heap.size W0 w') := by
    intro k e W pv so sn sc he ho hb hrw hblk
    obtain ⟨q1, q2, q3, q4⟩ := hok e (List.mem_of_getElem? he)
    refine (addEntry_any W W0.heap.size hb.size pv (A k) ho e.1 q1 q2 q3 so sn sc e.2 hrw hblk (by rw [← hrw.1]; exact q4) (by have := hAl k; omega)).mono ?_
    rintro r w' ⟨v', rfl, ha⟩
    refine ⟨v', rfl, ?_, hb.trans (ha.below hb.size (fun k hk => (own_lt ho k hk).1))⟩
    have e1 : A (k + 1) = A k ++ encE e.1 e.2 := by rw [HA.out, HA.out, encEs_take he]; simp
    rw [e1]
    exact ha.own
  have hstep2 : ∀ (k : Nat) (x : Lb) (W : World) (pv : Value), ls[k]? = some x → W.ownsRow W0.heap.size 5 1 pv (D k).length ((D k).map Cd.by8) → Below W0.heap.size W0 W →
      Calls Tryz.prog 95 #[pv, lab x] W (fun r w' => ∃ v', r = .returned v' ∧ w'.ownsRow W0.heap.size 5 1 v' (D (k + 1)).length ((D (k + 1)).map Cd.by8) ∧ Below W0.heap.size W0 w') := by
    intro k x W pv hx ho hb
    obtain ⟨q1, q2, q3⟩ := hol x (List.mem_of_getElem? hx)
    refine (addLabel_any W W0.heap.size hb.size pv (D k) ho x q1 q2 q3 (by have := hDl k; omega)).mono ?_
    rintro r w' ⟨v', rfl, ha⟩
    refine ⟨v', rfl, ?_, hb.trans (ha.below hb.size (fun k hk => (own_lt ho k hk).1))⟩
    have e1 : D (k + 1) = D k ++ encL x := by rw [HD.out, HD.out, encLs_take hx]; simp
    rw [e1]
    exact ha.own
  have hmid : ∀ (W : World) (pv : Value), W.ownsRow W0.heap.size 5 1 pv (A n).length ((A n).map Cd.by8) → Below W0.heap.size W0 W → Calls Tryz.prog 93 #[pv, .int .i64 (m : Nat)] W (fun r w' => ∃ v', r = .returned v' ∧ w'.ownsRow W0.heap.size 5 1 v' (D 0).length ((D 0).map Cd.by8) ∧ Below W0.heap.size W0 w') := by
    intro W pv ho hb
    refine (addNumber_any W W0.heap.size hb.size pv (A n) ho m (by omega) (by have := hAl n; omega)).mono ?_
    rintro r w' ⟨v', rfl, ha⟩
    refine ⟨v', rfl, ?_, hb.trans (ha.below hb.size (fun k hk => (own_lt ho k hk).1))⟩
    have e1 : D 0 = A n ++ Cd.enc m := by rw [HD.out]; simp [encLs]
    rw [e1]
    exact ha.own
  have hend : ∀ (W : World) (pv : Value), W.ownsRow W0.heap.size 5 1 pv (D m).length ((D m).map Cd.by8) → Below W0.heap.size W0 W → Calls Tryz.prog 93 #[pv, .int .i64 (nx : Nat)] W (fun r w' => ∃ qo qc, r = .returned (.slice qo (D m ++ Cd.enc nx).length qc) ∧ Cd.Row w' qo (D m ++ Cd.enc nx).length qc (D m ++ Cd.enc nx) ∧ Below W0.heap.size W0 w') := by
    intro W pv ho hb
    refine (addNumber_any W W0.heap.size hb.size pv (D m) ho nx (by omega) (by have := hDl m; omega)).mono ?_
    rintro r w' ⟨v', rfl, ha⟩
    obtain ⟨qo, qc, rfl, hrw, _⟩ := Cd.owns_row ha.own
    exact ⟨qo, qc, rfl, hrw, hb.trans (ha.below hb.size (fun k hk => (own_lt ho k hk).1))⟩
  have hlast : ∀ (W : World) (qo : Option Addr) (qc : Nat), Cd.Row W qo (D m ++ Cd.enc nx).length qc (D m ++ Cd.enc nx) → Below W0.heap.size W0 W → Calls Tryz.prog 96 #[.slice qo (D m ++ Cd.enc nx).length qc, vid hn hp] W (fun r w' => ∃ v, r = .returned (.tuple #[v, .int .i64 0]) ∧ w'.ownsRow w.heap.size 5 1 v (allB es ls nx hn hp).length ((allB es ls nx hn hp).map Cd.by8) ∧ Below W0.heap.size W0 w') := by
    intro W qo qc hrw hb
    refine (encode_any W qo _ qc _ hrw hn hhn hp hfv (by have := hDl m; have := Cd.enc_length nx; simp only [List.length_append]; omega)).mono ?_
    rintro r w' ⟨v', rfl, ho, hb'⟩
    refine ⟨v', rfl, ?_, hb.trans (hb'.mono hb.size)⟩
    have e1 : allB es ls nx hn hp = D m ++ Cd.enc nx ++ Cd.enc hn ++ [pb hp] := by
      unfold allB
      rw [HD.out, HA.out, List.take_of_length_le (by omega), List.take_of_length_le (by omega), hel, hll]
    have hsz : w.heap.size ≤ W.heap.size := Nat.le_trans b0.size hb.size
    rw [e1]
    refine Cd.owns_mono ?_ hsz
    simpa [Nat.add_assoc] using ho
  generalize ([2] ++ Cd.enc n).length = q0 at *
  clear ho2 HA HD hok hol hAl hDl hfv
  go_wp2_with fail
  go_loopw [4, 20] (fun pv iv wr => ∃ k : Nat, k ≤ n ∧ iv = .int .i64 k ∧ (∃ po pc, pv = .slice po (A k).length pc) ∧ wr.ownsRow W0.heap.size 5 1 pv (A k).length ((A k).map Cd.by8) ∧ Below W0.heap.size W0 wr) (fun _ iv _ => n - (intOf iv).toNat)
  case atStart =>
    obtain ⟨po, pc, e⟩ := row_shape ho2'
    exact ⟨0, by omega, rfl, ⟨po, pc, e⟩, ho2', hb2⟩
  case round =>
    obtain ⟨k, hk, rfl, ⟨po, pc, rfl⟩, ho, hb⟩ := hrel
    by_cases hlt : k < n
    · have hltI : (k : Int) < (n : Int) := by omega
      have hk0 : ¬ ((k : Int) < 0) := by omega
      obtain ⟨x, hx⟩ : ∃ y, es[k]? = some y := ⟨es[k]'(by omega), List.getElem?_eq_getElem (by omega)⟩
      obtain ⟨b, off, hao, hpb, hc⟩ := (H.bl hb).2.2 (by omega)
      obtain ⟨so, sn, sc, c0, c1, c2, c3, c4, hrow, hblk⟩ := hc k x hx
      have ex0 := ex_new wr x.1 (.slice so sn sc) 41
      have hu := bl1 wr (.cells #[.int .u64 (x.1.1 : Nat), .int .i64 x.1.2.1, .int .u64 (x.1.2.2.1 : Nat), .int .i64 x.1.2.2.2, .slice so sn sc] 41)
      have hst := hstep k x _ _ so sn sc hx (own_bytes_below ho hu) (hb.trans (hu.mono hb.size)) (hrow.below hu (Nat.le_refl _)) hblk
      obtain ⟨e0, e1, e2, e3, e4⟩ := ex0
      unfold ent at hst
      have HAO := hao
      subst hao
      clear hc hrow hblk hstep hstep2 hmid hend hlast ho hx hpb
      go_wp2_with fail
      refine hst.mono ?_
      rintro e w3 ⟨v3, rfl, ho3, hb3⟩
      obtain ⟨po3, pc3, rfl⟩ := row_shape ho3
      clear hst e0 e1 e2 e3 e4 c0 c1 c2 c3 c4 hu
      go_wp2
      go_roundw
      case rel => first | exact ⟨k + 1, by omega, by go_num, ⟨_, _, rfl⟩, ho3, hb3⟩ | ((repeat apply Exists.intro); exact ⟨⟨k + 1, by omega, by go_num, ⟨_, _, rfl⟩, ho3, hb3⟩, rfl⟩)
      case measure => simp [intOf]; omega
    · obtain rfl : n = k := by omega
      have hltI : ¬ ((n : Int) < (n : Int)) := by omega
      obtain ⟨s0, s1, s2, s3, s4⟩ := C0.bl hb
      have hmd := hmid wr _ ho hb
      clear hstep hmid ho y0 y1 y2 y3 y4 ho2' hb2
      go_wp2_with fail
      refine hmd.mono ?_
      rintro e w3 ⟨v3, rfl, ho3, hb3⟩
      obtain ⟨po3, pc3, rfl⟩ := row_shape ho3
      clear hmd s0 s1 s2 s3 s4
      obtain ⟨s0, s1, s2, s3, s4⟩ := C0.bl hb3
      go_wp2_with fail
      go_loopw [4, 36] (fun pv iv wr => ∃ k : Nat, k ≤ m ∧ iv = .int .i64 k ∧ (∃ po pc, pv = .slice po (D k).length pc) ∧ wr.ownsRow W0.heap.size 5 1 pv (D k).length ((D k).map Cd.by8) ∧ Below W0.heap.size W0 wr) (fun _ iv _ => m - (intOf iv).toNat)
      case atStart => exact ⟨0, by omega, rfl, ⟨_, _, rfl⟩, ho3, hb3⟩
      case round =>
        clear s0 s1 s2 s3 s4 ho3 hb3 hb
        obtain ⟨k, hk, rfl, ⟨po, pc, rfl⟩, ho, hb⟩ := hrel
        by_cases hlt : k < m
        · have hltJ : (k : Int) < (m : Int) := by omega
          have hk0 : ¬ ((k : Int) < 0) := by omega
          obtain ⟨x, hx⟩ : ∃ y, ls[k]? = some y := ⟨ls[k]'(by omega), List.getElem?_eq_getElem (by omega)⟩
          obtain ⟨b, off, hao, hc⟩ := (G.up hb).2.2 (by omega)
          obtain ⟨c0, c1, c2, c3⟩ := hc k x hx
          have bx0 := bx_new wr x.1 x.2.1 x.2.2.1 x.2.2.2 39
          have hu := bl1 wr (.cells #[.int .u64 (x.1 : Nat), .int .i64 x.2.1, .int .u64 (x.2.2.1 : Nat), .int .i64 x.2.2.2] 39)
          have hst := hstep2 k x _ _ hx (own_bytes_below ho hu) (hb.trans (hu.mono hb.size))
          obtain ⟨e0, e1, e2, e3⟩ := bx0
          unfold lab at hst
          subst hao
          clear hc hstep2 hend hlast ho hx
          go_wp2_with fail
          refine hst.mono ?_
          rintro e w4 ⟨v4, rfl, ho4, hb4⟩
          obtain ⟨po4, pc4, rfl⟩ := row_shape ho4
          clear hst e0 e1 e2 e3 c0 c1 c2 c3 hu
          go_wp2
          go_roundw
          case rel => first | exact ⟨k + 1, by omega, by go_num, ⟨_, _, rfl⟩, ho4, hb4⟩ | ((repeat apply Exists.intro); exact ⟨⟨k + 1, by omega, by go_num, ⟨_, _, rfl⟩, ho4, hb4⟩, rfl⟩)
          case measure => simp [intOf]; omega
        · obtain rfl : m = k := by omega
          have hltJ : ¬ ((m : Int) < (m : Int)) := by omega
          have hnx2 : ((nx : Nat) : Int) = (nx : Int) := rfl
          have u0 : Below wr.heap.size wr wr.drew := (Below.refl _ _).drew
          have hbd : Below W0.heap.size W0 wr.drew := hb.trans (u0.mono hb.size)
          have hen := hend wr.drew _ (own_bytes_below ho u0) hbd
          have s0 := C0.bl hbd
          have SB : Hid (∀ W, Below W0.heap.size W0 W → Sb g0 (.slice ao n ac) (.slice bo m bc) nx hn hp W) := fun W u => C0.bl u
          clear hstep2 hend ho
          unfold vid at hlast
          unfold Sb at s0
          go_wp2_with fail
          refine wp_region_noPanic ?_
          refine wp_region_held_drew (S := Sb g0 (.slice ao n ac) (.slice bo m bc) nx hn hp) (by kernel_rfl) s0 (fun hHeld => ?_)
          unfold Sb at hHeld
          refine tq 0 ?_
          refine tq 1 ?_
          refine tq 2 ?_
          refine tq 4 ?_
          refine tq 5 ?_
          refine comes_up 3 rfl (by kernel_rfl) (fun K hK => ?_)
          go_simp
          refine hen.mono ?_
          rintro e w5 ⟨qo, qc, rfl, hq5, hb5⟩
          have hla := hlast w5 qo qc hq5 hb5
          clear hen hlast s0 hq5
          generalize (D m ++ Cd.enc nx).length = ql at *
          go_wp2_with fail
          refine hK.out _ _ (SB.out _ hb5) (fun hHeld => ?_)
          clear hK K
          (try simp only [Act.put, List.setIfInBounds_toArray, List.set_cons_zero, List.set_cons_succ])
          refine comes_up 6 rfl (by kernel_rfl) (fun K hK => ?_)
          go_simp
          refine hla.mono ?_
          rintro e w6 ⟨v6, rfl, ho6, hb6⟩
          clear hla
          go_wp2_with fail
          refine hK.out _ _ (SB.out _ hb6) (fun hHeld => ?_)
          clear hK K
          (try simp only [Act.put, List.setIfInBounds_toArray, List.set_cons_zero, List.set_cons_succ])
          refine tq 7 ?_
          refine tq 8 ?_
          refine tq 9 ?_
          refine tq 10 ?_
          refine wpAnyH_done (by kernel_rfl) ?_ _
          refine NoPanic.normal ?_
          clear hHeld
          have hfin := b0.trans (hb6.mono b0.size)
          clear SB C0 H G
          go_wp2
          go_ret2
          exact ⟨v6, rfl, ho6, hfin⟩
end Go.Proofs.YtlaihgdfedalmaaGreat
