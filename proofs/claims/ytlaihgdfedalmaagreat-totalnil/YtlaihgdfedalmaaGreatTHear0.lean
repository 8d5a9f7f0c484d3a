/-
  Package total's hear: has a node told already? And one more that told.
-/
import Derived.Test.YtlaihgdfedalmaaGreatTSettle
namespace Go.Proofs.YtlaihgdfedalmaaGreat
open Go.RowKit Go.Sort Go.Conc
set_option linter.unusedVariables false
set_option linter.unusedSimpArgs false

set_option maxRecDepth 10000 in
theorem before_any (w : World) (B : Nat) (c : Int) (hB : w.cell? ⟨B, 0, none⟩ = some (.int .i64 c)) (v0 : Int) (v1 v2 v3 v4 v5 : Value) :
    Calls Tryz.prog 99 #[.agg #[.int .i64 v0, v1, v2, v3, v4, v5], .pointer (some ⟨B, 0, none⟩)] w fun e w' => e = .returned (.bool (decide (v0 = c))) ∧ Below w.heap.size w w' := by
  have ba := bl1 w (.cells #[.int .i64 v0, v1, v2, v3, v4, v5] 120)
  have x0 := cell_box w #[.int .i64 v0, v1, v2, v3, v4, v5] 120 0 _ rfl
  have y0 := bl_cell ba hB
  go_enter Tryz.func99, Tryz.ntmps99
  go_wp2
  go_ret
  exact ⟨ret_bool (by first | rfl | (by_cases h : v0 = c <;> simp [h])), ba⟩
set_option maxRecDepth 10000 in
set_option maxHeartbeats 2000000 in
theorem indexB_any (p : Nat → Prop) (w : World) (ao : Option Addr) (n cap : Nat) (ts : List Pt) (h : TL p w ao n ts) (B : Nat) (c : Int) (hB : w.cell? ⟨B, 0, none⟩ = some (.int .i64 c)) :
    Calls Tryz.prog 129 #[.slice ao n cap, .func (.func 99) #[] #[.pointer (some ⟨B, 0, none⟩)]] w fun e w' => ((∃ (j : Nat), e = .returned (.int .i64 (j : Nat)) ∧ ∃ t ∈ ts, t.node = c) ∨ (e = .returned (.int .i64 (-1)) ∧ ∀ t ∈ ts, t.node ≠ c)) ∧ Below w.heap.size w w' := by
  have hl := h.1
  have hmax := h.2.1
  go_enter Tryz.func129, Tryz.ntmps129
  go_wp2_with fail
  go_loopw [5, 8] (fun jv iv wr => ∃ (k : Nat), k ≤ n ∧ iv = .int .i64 k ∧ (∃ u, jv = u) ∧ (∀ (j : Nat) t, j < k → ts[j]? = some t → t.node ≠ c) ∧ Below w.heap.size w wr) (fun _ iv _ => n - (intOf iv).toNat)
  case atStart => exact ⟨0, by omega, rfl, ⟨_, rfl⟩, fun j t hj => by omega, Below.refl _ _⟩
  case round =>
    obtain ⟨k, hk, rfl, ⟨bv, hbv⟩, hno, hb⟩ := hrel
    have HNO : Hid (∀ (j : Nat) t, j < k → ts[j]? = some t → t.node ≠ c) := hno
    clear hno
    replace hbv := hbv.symm
    subst hbv
    by_cases hlt : k < n
    · have hltI : (k : Int) < (n : Int) := by omega
      have hk0 : ¬ ((k : Int) < 0) := by omega
      obtain ⟨t, ht⟩ : ∃ z, ts[k]? = some z := ⟨ts[k]'(by omega), List.getElem?_eq_getElem (by omega)⟩
      have HT : Hid (ts[k]? = some t) := ht
      obtain ⟨b, off, hao, _, hc⟩ := h.2.2 (by omega)
      obtain ⟨c0, ca, cc, oa, oc, ⟨c1, c2, c3, c4, c5⟩, hrest⟩ := hc k t ht
      have kk : ∀ {ad : Addr} {v : Value}, w.cell? ad = some v → wr.cell? ad = some v := fun hv => (hb.cell (World.block_lt_of_cell? w _ hv)).trans hv
      replace c0 := kk c0
      replace c1 := kk c1
      replace c2 := kk c2
      replace c3 := kk c3
      replace c4 := kk c4
      replace c5 := kk c5
      have hin := before_any wr B c (kk hB) t.node (.slice ca t.es.length cc) (.slice oa t.ls.length oc) (.int .i64 t.nx) (.int .u64 (t.hn : Nat)) (.int .i64 t.hp)
      subst hao
      obtain ⟨q, hq⟩ : ∃ q, decide (t.node = c) = q := ⟨_, rfl⟩
      rw [hq] at hin
      clear hc ht kk hrest
      cases q with
      | true =>
        have HA : Hid (∃ t ∈ ts, t.node = c) := ⟨t, List.mem_of_getElem? HT.out, by simpa using hq⟩
        clear hq HNO
        go_wp2_with (refine wpList_load_T rfl (.tmp 14) rfl b (off + k * 6) rfl _ _ _ _ _ _ c0 c1 c2 c3 c4 c5 ?_)
        refine hin.mono ?_
        rintro e w2 ⟨rfl, u2⟩
        have uf := bl_step hb u2
        clear hin
        go_wp2
        go_ret
        exact ⟨.inl ⟨k, rfl, HA.out⟩, uf⟩
      | false =>
        have HN2 : Hid (∀ (j : Nat) t, j < k + 1 → ts[j]? = some t → t.node ≠ c) := fun j u hj hu => by
          by_cases e : j = k
          · subst e
            rw [HT.out] at hu
            cases hu
            simpa using hq
          · exact HNO.out j u (by omega) hu
        clear hq HNO
        go_wp2_with (refine wpList_load_T rfl (.tmp 14) rfl b (off + k * 6) rfl _ _ _ _ _ _ c0 c1 c2 c3 c4 c5 ?_)
        refine hin.mono ?_
        rintro e w2 ⟨rfl, u2⟩
        have uf := bl_step hb u2
        clear hin
        go_wp2
        go_roundw
        case rel => first | exact ⟨k + 1, by omega, by go_num, ⟨_, rfl⟩, HN2.out, uf⟩ | ((repeat apply Exists.intro); exact ⟨⟨k + 1, by omega, by go_num, ⟨_, rfl⟩, HN2.out, uf⟩, rfl⟩)
        case measure => simp [intOf]; omega
    · have HA : Hid (∀ t ∈ ts, t.node ≠ c) := fun t ht => by
        obtain ⟨j, hj, hje⟩ := List.getElem_of_mem ht
        exact HNO.out j t (by omega) (by rw [← hje]; exact List.getElem?_eq_getElem hj)
      clear HNO
      go_wp2
      go_ret
      exact ⟨.inr ⟨rfl, HA.out⟩, hb⟩
set_option maxRecDepth 10000 in
theorem contains_any (p : Nat → Prop) (w : World) (ao : Option Addr) (n cap : Nat) (ts : List Pt) (h : TL p w ao n ts) (B : Nat) (c : Int) (hB : w.cell? ⟨B, 0, none⟩ = some (.int .i64 c)) :
    Calls Tryz.prog 100 #[.slice ao n cap, .func (.func 99) #[] #[.pointer (some ⟨B, 0, none⟩)]] w fun e w' => (∃ b, e = .returned (.bool b) ∧ (b = true ↔ ∃ t ∈ ts, t.node = c)) ∧ Below w.heap.size w w' := by
  have hi := indexB_any p w ao n cap ts h B c hB
  clear h hB
  go_enter Tryz.func100, Tryz.ntmps100
  go_wp2_with fail
  refine hi.mono ?_
  rintro e w1 ⟨⟨j, rfl, hj⟩ | ⟨rfl, hj⟩, u⟩
  · have HJ : Hid (∃ t ∈ ts, t.node = c) := hj
    clear hi hj
    have h0 : (0 : Int) ≤ (j : Int) := by omega
    have h1 : ¬ ((j : Int) < 0) := by omega
    go_wp2
    go_ret
    exact ⟨⟨true, by first | rfl | simp, fun _ => HJ.out, fun _ => rfl⟩, u⟩
  · have HJ : Hid (∀ t ∈ ts, t.node ≠ c) := hj
    clear hi hj
    go_wp2
    go_ret
    exact ⟨⟨false, by first | rfl | simp, ⟨fun h => (by cases h), fun h => absurd h (fun ⟨t, ht, hc⟩ => HJ.out t ht hc)⟩⟩, u⟩
section
variable {w w1 w2 : World} {col : Nat → Nat} {Z : Nat → Prop} {q : Nat} {T : Tot} {a : Ta}
theorem Tt.putT (h : Tt w col Z q T a) (u : Below w.heap.size w w1) (v : Value) {xs : List El} (hxs : xs.map (·.1) = T.told) (hxf : ∀ x ∈ xs, Fx Z w x)
    {x : El} (hg : Fx Z w x) (hR : Rw w2 120 6 v (T.told.length + 1) (f6 xs ++ c6 x)) (g : w1.grownBy w2 a.tv.ownBlock) (loc : ∀ b, v.ownBlock = some b → a.tv.ownBlock = some b ∨ w1.heap.size ≤ b) :
    ∃ col', Tt (w2.setCell ⟨q, 17, none⟩ v) col' Z q { T with told := T.told ++ [x.1] } { a with tv := v } ∧ Gt w col (w2.setCell ⟨q, 17, none⟩ v) col' := by
  have h1 := h.still u
  have hsz := u.size
  have hgs := g.size
  have hfq := h.fq
  have hbl : ∀ k, 0 < col k → col k ≠ 8 → w2.heap[k]? = w.heap[k]? := fun k p1 p2 => (g.block k (h1.d.lt k p1) (fun e => p2 (h.d.ctv k e.symm))).trans (u.block k (h.d.lt k p1))
  have hkp : Kp Z w w2 := (Kp.bl u).trans ((Turned.of_grown (F := fun k => a.tv.ownBlock = some k) g (fun k e => e)).kp (fun k hz e => by have := h.d.zf k hz; rw [h.d.ctv k e] at this; omega))
  have hnew : ∀ k, v.ownBlock = some k → ¬ Z k ∧ (0 < col k → col k = 8) := fun k e => by
    rcases loc k e with e' | e'
    · have := h.d.ctv k e'
      exact ⟨fun hz => by have := h.d.zf k hz; omega, fun _ => this⟩
    · exact ⟨fun hz => by have := h.d.zl k hz; omega, fun hc => by have := h.d.lt k hc; omega⟩
  have hcol : ∀ k c, col k = c → 0 < c → c ≠ 8 → recol col a.tv.ownBlock v.ownBlock 8 k = c := fun k c e hc h6 => by
    unfold recol
    rw [if_neg (fun e' => by have := (hnew k e').2 (by omega); omega), if_neg (fun e' => by have := h.d.ctv k e'; omega)]
    exact e
  have hset : ∀ k, k ≠ q → (w2.setCell ⟨q, 17, none⟩ v).heap[k]? = w2.heap[k]? := fun k hk => Below.heap_setCell _ _ _ _ hk
  have hblk : ∀ k c, col k = c → 1 < c → c ≠ 8 → (w2.setCell ⟨q, 17, none⟩ v).heap[k]? = w.heap[k]? := fun k c e hc h6 => (hset k (fun e' => by rw [e', hfq] at e; omega)).trans (hbl k (by omega) (by omega))
  have hkp2 : Kp Z w (w2.setCell ⟨q, 17, none⟩ v) := fun ad u hz hu => by
    rw [World.cell?_setCell_other _ _ _ _ (fun e => by have := h.d.zf _ hz; rw [← e] at this; simp at this; omega)]
    exact hkp ad u hz hu
  have hs2 : (w2.setCell ⟨q, 17, none⟩ v).heap.size = w2.heap.size := by simp [World.setCell]
  have hqb : w2.heap[q]? = w.heap[q]? := hbl q (by omega) (by omega)
  have hid : ∀ b, Z b → Z b := fun _ e => e
  refine ⟨recol col a.tv.ownBlock v.ownBlock 8, ⟨fun k hk => ?_, fun k => ?_, hcol q 1 hfq (by omega) (by omega), ?_⟩, ?_⟩
  · by_cases e : k = 17
    · subst e
      exact World.cell?_setCell_same w2 _ _ ((cell_block hqb).trans (h.cell 17 hk))
    · rw [World.cell?_setCell_other _ _ _ _ (by intro e'; simp only [Addr.mk.injEq] at e'; omega), cell_block hqb, h.cell k hk]
      congr 1
      unfold tcell
      split <;> first | rfl | omega
  · rw [World.frozen?_setCell, frozen_block hqb]
    exact h.fr k
  · refine { ch := kCh (T := T) (a := a) h.d (hblk _ _ h.d.cc (by omega) (by omega)) hkp2 hid, con := kCon (T := T) (a := a) h.d (hblk _ _ h.d.ccb (by omega) (by omega)) hkp2 hid (Nat.le_refl _), am := kAm (T := T) (a := a) h.d (hblk _ _ h.d.cab (by omega) (by omega)) (Nat.le_refl _), sa := kSa (T := T) (a := a) h.d (hblk _ _ h.d.csb (by omega) (by omega)) (Nat.le_refl _), bu := kBu (T := T) (a := a) h.d (fun b e => hblk _ _ (h.d.cbv b e) (by omega) (by omega)) hkp2 hid, od := kOd (T := T) (a := a) h.d (fun b e => hblk _ _ (h.d.cov b e) (by omega) (by omega)), tl := ⟨xs ++ [x], by simp [hxs], ?_, fun y hy => ?_⟩, cc := hcol _ _ h.d.cc (by omega) (by omega), ccb := hcol _ _ h.d.ccb (by omega) (by omega), cab := hcol _ _ h.d.cab (by omega) (by omega), csb := hcol _ _ h.d.csb (by omega) (by omega), cbv := fun b e => hcol _ _ (h.d.cbv b e) (by omega) (by omega), cov := fun b e => hcol _ _ (h.d.cov b e) (by omega) (by omega), ctv := fun b e => by unfold recol; rw [if_pos e], lt := fun k hk => ?_, zf := fun k hz => ?_, zl := fun k hz => by have := h.d.zl k hz; omega }
    · rw [f6_snoc, show (T.told ++ [x.1]).length = T.told.length + 1 by simp]
      exact hR.frame (fun k e => hset k (fun e' => by have := (hnew k e).2 (by rw [e', hfq]; omega); rw [e', hfq] at this; omega))
    · rcases List.mem_append.1 hy with hy | hy
      · exact (hxf y hy).kp hkp2
      · rw [List.mem_singleton] at hy
        subst hy
        exact hg.kp hkp2
    · unfold recol at hk
      split at hk
      · rename_i e
        rw [hs2]
        exact hR.lt k e
      · split at hk
        · omega
        · have := h.d.lt k hk; omega
    · unfold recol
      rw [if_neg (fun e => (hnew k e).1 hz)]
      split
      · rfl
      · exact h.d.zf k hz
  · refine ⟨((Turned.of_below (F := fun b => 0 < col b) u).trans (Turned.of_grown (F := fun k => a.tv.ownBlock = some k) g (fun k e => e)) (fun i e => .inl (by have := h.d.ctv i e; omega))).setCell (p := ⟨q, 17, none⟩) (.inl (by show 0 < col q; omega)) v, fun b hb => ?_⟩
    unfold recol at hb
    split at hb
    · rename_i e
      rcases loc b e with e' | e'
      · exact .inl (by rw [h.d.ctv b e']; omega)
      · exact .inr (by omega)
    · split at hb
      · omega
      · exact .inl hb
end
end Go.Proofs.YtlaihgdfedalmaaGreat
