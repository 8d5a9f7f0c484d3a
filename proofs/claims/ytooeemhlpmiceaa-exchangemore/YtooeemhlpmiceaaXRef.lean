/-
  The document's Next and High.
-/
import Derived.Test.YtooeemhlpmiceaaXKnown
namespace Go.Proofs.Ytooeemhlpmiceaa
open Go.RowKit
set_option linter.unusedVariables false
set_option linter.unusedSimpArgs false

set_option maxRecDepth 10000 in
set_option maxHeartbeats 2000000 in
theorem refNext_any (w : World) (ao : Option Addr) (n cap : Nat) (ss : List Pt) (h : SL (fun _ => True) w ao n ss) :
    Calls Try.prog 38 #[.slice ao n cap] w fun e w' => e = .returned (.int .i64 (nxT ss)) ∧ Below w.heap.size w w' := by
  have hl := h.1
  have hmax := h.2.1
  go_enter Try.func38, Try.ntmps38
  go_wp2_with fail
  go_loopw [3, 4] (fun nv iv wr => ∃ (k : Nat) (x : Int), k ≤ n ∧ iv = .int .i64 k ∧ nv = .int .i64 x ∧ x = (ss.take k).foldl nxF 1 ∧ Below w.heap.size w wr) (fun _ iv _ => n - (intOf iv).toNat)
  case atStart => exact ⟨0, 1, by omega, rfl, rfl, rfl, Below.refl _ _⟩
  case round =>
    obtain ⟨k, x, hk, rfl, rfl, hx, hb⟩ := hrel
    have HX : Hid (x = (ss.take k).foldl nxF 1) := hx
    clear hx
    by_cases hlt : k < n
    · have hltI : (k : Int) < (n : Int) := by omega
      have hk0 : ¬ ((k : Int) < 0) := by omega
      obtain ⟨t, ht⟩ : ∃ z, ss[k]? = some z := ⟨ss[k]'(by omega), List.getElem?_eq_getElem (by omega)⟩
      have HT : Hid ((ss.take (k + 1)).foldl nxF 1 = if x < t.nx then t.nx else x) := by show _ = _; rw [foldl_take _ _ _ _ _ ht, ← HX.out]; rfl
      obtain ⟨b, off, hao, _, hc⟩ := h.2.2 (by omega)
      obtain ⟨ca, cc, oa, oc, ⟨c1, c2, c3, c4, c5⟩, hrest⟩ := hc k t ht
      replace c3 := (hb.cell (World.block_lt_of_cell? w _ c3)).trans c3
      obtain ⟨tn, te, tl, tx, th, tp⟩ := t
      simp only at c3 HT
      subst hao
      clear hc ht c1 c2 c4 c5 HX hrest
      by_cases hgt : x < tx
      · have hgtI : tx > x := hgt
        rw [if_pos hgt] at HT
        go_wp2
        go_roundw
        case rel => first | exact ⟨k + 1, _, by omega, by go_num, rfl, HT.out.symm, hb⟩ | ((repeat apply Exists.intro); exact ⟨⟨k + 1, _, by omega, by go_num, rfl, HT.out.symm, hb⟩, rfl⟩)
        case measure => simp [intOf]; omega
      · have hgtI : ¬ (tx > x) := hgt
        rw [if_neg hgt] at HT
        go_wp2
        go_roundw
        case rel => first | exact ⟨k + 1, _, by omega, by go_num, rfl, HT.out.symm, hb⟩ | ((repeat apply Exists.intro); exact ⟨⟨k + 1, _, by omega, by go_num, rfl, HT.out.symm, hb⟩, rfl⟩)
        case measure => simp [intOf]; omega
    · obtain rfl : n = k := by omega
      have hltI : ¬ ((n : Int) < (n : Int)) := by omega
      have HE : Hid (nxT ss = x) := by show _ = _; rw [HX.out, List.take_of_length_le (by omega)]; rfl
      clear HX
      go_wp2
      go_ret
      rw [HE.out]
      exact ⟨rfl, hb⟩
def S29 (b o : Nat) (th : Nat) (tp : Int) (g : Nat) (v : Nat × Int) (w : World) : Prop := w.cell? ⟨b, o + 3, none⟩ = some (.int .u64 (th : Nat)) ∧ w.cell? ⟨b, o + 4, none⟩ = some (.int .i64 tp) ∧ w.cell? ⟨g, 0, none⟩ = some (.int .u64 (v.1 : Nat)) ∧ w.cell? ⟨g, 1, none⟩ = some (.int .i64 v.2)
set_option maxRecDepth 10000 in
set_option maxHeartbeats 2000000 in
theorem refHigh_any (w : World) (ao : Option Addr) (n cap : Nat) (ss : List Pt) (h : SL (fun _ => True) w ao n ss) :
    Calls Try.prog 29 #[.slice ao n cap] w fun e w' => e = .returned (vid (highT ss).1 (highT ss).2) ∧ Below w.heap.size w w' := by
  have hl := h.1
  have hmax := h.2.1
  have ha := fun W a b c d => refCompare_any W a b c d
  have b0 : Below w.heap.size w ((w.alloc (.cells #[.int .u64 0, .int .i64 0] 32)).alloc (.cells #[.int .u64 0, .int .i64 0] 32)) := bl2 _ _ _
  have hsz : (w.alloc (.cells #[.int .u64 0, .int .i64 0] 32)).heap.size = w.heap.size + 1 := by simp
  have v0 : VB w.heap.size (0, 0) ((w.alloc (.cells #[.int .u64 0, .int .i64 0] 32)).alloc (.cells #[.int .u64 0, .int .i64 0] 32)) := (show VB w.heap.size (0, 0) (w.alloc (.cells #[.int .u64 0, .int .i64 0] 32)) from heap_alloc_new _ _).bl (bl1 _ _)
  have v1 : VB (w.heap.size + 1) (0, 0) ((w.alloc (.cells #[.int .u64 0, .int .i64 0] 32)).alloc (.cells #[.int .u64 0, .int .i64 0] 32)) := by
    rw [← hsz]
    exact heap_alloc_new _ _
  have hst0 : ((w.alloc (.cells #[.int .u64 0, .int .i64 0] 32)).alloc (.cells #[.int .u64 0, .int .i64 0] 32)).heap[w.heap.size + 1]? = some (.cells #[.int .u64 0, .int .i64 0] 32 (0, 0)) := v1
  have v1n := v1.set (0, 0)
  have v0n := v0.other #[.int .u64 ((0 : Nat) : Nat), .int .i64 0] (by omega : w.heap.size ≠ w.heap.size + 1)
  have b0n := bl_row b0 (g := w.heap.size + 1) (by omega) #[.int .u64 ((0 : Nat) : Nat), .int .i64 0]
  have HST : Hid (VB w.heap.size (0, 0) (((w.alloc (.cells #[.int .u64 0, .int .i64 0] 32)).alloc (.cells #[.int .u64 0, .int .i64 0] 32)).setRow (w.heap.size + 1) #[.int .u64 0, .int .i64 0]) ∧ VB (w.heap.size + 1) (0, 0) (((w.alloc (.cells #[.int .u64 0, .int .i64 0] 32)).alloc (.cells #[.int .u64 0, .int .i64 0] 32)).setRow (w.heap.size + 1) #[.int .u64 0, .int .i64 0]) ∧ Below w.heap.size w (((w.alloc (.cells #[.int .u64 0, .int .i64 0] 32)).alloc (.cells #[.int .u64 0, .int .i64 0] 32)).setRow (w.heap.size + 1) #[.int .u64 0, .int .i64 0])) := ⟨v0n, v1n, b0n⟩
  clear v0 v1 b0 v1n v0n b0n
  unfold vid at *
  go_enter Try.func29, Try.ntmps29
  go_wp2_with (refine wpList_store_row rfl 32 (.tmp 3) (.tmp 5) rfl (w.heap.size + 1) #[.int .u64 0, .int .i64 0] rfl rfl 32 _ hst0 info32 rfl (by simp [Value.oneCell']) ?_)
  go_loopw [4] (fun iv wr => ∃ (k : Nat), k ≤ n ∧ iv = .int .i64 k ∧ VB w.heap.size (0, 0) wr ∧ VB (w.heap.size + 1) ((ss.take k).foldl highF (0, 0)) wr ∧ Below w.heap.size w wr) (fun iv _ => n - (intOf iv).toNat)
  case atStart => exact ⟨0, by omega, rfl, HST.out⟩
  case round =>
    clear HST hst0 hsz
    obtain ⟨k, hk, rfl, hv0, hv1, hb⟩ := hrel
    by_cases hlt : k < n
    · have hltI : (k : Int) < (n : Int) := by omega
      have hk0 : ¬ ((k : Int) < 0) := by omega
      obtain ⟨t, ht⟩ : ∃ z, ss[k]? = some z := ⟨ss[k]'(by omega), List.getElem?_eq_getElem (by omega)⟩
      have HT : Hid ((ss.take (k + 1)).foldl highF (0, 0) = highF ((ss.take k).foldl highF (0, 0)) t) := foldl_take _ _ _ _ _ ht
      obtain ⟨b, off, hao, _, hc⟩ := h.2.2 (by omega)
      obtain ⟨ca, cc, oa, oc, ⟨c1, c2, c3, c4, c5⟩, _⟩ := hc k t ht
      replace c4 := (hb.cell (World.block_lt_of_cell? w _ c4)).trans c4
      replace c5 := (hb.cell (World.block_lt_of_cell? w _ c5)).trans c5
      obtain ⟨tn, te, tl, tx, th, tp⟩ := t
      simp only at c4 c5 HT
      subst hao
      generalize (ss.take k).foldl highF (0, 0) = hv at *
      have ud : Below wr.heap.size wr wr.drew := (Below.refl _ _).drew
      have HS : Hid (∀ W : World, Below wr.heap.size wr W → S29 b (off + k * 5) th tp (w.heap.size + 1) hv W) := fun W u => ⟨bl_cell u c4, bl_cell u c5, (hv1.bl u).at.1, (hv1.bl u).at.2⟩
      have s0 := HS.out _ ud
      unfold S29 at s0
      have HT2 : Hid ((ss.take (k + 1)).foldl highF (0, 0) = if decide (0 < cmpV th tp hv.1 hv.2) then (th, tp) else hv) := HT.out
      have hca := ha wr.drew th tp hv.1 hv.2
      clear hc ht HT c1 c2 c3
      by_cases hgt : 0 < cmpV th tp hv.1 hv.2
      · simp only [hgt, decide_true, if_true] at HT2
        have hgtI : cmpV th tp hv.1 hv.2 > 0 := hgt
        clear hgt
        generalize cmpV th tp hv.1 hv.2 = C at *
        go_wp2_with fail
        refine wp_region_noPanic ?_
        refine wp_region_held_drew (S := S29 b (off + k * 5) th tp (w.heap.size + 1) hv) (by kernel_rfl) s0 (fun hHeld => ?_)
        unfold S29 at hHeld
        refine tq 0 ?_
        refine tq 1 ?_
        refine tq 2 ?_
        refine tq 3 ?_
        refine tq 4 ?_
        refine tq 5 ?_
        refine comes_up 6 rfl (by kernel_rfl) (fun K hK => ?_)
        go_simp
        refine hca.mono ?_
        rintro e w9 ⟨rfl, hu9⟩
        have u9 := bl_step ud hu9.bl
        have hv0' := hv0.bl u9
        have hv1' := hv1.bl u9
        have hb9 := bl_step hb u9
        obtain ⟨d4, d5⟩ : _ ∧ _ := ⟨bl_cell u9 c4, bl_cell u9 c5⟩
        clear hca s0 hu9 hv0 hv1 hb c4 c5
        go_wp2_with fail
        refine hK.out _ _ (HS.out _ u9) (fun hHeld => ?_)
        clear hK K
        (try simp only [Act.put, List.setIfInBounds_toArray, List.set_cons_zero, List.set_cons_succ])
        refine tq 7 ?_
        refine wpAnyH_done (by kernel_rfl) ?_ _
        refine NoPanic.normal ?_
        clear hHeld HS
        have hv1n := hv1'.set (th, tp)
        have hv0n := hv0'.other #[.int .u64 (th : Nat), .int .i64 tp] (by omega : w.heap.size ≠ w.heap.size + 1)
        have hbn := bl_row hb9 (g := w.heap.size + 1) (by omega) #[.int .u64 (th : Nat), .int .i64 tp]
        have HN : Hid (VB w.heap.size (0, 0) (w9.setRow (w.heap.size + 1) #[.int .u64 (th : Nat), .int .i64 tp]) ∧ VB (w.heap.size + 1) (th, tp) (w9.setRow (w.heap.size + 1) #[.int .u64 (th : Nat), .int .i64 tp]) ∧ Below w.heap.size w (w9.setRow (w.heap.size + 1) #[.int .u64 (th : Nat), .int .i64 tp])) := ⟨hv0n, hv1n, hbn⟩
        have hst : w9.heap[w.heap.size + 1]? = some (.cells #[.int .u64 (hv.1 : Nat), .int .i64 hv.2] 32 (0, 0)) := hv1'
        clear hv1n hv0n hbn hv0' hv1' hb9
        go_wp2_with (refine wpList_store_row rfl 32 (.tmp 3) (.tmp 24) rfl (w.heap.size + 1) #[.int .u64 (th : Nat), .int .i64 tp] rfl rfl 32 _ hst info32 rfl (by simp [Value.oneCell']) ?_)
        go_roundw
        case rel => first | exact ⟨k + 1, by omega, by go_num, HN.out.1, by rw [HT2.out]; exact HN.out.2.1, HN.out.2.2⟩ | ((repeat apply Exists.intro); exact ⟨⟨k + 1, by omega, by go_num, HN.out.1, by rw [HT2.out]; exact HN.out.2.1, HN.out.2.2⟩, rfl⟩)
        case measure => simp [intOf]; omega
      · simp only [hgt, decide_false, Bool.false_eq_true, if_false] at HT2
        have hgtI : ¬ (cmpV th tp hv.1 hv.2 > 0) := hgt
        clear hgt
        generalize cmpV th tp hv.1 hv.2 = C at *
        go_wp2_with fail
        refine wp_region_noPanic ?_
        refine wp_region_held_drew (S := S29 b (off + k * 5) th tp (w.heap.size + 1) hv) (by kernel_rfl) s0 (fun hHeld => ?_)
        unfold S29 at hHeld
        refine tq 0 ?_
        refine tq 1 ?_
        refine tq 2 ?_
        refine tq 3 ?_
        refine tq 4 ?_
        refine tq 5 ?_
        refine comes_up 6 rfl (by kernel_rfl) (fun K hK => ?_)
        go_simp
        refine hca.mono ?_
        rintro e w9 ⟨rfl, hu9⟩
        have u9 := bl_step ud hu9.bl
        have hv0' := hv0.bl u9
        have hv1' := hv1.bl u9
        have hb9 := bl_step hb u9
        clear hca s0 hu9 hv0 hv1 hb c4 c5
        go_wp2_with fail
        refine hK.out _ _ (HS.out _ u9) (fun hHeld => ?_)
        clear hK K
        (try simp only [Act.put, List.setIfInBounds_toArray, List.set_cons_zero, List.set_cons_succ])
        refine tq 7 ?_
        refine wpAnyH_done (by kernel_rfl) ?_ _
        refine NoPanic.normal ?_
        clear hHeld HS
        go_wp2
        go_roundw
        case rel => first | exact ⟨k + 1, by omega, by go_num, hv0', by rw [HT2.out]; exact hv1', hb9⟩ | ((repeat apply Exists.intro); exact ⟨⟨k + 1, by omega, by go_num, hv0', by rw [HT2.out]; exact hv1', hb9⟩, rfl⟩)
        case measure => simp [intOf]; omega
    · obtain rfl : n = k := by omega
      have hltI : ¬ ((n : Int) < (n : Int)) := by omega
      have HE : Hid ((ss.take n).foldl highF (0, 0) = highT ss) := by show _ = _; rw [List.take_of_length_le (by omega)]; rfl
      obtain ⟨hh, HHH⟩ : ∃ v, Hid (highT ss = v) := ⟨_, rfl⟩
      rw [HE.out, HHH.out] at hv1
      obtain ⟨y0, y1⟩ := hv1.at
      have hst : wr.heap[w.heap.size]? = some (.cells #[.int .u64 ((0 : Nat) : Nat), .int .i64 0] 32 (0, 0)) := hv0
      have hvn := hv0.set hh
      have hbn := bl_row hb (g := w.heap.size) (Nat.le_refl _) #[.int .u64 (hh.1 : Nat), .int .i64 hh.2]
      have HN : Hid (VB w.heap.size hh (wr.setRow w.heap.size #[.int .u64 (hh.1 : Nat), .int .i64 hh.2]) ∧ Below w.heap.size w (wr.setRow w.heap.size #[.int .u64 (hh.1 : Nat), .int .i64 hh.2])) := ⟨hvn, hbn⟩
      clear hvn hbn hv0 hv1 hb HE
      go_wp2_with (refine wpList_store_row rfl 32 (.tmp 2) (.tmp 25) rfl w.heap.size #[.int .u64 (hh.1 : Nat), .int .i64 hh.2] rfl rfl 32 _ hst info32 rfl (by simp [Value.oneCell']) ?_)
      refine bodyPost_ret (results_cell_row Try.results29 _ _ w.heap.size 32 #[.int .u64 (hh.1 : Nat), .int .i64 hh.2] (0, 0) _ rfl HN.out.1 Try.underlying32 rfl info32) rfl ?_
      rw [HHH.out]
      exact ⟨rfl, HN.out.2⟩
/-- Nodes in memory. -/
def NL (w : World) (ao : Option Addr) (n : Nat) (ts : List Pt) : Prop := ts.length = n ∧ (0 < n → ∃ b off, ao = some ⟨b, off, none⟩ ∧ ∀ j t, ts[j]? = some t → w.cell? ⟨b, off + j, none⟩ = some (.int .i64 t.node))
theorem NL.bl {w w' : World} {ao : Option Addr} {n : Nat} {ts : List Pt} (h : NL w ao n ts) (u : Below w.heap.size w w') : NL w' ao n ts := ⟨h.1, fun hn => by
  obtain ⟨b, off, e, hc⟩ := h.2 hn
  exact ⟨b, off, e, fun j t hj => bl_cell u (hc j t hj)⟩⟩
theorem Tol.nl {w0 w : World} {p : Nat → Prop} {vt vn vs : Value} {et els es : List El} (h : Tol w0 w p vt vn vs et els es) : ∃ na nc, vn = .slice na els.length nc ∧ NL w na els.length (els.map (·.1)) := by
  have ho := h.rn
  rcases id ho.2 with ⟨hv, h0⟩ | ⟨g, cap, cur, hv, hg, hh, hnc, hcm, hcs, htk⟩
  · exact ⟨none, 0, by rw [h0]; exact hv, by simp, fun hn => by omega⟩
  · subst hv
    refine ⟨_, _, rfl, by simp, fun hn => ⟨g, 0, rfl, fun j t hj => ?_⟩⟩
    rw [List.getElem?_map] at hj
    obtain ⟨x, hx, rfl⟩ := Option.map_eq_some_iff.1 hj
    have := ho.cells (g := g) rfl j (cN x) (by rw [List.getElem?_map, hx]; rfl)
    rw [Addr.add_lit] at this
    exact this
/-- Who is chosen, by the place. -/
def Chn (hh : Nat × Int) (ts : List Pt) (k : Nat) (x : Int) : Prop := (x = -1 ∧ (ts.take k).foldl (chF hh) (-1) = -1) ∨ ∃ (j : Nat) (t : Pt), x = (j : Nat) ∧ j < k ∧ ts[j]? = some t ∧ (ts.take k).foldl (chF hh) (-1) = t.node
theorem Chn.no {hh : Nat × Int} {ts : List Pt} {k : Nat} {x : Int} {t : Pt} (h : Chn hh ts k x) (ht : ts[k]? = some t) (hq : (decide (t.hn = hh.1) && decide (t.hp = hh.2)) = false) : Chn hh ts (k + 1) x := by
  have e : (ts.take (k + 1)).foldl (chF hh) (-1) = (ts.take k).foldl (chF hh) (-1) := by rw [foldl_take _ _ _ _ _ ht]; unfold chF; rw [hq]; rfl
  unfold Chn
  rw [e]
  rcases h with h | ⟨j, u, h1, h2, h3⟩
  · exact .inl h
  · exact .inr ⟨j, u, h1, by omega, h3⟩
theorem Chn.fst {hh : Nat × Int} {ts : List Pt} {k : Nat} {t : Pt} (h : Chn hh ts k (-1)) (ht : ts[k]? = some t) (hq : (decide (t.hn = hh.1) && decide (t.hp = hh.2)) = true) (hn : 0 ≤ t.node) : Chn hh ts (k + 1) (k : Nat) := by
  rcases h with ⟨_, h⟩ | ⟨j, u, h1, _⟩
  · refine .inr ⟨k, t, rfl, by omega, ht, ?_⟩
    rw [foldl_take _ _ _ _ _ ht, h]
    unfold chF
    rw [hq]
    simp only [if_true]
    rw [if_pos (by omega)]
  · omega
theorem Chn.up {hh : Nat × Int} {ts : List Pt} {k j : Nat} {t u : Pt} (h : Chn hh ts k (j : Nat)) (hu : ts[j]? = some u) (ht : ts[k]? = some t) (hq : (decide (t.hn = hh.1) && decide (t.hp = hh.2)) = true) (hn : u.node < t.node) : Chn hh ts (k + 1) (k : Nat) := by
  rcases h with ⟨h, _⟩ | ⟨j', u', h1, _, h3, h4⟩
  · omega
  · obtain rfl : j = j' := by omega
    rw [hu] at h3
    cases h3
    refine .inr ⟨k, t, rfl, by omega, ht, ?_⟩
    rw [foldl_take _ _ _ _ _ ht, h4]
    unfold chF
    rw [hq]
    simp only [if_true]
    rw [if_pos hn]
theorem Chn.stay {hh : Nat × Int} {ts : List Pt} {k j : Nat} {t u : Pt} (h : Chn hh ts k (j : Nat)) (hu : ts[j]? = some u) (ht : ts[k]? = some t) (hq : (decide (t.hn = hh.1) && decide (t.hp = hh.2)) = true) (hn : ¬ u.node < t.node) : Chn hh ts (k + 1) (j : Nat) := by
  rcases h with ⟨h, _⟩ | ⟨j', u', h1, h2, h3, h4⟩
  · omega
  · obtain rfl : j = j' := by omega
    rw [hu] at h3
    cases h3
    refine .inr ⟨j, u, rfl, by omega, hu, ?_⟩
    rw [foldl_take _ _ _ _ _ ht, h4]
    unfold chF
    rw [hq]
    simp only [if_true]
    rw [if_neg hn]
end Go.Proofs.Ytooeemhlpmiceaa
