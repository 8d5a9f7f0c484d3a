/-
  exchange's Chosen and Next.
-/
import Derived.Test.YtlaihgdfedalmaaGreatXHigh
namespace Go.Proofs.YtlaihgdfedalmaaGreat
open Go.RowKit
set_option linter.unusedVariables false
set_option linter.unusedSimpArgs false

set_option maxRecDepth 10000 in
set_option maxHeartbeats 2000000 in
theorem next_any (p : Nat → Prop) (w : World) (ao : Option Addr) (n cap : Nat) (ts : List Pt) (h : TL p w ao n ts) :
    Calls Tryz.prog 130 #[.slice ao n cap] w fun e w' => e = .returned (.int .i64 (nxT ts)) ∧ Below w.heap.size w w' := by
  have hl := h.1
  have hmax := h.2.1
  go_enter Tryz.func130, Tryz.ntmps130
  go_wp2_with fail
  go_loopw [3, 5, 8] (fun nv bv iv wr => ∃ (k : Nat) (x : Int), k ≤ n ∧ iv = .int .i64 k ∧ nv = .int .i64 x ∧ (∃ u, bv = u) ∧ x = (ts.take k).foldl nxF 1 ∧ Below w.heap.size w wr) (fun _ _ iv _ => n - (intOf iv).toNat)
  case atStart => exact ⟨0, 1, by omega, rfl, rfl, ⟨_, rfl⟩, rfl, Below.refl _ _⟩
  case round =>
    obtain ⟨k, x, hk, rfl, rfl, ⟨bv, hbv⟩, hx, hb⟩ := hrel
    have HX : Hid (x = (ts.take k).foldl nxF 1) := hx
    clear hx
    replace hbv := hbv.symm
    subst hbv
    by_cases hlt : k < n
    · have hltI : (k : Int) < (n : Int) := by omega
      have hk0 : ¬ ((k : Int) < 0) := by omega
      obtain ⟨t, ht⟩ : ∃ z, ts[k]? = some z := ⟨ts[k]'(by omega), List.getElem?_eq_getElem (by omega)⟩
      have HT : Hid ((ts.take (k + 1)).foldl nxF 1 = if x < t.nx then t.nx else x) := by show _ = _; rw [foldl_take _ _ _ _ _ ht, ← HX.out]; rfl
      obtain ⟨b, off, hao, _, hc⟩ := h.2.2 (by omega)
      obtain ⟨c0, ca, cc, oa, oc, ⟨c1, c2, c3, c4, c5⟩, hrest⟩ := hc k t ht
      have kk : ∀ {ad : Addr} {v : Value}, w.cell? ad = some v → wr.cell? ad = some v := fun hv => (hb.cell (World.block_lt_of_cell? w _ hv)).trans hv
      replace c0 := kk c0
      replace c1 := kk c1
      replace c2 := kk c2
      replace c3 := kk c3
      replace c4 := kk c4
      replace c5 := kk c5
      obtain ⟨tn, te, tl, tx, th, tp⟩ := t
      simp only at c0 c1 c2 c3 c4 c5 HT
      subst hao
      have ba := bl1 wr (.cells #[.int .i64 tn, .slice ca te.length cc, .slice oa tl.length oc, .int .i64 tx, .int .u64 (th : Nat), .int .i64 tp] 120)
      have xx := fun j v hj => cell_box wr #[.int .i64 tn, .slice ca te.length cc, .slice oa tl.length oc, .int .i64 tx, .int .u64 (th : Nat), .int .i64 tp] 120 j v hj
      have x0 := xx 0 _ rfl
      have x1 := xx 1 _ rfl
      have x3 := xx 3 _ rfl
      have x4 := xx 4 _ rfl
      have x5 := xx 5 _ rfl
      have hb2 := bl_step hb ba
      clear hc ht kk hb ba xx HX hrest
      go_wp2_with (refine wpList_load_T rfl (.tmp 10) rfl b (off + k * 6) rfl _ _ _ _ _ _ c0 c1 c2 c3 c4 c5 ?_)
      go_roundw
      case rel => first | exact ⟨k + 1, _, by omega, by go_num, rfl, ⟨_, rfl⟩, HT.out.symm, hb2⟩ | ((repeat apply Exists.intro); exact ⟨⟨k + 1, _, by omega, by go_num, rfl, ⟨_, rfl⟩, HT.out.symm, hb2⟩, rfl⟩)
      case measure => simp [intOf]; omega
    · obtain rfl : n = k := by omega
      have hltI : ¬ ((n : Int) < (n : Int)) := by omega
      have HE : Hid (nxT ts = x) := by show _ = _; rw [HX.out, List.take_of_length_le (by omega)]; rfl
      clear HX
      go_wp2
      go_ret
      rw [HE.out]
      exact ⟨rfl, hb⟩
set_option maxRecDepth 10000 in
set_option maxHeartbeats 2000000 in
theorem chosen_any (p : Nat → Prop) (w : World) (ao : Option Addr) (n cap : Nat) (ts : List Pt) (h : TL p w ao n ts) :
    Calls Tryz.prog 160 #[.slice ao n cap] w fun e w' => e = .returned (.int .i64 (chT ts)) ∧ Below w.heap.size w w' := by
  have hl := h.1
  have hmax := h.2.1
  have hhi := high_any p w ao n cap ts h
  unfold vid at hhi
  unfold chT
  generalize highT ts = hh at *
  go_enter Tryz.func160, Tryz.ntmps160
  go_wp2_with fail
  refine hhi.mono ?_
  rintro e w1 ⟨rfl, u1⟩
  have v1 : VB w1.heap.size hh (w1.alloc (.cells #[.int .u64 (hh.1 : Nat), .int .i64 hh.2] 33)) := heap_alloc_new _ _
  have b1 := bl_step u1 (bl1 w1 (.cells #[.int .u64 (hh.1 : Nat), .int .i64 hh.2] 33))
  obtain ⟨g1, hg1⟩ : ∃ g, Hid (w1.heap.size = g) := ⟨_, rfl⟩
  rw [hg1.out] at v1
  clear hhi u1
  go_wp2_with fail
  rw [hg1.out]
  go_loopw [4, 6, 11] (fun nv bv iv wr => ∃ (k : Nat) (x : Int), k ≤ n ∧ iv = .int .i64 k ∧ nv = .int .i64 x ∧ (∃ u, bv = u) ∧ x = (ts.take k).foldl (chF hh) (-1) ∧ VB g1 hh wr ∧ Below w.heap.size w wr) (fun _ _ iv _ => n - (intOf iv).toNat)
  case atStart => exact ⟨0, -1, by omega, rfl, rfl, ⟨_, rfl⟩, rfl, v1, b1⟩
  case round =>
    clear v1 b1
    obtain ⟨k, x, hk, rfl, rfl, ⟨bv, hbv⟩, hx, hv1, hb⟩ := hrel
    have HX : Hid (x = (ts.take k).foldl (chF hh) (-1)) := hx
    clear hx
    replace hbv := hbv.symm
    subst hbv
    by_cases hlt : k < n
    · have hltI : (k : Int) < (n : Int) := by omega
      have hk0 : ¬ ((k : Int) < 0) := by omega
      obtain ⟨t, ht⟩ : ∃ z, ts[k]? = some z := ⟨ts[k]'(by omega), List.getElem?_eq_getElem (by omega)⟩
      have HT : Hid ((ts.take (k + 1)).foldl (chF hh) (-1) = if (decide (t.hn = hh.1) && decide (t.hp = hh.2)) then (if x < t.node then t.node else x) else x) := by show _ = _; rw [foldl_take _ _ _ _ _ ht, ← HX.out]; rfl
      obtain ⟨b, off, hao, _, hc⟩ := h.2.2 (by omega)
      obtain ⟨c0, ca, cc, oa, oc, ⟨c1, c2, c3, c4, c5⟩, hrest⟩ := hc k t ht
      have kk : ∀ {ad : Addr} {v : Value}, w.cell? ad = some v → wr.cell? ad = some v := fun hv => (hb.cell (World.block_lt_of_cell? w _ hv)).trans hv
      replace c0 := kk c0
      replace c1 := kk c1
      replace c2 := kk c2
      replace c3 := kk c3
      replace c4 := kk c4
      replace c5 := kk c5
      obtain ⟨tn, te, tl, tx, th, tp⟩ := t
      simp only at c0 c1 c2 c3 c4 c5 HT
      subst hao
      have ba := bl1 wr (.cells #[.int .i64 tn, .slice ca te.length cc, .slice oa tl.length oc, .int .i64 tx, .int .u64 (th : Nat), .int .i64 tp] 120)
      have xx := fun j v hj => cell_box wr #[.int .i64 tn, .slice ca te.length cc, .slice oa tl.length oc, .int .i64 tx, .int .u64 (th : Nat), .int .i64 tp] 120 j v hj
      have x0 := xx 0 _ rfl
      have x1 := xx 1 _ rfl
      have x3 := xx 3 _ rfl
      have x4 := xx 4 _ rfl
      have x5 := xx 5 _ rfl
      have hb2 := bl_step hb ba
      have hv1a := hv1.bl ba
      obtain ⟨y0, y1⟩ := hv1a.at
      have heq := fun W => vid_equal th tp hh.1 hh.2 W
      obtain ⟨q, hq⟩ : ∃ q, (decide (th = hh.1) && decide (tp = hh.2)) = q := ⟨_, rfl⟩
      rw [hq] at heq HT
      clear hc ht kk hb ba xx HX hrest hv1 hq
      cases q with
      | true =>
        simp only [if_true] at HT
        go_wp2_with (refine wpList_load_T rfl (.tmp 13) rfl b (off + k * 6) rfl _ _ _ _ _ _ c0 c1 c2 c3 c4 c5 ?_)
        go_roundw
        case rel => first | exact ⟨k + 1, _, by omega, by go_num, rfl, ⟨_, rfl⟩, HT.out.symm, hv1a, hb2⟩ | ((repeat apply Exists.intro); exact ⟨⟨k + 1, _, by omega, by go_num, rfl, ⟨_, rfl⟩, HT.out.symm, hv1a, hb2⟩, rfl⟩)
        case measure => simp [intOf]; omega
      | false =>
        simp only [Bool.false_eq_true, if_false] at HT
        go_wp2_with (refine wpList_load_T rfl (.tmp 13) rfl b (off + k * 6) rfl _ _ _ _ _ _ c0 c1 c2 c3 c4 c5 ?_)
        go_roundw
        case rel => first | exact ⟨k + 1, _, by omega, by go_num, rfl, ⟨_, rfl⟩, HT.out.symm, hv1a, hb2⟩ | ((repeat apply Exists.intro); exact ⟨⟨k + 1, _, by omega, by go_num, rfl, ⟨_, rfl⟩, HT.out.symm, hv1a, hb2⟩, rfl⟩)
        case measure => simp [intOf]; omega
    · obtain rfl : n = k := by omega
      have hltI : ¬ ((n : Int) < (n : Int)) := by omega
      have HE : Hid (ts.foldl (chF hh) (-1) = x) := by show _ = _; rw [HX.out, List.take_of_length_le (by omega)]
      clear HX hv1
      go_wp2
      go_ret
      rw [HE.out]
      exact ⟨rfl, hb⟩
end Go.Proofs.YtlaihgdfedalmaaGreat
