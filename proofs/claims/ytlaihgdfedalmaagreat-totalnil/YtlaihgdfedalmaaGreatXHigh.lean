/-
  exchange's High, Chosen and Next.
-/
import Derived.Test.YtlaihgdfedalmaaGreatXRep
import Derived.Test.YtlaihgdfedalmaaGreatEAlike
namespace Go.Proofs.YtlaihgdfedalmaaGreat
open Go.RowKit
set_option linter.unusedVariables false
set_option linter.unusedSimpArgs false

set_option maxRecDepth 10000 in
theorem above_any (w : World) (a b : Nat × Int) : Calls Tryz.prog 50 #[vid a.1 a.2, vid b.1 b.2] w fun e w' => e = .returned (.bool (gtV a b)) ∧ Up w w' := by
  have c1 := fun W => compare_any W a.1 a.2 b.1 b.2
  have up0 : Up w ((w.alloc (.cells #[.int .u64 (a.1 : Nat), .int .i64 a.2] 33)).alloc (.cells #[.int .u64 (b.1 : Nat), .int .i64 b.2] 33)) := ((Up.refl _).alloc _).alloc _
  have hsz : (w.alloc (.cells #[.int .u64 (a.1 : Nat), .int .i64 a.2] 33)).heap.size = w.heap.size + 1 := by simp
  have x0 := bl_cell (bl1 (w.alloc (.cells #[.int .u64 (a.1 : Nat), .int .i64 a.2] 33)) (.cells #[.int .u64 (b.1 : Nat), .int .i64 b.2] 33)) (cell_box w #[.int .u64 (a.1 : Nat), .int .i64 a.2] 33 0 _ rfl)
  have x1 := bl_cell (bl1 (w.alloc (.cells #[.int .u64 (a.1 : Nat), .int .i64 a.2] 33)) (.cells #[.int .u64 (b.1 : Nat), .int .i64 b.2] 33)) (cell_box w #[.int .u64 (a.1 : Nat), .int .i64 a.2] 33 1 _ rfl)
  have y0 := cell_box (w.alloc (.cells #[.int .u64 (a.1 : Nat), .int .i64 a.2] 33)) #[.int .u64 (b.1 : Nat), .int .i64 b.2] 33 0 _ rfl
  have y1 := cell_box (w.alloc (.cells #[.int .u64 (a.1 : Nat), .int .i64 a.2] 33)) #[.int .u64 (b.1 : Nat), .int .i64 b.2] 33 1 _ rfl
  rw [hsz] at y0 y1
  unfold gtV
  generalize cmpV a.1 a.2 b.1 b.2 = C at *
  obtain ⟨a0, a1⟩ := a
  obtain ⟨b0, b1⟩ := b
  unfold vid at *
  simp only at *
  clear hsz
  go_enter Tryz.func50, Tryz.ntmps50
  go_wp2_with fail
  refine (c1 _).mono ?_
  rintro e w1 ⟨rfl, hb⟩
  have up1 := up0.trans hb
  clear hb c1 up0 x0 x1 y0 y1
  go_wp2
  go_ret
  exact ⟨rfl, up1⟩

set_option maxRecDepth 10000 in
set_option maxHeartbeats 2000000 in
theorem high_any (p : Nat → Prop) (w : World) (ao : Option Addr) (n cap : Nat) (ts : List Pt) (h : TL p w ao n ts) :
    Calls Tryz.prog 132 #[.slice ao n cap] w fun e w' => e = .returned (vid (highT ts).1 (highT ts).2) ∧ Below w.heap.size w w' := by
  have hl := h.1
  have hmax := h.2.1
  have ha := fun W a b => above_any W a b
  have b0 : Below w.heap.size w ((w.alloc (.cells #[.int .u64 0, .int .i64 0] 33)).alloc (.cells #[.int .u64 0, .int .i64 0] 33)) := bl2 _ _ _
  have hsz : (w.alloc (.cells #[.int .u64 0, .int .i64 0] 33)).heap.size = w.heap.size + 1 := by simp
  have v0 : VB w.heap.size (0, 0) ((w.alloc (.cells #[.int .u64 0, .int .i64 0] 33)).alloc (.cells #[.int .u64 0, .int .i64 0] 33)) := (show VB w.heap.size (0, 0) (w.alloc (.cells #[.int .u64 0, .int .i64 0] 33)) from heap_alloc_new _ _).bl (bl1 _ _)
  have v1 : VB (w.heap.size + 1) (0, 0) ((w.alloc (.cells #[.int .u64 0, .int .i64 0] 33)).alloc (.cells #[.int .u64 0, .int .i64 0] 33)) := by
    rw [← hsz]
    exact heap_alloc_new _ _
  unfold vid at *
  go_enter Tryz.func132, Tryz.ntmps132
  go_wp2_with fail
  go_loopw [5, 8] (fun bv iv wr => ∃ (k : Nat), k ≤ n ∧ iv = .int .i64 k ∧ (∃ u, bv = u) ∧ VB w.heap.size (0, 0) wr ∧ VB (w.heap.size + 1) ((ts.take k).foldl highF (0, 0)) wr ∧ Below w.heap.size w wr) (fun _ iv _ => n - (intOf iv).toNat)
  case atStart => exact ⟨0, by omega, rfl, ⟨_, rfl⟩, v0, v1, b0⟩
  case round =>
    clear v0 v1 b0 hsz
    obtain ⟨k, hk, rfl, ⟨bv, hbv⟩, hv0, hv1, hb⟩ := hrel
    replace hbv := hbv.symm
    subst hbv
    by_cases hlt : k < n
    · have hltI : (k : Int) < (n : Int) := by omega
      have hk0 : ¬ ((k : Int) < 0) := by omega
      obtain ⟨t, ht⟩ : ∃ z, ts[k]? = some z := ⟨ts[k]'(by omega), List.getElem?_eq_getElem (by omega)⟩
      have HT : Hid ((ts.take (k + 1)).foldl highF (0, 0) = highF ((ts.take k).foldl highF (0, 0)) t) := foldl_take _ _ _ _ _ ht
      obtain ⟨b, off, hao, _, hc⟩ := h.2.2 (by omega)
      obtain ⟨c0, ca, cc, oa, oc, ⟨c1, c2, c3, c4, c5⟩, _⟩ := hc k t ht
      have kk : ∀ {ad : Addr} {v : Value}, w.cell? ad = some v → wr.cell? ad = some v := fun hv => (hb.cell (World.block_lt_of_cell? w _ hv)).trans hv
      replace c0 := kk c0
      replace c1 := kk c1
      replace c2 := kk c2
      replace c3 := kk c3
      replace c4 := kk c4
      replace c5 := kk c5
      obtain ⟨tn, te, tl, tx, th, tp⟩ := t
      simp only at c0 c1 c2 c3 c4 c5 HT
      subst hao
      generalize (ts.take k).foldl highF (0, 0) = hv at *
      have ba := bl1 wr (.cells #[.int .i64 tn, .slice ca te.length cc, .slice oa tl.length oc, .int .i64 tx, .int .u64 (th : Nat), .int .i64 tp] 120)
      have x4 := cell_box wr #[.int .i64 tn, .slice ca te.length cc, .slice oa tl.length oc, .int .i64 tx, .int .u64 (th : Nat), .int .i64 tp] 120 4 _ rfl
      have x5 := cell_box wr #[.int .i64 tn, .slice ca te.length cc, .slice oa tl.length oc, .int .i64 tx, .int .u64 (th : Nat), .int .i64 tp] 120 5 _ rfl
      obtain ⟨y0, y1⟩ := (hv1.bl ba).at
      have hb2 := bl_step hb ba
      have hv0' := hv0.bl ba
      have hv1' := hv1.bl ba
      obtain ⟨wa, hwa⟩ : ∃ W, Hid (wr.alloc (.cells #[.int .i64 tn, .slice ca te.length cc, .slice oa tl.length oc, .int .i64 tx, .int .u64 (th : Nat), .int .i64 tp] 120) = W) := ⟨_, rfl⟩
      have hca := ha (wr.alloc (.cells #[.int .i64 tn, .slice ca te.length cc, .slice oa tl.length oc, .int .i64 tx, .int .u64 (th : Nat), .int .i64 tp] 120)) (th, tp) hv
      have sz : wr.heap.size < (wr.alloc (.cells #[.int .i64 tn, .slice ca te.length cc, .slice oa tl.length oc, .int .i64 tx, .int .u64 (th : Nat), .int .i64 tp] 120)).heap.size := by simp
      have HX : Hid (∀ W, Below wa.heap.size wa W → W.cell? ⟨wr.heap.size, 4, none⟩ = some (.int .u64 (th : Nat)) ∧ W.cell? ⟨wr.heap.size, 5, none⟩ = some (.int .i64 tp)) := by
        rw [hwa.out] at x4 x5
        exact fun W u => ⟨bl_cell u x4, bl_cell u x5⟩
      clear hc ht kk hv0 hv1 hb ba
      go_wp2_with (refine wpList_load_T rfl (.tmp 10) rfl b (off + k * 6) rfl _ _ _ _ _ _ c0 c1 c2 c3 c4 c5 ?_)
      refine hca.mono ?_
      rw [hwa.out] at hv0' hv1' hb2 sz
      rw [hwa.out]
      rintro e w2 ⟨rfl, u2⟩
      have hv0 := hv0'.bl u2.bl
      have hv1 := hv1'.bl u2.bl
      have hb3 := bl_step hb2 u2.bl
      obtain ⟨z4, z5⟩ := HX.out w2 u2.bl
      clear hca x4 x5 y0 y1 HX hwa c0 c1 c2 c3 c4 c5 hv0' hv1' hb2 u2
      have HT2 : Hid ((ts.take (k + 1)).foldl highF (0, 0) = if gtV (th, tp) hv then (th, tp) else hv) := HT.out
      clear HT
      cases hgt : gtV (th, tp) hv with
      | true =>
        rw [hgt] at HT2
        simp only [if_true] at HT2
        have hv1n := hv1.set (th, tp)
        have hv0n := hv0.other #[.int .u64 (th : Nat), .int .i64 tp] (by omega : w.heap.size ≠ w.heap.size + 1)
        have hbn := bl_row hb3 (g := w.heap.size + 1) (by omega) #[.int .u64 (th : Nat), .int .i64 tp]
        have HN : Hid (VB w.heap.size (0, 0) (w2.setRow (w.heap.size + 1) #[.int .u64 (th : Nat), .int .i64 tp]) ∧ VB (w.heap.size + 1) (th, tp) (w2.setRow (w.heap.size + 1) #[.int .u64 (th : Nat), .int .i64 tp]) ∧ Below w.heap.size w (w2.setRow (w.heap.size + 1) #[.int .u64 (th : Nat), .int .i64 tp])) := ⟨hv0n, hv1n, hbn⟩
        have hst : w2.heap[w.heap.size + 1]? = some (.cells #[.int .u64 (hv.1 : Nat), .int .i64 hv.2] 33 (0, 0)) := hv1
        clear hv1n hv0n hbn hv0 hv1 hb3 hgt
        go_wp2_with (refine wpList_store_row rfl 33 (.tmp 3) (.tmp 19) rfl (w.heap.size + 1) #[.int .u64 (th : Nat), .int .i64 tp] rfl rfl 33 _ hst info32 rfl (by simp [Value.oneCell']) ?_)
        go_roundw
        case rel => first | exact ⟨k + 1, by omega, by go_num, ⟨_, rfl⟩, HN.out.1, by rw [HT2.out]; exact HN.out.2.1, HN.out.2.2⟩ | ((repeat apply Exists.intro); exact ⟨⟨k + 1, by omega, by go_num, ⟨_, rfl⟩, HN.out.1, by rw [HT2.out]; exact HN.out.2.1, HN.out.2.2⟩, rfl⟩)
        case measure => simp [intOf]; omega
      | false =>
        rw [hgt] at HT2
        simp only [Bool.false_eq_true, if_false] at HT2
        clear hgt
        go_wp2
        go_roundw
        case rel => first | exact ⟨k + 1, by omega, by go_num, ⟨_, rfl⟩, hv0, by rw [HT2.out]; exact hv1, hb3⟩ | ((repeat apply Exists.intro); exact ⟨⟨k + 1, by omega, by go_num, ⟨_, rfl⟩, hv0, by rw [HT2.out]; exact hv1, hb3⟩, rfl⟩)
        case measure => simp [intOf]; omega
    · obtain rfl : n = k := by omega
      have hltI : ¬ ((n : Int) < (n : Int)) := by omega
      have HE : Hid ((ts.take n).foldl highF (0, 0) = highT ts) := by show _ = _; rw [List.take_of_length_le (by omega)]; rfl
      obtain ⟨hh, HHH⟩ : ∃ v, Hid (highT ts = v) := ⟨_, rfl⟩
      rw [HE.out, HHH.out] at hv1
      obtain ⟨y0, y1⟩ := hv1.at
      have hst : wr.heap[w.heap.size]? = some (.cells #[.int .u64 ((0 : Nat) : Nat), .int .i64 0] 33 (0, 0)) := hv0
      have hvn := hv0.set hh
      have hbn := bl_row hb (g := w.heap.size) (Nat.le_refl _) #[.int .u64 (hh.1 : Nat), .int .i64 hh.2]
      have HN : Hid (VB w.heap.size hh (wr.setRow w.heap.size #[.int .u64 (hh.1 : Nat), .int .i64 hh.2]) ∧ Below w.heap.size w (wr.setRow w.heap.size #[.int .u64 (hh.1 : Nat), .int .i64 hh.2])) := ⟨hvn, hbn⟩
      clear hvn hbn hv0 hv1 hb HE
      go_wp2_with (refine wpList_store_row rfl 33 (.tmp 2) (.tmp 21) rfl w.heap.size #[.int .u64 (hh.1 : Nat), .int .i64 hh.2] rfl rfl 33 _ hst info32 rfl (by simp [Value.oneCell']) ?_)
      refine bodyPost_ret (results_cell_row Tryz.results132 _ _ w.heap.size 33 #[.int .u64 (hh.1 : Nat), .int .i64 hh.2] (0, 0) _ rfl HN.out.1 Tryz.underlying33 rfl info32) rfl ?_
      rw [HHH.out]
      exact ⟨rfl, HN.out.2⟩
end Go.Proofs.YtlaihgdfedalmaaGreat
