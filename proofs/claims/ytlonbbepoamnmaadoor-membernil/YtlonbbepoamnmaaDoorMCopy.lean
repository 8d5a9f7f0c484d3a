/-
  A state in memory of its own (member.copied).
-/
import Derived.Test.YtlonbbepoamnmaaDoorMRead
import Derived.Test.YtlonbbepoamnmaaDoorMHold
namespace Go.Proofs.YtlonbbepoamnmaaDoor
open Go.RowKit
set_option linter.unusedVariables false

theorem heap_cell {w : World} {b j : Nat} {cs : Array Value} {t : TypeId} {fr : Nat × Nat} {v : Value} (h : w.heap[b]? = some (.cells cs t fr)) (hj : cs[j]? = some v) : w.cell? ⟨b, j, none⟩ = some v := by
  unfold World.cell?; rw [h]; simpa using hj
theorem heap_free {w : World} {b : Nat} {cs : Array Value} {t : TypeId} (h : w.heap[b]? = some (.cells cs t (0, 0))) (j : Nat) : w.frozen? ⟨b, j, none⟩ = false := by
  simp [World.frozen?, h]
theorem heap_lt {w : World} {b : Nat} {o : Obj} (h : w.heap[b]? = some o) : b < w.heap.size := (Array.getElem?_eq_some_iff.1 h).1
def zeroSt : Array Value := #[.int .u64 0, .int .i64 0, .int .i64 0, .slice none 0 0]
theorem info45 : (Tryd.prog.info? 45).map (·.size) = some 4 := by kernel_rfl
/-- What holds between the rounds of copied. -/
structure Cp (w wr : World) (B g : Nat) (x : Sx) (cap k : Nat) (xs ys : List Ix) (ds : List Di) : Prop where
  ir : IR (fun b => b = g) wr (some ⟨g, 0, none⟩) x.2.2.2.2.1 ys
  tl : ∀ j, k ≤ j → ys[j]? = xs[j]?
  its : ∀ (j : Nat) (y : Ix) (d : Di), j < k → ys[j]? = some y → ds[j]? = some d → It (fun b => w.heap.size ≤ b ∧ b ≠ g ∧ b ≠ B ∧ b ≠ B + 1) wr y d
  bl : Below w.heap.size w wr
  gl : g < wr.heap.size
  fz : ∀ i, wr.frozen? ⟨g, i, none⟩ = false
  bx : wr.heap[B]? = some (.cells #[.int .u64 (x.1 : Nat), .int .i64 x.2.1, .int .i64 x.2.2.1, .slice (some ⟨g, 0, none⟩) x.2.2.2.2.1 cap] 45 (0, 0))
  rs : wr.heap[B + 1]? = some (.cells #[.int .u64 0, .int .i64 0, .int .i64 0, .slice none 0 0] 45 (0, 0))

set_option maxRecDepth 10000 in
set_option maxHeartbeats 2000000 in
theorem copied3_any (p : Nat → Prop) (w : World) (x : Sx) (d : Sd) (h : Si p w x d) :
    Calls Tryd.prog 73 #[sta x] w fun e w' => ∃ ao' cap', e = .returned (sta (x.1, x.2.1, x.2.2.1, ao', x.2.2.2.2.1, cap')) ∧ Si (fun b => w.heap.size ≤ b) w' (x.1, x.2.1, x.2.2.1, ao', x.2.2.2.2.1, cap') d ∧ Below w.heap.size w w' := by
  obtain ⟨e1, e2, e3, xs, hI, hd, hit⟩ := h
  obtain ⟨ds, hds⟩ : ∃ ds, d.2.2.2 = ds := ⟨_, rfl⟩
  have HSi : Hid (∀ (w' : World) ao' cap', Its (fun b => w.heap.size ≤ b) w' ao' x.2.2.2.2.1 ds → Si (fun b => w.heap.size ≤ b) w' (x.1, x.2.1, x.2.2.1, ao', x.2.2.2.2.1, cap') d) := fun w' ao' cap' hh => ⟨e1, e2, e3, by rw [hds]; exact hh⟩
  rw [hds] at hd hit
  clear e1 e2 e3 hds
  obtain ⟨B, hB⟩ : ∃ B, B = w.heap.size := ⟨_, rfl⟩
  obtain ⟨w2, hw2⟩ : ∃ w2, (w.alloc (.cells #[.int .u64 (x.1 : Nat), .int .i64 x.2.1, .int .i64 x.2.2.1, .slice x.2.2.2.1 x.2.2.2.2.1 x.2.2.2.2.2] 45)).alloc (.cells #[.int .u64 0, .int .i64 0, .int .i64 0, .slice none 0 0] 45) = w2 := ⟨_, rfl⟩
  have hb2 : Below w.heap.size w w2 := by rw [← hw2]; exact bl2 _ _ _
  have hs2 : w2.heap.size = B + 2 := by rw [← hw2, hB]; simp
  have bx2 : w2.heap[B]? = some (.cells #[.int .u64 (x.1 : Nat), .int .i64 x.2.1, .int .i64 x.2.2.1, .slice x.2.2.2.1 x.2.2.2.2.1 x.2.2.2.2.2] 45 (0, 0)) := by
    rw [← hw2, hB, Below.heap_alloc _ _ _ (by simp)]; exact heap_alloc_new _ _
  have rs2 : w2.heap[B + 1]? = some (.cells #[.int .u64 0, .int .i64 0, .int .i64 0, .slice none 0 0] 45 (0, 0)) := by
    have := heap_alloc_new (w.alloc (.cells #[.int .u64 (x.1 : Nat), .int .i64 x.2.1, .int .i64 x.2.2.1, .slice x.2.2.2.1 x.2.2.2.2.1 x.2.2.2.2.2] 45)) (.cells #[.int .u64 0, .int .i64 0, .int .i64 0, .slice none 0 0] 45)
    rw [← hw2, hB]
    simpa using this
  have hcl := cloneI2_any p w2 x.2.2.2.1 x.2.2.2.2.1 x.2.2.2.2.2 xs (hI.keep (Kp.up hb2))
  have hxl := hI.1
  have hm := hI.2.1
  have HIT : Hid (∀ (j : Nat) (y : Ix) (d : Di), xs[j]? = some y → ds[j]? = some d → It p w y d) := hit
  have c3 := heap_cell (j := 3) bx2 rfl
  have f3 := heap_free bx2 3
  have H2 : Hid (w2.heap[B]? = some (.cells #[.int .u64 (x.1 : Nat), .int .i64 x.2.1, .int .i64 x.2.2.1, .slice x.2.2.2.1 x.2.2.2.2.1 x.2.2.2.2.2] 45 (0, 0)) ∧ w2.heap[B + 1]? = some (.cells #[.int .u64 0, .int .i64 0, .int .i64 0, .slice none 0 0] 45 (0, 0)) ∧ w2.heap.size = B + 2 ∧ Below w.heap.size w w2 ∧ B = w.heap.size) := ⟨bx2, rs2, hs2, hb2, hB⟩
  clear hI hit bx2 rs2 hs2 hb2
  have HW : Hid ((w.alloc (.cells #[.int .u64 (x.1 : Nat), .int .i64 x.2.1, .int .i64 x.2.2.1, .slice x.2.2.2.1 x.2.2.2.2.1 x.2.2.2.2.2] 45)).alloc (.cells #[.int .u64 0, .int .i64 0, .int .i64 0, .slice none 0 0] 45) = w2 ∧ w.heap.size = B) := ⟨hw2, hB.symm⟩
  clear hw2 hB c3 f3
  unfold sta
  go_enter Tryd.func73, Tryd.ntmps73
  go_wp2_with fail
  simp only [HW.out.1, HW.out.2]
  clear HW
  refine hcl.mono ?_
  rintro e w0 ⟨⟨v, rfl, hv⟩, hb0⟩
  clear hcl
  have bx0 : w0.heap[B]? = some (.cells #[.int .u64 (x.1 : Nat), .int .i64 x.2.1, .int .i64 x.2.2.1, .slice x.2.2.2.1 x.2.2.2.2.1 x.2.2.2.2.2] 45 (0, 0)) := (hb0.block B (by have := H2.out.2.2.1; omega)).trans H2.out.1
  have rs0 : w0.heap[B + 1]? = some (.cells #[.int .u64 0, .int .i64 0, .int .i64 0, .slice none 0 0] 45 (0, 0)) := (hb0.block (B + 1) (by have := H2.out.2.2.1; omega)).trans H2.out.2.1
  have c3 := heap_cell (j := 3) bx0 rfl
  have f3 := heap_free bx0 3
  rcases hv with ⟨rfl, hn0⟩ | ⟨g, cap', rfl, hg, hg2, hcc1, hcc2, hfz, hIR⟩
  · obtain ⟨w3, hw3⟩ : ∃ w3, w0.setCell ⟨B, 3, none⟩ (.slice none 0 0) = w3 := ⟨_, rfl⟩
    have bx3 : w3.heap[B]? = some (.cells #[.int .u64 (x.1 : Nat), .int .i64 x.2.1, .int .i64 x.2.2.1, .slice none 0 0] 45 (0, 0)) := by
      rw [← hw3, heap_setCell_same w0 B 3 _ 45 _ bx0]; rfl
    have rs3 : w3.heap[B + 1]? = some (.cells #[.int .u64 0, .int .i64 0, .int .i64 0, .slice none 0 0] 45 (0, 0)) := by
      rw [← hw3, heap_setCell_other _ _ _ _ (by simp)]; exact rs0
    have hb3 : Below w.heap.size w w3 := by rw [← hw3]; exact (bl_step H2.out.2.2.2.1 hb0).setCell (by have := H2.out.2.2.2.2; show w.heap.size ≤ B; omega) _
    have d0 := heap_cell (j := 0) bx3 rfl
    have d1 := heap_cell (j := 1) bx3 rfl
    have d2 := heap_cell (j := 2) bx3 rfl
    have d3 := heap_cell (j := 3) bx3 rfl
    have hset := setRow_heap w3 (B + 1) _ #[.int .u64 (x.1 : Nat), .int .i64 x.2.1, .int .i64 x.2.2.1, .slice none 0 0] 45 (0, 0) rs3
    have HE : Hid (∃ ao' cap', Value.agg #[.int .u64 (x.1 : Nat), .int .i64 x.2.1, .int .i64 x.2.2.1, .slice none 0 0] = Value.agg #[.int .u64 (x.1 : Nat), .int .i64 x.2.1, .int .i64 x.2.2.1, .slice ao' x.2.2.2.2.1 cap'] ∧ Si (fun b => w.heap.size ≤ b) (w3.setRow (B + 1) #[.int .u64 (x.1 : Nat), .int .i64 x.2.1, .int .i64 x.2.2.1, .slice none 0 0]) (x.1, x.2.1, x.2.2.1, ao', x.2.2.2.2.1, cap') d ∧ Below w.heap.size w (w3.setRow (B + 1) #[.int .u64 (x.1 : Nat), .int .i64 x.2.1, .int .i64 x.2.2.1, .slice none 0 0])) := by
      refine ⟨none, 0, by rw [hn0], HSi.out _ _ _ ?_, ?_⟩
      · rw [hn0]
        have : ds = [] := List.length_eq_zero_iff.1 (by rw [hd, hn0])
        rw [this]
        exact ⟨[], ⟨rfl, by omega, fun _ => rfl, fun h => by omega⟩, rfl, fun j x d hx => by simp at hx⟩
      · exact ⟨hb3.os, hb3.tape, hb3.output, by rw [size_setRow]; exact hb3.size, fun k hk => by rw [setRow_other _ _ _ _ (by have := H2.out.2.2.2.2; omega)]; exact hb3.block k hk⟩
    clear rs0 hb0 H2 HIT HSi hn0 hxl hd hb3
    go_wp2_with fail
    (try simp only [hw3])
    refine wp_loop_rounds 1 ?_
    rw [rounds_succ]
    go_wp2_with (first | (refine wpList_store_row rfl 45 (.tmp 2) (.tmp 27) rfl (B + 1) #[.int .u64 (x.1 : Nat), .int .i64 x.2.1, .int .i64 x.2.2.1, .slice none 0 0] rfl rfl 45 _ rs3 info45 rfl (by simp [Value.oneCell']) ?_))
    refine bodyPost_ret (results_cell1 (g := B + 1) (cs := #[.int .u64 (x.1 : Nat), .int .i64 x.2.1, .int .i64 x.2.2.1, .slice none 0 0]) Tryd.results73 rfl (run_loadVar_row _ (B + 1) 45 45 _ (0, 0) _ hset Tryd.underlying45 rfl (by kernel_rfl))) rfl ?_
    obtain ⟨ao', cap', h1, h2⟩ := HE.out
    exact ⟨ao', cap', by rw [h1], h2⟩
  · obtain ⟨w3, hw3⟩ : ∃ w3, w0.setCell ⟨B, 3, none⟩ (.slice (some ⟨g, 0, none⟩) x.2.2.2.2.1 cap') = w3 := ⟨_, rfl⟩
    have hs2 := H2.out.2.2.1
    have hBw := H2.out.2.2.2.2
    have H3 : Hid (Cp w w3 B g x cap' 0 xs xs ds) := by
      rw [← hw3]
      exact { ir := hIR.keep (Kp.setCell (fun b hb => by omega)), tl := fun _ _ => rfl, its := fun j y d hj => by omega, bl := (bl_step H2.out.2.2.2.1 hb0).setCell (by show w.heap.size ≤ B; omega) _, gl := by simp [World.setCell]; exact hg2, fz := fun i => by rw [World.frozen?_setCell]; exact hfz i, bx := by rw [heap_setCell_same w0 B 3 _ 45 _ bx0]; rfl, rs := by rw [heap_setCell_other _ _ _ _ (by simp)]; exact rs0 }
    have d3 := heap_cell (j := 3) H3.out.bx rfl
    have HG : Hid (B + 2 ≤ g ∧ w.heap.size = B) := ⟨by omega, hBw.symm⟩
    clear rs0 hb0 H2 hIR hfz hg2 hg hs2 hBw
    obtain ⟨n, hn⟩ : ∃ n, x.2.2.2.2.1 = n := ⟨_, rfl⟩
    rw [hn] at hxl hm hcc1 d3 hd
    rw [hn] at hw3
    go_wp2_with fail
    (try simp only [hn, hw3])
    clear hw3 bx0 c3 f3
    clear d3
    go_loopw [3, 11] (fun _ kv wr => ∃ (k : Nat) (ys : List Ix), k ≤ n ∧ kv = .int .i64 (k : Nat) ∧ Cp w wr B g x cap' k xs ys ds) (fun _ kv _ => n - (intOf kv).toNat)
    case atStart => exact ⟨0, xs, by omega, rfl, H3.out⟩
    case round =>
      clear H3
      obtain ⟨k, ys, hk, rfl, hcp⟩ := hrel
      have HC : Hid (Cp w wr B g x cap' k xs ys ds) := hcp
      by_cases hlt : k < n
      · have hltI : (k : Int) < (n : Int) := by omega
        obtain ⟨y, hy⟩ : ∃ y, xs[k]? = some y := ⟨xs[k]'(by omega), List.getElem?_eq_getElem (by omega)⟩
        obtain ⟨dk, hdk⟩ : ∃ d, ds[k]? = some d := ⟨ds[k]'(by omega), List.getElem?_eq_getElem (by omega)⟩
        have hyk : ys[k]? = some y := by rw [hcp.tl k (Nat.le_refl _)]; exact hy
        obtain ⟨b, off, e, hp, hc⟩ := hcp.ir.2.2.2 (by omega)
        cases e
        obtain ⟨c0, c1⟩ := hc k y hyk
        simp only [Nat.zero_add] at c0 c1
        have d3 := heap_cell (j := 3) hcp.bx rfl
        rw [hn] at d3
        have hcb := cloneB_any p wr.drew y.2.1 y.2.2.1 y.2.2.2 dk.2 (((HIT.out k y dk hy hdk).2.keep (Kp.up hcp.bl)).keep (Kp.up ((Below.refl _ wr).drew)))
        have HD : Hid (ys[k]? = some y ∧ ds[k]? = some dk ∧ y.1 = dk.1) := ⟨hyk, hdk, (HIT.out k y dk hy hdk).1⟩
        have hk0 : ¬ ((k : Int) < 0) := by omega
        have hS : wr.drew.cell? ⟨B, 3, none⟩ = some (.slice (some ⟨g, 0, none⟩) n cap') ∧ wr.drew.cell? ⟨g, k * 2 + 1, none⟩ = some (.slice y.2.1 y.2.2.1 y.2.2.2) := ⟨d3, c1⟩
        clear hcp hc hy hdk hyk hp c0 d3 c1
        go_wp2_with fail
        refine wp_region_noPanic ?_
        refine beginE (fun wx => wx.cell? ⟨B, 3, none⟩ = some (.slice (some ⟨g, 0, none⟩) n cap') ∧ wx.cell? ⟨g, k * 2 + 1, none⟩ = some (.slice y.2.1 y.2.2.1 y.2.2.2)) 12 (by kernel_rfl) hS (fun hHeld => ?_)
        refine takeE 0 (v := ?_) rfl (by kernel_rfl) (by kernel_rfl) (by kernel_rfl) (by kernel_rfl) (by kernel_rfl) (fun _ _ _ h => h) (Or.inl ⟨by rfl, by intro wx hSw; (try dsimp only at hSw); obtain ⟨k1, k2⟩ := hSw; go_simp; try with_reducible rfl⟩) (by assumption) ?_
        (try simp only [Act.put, List.setIfInBounds_toArray, List.set_cons_zero, List.set_cons_succ])
        refine takeE 1 (v := ?_) rfl (by kernel_rfl) (by kernel_rfl) (by kernel_rfl) (by kernel_rfl) (by kernel_rfl) (fun _ _ _ h => h) (Or.inl ⟨by rfl, by intro wx hSw; (try dsimp only at hSw); obtain ⟨k1, k2⟩ := hSw; go_simp; try with_reducible rfl⟩) (by assumption) ?_
        (try simp only [Act.put, List.setIfInBounds_toArray, List.set_cons_zero, List.set_cons_succ])
        refine takeE 2 (v := ?_) rfl (by kernel_rfl) (by kernel_rfl) (by kernel_rfl) (by kernel_rfl) (by kernel_rfl) (fun _ _ _ h => h) (Or.inl ⟨by rfl, by intro wx hSw; (try dsimp only at hSw); obtain ⟨k1, k2⟩ := hSw; go_simp; try with_reducible rfl⟩) (by assumption) ?_
        (try simp only [Act.put, List.setIfInBounds_toArray, List.set_cons_zero, List.set_cons_succ])
        refine takeE 3 (v := ?_) rfl (by kernel_rfl) (by kernel_rfl) (by kernel_rfl) (by kernel_rfl) (by kernel_rfl) (fun _ _ _ h => h) (Or.inl ⟨by rfl, by intro wx hSw; (try dsimp only at hSw); obtain ⟨k1, k2⟩ := hSw; go_simp; try with_reducible rfl⟩) (by assumption) ?_
        (try simp only [Act.put, List.setIfInBounds_toArray, List.set_cons_zero, List.set_cons_succ])
        refine takeE 4 (v := ?_) rfl (by kernel_rfl) (by kernel_rfl) (by kernel_rfl) (by kernel_rfl) (by kernel_rfl) (fun _ _ _ h => h) (Or.inl ⟨by rfl, by intro wx hSw; (try dsimp only at hSw); obtain ⟨k1, k2⟩ := hSw; go_simp; try with_reducible rfl⟩) (by assumption) ?_
        (try simp only [Act.put, List.setIfInBounds_toArray, List.set_cons_zero, List.set_cons_succ])
        refine takeE 5 (v := ?_) rfl (by kernel_rfl) (by kernel_rfl) (by kernel_rfl) (by kernel_rfl) (by kernel_rfl) (fun _ _ _ h => h) (Or.inl ⟨by rfl, by intro wx hSw; (try dsimp only at hSw); obtain ⟨k1, k2⟩ := hSw; go_simp; try with_reducible rfl⟩) (by assumption) ?_
        (try simp only [Act.put, List.setIfInBounds_toArray, List.set_cons_zero, List.set_cons_succ])
        refine takeE 6 (v := ?_) rfl (by kernel_rfl) (by kernel_rfl) (by kernel_rfl) (by kernel_rfl) (by kernel_rfl) (fun _ _ _ h => h) (Or.inl ⟨by rfl, by intro wx hSw; (try dsimp only at hSw); obtain ⟨k1, k2⟩ := hSw; go_simp; try with_reducible rfl⟩) (by assumption) ?_
        (try simp only [Act.put, List.setIfInBounds_toArray, List.set_cons_zero, List.set_cons_succ])
        refine takeE 7 (v := ?_) rfl (by kernel_rfl) (by kernel_rfl) (by kernel_rfl) (by kernel_rfl) (by kernel_rfl) (fun _ _ _ h => h) (Or.inl ⟨by rfl, by intro wx hSw; (try dsimp only at hSw); obtain ⟨k1, k2⟩ := hSw; go_simp; try with_reducible rfl⟩) (by assumption) ?_
        (try simp only [Act.put, List.setIfInBounds_toArray, List.set_cons_zero, List.set_cons_succ])
        refine takeE 8 (v := ?_) rfl (by kernel_rfl) (by kernel_rfl) (by kernel_rfl) (by kernel_rfl) (by kernel_rfl) (fun _ _ _ h => h) (Or.inl ⟨by rfl, by intro wx hSw; (try dsimp only at hSw); obtain ⟨k1, k2⟩ := hSw; go_simp; try with_reducible rfl⟩) (by assumption) ?_
        (try simp only [Act.put, List.setIfInBounds_toArray, List.set_cons_zero, List.set_cons_succ])
        refine upE 9 rfl (by kernel_rfl) (fun K hK => ?_)
        go_simp
        refine hcb.mono ?_
        rintro e w4 ⟨ao4, cap4, rfl, hrw, hb4⟩
        have hb4' : Below wr.heap.size wr w4 := ⟨hb4.os, hb4.tape, hb4.output, hb4.size, hb4.block⟩
        have hgl := HC.out.gl
        have hS4 : w4.cell? ⟨B, 3, none⟩ = some (.slice (some ⟨g, 0, none⟩) n cap') ∧ w4.cell? ⟨g, k * 2 + 1, none⟩ = some (.slice y.2.1 y.2.2.1 y.2.2.2) := ⟨(hb4'.cell (show B < wr.heap.size from heap_lt HC.out.bx)).trans hS.1, (hb4'.cell hgl).trans hS.2⟩
        have f4 : w4.frozen? ⟨g, k * 2 + 1, none⟩ = false := (hb4'.frozen hgl).trans (HC.out.fz _)
        obtain ⟨w5, hw5⟩ : ∃ w5, w4.setCell ⟨g, k * 2 + 1, none⟩ (.slice ao4 y.2.2.1 cap4) = w5 := ⟨_, rfl⟩
        have HN : Hid (Cp w w5 B g x cap' (k + 1) xs (ys.set k (y.1, ao4, y.2.2.1, cap4)) ds) := by
          obtain ⟨h1, h2, h3⟩ := HD.out
          have hc := HC.out
          have hkl := (List.getElem?_eq_some_iff.1 h1).1
          have hbw : Below w.heap.size w w4 := bl_step hc.bl hb4'
          have hlB := heap_lt hc.bx
          have hlR := heap_lt hc.rs
          have hgB := HG.out.1
          rw [← hw5]
          have kp1 : Kp (fun b => w.heap.size ≤ b ∧ b ≠ g ∧ b ≠ B ∧ b ≠ B + 1) w4 (w4.setCell ⟨g, k * 2 + 1, none⟩ (.slice ao4 y.2.2.1 cap4)) := Kp.setCell (fun b hb => hb.2.1)
          refine { ir := (hc.ir.keep (Kp.up hb4')).set h1 ao4 y.2.2.1 cap4, tl := fun j hj => by rw [List.getElem?_set_ne (by omega)]; exact hc.tl j (by omega), its := fun j z d' hj hz hd' => ?_, bl := hbw.setCell (by show w.heap.size ≤ g; have := HG.out.2; omega) _, gl := by have := hb4'.size; simp [World.setCell]; omega, fz := fun i => by rw [World.frozen?_setCell]; exact (hb4'.frozen hc.gl).trans (hc.fz i), bx := by rw [heap_setCell_other _ _ _ _ (by show B ≠ g; omega)]; exact (hb4'.block B hlB).trans hc.bx, rs := by rw [heap_setCell_other _ _ _ _ (by show B + 1 ≠ g; omega)]; exact (hb4'.block _ hlR).trans hc.rs }
          by_cases e : j = k
          · subst e
            rw [List.getElem?_set_self hkl] at hz
            cases hz
            rw [h2] at hd'
            cases hd'
            refine ⟨h3, ?_⟩
            refine (hrw.imp (fun b _ hb => ?_)).keep kp1
            have hb' : wr.heap.size ≤ b := hb
            have := hc.bl.size
            exact ⟨by omega, by omega, by omega, by omega⟩
          · rw [List.getElem?_set_ne (by omega)] at hz
            exact ((hc.its j z d' (by omega) hz hd').keep (Kp.up hb4')).keep kp1
        clear hcb hrw hb4 hb4' hS HC HD hgl
        go_wp2_with fail
        refine hK.out _ _ hS4 (fun hHeld => ?_)
        clear hK K
        (try simp only [Act.put, List.setIfInBounds_toArray, List.set_cons_zero, List.set_cons_succ])
        refine pureE 10 (v := ?_) rfl (by kernel_rfl) (by kernel_rfl) (by kernel_rfl) (by kernel_rfl) (fun _ _ _ h => h) (Or.inl ⟨by rfl, by intro wx hSw; (try dsimp only at hSw); go_simp; try with_reducible rfl⟩) (by assumption) ?_
        (try simp only [Act.put, List.setIfInBounds_toArray, List.set_cons_zero, List.set_cons_succ])
        refine pureE 11 (v := ?_) rfl (by kernel_rfl) (by kernel_rfl) (by kernel_rfl) (by kernel_rfl) (fun _ _ _ h => h) (Or.inl ⟨by rfl, by intro wx hSw; (try dsimp only at hSw); go_simp; try with_reducible rfl⟩) (by assumption) ?_
        (try simp only [Act.put, List.setIfInBounds_toArray, List.set_cons_zero, List.set_cons_succ])
        have c4 := hS4.2
        refine lastE 12 rfl (by kernel_rfl) (by kernel_rfl) (fun K hK => ?_)
        go_simp
        refine hK.out _ _ ?_
        clear hK K
        (try simp only [Act.put, List.setIfInBounds_toArray, List.set_cons_zero, List.set_cons_succ])
        refine doneE (by kernel_rfl) ?_ _
        refine NoPanic.normal ?_
        (try simp only [hw5])
        clear hw5 hS4 c4 f4
        go_wp2_with fail
        go_roundw
        case rel => first | exact ⟨k + 1, _, by omega, by go_num, HN.out⟩ | ((repeat apply Exists.intro); exact ⟨⟨k + 1, _, by omega, by go_num, HN.out⟩, rfl⟩)
        case measure => simp [intOf]; omega
      · obtain rfl : k = n := by omega
        have hc := HC.out
        have d0 := heap_cell (j := 0) hc.bx rfl
        have d1 := heap_cell (j := 1) hc.bx rfl
        have d2 := heap_cell (j := 2) hc.bx rfl
        have d3 := heap_cell (j := 3) hc.bx rfl
        have rs3 := hc.rs
        rw [hn] at d3
        have hset := setRow_heap wr (B + 1) _ #[.int .u64 (x.1 : Nat), .int .i64 x.2.1, .int .i64 x.2.2.1, .slice (some ⟨g, 0, none⟩) k cap'] 45 (0, 0) rs3
        have HE : Hid (Si (fun b => w.heap.size ≤ b) (wr.setRow (B + 1) #[.int .u64 (x.1 : Nat), .int .i64 x.2.1, .int .i64 x.2.2.1, .slice (some ⟨g, 0, none⟩) k cap']) (x.1, x.2.1, x.2.2.1, some ⟨g, 0, none⟩, x.2.2.2.2.1, cap') d ∧ Below w.heap.size w (wr.setRow (B + 1) #[.int .u64 (x.1 : Nat), .int .i64 x.2.1, .int .i64 x.2.2.1, .slice (some ⟨g, 0, none⟩) k cap'])) := by
          have hgB := HG.out
          have kp : Kp (fun b => w.heap.size ≤ b ∧ b ≠ B + 1) wr (wr.setRow (B + 1) #[.int .u64 (x.1 : Nat), .int .i64 x.2.1, .int .i64 x.2.2.1, .slice (some ⟨g, 0, none⟩) k cap']) := fun ad v hb hcl => by
            rw [World.cell?_of_block (w := wr) (setRow_other _ _ _ _ hb.2)]; exact hcl
          refine ⟨HSi.out _ _ _ ⟨ys, ((hc.ir.imp (q := fun b => w.heap.size ≤ b ∧ b ≠ B + 1) (fun b _ hb => ⟨by omega, by omega⟩)).keep kp).imp (fun b _ hb => hb.1), by rw [hn]; exact hd, fun j y d' hy hd' => (((hc.its j y d' ?_ hy hd').imp (q := fun b => w.heap.size ≤ b ∧ b ≠ B + 1) (fun b _ hb => ⟨hb.1, hb.2.2.2⟩)).keep kp).imp (fun b _ hb => hb.1)⟩, ?_⟩
          · have := (List.getElem?_eq_some_iff.1 hy).1
            have := hc.ir.1
            omega
          · have hb3 := hc.bl
            exact ⟨hb3.os, hb3.tape, hb3.output, by rw [size_setRow]; exact hb3.size, fun k hk => by rw [setRow_other _ _ _ _ (by omega)]; exact hb3.block k hk⟩
        clear hcp HC hc HIT HSi HG
        go_wp2_with (first | (refine wpList_store_row rfl 45 (.tmp 2) (.tmp 27) rfl (B + 1) #[.int .u64 (x.1 : Nat), .int .i64 x.2.1, .int .i64 x.2.2.1, .slice (some ⟨g, 0, none⟩) k cap'] rfl rfl 45 _ rs3 info45 rfl (by simp [Value.oneCell']) ?_))
        refine bodyPost_ret (results_cell1 (g := B + 1) (cs := #[.int .u64 (x.1 : Nat), .int .i64 x.2.1, .int .i64 x.2.2.1, .slice (some ⟨g, 0, none⟩) k cap']) Tryd.results73 rfl (run_loadVar_row _ (B + 1) 45 45 _ (0, 0) _ hset Tryd.underlying45 rfl (by kernel_rfl))) rfl ?_
        exact ⟨some ⟨g, 0, none⟩, cap', by rw [hn], HE.out⟩
end Go.Proofs.YtlonbbepoamnmaaDoor
