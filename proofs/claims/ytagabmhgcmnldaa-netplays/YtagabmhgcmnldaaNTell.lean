/-
  tell of a packet: its bytes by now, in new memory.
-/
import Derived.Test.YtagabmhgcmnldaaNPack
namespace Go.Proofs.Ytagabmhgcmnldaa
open Go.RowKit
set_option linter.unusedVariables false
set_option linter.unusedSimpArgs false

theorem u8_lt (x : UInt8) : x.toNat < 256 := x.toNat_lt
theorem ofNat_toNat (k : Nat) (h : k < 256) : (UInt8.ofNat k).toNat = k := by simp [UInt8.toNat_ofNat']; omega
theorem flip_num (z : UInt8) (b : Nat) (hb : b < 8) : bits .xor .u8 (z.toNat : Int) (2 ^ b % 256) = ((z ^^^ UInt8.ofNat (2 ^ b)).toNat : Int) := by
  have hpb8 : 2 ^ b ≤ 2 ^ 7 := Nat.pow_le_pow_right (by omega) (by omega)
  have hzu := u8_lt z
  rw [show ((2 : Int) ^ b % 256) = ((2 ^ b : Nat) : Int) by
    have : ((2 : Int) ^ b) = ((2 ^ b : Nat) : Int) := by simp
    rw [this]
    generalize 2 ^ b = y at hpb8
    omega]
  rw [u8_xor_nat _ _ hzu (by omega), UInt8.toNat_xor, ofNat_toNat _ (by omega)]

theorem heap_set3 {w : World} {g t : Nat} {a b c : Value} (h : w.heap[g]? = some (.cells #[a, b, c] t (0, 0))) (x y z : Value) : (((w.setCell ⟨g, 0, none⟩ x).setCell ⟨g, 1, none⟩ y).setCell ⟨g, 2, none⟩ z).heap[g]? = some (.cells #[x, y, z] t (0, 0)) := by
  have h1 := heap_setCell_same w g 0 _ t x h
  have h2 := heap_setCell_same _ g 1 _ t y h1
  have h3 := heap_setCell_same _ g 2 _ t z h2
  exact h3
/-- A packet's cells, from an address on. -/
def At (w : World) (g off : Nat) (x : Px) : Prop := ∀ i v, (cellsP x)[i]? = some v → w.cell? ⟨g, off + i, none⟩ = some v
theorem At.cells {w : World} {g off : Nat} {x : Px} (h : At w g off x) : w.cell? ⟨g, off, none⟩ = some (.int .i64 x.f) ∧ w.cell? ⟨g, off + 1, none⟩ = some (.int .i64 x.t) ∧ w.cell? ⟨g, off + 2, none⟩ = some (.slice (some ⟨x.g, 0, none⟩) x.n x.n) ∧ w.cell? ⟨g, off + 3, none⟩ = some (.int .i64 x.t0) ∧ w.cell? ⟨g, off + 4, none⟩ = some (.int .i64 x.t1) ∧ w.cell? ⟨g, off + 5, none⟩ = some (.int .i64 (x.k : Nat)) :=
  ⟨h 0 _ rfl, h 1 _ rfl, h 2 _ rfl, h 3 _ rfl, h 4 _ rfl, h 5 _ rfl⟩
theorem At.up {w w' : World} {g off : Nat} {x : Px} (h : At w g off x) (u : Below w.heap.size w w') : At w' g off x := fun i v hi => (u.cell (World.block_lt_of_cell? w _ (h i v hi))).trans (h i v hi)
theorem At.lt {w : World} {g off : Nat} {x : Px} (h : At w g off x) : g < w.heap.size := World.block_lt_of_cell? w _ (h.cells.1)

set_option maxRecDepth 10000 in
set_option maxHeartbeats 2000000 in
theorem tell_any (w : World) (g off : Nat) (x : Px) (a : Pa) (h : At w g off x) (hp : PIs w x a) :
    Calls Try.prog 48 #[.pointer (some ⟨g, off, none⟩)] w fun e w' => ∃ b, e = .returned (pkt a.f a.t (.slice (some ⟨b, 0, none⟩) a.xs.length a.xs.length)) ∧ w.heap.size ≤ b ∧ By w' b a.told ∧ Below w.heap.size w w' := by
  unfold pkt
  obtain ⟨o1, ho1⟩ : ∃ o, o = Obj.cells #[.int .i64 0, .int .i64 0, .slice none 0 0] 49 := ⟨_, rfl⟩
  have hb0 := bl1 w o1
  have h0 := h.up hb0
  obtain ⟨c0, c1, c2, c3, c4, c5⟩ := h0.cells
  have hgl := h.lt
  rw [hp.n] at c2
  rw [hp.f] at c0
  rw [hp.t] at c1
  rw [hp.k] at c5
  have hk2 := hp.k2
  have hsm := hp.small
  have hlay := lay_any (w.alloc o1) (some ⟨x.g, 0, none⟩) a.xs.length a.xs.length a.xs ((By.of hp.by' (hb0.block _ hp.by'.lt)).row (by unfold maxLen; omega)) hsm
  have HT : Hid (∀ (j b : Nat), a.ts[j]? = some b → j < 2 ∧ b / 8 < a.xs.length ∧ (w.alloc o1).cell? ⟨g, off + 3 + j, none⟩ = some (.int .i64 (b : Nat))) := fun j b hj => by
    have hjl := (List.getElem?_eq_some_iff.1 hj).1
    refine ⟨by omega, hp.lt b (List.mem_of_getElem? hj), ?_⟩
    have hjj : j = 0 ∨ j = 1 := by omega
    rcases hjj with rfl | rfl
    · rw [← hp.t0 b hj]; exact c3
    · rw [← hp.t1 b hj]; exact c4
  have hz : (w.alloc o1).heap[w.heap.size]? = some (.cells #[.int .i64 0, .int .i64 0, .slice none 0 0] 49 (0, 0)) := by
    rw [heap_alloc_new w o1, ho1]
  obtain ⟨n, hn⟩ : ∃ n, n = a.xs.length := ⟨_, rfl⟩
  obtain ⟨m, hm⟩ : ∃ m, m = a.ts.length := ⟨_, rfl⟩
  have HN : Hid (n = a.xs.length) := hn
  have HM : Hid (m = a.ts.length) := hm
  rw [← hn] at hlay c2 HT hsm ⊢
  rw [← hm] at c5 hk2
  clear hn hm h hp h0 c3 c4
  have c2' := c2
  rw [ho1] at c2'
  go_enter Try.func48, Try.ntmps48
  go_wp2_with fail
  rw [← ho1]
  have hs0 : (w.alloc o1).heap.size = w.heap.size + 1 := by simp
  obtain ⟨w0, hw0⟩ : ∃ w0, w0 = w.alloc o1 := ⟨_, rfl⟩
  rw [← hw0] at hb0 c0 c1 c2 c5 hlay HT hz hs0 ⊢
  clear ho1 hw0 c2'
  rw [hs0] at hlay
  refine hlay.mono ?_
  rintro e w1 ⟨rfl, hby, hb1⟩
  have hg0 : g < w0.heap.size := by omega
  have d0 : w1.cell? ⟨g, off, none⟩ = _ := (hb1.cell (show g < w.heap.size + 1 by omega)).trans c0
  have d1 : w1.cell? ⟨g, off + 1, none⟩ = _ := (hb1.cell (show g < w.heap.size + 1 by omega)).trans c1
  have d5 : w1.cell? ⟨g, off + 5, none⟩ = _ := (hb1.cell (show g < w.heap.size + 1 by omega)).trans c5
  have hz1 := (hb1.block w.heap.size (by omega)).trans hz
  have HT1 : Hid (∀ (j b : Nat), a.ts[j]? = some b → j < 2 ∧ b / 8 < n ∧ w1.cell? ⟨g, off + 3 + j, none⟩ = some (.int .i64 (b : Nat))) := fun j b hj => ⟨(HT.out j b hj).1, (HT.out j b hj).2.1, (hb1.cell (show g < _ by omega)).trans (HT.out j b hj).2.2⟩
  clear HT hz c0 c1 c2 c5 hlay
  have hm2 : (m : Int) ≤ 2 := by omega
  have hgB : g ≠ w.heap.size + 1 := by omega
  have hbw1 : Below w.heap.size w w1 := hb0.trans (hb1.mono (by omega))
  have HB1 : Hid (By w1 (w.heap.size + 1) a.xs ∧ Below w.heap.size w w1) := ⟨hs0 ▸ hby, hbw1⟩
  clear hby hb1 hb0 hbw1
  go_wp2_with fail
  go_region
  go_wp2_with fail
  have d5i := d5
  clear d5i d5
  go_loopw [5, 20] (fun _ jv wr => ∃ j : Nat, j ≤ m ∧ jv = .int .i64 (j : Nat) ∧ Turned (fun i => i = w.heap.size + 1) w1 wr ∧ By wr (w.heap.size + 1) ((a.ts.take j).foldl flip a.xs)) (fun _ jv _ => m - (intOf jv).toNat)
  case atStart => exact ⟨0, by omega, rfl, (Turned.refl _ _).drew, HB1.out.1⟩
  case round =>
    obtain ⟨j, hj, rfl, ht, hby⟩ := hrel
    have hw1s := World.block_lt_of_cell? w1 _ d0
    have hgw : wr.heap[g]? = w1.heap[g]? := ht.block g hw1s hgB
    by_cases hlt : j < m
    · have hltI : (j : Int) < m := by omega
      obtain ⟨b, hb⟩ : ∃ b, a.ts[j]? = some b := ⟨_, List.getElem?_eq_getElem (by rw [← HM.out]; exact hlt)⟩
      obtain ⟨hj2, hbn, hcb⟩ := HT1.out j b hb
      have hc : wr.cell? ⟨g, off + 3 + j, none⟩ = some (.int .i64 (b : Nat)) := (cell_block hgw).trans hcb
      have HST : Hid ((a.ts.take (j + 1)).foldl flip a.xs = flip ((a.ts.take j).foldl flip a.xs) b) := by
        show _ = _
        rw [List.take_add_one, hb]
        simp
      have hzl : ((a.ts.take j).foldl flip a.xs).length = n := by rw [fold_len, HN.out]
      obtain ⟨zs, HZ⟩ : ∃ zs, Hid ((a.ts.take j).foldl flip a.xs = zs) := ⟨_, Eq.refl _⟩
      rw [HZ.out] at HST hzl hby
      obtain ⟨q, hq⟩ : ∃ q, q = b / 8 := ⟨_, rfl⟩
      obtain ⟨r, hr⟩ : ∃ r, r = b % 8 := ⟨_, rfl⟩
      have hqn : q < n := by omega
      have hqnI : (q : Int) < n := by omega
      have hr8 : r < 8 := by omega
      have hqi : (b : Int) / 8 = (q : Int) := by omega
      have hri : (b : Int) % 8 = (r : Int) := by omega
      have hcell : wr.cell? ⟨w.heap.size + 1, q, none⟩ = some (.int .u8 ((zs.getD q 0).toNat : Int)) := hby.cell (by omega)
      have hfr := hby.free q
      have hfl : flip zs b = zs.set q (zs.getD q 0 ^^^ UInt8.ofNat (2 ^ r)) := by unfold flip; rw [← hq, ← hr]
      have HV : Hid (bits .xor .u8 ((zs.getD q 0).toNat : Int) (2 ^ r % 256) = ((zs.getD q 0 ^^^ UInt8.ofNat (2 ^ r)).toNat : Int)) := flip_num _ r hr8
      generalize hz0 : zs.getD q 0 = z0 at *
      generalize hz1 : z0 ^^^ UInt8.ofNat (2 ^ r) = z1 at *
      have HE : Hid (Turned (fun i => i = w.heap.size + 1) w1 (wr.setCell ⟨w.heap.size + 1, q, none⟩ (.int .u8 (z1.toNat : Int))).drew ∧ By (wr.setCell ⟨w.heap.size + 1, q, none⟩ (.int .u8 (z1.toNat : Int))).drew (w.heap.size + 1) ((a.ts.take (j + 1)).foldl flip a.xs)) := by
        refine ⟨(ht.setCell (.inl rfl) _).drew, ?_⟩
        rw [HST.out, hfl]
        exact hby.set q z1
      have hzu := u8_lt z0
      clear hq hr hz0 hz1 hfl HST HZ hby ht hcb hb hzl hgw hj2
      go_wp2_with fail
      go_region
      rw [HV.out]
      go_wp2
      go_roundw
      case rel => exact ⟨j + 1, by omega, by go_num, HE.out.1, HE.out.2⟩
      case measure => simp [intOf]; omega
    · obtain rfl : j = m := by omega
      have e0 : wr.cell? ⟨g, off, none⟩ = _ := (cell_block hgw).trans d0
      have e1 : wr.cell? ⟨g, off + 1, none⟩ = _ := (cell_block hgw).trans d1
      have hzr : wr.heap[w.heap.size]? = some (.cells #[.int .i64 0, .int .i64 0, .slice none 0 0] 49 (0, 0)) := (ht.block _ (World.block_lt_of_cell? w1 ⟨w.heap.size, 0, none⟩ (by rw [cell_of_row _ _ _ _ _ _ hz1]; rfl)) (show ¬ (w.heap.size = w.heap.size + 1) by omega)).trans hz1
      have f0 : wr.cell? ⟨w.heap.size, 0, none⟩ = some (.int .i64 0) := by rw [cell_of_row _ _ _ _ _ _ hzr]; rfl
      have f1 : wr.cell? ⟨w.heap.size, 1, none⟩ = some (.int .i64 0) := by rw [cell_of_row _ _ _ _ _ _ hzr]; rfl
      have f2 : wr.cell? ⟨w.heap.size, 2, none⟩ = some (.slice none 0 0) := by rw [cell_of_row _ _ _ _ _ _ hzr]; rfl
      have fz : ∀ i, wr.frozen? ⟨w.heap.size, i, none⟩ = false := fun i => frozen_of_row _ _ _ _ _ hzr
      have HE : Hid (∀ v : Value, (((wr.setCell ⟨w.heap.size, 0, none⟩ (.int .i64 a.f)).setCell ⟨w.heap.size, 1, none⟩ (.int .i64 a.t)).setCell ⟨w.heap.size, 2, none⟩ v).drew.heap[w.heap.size]? = some (.cells #[.int .i64 a.f, .int .i64 a.t, v] 49 (0, 0)) ∧ By (((wr.setCell ⟨w.heap.size, 0, none⟩ (.int .i64 a.f)).setCell ⟨w.heap.size, 1, none⟩ (.int .i64 a.t)).setCell ⟨w.heap.size, 2, none⟩ v).drew (w.heap.size + 1) a.told ∧ Below w.heap.size w (((wr.setCell ⟨w.heap.size, 0, none⟩ (.int .i64 a.f)).setCell ⟨w.heap.size, 1, none⟩ (.int .i64 a.t)).setCell ⟨w.heap.size, 2, none⟩ v).drew) := fun v => by
        refine ⟨heap_set3 hzr _ _ _, ?_, ?_⟩
        · have hto : a.told = (a.ts.take j).foldl flip a.xs := by rw [List.take_of_length_le (by rw [← HM.out]; exact Nat.le_refl _)]; rfl
          rw [hto]
          exact hby.of (((set_block_other (by omega)).trans (set_block_other (by omega))).trans (set_block_other (by omega)))
        · have hbr : Below w.heap.size w wr := HB1.out.2.trans (ht.below (by have := HB1.out.2.size; omega) (fun i hi => by rw [hi]; omega))
          exact (((hbr.setCell (Nat.le_refl _) _).setCell (Nat.le_refl _) _).setCell (Nat.le_refl _) _).drew
      clear hby ht HB1 HT1 hz1 hzr
      go_wp2_with fail
      go_region
      obtain ⟨k1, k2, k3⟩ := HE.out (.slice (some ⟨w.heap.size + 1, 0, none⟩) n n)
      go_wp2_with fail
      refine bodyPost_ret (results_cell1 Try.results48 rfl (load49 k1 rfl)) rfl ?_
      exact ⟨w.heap.size + 1, rfl, by omega, k2, k3⟩
end Go.Proofs.Ytagabmhgcmnldaa
