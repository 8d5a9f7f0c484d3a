/-
  Reading of states, and of lists of them (package frame).
-/
import Derived.Test.YtfemjbaadnjanaaFRead2
namespace Go.Proofs.Ytfemjbaadnjanaa
open Go.RowKit
set_option linter.unusedVariables false
set_option linter.unusedSimpArgs false

theorem rList_len {α : Type} {r : St → α × St} : ∀ (n : Nat) (st : St), (rList r n st).1.length ≤ n
  | 0, st => by simp [rList]
  | n + 1, st => by
    rw [rList]
    cases (r st).2 with
    | none => simp
    | some ys =>
      simp only
      have := rList_len (r := r) n (some ys)
      cases (rList r n (some ys)).2 with
      | none => simp
      | some zs => simp; omega
theorem rMany_len {α : Type} (r : St → α × St) (st : St) : (rMany r st).1.length ≤ 4096 := by
  have h1 := rList_len (r := r) (Cd.rInt st 4096).1 (Cd.rInt st 4096).2
  have h2 := rInt_small st 4096
  unfold rMany
  exact Nat.le_trans h1 h2
theorem RowG.its {B : Nat} {w : World} {v : Value} {xs : List Ix} {ds : List Di} (h : RowG ItX cellI 49 2 B w v xs ds) (hn : ds.length ≤ 4096) : ∃ ao cap, v = .slice ao ds.length cap ∧ ItsX (fun b => B ≤ b) w ao ds.length ds := by
  obtain ⟨h1, h2, h3⟩ := h
  rw [← h2] at h1
  rcases IR.own h1 (by omega) with ⟨rfl, h0⟩ | ⟨g, cap, rfl, hg, _, _, hI⟩
  · have : ds = [] := List.eq_nil_of_length_eq_zero h0
    subst this
    exact ⟨none, 0, rfl, ItsX.nil _ _⟩
  · exact ⟨_, cap, rfl, xs, hI.imp (fun b _ hb => by rw [hb]; exact hg), rfl, fun j x d hx hd => (h3 j x d hx hd).imp (fun b _ hb => hb.1)⟩
theorem RowG.mss {B : Nat} {w : World} {v : Value} {xs : List (Option Addr × Nat × Nat)} {ds : List (List UInt8)} (h : RowG RmX cellM 33 1 B w v xs ds) (hn : ds.length ≤ 4096) : ∃ ao cap, v = .slice ao ds.length cap ∧ MsX (fun b => B ≤ b) w ao ds.length ds := by
  obtain ⟨h1, h2, h3⟩ := h
  rw [← h2] at h1
  rcases own_shape h1 with ⟨rfl, h0⟩ | ⟨g, cap, rfl, hg, _⟩
  · have : ds = [] := List.eq_nil_of_length_eq_zero h0
    subst this
    exact ⟨none, 0, rfl, MsX.nil _ _⟩
  · refine ⟨_, cap, rfl, xs, ⟨h2.symm, by omega, fun e => (by cases e), fun _ => ⟨g, 0, rfl, hg, fun j x hj => ?_⟩⟩, rfl, fun j x d hx hd => (h3 j x d hx hd).imp (fun b _ hb => hb.1)⟩
    rw [Nat.zero_add]
    refine own_cell h1 j _ ?_
    unfold cellM
    rw [List.getElem?_map, hj]
    rfl
theorem RowG.sts {B : Nat} {w : World} {v : Value} {xs : List Sx} {ds : List Sd} (h : RowG SiX flat 52 4 B w v xs ds) (hn : ds.length ≤ 4096) : ∃ ao cap, v = .slice ao ds.length cap ∧ SsX (fun b => B ≤ b) w ao ds.length ds := by
  obtain ⟨h1, h2, h3⟩ := h
  rw [← h2] at h1
  obtain ⟨ao, cap, hv, hS, _⟩ := SR.own h1
  exact ⟨ao, cap, hv, xs, hS.imp (fun b _ hb => hb.2), rfl, fun j x d hx hd => (h3 j x d hx hd).imp (fun b _ hb => hb.1)⟩
theorem kp_setRow {p : Nat → Prop} {w : World} {g : Nat} {cs : Array Value} (hp : ∀ b, p b → b ≠ g) : Kp p w (w.setRow g cs) := fun ad v hb hc => by
  rw [cell_setRow_other _ _ _ _ (hp _ hb)]; exact hc
theorem kp_setCell {p : Nat → Prop} {w : World} {g i : Nat} {v : Value} (hp : ∀ b, p b → b ≠ g) : Kp p w (w.setCell ⟨g, i, none⟩ v) := fun ad u hb hc => by
  rw [World.cell?_setCell_other _ _ _ _ (fun e => hp _ hb (by rw [← e]))]; exact hc
theorem gr_setCell {w W : World} {r : Option Nat} {B i : Nat} {v : Value} (h : w.grownBy W r) (hB : w.heap.size ≤ B) : w.grownBy (W.setCell ⟨B, i, none⟩ v) r :=
  ⟨h.os, h.tape, h.output, by simpa [World.setCell] using h.size, fun k hk hne => (Below.heap_setCell _ _ _ _ (by show k ≠ B; omega)).trans (h.block k hk hne)⟩

set_option maxRecDepth 10000 in
set_option maxHeartbeats 1000000 in
theorem readState_any (w : World) (r : Nat) (st : St) (h : Cd.Rd w r st) (hl : sl st) :
    Calls Try.prog 63 #[.pointer (some ⟨r, 0, none⟩)] w fun e w' => ∃ x : Sx, e = .returned (.agg #[.int .u64 (x.1 : Nat), .int .i64 x.2.1, .int .i64 x.2.2.1, .slice x.2.2.2.1 x.2.2.2.2.1 x.2.2.2.2.2]) ∧ SiX (fun b => w.heap.size ≤ b) w' x (rState 9223372036854775807 st).1 ∧ Cd.Rd w' r (rState 9223372036854775807 st).2 ∧ w.grownBy w' (some r) := by
  have hrl := h.lt
  have hv := readView_any (w.alloc (.cells #[.int .u64 0, .int .i64 0, .int .i64 0, .slice none 0 0] 52)) r st (rd_alloc h _)
  have hn := fun W (hW : Cd.Rd W r (decV st).2) => Cd.int_rd W r (decV st).2 hW 9223372036854775807 (by omega) (by omega)
  have hs2 : sl (Cd.rInt (decV st).2 9223372036854775807).2 := sl_int (sl_dec hl)
  have hit := fun W (hW : Cd.Rd W r (Cd.rInt (decV st).2 9223372036854775807).2) => readListI_any W r (Cd.rInt (decV st).2 9223372036854775807).2 hW hs2
  have HS : Hid (rState 9223372036854775807 st = (((decV st).1.1, (((decV st).1.2 : Nat) : Int), (((Cd.rInt (decV st).2 9223372036854775807).1 : Nat) : Int), (rMany rItem (Cd.rInt (decV st).2 9223372036854775807).2).1), (rMany rItem (Cd.rInt (decV st).2 9223372036854775807).2).2)) := rfl
  rw [HS.out]
  have hlen := rMany_len rItem (Cd.rInt (decV st).2 9223372036854775807).2
  generalize decV st = dv at *
  obtain ⟨⟨N, P⟩, s1⟩ := dv
  simp only at *
  generalize Cd.rInt s1 9223372036854775807 = ri at *
  obtain ⟨FL, s2⟩ := ri
  simp only at *
  generalize rMany rItem s2 = rm at *
  obtain ⟨ds, s3⟩ := rm
  simp only at *
  unfold vid at hv
  clear h hl HS hs2
  go_enter Try.func63, Try.ntmps63
  go_wp2_with fail
  refine hv.mono ?_
  rintro e w1 ⟨rfl, hrd1, hg1⟩
  have f1 : w1.heap[w.heap.size]? = some (.cells #[.int .u64 0, .int .i64 0, .int .i64 0, .slice none 0 0] 52 (0, 0)) := (hg1.block w.heap.size (by simp) (by simp; omega)).trans (heap_alloc_new _ _)
  have hg01 : w.grownBy w1 (some r) := Cd.grown_trans (gr_alloc0 w _ _) hg1
  have hs1 : w.heap.size < w1.heap.size := by have := hg1.size; simp at this; omega
  have hn1 := hn w1 hrd1
  clear hv hn hrd1 hg1
  go_wp2_with fail
  refine hn1.mono ?_
  rintro e w2 ⟨rfl, hrd2, hg2⟩
  have f2 : w2.heap[w.heap.size]? = some (.cells #[.int .u64 0, .int .i64 0, .int .i64 0, .slice none 0 0] 52 (0, 0)) := (hg2.block w.heap.size hs1 (by simp; omega)).trans f1
  have hg02 : w.grownBy w2 (some r) := Cd.grown_trans hg01 hg2
  have hs2 : w.heap.size < w2.heap.size := by have := hg2.size; omega
  have hit3 := hit (w2.alloc (.cells #[.int .u64 (N : Nat), .int .i64 (P : Nat), .int .i64 (FL : Nat), .slice none 0 0] 52)) (rd_alloc hrd2 _)
  clear hn1 hrd2 hg2 hg01 f1 hit
  go_wp2_with fail
  refine hit3.mono ?_
  rintro e w4 ⟨v, xs, rfl, hrow, hrd4, hg4⟩
  have hs4 : w2.heap.size < w4.heap.size := by have := hg4.size; simp at this; omega
  have f4 : w4.heap[w.heap.size]? = some (.cells #[.int .u64 0, .int .i64 0, .int .i64 0, .slice none 0 0] 52 (0, 0)) := by
    rw [hg4.block w.heap.size (by simp; omega) (by simp; omega), Below.heap_alloc w2 _ _ hs2]
    exact f2
  have k4 : w4.heap[w2.heap.size]? = some (.cells #[.int .u64 (N : Nat), .int .i64 (P : Nat), .int .i64 (FL : Nat), .slice none 0 0] 52 (0, 0)) := (hg4.block w2.heap.size (by simp) (by simp; omega)).trans (heap_alloc_new _ _)
  have hg04 : w.grownBy w4 (some r) := Cd.grown_trans (gr_up hg02 (bl1 _ _)) hg4
  obtain ⟨ao, cap, rfl, hits⟩ := hrow.its hlen
  have HI : Hid (ItsX (fun b => w2.heap.size + 1 ≤ b) w4 ao ds.length ds) := by show ItsX _ _ _ _ _; simpa using hits
  generalize ds.length = n at *
  obtain ⟨w5, hw5⟩ : ∃ w5, w4.setCell ⟨w2.heap.size, 3, none⟩ (.slice ao n cap) = w5 := ⟨_, rfl⟩
  have k5 : w5.heap[w2.heap.size]? = some (.cells #[.int .u64 (N : Nat), .int .i64 (P : Nat), .int .i64 (FL : Nat), .slice ao n cap] 52 (0, 0)) := by rw [← hw5, heap_setCell_same w4 w2.heap.size 3 _ 52 _ k4]; rfl
  have f5 : w5.heap[w.heap.size]? = some (.cells #[.int .u64 0, .int .i64 0, .int .i64 0, .slice none 0 0] 52 (0, 0)) := by rw [← hw5]; exact (Below.heap_setCell _ _ _ _ (by show w.heap.size ≠ w2.heap.size; omega)).trans f4
  have hg05 : w.grownBy w5 (some r) := by rw [← hw5]; exact gr_setCell hg04 (by omega)
  have hrd5 : Cd.Rd w5 r s3 := by rw [← hw5]; exact rd_grown (g := some w2.heap.size) hrd4 (Cd.set_grown _) (fun b e => by cases e; omega)
  have HI5 : Hid (ItsX (fun b => w2.heap.size + 1 ≤ b) w5 ao n ds) := by rw [← hw5]; exact HI.out.keep (kp_setCell (fun b hb => by omega))
  have HE : Hid (Cd.Rd (w5.setRow w.heap.size #[.int .u64 (N : Nat), .int .i64 (P : Nat), .int .i64 (FL : Nat), .slice ao n cap]) r s3 ∧ w.grownBy (w5.setRow w.heap.size #[.int .u64 (N : Nat), .int .i64 (P : Nat), .int .i64 (FL : Nat), .slice ao n cap]) (some r) ∧ ItsX (fun b => w.heap.size ≤ b) (w5.setRow w.heap.size #[.int .u64 (N : Nat), .int .i64 (P : Nat), .int .i64 (FL : Nat), .slice ao n cap]) ao n ds) :=
    ⟨rd_setRow' hrd5 (by omega), gr_setRow' hg05 (Nat.le_refl _) _, (HI5.out.keep (kp_setRow (fun b hb => by omega))).imp (fun b _ hb => by omega)⟩
  have hset := setRow_heap w5 w.heap.size _ #[.int .u64 (N : Nat), .int .i64 (P : Nat), .int .i64 (FL : Nat), .slice ao n cap] 52 (0, 0) f5
  have c0 : w5.cell? ⟨w2.heap.size, 0, none⟩ = some (.int .u64 (N : Nat)) := by rw [cell_of_row w5 _ 0 _ 52 (0, 0) k5]; rfl
  have c1 : w5.cell? ⟨w2.heap.size, 1, none⟩ = some (.int .i64 (P : Nat)) := by rw [cell_of_row w5 _ 1 _ 52 (0, 0) k5]; rfl
  have c2 : w5.cell? ⟨w2.heap.size, 2, none⟩ = some (.int .i64 (FL : Nat)) := by rw [cell_of_row w5 _ 2 _ 52 (0, 0) k5]; rfl
  have c3 : w5.cell? ⟨w2.heap.size, 3, none⟩ = some (.slice ao n cap) := by rw [cell_of_row w5 _ 3 _ 52 (0, 0) k5]; rfl
  have o3 : w4.cell? ⟨w2.heap.size, 3, none⟩ = some (.slice none 0 0) := by rw [cell_of_row w4 _ 3 _ 52 (0, 0) k4]; rfl
  have z3 : w4.frozen? ⟨w2.heap.size, 3, none⟩ = false := frozen_of_row w4 _ 3 _ 52 k4
  clear hit3 hrow hrd4 hg4 hits HI hg04 k4 f4 hg05 hrd5 HI5 k5 hg02 f2
  go_wp2_with (first | (refine wpList_store_row rfl 52 (.tmp 2) (.tmp 12) rfl w.heap.size #[.int .u64 (N : Nat), .int .i64 (P : Nat), .int .i64 (FL : Nat), .slice ao n cap] rfl rfl 52 _ f5 (by kernel_rfl) rfl (by simp [Value.oneCell']) ?_))
  refine bodyPost_ret (results_cell1 (g := w.heap.size) (cs := #[.int .u64 (N : Nat), .int .i64 (P : Nat), .int .i64 (FL : Nat), .slice ao n cap]) Try.results63 rfl (run_loadVar_row _ w.heap.size 52 52 _ (0, 0) _ hset Try.underlying52 rfl (by kernel_rfl))) rfl ?_
  exact ⟨(N, (P : Nat), (FL : Nat), ao, n, cap), rfl, ⟨rfl, rfl, rfl, HE.out.2.2⟩, HE.out.1, HE.out.2.1⟩

set_option maxRecDepth 10000 in
set_option maxHeartbeats 1000000 in
theorem readListS_any (w : World) (r : Nat) (st : St) (h : Cd.Rd w r st) (hl : sl st) :
    Calls Try.prog 62 #[.pointer (some ⟨r, 0, none⟩), .func (.func 63) #[] #[]] w fun e w' => ∃ v xs, e = .returned v ∧ RowG SiX flat 52 4 w.heap.size w' v xs (rMany (rState 9223372036854775807) st).1 ∧ Cd.Rd w' r (rMany (rState 9223372036854775807) st).2 ∧ w.grownBy w' (some r) := by
  obtain ⟨i0, hi0, hz0, hz1, hz2⟩ := info_parts infoS52
  have hrl := h.lt
  have hin := Cd.int_rd w r st h 4096 (by omega) (by omega)
  have hle : (Cd.rInt st 4096).1 ≤ 4096 := rInt_small st 4096
  have hsl1 : sl (Cd.rInt st 4096).2 := sl_int hl
  have HM : Hid (rMany (rState 9223372036854775807) st = rList (rState 9223372036854775807) (Cd.rInt st 4096).1 (Cd.rInt st 4096).2) := rfl
  have HN0 : Hid ((Cd.rInt st 4096).2 = none → (Cd.rInt st 4096).1 = 0) := rInt_none0 st 4096
  generalize Cd.rInt st 4096 = ri at *
  obtain ⟨N, s0⟩ := ri
  simp only at *
  clear h hl
  go_enter Try.func62, Try.ntmps62
  go_wp2_with fail
  refine hin.mono ?_
  rintro e w0 ⟨rfl, hrd0, hg0⟩
  have HR0 : Hid (Cd.Rd w0 r s0 ∧ w.grownBy w0 (some r) ∧ sl s0) := ⟨hrd0, hg0, hsl1⟩
  clear hin hrd0 hg0 hsl1
  go_wp2_with fail
  go_loopw [5, 6, 9] (fun lv _ iv wr => ∃ (k : Nat) (xs : List Sx) (ds : List Sd) (sk : St), k ≤ N ∧ iv = .int .i64 k ∧ xs.length = k ∧ RowG SiX flat 52 4 w.heap.size wr lv xs ds ∧ Cd.Rd wr r sk ∧ w.grownBy wr (some r) ∧ sl sk ∧ (k < N → sk ≠ none) ∧ (0 < k → sk ≠ none) ∧ rList (rState 9223372036854775807) N s0 = comb ds (rList (rState 9223372036854775807) (N - k) sk)) (fun _ _ iv _ => N - (intOf iv).toNat)
  case atStart =>
    refine ⟨0, [], [], s0, by omega, rfl, rfl, RowG.nil _ _ _ _ _ _ rfl, HR0.out.1, HR0.out.2.1, HR0.out.2.2, fun h0 e => ?_, fun h => by omega, ?_⟩
    · have := HN0.out e; omega
    · rw [Nat.sub_zero]; exact (comb_nil_list _ (fun e => rList_none e)).symm
  case round =>
    obtain ⟨k, xs, ds, sk, hk, rfl, hxk, hrow, hrd, hg, hsl, hne, hne0, hrel⟩ := hrel
    have HREL : Hid (rList (rState 9223372036854775807) N s0 = comb ds (rList (rState 9223372036854775807) (N - k) sk)) := hrel
    have HROW : Hid (RowG SiX flat 52 4 w.heap.size wr u5 xs ds) := hrow
    have HXK : Hid (xs.length = k) := hxk
    clear hrel hrow hxk HR0 HN0
    by_cases hlt : k < N
    · have hltI : (k : Int) < (N : Int) := by omega
      have hel := readState_any wr r sk hrd hsl
      have hsl' : sl ((rState 9223372036854775807) sk).2 := sl_state hsl
      have HST : Hid (rList (rState 9223372036854775807) (N - k) sk = match ((rState 9223372036854775807) sk).2 with
        | none => ([], none)
        | some ys => match (rList (rState 9223372036854775807) (N - (k + 1)) (some ys)).2 with
          | none => ([], none)
          | some zs => (((rState 9223372036854775807) sk).1 :: (rList (rState 9223372036854775807) (N - (k + 1)) (some ys)).1, some zs)) := by
        show _ = _
        rw [show N - k = (N - (k + 1)) + 1 by omega]
        rfl
      have hws := hg.size
      generalize (rState 9223372036854775807) sk = re at *
      obtain ⟨d, s1⟩ := re
      simp only at *
      clear hne hne0 hsl hrd
      go_wp2_with fail
      refine hel.mono ?_
      rintro e w1 ⟨x, rfl, hx, hrd1, hg1⟩
      have hs1 := hg1.size
      have hg01 := Cd.grown_trans hg hg1
      have hrd2 : Cd.Rd (w1.alloc (.cells #[.int .u64 (x.1 : Nat), .int .i64 x.2.1, .int .i64 x.2.2.1, .slice x.2.2.2.1 x.2.2.2.2.1 x.2.2.2.2.2] 52)) r s1 := Cd.rd_below hrd1 (bl1 w1 _)
      have hbad := Cd.bad_rd _ r s1 hrd2
      clear hel
      go_wp2_with fail
      refine hbad.mono ?_
      rintro e w9 ⟨rfl, rfl⟩
      clear hbad
      cases s1 with
      | none =>
        have HF : Hid (rMany (rState 9223372036854775807) st = ([], none)) := by
          show _ = _
          rw [HM.out, HREL.out, HST.out]
          rfl
        have HG : Hid (Cd.Rd (w1.alloc (.cells #[.int .u64 (x.1 : Nat), .int .i64 x.2.1, .int .i64 x.2.2.1, .slice x.2.2.2.1 x.2.2.2.2.1 x.2.2.2.2.2] 52)) r none ∧ w.grownBy (w1.alloc (.cells #[.int .u64 (x.1 : Nat), .int .i64 x.2.1, .int .i64 x.2.2.1, .slice x.2.2.2.1 x.2.2.2.2.1 x.2.2.2.2.2] 52)) (some r)) := ⟨hrd2, gr_up hg01 (bl1 w1 _)⟩
        clear HREL HST HM HROW HXK hx hrd1 hg1 hg01 hrd2 hg hsl'
        go_wp2
        go_ret
        rw [HF.out]
        exact ⟨_, [], rfl, RowG.nil _ _ _ _ _ _ rfl, HG.out.1, HG.out.2⟩
      | some ys =>
        have HREL2 : Hid (rList (rState 9223372036854775807) N s0 = comb (ds ++ [d]) (rList (rState 9223372036854775807) (N - (k + 1)) (some ys))) := by
          show _ = _
          rw [HREL.out, HST.out]
          exact comb_step _ _ _
        have hb13 : Below w1.heap.size w1 ((w1.alloc (.cells #[.int .u64 (x.1 : Nat), .int .i64 x.2.1, .int .i64 x.2.2.1, .slice x.2.2.2.1 x.2.2.2.2.1 x.2.2.2.2.2] 52)).alloc (.cells #[.int .u64 (x.1 : Nat), .int .i64 x.2.1, .int .i64 x.2.2.1, .slice x.2.2.2.1 x.2.2.2.2.1 x.2.2.2.2.2] 52)) := bl2 w1 _ _
        have HROW3 : Hid (RowG SiX flat 52 4 w.heap.size ((w1.alloc (.cells #[.int .u64 (x.1 : Nat), .int .i64 x.2.1, .int .i64 x.2.2.1, .slice x.2.2.2.1 x.2.2.2.2.1 x.2.2.2.2.2] 52)).alloc (.cells #[.int .u64 (x.1 : Nat), .int .i64 x.2.1, .int .i64 x.2.2.1, .slice x.2.2.2.1 x.2.2.2.2.1 x.2.2.2.2.2] 52)) u5 xs ds ∧ ∀ b, u5.ownBlock = some b → b < wr.heap.size) :=
          ⟨(HROW.out.keepOld (fun h k => SiX.keep h k) hg1 hrl).up (fun h k => SiX.keep h k) hb13, fun b hb => (HROW.out.1.lt b hb).2⟩
        have hown3 := HROW3.out.1.1
        rw [HXK.out] at hown3
        have HG3 : Hid (Cd.Rd ((w1.alloc (.cells #[.int .u64 (x.1 : Nat), .int .i64 x.2.1, .int .i64 x.2.2.1, .slice x.2.2.2.1 x.2.2.2.2.1 x.2.2.2.2.2] 52)).alloc (.cells #[.int .u64 (x.1 : Nat), .int .i64 x.2.1, .int .i64 x.2.2.1, .slice x.2.2.2.1 x.2.2.2.2.1 x.2.2.2.2.2] 52)) r (some ys) ∧ w.grownBy ((w1.alloc (.cells #[.int .u64 (x.1 : Nat), .int .i64 x.2.1, .int .i64 x.2.2.1, .slice x.2.2.2.1 x.2.2.2.2.1 x.2.2.2.2.2] 52)).alloc (.cells #[.int .u64 (x.1 : Nat), .int .i64 x.2.1, .int .i64 x.2.2.1, .slice x.2.2.2.1 x.2.2.2.2.1 x.2.2.2.2.2] 52)) (some r) ∧ sl (some ys)) := ⟨Cd.rd_below hrd1 hb13, gr_up hg01 hb13, hsl'⟩
        have hcx : ∀ j u, ([.int .u64 (x.1 : Nat), .int .i64 x.2.1, .int .i64 x.2.2.1, .slice x.2.2.2.1 x.2.2.2.2.1 x.2.2.2.2.2] : List Value)[j]? = some u → ((w1.alloc (.cells #[.int .u64 (x.1 : Nat), .int .i64 x.2.1, .int .i64 x.2.2.1, .slice x.2.2.2.1 x.2.2.2.2.1 x.2.2.2.2.2] 52)).alloc (.cells #[.int .u64 (x.1 : Nat), .int .i64 x.2.1, .int .i64 x.2.2.1, .slice x.2.2.2.1 x.2.2.2.2.1 x.2.2.2.2.2] 52)).cell? ((⟨w1.heap.size + 1, 0, none⟩ : Addr).add j) = some u := fun j u hj => by
          rw [Addr.add_lit, Nat.zero_add]
          have := cell_box (w1.alloc (.cells #[.int .u64 (x.1 : Nat), .int .i64 x.2.1, .int .i64 x.2.2.1, .slice x.2.2.2.1 x.2.2.2.2.1 x.2.2.2.2.2] 52)) #[.int .u64 (x.1 : Nat), .int .i64 x.2.1, .int .i64 x.2.2.1, .slice x.2.2.2.1 x.2.2.2.2.1 x.2.2.2.2.2] 52 j u (by simpa using hj)
          simpa using this
        have HX3 : Hid (SiX (fun b => wr.heap.size ≤ b) ((w1.alloc (.cells #[.int .u64 (x.1 : Nat), .int .i64 x.2.1, .int .i64 x.2.2.1, .slice x.2.2.2.1 x.2.2.2.2.1 x.2.2.2.2.2] 52)).alloc (.cells #[.int .u64 (x.1 : Nat), .int .i64 x.2.1, .int .i64 x.2.2.1, .slice x.2.2.2.1 x.2.2.2.2.1 x.2.2.2.2.2] 52)) x d) := SiX.keep hx (Kp.up hb13)
        have hs3 : ((w1.alloc (.cells #[.int .u64 (x.1 : Nat), .int .i64 x.2.1, .int .i64 x.2.2.1, .slice x.2.2.2.1 x.2.2.2.2.1 x.2.2.2.2.2] 52)).alloc (.cells #[.int .u64 (x.1 : Nat), .int .i64 x.2.1, .int .i64 x.2.2.1, .slice x.2.2.2.1 x.2.2.2.2.1 x.2.2.2.2.2] 52)).heap.size = w1.heap.size + 1 + 1 := by simp
        clear HREL HST HROW hx hrd1 hg1 hg01 hrd2 hg hsl' hb13
        go_wp2_with (first | (at_builtin; refine wpList_append_own_at _ rfl _ _ 26 rfl w.heap.size 52 i0 (.agg #[.int .u64 0, .int .i64 0, .int .i64 0, .slice none 0 0]) 4 48 und22 hi0 hz0 hz1 hz2 rfl (by decide) _ k _ rfl hown3 ⟨w1.heap.size + 1, 0, none⟩ 1 1 [.int .u64 (x.1 : Nat), .int .i64 x.2.1, .int .i64 x.2.2.1, .slice x.2.2.2.1 x.2.2.2.2.1 x.2.2.2.2.2] rfl ?d2 ?d3 ?d4 ?d6 ?d7 ?d8 ?_))
        case d2 => rfl
        case d3 => exact hcx
        case d4 => simp [Value.oneCell']
        case d6 => unfold maxLen; omega
        case d7 => omega
        case d8 => omega
        intro v' w4 hown4 hgr4 hnil hat
        have HROW4 : Hid (RowG SiX flat 52 4 w.heap.size w4 v' (xs ++ [x]) (ds ++ [d])) :=
          HROW3.out.1.step (fun h k => SiX.keep h k) (fun h k => SiX.imp h k) HROW3.out.2 HX3.out (by omega) (by rw [List.length_append, HXK.out, flat_snoc]; exact hown4) hgr4 (by rw [hs3]; exact hat)
        have HG4 : Hid (Cd.Rd w4 r (some ys) ∧ w.grownBy w4 (some r)) := by
          have hge : ∀ b, u5.ownBlock = some b → w.heap.size ≤ b := fun b hb => (HROW3.out.1.1.lt b hb).1
          refine ⟨rd_grown HG3.out.1 hgr4 (fun b e => by have := hge b e; omega), ?_⟩
          have := HG3.out.2.1
          exact ⟨hgr4.os.trans this.os, hgr4.tape.trans this.tape, hgr4.output.trans this.output, Nat.le_trans this.size hgr4.size, fun i hi hne => (hgr4.block i (by have := this.size; omega) (fun e => by have := hge i e.symm; omega)).trans (this.block i hi hne)⟩
        have HSL : Hid (sl (some ys)) := HG3.out.2.2
        clear HROW3 HX3 hown3 hown4 hgr4 hnil hat hcx HG3 hs3
        go_wp2
        go_roundw
        case rel => first | exact ⟨k + 1, xs ++ [x], ds ++ [d], some ys, by omega, by go_num, by rw [List.length_append, HXK.out]; rfl, HROW4.out, HG4.out.1, HG4.out.2, HSL.out, fun _ => by simp, fun _ => by simp, HREL2.out⟩ | ((repeat apply Exists.intro); exact ⟨⟨k + 1, xs ++ [x], ds ++ [d], some ys, by omega, by go_num, by rw [List.length_append, HXK.out]; rfl, HROW4.out, HG4.out.1, HG4.out.2, HSL.out, fun _ => by simp, fun _ => by simp, HREL2.out⟩, rfl⟩)
        case measure => simp [intOf]; omega
    · obtain rfl : k = N := by omega
      have HF : Hid (rMany (rState 9223372036854775807) st = (ds, sk)) := by
        show _ = _
        rw [HM.out, HREL.out, Nat.sub_self]
        have hdl := HROW.out.2.1
        rw [HXK.out] at hdl
        exact comb_end (fun e => by
          have : ¬ 0 < k := fun h => hne0 h e
          exact List.eq_nil_of_length_eq_zero (by omega))
      clear HREL HM hne hne0 hsl
      go_wp2
      go_ret
      rw [HF.out]
      exact ⟨_, xs, rfl, HROW.out, hrd, hg⟩
end Go.Proofs.Ytfemjbaadnjanaa
