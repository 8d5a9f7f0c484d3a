/-
  frame.Decode: the frame of some bytes.
-/
import Derived.Test.YtfemjbaadnjanaaFRead4A
import Derived.Test.YtfemjbaadnjanaaFRead4B
import Derived.Test.YtfemjbaadnjanaaFRight4
import Derived.Laws.CopyOwn
namespace Go.Proofs.Ytfemjbaadnjanaa
open Go.RowKit
set_option linter.unusedVariables false
set_option linter.unusedSimpArgs false

theorem readFrame_any (w : World) (r : Nat) (st : St) (h : Cd.Rd w r st) (hl : sl st) :
    Calls Try.prog 27 #[.pointer (some ⟨r, 0, none⟩)] w fun e w' => ∃ a, e = .returned (fval (rFrame 9223372036854775807 st).1 a) ∧ FIn (fun b => w.heap.size ≤ b) w' (rFrame 9223372036854775807 st).1 a ∧ Cd.Rd w' r (rFrame 9223372036854775807 st).2 ∧ w.grownBy w' (some r) := by
  have hk := rInt_small st 7
  have hk' : (Cd.rInt st 7).1 = 0 ∨ (Cd.rInt st 7).1 = 1 ∨ (Cd.rInt st 7).1 = 2 ∨ (Cd.rInt st 7).1 = 3 ∨ (Cd.rInt st 7).1 = 4 ∨ (Cd.rInt st 7).1 = 5 ∨ (Cd.rInt st 7).1 = 6 ∨ (Cd.rInt st 7).1 = 7 := by
    have : (Cd.rInt st 7).1 ≤ 7 := hk
    omega
  rcases hk' with k | k | k | k | k | k | k | k
  · exact readFrame_0 w r st h hl k
  · exact readFrame_1 w r st h hl k
  · exact readFrame_2 w r st h hl k
  · exact readFrame_3 w r st h hl k
  · exact readFrame_4 w r st h hl k
  · exact readFrame_5 w r st h hl k
  · exact readFrame_6 w r st h hl k
  · exact readFrame_7 w r st h hl k

/-- What Decode answers. -/
def DecAns (B : Nat) (w' : World) (b : List UInt8) (e : Ending) : Prop :=
  ∃ a, e = .returned (.tuple #[fval (decF 9223372036854775807 b).2 a, .int .i64 ((decF 9223372036854775807 b).1 : Nat)]) ∧ FIn (fun x => B ≤ x) w' (decF 9223372036854775807 b).2 a
theorem decAns_zero {B : Nat} {w' : World} {b : List UInt8} {n : Nat} (h : decF 9223372036854775807 b = (n, zeroF)) : DecAns B w' b (.returned (.tuple #[.agg #[.int .u8 0, .int .i64 0, .int .u64 0, .int .i64 0, .int .u16 0, .int .u64 0, .int .i64 0, .int .u64 0, .int .i64 0, .slice none 0 0, .int .u64 0, .slice none 0 0, .slice none 0 0, .int .u64 0, .int .u64 0], .int .i64 (n : Nat)])) := by
  unfold DecAns
  rw [h]
  exact ⟨Fa.none, rfl, FIn.zero _ _⟩
theorem openA (w : World) (ao : Option Addr) (n cap : Nat) (xs : List UInt8) (h : Cd.Row w ao n cap xs) (hr : n ≤ 140737488355328) :
    Calls Try.prog 25 #[.slice ao n cap] w fun e w' => ∃ vo vc, e = .returned (.tuple #[.slice vo (Cd.opened xs).2.length vc, .int .i64 ((Cd.opened xs).1 : Nat)]) ∧ Cd.Row w' vo (Cd.opened xs).2.length vc (Cd.opened xs).2 ∧ Below w.heap.size w w' := by
  by_cases h4 : 4 ≤ n
  · refine (Cd.open_long w ao n cap xs h h4 hr).mono ?_
    rintro e w' ⟨v, rfl, hown, hb⟩
    obtain ⟨vo, vc, rfl, hrow, _⟩ := Cd.owns_row hown
    exact ⟨vo, vc, rfl, hrow, hb⟩
  · refine (Cd.open_short w ao n cap (by omega) h.2.2.1).mono ?_
    rintro e w' ⟨rfl, rfl⟩
    have : Cd.opened xs = (3, []) := by unfold Cd.opened; rw [if_pos (by have := h.1; omega)]
    rw [this]
    exact ⟨none, 0, rfl, (Rx.nil (p := fun _ => True)).row, Below.refl _ _⟩
theorem rFrame_in (st : St) (m : Int) (hm : m ≤ 9223372036854775807) (ys : List UInt8) (h : (rFrame m st).2 = some ys) : In64 (rFrame m st).1.frm := (rFrame_some h hm).2.1.frm

set_option maxRecDepth 20000 in
set_option maxHeartbeats 2000000 in
theorem decodeF_any (w : World) (ao : Option Addr) (n cap : Nat) (xs : List UInt8) (h : Cd.Row w ao n cap xs) (hn : n ≤ 140737488355328) :
    Calls Try.prog 14 #[.slice ao n cap] w fun e w' => DecAns w.heap.size w' xs e ∧ Below w.heap.size w w' := by
  have hlen := h.1
  by_cases hlong : 1048576 < n
  · have HD : Hid (decF 9223372036854775807 xs = (2, zeroF)) := by show _ = _; unfold decF; rw [if_pos (by omega)]
    have hnI : (1048576 : Int) < (n : Int) := by omega
    clear h hlen
    go_enter Try.func14, Try.ntmps14
    go_wp2
    refine bodyPost_ret (results_cell2 (g := w.heap.size) Try.results14 rfl rfl (load30 (heap_alloc_new _ _) rfl)) rfl ?_
    exact ⟨decAns_zero HD.out, bl1 _ _⟩
  · have hop := openA (w.alloc (.cells #[.int .u8 0, .int .i64 0, .int .u64 0, .int .i64 0, .int .u16 0, .int .u64 0, .int .i64 0, .int .u64 0, .int .i64 0, .slice none 0 0, .int .u64 0, .slice none 0 0, .slice none 0 0, .int .u64 0, .int .u64 0] 30)) ao n cap xs (h.below (bl1 _ _) (Nat.le_refl _)) (by omega)
    have HNL : Hid (¬ 1048576 < xs.length) := by show ¬ _; omega
    have hol := opened_len xs
    have hol2 : (Cd.opened xs).2.length ≤ 1048576 := by omega
    obtain ⟨oe, hoe⟩ : ∃ oe, Cd.opened xs = oe := ⟨_, rfl⟩
    have HO : Hid (Cd.opened xs = oe) := hoe
    rw [hoe] at hop hol2
    obtain ⟨oc, ys⟩ := oe
    simp only at hop hol2
    clear hoe hol h hlen
    have hnI : ¬ (1048576 : Int) < (n : Int) := by omega
    clear hlong
    go_enter Try.func14, Try.ntmps14
    go_wp2_with fail
    refine hop.mono ?_
    rintro e w1 ⟨io, ic, rfl, hrow, hb1⟩
    have hb01 : Below w.heap.size w w1 := bl_step (bl1 _ _) hb1
    have z1 : w1.heap[w.heap.size]? = some (.cells #[.int .u8 0, .int .i64 0, .int .u64 0, .int .i64 0, .int .u16 0, .int .u64 0, .int .i64 0, .int .u64 0, .int .i64 0, .slice none 0 0, .int .u64 0, .slice none 0 0, .slice none 0 0, .int .u64 0, .int .u64 0] 30 (0, 0)) := (hb1.block w.heap.size (by simp)).trans (heap_alloc_new _ _)
    have hs1 : w.heap.size < w1.heap.size := by have := hb1.size; simp at this; omega
    clear hop hb1
    by_cases h0 : oc = 0
    · subst h0
      have hnr := Cd.newReader_any w1 io ys.length ic ys hrow (by omega)
      have HSL : Hid (sl (some ys)) := fun xs' e => by cases e; exact hol2
      clear hrow hol2
      generalize ys.length = yn at *
      go_wp2_with fail
      refine hnr.mono ?_
      rintro e w2 ⟨r, rfl, hr, hrd2, hb2⟩
      have hb02 := bl_step hb01 hb2
      have z2 := (hb2.block w.heap.size hs1).trans z1
      have hs2 := hb2.size
      have hrf := readFrame_any w2 r (some ys) hrd2 HSL.out
      have hrl := hrd2.lt
      have HFR : Hid (∀ zs, (rFrame 9223372036854775807 (some ys)).2 = some zs → In64 (rFrame 9223372036854775807 (some ys)).1.frm) := fun zs hz => rFrame_in (some ys) _ (by omega) zs hz
      have HDF : Hid (decF 9223372036854775807 xs = if (rFrame 9223372036854775807 (some ys)).2 = some [] ∧ rightF (rFrame 9223372036854775807 (some ys)).1 = true then (0, (rFrame 9223372036854775807 (some ys)).1) else (3, zeroF)) := by
        show _ = _
        unfold decF
        rw [if_neg HNL.out, HO.out, if_neg (by simp)]
      generalize rFrame 9223372036854775807 (some ys) = rf at *
      obtain ⟨F, s3⟩ := rf
      simp only at *
      clear hnr hb2 z1 hb01 HO HSL hrd2 HNL
      go_wp2_with fail
      refine hrf.mono ?_
      rintro e w3 ⟨a, rfl, hin3, hrd3, hg3⟩
      unfold fval fcells
      have z3 := (hg3.block w.heap.size (by omega) (by simp; omega)).trans z2
      have hs3 := hg3.size
      have hb03 : Below w.heap.size w w3 := ⟨hg3.os.trans hb02.os, hg3.tape.trans hb02.tape, hg3.output.trans hb02.output, Nat.le_trans hb02.size hs3, fun k hk => (hg3.block k (by omega) (by simp; omega)).trans (hb02.block k hk)⟩
      obtain ⟨w4, hw4⟩ : ∃ w4, w3.alloc (.cells #[.int .u8 (F.kind : Nat), .int .i64 F.frm, .int .u64 (F.idN : Nat), .int .i64 F.idP, .int .u16 (F.set : Nat), .int .u64 (F.curN : Nat), .int .i64 F.curP, .int .u64 (F.promN : Nat), .int .i64 F.promP, .slice a.so F.st.length a.sc, .int .u64 (F.base : Nat), .slice a.mo F.ms.length a.mc, .slice a.io F.it.length a.ic, .int .u64 (F.ack : Nat), .int .u64 (F.safe : Nat)] 30) = w4 := ⟨_, rfl⟩
      have hb34 : Below w3.heap.size w3 w4 := by rw [← hw4]; exact bl1 _ _
      have hs4 : w4.heap.size = w3.heap.size + 1 := by rw [← hw4]; simp
      have hb04 : Below w.heap.size w w4 := bl_step hb03 hb34
      have z4 := (hb34.block w.heap.size (by omega)).trans z3
      have hbf : Bf w3.heap.size F a w4 := by rw [← hw4]; exact bf_new w3 F a 30
      have k4 : w4.heap[w3.heap.size]? = some (.cells (fcells F a) 30 (0, 0)) := by rw [← hw4]; exact heap_alloc_new _ _
      have hrd4 : Cd.Rd w4 r s3 := Cd.rd_below hrd3 hb34
      have HIN : Hid (FIn (fun b => w2.heap.size ≤ b) w4 F a) := hin3.up hb34
      have hbad := Cd.bad_rd w4 r s3 hrd4
      have hleft := Cd.left_rd w4 r s3 hrd4
      have HW4 : Hid (w3.alloc (.cells #[.int .u8 (F.kind : Nat), .int .i64 F.frm, .int .u64 (F.idN : Nat), .int .i64 F.idP, .int .u16 (F.set : Nat), .int .u64 (F.curN : Nat), .int .i64 F.curP, .int .u64 (F.promN : Nat), .int .i64 F.promP, .slice a.so F.st.length a.sc, .int .u64 (F.base : Nat), .slice a.mo F.ms.length a.mc, .slice a.io F.it.length a.ic, .int .u64 (F.ack : Nat), .int .u64 (F.safe : Nat)] 30) = w4) := hw4
      clear hrf hin3 hrd3 hg3 z3 hb34 hw4 z2 hrd4
      go_wp2_with fail
      rw [HW4.out]
      refine hbad.mono ?_
      rintro e w9 ⟨rfl, rfl⟩
      clear hbad HW4
      cases s3 with
      | none =>
        have HER : Hid (decF 9223372036854775807 xs = (3, zeroF)) := by show _ = _; rw [HDF.out, if_neg (by simp)]
        clear hleft HDF HFR HIN k4 hbf
        have hzs := setRow_heap w4 w.heap.size _ #[.int .u8 0, .int .i64 0, .int .u64 0, .int .i64 0, .int .u16 0, .int .u64 0, .int .i64 0, .int .u64 0, .int .i64 0, .slice none 0 0, .int .u64 0, .slice none 0 0, .slice none 0 0, .int .u64 0, .int .u64 0] 30 (0, 0) z4
        go_wp2_with (first | (refine wpList_store_row rfl 30 (.tmp 2) (.tmp 37) rfl w.heap.size #[.int .u8 0, .int .i64 0, .int .u64 0, .int .i64 0, .int .u16 0, .int .u64 0, .int .i64 0, .int .u64 0, .int .i64 0, .slice none 0 0, .int .u64 0, .slice none 0 0, .slice none 0 0, .int .u64 0, .int .u64 0] rfl rfl 30 _ z4 info30 rfl (by simp [Value.oneCell']) ?_))
        refine bodyPost_ret (results_cell2 (g := w.heap.size) Try.results14 rfl rfl (load30 hzs rfl)) rfl ?_
        exact ⟨decAns_zero HER.out, below_setRow hb04 (Nat.le_refl _) _⟩

      | some zs =>
        simp only [Option.isNone_some, Cd.rLeft] at hleft ⊢
        go_wp2_with fail
        refine hleft.mono ?_
        rintro e w9 ⟨rfl, rfl⟩
        clear hleft
        cases zs with
        | cons c t =>
          have HER : Hid (decF 9223372036854775807 xs = (3, zeroF)) := by show _ = _; rw [HDF.out, if_neg (by simp)]
          obtain ⟨m, hm⟩ : ∃ m, (c :: t).length = m := ⟨_, rfl⟩
          have hmp : 0 < m := by rw [← hm]; simp
          rw [hm]
          have hmI : (0 : Int) < (m : Int) := by omega
          clear HDF HFR HIN k4 hbf hm
          have hzs := setRow_heap w4 w.heap.size _ #[.int .u8 0, .int .i64 0, .int .u64 0, .int .i64 0, .int .u16 0, .int .u64 0, .int .i64 0, .int .u64 0, .int .i64 0, .slice none 0 0, .int .u64 0, .slice none 0 0, .slice none 0 0, .int .u64 0, .int .u64 0] 30 (0, 0) z4
          go_wp2_with (first | (refine wpList_store_row rfl 30 (.tmp 2) (.tmp 37) rfl w.heap.size #[.int .u8 0, .int .i64 0, .int .u64 0, .int .i64 0, .int .u16 0, .int .u64 0, .int .i64 0, .int .u64 0, .int .i64 0, .slice none 0 0, .int .u64 0, .slice none 0 0, .slice none 0 0, .int .u64 0, .int .u64 0] rfl rfl 30 _ z4 info30 rfl (by simp [Value.oneCell']) ?_))
          refine bodyPost_ret (results_cell2 (g := w.heap.size) Try.results14 rfl rfl (load30 hzs rfl)) rfl ?_
          exact ⟨decAns_zero HER.out, below_setRow hb04 (Nat.le_refl _) _⟩

        | nil =>
          have hri := right_any _ w4 F a HIN.out (HFR.out [] rfl)
          unfold fval fcells at hri
          obtain ⟨d0, d1, d2, d3, d4, d5, d6, d7, d8, d9, d10, d11, d12, d13, d14⟩ := hbf
          cases hrt : rightF F with
          | false =>
            rw [hrt] at hri
            have HER : Hid (decF 9223372036854775807 xs = (3, zeroF)) := by show _ = _; rw [HDF.out, if_neg (by simp [hrt])]
            clear HDF HFR HIN k4 hrt
            go_wp2_with fail
            refine hri.mono ?_
            rintro e w5 ⟨rfl, hu5⟩
            have hb05 := bl_step hb04 hu5.bl
            have z5 := (hu5.bl.block w.heap.size (by omega)).trans z4
            clear hri d0 d1 d2 d3 d4 d5 d6 d7 d8 d9 d10 d11 d12 d13 d14 hu5 hb04 z4
            have hzs := setRow_heap w5 w.heap.size _ #[.int .u8 0, .int .i64 0, .int .u64 0, .int .i64 0, .int .u16 0, .int .u64 0, .int .i64 0, .int .u64 0, .int .i64 0, .slice none 0 0, .int .u64 0, .slice none 0 0, .slice none 0 0, .int .u64 0, .int .u64 0] 30 (0, 0) z5
            go_wp2_with (first | (refine wpList_store_row rfl 30 (.tmp 2) (.tmp 37) rfl w.heap.size #[.int .u8 0, .int .i64 0, .int .u64 0, .int .i64 0, .int .u16 0, .int .u64 0, .int .i64 0, .int .u64 0, .int .i64 0, .slice none 0 0, .int .u64 0, .slice none 0 0, .slice none 0 0, .int .u64 0, .int .u64 0] rfl rfl 30 _ z5 info30 rfl (by simp [Value.oneCell']) ?_))
            refine bodyPost_ret (results_cell2 (g := w.heap.size) Try.results14 rfl rfl (load30 hzs rfl)) rfl ?_
            exact ⟨decAns_zero HER.out, below_setRow hb05 (Nat.le_refl _) _⟩

          | true =>
            rw [hrt] at hri
            have HOK : Hid (decF 9223372036854775807 xs = (0, F)) := by show _ = _; rw [HDF.out, if_pos ⟨rfl, hrt⟩]
            clear HDF HFR hrt
            go_wp2_with fail
            refine hri.mono ?_
            rintro e w5 ⟨rfl, hu5⟩
            have hb05 := bl_step hb04 hu5.bl
            have z5 := (hu5.bl.block w.heap.size (by omega)).trans z4
            have k5 := (hu5.bl.block w3.heap.size (by omega)).trans k4
            unfold fcells at k5
            have HIN5 : Hid (FIn (fun b => w.heap.size ≤ b) (w5.setRow w.heap.size #[.int .u8 (F.kind : Nat), .int .i64 F.frm, .int .u64 (F.idN : Nat), .int .i64 F.idP, .int .u16 (F.set : Nat), .int .u64 (F.curN : Nat), .int .i64 F.curP, .int .u64 (F.promN : Nat), .int .i64 F.promP, .slice a.so F.st.length a.sc, .int .u64 (F.base : Nat), .slice a.mo F.ms.length a.mc, .slice a.io F.it.length a.ic, .int .u64 (F.ack : Nat), .int .u64 (F.safe : Nat)]) F a) := by
              have := HIN.out.up hu5.bl
              exact (FIn.keep this (kp_setRow (fun b hb => by omega))).imp (fun b _ hb => by omega)
            have hset := setRow_heap w5 w.heap.size _ #[.int .u8 (F.kind : Nat), .int .i64 F.frm, .int .u64 (F.idN : Nat), .int .i64 F.idP, .int .u16 (F.set : Nat), .int .u64 (F.curN : Nat), .int .i64 F.curP, .int .u64 (F.promN : Nat), .int .i64 F.promP, .slice a.so F.st.length a.sc, .int .u64 (F.base : Nat), .slice a.mo F.ms.length a.mc, .slice a.io F.it.length a.ic, .int .u64 (F.ack : Nat), .int .u64 (F.safe : Nat)] 30 (0, 0) z5
            clear hri d0 d1 d2 d3 d4 d5 d6 d7 d8 d9 d10 d11 d12 d13 d14 hu5 hb04 z4 k4 HIN
            go_wp2_with (first | (refine wpList_load_row rfl 30 (.tmp 7) rfl w3.heap.size rfl 30 #[.int .u8 (F.kind : Nat), .int .i64 F.frm, .int .u64 (F.idN : Nat), .int .i64 F.idP, .int .u16 (F.set : Nat), .int .u64 (F.curN : Nat), .int .i64 F.curP, .int .u64 (F.promN : Nat), .int .i64 F.promP, .slice a.so F.st.length a.sc, .int .u64 (F.base : Nat), .slice a.mo F.ms.length a.mc, .slice a.io F.it.length a.ic, .int .u64 (F.ack : Nat), .int .u64 (F.safe : Nat)] (0, 0) _ k5 Try.underlying30 rfl info30 ?_) | (refine wpList_store_row rfl 30 (.tmp 2) (.tmp 38) rfl w.heap.size #[.int .u8 (F.kind : Nat), .int .i64 F.frm, .int .u64 (F.idN : Nat), .int .i64 F.idP, .int .u16 (F.set : Nat), .int .u64 (F.curN : Nat), .int .i64 F.curP, .int .u64 (F.promN : Nat), .int .i64 F.promP, .slice a.so F.st.length a.sc, .int .u64 (F.base : Nat), .slice a.mo F.ms.length a.mc, .slice a.io F.it.length a.ic, .int .u64 (F.ack : Nat), .int .u64 (F.safe : Nat)] rfl rfl 30 _ z5 info30 rfl (by simp [Value.oneCell']) ?_))
            refine bodyPost_ret (results_cell2 (g := w.heap.size) Try.results14 rfl rfl (load30 hset rfl)) rfl ?_
            refine ⟨?_, below_setRow hb05 (Nat.le_refl _) _⟩
            unfold DecAns
            rw [HOK.out]
            exact ⟨a, rfl, HIN5.out⟩
    · have HER : Hid (decF 9223372036854775807 xs = (oc, zeroF)) := by
        show _ = _
        unfold decF
        rw [if_neg HNL.out, HO.out, if_pos h0]
      have hzs := setRow_heap w1 w.heap.size _ #[.int .u8 0, .int .i64 0, .int .u64 0, .int .i64 0, .int .u16 0, .int .u64 0, .int .i64 0, .int .u64 0, .int .i64 0, .slice none 0 0, .int .u64 0, .slice none 0 0, .slice none 0 0, .int .u64 0, .int .u64 0] 30 (0, 0) z1
      have hocI : ((oc : Int) != 0) = true := by simp; omega
      clear hrow hol2 HO HNL h0
      generalize ys.length = yn at *
      go_wp2_with (first | (refine wpList_store_row rfl 30 (.tmp 2) (.tmp 19) rfl w.heap.size #[.int .u8 0, .int .i64 0, .int .u64 0, .int .i64 0, .int .u16 0, .int .u64 0, .int .i64 0, .int .u64 0, .int .i64 0, .slice none 0 0, .int .u64 0, .slice none 0 0, .slice none 0 0, .int .u64 0, .int .u64 0] rfl rfl 30 _ z1 info30 rfl (by simp [Value.oneCell']) ?_))
      refine bodyPost_ret (results_cell2 (g := w.heap.size) Try.results14 rfl rfl (load30 hzs rfl)) rfl ?_
      exact ⟨decAns_zero HER.out, below_setRow hb01 (Nat.le_refl _) _⟩
end Go.Proofs.Ytfemjbaadnjanaa
