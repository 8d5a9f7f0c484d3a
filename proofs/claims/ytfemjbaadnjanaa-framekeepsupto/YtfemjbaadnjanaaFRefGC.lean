/-
  Which frames are right, by the document's answer: kinds 5, 6, 7.
-/
import Derived.Test.YtfemjbaadnjanaaFRefG0
namespace Go.Proofs.Ytfemjbaadnjanaa
open Go.RowKit
set_option linter.unusedVariables false
set_option linter.unusedSimpArgs false

set_option maxRecDepth 20000 in
set_option maxHeartbeats 4000000 in
theorem refForm7_5 (p : Nat → Prop) (w : World) (F : PF) (a : Fa) (h : FIn p w F a) (hk : F.kind = 5) (hfr : In64 F.frm) :
    Calls Try.prog 13 #[.agg #[.int .u8 5, .int .i64 F.frm, .int .u64 (F.idN : Nat), .int .i64 F.idP, .int .u16 (F.set : Nat), .int .u64 (F.curN : Nat), .int .i64 F.curP, .int .u64 (F.promN : Nat), .int .i64 F.promP, .slice a.so F.st.length a.sc, .int .u64 (F.base : Nat), .slice a.mo F.ms.length a.mc, .slice a.io F.it.length a.ic, .int .u64 (F.ack : Nat), .int .u64 (F.safe : Nat)]] w fun e w' => e = .returned (.bool (rightF F)) ∧ Up w w' := by
  obtain ⟨w0, hw0⟩ : ∃ w0, w.alloc (.cells #[.int .u8 5, .int .i64 F.frm, .int .u64 (F.idN : Nat), .int .i64 F.idP, .int .u16 (F.set : Nat), .int .u64 (F.curN : Nat), .int .i64 F.curP, .int .u64 (F.promN : Nat), .int .i64 F.promP, .slice a.so F.st.length a.sc, .int .u64 (F.base : Nat), .slice a.mo F.ms.length a.mc, .slice a.io F.it.length a.ic, .int .u64 (F.ack : Nat), .int .u64 (F.safe : Nat)] 30) = w0 := ⟨_, rfl⟩
  have hu0 : Up w w0 := by rw [← hw0]; exact (Up.refl _).alloc _
  have hb0 : Bf w.heap.size F a w0 := by
    rw [← hw0]
    have := bf_new w F a 30
    unfold fcells at this
    rw [hk] at this
    exact this
  have hs0 : w0.heap.size = w.heap.size + 1 := by rw [← hw0]; simp
  obtain ⟨w1, hw1⟩ : ∃ w1, w0.alloc (.cells #[.int .u64 0, .int .i64 0] 24) = w1 := ⟨_, rfl⟩
  have hu1 : Up w0 w1 := by rw [← hw1]; exact (Up.refl _).alloc _
  have HB : Hid (Bf w.heap.size F a w1) := hb0.up hu1.bl
  have HZ : Hid (w1.cell? ⟨w.heap.size + 1, 0, none⟩ = some (.int .u64 0) ∧ w1.cell? ⟨w.heap.size + 1, 1, none⟩ = some (.int .i64 0)) := by
    rw [← hw1, ← hs0]
    exact ⟨cell_box w0 _ 24 0 _ rfl, cell_box w0 _ 24 1 _ rfl⟩
  have HI : Hid (FIn p w1 F a) := (h.up hu0.bl).up hu1.bl
  have hu01 := hu0.trans hu1
  have f1 := fun W => refForm_any W F.idN F.idP
  have f2 := fun W => refForm_any W F.curN F.curP
  have f3 := fun W => refForm_any W F.promN F.promP
  unfold vid at f1 f2 f3
  have f4 := fun W (u : Below w1.heap.size w1 W) => refFine_any p W a.so F.st.length a.sc F.st (HI.out.up u).st
  have f5 := fun W (u : Below w1.heap.size w1 W) => refRight_any p W a.io F.it.length a.ic F.it (HI.out.up u).it
  have q1 := fun W => vidz_equal F.idN F.idP W
  have q2 := fun W => vidz_equal F.curN F.curP W
  have q3 := fun W => vidz_equal F.promN F.promP W
  have e1 := z_dec F.idN
  have e2 := nz_dec F.set
  have e3 := nz_dec F.base
  have e4 := nz_dec F.ack
  have e5 := nz_dec F.safe
  have e6 := pos_dec F.st.length
  have e7 := pos_dec F.ms.length
  have e8 := pos_dec F.it.length
  have e9 := one_dec F.st.length
  have e10 := most_dec F.ms.length
  obtain ⟨c, hc⟩ : ∃ c, ckOf F = c := ⟨_, rfl⟩
  have hright := right_5 F hk c hc
  obtain ⟨r, HR⟩ : ∃ r, Hid (rightF F = r) := ⟨_, rfl⟩
  rw [HR.out] at hright ⊢
  obtain ⟨fr, vI, vC, vP, bS, sN, bB, bA, bSf, mN, iN, nI, fI, fC, fP, st1, fin, its, ml⟩ := c
  unfold ckOf at hc
  simp only [Ck.mk.injEq] at hc
  obtain ⟨g0, g1, g2, g3, g4, g5, g6, g7, g8, g9, g10, g11, g12, g13, g14, g15, g16, g17, g18⟩ := hc
  rw [g1] at q1
  rw [g2] at q2
  rw [g3] at q3
  rw [g11] at e1
  rw [g4] at e2
  rw [g6] at e3
  rw [g7] at e4
  rw [g8] at e5
  rw [g5] at e6
  rw [g9] at e7
  rw [g10] at e8
  rw [g15] at e9
  rw [g18] at e10
  rw [g12] at f1
  rw [g13] at f2
  rw [g14] at f3
  simp only [g16] at f4
  simp only [g17] at f5
  simp only at hright
  have HRB : Hid _ := hright
  have HFR : Hid (okF F.frm = fr) := g0
  have hk0 : Hid (F.kind = 5) := hk
  obtain ⟨hf1, hf2⟩ := hfr
  have HG0 : Hid (decide (F.st.length = 0) = sN ∧ decide (F.ms.length = 0) = mN ∧ decide (F.it.length = 0) = iN) := ⟨g5, g9, g10⟩
  have HW1 : Hid (w0.alloc (.cells #[.int .u64 0, .int .i64 0] 24) = w1) := hw1
  clear g1 g2 g3 g4 g5 g6 g7 g8 g9 g10 g11 g12 g13 g14 g15 g16 g17 g18 g0 hright HR hk h hw1 HI
  have hslen : w.heap.size < w0.heap.size := by omega
  have d0k : w0.cell? ⟨w.heap.size, 0, none⟩ = some (.int .u8 5) := by have := hb0.c0; rw [hk0.out] at this; exact this
  obtain ⟨d0, d1, d2, d3, d4, d5, d6, d7, d8, d9, d10, d11, d12, d13, d14⟩ := hb0
  clear d0
  have d0 := d0k
  clear d0k
  obtain ⟨sn, hsn⟩ : ∃ sn, F.st.length = sn := ⟨_, rfl⟩
  obtain ⟨mn, hmn⟩ : ∃ mn, F.ms.length = mn := ⟨_, rfl⟩
  obtain ⟨inn, hinn⟩ : ∃ inn, F.it.length = inn := ⟨_, rfl⟩
  have HLN : Hid (F.st.length = sn ∧ F.ms.length = mn ∧ F.it.length = inn) := ⟨hsn, hmn, hinn⟩
  simp only [hsn, hmn, hinn] at hw0 d9 d11 d12 e6 e7 e8 e9 e10 f4 f5 ⊢
  have HG : Hid (decide (sn = 0) = sN ∧ decide (mn = 0) = mN ∧ decide (inn = 0) = iN) := by have := HG0.out; rw [hsn, hmn, hinn] at this; exact this
  clear hsn hmn hinn HG0
  by_cases h0 : F.frm < 0
  · have hr : r = false := by rw [HRB.out, ← HFR.out, okF, decide_eq_false (by omega)]; simp
    subst hr
    clear HRB HFR f1 f2 f3 f4 f5 q1 q2 q3 e1 e2 e3 e4 e5 e6 e7 e8 e9 e10 HZ HB
    go_enter Try.func13, Try.ntmps13
    go_wp2
    go_ret
    exact ⟨rfl, by first | exact hu0.alloc _ | (rw [← hw0] at hu0; exact hu0.alloc _)⟩
  by_cases h1 : 15 < F.frm
  · have hr : r = false := by rw [HRB.out, ← HFR.out, okF, decide_eq_false (show ¬ F.frm ≤ 15 by omega)]; simp
    subst hr
    clear HRB HFR f1 f2 f3 f4 f5 q1 q2 q3 e1 e2 e3 e4 e5 e6 e7 e8 e9 e10 HZ HB
    go_enter Try.func13, Try.ntmps13
    go_wp2
    go_ret
    exact ⟨rfl, by first | exact hu0.alloc _ | (rw [← hw0] at hu0; exact hu0.alloc _)⟩
  obtain rfl : fr = true := by rw [← HFR.out, okF, decide_eq_true (show 0 ≤ F.frm by omega), decide_eq_true (show F.frm ≤ 15 by omega)]; rfl
  clear HFR
  cases nI with
  | true =>
    clear f1 f2 f3 f4 f5 q1 q2 q3 e2 e3 e4 e5 e6 e7 e8 e9 e10
    go_enter Try.func13, Try.ntmps13
    go_wp2
    go_ret
    refine ⟨ret_bool ?_, by first | exact hu0.alloc _ | (rw [← hw0] at hu0; exact hu0.alloc _)⟩
    rw [HRB.out]
    simp
  | false =>
    go_enter Try.func13, Try.ntmps13
    go_wp2_with fail
    (try rw [hw0])
    rw [HW1.out]
    refine (f1 _).mono ?_
    rintro e w2 ⟨rfl, hu2⟩
    have hub2 := (Up.refl w1).trans hu2
    have hu02 := hu01.trans hu2
    clear hu2 d0 d1 d2 d3 d4 d5 d6 d7 d8 d9 d10 d11 d12 d13 d14 e1
    obtain ⟨d0, d1, d2, d3, d4, d5, d6, d7, d8, d9, d10, d11, d12, d13, d14⟩ := HB.out.up hub2.bl
    rw [HLN.out.1] at d9
    rw [HLN.out.2.1] at d11
    rw [HLN.out.2.2] at d12
    have n0 := hub2.cell HZ.out.1
    have n1 := hub2.cell HZ.out.2
    cases fI with
    | false =>
      clear f1 f2 f3 f4 f5 q1 q2 q3 e2 e3 e4 e5 e6 e7 e8 e9 e10
      go_wp2
      go_ret
      refine ⟨ret_bool ?_, hu02⟩
      (try rw [HRB.out])
      simp
    | true =>
      have e1 : True := trivial
      go_wp2_with fail
      all_goals (try go_wp2_with fail)
      all_goals first | (go_ret; obtain ⟨gS, gM, gI⟩ := HG.out; refine ⟨ret_bool ?_, hu02⟩; rw [HRB.out]; simp_all; done) | skip
      subst_vars
      refine (f2 _).mono ?_
      rintro e wA ⟨rfl, huA⟩
      have hubA := (hub2).trans huA
      have huA0 := (hu02).trans huA
      clear f2 huA
      (try clear f1)
      (try clear d0)
      (try clear d1)
      (try clear d2)
      (try clear d3)
      (try clear d4)
      (try clear d5)
      (try clear d6)
      (try clear d7)
      (try clear d8)
      (try clear d9)
      (try clear d10)
      (try clear d11)
      (try clear d12)
      (try clear d13)
      (try clear d14)
      (try clear q1)
      (try clear q2)
      (try clear q3)
      (try clear e1)
      (try clear e2)
      (try clear e3)
      (try clear e4)
      (try clear e5)
      (try clear e6)
      (try clear e7)
      (try clear e8)
      obtain ⟨d0, d1, d2, d3, d4, d5, d6, d7, d8, d9, d10, d11, d12, d13, d14⟩ := HB.out.up hubA.bl
      rw [HLN.out.1] at d9
      rw [HLN.out.2.1] at d11
      rw [HLN.out.2.2] at d12
      cases fC with
      | false =>
        clear f3 f4 f5
        go_wp2
        go_ret
        refine ⟨ret_bool ?_, huA0⟩
        (try rw [HRB.out])
        simp
      | true =>
        go_wp2_with fail
        refine (f3 _).mono ?_
        rintro e wB ⟨rfl, huB⟩
        have hubB := hubA.trans huB
        have huB0 := huA0.trans huB
        clear f3 huB d0 d1 d2 d3 d4 d5 d6 d7 d8 d9 d10 d11 d12 d13 d14
        obtain ⟨d0, d1, d2, d3, d4, d5, d6, d7, d8, d9, d10, d11, d12, d13, d14⟩ := HB.out.up hubB.bl
        rw [HLN.out.1] at d9
        rw [HLN.out.2.1] at d11
        rw [HLN.out.2.2] at d12
        cases fP with
        | false =>
          clear f4 f5
          go_wp2
          go_ret
          refine ⟨ret_bool ?_, huB0⟩
          (try rw [HRB.out])
          simp
        | true =>
          have f4B := f4 wB hubB.bl
          go_wp2_with fail
          refine f4B.mono ?_
          rintro e wC ⟨rfl, huC⟩
          have hubC := hubB.trans huC
          have huC0 := huB0.trans huC
          clear f4 f4B huC d0 d1 d2 d3 d4 d5 d6 d7 d8 d9 d10 d11 d12 d13 d14
          obtain ⟨d0, d1, d2, d3, d4, d5, d6, d7, d8, d9, d10, d11, d12, d13, d14⟩ := HB.out.up hubC.bl
          rw [HLN.out.1] at d9
          rw [HLN.out.2.1] at d11
          rw [HLN.out.2.2] at d12
          cases fin with
          | false =>
            clear f5
            go_wp2
            go_ret
            refine ⟨ret_bool ?_, huC0⟩
            (try rw [HRB.out])
            simp
          | true =>
            have f5C := f5 wC hubC.bl
            go_wp2_with fail
            refine f5C.mono ?_
            rintro e wD ⟨rfl, huD⟩
            have hubD := hubC.trans huD
            have huD0 := huC0.trans huD
            clear f5 f5C huD d0 d1 d2 d3 d4 d5 d6 d7 d8 d9 d10 d11 d12 d13 d14
            obtain ⟨d0, d1, d2, d3, d4, d5, d6, d7, d8, d9, d10, d11, d12, d13, d14⟩ := HB.out.up hubD.bl
            rw [HLN.out.1] at d9
            rw [HLN.out.2.1] at d11
            rw [HLN.out.2.2] at d12
            cases its with
            | false =>
              go_wp2
              go_ret
              refine ⟨ret_bool ?_, huD0⟩
              (try rw [HRB.out])
              simp
            | true =>
              go_wp2
              go_ret
              obtain ⟨gS, gM, gI⟩ := HG.out
              refine ⟨ret_bool ?_, huD0⟩
              (try rw [HRB.out])
              simp_all

set_option maxRecDepth 20000 in
set_option maxHeartbeats 4000000 in
theorem refForm7_6 (p : Nat → Prop) (w : World) (F : PF) (a : Fa) (h : FIn p w F a) (hk : F.kind = 6) (hfr : In64 F.frm) :
    Calls Try.prog 13 #[.agg #[.int .u8 6, .int .i64 F.frm, .int .u64 (F.idN : Nat), .int .i64 F.idP, .int .u16 (F.set : Nat), .int .u64 (F.curN : Nat), .int .i64 F.curP, .int .u64 (F.promN : Nat), .int .i64 F.promP, .slice a.so F.st.length a.sc, .int .u64 (F.base : Nat), .slice a.mo F.ms.length a.mc, .slice a.io F.it.length a.ic, .int .u64 (F.ack : Nat), .int .u64 (F.safe : Nat)]] w fun e w' => e = .returned (.bool (rightF F)) ∧ Up w w' := by
  obtain ⟨w0, hw0⟩ : ∃ w0, w.alloc (.cells #[.int .u8 6, .int .i64 F.frm, .int .u64 (F.idN : Nat), .int .i64 F.idP, .int .u16 (F.set : Nat), .int .u64 (F.curN : Nat), .int .i64 F.curP, .int .u64 (F.promN : Nat), .int .i64 F.promP, .slice a.so F.st.length a.sc, .int .u64 (F.base : Nat), .slice a.mo F.ms.length a.mc, .slice a.io F.it.length a.ic, .int .u64 (F.ack : Nat), .int .u64 (F.safe : Nat)] 30) = w0 := ⟨_, rfl⟩
  have hu0 : Up w w0 := by rw [← hw0]; exact (Up.refl _).alloc _
  have hb0 : Bf w.heap.size F a w0 := by
    rw [← hw0]
    have := bf_new w F a 30
    unfold fcells at this
    rw [hk] at this
    exact this
  have hs0 : w0.heap.size = w.heap.size + 1 := by rw [← hw0]; simp
  obtain ⟨w1, hw1⟩ : ∃ w1, w0.alloc (.cells #[.int .u64 0, .int .i64 0] 24) = w1 := ⟨_, rfl⟩
  have hu1 : Up w0 w1 := by rw [← hw1]; exact (Up.refl _).alloc _
  have HB : Hid (Bf w.heap.size F a w1) := hb0.up hu1.bl
  have HZ : Hid (w1.cell? ⟨w.heap.size + 1, 0, none⟩ = some (.int .u64 0) ∧ w1.cell? ⟨w.heap.size + 1, 1, none⟩ = some (.int .i64 0)) := by
    rw [← hw1, ← hs0]
    exact ⟨cell_box w0 _ 24 0 _ rfl, cell_box w0 _ 24 1 _ rfl⟩
  have HI : Hid (FIn p w1 F a) := (h.up hu0.bl).up hu1.bl
  have hu01 := hu0.trans hu1
  have f1 := fun W => refForm_any W F.idN F.idP
  have f2 := fun W => refForm_any W F.curN F.curP
  have f3 := fun W => refForm_any W F.promN F.promP
  unfold vid at f1 f2 f3
  have f4 := fun W (u : Below w1.heap.size w1 W) => refFine_any p W a.so F.st.length a.sc F.st (HI.out.up u).st
  have f5 := fun W (u : Below w1.heap.size w1 W) => refRight_any p W a.io F.it.length a.ic F.it (HI.out.up u).it
  have q1 := fun W => vidz_equal F.idN F.idP W
  have q2 := fun W => vidz_equal F.curN F.curP W
  have q3 := fun W => vidz_equal F.promN F.promP W
  have e1 := z_dec F.idN
  have e2 := nz_dec F.set
  have e3 := nz_dec F.base
  have e4 := nz_dec F.ack
  have e5 := nz_dec F.safe
  have e6 := pos_dec F.st.length
  have e7 := pos_dec F.ms.length
  have e8 := pos_dec F.it.length
  have e9 := one_dec F.st.length
  have e10 := most_dec F.ms.length
  obtain ⟨c, hc⟩ : ∃ c, ckOf F = c := ⟨_, rfl⟩
  have hright := right_6 F hk c hc
  obtain ⟨r, HR⟩ : ∃ r, Hid (rightF F = r) := ⟨_, rfl⟩
  rw [HR.out] at hright ⊢
  obtain ⟨fr, vI, vC, vP, bS, sN, bB, bA, bSf, mN, iN, nI, fI, fC, fP, st1, fin, its, ml⟩ := c
  unfold ckOf at hc
  simp only [Ck.mk.injEq] at hc
  obtain ⟨g0, g1, g2, g3, g4, g5, g6, g7, g8, g9, g10, g11, g12, g13, g14, g15, g16, g17, g18⟩ := hc
  rw [g1] at q1
  rw [g2] at q2
  rw [g3] at q3
  rw [g11] at e1
  rw [g4] at e2
  rw [g6] at e3
  rw [g7] at e4
  rw [g8] at e5
  rw [g5] at e6
  rw [g9] at e7
  rw [g10] at e8
  rw [g15] at e9
  rw [g18] at e10
  rw [g12] at f1
  rw [g13] at f2
  rw [g14] at f3
  simp only [g16] at f4
  simp only [g17] at f5
  simp only at hright
  have HRB : Hid _ := hright
  have HFR : Hid (okF F.frm = fr) := g0
  have hk0 : Hid (F.kind = 6) := hk
  obtain ⟨hf1, hf2⟩ := hfr
  have HG0 : Hid (decide (F.st.length = 0) = sN ∧ decide (F.ms.length = 0) = mN ∧ decide (F.it.length = 0) = iN) := ⟨g5, g9, g10⟩
  have HW1 : Hid (w0.alloc (.cells #[.int .u64 0, .int .i64 0] 24) = w1) := hw1
  clear g1 g2 g3 g4 g5 g6 g7 g8 g9 g10 g11 g12 g13 g14 g15 g16 g17 g18 g0 hright HR hk h hw1 HI
  have hslen : w.heap.size < w0.heap.size := by omega
  have d0k : w0.cell? ⟨w.heap.size, 0, none⟩ = some (.int .u8 6) := by have := hb0.c0; rw [hk0.out] at this; exact this
  obtain ⟨d0, d1, d2, d3, d4, d5, d6, d7, d8, d9, d10, d11, d12, d13, d14⟩ := hb0
  clear d0
  have d0 := d0k
  clear d0k
  obtain ⟨sn, hsn⟩ : ∃ sn, F.st.length = sn := ⟨_, rfl⟩
  obtain ⟨mn, hmn⟩ : ∃ mn, F.ms.length = mn := ⟨_, rfl⟩
  obtain ⟨inn, hinn⟩ : ∃ inn, F.it.length = inn := ⟨_, rfl⟩
  have HLN : Hid (F.st.length = sn ∧ F.ms.length = mn ∧ F.it.length = inn) := ⟨hsn, hmn, hinn⟩
  simp only [hsn, hmn, hinn] at hw0 d9 d11 d12 e6 e7 e8 e9 e10 f4 f5 ⊢
  have HG : Hid (decide (sn = 0) = sN ∧ decide (mn = 0) = mN ∧ decide (inn = 0) = iN) := by have := HG0.out; rw [hsn, hmn, hinn] at this; exact this
  clear hsn hmn hinn HG0
  by_cases h0 : F.frm < 0
  · have hr : r = false := by rw [HRB.out, ← HFR.out, okF, decide_eq_false (by omega)]; simp
    subst hr
    clear HRB HFR f1 f2 f3 f4 f5 q1 q2 q3 e1 e2 e3 e4 e5 e6 e7 e8 e9 e10 HZ HB
    go_enter Try.func13, Try.ntmps13
    go_wp2
    go_ret
    exact ⟨rfl, by first | exact hu0.alloc _ | (rw [← hw0] at hu0; exact hu0.alloc _)⟩
  by_cases h1 : 15 < F.frm
  · have hr : r = false := by rw [HRB.out, ← HFR.out, okF, decide_eq_false (show ¬ F.frm ≤ 15 by omega)]; simp
    subst hr
    clear HRB HFR f1 f2 f3 f4 f5 q1 q2 q3 e1 e2 e3 e4 e5 e6 e7 e8 e9 e10 HZ HB
    go_enter Try.func13, Try.ntmps13
    go_wp2
    go_ret
    exact ⟨rfl, by first | exact hu0.alloc _ | (rw [← hw0] at hu0; exact hu0.alloc _)⟩
  obtain rfl : fr = true := by rw [← HFR.out, okF, decide_eq_true (show 0 ≤ F.frm by omega), decide_eq_true (show F.frm ≤ 15 by omega)]; rfl
  clear HFR
  cases nI with
  | true =>
    clear f1 f2 f3 f4 f5 q1 q2 q3 e2 e3 e4 e5 e6 e7 e8 e9 e10
    go_enter Try.func13, Try.ntmps13
    go_wp2
    go_ret
    refine ⟨ret_bool ?_, by first | exact hu0.alloc _ | (rw [← hw0] at hu0; exact hu0.alloc _)⟩
    rw [HRB.out]
    simp
  | false =>
    go_enter Try.func13, Try.ntmps13
    go_wp2_with fail
    (try rw [hw0])
    rw [HW1.out]
    refine (f1 _).mono ?_
    rintro e w2 ⟨rfl, hu2⟩
    have hub2 := (Up.refl w1).trans hu2
    have hu02 := hu01.trans hu2
    clear hu2 d0 d1 d2 d3 d4 d5 d6 d7 d8 d9 d10 d11 d12 d13 d14 e1
    obtain ⟨d0, d1, d2, d3, d4, d5, d6, d7, d8, d9, d10, d11, d12, d13, d14⟩ := HB.out.up hub2.bl
    rw [HLN.out.1] at d9
    rw [HLN.out.2.1] at d11
    rw [HLN.out.2.2] at d12
    have n0 := hub2.cell HZ.out.1
    have n1 := hub2.cell HZ.out.2
    cases fI with
    | false =>
      clear f1 f2 f3 f4 f5 q1 q2 q3 e2 e3 e4 e5 e6 e7 e8 e9 e10
      go_wp2
      go_ret
      refine ⟨ret_bool ?_, hu02⟩
      (try rw [HRB.out])
      simp
    | true =>
      have e1 : True := trivial
      go_wp2_with fail
      all_goals (try go_wp2_with fail)
      all_goals first | (go_ret; obtain ⟨gS, gM, gI⟩ := HG.out; refine ⟨ret_bool ?_, hu02⟩; rw [HRB.out]; simp_all; done) | skip
      subst_vars
      refine (f2 _).mono ?_
      rintro e wA ⟨rfl, huA⟩
      have hubA := (hub2).trans huA
      have huA0 := (hu02).trans huA
      clear f2 huA
      (try clear f1)
      (try clear d0)
      (try clear d1)
      (try clear d2)
      (try clear d3)
      (try clear d4)
      (try clear d5)
      (try clear d6)
      (try clear d7)
      (try clear d8)
      (try clear d9)
      (try clear d10)
      (try clear d11)
      (try clear d12)
      (try clear d13)
      (try clear d14)
      (try clear q1)
      (try clear q2)
      (try clear q3)
      (try clear e1)
      (try clear e2)
      (try clear e3)
      (try clear e4)
      (try clear e5)
      (try clear e6)
      (try clear e7)
      (try clear e8)
      obtain ⟨d0, d1, d2, d3, d4, d5, d6, d7, d8, d9, d10, d11, d12, d13, d14⟩ := HB.out.up hubA.bl
      rw [HLN.out.1] at d9
      rw [HLN.out.2.1] at d11
      rw [HLN.out.2.2] at d12
      cases fC with
      | false =>
        clear f3 f4 f5
        go_wp2
        go_ret
        refine ⟨ret_bool ?_, huA0⟩
        (try rw [HRB.out])
        simp
      | true =>
        go_wp2_with fail
        refine (f3 _).mono ?_
        rintro e wB ⟨rfl, huB⟩
        have hubB := hubA.trans huB
        have huB0 := huA0.trans huB
        clear f3 huB d0 d1 d2 d3 d4 d5 d6 d7 d8 d9 d10 d11 d12 d13 d14
        obtain ⟨d0, d1, d2, d3, d4, d5, d6, d7, d8, d9, d10, d11, d12, d13, d14⟩ := HB.out.up hubB.bl
        rw [HLN.out.1] at d9
        rw [HLN.out.2.1] at d11
        rw [HLN.out.2.2] at d12
        cases fP with
        | false =>
          clear f4 f5
          go_wp2
          go_ret
          refine ⟨ret_bool ?_, huB0⟩
          (try rw [HRB.out])
          simp
        | true =>
          have f4B := f4 wB hubB.bl
          go_wp2_with fail
          refine f4B.mono ?_
          rintro e wC ⟨rfl, huC⟩
          have hubC := hubB.trans huC
          have huC0 := huB0.trans huC
          clear f4 f4B huC d0 d1 d2 d3 d4 d5 d6 d7 d8 d9 d10 d11 d12 d13 d14
          obtain ⟨d0, d1, d2, d3, d4, d5, d6, d7, d8, d9, d10, d11, d12, d13, d14⟩ := HB.out.up hubC.bl
          rw [HLN.out.1] at d9
          rw [HLN.out.2.1] at d11
          rw [HLN.out.2.2] at d12
          cases fin with
          | false =>
            clear f5
            go_wp2
            go_ret
            refine ⟨ret_bool ?_, huC0⟩
            (try rw [HRB.out])
            simp
          | true =>
            have f5C := f5 wC hubC.bl
            go_wp2_with fail
            refine f5C.mono ?_
            rintro e wD ⟨rfl, huD⟩
            have hubD := hubC.trans huD
            have huD0 := huC0.trans huD
            clear f5 f5C huD d0 d1 d2 d3 d4 d5 d6 d7 d8 d9 d10 d11 d12 d13 d14
            obtain ⟨d0, d1, d2, d3, d4, d5, d6, d7, d8, d9, d10, d11, d12, d13, d14⟩ := HB.out.up hubD.bl
            rw [HLN.out.1] at d9
            rw [HLN.out.2.1] at d11
            rw [HLN.out.2.2] at d12
            cases its with
            | false =>
              go_wp2
              go_ret
              refine ⟨ret_bool ?_, huD0⟩
              (try rw [HRB.out])
              simp
            | true =>
              go_wp2
              go_ret
              obtain ⟨gS, gM, gI⟩ := HG.out
              refine ⟨ret_bool ?_, huD0⟩
              (try rw [HRB.out])
              simp_all

set_option maxRecDepth 20000 in
set_option maxHeartbeats 4000000 in
theorem refForm7_7 (p : Nat → Prop) (w : World) (F : PF) (a : Fa) (h : FIn p w F a) (hk : F.kind = 7) (hfr : In64 F.frm) :
    Calls Try.prog 13 #[.agg #[.int .u8 7, .int .i64 F.frm, .int .u64 (F.idN : Nat), .int .i64 F.idP, .int .u16 (F.set : Nat), .int .u64 (F.curN : Nat), .int .i64 F.curP, .int .u64 (F.promN : Nat), .int .i64 F.promP, .slice a.so F.st.length a.sc, .int .u64 (F.base : Nat), .slice a.mo F.ms.length a.mc, .slice a.io F.it.length a.ic, .int .u64 (F.ack : Nat), .int .u64 (F.safe : Nat)]] w fun e w' => e = .returned (.bool (rightF F)) ∧ Up w w' := by
  obtain ⟨w0, hw0⟩ : ∃ w0, w.alloc (.cells #[.int .u8 7, .int .i64 F.frm, .int .u64 (F.idN : Nat), .int .i64 F.idP, .int .u16 (F.set : Nat), .int .u64 (F.curN : Nat), .int .i64 F.curP, .int .u64 (F.promN : Nat), .int .i64 F.promP, .slice a.so F.st.length a.sc, .int .u64 (F.base : Nat), .slice a.mo F.ms.length a.mc, .slice a.io F.it.length a.ic, .int .u64 (F.ack : Nat), .int .u64 (F.safe : Nat)] 30) = w0 := ⟨_, rfl⟩
  have hu0 : Up w w0 := by rw [← hw0]; exact (Up.refl _).alloc _
  have hb0 : Bf w.heap.size F a w0 := by
    rw [← hw0]
    have := bf_new w F a 30
    unfold fcells at this
    rw [hk] at this
    exact this
  have hs0 : w0.heap.size = w.heap.size + 1 := by rw [← hw0]; simp
  obtain ⟨w1, hw1⟩ : ∃ w1, w0.alloc (.cells #[.int .u64 0, .int .i64 0] 24) = w1 := ⟨_, rfl⟩
  have hu1 : Up w0 w1 := by rw [← hw1]; exact (Up.refl _).alloc _
  have HB : Hid (Bf w.heap.size F a w1) := hb0.up hu1.bl
  have HZ : Hid (w1.cell? ⟨w.heap.size + 1, 0, none⟩ = some (.int .u64 0) ∧ w1.cell? ⟨w.heap.size + 1, 1, none⟩ = some (.int .i64 0)) := by
    rw [← hw1, ← hs0]
    exact ⟨cell_box w0 _ 24 0 _ rfl, cell_box w0 _ 24 1 _ rfl⟩
  have HI : Hid (FIn p w1 F a) := (h.up hu0.bl).up hu1.bl
  have hu01 := hu0.trans hu1
  have f1 := fun W => refForm_any W F.idN F.idP
  have f2 := fun W => refForm_any W F.curN F.curP
  have f3 := fun W => refForm_any W F.promN F.promP
  unfold vid at f1 f2 f3
  have f4 := fun W (u : Below w1.heap.size w1 W) => refFine_any p W a.so F.st.length a.sc F.st (HI.out.up u).st
  have f5 := fun W (u : Below w1.heap.size w1 W) => refRight_any p W a.io F.it.length a.ic F.it (HI.out.up u).it
  have q1 := fun W => vidz_equal F.idN F.idP W
  have q2 := fun W => vidz_equal F.curN F.curP W
  have q3 := fun W => vidz_equal F.promN F.promP W
  have e1 := z_dec F.idN
  have e2 := nz_dec F.set
  have e3 := nz_dec F.base
  have e4 := nz_dec F.ack
  have e5 := nz_dec F.safe
  have e6 := pos_dec F.st.length
  have e7 := pos_dec F.ms.length
  have e8 := pos_dec F.it.length
  have e9 := one_dec F.st.length
  have e10 := most_dec F.ms.length
  obtain ⟨c, hc⟩ : ∃ c, ckOf F = c := ⟨_, rfl⟩
  have hright := right_7 F hk c hc
  obtain ⟨r, HR⟩ : ∃ r, Hid (rightF F = r) := ⟨_, rfl⟩
  rw [HR.out] at hright ⊢
  obtain ⟨fr, vI, vC, vP, bS, sN, bB, bA, bSf, mN, iN, nI, fI, fC, fP, st1, fin, its, ml⟩ := c
  unfold ckOf at hc
  simp only [Ck.mk.injEq] at hc
  obtain ⟨g0, g1, g2, g3, g4, g5, g6, g7, g8, g9, g10, g11, g12, g13, g14, g15, g16, g17, g18⟩ := hc
  rw [g1] at q1
  rw [g2] at q2
  rw [g3] at q3
  rw [g11] at e1
  rw [g4] at e2
  rw [g6] at e3
  rw [g7] at e4
  rw [g8] at e5
  rw [g5] at e6
  rw [g9] at e7
  rw [g10] at e8
  rw [g15] at e9
  rw [g18] at e10
  rw [g12] at f1
  rw [g13] at f2
  rw [g14] at f3
  simp only [g16] at f4
  simp only [g17] at f5
  simp only at hright
  have HRB : Hid _ := hright
  have HFR : Hid (okF F.frm = fr) := g0
  have hk0 : Hid (F.kind = 7) := hk
  obtain ⟨hf1, hf2⟩ := hfr
  have HG0 : Hid (decide (F.st.length = 0) = sN ∧ decide (F.ms.length = 0) = mN ∧ decide (F.it.length = 0) = iN) := ⟨g5, g9, g10⟩
  have HW1 : Hid (w0.alloc (.cells #[.int .u64 0, .int .i64 0] 24) = w1) := hw1
  clear g1 g2 g3 g4 g5 g6 g7 g8 g9 g10 g11 g12 g13 g14 g15 g16 g17 g18 g0 hright HR hk h hw1 HI
  have hslen : w.heap.size < w0.heap.size := by omega
  have d0k : w0.cell? ⟨w.heap.size, 0, none⟩ = some (.int .u8 7) := by have := hb0.c0; rw [hk0.out] at this; exact this
  obtain ⟨d0, d1, d2, d3, d4, d5, d6, d7, d8, d9, d10, d11, d12, d13, d14⟩ := hb0
  clear d0
  have d0 := d0k
  clear d0k
  obtain ⟨sn, hsn⟩ : ∃ sn, F.st.length = sn := ⟨_, rfl⟩
  obtain ⟨mn, hmn⟩ : ∃ mn, F.ms.length = mn := ⟨_, rfl⟩
  obtain ⟨inn, hinn⟩ : ∃ inn, F.it.length = inn := ⟨_, rfl⟩
  have HLN : Hid (F.st.length = sn ∧ F.ms.length = mn ∧ F.it.length = inn) := ⟨hsn, hmn, hinn⟩
  simp only [hsn, hmn, hinn] at hw0 d9 d11 d12 e6 e7 e8 e9 e10 f4 f5 ⊢
  have HG : Hid (decide (sn = 0) = sN ∧ decide (mn = 0) = mN ∧ decide (inn = 0) = iN) := by have := HG0.out; rw [hsn, hmn, hinn] at this; exact this
  clear hsn hmn hinn HG0
  by_cases h0 : F.frm < 0
  · have hr : r = false := by rw [HRB.out, ← HFR.out, okF, decide_eq_false (by omega)]; simp
    subst hr
    clear HRB HFR f1 f2 f3 f4 f5 q1 q2 q3 e1 e2 e3 e4 e5 e6 e7 e8 e9 e10 HZ HB
    go_enter Try.func13, Try.ntmps13
    go_wp2
    go_ret
    exact ⟨rfl, by first | exact hu0.alloc _ | (rw [← hw0] at hu0; exact hu0.alloc _)⟩
  by_cases h1 : 15 < F.frm
  · have hr : r = false := by rw [HRB.out, ← HFR.out, okF, decide_eq_false (show ¬ F.frm ≤ 15 by omega)]; simp
    subst hr
    clear HRB HFR f1 f2 f3 f4 f5 q1 q2 q3 e1 e2 e3 e4 e5 e6 e7 e8 e9 e10 HZ HB
    go_enter Try.func13, Try.ntmps13
    go_wp2
    go_ret
    exact ⟨rfl, by first | exact hu0.alloc _ | (rw [← hw0] at hu0; exact hu0.alloc _)⟩
  obtain rfl : fr = true := by rw [← HFR.out, okF, decide_eq_true (show 0 ≤ F.frm by omega), decide_eq_true (show F.frm ≤ 15 by omega)]; rfl
  clear HFR
  cases nI with
  | true =>
    clear f1 f2 f3 f4 f5 q1 q2 q3 e2 e3 e4 e5 e6 e7 e8 e9 e10
    go_enter Try.func13, Try.ntmps13
    go_wp2
    go_ret
    refine ⟨ret_bool ?_, by first | exact hu0.alloc _ | (rw [← hw0] at hu0; exact hu0.alloc _)⟩
    rw [HRB.out]
    simp
  | false =>
    go_enter Try.func13, Try.ntmps13
    go_wp2_with fail
    (try rw [hw0])
    rw [HW1.out]
    refine (f1 _).mono ?_
    rintro e w2 ⟨rfl, hu2⟩
    have hub2 := (Up.refl w1).trans hu2
    have hu02 := hu01.trans hu2
    clear hu2 d0 d1 d2 d3 d4 d5 d6 d7 d8 d9 d10 d11 d12 d13 d14 e1
    obtain ⟨d0, d1, d2, d3, d4, d5, d6, d7, d8, d9, d10, d11, d12, d13, d14⟩ := HB.out.up hub2.bl
    rw [HLN.out.1] at d9
    rw [HLN.out.2.1] at d11
    rw [HLN.out.2.2] at d12
    have n0 := hub2.cell HZ.out.1
    have n1 := hub2.cell HZ.out.2
    cases fI with
    | false =>
      clear f1 f2 f3 f4 f5 q1 q2 q3 e2 e3 e4 e5 e6 e7 e8 e9 e10
      go_wp2
      go_ret
      refine ⟨ret_bool ?_, hu02⟩
      (try rw [HRB.out])
      simp
    | true =>
      have e1 : True := trivial
      go_wp2_with fail
      all_goals (try go_wp2_with fail)
      all_goals first | (go_ret; obtain ⟨gS, gM, gI⟩ := HG.out; refine ⟨ret_bool ?_, hu02⟩; rw [HRB.out]; simp_all; done) | skip
      subst_vars
      refine (f2 _).mono ?_
      rintro e wA ⟨rfl, huA⟩
      have hubA := (hub2).trans huA
      have huA0 := (hu02).trans huA
      clear f2 huA
      (try clear f1)
      (try clear d0)
      (try clear d1)
      (try clear d2)
      (try clear d3)
      (try clear d4)
      (try clear d5)
      (try clear d6)
      (try clear d7)
      (try clear d8)
      (try clear d9)
      (try clear d10)
      (try clear d11)
      (try clear d12)
      (try clear d13)
      (try clear d14)
      (try clear q1)
      (try clear q2)
      (try clear q3)
      (try clear e1)
      (try clear e2)
      (try clear e3)
      (try clear e4)
      (try clear e5)
      (try clear e6)
      (try clear e7)
      (try clear e8)
      obtain ⟨d0, d1, d2, d3, d4, d5, d6, d7, d8, d9, d10, d11, d12, d13, d14⟩ := HB.out.up hubA.bl
      rw [HLN.out.1] at d9
      rw [HLN.out.2.1] at d11
      rw [HLN.out.2.2] at d12
      cases fC with
      | false =>
        clear f3 f4 f5
        go_wp2
        go_ret
        refine ⟨ret_bool ?_, huA0⟩
        (try rw [HRB.out])
        simp
      | true =>
        go_wp2_with fail
        refine (f3 _).mono ?_
        rintro e wB ⟨rfl, huB⟩
        have hubB := hubA.trans huB
        have huB0 := huA0.trans huB
        clear f3 huB d0 d1 d2 d3 d4 d5 d6 d7 d8 d9 d10 d11 d12 d13 d14
        obtain ⟨d0, d1, d2, d3, d4, d5, d6, d7, d8, d9, d10, d11, d12, d13, d14⟩ := HB.out.up hubB.bl
        rw [HLN.out.1] at d9
        rw [HLN.out.2.1] at d11
        rw [HLN.out.2.2] at d12
        cases fP with
        | false =>
          clear f4 f5
          go_wp2
          go_ret
          refine ⟨ret_bool ?_, huB0⟩
          (try rw [HRB.out])
          simp
        | true =>
          have f4B := f4 wB hubB.bl
          go_wp2_with fail
          refine f4B.mono ?_
          rintro e wC ⟨rfl, huC⟩
          have hubC := hubB.trans huC
          have huC0 := huB0.trans huC
          clear f4 f4B huC d0 d1 d2 d3 d4 d5 d6 d7 d8 d9 d10 d11 d12 d13 d14
          obtain ⟨d0, d1, d2, d3, d4, d5, d6, d7, d8, d9, d10, d11, d12, d13, d14⟩ := HB.out.up hubC.bl
          rw [HLN.out.1] at d9
          rw [HLN.out.2.1] at d11
          rw [HLN.out.2.2] at d12
          cases fin with
          | false =>
            clear f5
            go_wp2
            go_ret
            refine ⟨ret_bool ?_, huC0⟩
            (try rw [HRB.out])
            simp
          | true =>
            have f5C := f5 wC hubC.bl
            go_wp2_with fail
            refine f5C.mono ?_
            rintro e wD ⟨rfl, huD⟩
            have hubD := hubC.trans huD
            have huD0 := huC0.trans huD
            clear f5 f5C huD d0 d1 d2 d3 d4 d5 d6 d7 d8 d9 d10 d11 d12 d13 d14
            obtain ⟨d0, d1, d2, d3, d4, d5, d6, d7, d8, d9, d10, d11, d12, d13, d14⟩ := HB.out.up hubD.bl
            rw [HLN.out.1] at d9
            rw [HLN.out.2.1] at d11
            rw [HLN.out.2.2] at d12
            cases its with
            | false =>
              go_wp2
              go_ret
              refine ⟨ret_bool ?_, huD0⟩
              (try rw [HRB.out])
              simp
            | true =>
              go_wp2
              go_ret
              obtain ⟨gS, gM, gI⟩ := HG.out
              refine ⟨ret_bool ?_, huD0⟩
              (try rw [HRB.out])
              simp_all
end Go.Proofs.Ytfemjbaadnjanaa
