/-
  Which numbers and lists of a frame are right (package frame).
-/
import Derived.Test.YtfemjbaadnjanaaFRight
namespace Go.Proofs.Ytfemjbaadnjanaa
open Go.RowKit
set_option linter.unusedVariables false
set_option linter.unusedSimpArgs false

/-- A frame that was just boxed. -/
theorem boxed (w : World) (F : PF) (a : Fa) : ∃ w0, w.alloc (.cells #[.int .u8 (F.kind : Nat), .int .i64 F.frm, .int .u64 (F.idN : Nat), .int .i64 F.idP, .int .u16 (F.set : Nat), .int .u64 (F.curN : Nat), .int .i64 F.curP, .int .u64 (F.promN : Nat), .int .i64 F.promP, .slice a.so F.st.length a.sc, .int .u64 (F.base : Nat), .slice a.mo F.ms.length a.mc, .slice a.io F.it.length a.ic, .int .u64 (F.ack : Nat), .int .u64 (F.safe : Nat)] 30) = w0 ∧ Up w w0 ∧ Bf w.heap.size F a w0 :=
  ⟨_, rfl, (Up.refl _).alloc _, bf_new w F a 30⟩

set_option maxRecDepth 10000 in
set_option maxHeartbeats 1000000 in
theorem rightNumbers_any (w : World) (F : PF) (a : Fa) :
    Calls Try.prog 45 #[fval F a] w fun e w' => e = .returned (.bool (numsB F)) ∧ Up w w' := by
  obtain ⟨w0, hw0, hu0, hb0⟩ := boxed w F a
  have HB : Hid (Bf w.heap.size F a w0) := hb0
  have f1 := fun W => form_any W F.idN F.idP
  have f2 := fun W => form_any W F.curN F.curP
  have f3 := fun W => form_any W F.promN F.promP
  unfold vid at f1 f2 f3
  obtain ⟨r, HR⟩ : ∃ r, Hid (numsB F = r) := ⟨_, rfl⟩
  rw [HR.out]
  unfold fval fcells
  have c0 := hb0.c0
  have c2 := hb0.c2
  have c3 := hb0.c3
  clear hb0
  by_cases hk : F.kind ≠ 1 ∧ F.idN = 0
  · have hr : r = false := by rw [← HR.out, numsB, decide_eq_false hk.1, decide_eq_true hk.2]; rfl
    subst hr
    obtain ⟨hk1, hk2⟩ := hk
    have e1 : ((F.kind : Int) != 1) = true := by simp; omega
    have e2 : ((F.idN : Int) == 0) = true := by simp [hk2]
    clear hk1 hk2 HR HB f1 f2 f3
    go_enter Try.func45, Try.ntmps45
    go_wp2
    go_ret
    first | exact ⟨rfl, hu0⟩ | (rw [← hw0] at hu0; exact ⟨rfl, hu0⟩)
  · have hn : r = (formV F.idN F.idP && formV F.curN F.curP && formV F.promN F.promP) := by
      rw [← HR.out, numsB]
      by_cases h1 : F.kind = 1
      · rw [decide_eq_true h1]; rfl
      · have : ¬ F.idN = 0 := fun h => hk ⟨h1, h⟩
        rw [decide_eq_false h1, decide_eq_false this]; rfl
    clear HR
    generalize formV F.idN F.idP = b1 at *
    generalize formV F.curN F.curP = b2 at *
    generalize formV F.promN F.promP = b3 at *
    have hor : F.kind = 1 ∨ (¬ F.kind = 1 ∧ ¬ F.idN = 0) := by
      by_cases h1 : F.kind = 1
      · exact .inl h1
      · exact .inr ⟨h1, fun h => hk ⟨h1, h⟩⟩
    clear hk
    rcases hor with hk1 | ⟨hk1, hk2⟩
    · have e1 : ((F.kind : Int) != 1) = false ∧ True := by simp [hk1]
      obtain ⟨e1, e2⟩ := e1
      clear hk1
      (try clear hk2)
      go_enter Try.func45, Try.ntmps45
      go_wp2_with fail
      (try simp only [hw0])
      refine (f1 _).mono ?_
      rintro e w1 ⟨rfl, hu1⟩
      have hu01 := hu0.trans hu1
      have hb1 := HB.out.up hu1.bl
      have c5 := hb1.c5
      have c6 := hb1.c6
      have HB1 : Hid _ := hb1
      clear hu1 f1 c0 c2 c3 hw0 e1 e2 hb1
      cases b1 with
      | false =>
        obtain rfl : r = false := by rw [hn]; rfl
        clear hn f2 f3 HB1 HB
        go_wp2
        go_ret
        exact ⟨rfl, hu01⟩
      | true =>
        go_wp2_with fail
        refine (f2 _).mono ?_
        rintro e w2 ⟨rfl, hu2⟩
        have hu02 := hu01.trans hu2
        have hb2 := HB1.out.up hu2.bl
        have c7 := hb2.c7
        have c8 := hb2.c8
        clear hu2 f2 c5 c6 HB1 hb2
        cases b2 with
        | false =>
          obtain rfl : r = false := by rw [hn]; rfl
          clear hn f3 HB
          go_wp2
          go_ret
          exact ⟨rfl, hu02⟩
        | true =>
          obtain rfl : r = b3 := by rw [hn]; rfl
          go_wp2_with fail
          refine (f3 _).mono ?_
          rintro e w3 ⟨rfl, hu3⟩
          have hu03 := hu02.trans hu3
          clear hu3 f3 HB c7 c8 hn
          go_wp2
          go_ret
          exact ⟨rfl, hu03⟩
    · have e1 : ((F.kind : Int) != 1) = true ∧ ((F.idN : Int) == 0) = false := by constructor <;> (simp; omega)
      obtain ⟨e1, e2⟩ := e1
      clear hk1
      (try clear hk2)
      go_enter Try.func45, Try.ntmps45
      go_wp2_with fail
      (try simp only [hw0])
      refine (f1 _).mono ?_
      rintro e w1 ⟨rfl, hu1⟩
      have hu01 := hu0.trans hu1
      have hb1 := HB.out.up hu1.bl
      have c5 := hb1.c5
      have c6 := hb1.c6
      have HB1 : Hid _ := hb1
      clear hu1 f1 c0 c2 c3 hw0 e1 e2 hb1
      cases b1 with
      | false =>
        obtain rfl : r = false := by rw [hn]; rfl
        clear hn f2 f3 HB1 HB
        go_wp2
        go_ret
        exact ⟨rfl, hu01⟩
      | true =>
        go_wp2_with fail
        refine (f2 _).mono ?_
        rintro e w2 ⟨rfl, hu2⟩
        have hu02 := hu01.trans hu2
        have hb2 := HB1.out.up hu2.bl
        have c7 := hb2.c7
        have c8 := hb2.c8
        clear hu2 f2 c5 c6 HB1 hb2
        cases b2 with
        | false =>
          obtain rfl : r = false := by rw [hn]; rfl
          clear hn f3 HB
          go_wp2
          go_ret
          exact ⟨rfl, hu02⟩
        | true =>
          obtain rfl : r = b3 := by rw [hn]; rfl
          go_wp2_with fail
          refine (f3 _).mono ?_
          rintro e w3 ⟨rfl, hu3⟩
          have hu03 := hu02.trans hu3
          clear hu3 f3 HB c7 c8 hn
          go_wp2
          go_ret
          exact ⟨rfl, hu03⟩

set_option maxRecDepth 10000 in
set_option maxHeartbeats 1000000 in
theorem rightLists_any (p : Nat → Prop) (w : World) (F : PF) (a : Fa) (h : FIn p w F a) :
    Calls Try.prog 46 #[fval F a] w fun e w' => e = .returned (.bool (listsB F)) ∧ Up w w' := by
  obtain ⟨w0, hw0, hu0, hb0⟩ := boxed w F a
  have HB : Hid (Bf w.heap.size F a w0) := hb0
  obtain ⟨r, HR⟩ : ∃ r, Hid (listsB F = r) := ⟨_, rfl⟩
  rw [HR.out]
  unfold fval fcells
  have c0 := hb0.c0
  have c9 := hb0.c9
  have c11 := hb0.c11
  have c12 := hb0.c12
  have HI : Hid (FIn p w0 F a) := h.up hu0.bl
  have hri := rightItems_any p w0 a.io F.it.length a.ic F.it HI.out.it
  clear hb0 h
  obtain ⟨kb, hkb⟩ : ∃ kb, ((F.kind : Int) == 3) = kb := ⟨_, rfl⟩
  have hkb' : kb = decide (F.kind = 3) := by
    rw [← hkb]
    by_cases h3 : F.kind = 3
    · rw [h3]; rfl
    · rw [decide_eq_false h3]; simp; omega
  have HL : Hid (listsB F = ((!kb || decide (F.st.length = 1)) && (decide (F.st.length ≤ 4096) && decide (F.ms.length ≤ 4096) && itsB F.it) && F.st.all stOk)) := by
    show listsB F = _
    rw [hkb']; rfl
  have HSM : Hid (F.st.length ≤ 9223372036854775807 ∧ F.ms.length ≤ 9223372036854775807) := by
    obtain ⟨ss, h1, _⟩ := HI.out.st
    obtain ⟨ms, h2, _⟩ := HI.out.ms
    exact ⟨h1.2.1, by have := h2.2.1; omega⟩
  obtain ⟨hsm1, hsm2⟩ := HSM.out
  clear hkb'
  have HST : Hid (SsX p w0 a.so F.st.length F.st) := HI.out.st
  generalize hsn : F.st.length = sn at *
  have HSN : Hid (F.st.length = sn) := hsn
  clear hsn
  generalize F.ms.length = mn at *
  generalize hin : F.it.length = inn at *
  generalize itsB F.it = ib at *
  by_cases hbad : (kb = true ∧ ¬ sn = 1)
  · obtain ⟨rfl, h1⟩ := hbad
    obtain rfl : r = false := by rw [← HR.out, HL.out, decide_eq_false h1]; rfl
    have h1b : ((sn : Int) != 1) = true := by simp; omega
    clear HR HL HB HI hri
    go_enter Try.func46, Try.ntmps46
    go_wp2
    go_ret
    first | exact ⟨rfl, hu0⟩ | (rw [← hw0] at hu0; exact ⟨rfl, hu0⟩)
  · obtain ⟨nb, hnb⟩ : ∃ nb, (!((sn : Int) != 1)) = nb := ⟨_, rfl⟩
    have hor : kb = false ∨ (kb = true ∧ nb = true) := by
      cases kb
      · exact .inl rfl
      · refine .inr ⟨rfl, ?_⟩
        rw [← hnb]
        have : sn = 1 := Classical.byContradiction fun h => hbad ⟨rfl, h⟩
        simp [this]
    have HL2 : Hid (r = (decide (sn ≤ 4096) && decide (mn ≤ 4096) && ib && F.st.all stOk)) := by
      show r = _
      rw [← HR.out, HL.out]
      rcases hor with rfl | ⟨rfl, rfl⟩
      · rfl
      · have : sn = 1 := by simp at hnb; omega
        rw [decide_eq_true this]; rfl
    clear HR HL hbad
    rcases hor with rfl | ⟨rfl, rfl⟩
    · skip
      clear hnb
      by_cases hs4 : 4096 < sn
      · obtain rfl : r = false := by rw [HL2.out, decide_eq_false (by omega)]; rfl
        clear HL2 HB HI hri
        go_enter Try.func46, Try.ntmps46
        go_wp2
        all_goals (try go_ret)
        all_goals first | exact ⟨rfl, hu0⟩ | (rw [← hw0] at hu0; exact ⟨rfl, hu0⟩)
      · by_cases hm4 : 4096 < mn
        · obtain rfl : r = false := by rw [HL2.out, decide_eq_false (show ¬ mn ≤ 4096 by omega)]; simp
          clear HL2 HB HI hri
          go_enter Try.func46, Try.ntmps46
          go_wp2
          all_goals (try go_ret)
          all_goals first | exact ⟨rfl, hu0⟩ | (rw [← hw0] at hu0; exact ⟨rfl, hu0⟩)
        · have HL3 : Hid (r = (ib && F.st.all stOk)) := by
            show r = _
            rw [HL2.out, decide_eq_true (show sn ≤ 4096 by omega), decide_eq_true (show mn ≤ 4096 by omega)]; rfl
          clear HL2
          go_enter Try.func46, Try.ntmps46
          go_wp2_with fail
          (try simp only [hw0])
          refine hri.mono ?_
          rintro e w1 ⟨rfl, hu1⟩
          have hu01 := hu0.trans hu1
          cases ib with
          | false =>
            obtain rfl : r = false := by rw [HL3.out]; rfl
            clear HL3 HB HI hri hu1 c0 c9 c11 c12 hw0 hkb
            go_wp2
            go_ret
            exact ⟨rfl, hu01⟩
          | true =>
            have hcs := contains_state p w1 a.so sn a.sc F.st ((HST.out).keep (Kp.up hu1.bl)) (by omega)
            obtain ⟨sb, HSB⟩ : ∃ sb, Hid (F.st.all stOk = sb) := ⟨_, rfl⟩
            rw [HSB.out] at hcs
            have HR3 : Hid (r = sb) := by show r = sb; rw [HL3.out, HSB.out]; rfl
            have d9 := (HB.out.up hu1.bl).c9
            rw [HSN.out] at d9
            clear HL3 HB HI hri hu1 c0 c9 c11 c12 hw0 hkb
            go_wp2_with fail
            refine hcs.mono ?_
            rintro e w2 ⟨rfl, hu2⟩
            have hu02 := hu01.trans hu2
            clear hcs hu2 d9
            go_wp2
            go_ret
            refine ⟨ret_bool ?_, hu02⟩
            rw [HR3.out]
            try simp
    · have hnb2 : ((sn : Int) != 1) = false := by simpa using hnb
      clear hnb
      by_cases hs4 : 4096 < sn
      · obtain rfl : r = false := by rw [HL2.out, decide_eq_false (by omega)]; rfl
        clear HL2 HB HI hri
        go_enter Try.func46, Try.ntmps46
        go_wp2
        all_goals (try go_ret)
        all_goals first | exact ⟨rfl, hu0⟩ | (rw [← hw0] at hu0; exact ⟨rfl, hu0⟩)
      · by_cases hm4 : 4096 < mn
        · obtain rfl : r = false := by rw [HL2.out, decide_eq_false (show ¬ mn ≤ 4096 by omega)]; simp
          clear HL2 HB HI hri
          go_enter Try.func46, Try.ntmps46
          go_wp2
          all_goals (try go_ret)
          all_goals first | exact ⟨rfl, hu0⟩ | (rw [← hw0] at hu0; exact ⟨rfl, hu0⟩)
        · have HL3 : Hid (r = (ib && F.st.all stOk)) := by
            show r = _
            rw [HL2.out, decide_eq_true (show sn ≤ 4096 by omega), decide_eq_true (show mn ≤ 4096 by omega)]; rfl
          clear HL2
          go_enter Try.func46, Try.ntmps46
          go_wp2_with fail
          (try simp only [hw0])
          refine hri.mono ?_
          rintro e w1 ⟨rfl, hu1⟩
          have hu01 := hu0.trans hu1
          cases ib with
          | false =>
            obtain rfl : r = false := by rw [HL3.out]; rfl
            clear HL3 HB HI hri hu1 c0 c9 c11 c12 hw0 hkb
            go_wp2
            go_ret
            exact ⟨rfl, hu01⟩
          | true =>
            have hcs := contains_state p w1 a.so sn a.sc F.st ((HST.out).keep (Kp.up hu1.bl)) (by omega)
            obtain ⟨sb, HSB⟩ : ∃ sb, Hid (F.st.all stOk = sb) := ⟨_, rfl⟩
            rw [HSB.out] at hcs
            have HR3 : Hid (r = sb) := by show r = sb; rw [HL3.out, HSB.out]; rfl
            have d9 := (HB.out.up hu1.bl).c9
            rw [HSN.out] at d9
            clear HL3 HB HI hri hu1 c0 c9 c11 c12 hw0 hkb
            go_wp2_with fail
            refine hcs.mono ?_
            rintro e w2 ⟨rfl, hu2⟩
            have hu02 := hu01.trans hu2
            clear hcs hu2 d9
            go_wp2
            go_ret
            refine ⟨ret_bool ?_, hu02⟩
            rw [HR3.out]
            try simp
end Go.Proofs.Ytfemjbaadnjanaa
