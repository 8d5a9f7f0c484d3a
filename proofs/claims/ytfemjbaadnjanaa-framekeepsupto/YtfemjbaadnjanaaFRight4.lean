/-
  Is a frame right (package frame)?
-/
import Derived.Test.YtfemjbaadnjanaaFRight3
namespace Go.Proofs.Ytfemjbaadnjanaa
open Go.RowKit
set_option linter.unusedVariables false
set_option linter.unusedSimpArgs false

set_option maxRecDepth 20000 in
set_option maxHeartbeats 2000000 in
theorem right_any (p : Nat → Prop) (w : World) (F : PF) (a : Fa) (h : FIn p w F a) (hfr : In64 F.frm) :
    Calls Try.prog 19 #[fval F a] w fun e w' => e = .returned (.bool (rightF F)) ∧ Up w w' := by
  obtain ⟨w0, hw0, hu0, hb0⟩ := boxed w F a
  have HB : Hid (Bf w.heap.size F a w0) := hb0
  have HI : Hid (FIn p w0 F a) := h.up hu0.bl
  have hn := fun W => rightNumbers_any W F a
  have hl := fun W u => rightLists_any p W F a (HI.out.up u)
  have hun := fun W => unnamed_any W F a
  have hz := fun W => isZero_any W (unn F) (una F.kind a)
  obtain ⟨r, HR⟩ : ∃ r, Hid (rightF F = r) := ⟨_, rfl⟩
  rw [HR.out]
  have HF : Hid (rightF F = (okF F.frm && numsB F && listsB F && (knownB F && zeroB (unn F)))) := rfl
  have c1 := hb0.c1
  obtain ⟨hf1, hf2⟩ := hfr
  generalize numsB F = nb at *
  generalize listsB F = lb at *
  generalize knownB F = kb at *
  generalize zeroB (unn F) = zb at *
  obtain ⟨G, hG⟩ : ∃ G, unn F = G := ⟨_, rfl⟩
  obtain ⟨g, hg⟩ : ∃ g, una F.kind a = g := ⟨_, rfl⟩
  rw [hG, hg] at hun hz
  clear hG hg h
  unfold fval fcells at *
  by_cases h0 : F.frm < 0
  · obtain rfl : r = false := by rw [← HR.out, HF.out, okF, decide_eq_false (by omega)]; rfl
    clear HR HF hn hl hun hz HB HI hb0
    go_enter Try.func19, Try.ntmps19
    go_wp2
    go_ret
    first | exact ⟨rfl, hu0⟩ | (rw [← hw0] at hu0; exact ⟨rfl, hu0⟩)
  by_cases h1 : 16 ≤ F.frm
  · obtain rfl : r = false := by rw [← HR.out, HF.out, okF, decide_eq_false (show ¬ F.frm ≤ 15 by omega)]; simp
    clear HR HF hn hl hun hz HB HI hb0
    go_enter Try.func19, Try.ntmps19
    go_wp2
    go_ret
    first | exact ⟨rfl, hu0⟩ | (rw [← hw0] at hu0; exact ⟨rfl, hu0⟩)
  have HF2 : Hid (r = (nb && lb && (kb && zb))) := by
    show r = _
    rw [← HR.out, HF.out, okF, decide_eq_true (show 0 ≤ F.frm by omega), decide_eq_true (show F.frm ≤ 15 by omega)]; rfl
  clear HR HF
  obtain ⟨d0, d1, d2, d3, d4, d5, d6, d7, d8, d9, d10, d11, d12, d13, d14⟩ := hb0
  go_enter Try.func19, Try.ntmps19
  go_wp2_with fail
  (try simp only [hw0])
  refine (hn _).mono ?_
  rintro e w1 ⟨rfl, hu1⟩
  have hu01 := hu0.trans hu1
  clear hn d0 d1 d2 d3 d4 d5 d6 d7 d8 d9 d10 d11 d12 d13 d14 c1 hw0
  cases nb with
  | false =>
    obtain rfl : r = false := by rw [HF2.out]; rfl
    clear HF2 hl hun hz HB HI hu1
    go_wp2
    go_ret
    exact ⟨rfl, hu01⟩
  | true =>
    have hl1 := hl w1 hu1.bl
    obtain ⟨d0, d1, d2, d3, d4, d5, d6, d7, d8, d9, d10, d11, d12, d13, d14⟩ := HB.out.up hu1.bl
    clear hl
    go_wp2_with fail
    refine hl1.mono ?_
    rintro e w2 ⟨rfl, hu2⟩
    have hu02 := hu01.trans hu2
    have hu12 := hu1.trans hu2
    clear hl1 d0 d1 d2 d3 d4 d5 d6 d7 d8 d9 d10 d11 d12 d13 d14 hu1 hu2 hu01
    cases lb with
    | false =>
      obtain rfl : r = false := by rw [HF2.out]; rfl
      clear HF2 hun hz HB HI hu12
      go_wp2
      go_ret
      exact ⟨rfl, hu02⟩
    | true =>
      obtain ⟨d0, d1, d2, d3, d4, d5, d6, d7, d8, d9, d10, d11, d12, d13, d14⟩ := HB.out.up hu12.bl
      go_wp2_with fail
      refine (hun _).mono ?_
      rintro e w3 ⟨rfl, hu3⟩
      have hu03 := hu02.trans hu3
      clear hun d0 d1 d2 d3 d4 d5 d6 d7 d8 d9 d10 d11 d12 d13 d14 hu3 hu12 hu02 HB HI
      cases kb with
      | false =>
        obtain rfl : r = false := by rw [HF2.out]; rfl
        clear HF2 hz
        go_wp2
        go_ret
        exact ⟨rfl, hu03.alloc _⟩
      | true =>
        obtain rfl : r = zb := by rw [HF2.out]; rfl
        clear HF2
        go_wp2_with fail
        refine (hz _).mono ?_
        rintro e w4 ⟨rfl, hu4⟩
        have hu04 := (hu03.alloc _).trans hu4
        clear hz hu4 hu03
        go_wp2
        go_ret
        exact ⟨rfl, hu04⟩
end Go.Proofs.Ytfemjbaadnjanaa
