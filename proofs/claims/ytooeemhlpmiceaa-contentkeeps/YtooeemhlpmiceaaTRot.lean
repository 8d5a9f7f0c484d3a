/-
  slices' rotate of states.
-/
import Derived.Test.YtooeemhlpmiceaaTSwap
namespace Go.Proofs.Ytooeemhlpmiceaa.T
open Go.RowKit Go.Sort
set_option linter.unusedVariables false

theorem swapRange_at (w : World) (g cap n : Nat) (fv : Value) (A U M V Z : List Tg) (ia ib ik : Int) (hb : BlkT w g cap (A ++ U ++ M ++ V ++ Z)) (hUV : U.length = V.length) (hn : (A ++ U ++ M ++ V ++ Z).length = n) (hmax : n ≤ 1000000) (h1 : ia = (A.length : Nat)) (h2 : ib = ((A.length + U.length + M.length : Nat) : Nat)) (h3 : ik = (U.length : Nat)) :
    Calls Try.prog 91 #[.slice (some ⟨g, 0, none⟩) n cap, .int .i64 ia, .int .i64 ib, .int .i64 ik, fv] w fun e w' => e = .returned (.tuple #[]) ∧ BlkT w' g cap (A ++ V ++ M ++ U ++ Z) ∧ w.grownBy w' (some g) := by
  subst h1 h2 h3
  exact swapRange_any w g cap n fv A U M V Z hb hUV hn hmax

set_option maxRecDepth 10000 in
set_option maxHeartbeats 1000000 in
theorem rotate_any (w : World) (g cap n : Nat) (fv : Value) (A U V Z : List Tg) (ia im ib : Int) (hb : BlkT w g cap (A ++ U ++ V ++ Z)) (hU : 0 < U.length) (hV : 0 < V.length) (hn : (A ++ U ++ V ++ Z).length = n) (hmax : n ≤ 1000000) (h1 : ia = (A.length : Nat)) (h2 : im = ((A.length + U.length : Nat) : Nat)) (h3 : ib = ((A.length + U.length + V.length : Nat) : Nat)) :
    Calls Try.prog 83 #[.slice (some ⟨g, 0, none⟩) n cap, .int .i64 ia, .int .i64 im, .int .i64 ib, fv] w fun e w' => e = .returned (.tuple #[]) ∧ BlkT w' g cap (A ++ V ++ U ++ Z) ∧ w.grownBy w' (some g) := by
  obtain ⟨F, HF⟩ : ∃ F, Hid (A ++ V ++ U ++ Z = F) := ⟨_, rfl⟩
  rw [HF.out]
  obtain ⟨m, HM⟩ : ∃ m : Nat, Hid (A.length + U.length = m) := ⟨_, rfl⟩
  rw [HM.out] at h2
  subst h2
  have hFl : F.length = n := by rw [← HF.out, ← hn]; simp; omega
  have hmn : m ≤ n := by have := HM.out; rw [← hn]; simp; omega
  have H0 : Hid (∃ (A' X Y Z' : List Tg), BlkT w g cap (A' ++ X ++ Y ++ Z') ∧ ((X.length : Nat) : Int) = (m : Int) - ia ∧ ((Y.length : Nat) : Int) = ib - (m : Int) ∧ A'.length + X.length = m ∧ 0 < X.length ∧ 0 < Y.length ∧ A' ++ Y ++ X ++ Z' = F) :=
    ⟨A, U, V, Z, hb, by have := HM.out; omega, by have := HM.out; omega, HM.out, hU, hV, HF.out⟩
  have hia : 0 ≤ ia ∧ ia ≤ 1000000 ∧ 0 ≤ ib ∧ ib ≤ 1000000 := by have := HM.out; rw [← hn] at hmax; simp only [List.length_append] at hmax; omega
  obtain ⟨ha0, ha1, hb0, hb1⟩ := hia
  clear hb hn h1 h3 hU hV HM
  go_enter Try.func83, Try.ntmps83
  go_wp2_with fail
  go_loopw [10, 11] (fun iv jv wr => ∃ (i j : Nat) (A' X Y Z' : List Tg), iv = .int .i64 i ∧ jv = .int .i64 j ∧ BlkT wr g cap (A' ++ X ++ Y ++ Z') ∧ X.length = i ∧ Y.length = j ∧ A'.length + i = m ∧ 0 < i ∧ 0 < j ∧ A' ++ Y ++ X ++ Z' = F ∧ w.grownBy wr (some g)) (fun iv jv _ => (intOf iv).toNat + (intOf jv).toNat)
  case atStart =>
    obtain ⟨A', X, Y, Z', hb, e1, e2, e3, e4, e5, e6⟩ := H0.out
    exact ⟨X.length, Y.length, A', X, Y, Z', by rw [e1], by rw [e2], hb, rfl, rfl, e3, e4, e5, e6, gr_refl _ _⟩
  case round =>
    obtain ⟨i, j, A', X, Y, Z', rfl, rfl, hblk, hX, hY, hA, hi0, hj0, hF, hgr⟩ := hrel
    have hlen : A'.length + Y.length + X.length + Z'.length = n := by rw [← hF] at hFl; simpa [Nat.add_assoc] using hFl
    have hi1 : i ≤ 1000000 := by omega
    have hj1 : j ≤ 1000000 := by omega
    have hm1 : m ≤ 1000000 := by omega
    by_cases hij : i = j
    · subst hij
      have hne : ((i : Int) != (i : Int)) = false := by simp
      have hsw := swapRange_at wr g cap n fv A' X [] Y Z' ((m : Int) - (i : Int)) (m : Int) (i : Int) (by simpa using hblk) (by omega) (by simp; omega) hmax (by omega) (by simp; omega) (by omega)
      have HF' : Hid (A' ++ Y ++ X ++ Z' = F) := hF
      clear hblk hF H0
      go_wp2_with fail
      refine hsw.mono ?_
      rintro e w1 ⟨rfl, hb1', hg1⟩
      have HE : Hid (BlkT w1 g cap F ∧ w.grownBy w1 (some g)) := ⟨by rw [← HF'.out]; simpa using hb1', gr_trans hgr hg1⟩
      clear hsw hb1' hg1 hgr
      go_wp2
      go_end0
      exact ⟨rfl, HE.out⟩
    · have hne : ((i : Int) != (j : Int)) = true := by simp; omega
      by_cases hgt : j < i
      · have hgtI : (j : Int) < (i : Int) := by omega
        obtain ⟨X1, X2, rfl, hX1⟩ : ∃ X1 X2, X = X1 ++ X2 ∧ X1.length = j := ⟨X.take j, X.drop j, by simp, by rw [List.length_take]; omega⟩
        have hX2 : X2.length = i - j := by rw [List.length_append] at hX; omega
        have hsw := swapRange_at wr g cap n fv A' X1 X2 Y Z' ((m : Int) - (i : Int)) (m : Int) (j : Int) (by simpa using hblk) (by omega) (by simp at hlen ⊢; omega) hmax (by omega) (by rw [List.length_append] at hX; omega) (by omega)
        have HF' : Hid ((A' ++ Y) ++ X1 ++ X2 ++ Z' = F) := by show _ = _; rw [← hF]; simp
        have hc : ((i - j : Nat) : Int) = (i : Int) - (j : Int) := by omega
        clear hblk hF H0
        go_wp2_with fail
        refine hsw.mono ?_
        rintro e w1 ⟨rfl, hb1', hg1⟩
        have hb2 : BlkT w1 g cap ((A' ++ Y) ++ X2 ++ X1 ++ Z') := by simpa using hb1'
        have hg2 := gr_trans hgr hg1
        have hA2 : (A' ++ Y).length + (i - j) = m := by simp; omega
        clear hsw hb1' hg1 hgr
        go_wp2
        go_roundw
        case rel => first | exact ⟨i - j, j, A' ++ Y, X2, X1, Z', by rw [hc], rfl, hb2, hX2, hX1, hA2, by omega, hj0, HF'.out, hg2⟩ | ((repeat apply Exists.intro); exact ⟨⟨i - j, j, A' ++ Y, X2, X1, Z', by rw [hc], rfl, hb2, hX2, hX1, hA2, by omega, hj0, HF'.out, hg2⟩, rfl⟩)
        case measure => simp [intOf]; omega
      · have hgtI : ¬ ((j : Int) < (i : Int)) := by omega
        obtain ⟨Y1, Y2, rfl, hY2⟩ : ∃ Y1 Y2, Y = Y1 ++ Y2 ∧ Y2.length = i := ⟨Y.take (j - i), Y.drop (j - i), by simp, by rw [List.length_drop]; omega⟩
        have hY1 : Y1.length = j - i := by rw [List.length_append] at hY; omega
        have hsw := swapRange_at wr g cap n fv A' X Y1 Y2 Z' ((m : Int) - (i : Int)) ((m : Int) + (j : Int) - (i : Int)) (i : Int) (by simpa using hblk) (by omega) (by simp at hlen ⊢; omega) hmax (by omega) (by omega) (by omega)
        have HF' : Hid (A' ++ Y1 ++ Y2 ++ (X ++ Z') = F) := by show _ = _; rw [← hF]; simp
        have hc : ((j - i : Nat) : Int) = (j : Int) - (i : Int) := by omega
        clear hblk hF H0
        go_wp2_with fail
        refine hsw.mono ?_
        rintro e w1 ⟨rfl, hb1', hg1⟩
        have hb2 : BlkT w1 g cap (A' ++ Y2 ++ Y1 ++ (X ++ Z')) := by simpa using hb1'
        have hg2 := gr_trans hgr hg1
        clear hsw hb1' hg1 hgr
        go_wp2
        go_roundw
        case rel => first | exact ⟨i, j - i, A', Y2, Y1, X ++ Z', rfl, by rw [hc], hb2, hY2, hY1, hA, hi0, by omega, HF'.out, hg2⟩ | ((repeat apply Exists.intro); exact ⟨⟨i, j - i, A', Y2, Y1, X ++ Z', rfl, by rw [hc], hb2, hY2, hY1, hA, hi0, by omega, HF'.out, hg2⟩, rfl⟩)
        case measure => simp [intOf]; omega
end Go.Proofs.Ytooeemhlpmiceaa.T
