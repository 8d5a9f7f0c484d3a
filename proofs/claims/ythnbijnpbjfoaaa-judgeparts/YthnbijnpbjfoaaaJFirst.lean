/-
  judge's ofFirstView: how many are in the first one's view?
-/
import Derived.Test.YthnbijnpbjfoaaaJTog
namespace Go.Proofs.Ythnbijnpbjfoaaa
open Go.RowKit Go.Sort
set_option linter.unusedVariables false

def sameId (a b : Sy) : Prop := a.n = b.n ∧ a.p = b.p
/-- The first m are in the first one's view, and no further one. -/
def FirstN (ys : List Sy) (y0 : Sy) (m : Nat) : Prop := 0 < m ∧ m ≤ ys.length ∧ (∀ j y, j < m → ys[j]? = some y → sameId y y0) ∧ ∀ y, ys[m]? = some y → ¬ sameId y y0
def S42 (q B b off q0 : Nat) (n c : Nat) (k : Nat) (p : Int) (k0 : Nat) (p0 : Int) (w : World) : Prop :=
  w.cell? ⟨q, 1, none⟩ = some (.int .u64 (k : Nat)) ∧ w.cell? ⟨q, 2, none⟩ = some (.int .i64 p) ∧ w.cell? ⟨B, 0, none⟩ = some (.slice (some ⟨b, off, none⟩) n c) ∧ w.cell? ⟨b, off, none⟩ = some (.pointer (some ⟨q0, 0, none⟩)) ∧ w.cell? ⟨q0, 1, none⟩ = some (.int .u64 (k0 : Nat)) ∧ w.cell? ⟨q0, 2, none⟩ = some (.int .i64 p0)
theorem S42.up {q B b off q0 n c k : Nat} {p : Int} {k0 : Nat} {p0 : Int} {w w' : World} (h : S42 q B b off q0 n c k p k0 p0 w) (u : Below w.heap.size w w') : S42 q B b off q0 n c k p k0 p0 w' := by
  obtain ⟨a, b, c, d, e, f⟩ := h
  exact ⟨bl_cell u a, bl_cell u b, bl_cell u c, bl_cell u d, bl_cell u e, bl_cell u f⟩
set_option maxRecDepth 10000 in
theorem closure42 (w : World) (q B b off q0 n c k : Nat) (p : Int) (k0 : Nat) (p0 : Int) (h : S42 q B b off q0 n c k p k0 p0 w) (hn : 0 < n) :
    Calls Try.prog 42 #[.pointer (some ⟨q, 0, none⟩), .pointer (some ⟨B, 0, none⟩)] w fun e w' => e = .returned (.bool (!decide (k = k0 ∧ p = p0))) ∧ Up w w' := by
  have hd := h.up ((Up.refl w).drew).bl
  have hve := fun W => vid_equal k p k0 p0 W
  generalize decide (k = k0 ∧ p = p0) = vb at *
  have hn1 : (0 : Int) < (n : Int) := by omega
  clear h
  go_enter Try.func42, Try.ntmps42
  go_wp2_with fail
  refine wp_region_noPanic ?_
  refine wp_region_held_drew (S := S42 q B b off q0 n c k p k0 p0) (by kernel_rfl) (hd) (fun hHeld => ?_)
  unfold S42 at hHeld
  refine tq 0 ?_
  refine tq 1 ?_
  refine tq 2 ?_
  refine tq 3 ?_
  refine tq 4 ?_
  refine tq 5 ?_
  refine tq 6 ?_
  refine tq 7 ?_
  refine tq 8 ?_
  refine tq 9 ?_
  refine tq 10 ?_
  refine tq 11 ?_
  refine tq 12 ?_
  refine tq 13 ?_
  refine wpAnyH_done (by kernel_rfl) ?_ _
  refine NoPanic.normal ?_
  go_wp2
  go_ret
  exact ⟨rfl, (Up.refl w).drew⟩
set_option maxRecDepth 10000 in
set_option maxHeartbeats 1000000 in
theorem idx_any (w : World) (ao : Option Addr) (n cap : Nat) (ys : List Sy) (h : Gr w ao n ys) (y0 : Sy) (hy0 : ys[0]? = some y0) (B : Nat) (hB : w.cell? ⟨B, 0, none⟩ = some (.slice ao n cap)) :
    Calls Try.prog 41 #[.slice ao n cap, .func (.func 42) #[] #[.pointer (some ⟨B, 0, none⟩)]] w fun e w' => ((e = .returned (.int .i64 (-1)) ∧ FirstN ys y0 n) ∨ ∃ m, m < n ∧ e = .returned (.int .i64 (m : Nat)) ∧ FirstN ys y0 m) ∧ Up w w' := by
  have hl := h.len
  have hn := h.le
  have hn0 : 0 < n := by have := (List.getElem?_eq_some_iff.1 hy0).1; omega
  have HI : Hid (Gr w ao n ys ∧ ys[0]? = some y0 ∧ w.cell? ⟨B, 0, none⟩ = some (.slice ao n cap)) := ⟨h, hy0, hB⟩
  clear h hy0 hB
  go_enter Try.func41, Try.ntmps41
  go_wp2_with fail
  go_loopw [5, 8] (fun _ iv wr => ∃ k : Nat, k ≤ n ∧ iv = .int .i64 (k : Nat) ∧ (∀ j y, j < k → ys[j]? = some y → sameId y y0) ∧ Up w wr) (fun _ iv _ => n - (intOf iv).toNat)
  case atStart => exact ⟨0, by omega, rfl, fun j y hj => by omega, Up.refl _⟩
  case round =>
    obtain ⟨k, hk, rfl, hno, hu⟩ := hrel
    have HN : Hid (∀ j y, j < k → ys[j]? = some y → sameId y y0) := hno
    clear hno
    by_cases hlt : k < n
    · have hltI : (k : Int) < (n : Int) := by omega
      have hk0 : ¬ ((k : Int) < 0) := by omega
      obtain ⟨y, hy⟩ : ∃ y, ys[k]? = some y := ⟨ys[k]'(by omega), List.getElem?_eq_getElem (by omega)⟩
      obtain ⟨b, off, q, _, _, hao, c0, y9, _⟩ := (HI.out.1.up hu.bl).at hy
      obtain ⟨b', off', q0, _, _, hao', d0, z9, _⟩ := (HI.out.1.up hu.bl).at HI.out.2.1
      have hbo : b' = b ∧ off' = off := by rw [hao] at hao'; simp at hao'; exact ⟨hao'.1.symm, hao'.2.symm⟩
      obtain ⟨rfl, rfl⟩ := hbo
      have hcl := fun W (u : Below wr.heap.size wr W) => closure42 W q B b' off' q0 n cap y.n y.p y0.n y0.p ⟨bl_cell u y9.2.1, bl_cell u y9.2.2.1, by rw [← hao]; exact bl_cell u (bl_cell hu.bl HI.out.2.2), bl_cell u d0, bl_cell u z9.2.1, bl_cell u z9.2.2.1⟩ hn0
      obtain ⟨vb, hvb⟩ : ∃ vb, decide (y.n = y0.n ∧ y.p = y0.p) = vb := ⟨_, rfl⟩
      rw [hvb] at hcl
      have HV : Hid (decide (y.n = y0.n ∧ y.p = y0.p) = vb ∧ ys[k]? = some y) := ⟨hvb, hy⟩
      have hcl := hcl wr (Below.refl _ _)
      subst hao
      clear hy y9 z9 d0 hao' hvb
      cases vb with
      | true =>
        have HN' : Hid (∀ j y, j < k + 1 → ys[j]? = some y → sameId y y0) := fun j z hj hz => by
          by_cases e : j = k
          · subst e; rw [HV.out.2] at hz; cases hz; exact (of_decide_eq_true HV.out.1 : y.n = y0.n ∧ y.p = y0.p)
          · exact HN.out j z (by omega) hz
        go_wp2_with fail
        refine hcl.mono ?_
        rintro e w1 ⟨rfl, u1⟩
        have hu1 := hu.trans u1
        clear hcl u1 c0
        go_wp2
        go_roundw
        case rel => first | exact ⟨k + 1, by omega, by go_num, HN'.out, hu1⟩ | ((repeat apply Exists.intro); exact ⟨⟨k + 1, by omega, by go_num, HN'.out, hu1⟩, rfl⟩)
        case measure => simp [intOf]; omega
      | false =>
        have HF : Hid (FirstN ys y0 k) := by
          refine ⟨?_, by omega, HN.out, fun z hz => ?_⟩
          · rcases Nat.eq_zero_or_pos k with e | e
            · exfalso
              subst e
              have := HV.out.2
              rw [HI.out.2.1] at this
              cases this
              exact of_decide_eq_false HV.out.1 ⟨rfl, rfl⟩
            · exact e
          · rw [HV.out.2] at hz
            cases hz
            exact (of_decide_eq_false HV.out.1 : ¬ (y.n = y0.n ∧ y.p = y0.p))
        go_wp2_with fail
        refine hcl.mono ?_
        rintro e w1 ⟨rfl, u1⟩
        have hu1 := hu.trans u1
        clear hcl u1 c0
        go_wp2
        go_ret
        exact ⟨.inr ⟨k, hlt, rfl, HF.out⟩, hu1⟩
    · obtain rfl : k = n := by omega
      have HF : Hid (FirstN ys y0 k) := ⟨hn0, by omega, HN.out, fun z hz => by have := (List.getElem?_eq_some_iff.1 hz).1; omega⟩
      go_wp2
      go_ret
      exact ⟨.inl ⟨rfl, HF.out⟩, hu⟩
set_option maxRecDepth 10000 in
set_option maxHeartbeats 1000000 in
theorem first_any (w : World) (ao : Option Addr) (n cap : Nat) (ys : List Sy) (h : Gr w ao n ys) (y0 : Sy) (hy0 : ys[0]? = some y0) :
    Calls Try.prog 26 #[.slice ao n cap] w fun e w' => (∃ m, m ≤ n ∧ e = .returned (.int .i64 (m : Nat)) ∧ FirstN ys y0 m) ∧ Up w w' := by
  obtain ⟨w1, hw1⟩ : ∃ w1, w.alloc (.cells #[.slice ao n cap] 55) = w1 := ⟨_, rfl⟩
  have u1 : Up w w1 := by rw [← hw1]; exact (Up.refl _).alloc _
  have k0 : w1.cell? ⟨w.heap.size, 0, none⟩ = some (.slice ao n cap) := by rw [← hw1]; exact cell_box w _ 55 0 _ rfl
  have hl := h.len
  have hix := idx_any w1 ao n cap ys (h.up u1.bl) y0 hy0 w.heap.size k0
  clear h
  go_enter Try.func26, Try.ntmps26
  go_wp2_with fail
  refine hix.mono ?_
  rintro e w2 ⟨hp, u2⟩
  have k1 := bl_cell u2.bl k0
  have hu := u1.trans u2
  clear hix u1 u2 k0 hw1
  rcases hp with ⟨rfl, hf⟩ | ⟨m, hm, rfl, hf⟩
  · have HF : Hid (FirstN ys y0 n) := hf
    clear hf
    go_wp2
    go_ret
    exact ⟨⟨n, Nat.le_refl _, rfl, HF.out⟩, hu⟩
  · have HF : Hid (FirstN ys y0 m) := hf
    have hm0 : ¬ ((m : Int) < 0) := by omega
    clear hf
    go_wp2
    go_ret
    exact ⟨⟨m, by omega, rfl, HF.out⟩, hu⟩
end Go.Proofs.Ythnbijnpbjfoaaa
