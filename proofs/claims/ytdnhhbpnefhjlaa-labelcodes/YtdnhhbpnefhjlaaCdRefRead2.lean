/-
  Contracts of the reader of the document's answer, more: Int, Bytes, Left; and how it keeps step with the reader of package code.
-/
import Derived.Test.YtdnhhbpnefhjlaaCdRefRead
namespace Go.Proofs.Ytdnhhbpnefhjlaa.Cd
open Go.RowKit
set_option linter.unusedVariables false
set_option linter.unusedSimpArgs false

/-- The two readers stand at one place: what is left is what lies behind the place. -/
def same (xs : List UInt8) (o : Option Nat) (st : Option (List UInt8)) : Prop :=
  match o, st with
  | none, none => True
  | some k, some ys => k ≤ xs.length ∧ ys = xs.drop k
  | _, _ => False

theorem refUint_step (w : World) (m : Nat) (ao : Option Addr) (n cap : Nat) (xs : List UInt8) (o : Option Nat) (st : Option (List UInt8)) (hs : same xs o st) (h : RR w m ao n cap o) (hx : Row w ao n cap xs) (hn : n ≤ 140737488355328) :
    Calls Try.prog 51 #[.pointer (some ⟨m, 0, none⟩)] w fun e w' => e = .returned (.int .u64 ((rUint st).1 : Nat)) ∧ ∃ o', same xs o' (rUint st).2 ∧ RR w' m ao n cap o' ∧ w.grownBy w' (some m) := by
  cases o with
  | none =>
    cases st with
    | some ys => exact absurd hs (by simp [same])
    | none =>
      refine (refRead_none w m ao n cap h).mono ?_
      rintro e w' ⟨rfl, rfl⟩
      exact ⟨rfl, none, trivial, h, grown_refl _ _⟩
  | some k =>
    cases st with
    | none => exact absurd hs (by simp [same])
    | some ys =>
      obtain ⟨hk, rfl⟩ := hs
      refine (refRead_some w m ao n cap xs k h hx (by rw [← hx.1]; exact hk) hn).mono ?_
      rintro e w' ⟨rfl, hr, hg⟩
      cases hrd : rd (xs.drop k) with
      | none =>
        have e1 : rUint (some (xs.drop k)) = (0, none) := by simp only [rUint, hrd]
        have e2 : refNext xs (some k) = none := by simp only [refNext, hrd]
        rw [e1]
        rw [e2] at hr
        exact ⟨rfl, none, trivial, hr, hg⟩
      | some p =>
        obtain ⟨N, s⟩ := p
        have e1 : rUint (some (xs.drop k)) = (N, some ((xs.drop k).drop s)) := by simp only [rUint, hrd]
        have e2 : refNext xs (some k) = some (k + s) := by simp only [refNext, hrd]
        rw [e1]
        rw [e2] at hr
        have hsz := rd_size hrd
        rw [List.length_drop] at hsz
        exact ⟨rfl, some (k + s), ⟨by omega, by rw [List.drop_drop]⟩, hr, hg⟩

theorem same_isNone {xs : List UInt8} {o : Option Nat} {st : Option (List UInt8)} (h : same xs o st) : o.isNone = st.isNone := by
  cases o <;> cases st <;> simp_all [same]
theorem at_neg (o : Option Nat) : decide (atOf o < 0) = o.isNone := by
  cases o with
  | none => rfl
  | some k => exact decide_eq_false (show ¬ (k : Int) < 0 by omega)
theorem same_left {xs : List UInt8} {o : Option Nat} {ys : List UInt8} (h : same xs o (some ys)) : ∃ k, o = some k ∧ k ≤ xs.length ∧ ys = xs.drop k := by
  cases o with
  | none => exact absurd h (by simp [same])
  | some k => exact ⟨k, rfl, h⟩
theorem same_none {xs : List UInt8} {o : Option Nat} (h : same xs o none) : o = none := by
  cases o with
  | none => rfl
  | some k => exact absurd h (by simp [same])

set_option maxRecDepth 10000 in
set_option maxHeartbeats 1000000 in
theorem refInt_step (w : World) (m : Nat) (ao : Option Addr) (n cap : Nat) (xs : List UInt8) (o : Option Nat) (st : Option (List UInt8)) (hs : same xs o st) (h : RR w m ao n cap o) (hx : Row w ao n cap xs) (hn : n ≤ 140737488355328) (most : Int) (hm1 : -9223372036854775808 ≤ most) (hm2 : most ≤ 9223372036854775807) :
    Calls Try.prog 52 #[.pointer (some ⟨m, 0, none⟩), .int .i64 most] w fun e w' => e = .returned (.int .i64 ((rInt st most).1 : Nat)) ∧ ∃ o', same xs o' (rInt st most).2 ∧ RR w' m ao n cap o' ∧ w.grownBy w' (some m) := by
  have hu := refUint_step w m ao n cap xs o st hs h hx hn
  have hlt := rUint_lt st
  generalize hN : (rUint st).1 = N at *
  cases hst : (rUint st).2 with
  | none =>
    rw [hst] at hu
    have e1 : rInt st most = (0, none) := by simp [rInt, hst]
    rw [e1]
    clear e1 hst hN
    go_enter Try.func52, Try.ntmps52
    go_wp2_with fail
    refine hu.mono ?_
    rintro e w1 ⟨rfl, o1, hs1, hr1, hg1⟩
    obtain rfl := same_none hs1
    obtain ⟨c0, c1, f0, f1⟩ := hr1.cells
    simp only [atOf] at c1
    go_wp2
    go_ret
    exact ⟨rfl, none, trivial, hr1.set none, grown_trans hg1 (set_grown _)⟩
  | some ys =>
    rw [hst] at hu
    by_cases hb : most < 0 ∨ most < (N : Int)
    · have e1 : rInt st most = (0, none) := by simp only [rInt, hst, hN]; rw [if_pos hb]
      rw [e1]
      clear e1 hst hN
      go_enter Try.func52, Try.ntmps52
      go_wp2_with fail
      refine hu.mono ?_
      rintro e w1 ⟨rfl, o1, hs1, hr1, hg1⟩
      obtain ⟨k1, rfl, hk1, rfl⟩ := same_left hs1
      obtain ⟨c0, c1, f0, f1⟩ := hr1.cells
      simp only [atOf] at c1
      have hk0 : ¬ (k1 : Int) < 0 := by omega
      by_cases hm0 : most < 0
      · go_wp2
        go_ret
        exact ⟨rfl, none, trivial, hr1.set none, grown_trans hg1 (set_grown _)⟩
      · have hm3 : most < (N : Int) := by omega
        have hm4 : 0 ≤ most := by omega
        go_wp2
        go_ret
        exact ⟨rfl, none, trivial, hr1.set none, grown_trans hg1 (set_grown _)⟩
    · have e1 : rInt st most = (N, some ys) := by simp only [rInt, hst, hN]; rw [if_neg hb]
      rw [e1]
      clear e1 hst hN
      have hm0 : 0 ≤ most := by omega
      have hNm : (N : Int) ≤ most := by omega
      go_enter Try.func52, Try.ntmps52
      go_wp2_with fail
      refine hu.mono ?_
      rintro e w1 ⟨rfl, o1, hs1, hr1, hg1⟩
      obtain ⟨k1, rfl, hk1, rfl⟩ := same_left hs1
      obtain ⟨c0, c1, f0, f1⟩ := hr1.cells
      simp only [atOf] at c1
      have hk0 : ¬ (k1 : Int) < 0 := by omega
      go_wp2
      go_ret
      exact ⟨rfl, some k1, ⟨hk1, rfl⟩, hr1, hg1⟩

set_option maxRecDepth 10000 in
set_option maxHeartbeats 1000000 in
theorem refLeft_step (w : World) (m : Nat) (ao : Option Addr) (n cap : Nat) (xs : List UInt8) (o : Option Nat) (st : Option (List UInt8)) (hs : same xs o st) (h : RR w m ao n cap o) (hl : xs.length = n) (hn : n ≤ 140737488355328) :
    Calls Try.prog 28 #[.pointer (some ⟨m, 0, none⟩)] w fun e w' => e = .returned (.int .i64 (rLeft st : Nat)) ∧ Below w.heap.size w w' := by
  obtain ⟨c0, c1, f0, f1⟩ := h.cells
  cases st with
  | none =>
    obtain rfl := same_none hs
    simp only [atOf] at c1
    go_enter Try.func28, Try.ntmps28
    go_wp2
    go_ret
    exact ⟨rfl, Below.refl _ _⟩
  | some ys =>
    obtain ⟨k, rfl, hk, rfl⟩ := same_left hs
    simp only [atOf] at c1
    have hk0 : ¬ (k : Int) < 0 := by omega
    have hwr : IntKind.i64.wrap ((n : Int) - (k : Int)) = (n : Int) - (k : Int) := by simp [IntKind.wrap, IntKind.bits, IntKind.signed]; omega
    have HL : Hid ((n : Int) - (k : Int) = ((xs.drop k).length : Nat)) := by show (n : Int) - (k : Int) = ((xs.drop k).length : Nat); rw [List.length_drop]; omega
    go_enter Try.func28, Try.ntmps28
    go_wp2
    go_region_held3 (fun wx => wx.cell? ⟨m, 0, none⟩ = some (.slice ao n cap) ∧ wx.cell? ⟨m, 1, none⟩ = some (.int .i64 (k : Int))) (exact ⟨c0, c1⟩) (fail)
    go_wp2
    go_ret
    exact ⟨ret_int HL.out, (Below.refl _ _).drew⟩

end Go.Proofs.Ytdnhhbpnefhjlaa.Cd
