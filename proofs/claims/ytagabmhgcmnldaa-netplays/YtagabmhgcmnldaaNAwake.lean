/-
  The document's example holds; how the statements' arguments are opened.
-/
import Derived.Test.YtagabmhgcmnldaaNTake2
namespace Go.Proofs.Ytagabmhgcmnldaa
open Go.RowKit
set_option linter.unusedVariables false
set_option linter.unusedSimpArgs false

theorem row_nil (w : World) : Row w none 0 0 [] := ⟨rfl, Nat.le_refl _, by unfold maxLen; omega, fun _ => ⟨rfl, rfl⟩, fun a ha => (by cases ha)⟩
def H1 : Nat → Nat := put (put (allN 3) 0 (withoutN (allN 3 0) 1)) 1 (withoutN (allN 3 1) 0)
def H2 : Nat → Nat := put (put H1 0 (withoutN (H1 0) 2)) 2 (withoutN (H1 2) 0)
theorem class1 : classN 3 H1 2 = 0 := by decide +kernel
theorem class2 : classN 3 H2 2 = 6 := by decide +kernel
theorem ex_new (w : World) : Calls Try.prog 12 #[.int .i64 3] w fun e w' => ∃ p F, e = .returned (.tuple #[.pointer (some ⟨p, 0, none⟩), .int .i64 0]) ∧ Nt w' F p 3 (allN 3) 0 [] ∧ Below w.heap.size w w' ∧ ∀ b, F b → w.heap.size ≤ b := new_any w 3 (by omega) (by omega)
theorem ex_cut1 {w : World} {F : Nat → Prop} {p : Nat} (h : Nt w F p 3 (allN 3) 0 []) : Calls Try.prog 20 #[.pointer (some ⟨p, 0, none⟩), .int .i64 0, .int .i64 1] w fun e w' => e = .returned (.int .i64 0) ∧ Nt w' F p 3 H1 0 [] ∧ Turned F w w' := cut_any h 0 1 (by omega) (by omega) (by omega)
theorem ex_cut2 {w : World} {F : Nat → Prop} {p : Nat} (h : Nt w F p 3 H1 0 []) : Calls Try.prog 20 #[.pointer (some ⟨p, 0, none⟩), .int .i64 0, .int .i64 2] w fun e w' => e = .returned (.int .i64 0) ∧ Nt w' F p 3 H2 0 [] ∧ Turned F w w' := cut_any h 0 2 (by omega) (by omega) (by omega)
theorem ex_class1 {w : World} {F : Nat → Prop} {p : Nat} (h : Nt w F p 3 H1 0 []) : Calls Try.prog 18 #[.pointer (some ⟨p, 0, none⟩), .int .i64 2] w fun e w' => e = .returned (.int .u16 0) ∧ Below w.heap.size w w' := by
  have := class_any h 2
  rw [class1] at this
  exact this
theorem ex_class2 {w : World} {F : Nat → Prop} {p : Nat} (h : Nt w F p 3 H2 0 []) : Calls Try.prog 18 #[.pointer (some ⟨p, 0, none⟩), .int .i64 2] w fun e w' => e = .returned (.int .u16 6) ∧ Below w.heap.size w w' := by
  have := class_any h 2
  rw [class2] at this
  exact this
theorem ex_put {w : World} {F : Nat → Prop} {p : Nat} (h : Nt w F p 3 H2 0 []) : Calls Try.prog 22 #[.pointer (some ⟨p, 0, none⟩), .agg #[.int .i64 0, .int .i64 2, .slice none 0 0]] w fun e w' => e = .returned (.int .i64 0) ∧ ∃ F', Nt w' F' p 3 H2 0 ([] ++ [⟨0, 2, [], []⟩]) ∧ Goes F w F' w' :=
  put_any h 0 2 (by omega) (by omega) none 0 0 [] (row_nil w) (by omega) (by simp)
theorem ex_len {w : World} {F : Nat → Prop} {p : Nat} (h : Nt w F p 3 H2 0 ([] ++ [⟨0, 2, [], []⟩])) : Calls Try.prog 14 #[.pointer (some ⟨p, 0, none⟩)] w fun e w' => e = .returned (.int .i64 1) ∧ w = w' := len_any h

theorem awake_any (w : World) : Calls Try.prog 11 #[] w fun e w' => e = .returned (.bool true) ∧ Below w.heap.size w w' := by
  go_enter Try.func11, Try.ntmps11
  go_wp2_with fail
  refine (ex_new _).mono ?_
  rintro e w1 ⟨p, F, rfl, h1, b1, f1⟩
  go_wp2_with fail
  refine (ex_cut1 h1).mono ?_
  rintro e w2 ⟨rfl, h2, t2⟩
  go_wp2_with fail
  refine (ex_class1 h2).mono ?_
  rintro e w3 ⟨rfl, b3⟩
  go_wp2_with fail
  refine (ex_cut2 (h2.up b3)).mono ?_
  rintro e w4 ⟨rfl, h4, t4⟩
  go_wp2_with fail
  refine (ex_class2 h4).mono ?_
  rintro e w5 ⟨rfl, b5⟩
  go_wp2_with fail
  refine (ex_put (h4.up b5)).mono ?_
  rintro e w6 ⟨rfl, F6, h6, g6⟩
  go_wp2_with fail
  refine (ex_len h6).mono ?_
  rintro e w7 ⟨rfl, rfl⟩
  have HT : Hid (Below w.heap.size w w6) := by
    have k2 := b1.trans (t2.below b1.size f1)
    have k3 := k2.trans (b3.mono k2.size)
    have k4 := k3.trans (t4.below k3.size f1)
    have k5 := k4.trans (b5.mono k4.size)
    exact k5.trans (g6.turned.below k5.size f1)
  clear h1 h2 h4 h6 t2 t4 b1 b3 b5 g6 f1
  go_wp2_with fail
  go_ret
  exact ⟨rfl, HT.out⟩
end Go.Proofs.Ytagabmhgcmnldaa
