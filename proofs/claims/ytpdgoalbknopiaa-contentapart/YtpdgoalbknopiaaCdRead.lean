/-
  Contracts of the reader of package code: NewReader, Bad, Left, fail, Uint, Int, Bytes: what each call answers, and what the reader holds behind it.
-/
import Derived.Test.YtpdgoalbknopiaaCdGrow
import Derived.Laws.AppendOwnNone
namespace Go.Proofs.Ytpdgoalbknopiaa.Cd
open Go.RowKit
set_option linter.unusedVariables false

set_option maxHeartbeats 400000 in
theorem bad_nil (w : World) : Calls Try.prog 26 #[.pointer none] w fun e w' => e = .returned (.bool true) ∧ w = w' := by
  go_enter Try.func26, Try.ntmps26
  go_wp2
  go_ret
  exact ⟨rfl, rfl⟩
set_option maxHeartbeats 400000 in
theorem bad_any (w : World) (r : Nat) (b : Bool) (h : w.cell? ⟨r, 1, none⟩ = some (.bool b)) : Calls Try.prog 26 #[.pointer (some ⟨r, 0, none⟩)] w fun e w' => e = .returned (.bool b) ∧ w = w' := by
  go_enter Try.func26, Try.ntmps26
  go_wp2
  go_ret
  exact ⟨rfl, rfl⟩

/-- The world behind a fault. -/
def failed (w : World) (r : Nat) : World := (w.setCell ⟨r, 0, none⟩ (.slice none 0 0)).setCell ⟨r, 1, none⟩ (.bool true)
set_option maxHeartbeats 400000 in
theorem fail_any (w : World) (r : Nat) (c0 c1 : Value) (h0 : w.cell? ⟨r, 0, none⟩ = some c0) (h1 : w.cell? ⟨r, 1, none⟩ = some c1) (f0 : w.frozen? ⟨r, 0, none⟩ = false) (f1 : w.frozen? ⟨r, 1, none⟩ = false) :
    Calls Try.prog 49 #[.pointer (some ⟨r, 0, none⟩)] w fun e w' => e = .returned (.tuple #[]) ∧ failed w r = w' := by
  go_enter Try.func49, Try.ntmps49
  go_wp2
  go_end0
  exact ⟨rfl, rfl⟩
set_option maxHeartbeats 400000 in
theorem left_nil (w : World) : Calls Try.prog 27 #[.pointer none] w fun e w' => e = .returned (.int .i64 0) ∧ w = w' := by
  go_enter Try.func27, Try.ntmps27
  go_wp2_with (first | (go_at_call 26; refine (bad_nil _).mono ?_; rintro e w' ⟨rfl, rfl⟩))
  go_ret
  exact ⟨rfl, rfl⟩
set_option maxHeartbeats 400000 in
theorem left_bad (w : World) (r : Nat) (h : w.cell? ⟨r, 1, none⟩ = some (.bool true)) : Calls Try.prog 27 #[.pointer (some ⟨r, 0, none⟩)] w fun e w' => e = .returned (.int .i64 0) ∧ w = w' := by
  go_enter Try.func27, Try.ntmps27
  go_wp2_with (first | (go_at_call 26; refine (bad_any _ _ true h).mono ?_; rintro e w' ⟨rfl, rfl⟩))
  go_ret
  exact ⟨rfl, rfl⟩
set_option maxHeartbeats 400000 in
theorem left_good (w : World) (r : Nat) (ao : Option Addr) (n cap : Nat) (h : w.cell? ⟨r, 1, none⟩ = some (.bool false)) (h0 : w.cell? ⟨r, 0, none⟩ = some (.slice ao n cap)) :
    Calls Try.prog 27 #[.pointer (some ⟨r, 0, none⟩)] w fun e w' => e = .returned (.int .i64 n) ∧ w = w' := by
  go_enter Try.func27, Try.ntmps27
  go_wp2_with (first | (go_at_call 26; refine (bad_any _ _ false h).mono ?_; rintro e w' ⟨rfl, rfl⟩))
  go_ret
  exact ⟨rfl, rfl⟩
set_option maxHeartbeats 400000 in
theorem ruint_nil (w : World) : Calls Try.prog 48 #[.pointer none] w fun e w' => e = .returned (.int .u64 0) ∧ w = w' := by
  go_enter Try.func48, Try.ntmps48
  go_wp2_with (first | (go_at_call 26; refine (bad_nil _).mono ?_; rintro e w' ⟨rfl, rfl⟩))
  go_ret
  exact ⟨rfl, rfl⟩
set_option maxHeartbeats 400000 in
theorem ruint_bad (w : World) (r : Nat) (h : w.cell? ⟨r, 1, none⟩ = some (.bool true)) : Calls Try.prog 48 #[.pointer (some ⟨r, 0, none⟩)] w fun e w' => e = .returned (.int .u64 0) ∧ w = w' := by
  go_enter Try.func48, Try.ntmps48
  go_wp2_with (first | (go_at_call 26; refine (bad_any _ _ true h).mono ?_; rintro e w' ⟨rfl, rfl⟩))
  go_ret
  exact ⟨rfl, rfl⟩
set_option maxHeartbeats 400000 in
theorem ruint_none (w : World) (r : Nat) (ao : Option Addr) (n cap : Nat) (xs : List UInt8) (h : w.cell? ⟨r, 1, none⟩ = some (.bool false)) (h0 : w.cell? ⟨r, 0, none⟩ = some (.slice ao n cap))
    (f0 : w.frozen? ⟨r, 0, none⟩ = false) (f1 : w.frozen? ⟨r, 1, none⟩ = false) (hrow : Row w ao n cap xs) (hrd : rd xs = none) :
    Calls Try.prog 48 #[.pointer (some ⟨r, 0, none⟩)] w fun e w' => e = .returned (.int .u64 0) ∧ failed w r = w' := by
  have hnum := number_any w ao n cap xs hrow
  simp only [hrd, rdNum, rdSize] at hnum
  go_enter Try.func48, Try.ntmps48
  go_wp2_with (first | (go_at_call 26; refine (bad_any _ _ false h).mono ?_; rintro e w' ⟨rfl, rfl⟩) | (go_at_call 66; refine hnum.mono ?_; rintro e w' ⟨rfl, rfl⟩) | (go_at_call 49; refine (fail_any _ _ _ _ h0 h f0 f1).mono ?_; rintro e w' ⟨rfl, rfl⟩))
  go_ret
  exact ⟨rfl, rfl⟩
set_option maxHeartbeats 400000 in
theorem ruint_some (w : World) (r : Nat) (ao : Option Addr) (n cap : Nat) (xs : List UInt8) (h : w.cell? ⟨r, 1, none⟩ = some (.bool false)) (h0 : w.cell? ⟨r, 0, none⟩ = some (.slice ao n cap))
    (f0 : w.frozen? ⟨r, 0, none⟩ = false) (f1 : w.frozen? ⟨r, 1, none⟩ = false) (hrow : Row w ao n cap xs) (N s : Nat) (hrd : rd xs = some (N, s)) :
    Calls Try.prog 48 #[.pointer (some ⟨r, 0, none⟩)] w fun e w' => e = .returned (.int .u64 N) ∧ ∃ ao' cap', w.setCell ⟨r, 0, none⟩ (.slice ao' (n - s) cap') = w' ∧ Row w ao' (n - s) cap' (xs.drop s) ∧ ∀ a', ao' = some a' → ∃ a, ao = some a ∧ a'.block = a.block := by
  have hnum := number_any w ao n cap xs hrow
  simp only [hrd, rdNum, rdSize] at hnum
  have hsz := rd_size hrd
  have hlen := hrow.1
  have hle := hrow.2.1
  have hm := hrow.2.2.1
  unfold maxLen at hm
  have hs0 : ((s : Int) == 0) = false := by simp; omega
  have hsn : s ≤ n := by omega
  have HR : Hid (Row w ao n cap xs) := hrow
  obtain ⟨b, off, rfl, _⟩ := hrow.open (by omega)
  clear hrd hrow
  by_cases hcs : cap = s
  · subst hcs
    go_enter Try.func48, Try.ntmps48
    go_wp2_with (first | (go_at_call 26; refine (bad_any _ _ false h).mono ?_; rintro e w' ⟨rfl, rfl⟩) | (go_at_call 66; refine hnum.mono ?_; rintro e w' ⟨rfl, rfl⟩))
    go_ret
    have hn0 : n - cap = 0 := by omega
    rw [hn0]
    refine ⟨rfl, _, _, rfl, ?_, fun a' e => by cases e; exact ⟨_, rfl, rfl⟩⟩
    exact ⟨by simp; omega, Nat.le_refl _, by omega, fun e => (by cases e), fun a _ i hi => absurd hi (by omega)⟩
  · have hlt : s < cap := by omega
    go_enter Try.func48, Try.ntmps48
    go_wp2_with (first | (go_at_call 26; refine (bad_any _ _ false h).mono ?_; rintro e w' ⟨rfl, rfl⟩) | (go_at_call 66; refine hnum.mono ?_; rintro e w' ⟨rfl, rfl⟩))
    go_ret
    refine ⟨rfl, _, _, rfl, ?_, fun a' e => by cases e; exact ⟨_, rfl, rfl⟩⟩
    obtain ⟨g1, g2, g3, g4, g5⟩ := HR.out
    refine ⟨by simp; omega, by omega, by unfold maxLen at g3 ⊢; omega, fun e => (by cases e), fun a ha i hi => ?_⟩
    cases ha
    have := g5 _ rfl (s + i) (by omega)
    rw [Addr.add_lit] at this ⊢
    rw [show off + s + i = off + (s + i) by omega, this]
    simp [List.getElem?_drop]

/-- What a reader holds: behind a fault nothing; else what is left. -/
def Rd (w : World) (r : Nat) : Option (List UInt8) → Prop
  | none => w.heap[r]? = some (.cells #[.slice none 0 0, .bool true] 78 (0, 0))
  | some xs => ∃ ao n cap, w.heap[r]? = some (.cells #[.slice ao n cap, .bool false] 78 (0, 0)) ∧ Row w ao n cap xs ∧ ∀ a, ao = some a → a.block < r

def rUint : Option (List UInt8) → Nat × Option (List UInt8)
  | none => (0, none)
  | some xs => match rd xs with | none => (0, none) | some (n, s) => (n, some (xs.drop s))
def rInt (st : Option (List UInt8)) (most : Int) : Nat × Option (List UInt8) :=
  match (rUint st).2 with
  | none => (0, none)
  | some ys => if most < 0 ∨ most < ((rUint st).1 : Int) then (0, none) else ((rUint st).1, some ys)
def rBytes (st : Option (List UInt8)) (most : Int) : List UInt8 × Option (List UInt8) :=
  match (rInt st most).2 with
  | none => ([], none)
  | some ys => if ys.length < (rInt st most).1 then ([], none) else (ys.take (rInt st most).1, some (ys.drop (rInt st most).1))
def rLeft : Option (List UInt8) → Nat
  | none => 0
  | some xs => xs.length

theorem Row.kept {w w' : World} {ao : Option Addr} {n cap r : Nat} {xs : List UInt8} {s : Option Addr} {m c : Nat} {b : Bool} (h : Row w ao n cap xs) (hr : w.heap[r]? = some (.cells #[.slice s m c, .bool b] 78 (0, 0)))
    (hg : w.grownBy w' (some r)) : Row w' ao n cap xs := by
  obtain ⟨h1, h2, h3, h4, h5⟩ := h
  refine ⟨h1, h2, h3, h4, fun a ha i hi => ?_⟩
  have hc := h5 a ha i hi
  have hne : (a.add i).block ≠ r := by
    intro he
    generalize a.add i = p at *
    obtain ⟨pb, po, ps⟩ := p
    have hs : ps = none := World.cell?_spot hc
    subst hs
    simp only at he
    subst he
    rw [cell_of_row w _ po _ 78 (0, 0) hr] at hc
    match po, hc with
    | 0, hc => simp at hc
    | 1, hc => simp at hc
    | k + 2, hc => simp at hc
  exact hg.cell hc (by simpa using hne)

theorem set_grown {w : World} {r i : Nat} (v : Value) : w.grownBy (w.setCell ⟨r, i, none⟩ v) (some r) :=
  ⟨rfl, rfl, rfl, by simp [World.setCell], fun k hk hne => heap_setCell_other _ _ _ _ (by simpa using hne)⟩
theorem grown_trans {a b c : World} {r : Option Nat} (h : a.grownBy b r) (k : b.grownBy c r) : a.grownBy c r :=
  ⟨k.os.trans h.os, k.tape.trans h.tape, k.output.trans h.output, Nat.le_trans h.size k.size, fun i hi hne => (k.block i (Nat.lt_of_lt_of_le hi h.size) hne).trans (h.block i hi hne)⟩
theorem grown_refl (a : World) (r : Option Nat) : a.grownBy a r := ⟨rfl, rfl, rfl, Nat.le_refl _, fun _ _ _ => rfl⟩

theorem failed_rd {w : World} {r : Nat} {s : Option Addr} {m c : Nat} {b : Bool} (hr : w.heap[r]? = some (.cells #[.slice s m c, .bool b] 78 (0, 0))) : Rd (failed w r) r none ∧ w.grownBy (failed w r) (some r) := by
  constructor
  · have h1 := heap_setCell_same w r 0 _ 78 (.slice none 0 0) hr
    have h2 := heap_setCell_same _ r 1 _ 78 (.bool true) h1
    show (failed w r).heap[r]? = _
    unfold failed
    rw [h2]
    rfl
  · exact grown_trans (set_grown _) (set_grown _)

theorem rd_cell0 {w : World} {r : Nat} {c0 c1 : Value} (hr : w.heap[r]? = some (.cells #[c0, c1] 78 (0, 0))) : w.cell? ⟨r, 0, none⟩ = some c0 ∧ w.cell? ⟨r, 1, none⟩ = some c1 ∧ w.frozen? ⟨r, 0, none⟩ = false ∧ w.frozen? ⟨r, 1, none⟩ = false := by
  refine ⟨by rw [cell_of_row w r 0 _ 78 (0, 0) hr]; rfl, by rw [cell_of_row w r 1 _ 78 (0, 0) hr]; rfl, frozen_of_row w r 0 _ 78 hr, frozen_of_row w r 1 _ 78 hr⟩

theorem Rd.bad {w : World} {r : Nat} {st : Option (List UInt8)} (h : Rd w r st) : w.cell? ⟨r, 1, none⟩ = some (.bool st.isNone) := by
  cases st with
  | none => exact (rd_cell0 h).2.1
  | some xs => obtain ⟨ao, n, cap, hr, _⟩ := h; exact (rd_cell0 hr).2.1

theorem bad_rd (w : World) (r : Nat) (st : Option (List UInt8)) (h : Rd w r st) : Calls Try.prog 26 #[.pointer (some ⟨r, 0, none⟩)] w fun e w' => e = .returned (.bool st.isNone) ∧ w = w' := bad_any w r _ h.bad
theorem left_rd (w : World) (r : Nat) (st : Option (List UInt8)) (h : Rd w r st) : Calls Try.prog 27 #[.pointer (some ⟨r, 0, none⟩)] w fun e w' => e = .returned (.int .i64 (rLeft st : Nat)) ∧ w = w' := by
  cases st with
  | none => exact left_bad w r h.bad
  | some xs =>
    obtain ⟨ao, n, cap, hr, hrow, hbl⟩ := h
    have := left_good w r ao n cap (rd_cell0 hr).2.1 (rd_cell0 hr).1
    rw [← hrow.1] at this
    rw [← hrow.1] at *
    exact this
theorem uint_rd (w : World) (r : Nat) (st : Option (List UInt8)) (h : Rd w r st) :
    Calls Try.prog 48 #[.pointer (some ⟨r, 0, none⟩)] w fun e w' => e = .returned (.int .u64 ((rUint st).1 : Nat)) ∧ Rd w' r (rUint st).2 ∧ w.grownBy w' (some r) := by
  cases st with
  | none =>
    refine (ruint_bad w r h.bad).mono ?_
    rintro e w' ⟨rfl, rfl⟩
    exact ⟨rfl, h, grown_refl _ _⟩
  | some xs =>
    obtain ⟨ao, n, cap, hr, hrow, hbl⟩ := h
    obtain ⟨c0, c1, f0, f1⟩ := rd_cell0 hr
    cases hrd : rd xs with
    | none =>
      refine (ruint_none w r ao n cap xs c1 c0 f0 f1 hrow hrd).mono ?_
      rintro e w' ⟨rfl, rfl⟩
      have e1 : rUint (some xs) = (0, none) := by simp only [rUint, hrd]
      rw [e1]
      exact ⟨rfl, failed_rd hr⟩
    | some p =>
      obtain ⟨N, s⟩ := p
      refine (ruint_some w r ao n cap xs c1 c0 f0 f1 hrow N s hrd).mono ?_
      rintro e w' ⟨rfl, ao', cap', rfl, hrow', hbl'⟩
      have e1 : rUint (some xs) = (N, some (xs.drop s)) := by simp only [rUint, hrd]
      rw [e1]
      refine ⟨rfl, ⟨ao', _, cap', ?_, hrow'.kept hr (set_grown _), fun a' e => by obtain ⟨a, ha, hb⟩ := hbl' a' e; rw [hb]; exact hbl a ha⟩, set_grown _⟩
      rw [heap_setCell_same w r 0 _ 78 _ hr]
      rfl

end Go.Proofs.Ytpdgoalbknopiaa.Cd
