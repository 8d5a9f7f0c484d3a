/-
  Strings of bytes in the walk, and a reader in a world that has grown.
-/
import Derived.Test.YtpdgoalbknopiaaCdAwake
import Derived.Laws.Concat
namespace Go.Proofs.Ytpdgoalbknopiaa.Cd
open Go.RowKit
theorem rd_below {w w' : World} {r : Nat} {st : Option (List UInt8)} (h : Rd w r st) (hb : Below w.heap.size w w') : Rd w' r st := by
  cases st with
  | none =>
    show w'.heap[r]? = _
    rw [hb.block r (Array.getElem?_eq_some_iff.1 h).1]
    exact h
  | some xs =>
    obtain ⟨ao, n, cap, hr, hrow, hbl⟩ := h
    exact ⟨ao, n, cap, by rw [hb.block r (Array.getElem?_eq_some_iff.1 hr).1]; exact hr, hrow.below hb (Nat.le_refl _), hbl⟩
theorem str_append (xs es : List UInt8) : str xs ++ str es = str (xs ++ es) := by
  apply ByteArray.ext
  simp [str, ByteArray.data_append]
theorem str_size (xs : List UInt8) : (str xs).size = xs.length := by simp [str, ByteArray.size]
theorem add_run (w : World) (xs es : List UInt8) (h : xs.length + es.length ≤ 9223372036854775807) : (Op.stringOp .add (str xs) (str es)).run Try.prog w = .ok (.string (str (xs ++ es))) w := by
  have := run_string_add_sum (P := Try.prog) (w := w) (str xs) (str es) (by rw [str_size, str_size]; exact h)
  rw [str_append] at this
  exact this
/-- A reader stays what it is while another reader's object is written, or blocks are laid. -/
theorem rd_kept {w w' : World} {r s : Nat} {st su : Option (List UInt8)} (h : Rd w r st) (hs : Rd w s su) (hne : r ≠ s) (hg : w.grownBy w' (some s)) : Rd w' r st := by
  cases st with
  | none =>
    show w'.heap[r]? = _
    rw [hg.block r (Array.getElem?_eq_some_iff.1 h).1 (by simpa using hne)]
    exact h
  | some xs =>
    obtain ⟨ao, n, cap, hr, hrow, hbl⟩ := h
    refine ⟨ao, n, cap, by rw [hg.block r (Array.getElem?_eq_some_iff.1 hr).1 (by simpa using hne)]; exact hr, ?_, hbl⟩
    cases su with
    | none => exact hrow.kept hs hg
    | some ys => obtain ⟨bo, m, c, hs, _⟩ := hs; exact hrow.kept hs hg
theorem row_kept {w w' : World} {s : Nat} {su : Option (List UInt8)} {ao : Option Addr} {n cap : Nat} {xs : List UInt8} (h : Row w ao n cap xs) (hs : Rd w s su) (hg : w.grownBy w' (some s)) : Row w' ao n cap xs := by
  cases su with
  | none => exact h.kept hs hg
  | some ys => obtain ⟨bo, m, c, hs, _⟩ := hs; exact h.kept hs hg
theorem Rd.lt {w : World} {r : Nat} {st : Option (List UInt8)} (h : Rd w r st) : r < w.heap.size := by
  cases st with
  | none => exact (Array.getElem?_eq_some_iff.1 h).1
  | some xs => obtain ⟨ao, n, cap, hr, _⟩ := h; exact (Array.getElem?_eq_some_iff.1 hr).1
theorem str_beq (a b : List UInt8) : ((str a).toList == (str b).toList) = decide (a = b) := by
  have h : ∀ l, (str l).toList = l := fun l => ByteArray.toList_mk l
  rw [h, h, Bool.eq_iff_iff]
  simp
end Go.Proofs.Ytpdgoalbknopiaa.Cd
