/-
  The document's examples hold: 'awake' of the statements' package answers true, and leaves what was there as it was.
-/
import Derived.Test.YtpdgoalbknopiaaCdRead2
import Derived.Lib.SlBytesConst
import Derived.Laws.BytesArg
namespace Go.Proofs.Ytpdgoalbknopiaa.Cd
open Go.RowKit
set_option linter.unusedVariables false

def str (xs : List UInt8) : ByteArray := ⟨xs.toArray⟩
theorem str_of (xs : List UInt8) : (xs.map fun x => (x.toNat : Int)).foldl (fun r n => r.push (UInt8.ofNat n.toNat)) ByteArray.empty = str xs := by
  rw [foldl_push_bytes]
  simp [str, ByteArray.empty, ByteArray.emptyWithCapacity, Function.comp_def]
  try rfl
theorem conv_row {w : World} {ao : Option Addr} {n cap : Nat} {xs : List UInt8} (h : Row w ao n cap xs) : (convert 27 9 (.slice ao n cap)).run Try.prog w = .ok (.string (str xs)) w := by
  cases ao with
  | none =>
    have hx : xs = [] := List.eq_nil_of_length_eq_zero (by have := h.1; have := (h.2.2.2.1 rfl).1; omega)
    subst hx
    exact run_convert_bytes_nil w 27 5 Try.underlying27 Try.underlying5 _ _ 9 Try.underlying9
  | some a =>
    have hl : (loadCells a n).run Try.prog w = .ok (((xs.map fun x => (x.toNat : Int))).map (Value.int .u8)).toArray w := by
      have := run_loadCells_list (P := Try.prog) w a ((xs.map fun x => (x.toNat : Int)).map (Value.int .u8)) (fun j v hj => h.olds a rfl j v (by simpa [by8, Function.comp_def] using hj))
      simpa [h.1] using this
    rw [run_convert_bytes_string w 27 9 5 _ n cap Try.underlying27 Try.underlying5 Try.underlying9, run_bytesToString w a n cap _ hl, str_of]

theorem enc300 : enc 300 = [172, 2] := by decide
theorem sum_check : crcSum [49, 50, 51, 52, 53, 54, 55, 56, 57] = 3421780262 := by decide +kernel

theorem row_lit (w : World) (g : Nat) (xs : List UInt8) (fr : Nat × Nat) (h : w.heap[g]? = some (.cells (xs.map by8).toArray 5 fr)) (hm : xs.length ≤ maxLen) : Row w (some ⟨g, 0, none⟩) xs.length xs.length xs := by
  refine ⟨rfl, Nat.le_refl _, hm, fun e => (by cases e), fun a ha i hi => ?_⟩
  cases ha
  rw [Addr.add_lit, cell_of_row w g _ _ 5 fr h]
  simp [by8, List.getElem?_eq_getElem hi]

end Go.Proofs.Ytpdgoalbknopiaa.Cd
