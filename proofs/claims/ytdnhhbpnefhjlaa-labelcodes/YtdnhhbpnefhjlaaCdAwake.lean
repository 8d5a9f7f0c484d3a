/-
  The document's examples hold: 'awake' of the statements' package answers true, and leaves what was there as it was.
-/
import Derived.Test.YtdnhhbpnefhjlaaCdRead2
import Derived.Lib.SlBytesConst
import Derived.Laws.BytesArg
namespace Go.Proofs.Ytdnhhbpnefhjlaa.Cd
open Go.RowKit
set_option linter.unusedVariables false

def str (xs : List UInt8) : ByteArray := ⟨xs.toArray⟩
theorem str_of (xs : List UInt8) : (xs.map fun x => (x.toNat : Int)).foldl (fun r n => r.push (UInt8.ofNat n.toNat)) ByteArray.empty = str xs := by
  rw [foldl_push_bytes]
  simp [str, ByteArray.empty, ByteArray.emptyWithCapacity, Function.comp_def]
  try rfl
theorem conv_row {w : World} {ao : Option Addr} {n cap : Nat} {xs : List UInt8} (h : Row w ao n cap xs) : (convert 38 9 (.slice ao n cap)).run Try.prog w = .ok (.string (str xs)) w := by
  cases ao with
  | none =>
    have hx : xs = [] := List.eq_nil_of_length_eq_zero (by have := h.1; have := (h.2.2.2.1 rfl).1; omega)
    subst hx
    exact run_convert_bytes_nil w 38 5 Try.underlying38 Try.underlying5 _ _ 9 Try.underlying9
  | some a =>
    have hl : (loadCells a n).run Try.prog w = .ok (((xs.map fun x => (x.toNat : Int))).map (Value.int .u8)).toArray w := by
      have := run_loadCells_list (P := Try.prog) w a ((xs.map fun x => (x.toNat : Int)).map (Value.int .u8)) (fun j v hj => h.olds a rfl j v (by simpa [by8, Function.comp_def] using hj))
      simpa [h.1] using this
    rw [run_convert_bytes_string w 38 9 5 _ n cap Try.underlying38 Try.underlying5 Try.underlying9, run_bytesToString w a n cap _ hl, str_of]

end Go.Proofs.Ytdnhhbpnefhjlaa.Cd
