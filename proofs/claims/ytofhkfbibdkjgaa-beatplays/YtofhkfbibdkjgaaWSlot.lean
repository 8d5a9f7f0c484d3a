/-
  The wheel's call slot: where the slot of a tick lies.
-/
import Derived.Test.YtofhkfbibdkjgaaWRep
import Derived.BigQuiet
import Derived.BigRegion
namespace Go.Proofs.Ytofhkfbibdkjgaa
open Go.RowKit
set_option linter.unusedVariables false

theorem same_back {P : Program} {f : Nat} {args : Array Value} {w : World} {r : Value} (h : Calls P f args w fun e w' => e = .returned r ∧ w = w') : Calls P f args w fun e w' => e = .returned r ∧ w' = w :=
  h.mono fun _ _ x => ⟨x.1, x.2.symm⟩

def slotOf (now due : Nat) : Nat := 16 * lvl now due + dig due (lvl now due)
theorem slotOf_lt (now due : Nat) : slotOf now due < 256 := by
  have := lvl_lt now due; have := dig_lt due (lvl now due); unfold slotOf; omega

set_option maxRecDepth 10000 in
set_option maxHeartbeats 1000000 in
theorem slot_any (w : World) (p now due : Nat) (hc : w.cell? ⟨p, 0, none⟩ = some (.int .u64 (now : Nat))) (hn : now < 18446744073709551616) (hd : due < 18446744073709551616) :
    Calls Try.prog 31 #[.pointer (some ⟨p, 0, none⟩), .int .u64 (due : Nat)] w fun e w' => e = .returned (.pointer (some ⟨p, 3 + slotOf now due, none⟩)) ∧ ∃ q, w' = w.drewN q := by
  have hl := lvl_lt now due
  have hdl := dig_lt due (lvl now due)
  have HL := level_any w now due hn hd
  have HD := fun w => same_back (digit_any w due (lvl now due) hd (by omega))
  have HS : Hid (slotOf now due = 16 * lvl now due + dig due (lvl now due)) := rfl
  generalize lvl now due = l at *
  generalize dig due l = d at *
  go_enter Try.func31, Try.ntmps31
  go_wp2_with (first | (go_at_call 36; refine HL.mono ?_; rintro e w' ⟨rfl, rfl⟩))
  go_quiet (first | (go_at_call 32; refine Calls.quiet_of_same (HD _)))
  go_wp2
  go_ret
  refine ⟨?_, nq, rfl⟩
  show Ending.returned (Value.pointer (some ⟨p, 3 + l * 16 + d, none⟩)) = _
  rw [HS.out, show 3 + l * 16 + d = 3 + (16 * l + d) by omega]

end Go.Proofs.Ytofhkfbibdkjgaa
