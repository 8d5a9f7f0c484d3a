/-
  A right configuration of some numbers.
-/
import Derived.Test.YtofhkfbibdkjgaaBForm
import Derived.Laws.Tables
namespace Go.Proofs.Ytofhkfbibdkjgaa
open Go.RowKit
set_option linter.unusedVariables false
set_option linter.unusedSimpArgs false

theorem results_cell {P : Program} {fn : Func} {t : Tmp} {ty : TypeId} (h : fn.results = #[.cell t ty]) {tmps : Array Value} {w : World} {g : Nat} {cs : Array Value} (ht : tmps.getD t undef = .pointer (some ⟨g, 0, none⟩)) (hl : (loadVar ty ⟨g, 0, none⟩).run P w = .ok (.agg cs) w) :
    (results fn tmps).run P w = .ok (.agg cs) w := by
  rw [Array.getD_eq_getD_getElem?] at ht
  simp [results, h, ht, asAddr, hl]
theorem info23s : (Try.prog.info? 23).map (·.size) = some 6 := by kernel_rfl
theorem load23 {w : World} {g : Nat} {cs : Array Value} {t : TypeId} {fr : Nat × Nat} (hg : w.heap[g]? = some (.cells cs t fr)) (hs : cs.size = 6) : (loadVar 23 ⟨g, 0, none⟩).run Try.prog w = .ok (.agg cs) w :=
  run_loadVar_row w g t 23 cs fr _ hg Try.underlying23 rfl (by rw [info23s, hs])

set_option maxRecDepth 10000 in
theorem config_any (w : World) (n v m : Nat) (hn : n < 256) (hv : v < 256) (hm : m < 256) : Calls Try.prog 13 #[.int .u8 (n : Nat), .int .u8 (v : Nat), .int .u8 (m : Nat)] w fun e w' =>
    e = .returned (cfg ((1 + n % 16 : Nat) : Int) ((1 + v % 6 : Nat) : Int) ((2 + v % 6 + m % 12 : Nat) : Int) 1 1 1) ∧ Turned (fun _ => False) w w' := by
  have HE : Hid (Value.agg #[.int .i64 (1 + (n : Int) % 16), .int .i64 (1 + (v : Int) % 6), .int .i64 (1 + (v : Int) % 6 + 1 + (m : Int) % 12), .int .i64 1, .int .i64 1, .int .i64 1] = cfg ((1 + n % 16 : Nat) : Int) ((1 + v % 6 : Nat) : Int) ((2 + v % 6 + m % 12 : Nat) : Int) 1 1 1) := by
    unfold Hid cfg
    rw [show (1 + (n : Int) % 16) = ((1 + n % 16 : Nat) : Int) by omega, show 1 + (v : Int) % 6 + 1 + (m : Int) % 12 = ((2 + v % 6 + m % 12 : Nat) : Int) by omega, show (1 + (v : Int) % 6) = ((1 + v % 6 : Nat) : Int) by omega]
  go_enter Try.func13, Try.ntmps13
  go_wp2
  refine bodyPost_ret (results_cell (g := w.heap.size) Try.results13 rfl (load23 (heap_alloc_new _ _) rfl)) rfl ?_
  exact ⟨by rw [HE.out], (Turned.refl _ w).alloc _⟩

end Go.Proofs.Ytofhkfbibdkjgaa
