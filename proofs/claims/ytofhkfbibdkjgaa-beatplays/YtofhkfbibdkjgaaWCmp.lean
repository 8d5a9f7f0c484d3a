/-
  The closure by which the wheel's call Tick sorts: of two timers which was armed first.
-/
import Derived.Test.YtofhkfbibdkjgaaWReach
import Derived.Lib.Small
namespace Go.Proofs.Ytofhkfbibdkjgaa
open Go.RowKit
set_option linter.unusedVariables false

theorem isnan_any (w : World) (x : Int) : Calls Try.prog 35 #[.int .u64 x] w fun e w' => e = .returned (.bool false) ∧ w = w' := by
  go_enter Try.func35, Try.ntmps35
  go_wp2
  go_ret
  exact ⟨by simp, rfl⟩

set_option maxHeartbeats 1000000 in
theorem compare_any (w : World) (x y : Int) : Calls Try.prog 30 #[.int .u64 x, .int .u64 y] w fun e w' => e = .returned (.int .i64 (Lib.compareInt x y)) ∧ w = w' := by
  go_enter Try.func30, Try.ntmps30
  go_wp2_with (first | (go_at_call 35; refine (isnan_any _ _).mono ?_; rintro e w' ⟨rfl, rfl⟩))
  all_goals (go_ret; refine ⟨?_, rfl⟩; unfold Lib.compareInt; (repeat' split) <;> first | rfl | (exfalso; omega))

def armedOf (T : Int → Option Tm) (i : Int) : Nat := ((T i).getD ⟨0, 0, 0⟩).armed

set_option maxRecDepth 10000 in
set_option maxHeartbeats 1000000 in
theorem closure_any (W : World) (p m B n : Nat) (T : Int → Option Tm) (hB : W.cell? ⟨B, 0, none⟩ = some (.pointer (some ⟨p, 0, none⟩))) (h2 : W.cell? ⟨p, 2, none⟩ = some (.map (some m))) (hm : MapIs W m n T)
    (x y : Int) (hx : In x) (hy : In y) :
    Calls Try.prog 29 #[.int .i64 x, .int .i64 y, .pointer (some ⟨B, 0, none⟩)] W fun e w' => e = .returned (.int .i64 (Lib.compareInt (armedOf T x : Nat) (armedOf T y : Nat))) ∧ ∃ q, w' = W.drewN q := by
  have hl : ∀ q, (Instr.lookup 56 (.map (some m)) (.int .i64 x) false).run Try.prog (W.drewN q) = .ok ((T x).getD ⟨0, 0, 0⟩).val (W.drewN q) := fun q => MapIs.look (w := W.drewN q) (hm.of_block rfl) hx
  have hr : ∀ q, (Instr.lookup 56 (.map (some m)) (.int .i64 y) false).run Try.prog (W.drewN q) = .ok ((T y).getD ⟨0, 0, 0⟩).val (W.drewN q) := fun q => MapIs.look (w := W.drewN q) (hm.of_block rfl) hy
  unfold armedOf
  generalize (T x).getD ⟨0, 0, 0⟩ = tx at *
  generalize (T y).getD ⟨0, 0, 0⟩ = ty at *
  obtain ⟨a1, a2, a3⟩ := tx
  obtain ⟨b1, b2, b3⟩ := ty
  simp only [Tm.val] at *
  have hf1 : ∀ w : World, (Instr.field 62 (.agg #[.int .u64 (a1 : Nat), .int .u64 (a2 : Nat), .int .i64 (a3 : Nat)]) 1).run Try.prog w = .ok (.int .u64 (a2 : Nat)) w := fun _ => by kernel_rfl
  have hf2 : ∀ w : World, (Instr.field 62 (.agg #[.int .u64 (b1 : Nat), .int .u64 (b2 : Nat), .int .i64 (b3 : Nat)]) 1).run Try.prog w = .ok (.int .u64 (b2 : Nat)) w := fun _ => by kernel_rfl
  have HC := fun w => same_back (compare_any w (a2 : Nat) (b2 : Nat))
  generalize Lib.compareInt (a2 : Nat) (b2 : Nat) = r at *
  go_enter Try.func29, Try.ntmps29
  go_wp2
  go_quiet (first | (go_at_call 30; refine Calls.quiet_of_same (HC _)))
  go_wp2
  go_ret
  exact ⟨rfl, nq, rfl⟩

end Go.Proofs.Ytofhkfbibdkjgaa
