/-
  The document's example.
-/
import Derived.Test.YtofhkfbibdkjgaaBNew
namespace Go.Proofs.Ytofhkfbibdkjgaa
open Go.RowKit
set_option linter.unusedVariables false

theorem right_213 : Right ((2 : Nat) : Int) ((1 : Nat) : Int) ((3 : Nat) : Int) 1 1 1 := by unfold Right; omega

set_option maxRecDepth 20000 in
set_option maxHeartbeats 1000000 in
theorem awake_any (w : World) : Calls Try.prog 8 #[] w fun e w' => e = .returned (.bool true) ∧ Turned (fun _ => False) w w' := by
  have hnew := bnew_any w 2 1 3 1 1 1 right_213 0 (by omega)
  unfold cfg at hnew
  go_enter Try.func8, Try.ntmps8
  go_wp2_with fail
  refine hnew.mono ?_
  rintro e w1 ⟨q, F1, rfl, b1, o1⟩
  go_wp2_with fail
  refine (heard_any b1 (by omega) 1 (by omega) (by omega)).mono ?_
  rintro e w2 ⟨rfl, F2, b2, g2⟩
  have o2 := o1.go g2
  clear b1 g2 o1 hnew
  go_wp2_with fail
  refine (tick0_due b2 (by omega)).mono ?_
  rintro e w3 ⟨rfl, F3, b3, g3⟩
  have o3 := o2.go g3
  clear b2 g3 o2
  go_wp2_with fail
  refine (tick0_due b3 (by omega)).mono ?_
  rintro e w4 ⟨rfl, F4, b4, g4⟩
  have o4 := o3.go g4
  clear b3 g4 o3
  have he := est_any b4
  rw [show estN 0 (fun j => put (fun _ => 0) 1 3 j - 1 - 1) 2 = 3 by decide] at he
  go_wp2_with fail
  refine he.mono ?_
  rintro e w5 ⟨rfl, t5⟩
  have b5 := b4.still t5
  have o5 := o4.go (Go2.still t5)
  clear b4 o4 he t5
  go_wp2_with fail
  refine (tick0_due b5 (by omega)).mono ?_
  rintro e w6 ⟨rfl, F6, b6, g6⟩
  have o6 := o5.go g6
  clear b5 g6 o5
  have he := est_any b6
  rw [show estN 0 (fun j => put (fun _ => 0) 1 3 j - 1 - 1 - 1) 2 = 1 by decide] at he
  go_wp2_with fail
  refine he.mono ?_
  rintro e w7 ⟨rfl, t7⟩
  have HT : Hid (Turned (fun _ => False) w w7) := (o6.go (Go2.still t7)).turned
  clear b6 o6 he t7
  go_wp2_with fail
  go_ret
  exact ⟨rfl, HT.out⟩

end Go.Proofs.Ytofhkfbibdkjgaa
