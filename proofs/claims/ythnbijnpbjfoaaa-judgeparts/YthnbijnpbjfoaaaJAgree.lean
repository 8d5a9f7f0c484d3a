/-
  judge's agree: one set, one order, all that was safe, and the same messages where nodes go together.
-/
import Derived.Test.YthnbijnpbjfoaaaJSafe
import Derived.Test.YthnbijnpbjfoaaaJTog
namespace Go.Proofs.Ythnbijnpbjfoaaa
open Go.RowKit Go.Sort
set_option linter.unusedVariables false

/-- The stays of one view agree. -/
def AgreeOk (ys : List Sy) : Prop := oneSetD ys = true ∧ OrdOk ys ∧ SafeOk ys ∧ Tog ys

set_option maxRecDepth 10000 in
set_option maxHeartbeats 4000000 in
theorem agree_any (w : World) (ao : Option Addr) (n cap : Nat) (ys : List Sy) (h : Gr w ao n ys) (hno : ∀ y ∈ ys, y.node < 16 ∧ y.s < 65536 ∧ y.safe ≤ 9000) (hn0 : 0 < n) (hn9 : n ≤ 9000) (hc : n ≤ cap) :
    Calls Try.prog 27 #[.slice ao n cap] w fun e w' => BoolPostB w (AgreeOk ys) e w' := by
  have HI : Hid (Gr w ao n ys ∧ ∀ y ∈ ys, y.node < 16 ∧ y.s < 65536 ∧ y.safe ≤ 9000) := ⟨h, hno⟩
  have h43 := oneSet_any w ao n cap ys h
  clear h hno
  obtain ⟨o1, ho1⟩ : ∃ o1, oneSetD ys = o1 := ⟨_, rfl⟩
  have H1 : Hid (oneSetD ys = o1) := ho1
  rw [ho1] at h43
  clear ho1
  go_enter Try.func27, Try.ntmps27
  go_wp2_with fail
  refine h43.mono ?_
  rintro e w1 ⟨rfl, u1⟩
  have HU : Hid (RowKit.Below w.heap.size w w1) := u1.bl
  clear h43 u1
  cases o1 with
  | false =>
    go_wp2
    go_ret
    exact ⟨⟨false, rfl, by unfold AgreeOk; rw [H1.out]; simp⟩, HU.out⟩
  | true =>
    have h44 := order_any w1 ao n cap ys (HI.out.1.up HU.out) (fun y hy => (HI.out.2 y hy).1) hn9
    go_wp2_with fail
    refine h44.mono ?_
    rintro e w2 ⟨⟨o2, rfl, hp2⟩, u2⟩
    have HU2 : Hid (RowKit.Below w.heap.size w w2 ∧ (o2 = true ↔ OrdOk ys)) := ⟨bl_step HU.out u2, hp2⟩
    clear h44 u2 hp2
    cases o2 with
    | false =>
      go_wp2
      go_ret
      exact ⟨⟨false, rfl, by unfold AgreeOk; rw [← HU2.out.2]; simp⟩, HU2.out.1⟩
    | true =>
      have h45 := safe_any w2 ao n cap ys (HI.out.1.up HU2.out.1) HI.out.2 hn0
      go_wp2_with fail
      refine h45.mono ?_
      rintro e w3 ⟨⟨o3, rfl, hp3⟩, u3⟩
      have HU3 : Hid (RowKit.Below w.heap.size w w3 ∧ (o3 = true ↔ SafeOk ys)) := ⟨bl_step HU2.out.1 u3, hp3⟩
      clear h45 u3 hp3
      cases o3 with
      | false =>
        go_wp2
        go_ret
        exact ⟨⟨false, rfl, by unfold AgreeOk; rw [← HU3.out.2]; simp⟩, HU3.out.1⟩
      | true =>
        have h46 := tog_any w3 ao n cap ys (HI.out.1.up HU3.out.1) hc
        go_wp2_with fail
        refine h46.mono ?_
        rintro e w4 ⟨⟨o4, rfl, hp4⟩, u4⟩
        have HU4 : Hid (RowKit.Below w.heap.size w w4 ∧ (o4 = true ↔ Tog ys)) := ⟨bl_step HU3.out.1 u4.bl, hp4⟩
        clear h46 u4 hp4
        go_wp2
        go_ret
        refine ⟨⟨o4, rfl, ?_⟩, HU4.out.1⟩
        unfold AgreeOk
        rw [H1.out, HU4.out.2]
        have a := HU2.out.2.1 (by simp)
        have b := HU3.out.2.1 (by simp)
        exact ⟨fun c => ⟨rfl, a, b, c⟩, fun c => c.2.2.2⟩
end Go.Proofs.Ythnbijnpbjfoaaa
