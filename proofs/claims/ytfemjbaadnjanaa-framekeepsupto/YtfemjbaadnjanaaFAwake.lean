/-
  The document's example holds.
-/
import Derived.Test.YtfemjbaadnjanaaFEnc
import Derived.Test.YtfemjbaadnjanaaCdAll
namespace Go.Proofs.Ytfemjbaadnjanaa
open Go.RowKit
set_option linter.unusedVariables false
set_option linter.unusedSimpArgs false

def beat1 : PF := { zeroF with kind := 1, frm := 1 }
theorem beat1_right : rightF beat1 = true := by decide
theorem beat1_wire : wire beat1 = [1, 1, 0, 0, 0, 0] := by decide
theorem beat1_ok : POk beat1 := by
  refine ⟨by decide, ⟨by decide, by decide⟩, by decide, ⟨by decide, by decide⟩, by decide, by decide, ⟨by decide, by decide⟩, by decide, ⟨by decide, by decide⟩, fun s hs => absurd hs List.not_mem_nil, by decide, by decide, by decide⟩
theorem beat1_in (p : Nat → Prop) (w : World) : FIn p w beat1 Fa.none := ⟨SsX.nil _ _, MsX.nil _ _, ItsX.nil _ _⟩

set_option maxRecDepth 20000 in
set_option maxHeartbeats 1000000 in
theorem awake_any (w : World) : Calls Try.prog 11 #[] w fun e w' => e = .returned (.bool true) ∧ Below w.heap.size w w' := by
  have henc : Calls Try.prog 12 #[.agg #[.int .u8 1, .int .i64 1, .int .u64 0, .int .i64 0, .int .u16 0, .int .u64 0, .int .i64 0, .int .u64 0, .int .i64 0, .slice none 0 0, .int .u64 0, .slice none 0 0, .slice none 0 0, .int .u64 0, .int .u64 0]] w fun e w' => EncAns w w' beat1 e ∧ Below w.heap.size w w' :=
    encodeF_any (fun _ => True) w beat1 Fa.none (beat1_in _ _) beat1_ok
  go_enter Try.func11, Try.ntmps11
  go_wp2_with fail
  refine henc.mono ?_
  rintro e w1 ⟨hans, hb⟩
  unfold EncAns at hans
  rw [beat1_right, if_neg (by simp), beat1_wire, if_neg (by simp)] at hans
  obtain ⟨v, rfl, hown⟩ := hans
  obtain ⟨ao, cap, rfl, hrow, _⟩ := Cd.owns_row hown
  have h10 : [(1 : UInt8), 1, 0, 0, 0, 0].length + 4 = 10 := rfl
  rw [h10] at hrow ⊢
  have hr6 := Cd.Row.takeCap hrow 6 (by omega)
  have e6 : (sealB [1, 1, 0, 0, 0, 0]).take 6 = [1, 1, 0, 0, 0, 0] := rfl
  rw [e6] at hr6
  have hcv := Cd.conv_row hr6
  have hcm := hrow.2.1
  have hcx := hrow.2.2.1
  unfold maxLen at hcx
  clear henc hown hrow hr6 e6 h10
  go_wp2
  go_ret
  refine ⟨ret_bool ?_, hb⟩
  rw [show (Cd.str [1, 1, 0, 0, 0, 0]).toList = [1, 1, 0, 0, 0, 0] from ByteArray.toList_mk _]
  rfl
end Go.Proofs.Ytfemjbaadnjanaa
