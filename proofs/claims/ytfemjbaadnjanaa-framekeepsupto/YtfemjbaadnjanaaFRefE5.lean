/-
  The document's bytes of a right frame.
-/
import Derived.Test.YtfemjbaadnjanaaFRefE4A
import Derived.Test.YtfemjbaadnjanaaFRefE4B
import Derived.Test.YtfemjbaadnjanaaFEnc
namespace Go.Proofs.Ytfemjbaadnjanaa
open Go.RowKit
set_option linter.unusedVariables false
set_option linter.unusedSimpArgs false

theorem refEncF_any (p : Nat → Prop) (w : World) (F : PF) (a : Fa) (hin : FIn p w F a) (hr : rightF F = true) (ho : POk F) (hl : (wire F).length ≤ 1048576) :
    Calls Try.prog 15 #[fval F a] w fun e w' => ∃ v, e = .returned v ∧ Ow w.heap.size w w' v (sealB (wire F)) := by
  obtain ⟨⟨h0, h15⟩, fi, fc, fp, hs, hsl, hi, hk⟩ := right_parts hr
  have hk' := known_cases hk
  unfold fval fcells
  rcases hk' with k | k | k | k | k | k | k
  · have := refEncF_1 p w F a hin k h0 h15 ho fi fc fp hs hsl hi hl; rw [k]; exact this
  · have := refEncF_2 p w F a hin k h0 h15 ho fi fc fp hs hsl hi hl; rw [k]; exact this
  · have := refEncF_3 p w F a hin k h0 h15 ho fi fc fp hs hsl hi hl; rw [k]; exact this
  · have := refEncF_4 p w F a hin k h0 h15 ho fi fc fp hs hsl hi hl; rw [k]; exact this
  · have := refEncF_5 p w F a hin k h0 h15 ho fi fc fp hs hsl hi hl; rw [k]; exact this
  · have := refEncF_6 p w F a hin k h0 h15 ho fi fc fp hs hsl hi hl; rw [k]; exact this
  · have := refEncF_7 p w F a hin k h0 h15 ho fi fc fp hs hsl hi hl; rw [k]; exact this
end Go.Proofs.Ytfemjbaadnjanaa
