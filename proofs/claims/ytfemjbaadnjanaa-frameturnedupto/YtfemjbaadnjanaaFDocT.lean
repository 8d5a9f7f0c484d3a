/-
  The document's Decode.
-/
import Derived.Test.YtfemjbaadnjanaaFDoc0
import Derived.Test.YtfemjbaadnjanaaFDoc1
import Derived.Test.YtfemjbaadnjanaaFDoc2
import Derived.Test.YtfemjbaadnjanaaFDoc3
import Derived.Test.YtfemjbaadnjanaaFDoc4
import Derived.Test.YtfemjbaadnjanaaFDoc5
import Derived.Test.YtfemjbaadnjanaaFDoc6
import Derived.Test.YtfemjbaadnjanaaFDoc7
namespace Go.Proofs.Ytfemjbaadnjanaa
open Go.RowKit
set_option linter.unusedVariables false
set_option linter.unusedSimpArgs false

set_option maxRecDepth 20000 in
set_option maxHeartbeats 1000000 in
theorem refDecF_any (w : World) (ao : Option Addr) (n cap : Nat) (xs : List UInt8) (h : Cd.Row w ao n cap xs) (hn : n ≤ 1048576) :
    Calls Try.prog 18 #[.slice ao n cap] w fun e w' => RefAns w' xs e ∧ Below w.heap.size w w' := by
  obtain ⟨oc, ys, ho⟩ : ∃ oc ys, Cd.opened xs = (oc, ys) := ⟨_, _, rfl⟩
  by_cases h0 : oc = 0
  · subst h0
    have hk := rInt_small (some ys) 7
    have hk' : (Cd.rInt (some ys) 7).1 = 0 ∨ (Cd.rInt (some ys) 7).1 = 1 ∨ (Cd.rInt (some ys) 7).1 = 2 ∨ (Cd.rInt (some ys) 7).1 = 3 ∨ (Cd.rInt (some ys) 7).1 = 4 ∨ (Cd.rInt (some ys) 7).1 = 5 ∨ (Cd.rInt (some ys) 7).1 = 6 ∨ (Cd.rInt (some ys) 7).1 = 7 := by
      have : (Cd.rInt (some ys) 7).1 ≤ 7 := hk
      omega
    rcases hk' with k | k | k | k | k | k | k | k
    · exact refDecF_0 w ao n cap xs h hn ys ho k
    · exact refDecF_1 w ao n cap xs h hn ys ho k
    · exact refDecF_2 w ao n cap xs h hn ys ho k
    · exact refDecF_3 w ao n cap xs h hn ys ho k
    · exact refDecF_4 w ao n cap xs h hn ys ho k
    · exact refDecF_5 w ao n cap xs h hn ys ho k
    · exact refDecF_6 w ao n cap xs h hn ys ho k
    · exact refDecF_7 w ao n cap xs h hn ys ho k
  · have hop := open18 w ao n cap xs h hn
    rw [ho] at hop
    simp only at hop
    have HER : Hid (decF 1073741824 xs = (oc, zeroF)) := by
      have := h.1
      show _ = _
      unfold decF
      rw [if_neg (by omega), ho, if_pos h0]
    have hnI : ¬ (1048576 : Int) < (n : Int) := by omega
    have hocI : ((oc : Int) != 0) = true := by simp; omega
    clear h ho h0 hn
    generalize ys.length = yn at *
    go_enter Try.func18, Try.ntmps18
    go_wp2_with fail
    refine hop.mono ?_
    rintro e w1 ⟨vo, vc, rfl, H1⟩
    have hbl := H1.bl
    have z1 := H1.rz
    unfold zero15 at z1
    have hzs := setRow_heap w1 w.heap.size _ #[.int .u8 0, .int .i64 0, .int .u64 0, .int .i64 0, .int .u16 0, .int .u64 0, .int .i64 0, .int .u64 0, .int .i64 0, .slice none 0 0, .int .u64 0, .slice none 0 0, .slice none 0 0, .int .u64 0, .int .u64 0] 30 (0, 0) z1
    clear hop H1
    go_wp2_with (first | (refine wpList_store_row rfl 30 (.tmp 2) (.tmp 21) rfl w.heap.size #[.int .u8 0, .int .i64 0, .int .u64 0, .int .i64 0, .int .u16 0, .int .u64 0, .int .i64 0, .int .u64 0, .int .i64 0, .slice none 0 0, .int .u64 0, .slice none 0 0, .slice none 0 0, .int .u64 0, .int .u64 0] rfl rfl 30 _ z1 info30 rfl (by simp [Value.oneCell']) ?_))
    refine bodyPost_ret (results_cell2 (g := w.heap.size) Try.results18 rfl rfl (load30 hzs rfl)) rfl ?_
    exact ⟨refAns_zero HER.out, below_setRow hbl (Nat.le_refl _) _⟩
end Go.Proofs.Ytfemjbaadnjanaa
