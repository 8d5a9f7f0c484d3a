/-
  Which frames are right, by the document's answer: any kind.
-/
import Derived.Test.YtfemjbaadnjanaaFRefGA
import Derived.Test.YtfemjbaadnjanaaFRefGB
import Derived.Test.YtfemjbaadnjanaaFRefGC
namespace Go.Proofs.Ytfemjbaadnjanaa
open Go.RowKit
set_option linter.unusedVariables false
set_option linter.unusedSimpArgs false

theorem right_unknown {F : PF} (h : knownB F = false) : rightF F = false := by unfold rightF; rw [h]; simp

set_option maxRecDepth 20000 in
set_option maxHeartbeats 1000000 in
theorem refForm7_0 (w : World) (F : PF) (a : Fa) (h : knownB F = false) (hk : F.kind < 256) :
    Calls Try.prog 13 #[fval F a] w fun e w' => e = .returned (.bool (rightF F)) ∧ Up w w' := by
  rw [right_unknown h]
  have hb0 : Bf w.heap.size F a (w.alloc (.cells (fcells F a) 30)) := bf_new w F a 30
  unfold fval fcells
  unfold fcells at hb0
  unfold knownB at h
  obtain ⟨k, hkk⟩ : ∃ k, F.kind = k := ⟨_, rfl⟩
  rw [hkk] at hk h
  have hc0 := hb0.c0
  rw [hkk] at hc0 ⊢
  obtain ⟨sn, hsn⟩ : ∃ sn, F.st.length = sn := ⟨_, rfl⟩
  obtain ⟨mn, hmn⟩ : ∃ mn, F.ms.length = mn := ⟨_, rfl⟩
  obtain ⟨inn, hinn⟩ : ∃ inn, F.it.length = inn := ⟨_, rfl⟩
  rw [hsn, hmn, hinn] at hc0 ⊢
  obtain ⟨w0, hw0⟩ : ∃ w0, w.alloc (.cells #[.int .u8 (k : Nat), .int .i64 F.frm, .int .u64 (F.idN : Nat), .int .i64 F.idP, .int .u16 (F.set : Nat), .int .u64 (F.curN : Nat), .int .i64 F.curP, .int .u64 (F.promN : Nat), .int .i64 F.promP, .slice a.so sn a.sc, .int .u64 (F.base : Nat), .slice a.mo mn a.mc, .slice a.io inn a.ic, .int .u64 (F.ack : Nat), .int .u64 (F.safe : Nat)] 30) = w0 := ⟨_, rfl⟩
  have hu0 : Up w w0 := by rw [← hw0]; exact (Up.refl _).alloc _
  rw [hw0] at hc0
  have hslen : w.heap.size < w0.heap.size := by rw [← hw0]; simp
  clear hb0 hkk hsn hmn hinn
  by_cases h1 : (k : Int) < 1
  · clear h
    go_enter Try.func13, Try.ntmps13
    go_wp2
    go_ret
    exact ⟨rfl, by first | exact hu0.alloc _ | (rw [← hw0] at hu0; exact hu0.alloc _)⟩
  · have h7 : (7 : Int) < (k : Int) := by
      have : ¬ (1 ≤ k ∧ k ≤ 7) := by
        rintro ⟨a1, a2⟩
        rw [decide_eq_true a1, decide_eq_true a2] at h
        simp at h
      omega
    clear h
    go_enter Try.func13, Try.ntmps13
    go_wp2
    go_ret
    exact ⟨rfl, by first | exact hu0.alloc _ | (rw [← hw0] at hu0; exact hu0.alloc _)⟩

theorem refForm7_any (p : Nat → Prop) (w : World) (F : PF) (a : Fa) (h : FIn p w F a) (hfr : In64 F.frm) (hk : F.kind < 256) :
    Calls Try.prog 13 #[fval F a] w fun e w' => e = .returned (.bool (rightF F)) ∧ Up w w' := by
  cases hkb : knownB F with
  | false => exact refForm7_0 w F a hkb hk
  | true =>
    unfold fval fcells
    rcases known_cases hkb with e | e | e | e | e | e | e
    · rw [e]; exact refForm7_1 p w F a h e hfr
    · rw [e]; exact refForm7_2 p w F a h e hfr
    · rw [e]; exact refForm7_3 p w F a h e hfr
    · rw [e]; exact refForm7_4 p w F a h e hfr
    · rw [e]; exact refForm7_5 p w F a h e hfr
    · rw [e]; exact refForm7_6 p w F a h e hfr
    · rw [e]; exact refForm7_7 p w F a h e hfr

end Go.Proofs.Ytfemjbaadnjanaa
