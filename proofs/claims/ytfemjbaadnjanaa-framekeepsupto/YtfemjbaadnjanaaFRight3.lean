/-
  The frame without what its kind names; is all of a frame zero (package frame).
-/
import Derived.Test.YtfemjbaadnjanaaFUnnA
import Derived.Test.YtfemjbaadnjanaaFUnnB
import Derived.Test.YtfemjbaadnjanaaFUnnC
namespace Go.Proofs.Ytfemjbaadnjanaa
open Go.RowKit
set_option linter.unusedVariables false
set_option linter.unusedSimpArgs false

/-- Where the lists lie of the frame without what its kind names. -/
def una (k : Nat) (a : Fa) : Fa :=
  if k = 3 ∨ k = 5 then { a with so := none, sc := 0 }
  else if k = 6 then { a with mo := none, mc := 0 }
  else if k = 7 then { a with io := none, ic := 0 }
  else if k = 1 ∨ k = 2 ∨ k = 4 then a
  else Fa.none

theorem unnamed_any (w : World) (F : PF) (a : Fa) :
    Calls Try.prog 47 #[fval F a] w fun e w' => e = .returned (.tuple #[fval (unn F) (una F.kind a), .bool (knownB F)]) ∧ Up w w' := by
  obtain ⟨kind, frm, idN, idP, set, curN, curP, promN, promP, st, base, ms, it, ack, safe⟩ := F
  obtain ⟨so, sc, mo, mc, io, ic⟩ := a
  by_cases h : 1 ≤ kind ∧ kind ≤ 7
  · have hk : kind = 1 ∨ kind = 2 ∨ kind = 3 ∨ kind = 4 ∨ kind = 5 ∨ kind = 6 ∨ kind = 7 := by omega
    clear h
    rcases hk with rfl | rfl | rfl | rfl | rfl | rfl | rfl
    · exact unnamed_1 w frm idN idP set curN curP promN promP so st.length sc base mo ms.length mc io it.length ic ack safe
    · exact unnamed_2 w frm idN idP set curN curP promN promP so st.length sc base mo ms.length mc io it.length ic ack safe
    · exact unnamed_3 w frm idN idP set curN curP promN promP so st.length sc base mo ms.length mc io it.length ic ack safe
    · exact unnamed_4 w frm idN idP set curN curP promN promP so st.length sc base mo ms.length mc io it.length ic ack safe
    · exact unnamed_5 w frm idN idP set curN curP promN promP so st.length sc base mo ms.length mc io it.length ic ack safe
    · exact unnamed_6 w frm idN idP set curN curP promN promP so st.length sc base mo ms.length mc io it.length ic ack safe
    · exact unnamed_7 w frm idN idP set curN curP promN promP so st.length sc base mo ms.length mc io it.length ic ack safe
  · have h1 : ¬ kind = 1 := by omega
    have h2 : ¬ kind = 2 := by omega
    have h3 : ¬ kind = 3 := by omega
    have h4 : ¬ kind = 4 := by omega
    have h5 : ¬ kind = 5 := by omega
    have h6 : ¬ kind = 6 := by omega
    have h7 : ¬ kind = 7 := by omega
    have e1 : unn ⟨kind, frm, idN, idP, set, curN, curP, promN, promP, st, base, ms, it, ack, safe⟩ = zeroF := by simp [unn, h1, h2, h3, h4, h5, h6, h7]
    have e2 : una kind ⟨so, sc, mo, mc, io, ic⟩ = Fa.none := by simp [una, h1, h2, h3, h4, h5, h6, h7]
    have e3 : knownB ⟨kind, frm, idN, idP, set, curN, curP, promN, promP, st, base, ms, it, ack, safe⟩ = false := by
      unfold knownB
      dsimp only
      by_cases hh : 1 ≤ kind
      · rw [decide_eq_true hh, decide_eq_false (by omega)]; rfl
      · rw [decide_eq_false hh]; rfl
    rw [e1, e2, e3]
    exact unnamed_0 w kind h frm idN idP set curN curP promN promP so st.length sc base mo ms.length mc io it.length ic ack safe

theorem vid24_equal (n1 : Nat) (p1 : Int) (w : World) : Sem.run Try.prog (Op.equalIn 10000 24 (.agg #[.int .u64 (n1 : Nat), .int .i64 p1]) (.agg #[.int .u64 0, .int .i64 0])) w = .ok (decide (n1 = 0 ∧ p1 = 0)) w := vid_equal n1 p1 0 0 w

theorem zero_dec (n : Nat) : ((n : Int) == 0) = decide (n = 0) := by
  by_cases h : n = 0
  · subst h; rfl
  · rw [decide_eq_false h]; simp; omega
theorem zero_decI (n : Int) : (n == 0) = decide (n = 0) := by
  by_cases h : n = 0
  · subst h; rfl
  · rw [decide_eq_false h]; simp; omega

set_option maxRecDepth 20000 in
set_option maxHeartbeats 2000000 in
theorem isZero_any (w : World) (F : PF) (a : Fa) : Calls Try.prog 48 #[fval F a] w fun e w' => e = .returned (.bool (zeroB F)) ∧ Up w w' := by
  obtain ⟨kind, frm, idN, idP, set, curN, curP, promN, promP, st, base, ms, it, ack, safe⟩ := F
  obtain ⟨so, sc, mo, mc, io, ic⟩ := a
  unfold fval fcells zeroB
  simp only
  have q1 := fun W => vid24_equal idN idP W
  have q2 := fun W => vid24_equal curN curP W
  have q3 := fun W => vid24_equal promN promP W
  have e0 := zero_dec kind
  have e1 := zero_decI frm
  have e2 := zero_dec set
  have e3 := zero_dec base
  have e4 := zero_dec ack
  have e5 := zero_dec safe
  have e6 := zero_dec st.length
  have e7 := zero_dec ms.length
  have e8 := zero_dec it.length
  generalize decide (idN = 0 ∧ idP = 0) = v1 at *
  generalize decide (curN = 0 ∧ curP = 0) = v2 at *
  generalize decide (promN = 0 ∧ promP = 0) = v3 at *
  generalize decide (kind = 0) = b0 at *
  generalize decide (frm = 0) = b1 at *
  generalize decide (set = 0) = b2 at *
  generalize decide (base = 0) = b3 at *
  generalize decide (ack = 0) = b4 at *
  generalize decide (safe = 0) = b5 at *
  generalize decide (st.length = 0) = b6 at *
  generalize decide (ms.length = 0) = b7 at *
  generalize decide (it.length = 0) = b8 at *
  generalize st.length = sn at *
  generalize ms.length = mn at *
  generalize it.length = inn at *
  go_enter Try.func48, Try.ntmps48
  go_wp2
  all_goals go_ret
  all_goals refine ⟨?_, ((Up.refl _).alloc _).alloc _⟩
  all_goals clear q1 q2 q3 e0 e1 e2 e3 e4 e5 e6 e7 e8
  all_goals simp_all
end Go.Proofs.Ytfemjbaadnjanaa
