/-
  Which frames are right, by the document's answer.
-/
import Derived.Test.YtfemjbaadnjanaaFRefF
import Derived.Test.YtfemjbaadnjanaaFRight2
namespace Go.Proofs.Ytfemjbaadnjanaa
open Go.RowKit
set_option linter.unusedVariables false
set_option linter.unusedSimpArgs false

theorem vidz_equal (n1 : Nat) (p1 : Int) (w : World) : Sem.run Try.prog (Op.equalIn 10000 24 (.agg #[.int .u64 (n1 : Nat), .int .i64 p1]) (.agg #[.int .u64 0, .int .i64 0])) w = .ok (decide (n1 = 0 ∧ p1 = 0)) w := vid_equal n1 p1 0 0 w
theorem nz_dec (n : Nat) : ((n : Int) != 0) = !decide (n = 0) := by
  by_cases h : n = 0
  · subst h; rfl
  · rw [decide_eq_false h]; simp; omega
theorem z_dec (n : Nat) : ((n : Int) == 0) = decide (n = 0) := by
  by_cases h : n = 0
  · subst h; rfl
  · rw [decide_eq_false h]; simp; omega
theorem one_dec (n : Nat) : ((n : Int) == 1) = decide (n = 1) := by
  by_cases h : n = 1
  · subst h; rfl
  · rw [decide_eq_false h]; simp; omega
theorem pos_dec (n : Nat) : decide ((0 : Int) < (n : Int)) = !decide (n = 0) := by
  by_cases h : n = 0
  · subst h; rfl
  · rw [decide_eq_false h, decide_eq_true (by omega)]; rfl
theorem most_dec (n : Nat) : decide ((n : Int) ≤ 4096) = decide (n ≤ 4096) := by
  by_cases h : n ≤ 4096
  · rw [decide_eq_true h, decide_eq_true (by omega)]
  · rw [decide_eq_false h, decide_eq_false (by omega)]

/-- A frame's checks, told apart. -/
structure Ck where
  (fr vI vC vP bS sN bB bA bSf mN iN nI fI fC fP st1 fin its ml : Bool)
def ckOf (F : PF) : Ck := ⟨okF F.frm, decide (F.idN = 0 ∧ F.idP = 0), decide (F.curN = 0 ∧ F.curP = 0), decide (F.promN = 0 ∧ F.promP = 0), decide (F.set = 0), decide (F.st.length = 0), decide (F.base = 0), decide (F.ack = 0), decide (F.safe = 0), decide (F.ms.length = 0), decide (F.it.length = 0), decide (F.idN = 0), formV F.idN F.idP, formV F.curN F.curP, formV F.promN F.promP, decide (F.st.length = 1), decide (F.st.length ≤ 4096) && F.st.all stOk, itsB F.it, decide (F.ms.length ≤ 4096)⟩
theorem right_1 (F : PF) (h : F.kind = 1) (c : Ck) (hc : ckOf F = c) : rightF F = (c.fr && c.vI && c.bS && c.sN && c.bB && c.bA && c.mN && c.iN && c.bSf && c.fC && c.fP && c.fin && c.its && c.ml) := by
  have hfi : c.vI = true → c.fI = true := by
    subst hc
    intro h
    simp only [ckOf, decide_eq_true_eq] at h ⊢
    rw [h.1, h.2]
    rfl
  have e : rightF F = (c.fr && (c.fI && c.fC && c.fP) && (c.fin && c.ml && c.its) && (c.bS && c.bB && c.bA && c.bSf && c.vI && c.sN && c.mN && c.iN)) := by
    subst hc
    unfold rightF numsB listsB knownB zeroB unn ckOf
    simp only [h, decide_true, Bool.true_or, Bool.true_and, Nat.reduceEqDiff, decide_false, Bool.not_false, Bool.not_true, Bool.false_or, Nat.reduceLeDiff, Nat.le_refl, and_self, if_true, if_false, List.length_nil, Bool.and_true]
    ac_rfl
  rw [e]
  obtain ⟨fr, vI, vC, vP, bS, sN, bB, bA, bSf, mN, iN, nI, fI, fC, fP, st1, fin, its, ml⟩ := c
  simp only at hfi ⊢
  cases vI
  · simp
  · rw [hfi rfl, Bool.true_and]
    simp only [Bool.and_true]
    ac_rfl
theorem right_2 (F : PF) (h : F.kind = 2) (c : Ck) (hc : ckOf F = c) : rightF F = (c.fr && !c.nI && c.fI && (c.vC && c.vP && c.sN && c.bB && c.bA && c.mN && c.iN && c.bSf) && c.fC && c.fP && c.fin && c.its && c.ml) := by
  subst hc
  unfold rightF numsB listsB knownB zeroB unn ckOf
  simp only [h, decide_true, Bool.true_or, Bool.true_and, Nat.reduceEqDiff, decide_false, Bool.not_false, Bool.not_true, Bool.false_or, Nat.reduceLeDiff, Nat.le_refl, and_self, if_true, if_false, List.length_nil, Bool.and_true]
  ac_rfl
theorem right_3 (F : PF) (h : F.kind = 3) (c : Ck) (hc : ckOf F = c) : rightF F = (c.fr && !c.nI && c.fI && (c.bS && c.vC && c.vP && c.bB && c.bA && c.mN && c.iN && c.bSf && c.st1) && c.fC && c.fP && c.fin && c.its && c.ml) := by
  subst hc
  unfold rightF numsB listsB knownB zeroB unn ckOf
  simp only [h, decide_true, Bool.true_or, Bool.true_and, Nat.reduceEqDiff, decide_false, Bool.not_false, Bool.not_true, Bool.false_or, Nat.reduceLeDiff, Nat.le_refl, and_self, if_true, if_false, List.length_nil, Bool.and_true]
  ac_rfl
theorem right_4 (F : PF) (h : F.kind = 4) (c : Ck) (hc : ckOf F = c) : rightF F = (c.fr && !c.nI && c.fI && (c.bS && c.vC && c.sN && c.bB && c.bA && c.mN && c.iN && c.bSf) && c.fC && c.fP && c.fin && c.its && c.ml) := by
  subst hc
  unfold rightF numsB listsB knownB zeroB unn ckOf
  simp only [h, decide_true, Bool.true_or, Bool.true_and, Nat.reduceEqDiff, decide_false, Bool.not_false, Bool.not_true, Bool.false_or, Nat.reduceLeDiff, Nat.le_refl, and_self, if_true, if_false, List.length_nil, Bool.and_true]
  ac_rfl
theorem right_5 (F : PF) (h : F.kind = 5) (c : Ck) (hc : ckOf F = c) : rightF F = (c.fr && !c.nI && c.fI && (c.vC && c.vP && c.bB && c.bA && c.mN && c.iN && c.bSf) && c.fC && c.fP && c.fin && c.its && c.ml) := by
  subst hc
  unfold rightF numsB listsB knownB zeroB unn ckOf
  simp only [h, decide_true, Bool.true_or, Bool.true_and, Nat.reduceEqDiff, decide_false, Bool.not_false, Bool.not_true, Bool.false_or, Nat.reduceLeDiff, Nat.le_refl, and_self, if_true, if_false, List.length_nil, Bool.and_true]
  ac_rfl
theorem right_6 (F : PF) (h : F.kind = 6) (c : Ck) (hc : ckOf F = c) : rightF F = (c.fr && !c.nI && c.fI && (c.bS && c.vC && c.vP && c.sN && c.iN && c.bSf) && c.fC && c.fP && c.fin && c.its && c.ml) := by
  subst hc
  unfold rightF numsB listsB knownB zeroB unn ckOf
  simp only [h, decide_true, Bool.true_or, Bool.true_and, Nat.reduceEqDiff, decide_false, Bool.not_false, Bool.not_true, Bool.false_or, Nat.reduceLeDiff, Nat.le_refl, and_self, if_true, if_false, List.length_nil, Bool.and_true]
  ac_rfl
theorem right_7 (F : PF) (h : F.kind = 7) (c : Ck) (hc : ckOf F = c) : rightF F = (c.fr && !c.nI && c.fI && (c.bS && c.vC && c.vP && c.sN && c.mN) && c.fC && c.fP && c.fin && c.its && c.ml) := by
  subst hc
  unfold rightF numsB listsB knownB zeroB unn ckOf
  simp only [h, decide_true, Bool.true_or, Bool.true_and, Nat.reduceEqDiff, decide_false, Bool.not_false, Bool.not_true, Bool.false_or, Nat.reduceLeDiff, Nat.le_refl, and_self, if_true, if_false, List.length_nil, Bool.and_true]
  ac_rfl

end Go.Proofs.Ytfemjbaadnjanaa
