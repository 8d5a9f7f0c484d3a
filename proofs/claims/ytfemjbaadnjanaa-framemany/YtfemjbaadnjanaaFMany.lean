/-
  Frames with many parts that are zero.
-/
import Derived.Test.YtfemjbaadnjanaaFEnc
import Derived.Test.YtfemjbaadnjanaaFDec
import Derived.Test.YtfemjbaadnjanaaFAwake
import Derived.Laws.MakeOwn
namespace Go.Proofs.Ytfemjbaadnjanaa
open Go.RowKit
set_option linter.unusedVariables false
set_option linter.unusedSimpArgs false

theorem made_cell {w : World} {g : Nat} {z : Array Value} {n : Nat} {t : TypeId} (hg : w.heap[g]? = some (.cells (madeCells z n) t (0, 0))) {j : Nat} (hj : j < n) : w.cell? ⟨g, j, none⟩ = some (z[j % z.size]!) := by
  rw [cell_of_row w g j _ t (0, 0) hg]
  unfold madeCells
  rw [Array.getElem?_map, Array.getElem?_range, if_pos hj]
  rfl
theorem rep_get {α : Type} {k j : Nat} {x y : α} (h : (List.replicate k x)[j]? = some y) : j < k ∧ y = x := by
  obtain ⟨h1, h2⟩ := List.getElem?_eq_some_iff.1 h
  simp at h1 h2
  exact ⟨h1, h2.symm⟩
theorem msx_made {w : World} {g k : Nat} {t : TypeId} (hg : w.heap[g]? = some (.cells (madeCells #[.slice none 0 0] k) t (0, 0))) (hk : k ≤ 10000) : MsX (fun _ => True) w (some ⟨g, 0, none⟩) k (List.replicate k []) := by
  refine ⟨List.replicate k (none, 0, 0), ⟨by simp, by omega, fun e => (by cases e), fun _ => ⟨g, 0, rfl, trivial, fun j x hj => ?_⟩⟩, by simp, fun j x d hx hd => ?_⟩
  · obtain ⟨h1, rfl⟩ := rep_get hj
    rw [Nat.zero_add, made_cell hg h1]
    have e0 : j % 1 = 0 := by omega
    simp [e0]
  · obtain ⟨_, rfl⟩ := rep_get hx
    obtain ⟨_, rfl⟩ := rep_get hd
    exact Rx.nil
theorem itsx_made {w : World} {g k : Nat} {t : TypeId} (hg : w.heap[g]? = some (.cells (madeCells #[.int .i64 0, .slice none 0 0] (k * 2)) t (0, 0))) (hk : k ≤ 10000) : ItsX (fun _ => True) w (some ⟨g, 0, none⟩) k (List.replicate k (0, [])) := by
  refine ⟨List.replicate k (0, none, 0, 0), ⟨by simp, by omega, fun e => (by cases e), fun _ => ⟨g, 0, rfl, trivial, fun j x hj => ?_⟩⟩, by simp, fun j x d hx hd => ?_⟩
  · obtain ⟨h1, rfl⟩ := rep_get hj
    rw [Nat.zero_add, made_cell hg (show j * 2 < k * 2 by omega), made_cell hg (show j * 2 + 1 < k * 2 by omega)]
    have e0 : j * 2 % 2 = 0 := by omega
    have e1 : (j * 2 + 1) % 2 = 1 := by omega
    simp [e0, e1]
  · obtain ⟨_, rfl⟩ := rep_get hx
    obtain ⟨_, rfl⟩ := rep_get hd
    exact ⟨rfl, Rx.nil⟩
theorem ssx_made {w : World} {g k : Nat} {t : TypeId} (hg : w.heap[g]? = some (.cells (madeCells #[.int .u64 0, .int .i64 0, .int .i64 0, .slice none 0 0] (k * 4)) t (0, 0))) (hk : k ≤ 10000) : SsX (fun _ => True) w (some ⟨g, 0, none⟩) k (List.replicate k (0, 0, 0, [])) := by
  refine ⟨List.replicate k (0, 0, 0, none, 0, 0), ⟨by simp, by omega, fun e => (by cases e), fun _ => ⟨g, 0, rfl, trivial, fun j x hj => ?_⟩⟩, by simp, fun j x d hx hd => ?_⟩
  · obtain ⟨h1, rfl⟩ := rep_get hj
    rw [Nat.zero_add, made_cell hg (show j * 4 < k * 4 by omega), made_cell hg (show j * 4 + 1 < k * 4 by omega), made_cell hg (show j * 4 + 2 < k * 4 by omega), made_cell hg (show j * 4 + 3 < k * 4 by omega)]
    have e0 : j * 4 % 4 = 0 := by omega
    have e1 : (j * 4 + 1) % 4 = 1 := by omega
    have e2 : (j * 4 + 2) % 4 = 2 := by omega
    have e3 : (j * 4 + 3) % 4 = 3 := by omega
    simp [e0, e1, e2, e3]
  · obtain ⟨_, rfl⟩ := rep_get hx
    obtain ⟨_, rfl⟩ := rep_get hd
    exact ⟨rfl, rfl, rfl, ItsX.nil _ _⟩
theorem make27 (M : Nat) (hM : M ≤ 10000) (u : World) : (Instr.makeSlice 27 (.int .i64 (M : Nat)) (.int .i64 (M : Nat))).run Try.prog u = .ok (.slice (some ⟨u.heap.size, 0, none⟩) M M) (u.alloc (.cells (madeCells #[.slice none 0 0] M) 33)) := by
  obtain ⟨i0, hi, hz0, hz1, hz2⟩ := info_parts infoM33
  have h := run_make (P := Try.prog) u 27 33 i0 _ und27 hi hz0 .i64 .i64 (M : Int) (M : Int) (by omega) (Int.le_refl _) (by rw [hz2]; omega) (by omega)
  simpa [hz1, Value.cells] using h
theorem make28 (M : Nat) (hM : M ≤ 10000) (u : World) : (Instr.makeSlice 28 (.int .i64 (M : Nat)) (.int .i64 (M : Nat))).run Try.prog u = .ok (.slice (some ⟨u.heap.size, 0, none⟩) M M) (u.alloc (.cells (madeCells #[.int .i64 0, .slice none 0 0] (M * 2)) 49)) := by
  obtain ⟨i0, hi, hz0, hz1, hz2⟩ := info_parts infoI
  have h := run_make (P := Try.prog) u 28 49 i0 _ und29 hi hz0 .i64 .i64 (M : Int) (M : Int) (by omega) (Int.le_refl _) (by rw [hz2]; omega) (by omega)
  simpa [hz1, Value.cells] using h
theorem make26 (M : Nat) (hM : M ≤ 10000) (u : World) : (Instr.makeSlice 26 (.int .i64 (M : Nat)) (.int .i64 (M : Nat))).run Try.prog u = .ok (.slice (some ⟨u.heap.size, 0, none⟩) M M) (u.alloc (.cells (madeCells #[.int .u64 0, .int .i64 0, .int .i64 0, .slice none 0 0] (M * 4)) 52)) := by
  obtain ⟨i0, hi, hz0, hz1, hz2⟩ := info_parts infoS52
  have h := run_make (P := Try.prog) u 26 52 i0 _ und22 hi hz0 .i64 .i64 (M : Int) (M : Int) (by omega) (Int.le_refl _) (by rw [hz2]; omega) (by omega)
  simpa [hz1, Value.cells] using h

def manyM (k : Nat) : PF := { zeroF with kind := 6, idN := 1, ms := List.replicate k [] }
def manyI (k : Nat) : PF := { zeroF with kind := 7, idN := 1, it := List.replicate k (0, []) }
def manyS (k : Nat) : PF := { zeroF with kind := 5, idN := 1, st := List.replicate k (0, 0, 0, []) }
theorem all_rep {α : Type} (f : α → Bool) (x : α) (h : f x = true) (k : Nat) : (List.replicate k x).all f = true := by
  rw [List.all_eq_true]
  intro y hy
  rw [(List.mem_replicate.1 hy).2]
  exact h
theorem manyM_right (k : Nat) : rightF (manyM k) = decide (k ≤ 4096) := by
  have e : rightF (manyM k) = (decide ((List.replicate k ([] : List UInt8)).length ≤ 4096) && true) := by
    unfold rightF numsB listsB knownB unn zeroB manyM itsB
    simp [zeroF, okF, formV]
  rw [e]; simp
theorem manyI_right (k : Nat) : rightF (manyI k) = decide (k ≤ 4096) := by
  have ha : (List.replicate k ((0, []) : Di)).all (fun d => okF d.1) = true := all_rep _ _ rfl k
  unfold rightF numsB listsB knownB unn zeroB manyI itsB
  simp only [ha]
  simp [zeroF, okF, formV]
theorem manyS_right (k : Nat) : rightF (manyS k) = decide (k ≤ 4096) := by
  have ha : (List.replicate k ((0, 0, 0, []) : Sd)).all stOk = true := all_rep _ _ rfl k
  unfold rightF numsB listsB knownB unn zeroB manyS itsB
  simp only [ha]
  simp [zeroF, okF, formV]
theorem manyM_ok (k : Nat) : POk (manyM k) := by
  refine ⟨?_, ?_, ?_, ?_, ?_, ?_, ?_, ?_, ?_, fun s hs => absurd hs List.not_mem_nil, ?_, ?_, ?_⟩
  all_goals simp [manyM, zeroF, In64]
theorem manyI_ok (k : Nat) : POk (manyI k) := by
  refine ⟨?_, ?_, ?_, ?_, ?_, ?_, ?_, ?_, ?_, fun s hs => absurd hs List.not_mem_nil, ?_, ?_, ?_⟩
  all_goals simp [manyI, zeroF, In64]
theorem manyS_ok (k : Nat) : POk (manyS k) := by
  refine ⟨?_, ?_, ?_, ?_, ?_, ?_, ?_, ?_, ?_, fun s hs => ?_, ?_, ?_, ?_⟩
  case refine_10 =>
    have : s = (0, 0, 0, []) := (List.mem_replicate.1 hs).2
    rw [this]
    simp [In64]
  all_goals simp [manyS, zeroF, In64]
theorem flat_rep {α : Type} (en : α → List UInt8) (x : α) : ∀ k, ((List.replicate k x).flatMap en).length = k * (en x).length
  | 0 => by simp
  | k + 1 => by rw [List.replicate_succ, List.flatMap_cons, List.length_append, flat_rep en x k, Nat.add_mul]; omega
theorem encL_rep {α : Type} (en : α → List UInt8) (x : α) (k : Nat) : (encL en (List.replicate k x)).length ≤ 10 + k * (en x).length := by
  have := Cd.enc_length k
  unfold encL
  rw [List.length_append, flat_rep, List.length_replicate]
  omega
theorem manyM_wire (k : Nat) (h : k ≤ 4096) : (wire (manyM k)).length + 4 ≤ 1048576 := by
  have h1 := encL_rep encM [] k
  have h2 : (encM []).length = 1 := by decide
  have e : wire (manyM k) = [6, 0, 1, 0, 0, 0] ++ encL encM (List.replicate k []) := by
    unfold wire headV body manyM
    simp
    exact ⟨rfl, rfl⟩
  rw [e, List.length_append]
  rw [h2] at h1
  simp
  omega
theorem manyI_wire (k : Nat) (h : k ≤ 4096) : (wire (manyI k)).length + 4 ≤ 1048576 := by
  have h1 := encL_rep encI (0, []) k
  have h2 : (encI (0, [])).length = 2 := by decide
  have e : wire (manyI k) = [7, 0, 1, 0, 0, 0, 0] ++ encL encI (List.replicate k (0, [])) := by
    unfold wire headV body manyI
    simp
    exact ⟨rfl, rfl⟩
  rw [e, List.length_append]
  rw [h2] at h1
  simp
  omega
theorem manyS_wire (k : Nat) (h : k ≤ 4096) : (wire (manyS k)).length + 4 ≤ 1048576 := by
  have h1 := encL_rep encS (0, 0, 0, []) k
  have h2 : (encS (0, 0, 0, [])).length = 4 := by decide
  have e : wire (manyS k) = [5, 0, 1, 0, 0] ++ encL encS (List.replicate k (0, 0, 0, [])) := by
    unfold wire headV body manyS
    simp
    exact ⟨rfl, rfl⟩
  rw [e, List.length_append]
  rw [h2] at h1
  simp
  omega
end Go.Proofs.Ytfemjbaadnjanaa
