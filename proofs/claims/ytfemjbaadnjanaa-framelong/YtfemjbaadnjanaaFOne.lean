/-
  A frame with one long message; too many bytes are no frame.
-/
import Derived.Test.YtfemjbaadnjanaaFEnc
import Derived.Test.YtfemjbaadnjanaaFRes
import Derived.Laws.OwnMore
namespace Go.Proofs.Ytfemjbaadnjanaa
open Go.RowKit
set_option linter.unusedVariables false
set_option linter.unusedSimpArgs false

set_option maxRecDepth 20000 in
set_option maxHeartbeats 1000000 in
theorem decode_long (w : World) (ao : Option Addr) (n cap : Nat) (hn : 1048576 < n) :
    Calls Try.prog 14 #[.slice ao n cap] w fun e w' => e = .returned (.tuple #[.agg #[.int .u8 0, .int .i64 0, .int .u64 0, .int .i64 0, .int .u16 0, .int .u64 0, .int .i64 0, .int .u64 0, .int .i64 0, .slice none 0 0, .int .u64 0, .slice none 0 0, .slice none 0 0, .int .u64 0, .int .u64 0], .int .i64 2]) ∧ Below w.heap.size w w' := by
  have hnI : (1048576 : Int) < (n : Int) := by omega
  go_enter Try.func14, Try.ntmps14
  go_wp2
  refine bodyPost_ret (results_cell2 (g := w.heap.size) Try.results14 rfl rfl (load30 (heap_alloc_new _ _) rfl)) rfl ?_
  exact ⟨rfl, bl1 _ _⟩

/-- A frame with one message. -/
def one (m : List UInt8) : PF := { zeroF with kind := 6, idN := 1, ms := [m] }
theorem one_right (m : List UInt8) : rightF (one m) = true := rfl
theorem one_ok (m : List UInt8) : POk (one m) := by
  refine ⟨?_, ?_, ?_, ?_, ?_, ?_, ?_, ?_, ?_, fun s hs => absurd hs List.not_mem_nil, ?_, ?_, ?_⟩
  all_goals simp [one, zeroF, In64]
theorem enc3 (k : Nat) (h : 16384 ≤ k) (h2 : k < 2097152) : (Cd.enc k).length = 3 := by
  unfold Cd.enc
  rw [Cd.encF_big _ _ (by omega), Cd.encF_big _ _ (by omega), Cd.encF_small _ _ (by omega)]
  rfl
theorem one_wire (m : List UInt8) (h : 16384 ≤ m.length) (h2 : m.length < 2097152) : (wire (one m)).length = 10 + m.length := by
  have e := enc3 m.length h h2
  have e1 : wire (one m) = [6, 0, 1, 0, 0, 0, 1] ++ (Cd.enc m.length ++ m) := by
    unfold wire headV body one encL encM
    simp
    exact ⟨rfl, rfl⟩
  rw [e1, List.length_append, List.length_append, e]
  simp
  omega

theorem rx_zeros {w : World} {g K : Nat} (hg : w.heap[g]? = some (.cells (madeCells #[.int .u8 0] K) 5 (0, 0))) (hK : K ≤ 2000000) : Rx (fun _ => True) w (some ⟨g, 0, none⟩) K K (List.replicate K 0) := by
  refine ⟨⟨by simp, by omega, fun e => (by cases e), fun _ => ⟨g, 0, rfl, trivial, fun j x hj => ?_⟩⟩, Nat.le_refl _, by omega, fun e => (by cases e)⟩
  rw [Nat.zero_add, cell_of_row w g j _ 5 (0, 0) hg]
  have hl : (madeCells #[Value.int .u8 0] K).toList = List.replicate K (.int .u8 0) := toList_madeCells_one _ _
  obtain ⟨h1, h2⟩ := List.getElem?_eq_some_iff.1 hj
  simp at h1 h2
  subst h2
  rw [← Array.getElem?_toList, hl, List.getElem?_replicate, if_pos h1]
  rfl
theorem make_bytes (M : Nat) (hM : M ≤ 2000000) (u : World) : (Instr.makeSlice 33 (.int .i64 (M : Nat)) (.int .i64 (M : Nat))).run Try.prog u = .ok (.slice (some ⟨u.heap.size, 0, none⟩) M M) (u.alloc (.cells (madeCells #[.int .u8 0] M) 5)) := by
  obtain ⟨i0, hi, hz0, hz1, hz2⟩ := info_parts info5
  have h := run_make (P := Try.prog) u 33 5 i0 (.int .u8 0) Try.underlying33 hi hz0 .i64 .i64 (M : Int) (M : Int) (by omega) (Int.le_refl _) (by rw [hz2]; omega) (by omega)
  simpa [hz1, Value.cells] using h
theorem make_long : ∃ (M : Nat) (mc : Array Value), 1048576 < M ∧ ∀ u : World, (Instr.makeSlice 33 (.int .i64 1048577) (.int .i64 1048577)).run Try.prog u = .ok (.slice (some ⟨u.heap.size, 0, none⟩) M M) (u.alloc (.cells mc 5)) := by
  obtain ⟨M, hM⟩ : ∃ M : Nat, M = 1048577 := ⟨_, rfl⟩
  refine ⟨M, madeCells #[.int .u8 0] M, by omega, fun u => ?_⟩
  have e : (1048577 : Int) = (M : Int) := by omega
  rw [e]
  exact make_bytes M (by omega) u
theorem msx_one {w : World} {g : Nat} {x : Option Addr × Nat × Nat} {m : List UInt8} {t : TypeId} (hg : w.heap[g]? = some (.cells #[.slice x.1 x.2.1 x.2.2] t (0, 0))) (h : Rx (fun _ => True) w x.1 x.2.1 x.2.2 m) : MsX (fun _ => True) w (some ⟨g, 0, none⟩) 1 [m] := by
  refine ⟨[x], ⟨rfl, by omega, fun e => (by cases e), fun _ => ⟨g, 0, rfl, trivial, fun j y hj => ?_⟩⟩, rfl, fun j y d hy hd => ?_⟩
  · obtain ⟨h1, h2⟩ := List.getElem?_eq_some_iff.1 hj
    simp at h1 h2
    subst h1 h2
    rw [cell_of_row w g _ _ t (0, 0) hg]
    rfl
  · obtain ⟨h1, h2⟩ := List.getElem?_eq_some_iff.1 hy
    obtain ⟨h3, h4⟩ := List.getElem?_eq_some_iff.1 hd
    simp at h1 h2 h3 h4
    subst h2 h4
    exact h
end Go.Proofs.Ytfemjbaadnjanaa
