/-
  The statements' traces, in plain data.
-/
import Derived.Test.YthnbijnpbjfoaaaJTr0
import Derived.Test.YthnbijnpbjfoaaaJRun
namespace Go.Proofs.Ythnbijnpbjfoaaa
open Go.RowKit Go.Sort
set_option linter.unusedVariables false

def evV (v : Vw) : Ev := ⟨1, v.1, v.2.1, v.2.2, 0, []⟩
def evS (v : Vw) (m : By) : Ev := ⟨2, v.1, v.2.1, v.2.2, 0, m⟩
def evR (v : Vw) (k : Nat) (m : By) : Ev := ⟨3, v.1, v.2.1, v.2.2, (k : Int), m⟩
def evF (e : Ev) : Ev := { e with k := 4 }
/-- What node j sends. -/
def ownS (n : Nat) (v : Vw) (xs : List Snd) (j : Nat) : List Ev := (xs.filter (fun x => v.2.2.testBit (x.i % n) && decide (x.i % n = j))).map (fun x => evS v x.m)
/-- All that is sent, as it is received. -/
def allS (n : Nat) (v : Vw) (xs : List Snd) : List Ev := (xs.filter (fun x => v.2.2.testBit (x.i % n))).map (fun x => evR v (x.i % n) x.m)
theorem ownS_snoc (n : Nat) (v : Vw) (xs : List Snd) (x : Snd) (j : Nat) : ownS n v (xs ++ [x]) j = ownS n v xs j ++ (if v.2.2.testBit (x.i % n) = true ∧ x.i % n = j then [evS v x.m] else []) := by
  unfold ownS
  rw [List.filter_append, List.map_append]
  by_cases h : v.2.2.testBit (x.i % n) = true ∧ x.i % n = j
  · rw [if_pos h, List.filter_cons_of_pos (by rw [h.1, decide_eq_true h.2]; rfl)]; rfl
  · rw [if_neg h, List.filter_cons_of_neg (by simpa using h)]; rfl
theorem allS_snoc (n : Nat) (v : Vw) (xs : List Snd) (x : Snd) : allS n v (xs ++ [x]) = allS n v xs ++ (if v.2.2.testBit (x.i % n) = true then [evR v (x.i % n) x.m] else []) := by
  unfold allS
  rw [List.filter_append, List.map_append]
  by_cases h : v.2.2.testBit (x.i % n) = true
  · rw [if_pos h, List.filter_cons_of_pos (by simpa using h)]; rfl
  · rw [if_neg h, List.filter_cons_of_neg (by simpa using h)]; rfl
theorem ownS_len (n : Nat) (v : Vw) (xs : List Snd) (j : Nat) : (ownS n v xs j).length ≤ xs.length := by
  unfold ownS
  rw [List.length_map]
  exact List.length_filter_le _ _
theorem allS_len (n : Nat) (v : Vw) (xs : List Snd) : (allS n v xs).length ≤ xs.length := by
  unfold allS
  rw [List.length_map]
  exact List.length_filter_le _ _
def byAt (b : By) (i : Nat) : Nat := (b.getD i 0).toNat
/-- How many messages node i receives, of A. -/
def sameF (A : Nat) (had : By) : Nat := if 0 < had.length then byAt had 0 % (A + 1) else A
def havF (A : Nat) (last : Bool) (had : By) (i : Nat) : Nat := if last = true ∧ i < had.length then byAt had i % (A + 1) else sameF A had
theorem sameF_le (A : Nat) (had : By) : sameF A had ≤ A := by
  unfold sameF
  split
  · have := Nat.mod_lt (byAt had 0) (show 0 < A + 1 by omega); omega
  · exact Nat.le_refl _
theorem havF_le (A : Nat) (last : Bool) (had : By) (i : Nat) : havF A last had i ≤ A := by
  unfold havF
  split
  · have := Nat.mod_lt (byAt had i) (show 0 < A + 1 by omega); omega
  · exact sameF_le A had
/-- The least of them, among the first i nodes of the set. -/
def leastF (A : Nat) (last : Bool) (had : By) (s : Nat) : Nat → Nat
  | 0 => A
  | i + 1 => if s.testBit i = true ∧ havF A last had i < leastF A last had s i then havF A last had i else leastF A last had s i
theorem leastF_le (A : Nat) (last : Bool) (had : By) (s : Nat) : ∀ i, leastF A last had s i ≤ A
  | 0 => Nat.le_refl _
  | i + 1 => by
    unfold leastF
    split
    · exact havF_le _ _ _ _
    · exact leastF_le A last had s i
theorem leastF_hav (A : Nat) (last : Bool) (had : By) (s : Nat) : ∀ i j, j < i → s.testBit j = true → leastF A last had s i ≤ havF A last had j
  | 0, j, h, _ => by omega
  | i + 1, j, h, hs => by
    unfold leastF
    by_cases e : j = i
    · subst e
      split
      · exact Nat.le_refl _
      · rename_i h2
        have : ¬ havF A last had j < leastF A last had s j := fun h3 => h2 ⟨hs, h3⟩
        omega
    · have := leastF_hav A last had s i j (by omega) hs
      split
      · omega
      · exact this
def safeF (L : Nat) (safe : By) (i : Nat) : Nat := byAt safe i % (L + 1)
theorem safeF_le (L : Nat) (safe : By) (i : Nat) : safeF L safe i ≤ L := by
  have := Nat.mod_lt (byAt safe i) (show 0 < L + 1 by omega)
  unfold safeF; omega
def setF (n raw : Nat) : Nat := raw % (2 ^ n - 1) + 1
def vwF (n r : Nat) (x : Rn) : Vw := (r + 1, 0, setF n x.set)
/-- A node's part of one time. -/
def segV (v : Vw) (j : Nat) : List Ev := if v.2.2.testBit j = true then [evV v] else []
def segR (v : Vw) (all : List Ev) (last : Bool) (had : By) (j : Nat) : List Ev := if v.2.2.testBit j = true then all.take (havF all.length last had j) else []
def segF (v : Vw) (all : List Ev) (L : Nat) (safe : By) (j : Nat) : List Ev := if v.2.2.testBit j = true ∧ j < safe.length then (all.take (safeF L safe j)).map evF else []
def segD (n r : Nat) (last : Bool) (x : Rn) (j : Nat) : List Ev :=
  let v := vwF n r x
  let all := allS n v (x.sends.take 10)
  segV v j ++ ownS n v (x.sends.take 10) j ++ segR v all last x.had j ++ segF v all (leastF all.length last x.had v.2.2 n) x.safe j
def lastF (runs : List Rn) (r : Nat) : Bool := decide (r + 1 = runs.length) || decide (r = 5)
def traceX (n : Nat) (runs : List Rn) : Nat → Nat → List Ev
  | 0, _ => []
  | k + 1, j => traceX n runs k j ++ (match runs[k]? with
    | some x => segD n k (lastF runs k) x j
    | none => [])
def tracesD (n : Nat) (runs : List Rn) : List (List Ev) := (List.range n).map (traceX n runs (min runs.length 6))
theorem segV_len (v : Vw) (j : Nat) : (segV v j).length ≤ 1 := by unfold segV; split <;> simp
theorem segR_len (v : Vw) (all : List Ev) (last : Bool) (had : By) (j : Nat) (h : all.length ≤ 10) : (segR v all last had j).length ≤ 10 := by
  unfold segR
  split
  · rw [List.length_take]; omega
  · simp
theorem segF_len (v : Vw) (all : List Ev) (L : Nat) (safe : By) (j : Nat) (h : all.length ≤ 10) : (segF v all L safe j).length ≤ 10 := by
  unfold segF
  split
  · rw [List.length_map, List.length_take]; omega
  · simp
theorem segD_len (n r : Nat) (last : Bool) (x : Rn) (j : Nat) : (segD n r last x j).length ≤ 31 := by
  unfold segD
  have hs : (x.sends.take 10).length ≤ 10 := by rw [List.length_take]; omega
  have h1 := segV_len (vwF n r x) j
  have h2 := ownS_len n (vwF n r x) (x.sends.take 10) j
  have h0 := allS_len n (vwF n r x) (x.sends.take 10)
  have h3 := segR_len (vwF n r x) (allS n (vwF n r x) (x.sends.take 10)) last x.had j (by omega)
  have h4 := segF_len (vwF n r x) (allS n (vwF n r x) (x.sends.take 10)) (leastF (allS n (vwF n r x) (x.sends.take 10)).length last x.had (vwF n r x).2.2 n) x.safe j (by omega)
  simp only [List.length_append]
  omega
theorem traceX_len (n : Nat) (runs : List Rn) : ∀ k j, (traceX n runs k j).length ≤ 31 * k
  | 0, j => by simp [traceX]
  | k + 1, j => by
    unfold traceX
    have := traceX_len n runs k j
    rw [List.length_append]
    split
    · rename_i x _
      have := segD_len n k (lastF runs k) x j
      omega
    · simp; omega
/-- Steps of the loops. -/
theorem upd_upd {α : Type} (f : Nat → α) (i : Nat) (a b : α) : upd (upd f i a) i b = upd f i b := by
  funext j
  by_cases e : j = i
  · subst e; rw [upd_same, upd_same]
  · rw [upd_ne _ _ e, upd_ne _ _ e, upd_ne _ _ e]
theorem TL.cong {B : Nat} {w : World} {g n m : Nat} {R : Nat → Sr} {X Y : Nat → List Ev} (h : TL B w g n m R X) (e : ∀ i, i < m → X i = Y i) : TL B w g n m R Y :=
  ⟨h.sz, h.gB, h.blk, h.nm, h.cell, fun i hi => by rw [← e i hi]; exact h.row i hi, h.apart⟩
theorem info41E : (Try.prog.info? 41).map (fun i => (i.zero, i.size, i.bytes)) = some (some (.slice none 0 0), 1, 24) := by kernel_rfl
theorem und36E : Try.prog.underlying 36 = some (.slice 41) := by kernel_rfl
theorem make36 (M : Nat) (hM : M ≤ 10000) (u : World) : (Instr.makeSlice 36 (.int .i64 (M : Nat)) (.int .i64 (M : Nat))).run Try.prog u = .ok (.slice (some ⟨u.heap.size, 0, none⟩) M M) (u.alloc (.cells (madeCells #[.slice none 0 0] M) 41)) := by
  obtain ⟨i0, hi, hz0, hz1, hz2⟩ := info_parts info41E
  have h := run_make (P := Try.prog) u 36 41 i0 _ und36E hi hz0 .i64 .i64 (M : Int) (M : Int) (by omega) (Int.le_refl _) (by rw [hz2]; omega) (by omega)
  simpa [hz1, Value.cells] using h
theorem TL.made (w : World) (n : Nat) : TL w.heap.size (w.alloc (.cells (madeCells #[.slice none 0 0] n) 41)) w.heap.size n (n + 1) (fun _ => (none, 0, 0)) (fun _ => []) := by
  have hb : (w.alloc (.cells (madeCells #[.slice none 0 0] n) 41)).heap[w.heap.size]? = some (.cells (madeCells #[.slice none 0 0] n) 41 (0, 0)) := heap_alloc_new _ _
  refine ⟨(bl1 _ _).size, Nat.le_refl _, ⟨_, hb⟩, by omega, fun i hi => ?_, fun i hi => EvO.nil _ _, fun i j hi hj hij b hb' => by simp [slv, Value.ownBlock] at hb'⟩
  unfold World.cell?
  rw [hb]
  have : (madeCells #[.slice none 0 0] n)[i]? = some (.slice none 0 0) := by
    rw [← Array.getElem?_toList, toList_madeCells_one, List.getElem?_replicate, if_pos hi]
  simpa [slv] using this
end Go.Proofs.Ythnbijnpbjfoaaa
