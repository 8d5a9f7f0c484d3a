/-
  The statements' traces are those of a group that is as it should be.
-/
import Derived.Test.YthnbijnpbjfoaaaJGoodP
namespace Go.Proofs.Ythnbijnpbjfoaaa
open Go.RowKit Go.Sort
set_option linter.unusedVariables false

def snd10 (x : Rn) : List Snd := x.sends.take 10
def allR (n : Nat) (runs : List Rn) (r : Nat) : List Ev := match runs[r]? with
  | some x => allS n (vwF n r x) (snd10 x)
  | none => []
/-- The statements' group: k its nodes. -/
def gdT (n : Nat) (runs : List Rn) : Gd where
  set r := match runs[r]? with
    | some x => setF n x.set
    | none => 0
  on r i := match runs[r]? with
    | some x => (setF n x.set).testBit i
    | none => false
  own r i := match runs[r]? with
    | some x => ownS n (vwF n r x) (snd10 x) i
    | none => []
  rcv r i := match runs[r]? with
    | some x => (allS n (vwF n r x) (snd10 x)).take (havF (allS n (vwF n r x) (snd10 x)).length (lastF runs r) x.had i)
    | none => []
  saf r i := match runs[r]? with
    | some x => if i < x.safe.length then ((allS n (vwF n r x) (snd10 x)).take (safeF (leastF (allS n (vwF n r x) (snd10 x)).length (lastF runs r) x.had (setF n x.set) n) x.safe i)).map evF else []
    | none => []
theorem ownS_off {n : Nat} {v : Vw} {xs : List Snd} {j : Nat} (h : v.2.2.testBit j = false) : ownS n v xs j = [] := by
  unfold ownS
  rw [List.filter_eq_nil_iff.2 (fun x _ hx => ?_)]
  · rfl
  · simp only [Bool.and_eq_true, decide_eq_true_eq] at hx
    rw [hx.2, h] at hx
    cases hx.1
theorem traceX_gd (n : Nat) (runs : List Rn) : ∀ k j, traceX n runs k j = (gdT n runs).L k j
  | 0, j => rfl
  | k + 1, j => by
    show traceX n runs k j ++ _ = (gdT n runs).L k j ++ (gdT n runs).seg k j
    rw [traceX_gd n runs k j]
    congr 1
    cases hx : runs[k]? with
    | none =>
      have : (gdT n runs).on k j = false := by show (match runs[k]? with | some x => _ | none => false) = false; rw [hx]
      unfold Gd.seg
      rw [if_neg (by rw [this]; simp)]
    | some x =>
      have e1 : (gdT n runs).on k j = (setF n x.set).testBit j := by show (match runs[k]? with | some x => (setF n x.set).testBit j | none => false) = _; rw [hx]
      have e2 : (gdT n runs).vw k = vwF n k x := by
        have e0 : (gdT n runs).set k = setF n x.set := by show (match runs[k]? with | some x => setF n x.set | none => 0) = _; rw [hx]
        unfold Gd.vw
        rw [e0]; rfl
      have e3 : (gdT n runs).own k j = ownS n (vwF n k x) (snd10 x) j := by show (match runs[k]? with | some x => ownS n (vwF n k x) (snd10 x) j | none => []) = _; rw [hx]
      have e4 : (gdT n runs).rcv k j = (allS n (vwF n k x) (snd10 x)).take (havF (allS n (vwF n k x) (snd10 x)).length (lastF runs k) x.had j) := by
        show (match runs[k]? with | some x => (allS n (vwF n k x) (snd10 x)).take (havF (allS n (vwF n k x) (snd10 x)).length (lastF runs k) x.had j) | none => []) = _; rw [hx]
      have e5 : (gdT n runs).saf k j = if j < x.safe.length then ((allS n (vwF n k x) (snd10 x)).take (safeF (leastF (allS n (vwF n k x) (snd10 x)).length (lastF runs k) x.had (setF n x.set) n) x.safe j)).map evF else [] := by
        show (match runs[k]? with | some x => (if j < x.safe.length then ((allS n (vwF n k x) (snd10 x)).take (safeF (leastF (allS n (vwF n k x) (snd10 x)).length (lastF runs k) x.had (setF n x.set) n) x.safe j)).map evF else []) | none => []) = _; rw [hx]
      have eb : (vwF n k x).2.2 = setF n x.set := rfl
      unfold Gd.seg
      rw [e1, e2, e3, e4, e5]
      show segD n k (lastF runs k) x j = _
      unfold segD segV segR segF
      simp only [eb]
      by_cases hb : (setF n x.set).testBit j = true
      · simp only [hb, if_true, true_and]
        by_cases hj : j < x.safe.length
        · simp only [hj, if_true]; rw [List.append_assoc, List.append_assoc]; rfl
        · simp only [hj, if_false]; rw [List.append_assoc, List.append_assoc]; rfl
      · have hb' : (vwF n k x).2.2.testBit j = false := by rw [eb]; simpa using hb
        rw [ownS_off hb']
        simp [hb]
theorem allS_of {n : Nat} {v : Vw} {xs : List Snd} {e : Ev} (hn : 0 < n) (h : e ∈ allS n v xs) : ofV 3 v e ∧ 0 ≤ e.f ∧ e.f < (n : Int) ∧ v.2.2.testBit e.f.toNat = true := by
  unfold allS at h
  obtain ⟨x, hx, rfl⟩ := List.mem_map.1 h
  have hb := (List.mem_filter.1 hx).2
  have := Nat.mod_lt x.i hn
  refine ⟨⟨rfl, rfl, rfl, rfl⟩, ?_, ?_, ?_⟩
  · show (0 : Int) ≤ ((x.i % n : Nat) : Int); omega
  · show ((x.i % n : Nat) : Int) < n; omega
  · show v.2.2.testBit ((x.i % n : Nat) : Int).toNat = true
    rw [Int.toNat_natCast]; exact hb
theorem fromD_all {n : Nat} {v : Vw} {j : Nat} : ∀ (xs : List Snd), fromD ((allS n v xs).map itmE) j = (ownS n v xs j).map (fun e => (((j : Nat) : Int), e.m))
  | [] => rfl
  | x :: r => by
    have ih := fromD_all (n := n) (v := v) (j := j) r
    have e1 : allS n v (x :: r) = (if v.2.2.testBit (x.i % n) = true then [evR v (x.i % n) x.m] else []) ++ allS n v r := by
      unfold allS
      by_cases h : v.2.2.testBit (x.i % n) = true
      · rw [if_pos h, List.filter_cons_of_pos (by simpa using h)]; rfl
      · rw [if_neg h, List.filter_cons_of_neg (by simpa using h)]; rfl
    have e2 : ownS n v (x :: r) j = (if v.2.2.testBit (x.i % n) = true ∧ x.i % n = j then [evS v x.m] else []) ++ ownS n v r j := by
      unfold ownS
      by_cases h : v.2.2.testBit (x.i % n) = true ∧ x.i % n = j
      · rw [if_pos h, List.filter_cons_of_pos (by rw [h.1, decide_eq_true h.2]; rfl)]; rfl
      · rw [if_neg h, List.filter_cons_of_neg (by simpa using h)]; rfl
    rw [e1, e2, List.map_append, List.map_append, ← ih]
    unfold fromD
    rw [List.filter_append]
    congr 1
    by_cases h : v.2.2.testBit (x.i % n) = true
    · rw [if_pos h]
      by_cases hj : x.i % n = j
      · rw [if_pos ⟨h, hj⟩]
        simp [itmE, evR, evS, hj]
      · rw [if_neg (fun c => hj c.2)]
        simp [itmE, evR]
        omega
    · rw [if_neg h, if_neg (fun c => h c.1)]
      rfl
theorem setF_lt {n raw : Nat} (h1 : 1 ≤ n) : setF n raw < 2 ^ n := by
  unfold setF
  have h2 : 2 ^ n = 2 * 2 ^ (n - 1) := by rw [← Nat.pow_succ']; congr 1; omega
  have h3 := Nat.two_pow_pos (n - 1)
  have := Nat.mod_lt raw (show 0 < 2 ^ n - 1 by omega)
  omega
theorem setF_bit {n raw i : Nat} (h1 : 1 ≤ n) (h : (setF n raw).testBit i = true) : i < n := by
  refine Nat.lt_of_not_le fun hle => ?_
  have h2 := setF_lt (raw := raw) h1
  have h3 : setF n raw < 2 ^ i := Nat.lt_of_lt_of_le h2 (Nat.pow_le_pow_right (by omega) hle)
  rw [Nat.testBit_lt_two_pow h3] at h
  cases h
theorem hasN_bit {s i : Nat} (hi : i < 16) : hasN s (i : Int) = s.testBit i := by
  unfold hasN
  rw [decide_eq_true (by omega : (0 : Int) ≤ (i : Int)), decide_eq_true (by omega : (i : Int) < 16)]
  simp
/-- What holds of a time of the statements' group. -/
theorem gdT_some {n : Nat} {runs : List Rn} {r : Nat} {x : Rn} (hx : runs[r]? = some x) : (gdT n runs).set r = setF n x.set ∧ (∀ i, (gdT n runs).on r i = (setF n x.set).testBit i) ∧ (∀ i, (gdT n runs).own r i = ownS n (vwF n r x) (snd10 x) i) ∧
    (∀ i, (gdT n runs).rcv r i = (allS n (vwF n r x) (snd10 x)).take (havF (allS n (vwF n r x) (snd10 x)).length (lastF runs r) x.had i)) ∧
    ∀ i, (gdT n runs).saf r i = if i < x.safe.length then ((allS n (vwF n r x) (snd10 x)).take (safeF (leastF (allS n (vwF n r x) (snd10 x)).length (lastF runs r) x.had (setF n x.set) n) x.safe i)).map evF else [] := by
  refine ⟨?_, fun i => ?_, fun i => ?_, fun i => ?_, fun i => ?_⟩
  · show (match runs[r]? with | some x => setF n x.set | none => 0) = _; rw [hx]
  · show (match runs[r]? with | some x => (setF n x.set).testBit i | none => false) = _; rw [hx]
  · show (match runs[r]? with | some x => ownS n (vwF n r x) (snd10 x) i | none => []) = _; rw [hx]
  · show (match runs[r]? with | some x => (allS n (vwF n r x) (snd10 x)).take (havF (allS n (vwF n r x) (snd10 x)).length (lastF runs r) x.had i) | none => []) = _; rw [hx]
  · show (match runs[r]? with | some x => (if i < x.safe.length then ((allS n (vwF n r x) (snd10 x)).take (safeF (leastF (allS n (vwF n r x) (snd10 x)).length (lastF runs r) x.had (setF n x.set) n) x.safe i)).map evF else []) | none => []) = _; rw [hx]
theorem gdT_none {n : Nat} {runs : List Rn} {r : Nat} (hx : runs[r]? = none) : (∀ i, (gdT n runs).on r i = false) ∧ (∀ i, (gdT n runs).own r i = []) ∧ (∀ i, (gdT n runs).rcv r i = []) ∧ ∀ i, (gdT n runs).saf r i = [] := by
  refine ⟨fun i => ?_, fun i => ?_, fun i => ?_, fun i => ?_⟩
  · show (match runs[r]? with | some x => (setF n x.set).testBit i | none => false) = _; rw [hx]
  · show (match runs[r]? with | some x => ownS n (vwF n r x) (snd10 x) i | none => []) = _; rw [hx]
  · show (match runs[r]? with | some x => (allS n (vwF n r x) (snd10 x)).take (havF (allS n (vwF n r x) (snd10 x)).length (lastF runs r) x.had i) | none => []) = _; rw [hx]
  · show (match runs[r]? with | some x => (if i < x.safe.length then ((allS n (vwF n r x) (snd10 x)).take (safeF (leastF (allS n (vwF n r x) (snd10 x)).length (lastF runs r) x.had (setF n x.set) n) x.safe i)).map evF else []) | none => []) = _; rw [hx]
theorem gdT_vw {n : Nat} {runs : List Rn} {r : Nat} {x : Rn} (hx : runs[r]? = some x) : (gdT n runs).vw r = vwF n r x := by
  unfold Gd.vw
  rw [(gdT_some hx).1]
  rfl
theorem map_itm_evF (l : List Ev) : (l.map evF).map itmE = l.map itmE := by
  rw [List.map_map]; rfl
theorem take_preX {α : Type} (l : List α) {a b : Nat} (h : a ≤ b) : l.take a <+: l.take b := by
  have : l.take a = (l.take b).take a := by rw [List.take_take, Nat.min_eq_left h]
  rw [this]
  exact List.take_prefix _ _
/-- A group whose nodes may have seen less of it. -/
theorem gdT_ok (n : Nat) (runs : List Rn) (h1 : 1 ≤ n) (h6 : n ≤ 6) : GdOk (gdT n runs) n (min runs.length 6) := by
  have hsome : ∀ r, r < min runs.length 6 → ∃ x, runs[r]? = some x := fun r hr => ⟨runs[r]'(by omega), List.getElem?_eq_getElem _⟩
  have hsf : ∀ {r : Nat} {x : Rn} {i j : Nat}, i < x.safe.length → j < n → (setF n x.set).testBit j = true → safeF (leastF (allS n (vwF n r x) (snd10 x)).length (lastF runs r) x.had (setF n x.set) n) x.safe i ≤ havF (allS n (vwF n r x) (snd10 x)).length (lastF runs r) x.had j := fun {r x i j} _ hj hb =>
    Nat.le_trans (safeF_le _ _ _) (leastF_hav _ _ _ _ n j hj hb)
  refine ⟨fun r i e he => ?_, fun r i e he => ?_, fun r i e he => ?_, fun r i hr hi ho => ?_, fun r i hr hi ho => ?_, fun r i hr hi ho e he => ?_, fun r i j hr hi hj ho hp => ?_, fun r i j hr hi hj ho hp => ?_, fun r i j hr hi hj ho hp => ?_, fun r i j hr hi hj ho hp => ?_, fun r i j hr hi ho h2 h3 => ?_, fun r i j t hr hi hj ho hp hrt ht hto htp => ?_⟩
  · cases hx : runs[r]? with
    | none => rw [(gdT_none hx).2.1 i] at he; cases he
    | some x =>
      rw [(gdT_some hx).2.2.1 i] at he
      rw [gdT_vw hx]
      unfold ownS at he
      obtain ⟨y, _, rfl⟩ := List.mem_map.1 he
      exact ⟨rfl, rfl, rfl, rfl⟩
  · cases hx : runs[r]? with
    | none => rw [(gdT_none hx).2.2.1 i] at he; cases he
    | some x =>
      rw [(gdT_some hx).2.2.2.1 i] at he
      rw [gdT_vw hx]
      exact (allS_of (by omega) (List.mem_of_mem_take he)).1
  · cases hx : runs[r]? with
    | none => rw [(gdT_none hx).2.2.2 i] at he; cases he
    | some x =>
      rw [(gdT_some hx).2.2.2.2 i] at he
      rw [gdT_vw hx]
      split at he
      · obtain ⟨y, hy, rfl⟩ := List.mem_map.1 he
        have := (allS_of (by omega) (List.mem_of_mem_take hy)).1
        exact ⟨rfl, this.2⟩
      · cases he
  · obtain ⟨x, hx⟩ := hsome r hr
    rw [(gdT_some hx).2.1 i] at ho
    rw [(gdT_some hx).1, hasN_bit (by omega)]
    exact ho
  · obtain ⟨x, hx⟩ := hsome r hr
    rw [(gdT_some hx).2.1 i] at ho
    rw [(gdT_some hx).2.2.2.2 i, (gdT_some hx).2.2.2.1 i]
    split
    · rename_i hl
      rw [map_itm_evF]
      exact (take_preX _ (hsf hl hi ho)).map _
    · exact List.nil_prefix
  · obtain ⟨x, hx⟩ := hsome r hr
    rw [(gdT_some hx).2.2.2.1 i] at he
    have := allS_of (by omega) (List.mem_of_mem_take he)
    exact ⟨this.2.1, this.2.2.1⟩
  · obtain ⟨x, hx⟩ := hsome r hr
    rw [(gdT_some hx).2.2.2.1 i, (gdT_some hx).2.2.2.1 j]
    rcases Nat.le_total (havF (allS n (vwF n r x) (snd10 x)).length (lastF runs r) x.had i) (havF (allS n (vwF n r x) (snd10 x)).length (lastF runs r) x.had j) with h | h
    · exact .inl ((take_preX _ h).map _)
    · exact .inr ((take_preX _ h).map _)
  · obtain ⟨x, hx⟩ := hsome r hr
    rw [(gdT_some hx).2.2.2.1 i, (gdT_some hx).2.2.1 j, ← fromD_all]
    unfold fromD
    exact ((List.take_prefix _ _).map _).filter _
  · obtain ⟨x, hx⟩ := hsome r hr
    rw [(gdT_some hx).2.1 j] at hp
    rw [(gdT_some hx).1, hasN_bit (by omega), hp]
    refine ⟨?_, by simp⟩
    rw [(gdT_some hx).2.2.2.1 i]
    refine List.eq_nil_iff_forall_not_mem.2 (fun d hd => ?_)
    unfold fromD at hd
    obtain ⟨hd1, hd2⟩ := List.mem_filter.1 hd
    obtain ⟨e, he, rfl⟩ := List.mem_map.1 hd1
    have := allS_of (n := n) (v := vwF n r x) (by omega) (List.mem_of_mem_take he)
    have hd3 : e.f = (j : Int) := of_decide_eq_true hd2
    rw [hd3, Int.toNat_natCast] at this
    rw [show (vwF n r x).2.2 = setF n x.set from rfl, hp] at this
    cases this.2.2.2
  · obtain ⟨x, hx⟩ := hsome r hr
    rw [(gdT_some hx).2.1 j] at hp
    rw [(gdT_some hx).2.2.2.2 i, (gdT_some hx).2.2.2.1 j]
    split
    · rename_i hl
      rw [List.length_map, List.length_take, List.length_take]
      have := hsf (r := r) hl hj hp
      omega
    · simp
  · obtain ⟨x, hx⟩ := hsome r hr
    rw [(gdT_some hx).1, hasN_bit h3]
    rintro ⟨_, hb⟩
    have := setF_bit h1 hb
    omega
  · obtain ⟨x, hx⟩ := hsome r hr
    have hl : lastF runs r = false := by
      unfold lastF
      rw [decide_eq_false (by omega), decide_eq_false (by omega)]
      rfl
    rw [(gdT_some hx).2.2.2.1 i, (gdT_some hx).2.2.2.1 j, hl]
    unfold havF
    simp
theorem good_doc (n : Nat) (runs : List Rn) (h1 : 1 ≤ n) (h6 : n ≤ 6) : DocViews (tracesD n runs) := by
  have := (gdT_ok n runs h1 h6).doc
  have e : (List.range n).map (Gd.L (gdT n runs) (min runs.length 6)) = tracesD n runs := by
    unfold tracesD
    refine List.map_congr_left (fun j _ => ?_)
    rw [traceX_gd]
  rw [e] at this
  exact this
end Go.Proofs.Ythnbijnpbjfoaaa
