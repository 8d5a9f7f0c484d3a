/-
  What the statements' traces bear.
-/
import Derived.Test.YthnbijnpbjfoaaaJGoodT
namespace Go.Proofs.Ythnbijnpbjfoaaa
open Go.RowKit Go.Sort
set_option linter.unusedVariables false

theorem Gd.L_mem (G : Gd) (i : Nat) : ∀ q e, e ∈ G.L q i → ∃ r, r < q ∧ e ∈ G.seg r i
  | 0, e, h => by cases h
  | q + 1, e, h => by
    have h' : e ∈ G.L q i ++ G.seg q i := h
    rw [List.mem_append] at h'
    rcases h' with h' | h'
    · obtain ⟨r, h1, h2⟩ := G.L_mem i q e h'
      exact ⟨r, by omega, h2⟩
    · exact ⟨q, by omega, h'⟩
theorem setF_16 {n raw : Nat} (h1 : 1 ≤ n) (h6 : n ≤ 6) : setF n raw < 65536 := by
  have h2 := setF_lt (raw := raw) h1
  have h3 : 2 ^ n ≤ 2 ^ 6 := Nat.pow_le_pow_right (by omega) h6
  have h4 : (2 : Nat) ^ 6 = 64 := by decide
  omega
theorem segT_ok {n : Nat} {runs : List Rn} (h1 : 1 ≤ n) (h6 : n ≤ 6) {r i : Nat} (hr : r < min runs.length 6) {e : Ev} (h : e ∈ (gdT n runs).seg r i) : EvOk e := by
  have hx : runs[r]? = some (runs[r]'(by omega)) := List.getElem?_eq_getElem _
  generalize runs[r]'(by omega) = x at hx
  have hi := (gdT_ok n runs h1 h6).inv e h
  rw [(gdT_some hx).1] at hi
  have hs := setF_16 (raw := x.set) h1 h6
  have hA : ∀ y ∈ allS n (vwF n r x) (snd10 x), 0 ≤ y.f ∧ y.f < (n : Int) := fun y hy => by
    have := allS_of (n := n) (by omega) hy
    exact ⟨this.2.1, this.2.2.1⟩
  have hk : e.k < 256 ∧ -9223372036854775808 ≤ e.f ∧ e.f ≤ 9223372036854775807 := by
    unfold Gd.seg at h
    split at h
    · rw [List.mem_cons, List.mem_append, List.mem_append, (gdT_some hx).2.2.1, (gdT_some hx).2.2.2.1, (gdT_some hx).2.2.2.2] at h
      rcases h with rfl | h | h | h
      · exact ⟨by show 1 < 256; omega, by show -9223372036854775808 ≤ (0 : Int); omega, by show (0 : Int) ≤ _; omega⟩
      · unfold ownS at h
        obtain ⟨y, _, rfl⟩ := List.mem_map.1 h
        exact ⟨by show 2 < 256; omega, by show -9223372036854775808 ≤ (0 : Int); omega, by show (0 : Int) ≤ _; omega⟩
      · have h2 := hA e (List.mem_of_mem_take h)
        have h3 := (allS_of (n := n) (v := vwF n r x) (by omega) (List.mem_of_mem_take h)).1.1
        exact ⟨by omega, by omega, by omega⟩
      · split at h
        · obtain ⟨y, hy, rfl⟩ := List.mem_map.1 h
          have h2 := hA y (List.mem_of_mem_take hy)
          exact ⟨by show 4 < 256; omega, by show -9223372036854775808 ≤ y.f; omega, by show y.f ≤ _; omega⟩
        · cases h
    · cases h
  refine ⟨hk.1, by omega, by omega, by omega, by omega, hk.2⟩
theorem traces_ok {n : Nat} {runs : List Rn} (h1 : 1 ≤ n) (h6 : n ≤ 6) : ∀ es ∈ tracesD n runs, ∀ e ∈ es, EvOk e := fun es hes e he => by
  unfold tracesD at hes
  obtain ⟨j, _, rfl⟩ := List.mem_map.1 hes
  rw [traceX_gd] at he
  obtain ⟨r, hr, h⟩ := Gd.L_mem _ _ _ _ he
  exact segT_ok h1 h6 hr h
theorem sum_le_mul {l : List Nat} {c : Nat} (h : ∀ x ∈ l, x ≤ c) : l.sum ≤ l.length * c := by
  induction l with
  | nil => simp
  | cons a r ih =>
    have h1 := h a (List.mem_cons_self ..)
    have h2 := ih (fun x hx => h x (List.mem_cons_of_mem _ hx))
    rw [List.sum_cons, List.length_cons, Nat.succ_mul]
    omega
theorem traces_sum {n : Nat} {runs : List Rn} (h6 : n ≤ 6) : ((tracesD n runs).map List.length).sum ≤ 9000 := by
  have h := sum_le_mul (l := (tracesD n runs).map List.length) (c := 186) (fun x hx => by
    obtain ⟨es, hes, rfl⟩ := List.mem_map.1 hx
    unfold tracesD at hes
    obtain ⟨j, _, rfl⟩ := List.mem_map.1 hes
    have := traceX_len n runs (min runs.length 6) j
    omega)
  have hl : ((tracesD n runs).map List.length).length = n := by simp [tracesD]
  rw [hl] at h
  have : n * 186 ≤ 6 * 186 := Nat.mul_le_mul_right _ h6
  omega
end Go.Proofs.Ythnbijnpbjfoaaa
