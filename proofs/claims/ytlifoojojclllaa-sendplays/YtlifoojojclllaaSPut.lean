/-
  Lists of texts as they are put, and beginnings of them.
-/
import Derived.Test.YtlifoojojclllaaSArgs
namespace Go.Proofs.Ytlifoojojclllaa
open Go.RowKit
set_option linter.unusedVariables false

theorem Tx.len {w : World} {ao : Option Addr} {n cap : Nat} {xs : List Value} (h : Tx w (.slice ao n cap) xs) : n = xs.length ∧ n ≤ cap ∧ cap ≤ 9223372036854775807 := by
  obtain ⟨ao', cap', hv, h1, h2, h3, h4⟩ := h
  obtain ⟨rfl, rfl, rfl⟩ : ao = ao' ∧ n = xs.length ∧ cap = cap' := by simpa using hv
  exact ⟨rfl, h1, h2⟩
theorem take_snoc {xs : List Value} {i : Nat} {x : Value} (h : xs[i]? = some x) : xs.take (i + 1) = xs.take i ++ [x] := by
  rw [List.take_add_one, h]; rfl
theorem app_snoc {xs ys : List Value} {i : Nat} {x : Value} (h : ys[i]? = some x) : xs ++ ys.take (i + 1) = (xs ++ ys.take i) ++ [x] := by
  rw [take_snoc h, List.append_assoc]
theorem take_len {xs : List Value} {i : Nat} (h : i ≤ xs.length) : (xs.take i).length = i := by rw [List.length_take]; omega
/-- The first so many of a list of one's own, as a slice tells them. -/
theorem lst_take {w : World} {ao : Option Addr} {L cap : Nat} {xs : List Value} (h : Lst w (.slice ao L cap) xs) (n : Nat) (hn : n ≤ xs.length) : L = xs.length ∧ n ≤ cap ∧ (∀ a, ao = some a → a.spot = none) ∧ Lst w (.slice ao n cap) (xs.take n) := by
  have hsp : ∀ a, ao = some a → a.spot = none := by
    rintro a rfl
    obtain ⟨_, ao, cap, hv, ⟨rfl, rfl, rfl⟩ | ⟨b', off, N, f, rfl, hr, _⟩⟩ := h
    · simp at hv
    · have : a = ⟨b', off, none⟩ := by simp at hv; exact hv.1
      rw [this]
  obtain ⟨ao', cap', hv, hc, hl⟩ := h.take n hn
  obtain ⟨rfl, rfl, rfl⟩ : ao = ao' ∧ L = xs.length ∧ cap = cap' := by simpa using hv
  exact ⟨rfl, by omega, hsp, hl⟩
end Go.Proofs.Ytlifoojojclllaa
