/-
  A label of a row of one's own whose number is written over.
-/
import Derived.Test.YtdnhhbpnefhjlaaLSized
namespace Go.Proofs.Ytdnhhbpnefhjlaa
open Go.RowKit Go.Sort
set_option linter.unusedVariables false

theorem own_cap {w : World} {B n cap : Nat} {ao : Option Addr} {xs : List Value} (h : w.ownsRow B 26 4 (.slice ao n cap) n xs) : n ≤ cap ∧ (ao = none → n = 0 ∧ cap = 0) := by
  rcases h.2 with ⟨h0, h1⟩ | ⟨g, cap', cur, h0, _, _, h3, _⟩
  · simp only [Value.slice.injEq] at h0; exact ⟨by omega, fun _ => ⟨h1, h0.2.2⟩⟩
  · simp only [Value.slice.injEq] at h0
    obtain ⟨rfl, _, rfl⟩ := h0
    exact ⟨h3, fun e => by cases e⟩
theorem own_at {w : World} {B n cap : Nat} {ao : Option Addr} {xs : List Value} (h : w.ownsRow B 26 4 (.slice ao n cap) n xs) (hn : 0 < n) : ∃ g, ao = some ⟨g, 0, none⟩ := by
  rcases h.2 with ⟨h0, h1⟩ | ⟨g, cap', cur, h0, _⟩
  · omega
  · simp only [Value.slice.injEq] at h0
    exact ⟨g, h0.1⟩
theorem flat_seq (ls : List Lb) (i : Nat) (x : Lb) (s : Nat) (hi : ls[i]? = some x) : flat (ls.set i (x.1, x.2.1, s, x.2.2.2)) = (flat ls).set (i * 4 + 2) (.int .u64 (s : Nat)) := by
  obtain ⟨a, y, b, rfl, rfl⟩ : ∃ a y b, ls = a ++ y :: b ∧ i = a.length := by
    have hl := (List.getElem?_eq_some_iff.1 hi).1
    exact ⟨ls.take i, ls[i], ls.drop (i + 1), by simp, by rw [List.length_take]; omega⟩
  obtain rfl : y = x := by simpa using hi
  have e : (a ++ y :: b).set a.length (y.1, y.2.1, s, y.2.2.2) = a ++ (y.1, y.2.1, s, y.2.2.2) :: b := by simp
  have l1 := flat_len a
  rw [e, flat_app, flat_cons, flat_app, flat_cons, List.set_append_right _ _ (by omega), show a.length * 4 + 2 - (flat a).length = 2 by omega]
  rfl
theorem Blk.seq {w : World} {g cap : Nat} {cur : List Lb} (h : Blk w g cap cur) {i : Nat} {x : Lb} (hi : cur[i]? = some x) (s : Nat) :
    Blk (w.setCell ⟨g, i * 4 + 2, none⟩ (.int .u64 (s : Nat))) g cap (cur.set i (x.1, x.2.1, s, x.2.2.2)) := by
  obtain ⟨r, h1, h2⟩ := h
  have hl := flat_len cur
  have hil := (List.getElem?_eq_some_iff.1 hi).1
  refine ⟨r, ?_, ?_⟩
  · rw [setCell_eq_setRow w g (i * 4 + 2) _ 26 (0, 0) _ h1, setRow_heap _ _ _ _ _ _ h1]
    congr 3
    rw [flat_seq _ _ _ _ hi]
    apply Array.ext'
    rw [Array.toList_setIfInBounds, List.set_append_left _ _ (by omega)]
  · rw [← h2, List.length_append, List.length_append, flat_len, flat_len, List.length_set]
theorem Blk.free {w : World} {g cap : Nat} {cur : List Lb} (h : Blk w g cap cur) (j : Nat) : w.frozen? ⟨g, j, none⟩ = false := by
  obtain ⟨r, h1, h2⟩ := h
  simp [World.frozen?, h1]
theorem gr_set (w : World) (g j : Nat) (v : Value) : w.grownBy (w.setCell ⟨g, j, none⟩ v) (some g) := ⟨rfl, rfl, rfl, by simp [World.setCell], fun k _ hne => Below.heap_setCell _ _ _ _ (fun e => hne (by rw [e]))⟩
end Go.Proofs.Ytdnhhbpnefhjlaa
