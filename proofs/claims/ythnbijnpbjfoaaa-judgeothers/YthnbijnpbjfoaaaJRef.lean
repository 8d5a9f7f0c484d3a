/-
  The document's Total.
-/
import Derived.Test.YthnbijnpbjfoaaaJOne
namespace Go.Proofs.Ythnbijnpbjfoaaa
open Go.RowKit Go.Sort
set_option linter.unusedVariables false

set_option maxRecDepth 10000 in
theorem refTotal_any (w : World) (ao : Option Addr) (m c1 : Nat) (acc : List (List By)) (h : Bss w ao m acc) (bo : Option Addr) (n c2 : Nat) (del : List (List Di)) (g : Iss w bo n del) (hs : ∀ l ∈ del, l.length ≤ 9000) :
    Calls Try.prog 12 #[.slice ao m c1, .slice bo n c2] w fun e w' => TotPost w acc del e w' := by
  have ho := one_any w ao m c1 acc h bo n c2 del g hs
  clear h g
  go_enter Try.func12, Try.ntmps12
  go_wp2_with fail
  refine ho.mono ?_
  rintro e w1 ⟨hp, b1⟩
  have HB : Hid (Below w.heap.size w w1) := b1
  rcases hp with ⟨r, S, rfl, h1, h2⟩ | ⟨r, rfl, h1, h2⟩
  · have HH : Hid (Its (fun _ => True) w1 r.1 r.2.1 S ∧ SeqOk acc del S) := ⟨h1, h2⟩
    clear h1 h2 ho b1
    go_wp2
    go_ret2
    exact ⟨.inl ⟨r, S, rfl, HH.out⟩, HB.out⟩
  · have HH : Hid (Its (fun _ => True) w1 r.1 r.2.1 [] ∧ ¬ ∃ S, SeqOk acc del S) := ⟨h1, h2⟩
    clear h1 h2 ho b1
    go_wp2
    go_ret2
    exact ⟨.inr ⟨r, rfl, HH.out⟩, HB.out⟩
def sumL (del : List (List Di)) (k : Nat) : Nat := ((del.take k).map List.length).sum
theorem sumL_zero (del : List (List Di)) : sumL del 0 = 0 := by simp [sumL]
theorem sumL_step {del : List (List Di)} {k : Nat} {l : List Di} (h : del[k]? = some l) : sumL del (k + 1) = sumL del k + l.length := by
  unfold sumL
  rw [List.take_add_one, h]
  simp
theorem sumL_mem : ∀ {del : List (List Di)} {l : List Di} {n : Nat}, l ∈ del → del.length ≤ n → l.length ≤ sumL del n
  | [], l, n, h, _ => by simp at h
  | a :: r, l, 0, h, hn => by simp at hn
  | a :: r, l, n + 1, h, hn => by
    have hs : sumL (a :: r) (n + 1) = a.length + sumL r n := by simp [sumL]
    rw [hs]
    rcases List.mem_cons.1 h with rfl | h
    · omega
    · have := sumL_mem (n := n) h (by simpa using hn)
      omega
theorem sumL_le : ∀ (del : List (List Di)) (k : Nat), (∀ l ∈ del, l.length ≤ 4398046511104) → sumL del k ≤ k * 4398046511104
  | _, 0, _ => by simp [sumL]
  | [], k + 1, _ => by simp [sumL]
  | a :: r, k + 1, h => by
    have hs : sumL (a :: r) (k + 1) = a.length + sumL r k := by simp [sumL]
    have ih := sumL_le r k (fun l hl => h l (List.mem_cons_of_mem _ hl))
    have := h a List.mem_cons_self
    rw [hs, Nat.succ_mul]
    omega
theorem Iss.lens {w : World} {ao : Option Addr} {n : Nat} {del : List (List Di)} (h : Iss w ao n del) : ∀ l ∈ del, l.length ≤ 4398046511104 := fun l hl => by
  obtain ⟨k, hk, rfl⟩ := List.mem_iff_getElem.1 hl
  obtain ⟨_, _, r, _, _, _, hi⟩ := h.at (List.getElem?_eq_getElem hk)
  have := hi.len
  have := hi.le
  omega
end Go.Proofs.Ythnbijnpbjfoaaa
