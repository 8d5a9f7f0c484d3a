/-
  A ring and a plain list beside one another.
-/
import Derived.Test.YtipgmdeehmjokaaRList
namespace Go.Proofs.Ytipgmdeehmjokaa
open Go.RowKit
set_option linter.unusedVariables false

structure St (w0 w : World) (p : Nat) (sv : Value) (most first : Nat) (xs : List Value) (lv : Value) (ls : List Value) : Prop where
  ring : Ring w 9 p sv most first xs
  own : Own w0 w p sv
  lst : Lst w lv ls
  sep : ∀ b, lv.ownBlock = some b → w0.heap.size ≤ b ∧ ¬ Foot p sv b

section
variable {w0 w w' : World} {p : Nat} {sv : Value} {most first : Nat} {xs : List Value} {lv : Value} {ls : List Value}
theorem St.goes {sv' : Value} {first' : Nat} {xs' : List Value} (h : St w0 w p sv most first xs lv ls) (g : Goes p sv w sv' w') (r : Ring w' 9 p sv' most first' xs') : St w0 w' p sv' most first' xs' lv ls where
  ring := r
  own := h.own.goes g
  lst := h.lst.turned g.turned (fun b hb => (h.sep b hb).2)
  sep := fun b hb => ⟨(h.sep b hb).1, fun hf => (g.foot b hf).elim (h.sep b hb).2 (fun hle => by have := h.lst.lt b hb; omega)⟩
theorem St.still (h : St w0 w p sv most first xs lv ls) (t : Turned (fun _ => False) w w') : St w0 w' p sv most first xs lv ls where
  ring := h.ring.turned t (fun _ _ hf => hf)
  own := h.own.on t (fun _ hf => hf.elim)
  lst := h.lst.turned t (fun _ _ hf => hf)
  sep := h.sep
theorem St.appended {lv' : Value} {ls' : List Value} (h : St w0 w p sv most first xs lv ls) (g : w.grownBy w' lv.ownBlock) (hl : Lst w' lv' ls') (hb : ∀ b, lv'.ownBlock = some b → lv.ownBlock = some b ∨ w.heap.size ≤ b) : St w0 w' p sv most first xs lv' ls' := by
  have t : Turned (fun b => lv.ownBlock = some b) w w' := ⟨g.os, g.tape, g.output, g.size, fun k hk hn => g.block k hk (fun e => hn e.symm)⟩
  exact {
    ring := h.ring.turned t (fun b hf hb => (h.sep b hb).2 hf)
    own := h.own.on t (fun b hb => (h.sep b hb).1)
    lst := hl
    sep := fun b hbb => (hb b hbb).elim (h.sep b) (fun hle => ⟨Nat.le_trans h.own.turned.size hle, fun hf => by have := h.ring.foot_lt b hf; omega⟩) }
theorem St.cut {lv' : Value} {ls' : List Value} (h : St w0 w p sv most first xs lv ls) (hl : Lst w lv' ls') (hb : ∀ b, lv'.ownBlock = some b → lv.ownBlock = some b) : St w0 w p sv most first xs lv' ls' where
  ring := h.ring
  own := h.own
  lst := hl
  sep := fun b hbb => h.sep b (hb b hbb)
theorem Lst.shape (h : Lst w lv ls) : ∃ ao cap, lv = .slice ao ls.length cap := by
  obtain ⟨_, ao, cap, rfl, _⟩ := h
  exact ⟨ao, cap, rfl⟩
end

/-- First, however many are asked for, as a list of texts. -/
theorem firsts_int {w : World} {p : Nat} {sv : Value} {most first : Nat} {xs : List Value} (h : Ring w 9 p sv most first xs) (hs : ∀ x ∈ xs, ∃ s, x = .string s) (N : Int) (n : Nat) (hn : n = min N.toNat xs.length) :
    Calls Try.prog 14 #[.pointer (some ⟨p, 0, none⟩), .int .i64 N] w fun e w' => ∃ v', e = .returned v' ∧ Strs w' v' (xs.take n) ∧ Turned (fun _ => False) w w' := by
  by_cases h0 : N ≤ 0
  · refine (firstS_zero (w := w) (p := p) N h0).mono ?_
    rintro e w' ⟨rfl, rfl⟩
    obtain rfl : n = 0 := by omega
    exact ⟨_, rfl, ⟨none, 0, by simp, fun j x hj => by simp at hj⟩, Turned.refl _ _⟩
  · obtain ⟨i, rfl⟩ : ∃ i : Nat, N = i := ⟨N.toNat, by omega⟩
    refine (firstS_any h i (by omega)).mono ?_
    rintro e w' ⟨m, g, hm, rfl, hr, hg, ht⟩
    obtain rfl : n = m := by rw [hn, hm, Int.toNat_natCast]
    refine ⟨_, rfl, ⟨some ⟨w.heap.size, 0, none⟩, n, by rw [List.length_take]; congr 1; omega, fun j x hj => ?_⟩, ht⟩
    rw [List.getElem?_take] at hj
    split at hj
    · next hlt =>
      obtain ⟨s, rfl⟩ := hs x (List.mem_of_getElem? hj)
      exact ⟨s, _, rfl, rfl, by rw [add_flat, Nat.zero_add, hr.cell hlt, hg j _ hlt hj]⟩
    · cases hj
end Go.Proofs.Ytipgmdeehmjokaa
