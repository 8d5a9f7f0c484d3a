/-
  A stretch of a list; a list of one's own beside an object.
-/
import Derived.Test.YtlifoojojclllaaSPut
namespace Go.Proofs.Ytlifoojojclllaa
open Go.RowKit
set_option linter.unusedVariables false

def seg (xs : List Value) (G P : Nat) : List Value := (xs.drop G).take (P - G)
theorem seg_len {xs : List Value} {G P : Nat} (h : P ≤ xs.length) : (seg xs G P).length = P - G := by unfold seg; rw [List.length_take, List.length_drop]; omega
theorem seg_snoc {xs : List Value} {G P : Nat} {x : Value} (h : xs[P]? = some x) (hg : G ≤ P) : seg xs G (P + 1) = seg xs G P ++ [x] := by
  unfold seg
  rw [show P + 1 - G = (P - G) + 1 by omega]
  exact take_snoc (by rw [List.getElem?_drop, show G + (P - G) = P by omega]; exact h)
theorem seg_drop (xs : List Value) (G P d : Nat) : (seg xs G P).drop d = seg xs (G + d) P := by
  unfold seg
  rw [List.drop_take, List.drop_drop, show P - G - d = P - (G + d) by omega]
theorem seg_take {xs : List Value} {G P d : Nat} (h : G + d ≤ P) : xs.take G ++ (seg xs G P).take d = xs.take (G + d) := by
  unfold seg
  rw [List.take_take, Nat.min_eq_left (by omega), List.take_add]
theorem seg_txt {xs : List Value} (h : ∀ x ∈ xs, ∃ s, x = .string s) (G P : Nat) : ∀ x ∈ seg xs G P, ∃ s, x = .string s := fun x hx => h x (List.mem_of_mem_drop (List.mem_of_mem_take hx))

/-- A list of one's own beside an object of one's own. -/
structure Bes (w0 w : World) (F : Nat → Prop) (lv : Value) (ls : List Value) : Prop where
  own : Own w0 w F
  lt : ∀ b, F b → b < w.heap.size
  lst : Lst w lv ls
  sep : ∀ b, lv.ownBlock = some b → w0.heap.size ≤ b ∧ ¬ F b
section
variable {w0 w w' : World} {F F' : Nat → Prop} {lv : Value} {ls : List Value}
theorem Bes.goes (h : Bes w0 w F lv ls) (g : Goes2 F w F' w') (hl : ∀ b, F' b → b < w'.heap.size) : Bes w0 w' F' lv ls where
  own := h.own.goes g
  lt := hl
  lst := (h.lst.goes g (fun b hb => (h.sep b hb).2)).1
  sep := fun b hb => ⟨(h.sep b hb).1, (h.lst.goes g (fun b hb => (h.sep b hb).2)).2 b hb⟩
theorem Bes.still (h : Bes w0 w F lv ls) (t : Turned (fun _ => False) w w') : Bes w0 w' F lv ls where
  own := h.own.still t
  lt := fun b hb => Nat.lt_of_lt_of_le (h.lt b hb) t.size
  lst := h.lst.still t
  sep := h.sep
theorem Bes.drewN (h : Bes w0 w F lv ls) (k : Nat) : Bes w0 (w.drewN k) F lv ls := h.still ((Turned.refl _ _).drewN k)
theorem grown_turned (g : w.grownBy w' lv.ownBlock) : Turned (fun b => lv.ownBlock = some b) w w' := ⟨g.os, g.tape, g.output, g.size, fun k hk hn => g.block k hk (fun e => hn e.symm)⟩
theorem Bes.appended {lv' : Value} {ls' : List Value} (h : Bes w0 w F lv ls) (g : w.grownBy w' lv.ownBlock) (hl : Lst w' lv' ls') (hb : ∀ b, lv'.ownBlock = some b → lv.ownBlock = some b ∨ w.heap.size ≤ b) : Bes w0 w' F lv' ls' where
  own := h.own.on (grown_turned g) (fun b hb => (h.sep b hb).1)
  lt := fun b hb => Nat.lt_of_lt_of_le (h.lt b hb) g.size
  lst := hl
  sep := fun b hbb => (hb b hbb).elim (h.sep b) (fun hle => ⟨Nat.le_trans h.own.turned.size hle, fun hf => by have := h.lt b hf; omega⟩)
/-- The object stays where the list beside it grows. -/
theorem Bes.snd {e : TypeId} {q most win ack : Nat} {xs : List Value} (h : Bes w0 w F lv ls) (s : Snd w e F q most win ack xs) (g : w.grownBy w' lv.ownBlock) : Snd w' e F q most win ack xs := s.turned (grown_turned g) (fun b hb hf => (h.sep b hf).2 hb)
theorem Bes.rcv {e : TypeId} {q most next : Nat} {xs : List Value} (h : Bes w0 w F lv ls) (s : Rcv w e F q most next xs) (g : w.grownBy w' lv.ownBlock) : Rcv w' e F q most next xs := s.turned (grown_turned g) (fun b hb hf => (h.sep b hf).2 hb)
theorem Bes.cut {lv' : Value} {ls' : List Value} (h : Bes w0 w F lv ls) (hl : Lst w lv' ls') (hb : ∀ b, lv'.ownBlock = some b → lv.ownBlock = some b) : Bes w0 w F lv' ls' where
  own := h.own
  lt := h.lt
  lst := hl
  sep := fun b hbb => h.sep b (hb b hbb)
end
theorem bes_new {w0 w : World} {F : Nat → Prop} (o : Own w0 w F) (hl : ∀ b, F b → b < w.heap.size) : Bes w0 w F (.slice none 0 0) [] := ⟨o, hl, lst_nil _, fun b hb => by cases hb⟩
end Go.Proofs.Ytlifoojojclllaa
