/-
  A receiver beside the list of what waits.
-/
import Derived.Test.YtlifoojojclllaaVPart
import Derived.Deep.CutRange
import Derived.Deep.CutBlock
namespace Go.Proofs.Ytlifoojojclllaa.recvPlays
open Go.ChangeShapes Go.WideShapes Go.ChangeAt Go.RowKit
set_option linter.unusedVariables false

/-- A receiver that has these, and a list of one's own of those; a block b0 that is neither's. -/
structure Lp (w0 w : World) (q M nx : Nat) (qs : List Value) (lv : Value) (ls : List Value) (b0 : Nat) : Prop where
  ex : ∃ F, Rcv w 9 F q M nx qs ∧ Bes w0 w F lv ls
  lt : b0 < w.heap.size
  ne : lv.ownBlock ≠ some b0
def Wt (w0 w : World) (q M nx : Nat) (lv : Value) (ls : List Value) : Prop := ∃ F, Rcv w 9 F q M nx ls ∧ Bes w0 w F lv ls
section
variable {w0 w w' : World} {q M nx b0 : Nat} {lv : Value} {qs ls : List Value}
theorem Wt.still (h : Wt w0 w q M nx lv ls) (t : Turned (fun _ => False) w w') : Wt w0 w' q M nx lv ls := by
  obtain ⟨F, s, b⟩ := h
  exact ⟨F, s.still t, b.still t⟩
theorem Wt.turned (h : Wt w0 w q M nx lv ls) : Turned (fun _ => False) w0 w := by
  obtain ⟨F, s, b⟩ := h
  exact b.own.turned
theorem Wt.shape (h : Wt w0 w q M nx lv ls) : ∃ ao cap, lv = .slice ao ls.length cap := by
  obtain ⟨F, s, b⟩ := h
  exact b.lst.shape
theorem Wt.le (h : Wt w0 w q M nx lv ls) : ls.length ≤ M ∧ M ≤ 256 := by
  obtain ⟨F, s, b⟩ := h
  exact ⟨s.le.1, s.le.2.1⟩
theorem Wt.nought (h : Wt w0 w q M nx lv []) : Calls Try.prog 29 #[.pointer (some ⟨q, 0, none⟩)] w fun e w' => e = .returned (.tuple #[.string ⟨#[]⟩, .int .i64 6]) ∧ w = w' := by
  obtain ⟨F, s, b⟩ := h
  exact vtake_none s
theorem Wt.take {x : Value} (h : Wt w0 w q M nx lv (x :: ls)) : ∃ b off cap s, lv = .slice (some ⟨b, off, .none⟩) (ls.length + 1) cap ∧ ls.length + 1 ≤ cap ∧ x = .string s ∧ Calls Try.prog 29 #[.pointer (some ⟨q, 0, .none⟩)] w fun e w' => e = .returned (.tuple #[.string s, .int .i64 0]) ∧ w'.cell? ⟨b, off, .none⟩ = some (.string s) ∧ Hid (Wt w0 w' q M nx (.slice (some (if cap = 1 then ⟨b, off, .none⟩ else ⟨b, off + 1, .none⟩)) ls.length (cap - 1)) ls) := by
  obtain ⟨F, s, bs⟩ := h
  obtain ⟨b, off, cap, s', rfl, hc, rfl, hcell, hl⟩ := bs.lst.tail
  refine ⟨b, off, cap, s', rfl, hc, rfl, ?_⟩
  refine (vtake_any s).mono ?_
  rintro e w' ⟨rfl, F', r', g'⟩
  have b' := bs.goes g' r'.lt
  obtain ⟨b2, off2, cap2, s2, hv2, hc2, hs2, hcell2, hl2⟩ := b'.lst.tail
  obtain ⟨⟨rfl, rfl⟩, rfl⟩ : (b = b2 ∧ off = off2) ∧ cap = cap2 := by simpa using hv2
  obtain rfl : s' = s2 := by simpa using hs2
  exact ⟨rfl, hcell2, F', r', b'.cut hl2 (fun b' hb' => by split at hb' <;> exact hb')⟩
/-- An offer of what was handed in, behind a new block. -/
theorem Wt.offer (h : Wt w0 w q M nx lv ls) (o : Obj) (base : Nat) (hb : base ≤ nx) (hnx : nx < 1000000) (ao : Option Addr) (n cap : Nat) (ys : List Value) (hy : Tx w0 (.slice ao n cap) ys) (k : Nat) (hk : k = min (n - (nx - base)) (M - ls.length)) :
    Calls Try.prog 30 #[.pointer (some ⟨q, 0, none⟩), .int .u64 (base : Nat), .slice ao n cap] (w.alloc o) fun e w' => e = .returned (.tuple #[.int .i64 (k : Nat), .int .i64 0]) ∧ (∀ m, w'.cell? ⟨w.heap.size, m, none⟩ = (w.alloc o).cell? ⟨w.heap.size, m, none⟩) ∧ Lp w0 w' q M (nx + k) (ls ++ (ys.drop (nx - base)).take k) lv ls w.heap.size := by
  obtain ⟨F, s, b⟩ := h
  have t := (Turned.refl (fun _ => False) w).alloc o
  refine (offer_arg (s.still t) (b.still t).own base hb (by omega) ao n cap ys hy k hk).mono ?_
  rintro e w' ⟨he, F', r', o', g'⟩
  refine ⟨he, fun m => cell_block (g'.turned.block _ (by simp) (fun hf => by have := s.lt _ hf; omega)), ⟨⟨F', r', (b.still t).goes g' r'.lt⟩, ?_, fun e => by have := b.lst.lt _ e; omega⟩⟩
  have := g'.turned.size
  simp at this
  omega
theorem Wt.refuse (h : Wt w0 w q M nx lv ls) (base : Nat) (hb : nx < base) (v : Value) : Calls Try.prog 30 #[.pointer (some ⟨q, 0, none⟩), .int .u64 (base : Nat), v] w fun e w' => e = .returned (.tuple #[.int .i64 0, .int .i64 1]) ∧ w = w' := by
  obtain ⟨F, s, b⟩ := h
  exact voffer_err s base hb v
theorem Lp.turned (h : Lp w0 w q M nx qs lv ls b0) : Turned (fun _ => False) w0 w := by
  obtain ⟨⟨F, s, b⟩, _, _⟩ := h
  exact b.own.turned
theorem Lp.shape (h : Lp w0 w q M nx qs lv ls b0) : ∃ ao cap, lv = .slice ao ls.length cap := by
  obtain ⟨⟨F, s, b⟩, _, _⟩ := h
  exact b.lst.shape
theorem Lp.lst (h : Lp w0 w q M nx qs lv ls b0) : Lst w lv ls := by
  obtain ⟨⟨F, s, b⟩, _, _⟩ := h
  exact b.lst
theorem Lp.still (h : Lp w0 w q M nx qs lv ls b0) (t : Turned (fun _ => False) w w') : Lp w0 w' q M nx qs lv ls b0 := by
  obtain ⟨⟨F, s, b⟩, hl, hn⟩ := h
  exact ⟨⟨F, s.still t, b.still t⟩, Nat.lt_of_lt_of_le hl t.size, hn⟩
theorem Lp.appended {lv' : Value} {ls' : List Value} (h : Lp w0 w q M nx qs lv ls b0) (g : w.grownBy w' lv.ownBlock) (l : Lst w' lv' ls') (hb : ∀ b, lv'.ownBlock = some b → lv.ownBlock = some b ∨ w.heap.size ≤ b) : Lp w0 w' q M nx qs lv' ls' b0 ∧ ∀ k, w'.cell? ⟨b0, k, none⟩ = w.cell? ⟨b0, k, none⟩ := by
  obtain ⟨⟨F, s, b⟩, hl, hn⟩ := h
  refine ⟨⟨⟨F, b.rcv s g, b.appended g l hb⟩, Nat.lt_of_lt_of_le hl g.size, fun e => (hb _ e).elim hn (fun hle => by omega)⟩, fun k => cell_block (g.block _ hl (fun e => hn e.symm))⟩
theorem Lp.next (h : Lp w0 w q M nx qs lv ls b0) : Calls Try.prog 31 #[.pointer (some ⟨q, 0, none⟩)] w fun e w' => e = .returned (.int .u64 (nx : Nat)) ∧ w = w' := by
  obtain ⟨⟨F, s, b⟩, hl, hn⟩ := h
  exact vnext_any s
theorem Lp.len (h : Lp w0 w q M nx qs lv ls b0) : Calls Try.prog 32 #[.pointer (some ⟨q, 0, none⟩)] w fun e w' => e = .returned (.int .i64 (qs.length : Nat)) ∧ w = w' := by
  obtain ⟨⟨F, s, b⟩, hl, hn⟩ := h
  exact vlen_any s
theorem Lp.room (h : Lp w0 w q M nx qs lv ls b0) : Calls Try.prog 33 #[.pointer (some ⟨q, 0, none⟩)] w fun e w' => e = .returned (.int .i64 ((M : Int) - qs.length)) ∧ ∃ k, w' = w.drewN k := by
  obtain ⟨⟨F, s, b⟩, hl, hn⟩ := h
  exact vroom_any s
theorem Lp.wt (h : Lp w0 w q M nx ls lv ls b0) : Wt w0 w q M nx lv ls := h.ex
end
end Go.Proofs.Ytlifoojojclllaa.recvPlays
