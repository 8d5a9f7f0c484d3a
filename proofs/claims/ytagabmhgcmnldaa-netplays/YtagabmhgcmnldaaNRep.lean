/-
  How a net lies in memory, in plain data: how many nodes, whom each hears, the packets under way, how many were lost; and what of memory a call on it may turn.
-/
import Derived.Test.YtagabmhgcmnldaaNSet
namespace Go.Proofs.Ytagabmhgcmnldaa
open Go.RowKit
set_option linter.unusedVariables false

/-- A packet as it lies in the bag. -/
structure Px where
  f : Int
  t : Int
  g : Nat
  n : Nat
  t0 : Int
  t1 : Int
  k : Nat
def cellsP (x : Px) : List Value := [.int .i64 x.f, .int .i64 x.t, .slice (some ⟨x.g, 0, none⟩) x.n x.n, .int .i64 x.t0, .int .i64 x.t1, .int .i64 (x.k : Nat)]
def flat (ls : List Px) : List Value := ls.flatMap cellsP
theorem flat_len (ls : List Px) : (flat ls).length = ls.length * 6 := by
  induction ls with
  | nil => rfl
  | cons a r ih => simp [flat, cellsP] at ih ⊢; omega
theorem flat_cons (x : Px) (ls : List Px) : flat (x :: ls) = cellsP x ++ flat ls := by simp [flat]
theorem flat_app (a b : List Px) : flat (a ++ b) = flat a ++ flat b := by simp [flat]
theorem flat_one {ls : List Px} {u : Value} (h : u ∈ flat ls) : u.oneCell' = true := by
  obtain ⟨x, _, hx⟩ := List.mem_flatMap.1 h
  simp [cellsP] at hx
  rcases hx with rfl | rfl | rfl | rfl | rfl | rfl <;> rfl
theorem flat_get : ∀ (ls : List Px) (j : Nat) (x : Px) (i : Nat), ls[j]? = some x → i < 6 → (flat ls)[6 * j + i]? = (cellsP x)[i]?
  | [], j, x, i, h, hi => by simp at h
  | a :: r, 0, x, i, h, hi => by
    simp at h; subst h
    rw [flat_cons, List.getElem?_append_left (by simp [cellsP]; omega)]; simp
  | a :: r, j + 1, x, i, h, hi => by
    rw [flat_cons, List.getElem?_append_right (by simp [cellsP]; omega), show 6 * (j + 1) + i - (cellsP a).length = 6 * j + i by simp [cellsP]; omega]
    exact flat_get r j x i (by simpa using h) hi
theorem flat_set (ls : List Px) (i : Nat) (x : Px) (hi : i < ls.length) : flat (ls.set i x) = (flat ls).take (i * 6) ++ cellsP x ++ (flat ls).drop (i * 6 + 6) := by
  obtain ⟨a, y, b, rfl, rfl⟩ : ∃ a y b, ls = a ++ y :: b ∧ i = a.length := ⟨ls.take i, ls[i], ls.drop (i + 1), by simp, by rw [List.length_take]; omega⟩
  have l1 := flat_len a
  have e : (a ++ y :: b).set a.length x = a ++ x :: b := by simp
  rw [e, flat_app, flat_cons, flat_app, flat_cons]
  rw [List.take_append_of_le_length (by omega), List.take_of_length_le (by omega), List.drop_append, List.drop_of_length_le (by omega), show a.length * 6 + 6 - (flat a).length = (cellsP y).length by simp [cellsP]; omega]
  simp
theorem flat_turn (ls : List Px) (j : Nat) (x y : Px) (hj : ls[j]? = some x) (i : Nat) (hi : i < 6) (v : Value) (hc : (cellsP x).set i v = cellsP y) : (flat ls).set (6 * j + i) v = flat (ls.set j y) := by
  have hjl := (List.getElem?_eq_some_iff.1 hj).1
  obtain ⟨a, b, rfl, rfl⟩ : ∃ a b, ls = a ++ x :: b ∧ j = a.length := ⟨ls.take j, ls.drop (j + 1), by rw [← (List.getElem?_eq_some_iff.1 hj).2]; simp, by rw [List.length_take]; omega⟩
  have l1 := flat_len a
  have e : (a ++ x :: b).set a.length y = a ++ y :: b := by simp
  rw [e, flat_app, flat_cons, flat_app, flat_cons, ← hc, List.set_append, if_neg (by omega), List.set_append, if_pos (by simp [cellsP]; omega), show 6 * a.length + i - (flat a).length = i by omega]

/-- Bytes in a block of their own. -/
def By (w : World) (g : Nat) (xs : List UInt8) : Prop := w.heap[g]? = some (.cells (xs.map by8).toArray 5 (0, 0))
theorem By.lt {w : World} {g : Nat} {xs : List UInt8} (h : By w g xs) : g < w.heap.size := (Array.getElem?_eq_some_iff.1 h).1
theorem By.of {w w' : World} {g : Nat} {xs : List UInt8} (h : By w g xs) (e : w'.heap[g]? = w.heap[g]?) : By w' g xs := e.trans h
theorem By.row {w : World} {g : Nat} {xs : List UInt8} (h : By w g xs) (hm : xs.length ≤ maxLen) : Row w (some ⟨g, 0, none⟩) xs.length xs.length xs := by
  refine ⟨rfl, Nat.le_refl _, hm, fun e => (by cases e), fun a ha i hi => ?_⟩
  cases ha
  rw [Addr.add_lit, cell_of_row w g _ _ 5 _ h]
  simp [by8, List.getElem?_eq_getElem hi]
theorem By.cell {w : World} {g : Nat} {xs : List UInt8} (h : By w g xs) {j : Nat} (hj : j < xs.length) : w.cell? ⟨g, j, none⟩ = some (.int .u8 ((xs.getD j 0).toNat : Int)) := by
  rw [cell_of_row w g _ _ 5 _ h]
  simp [by8, List.getElem?_eq_getElem hj]
theorem By.free {w : World} {g : Nat} {xs : List UInt8} (h : By w g xs) (j : Nat) : w.frozen? ⟨g, j, none⟩ = false := by
  unfold By at h
  simp [World.frozen?, h]
theorem By.set {w : World} {g : Nat} {xs : List UInt8} (h : By w g xs) (j : Nat) (y : UInt8) : By (w.setCell ⟨g, j, none⟩ (.int .u8 (y.toNat : Int))) g (xs.set j y) := by
  unfold By at h ⊢
  rw [heap_setCell_same w g j _ 5 _ h]
  simp [by8, List.map_set]

/-- A packet under way: from whom, to whom, the bytes that were put, the bits that were turned. -/
structure Pa where
  f : Int
  t : Int
  xs : List UInt8
  ts : List Nat
def flip (xs : List UInt8) (b : Nat) : List UInt8 := xs.set (b / 8) (xs.getD (b / 8) 0 ^^^ UInt8.ofNat (2 ^ (b % 8)))
theorem flip_len (xs : List UInt8) (b : Nat) : (flip xs b).length = xs.length := by simp [flip]
/-- Its bytes by now. -/
def Pa.told (a : Pa) : List UInt8 := a.ts.foldl flip a.xs
theorem fold_len (ts : List Nat) : ∀ xs : List UInt8, (ts.foldl flip xs).length = xs.length := by
  induction ts with
  | nil => intro xs; rfl
  | cons b r ih => intro xs; rw [List.foldl_cons, ih, flip_len]
theorem Pa.told_len (a : Pa) : a.told.length = a.xs.length := fold_len _ _

structure PIs (w : World) (x : Px) (a : Pa) : Prop where
  f : x.f = a.f
  t : x.t = a.t
  by' : By w x.g a.xs
  n : x.n = a.xs.length
  k : x.k = a.ts.length
  k2 : a.ts.length ≤ 2
  t0 : ∀ b, a.ts[0]? = some b → x.t0 = (b : Nat)
  t1 : ∀ b, a.ts[1]? = some b → x.t1 = (b : Nat)
  lt : ∀ b ∈ a.ts, b / 8 < a.xs.length
  small : a.xs.length ≤ 140737488355328
theorem PIs.of {w w' : World} {x : Px} {a : Pa} (h : PIs w x a) (e : w'.heap[x.g]? = w.heap[x.g]?) : PIs w' x a := { h with by' := h.by'.of e }

/-- The cells of a net. -/
def ncell (N : Nat) (H : Nat → Nat) (sv : Value) (lost : Nat) (j : Nat) : Value := if j = 0 then .int .i64 (N : Nat) else if j < 17 then .int .u16 (H (j - 1) : Nat) else if j = 17 then sv else .int .i64 (lost : Nat)

/-- A net. -/
structure NetIs (w : World) (p N : Nat) (H : Nat → Nat) (sv : Value) (lost : Nat) (L : List Px) (A : List Pa) : Prop where
  obj : w.rowIs p 65 19 (ncell N H sv lost)
  bag : w.ownsRow 0 79 6 sv L.length (flat L)
  len : A.length = L.length
  pk : ∀ (j : Nat) x a, L[j]? = some x → A[j]? = some a → PIs w x a
  bp : sv.ownBlock ≠ some p
  xp : ∀ x ∈ L, x.g ≠ p ∧ sv.ownBlock ≠ some x.g
  n1 : 1 ≤ N
  n16 : N ≤ 16
  hs : ∀ k, H k < 65536
  most : L.length ≤ 4096
  lost' : lost ≤ 1000000

/-- Its blocks. -/
def Ft (p : Nat) (sv : Value) (L : List Px) (b : Nat) : Prop := b = p ∨ sv.ownBlock = some b ∨ ∃ x ∈ L, x.g = b

section
variable {w w' : World} {p N : Nat} {H : Nat → Nat} {sv : Value} {lost : Nat} {L : List Px} {A : List Pa}
theorem NetIs.get (h : NetIs w p N H sv lost L A) {x : Px} (hx : x ∈ L) : ∃ a, a ∈ A ∧ PIs w x a := by
  obtain ⟨j, hj⟩ := List.getElem?_of_mem hx
  have hl := (List.getElem?_eq_some_iff.1 hj).1
  have ha : A[j]? = some (A[j]'(by rw [h.len]; exact hl)) := List.getElem?_eq_getElem _
  exact ⟨_, List.mem_of_getElem? ha, h.pk j x _ hj ha⟩
theorem NetIs.lt (h : NetIs w p N H sv lost L A) : ∀ b, Ft p sv L b → b < w.heap.size := by
  rintro b (rfl | hb | ⟨x, hx, rfl⟩)
  · exact h.obj.lt
  · exact (h.bag.lt b hb).2
  · obtain ⟨a, _, ha⟩ := h.get hx
    exact ha.by'.lt
theorem row_block {base e size : Nat} {v : Value} {n : Nat} {xs : List Value} (h : w.ownsRow base e size v n xs) (hb : ∀ b, v.ownBlock = some b → w'.heap[b]? = w.heap[b]?) : w'.ownsRow base e size v n xs := by
  refine ⟨h.1, ?_⟩
  rcases h.2 with hn | ⟨g, cap, cur, rfl, hbg, hg, r⟩
  · exact .inl hn
  · exact .inr ⟨g, cap, cur, rfl, hbg, by rw [hb g rfl]; exact hg, r⟩
theorem NetIs.frame (h : NetIs w p N H sv lost L A) (hb : ∀ b, Ft p sv L b → w'.heap[b]? = w.heap[b]?) : NetIs w' p N H sv lost L A :=
  { h with
    obj := h.obj.of_block (hb p (.inl rfl))
    bag := row_block h.bag (fun b hbb => hb b (.inr (.inl hbb)))
    pk := fun j x a hx ha => (h.pk j x a hx ha).of (hb _ (.inr (.inr ⟨x, List.mem_of_getElem? hx, rfl⟩))) }
end

/-- From one state to another: nothing else has turned, and what is new of it is new. -/
structure Goes (F : Nat → Prop) (w : World) (F' : Nat → Prop) (w' : World) : Prop where
  turned : Turned F w w'
  foot : ∀ b, F' b → F b ∨ w.heap.size ≤ b
theorem Goes.refl (F : Nat → Prop) (w : World) : Goes F w F w := ⟨Turned.refl _ _, fun _ h => .inl h⟩
theorem Goes.trans {F F' F'' : Nat → Prop} {w w' w'' : World} (h : Goes F w F' w') (k : Goes F' w' F'' w'') : Goes F w F'' w'' :=
  ⟨h.turned.trans k.turned h.foot, fun b hb => (k.foot b hb).elim (h.foot b) (fun hle => .inr (Nat.le_trans h.turned.size hle))⟩

/-- A net with its blocks among F. -/
def Nt (w : World) (F : Nat → Prop) (p N : Nat) (H : Nat → Nat) (lost : Nat) (A : List Pa) : Prop :=
  (∃ sv L, NetIs w p N H sv lost L A ∧ ∀ b, Ft p sv L b → F b) ∧ ∀ b, F b → b < w.heap.size
section
variable {w w' : World} {F : Nat → Prop} {p N : Nat} {H : Nat → Nat} {lost : Nat} {A : List Pa}
theorem Nt.frame (h : Nt w F p N H lost A) (hs : w.heap.size ≤ w'.heap.size) (hb : ∀ b, F b → w'.heap[b]? = w.heap[b]?) : Nt w' F p N H lost A := by
  obtain ⟨⟨sv, L, h1, h2⟩, h3⟩ := h
  exact ⟨⟨sv, L, h1.frame (fun b hbb => hb b (h2 b hbb)), h2⟩, fun b hbb => Nat.lt_of_lt_of_le (h3 b hbb) hs⟩
theorem Nt.alloc (h : Nt w F p N H lost A) (o : Obj) : Nt (w.alloc o) F p N H lost A := h.frame (by simp) (fun b hb => Below.heap_alloc w o b (h.2 b hb))
theorem Nt.drewN (h : Nt w F p N H lost A) (q : Nat) : Nt (w.drewN q) F p N H lost A := h.frame (Nat.le_refl _) (fun _ _ => rfl)
theorem Nt.drew (h : Nt w F p N H lost A) : Nt w.drew F p N H lost A := h.frame (Nat.le_refl _) (fun _ _ => rfl)
theorem Nt.turned {G : Nat → Prop} (h : Nt w F p N H lost A) (t : Turned G w w') (hG : ∀ b, F b → ¬ G b) : Nt w' F p N H lost A := h.frame t.size (fun b hb => t.block b (h.2 b hb) (hG b hb))
theorem Nt.up (h : Nt w F p N H lost A) (u : Below w.heap.size w w') : Nt w' F p N H lost A := h.frame u.size (fun b hb => u.block b (h.2 b hb))
end
theorem tu_below {w w' : World} (h : Below w.heap.size w w') (F : Nat → Prop) : Turned F w w' := ⟨h.os, h.tape, h.output, h.size, fun k hk _ => h.block k hk⟩
theorem goes_below {F : Nat → Prop} {w w' : World} (h : Below w.heap.size w w') : Goes F w F w' := ⟨tu_below h F, fun _ h => .inl h⟩
theorem tu_grown {F : Nat → Prop} {w w' : World} {row : Option Nat} (h : w.grownBy w' row) (hr : ∀ k, row = some k → F k) : Turned F w w' :=
  ⟨h.os, h.tape, h.output, h.size, fun i hi hn => h.block i hi (fun e => hn (hr i e.symm))⟩
end Go.Proofs.Ytagabmhgcmnldaa
