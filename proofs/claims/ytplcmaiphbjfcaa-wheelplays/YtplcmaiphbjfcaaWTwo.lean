/-
  Two wheels that are told the same.
-/
import Derived.Test.YtplcmaiphbjfcaaWActs
namespace Go.Proofs.Ytplcmaiphbjfcaa
open Go.RowKit
set_option linter.unusedVariables false

/-- Timers, each with the time from a first tick on at which it is due; and so from a tick on. -/
def from_ (a : Nat) (X : List (Int × Nat)) : List (Int × Nat) := X.map (fun x => (x.1, a + x.2))
theorem from_arm (a : Nat) (X : List (Int × Nat)) (id : Int) (d : Nat) : (from_ a X).filter (fun x => decide (x.1 ≠ id)) ++ [(id, a + d)] = from_ a (X.filter (fun x => decide (x.1 ≠ id)) ++ [(id, d)]) := by
  unfold from_
  rw [List.map_append, List.filter_map]
  rfl
theorem from_cancel (a : Nat) (X : List (Int × Nat)) (id : Int) : (from_ a X).filter (fun x => decide (x.1 ≠ id)) = from_ a (X.filter (fun x => decide (x.1 ≠ id))) := by
  unfold from_
  rw [List.filter_map]
  rfl
theorem from_lookup (a : Nat) (id : Int) : ∀ X : List (Int × Nat), errOf ((from_ a X).lookup id) = errOf (X.lookup id)
  | [] => rfl
  | x :: X => by
    unfold from_
    rw [List.map_cons, List.lookup_cons, List.lookup_cons]
    cases h : id == x.1 with
    | true => rfl
    | false => exact from_lookup a id X
theorem from_due (a t : Nat) (X : List (Int × Nat)) : dueAt (from_ a X) (a + t) = dueAt X t := by
  unfold dueAt from_
  rw [List.filter_map, List.map_map]
  congr 1
  apply List.filter_congr
  intro x _
  simp
theorem from_left (a t : Nat) (X : List (Int × Nat)) : leftAt (from_ a X) (a + t) = from_ a (leftAt X t) := by
  unfold leftAt from_
  rw [List.filter_map]
  congr 1
  apply List.filter_congr
  intro x _
  simp
theorem from_length (a : Nat) (X : List (Int × Nat)) : (from_ a X).length = X.length := by unfold from_; simp

theorem Wh.len_le {w : World} {p m : Nat} {V : Nat → Value} {now arms : Nat} {A : List (Int × Nat)} (h : Wh w p m V now arms A) : A.length ≤ arms := by
  obtain ⟨n, T, S, L, h1, h2, rfl⟩ := h
  rw [List.length_map, h2.len]
  exact h2.le

structure Two (w0 w : World) (p m : Nat) (V : Nat → Value) (na ra : Nat) (A : List (Int × Nat)) (p' m' : Nat) (V' : Nat → Value) (nb rb : Nat) (B : List (Int × Nat)) : Prop where
  one : Wh w p m V na ra A
  two : Wh w p' m' V' nb rb B
  f1 : Fresh w0 w p m V
  f2 : Fresh w0 w p' m' V'
  sep : ∀ b, Foot p m V b → ¬ Foot p' m' V' b
theorem Two.swap {w0 w : World} {p m : Nat} {V : Nat → Value} {na ra : Nat} {A : List (Int × Nat)} {p' m' : Nat} {V' : Nat → Value} {nb rb : Nat} {B : List (Int × Nat)} (h : Two w0 w p m V na ra A p' m' V' nb rb B) : Two w0 w p' m' V' nb rb B p m V na ra A :=
  ⟨h.two, h.one, h.f2, h.f1, fun b hb hb' => h.sep b hb' hb⟩
theorem Two.first {w0 w w2 : World} {p m : Nat} {V V2 : Nat → Value} {na ra na' ra' : Nat} {A A' : List (Int × Nat)} {p' m' : Nat} {V' : Nat → Value} {nb rb : Nat} {B : List (Int × Nat)} (h : Two w0 w p m V na ra A p' m' V' nb rb B)
    (k : Wh w2 p m V2 na' ra' A') (g : Goes p m V w V2 w2) : Two w0 w2 p m V2 na' ra' A' p' m' V' nb rb B where
  one := k
  two := h.two.frame (fun b hb => g.turned.block b (h.two.foot_lt b hb) (fun hf => h.sep b hf hb))
  f1 := h.f1.goes g
  f2 := ⟨(h.f1.goes g).turned, h.f2.foot⟩
  sep := fun b hb hb' => (g.foot b hb).elim (fun h1 => h.sep b h1 hb') (fun hle => by have := h.two.foot_lt b hb'; omega)
theorem Two.other {w0 w w2 : World} {p m : Nat} {V : Nat → Value} {na ra : Nat} {A : List (Int × Nat)} {p' m' : Nat} {V' : Nat → Value} {nb rb : Nat} {B : List (Int × Nat)} (h : Two w0 w p m V na ra A p' m' V' nb rb B)
    (t : Turned (fun _ => False) w w2) : Two w0 w2 p m V na ra A p' m' V' nb rb B where
  one := h.one.frame (fun b hb => t.block b (h.one.foot_lt b hb) (fun f => f))
  two := h.two.frame (fun b hb => t.block b (h.two.foot_lt b hb) (fun f => f))
  f1 := ⟨h.f1.turned.trans t (fun i hi => .inl hi), h.f1.foot⟩
  f2 := ⟨h.f1.turned.trans t (fun i hi => .inl hi), h.f2.foot⟩
  sep := h.sep
/-- A block that is neither wheel's is left as it is. -/
theorem Goes.kept {p m : Nat} {V V' : Nat → Value} {w w' : World} (g : Goes p m V w V' w') {b : Nat} (hb : b < w.heap.size) (hf : ¬ Foot p m V b) : w'.heap[b]? = w.heap[b]? ∧ ¬ Foot p m V' b :=
  ⟨g.turned.block b hb hf, fun h => (g.foot b h).elim hf (fun hle => by omega)⟩

/-- A variable of the caller's own, beside two wheels. -/
structure Bx (w : World) (bx : Nat) (v : Value) (p m : Nat) (V : Nat → Value) (p' m' : Nat) (V' : Nat → Value) : Prop where
  lt : bx < w.heap.size
  cell : w.cell? ⟨bx, 1, none⟩ = some v
  no1 : ¬ Foot p m V bx
  no2 : ¬ Foot p' m' V' bx
theorem Bx.swap {w : World} {bx : Nat} {v : Value} {p m : Nat} {V : Nat → Value} {p' m' : Nat} {V' : Nat → Value} (h : Bx w bx v p m V p' m' V') : Bx w bx v p' m' V' p m V := ⟨h.lt, h.cell, h.no2, h.no1⟩
theorem Bx.goes {w w2 : World} {bx : Nat} {v : Value} {p m : Nat} {V V2 : Nat → Value} {p' m' : Nat} {V' : Nat → Value} (h : Bx w bx v p m V p' m' V') (g : Goes p m V w V2 w2) : Bx w2 bx v p m V2 p' m' V' :=
  ⟨Nat.lt_of_lt_of_le h.lt g.turned.size, by rw [cell_block (g.kept h.lt h.no1).1]; exact h.cell, (g.kept h.lt h.no1).2, h.no2⟩

theorem arm_two {w0 w : World} {p m : Nat} {V : Nat → Value} {a t r : Nat} {X : List (Int × Nat)} {p' m' : Nat} {V' : Nat → Value} {nb rb : Nat} {B : List (Int × Nat)} {bx : Nat} {v : Value} (h : Two w0 w p m V (a + t) r (from_ a X) p' m' V' nb rb B) (hb : Bx w bx v p m V p' m' V')
    (hr : r < 4294967295) {id : Int} (hid : In id) {inn : Nat} (hin : 0 < inn) (hle : a + t + inn ≤ 1152921504606846976) :
    Calls Try.prog 12 #[.pointer (some ⟨p, 0, none⟩), .int .i64 id, .int .u64 (inn : Nat)] w fun e w' => e = .returned (.int .i64 0) ∧ ∃ V2, Two w0 w' p m V2 (a + t) (r + 1) (from_ a (X.filter (fun x => decide (x.1 ≠ id)) ++ [(id, t + inn)])) p' m' V' nb rb B ∧ Bx w' bx v p m V2 p' m' V' := by
  refine (arm_any w p m V (a + t) r _ h.one hr id hid inn hin hle).mono ?_
  rintro e w' ⟨he, V2, k, g⟩
  rw [Nat.add_assoc, from_arm] at k
  exact ⟨he, V2, h.first k g, hb.goes g⟩
theorem arm_two_err {w0 w : World} {p m : Nat} {V : Nat → Value} {na r : Nat} {A : List (Int × Nat)} {p' m' : Nat} {V' : Nat → Value} {nb rb : Nat} {B : List (Int × Nat)} (h : Two w0 w p m V na r A p' m' V' nb rb B) (id : Int) :
    Calls Try.prog 12 #[.pointer (some ⟨p, 0, none⟩), .int .i64 id, .int .u64 0] w fun e w' => e = .returned (.int .i64 1) ∧ w = w' :=
  arm_err w p m V na r A h.one id 0 (by omega) (.inl rfl)
theorem cancel_two {w0 w : World} {p m : Nat} {V : Nat → Value} {a t r : Nat} {X : List (Int × Nat)} {p' m' : Nat} {V' : Nat → Value} {nb rb : Nat} {B : List (Int × Nat)} {bx : Nat} {v : Value} (h : Two w0 w p m V (a + t) r (from_ a X) p' m' V' nb rb B) (hb : Bx w bx v p m V p' m' V')
    (hr : r < 4294967296) {id : Int} (hid : In id) :
    Calls Try.prog 14 #[.pointer (some ⟨p, 0, none⟩), .int .i64 id] w fun e w' => e = .returned (.int .i64 (errOf (X.lookup id))) ∧ ∃ V2, Two w0 w' p m V2 (a + t) r (from_ a (X.filter (fun x => decide (x.1 ≠ id)))) p' m' V' nb rb B ∧ Bx w' bx v p m V2 p' m' V' := by
  refine (cancel_any w p m V (a + t) r _ h.one hr id hid).mono ?_
  rintro e w' ⟨he, V2, k, g⟩
  rw [from_lookup] at he
  rw [from_cancel] at k
  exact ⟨he, V2, h.first k g, hb.goes g⟩
theorem tick_two {w0 w : World} {p m : Nat} {V : Nat → Value} {a t r : Nat} {X : List (Int × Nat)} {p' m' : Nat} {V' : Nat → Value} {nb rb : Nat} {B : List (Int × Nat)} (h : Two w0 w p m V (a + t) r (from_ a X) p' m' V' nb rb B) (hr : r < 4294967296) (hle : a + t < 1152921504606846976) :
    Calls Try.prog 16 #[.pointer (some ⟨p, 0, none⟩)] w fun e w' => ∃ v V2, e = .returned (.tuple #[v, .int .i64 0]) ∧ Ints w' v (dueAt X (t + 1)) ∧ Two w0 w' p m V2 (a + (t + 1)) r (from_ a (leftAt X (t + 1))) p' m' V' nb rb B ∧
      (∀ b, v.ownBlock = some b → w.heap.size ≤ b ∧ b < w'.heap.size ∧ ¬ Foot p m V2 b ∧ ¬ Foot p' m' V' b) ∧ w.heap.size ≤ w'.heap.size ∧ Goes p m V w V2 w' := by
  refine (tick_wh w p m V (a + t) r _ h.one hle hr).mono ?_
  rintro e w' ⟨v, V2, he, hrow, k, g, hno⟩
  rw [Nat.add_assoc, from_due] at hrow
  rw [Nat.add_assoc, from_left] at k
  exact ⟨v, V2, he, row_base hrow (Nat.zero_le _), h.first k g, fun b hb => ⟨(hrow.lt b hb).1, (hrow.lt b hb).2, hno b hb, fun hf => by have := h.two.foot_lt b hf; have := (hrow.lt b hb).1; omega⟩, g.turned.size, g⟩
end Go.Proofs.Ytplcmaiphbjfcaa
