/-
  The wheel's calls, against the document's list of timers: New, Now, Len, Due, Cancel, Arm.
-/
import Derived.Test.YtofhkfbibdkjgaaWTick
namespace Go.Proofs.Ytofhkfbibdkjgaa
open Go.RowKit
set_option linter.unusedVariables false

/-- A wheel holds these timers, by how they were armed: each with the tick at which it is due. -/
def Wh (w : World) (p m : Nat) (V : Nat → Value) (now arms : Nat) (A : List (Int × Nat)) : Prop :=
  ∃ n T S L, Rep w p m V now arms n T S ∧ Ok now arms n T S L ∧ A = L.map (fun i => (i, dueOf T i))

theorem Wh.frame {w w' : World} {p m : Nat} {V : Nat → Value} {now arms : Nat} {A : List (Int × Nat)} (h : Wh w p m V now arms A) (hb : ∀ b, Foot p m V b → w'.heap[b]? = w.heap[b]?) : Wh w' p m V now arms A := by
  obtain ⟨n, T, S, L, h1, h2, h3⟩ := h
  exact ⟨n, T, S, L, h1.frame hb, h2, h3⟩
theorem Wh.foot_lt {w : World} {p m : Nat} {V : Nat → Value} {now arms : Nat} {A : List (Int × Nat)} (h : Wh w p m V now arms A) : ∀ b, Foot p m V b → b < w.heap.size := by
  obtain ⟨n, T, S, L, h1, h2, h3⟩ := h
  exact h1.foot_lt
theorem Wh.alloc {w : World} {p m : Nat} {V : Nat → Value} {now arms : Nat} {A : List (Int × Nat)} (h : Wh w p m V now arms A) (o : Obj) : Wh (w.alloc o) p m V now arms A :=
  h.frame (fun b hb => Below.heap_alloc w o b (h.foot_lt b hb))

theorem lookup_map (f : Int → Nat) (id : Int) (L : List Int) : (L.map (fun i => (i, f i))).lookup id = if id ∈ L then some (f id) else none := by
  induction L with
  | nil => rfl
  | cons a L ih =>
    rw [List.map_cons, List.lookup_cons]
    by_cases e : id = a
    · subst e; simp
    · have : (id == a) = false := by simpa using e
      rw [this, ih]
      by_cases c : id ∈ L <;> simp [c, e]
theorem lookup_T {now arms n : Nat} {T : Int → Option Tm} {S : Nat → List Int} {L : List Int} (h : Ok now arms n T S L) (id : Int) : (L.map (fun i => (i, dueOf T i))).lookup id = (T id).map (·.due) := by
  rw [lookup_map]
  cases e : T id with
  | none => rw [if_neg (by rw [h.mem, e]; simp)]; rfl
  | some t => rw [if_pos (by rw [h.mem, e]; rfl), dueOf_some e]; rfl

def errOf : Option Nat → Int
  | some _ => 0
  | none => 6

set_option maxRecDepth 10000 in
theorem due_any (w : World) (p m : Nat) (V : Nat → Value) (now arms : Nat) (A : List (Int × Nat)) (h : Wh w p m V now arms A) (id : Int) (hid : In id) :
    Calls Try.prog 19 #[.pointer (some ⟨p, 0, none⟩), .int .i64 id] w fun e w' => e = .returned (.tuple #[.int .u64 ((A.lookup id).getD 0 : Nat), .int .i64 (errOf (A.lookup id))]) ∧ ∃ o, w' = w.alloc o := by
  obtain ⟨n, T, S, L, h1, h2, h3⟩ := h
  have hc2 := h1.c2
  have hlook := h1.map.look_ok hid
  rw [h3, lookup_T h2]
  clear h1 h2 h3
  cases e : T id with
  | none =>
    rw [e] at hlook
    simp only [Option.getD, Option.isSome, Tm.val] at hlook
    go_enter Try.func19, Try.ntmps19
    go_wp2
    go_ret2
    exact ⟨rfl, _, rfl⟩
  | some t =>
    obtain ⟨d, a, pl⟩ := t
    rw [e] at hlook
    simp only [Option.getD, Option.isSome, Tm.val] at hlook
    go_enter Try.func19, Try.ntmps19
    go_wp2
    go_ret2
    exact ⟨rfl, _, rfl⟩
theorem due_nil (w : World) (id : Int) : Calls Try.prog 19 #[.pointer none, .int .i64 id] w fun e w' => e = .returned (.tuple #[.int .u64 0, .int .i64 6]) ∧ w = w' := by
  go_enter Try.func19, Try.ntmps19
  go_wp2
  go_ret2
  exact ⟨rfl, rfl⟩

theorem without_map (f g : Int → Nat) (id : Int) (L : List Int) (h : ∀ i, i ≠ id → g i = f i) : (L.filter (fun i => decide (i ≠ id))).map (fun i => (i, g i)) = (L.map (fun i => (i, f i))).filter (fun x => decide (x.1 ≠ id)) := by
  induction L with
  | nil => rfl
  | cons a L ih =>
    by_cases e : a = id
    · rw [List.filter_cons_of_neg (by simpa using e), List.map_cons, List.filter_cons_of_neg (by simpa using e), ih]
    · rw [List.filter_cons_of_pos (by simpa using e), List.map_cons, List.map_cons, List.filter_cons_of_pos (by simpa using e), ih, h a e]
theorem without_none (f : Int → Nat) (id : Int) (L : List Int) (h : id ∉ L) : (L.map (fun i => (i, f i))).filter (fun x => decide (x.1 ≠ id)) = L.map (fun i => (i, f i)) := by
  rw [List.filter_eq_self]
  intro x hx
  obtain ⟨i, hi, rfl⟩ := List.mem_map.1 hx
  simp
  rintro rfl
  exact h hi

end Go.Proofs.Ytofhkfbibdkjgaa
