/-
  The wheel's calls, against the document's list of timers: New, Now, Len, Due, Cancel, Arm.
-/
import Derived.Test.YtplcmaiphbjfcaaWTick
namespace Go.Proofs.Ytplcmaiphbjfcaa
open Go.RowKit
set_option linter.unusedVariables false

/-- A wheel holds these timers, by how they were armed: each with the tick at which it is due. -/
def Wh (w : World) (p m : Nat) (V : Nat → Value) (now arms : Nat) (A : List (Int × Nat)) : Prop :=
  ∃ n T S L, Rep w p m V now arms n T S ∧ Ok now arms n T S L ∧ A = L.map (fun i => (i, dueOf T i))

theorem Wh.frame {w w' : World} {p m : Nat} {V : Nat → Value} {now arms : Nat} {A : List (Int × Nat)} (h : Wh w p m V now arms A) (hb : ∀ b, Foot p m V b → w'.heap[b]? = w.heap[b]?) : Wh w' p m V now arms A := by
  obtain ⟨n, T, S, L, h1, h2, h3⟩ := h
  exact ⟨n, T, S, L, h1.frame hb, h2, h3⟩
theorem Wh.foot_lt {w : World} {p m : Nat} {V : Nat → Value} {now arms : Nat} {A : List (Int × Nat)} (h : Wh w p m V now arms A) : ∀ b, Foot p m V b → b < w.heap.size := by
  obtain ⟨n, T, S, L, h1, h2, h3⟩ := h
  exact h1.foot_lt
theorem Wh.alloc {w : World} {p m : Nat} {V : Nat → Value} {now arms : Nat} {A : List (Int × Nat)} (h : Wh w p m V now arms A) (o : Obj) : Wh (w.alloc o) p m V now arms A :=
  h.frame (fun b hb => Below.heap_alloc w o b (h.foot_lt b hb))

theorem lookup_map (f : Int → Nat) (id : Int) (L : List Int) : (L.map (fun i => (i, f i))).lookup id = if id ∈ L then some (f id) else none := by
  induction L with
  | nil => rfl
  | cons a L ih =>
    rw [List.map_cons, List.lookup_cons]
    by_cases e : id = a
    · subst e; simp
    · have : (id == a) = false := by simpa using e
      rw [this, ih]
      by_cases c : id ∈ L <;> simp [c, e]
theorem lookup_T {now arms n : Nat} {T : Int → Option Tm} {S : Nat → List Int} {L : List Int} (h : Ok now arms n T S L) (id : Int) : (L.map (fun i => (i, dueOf T i))).lookup id = (T id).map (·.due) := by
  rw [lookup_map]
  cases e : T id with
  | none => rw [if_neg (by rw [h.mem, e]; simp)]; rfl
  | some t => rw [if_pos (by rw [h.mem, e]; rfl), dueOf_some e]; rfl

def errOf : Option Nat → Int
  | some _ => 0
  | none => 6

theorem now_any (w : World) (p m : Nat) (V : Nat → Value) (now arms : Nat) (A : List (Int × Nat)) (h : Wh w p m V now arms A) :
    Calls Try.prog 21 #[.pointer (some ⟨p, 0, none⟩)] w fun e w' => e = .returned (.int .u64 (now : Nat)) ∧ w = w' := by
  obtain ⟨n, T, S, L, h1, h2, h3⟩ := h
  have hc0 := h1.c0
  clear h1 h2 h3
  go_enter Try.func21, Try.ntmps21
  go_wp2
  go_ret
  exact ⟨rfl, rfl⟩
theorem now_nil (w : World) : Calls Try.prog 21 #[.pointer none] w fun e w' => e = .returned (.int .u64 0) ∧ w = w' := by
  go_enter Try.func21, Try.ntmps21
  go_wp2
  go_ret
  exact ⟨rfl, rfl⟩

theorem len_any (w : World) (p m : Nat) (V : Nat → Value) (now arms : Nat) (A : List (Int × Nat)) (h : Wh w p m V now arms A) :
    Calls Try.prog 22 #[.pointer (some ⟨p, 0, none⟩)] w fun e w' => e = .returned (.int .i64 (A.length : Nat)) ∧ w = w' := by
  obtain ⟨n, T, S, L, h1, h2, h3⟩ := h
  have hc2 := h1.c2
  have hlen := h1.map.len 3
  have HA : Hid (A.length = n) := by unfold Hid; rw [h3, List.length_map]; exact h2.len
  clear h1 h2 h3
  go_enter Try.func22, Try.ntmps22
  go_wp2
  go_ret
  exact ⟨by rw [HA.out]; rfl, rfl⟩
theorem len_nil (w : World) : Calls Try.prog 22 #[.pointer none] w fun e w' => e = .returned (.int .i64 0) ∧ w = w' := by
  go_enter Try.func22, Try.ntmps22
  go_wp2
  go_ret
  exact ⟨rfl, rfl⟩

set_option maxRecDepth 10000 in
theorem due_any (w : World) (p m : Nat) (V : Nat → Value) (now arms : Nat) (A : List (Int × Nat)) (h : Wh w p m V now arms A) (id : Int) (hid : In id) :
    Calls Try.prog 19 #[.pointer (some ⟨p, 0, none⟩), .int .i64 id] w fun e w' => e = .returned (.tuple #[.int .u64 ((A.lookup id).getD 0 : Nat), .int .i64 (errOf (A.lookup id))]) ∧ ∃ o, w' = w.alloc o := by
  obtain ⟨n, T, S, L, h1, h2, h3⟩ := h
  have hc2 := h1.c2
  have hlook := h1.map.look_ok hid
  rw [h3, lookup_T h2]
  clear h1 h2 h3
  cases e : T id with
  | none =>
    rw [e] at hlook
    simp only [Option.getD, Option.isSome, Tm.val] at hlook
    go_enter Try.func19, Try.ntmps19
    go_wp2
    go_ret2
    exact ⟨rfl, _, rfl⟩
  | some t =>
    obtain ⟨d, a, pl⟩ := t
    rw [e] at hlook
    simp only [Option.getD, Option.isSome, Tm.val] at hlook
    go_enter Try.func19, Try.ntmps19
    go_wp2
    go_ret2
    exact ⟨rfl, _, rfl⟩
theorem due_nil (w : World) (id : Int) : Calls Try.prog 19 #[.pointer none, .int .i64 id] w fun e w' => e = .returned (.tuple #[.int .u64 0, .int .i64 6]) ∧ w = w' := by
  go_enter Try.func19, Try.ntmps19
  go_wp2
  go_ret2
  exact ⟨rfl, rfl⟩

theorem cancel_nil (w : World) (id : Int) : Calls Try.prog 14 #[.pointer none, .int .i64 id] w fun e w' => e = .returned (.int .i64 6) ∧ w = w' := by
  go_enter Try.func14, Try.ntmps14
  go_wp2
  go_ret
  exact ⟨rfl, rfl⟩

theorem without_map (f g : Int → Nat) (id : Int) (L : List Int) (h : ∀ i, i ≠ id → g i = f i) : (L.filter (fun i => decide (i ≠ id))).map (fun i => (i, g i)) = (L.map (fun i => (i, f i))).filter (fun x => decide (x.1 ≠ id)) := by
  induction L with
  | nil => rfl
  | cons a L ih =>
    by_cases e : a = id
    · rw [List.filter_cons_of_neg (by simpa using e), List.map_cons, List.filter_cons_of_neg (by simpa using e), ih]
    · rw [List.filter_cons_of_pos (by simpa using e), List.map_cons, List.map_cons, List.filter_cons_of_pos (by simpa using e), ih, h a e]
theorem without_none (f : Int → Nat) (id : Int) (L : List Int) (h : id ∉ L) : (L.map (fun i => (i, f i))).filter (fun x => decide (x.1 ≠ id)) = L.map (fun i => (i, f i)) := by
  rw [List.filter_eq_self]
  intro x hx
  obtain ⟨i, hi, rfl⟩ := List.mem_map.1 hx
  simp
  rintro rfl
  exact h hi

set_option maxRecDepth 10000 in
set_option maxHeartbeats 1000000 in
theorem cancel_any (w : World) (p m : Nat) (V : Nat → Value) (now arms : Nat) (A : List (Int × Nat)) (h : Wh w p m V now arms A) (harms : arms < 4294967296) (id : Int) (hid : In id) :
    Calls Try.prog 14 #[.pointer (some ⟨p, 0, none⟩), .int .i64 id] w fun e w' => e = .returned (.int .i64 (errOf (A.lookup id))) ∧ ∃ V', Wh w' p m V' now arms (A.filter (fun x => decide (x.1 ≠ id))) ∧ Goes p m V w V' w' := by
  obtain ⟨n, T, S, L, h1, h2, h3⟩ := h
  have hc2 := h1.c2
  have hlook := h1.map.look_ok hid
  have hpl := h1.plt
  rw [h3, lookup_T h2]
  cases e : T id with
  | none =>
    rw [e] at hlook
    simp only [Option.getD, Option.isSome, Tm.val] at hlook
    have HE : Hid (∀ o : Obj, Wh (w.alloc o) p m V now arms ((L.map (fun i => (i, dueOf T i))).filter (fun x => decide (x.1 ≠ id))) ∧ Goes p m V w V (w.alloc o)) := fun o =>
      ⟨⟨n, T, S, L, h1.alloc o, h2, without_none _ _ _ (by rw [h2.mem, e]; simp)⟩, Goes.alloc _ _ _ _ _⟩
    clear h1 h2 h3 e
    go_enter Try.func14, Try.ntmps14
    go_wp2
    go_ret
    exact ⟨rfl, _, HE.out _⟩
  | some t =>
    obtain ⟨last, mt, r1, r2, r3, r4, r5, r6⟩ := h2.lose e
    have hrm := fun (o : Obj) => remove_any (w.alloc o) p m V now arms n T S (h1.alloc o) (by have := h2.now; omega) id hid t (by have := (h2.bound id t e).2.2.1; omega) r1 (by have := h2.le; omega) (fun k hk => by have := h2.slen hk; have := h2.le; omega) last r2 r4 mt (by rw [r3]; rfl)
    have HE : Hid (∀ (o : Obj) V' w', Rep w' p m V' now arms _ _ _ ∧ Goes p m V (w.alloc o) V' w' → Wh w' p m V' now arms ((L.map (fun i => (i, dueOf T i))).filter (fun x => decide (x.1 ≠ id))) ∧ Goes p m V w V' w') := fun o V' w' hh =>
      ⟨⟨_, _, _, _, hh.1, r5, (without_map _ _ _ _ r6).symm⟩, (Goes.alloc _ _ _ _ _).trans hh.2⟩
    rw [e] at hlook
    obtain ⟨d, a, pl⟩ := t
    simp only [Option.getD, Option.isSome, Tm.val] at hlook hrm
    clear h1 h2 h3 e r1 r2 r3 r4 r5 r6
    go_enter Try.func14, Try.ntmps14
    go_wp2_with (first | (go_at_call 23; refine (hrm _).mono ?_; rintro e w' ⟨rfl, V', hh⟩))
    go_ret
    exact ⟨rfl, _, HE.out _ _ _ hh⟩

end Go.Proofs.Ytplcmaiphbjfcaa
