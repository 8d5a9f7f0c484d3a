/-
  The wheel's call New; and its call Tick against the document's list of timers.
-/
import Derived.Test.YtofhkfbibdkjgaaWArm
namespace Go.Proofs.Ytofhkfbibdkjgaa
open Go.RowKit
set_option linter.unusedVariables false

theorem new_err (w : World) (now : Nat) (hn : now < 18446744073709551616) (h : 1152921504606846976 < now) : Calls Try.prog 16 #[.int .u64 (now : Nat)] w fun e w' => e = .returned (.tuple #[.pointer none, .int .i64 1]) ∧ w = w' := by
  go_enter Try.func16, Try.ntmps16
  go_wp2
  go_ret2
  exact ⟨rfl, rfl⟩

def newC (now : Nat) (b : Nat) : Array Value := #[.int .u64 (now : Nat), .int .u64 0, .map (some b)] ++ Array.replicate 256 (.slice none 0 0)
def newV (now : Nat) (b : Nat) : Value := .agg (newC now b)

set_option maxRecDepth 100000 in
theorem make_run (w : World) : (Instr.makeMap 56 none).run Try.prog w = .ok (.map (some w.heap.size)) (w.alloc (.map #[] 0)) := by rfl
def zeroC : Array Value := #[.int .u64 0, .int .u64 0, .map none] ++ Array.replicate 256 (.slice none 0 0)
set_option maxRecDepth 100000 in
theorem zero_run (w : World) : (zeroValue 60).run Try.prog w = .ok (.agg zeroC) w := by kernel_rfl

theorem new_cells (now b : Nat) : (zeroC.setIfInBounds 0 (.int .u64 (now : Nat))).setIfInBounds 2 (.map (some b)) = newC now b := by kernel_rfl

theorem newC_get (now b k : Nat) (hk : k < 256) : (newC now b)[3 + k]? = some (.slice none 0 0) := by
  unfold newC
  rw [Array.getElem?_append_right (by simp)]
  simp [hk]

theorem newC_0 (now b : Nat) : (newC now b)[0]? = some (.int .u64 (now : Nat)) := by unfold newC; rw [Array.getElem?_append_left (by simp)]; rfl
theorem newC_1 (now b : Nat) : (newC now b)[1]? = some (.int .u64 ((0 : Nat) : Int)) := by unfold newC; rw [Array.getElem?_append_left (by simp)]; rfl
theorem newC_2 (now b : Nat) : (newC now b)[2]? = some (.map (some b)) := by unfold newC; rw [Array.getElem?_append_left (by simp)]; rfl

theorem new_wh (w : World) (now : Nat) (h : now ≤ 1152921504606846976) :
    Wh ((w.alloc (.map #[] 0)).alloc (.cells (newC now w.heap.size) 60)) (w.heap.size + 1) w.heap.size (fun _ => .slice none 0 0) now 0 [] := by
  have hs : (w.alloc (.map #[] 0)).heap.size = w.heap.size + 1 := by simp
  have hb : ((w.alloc (.map #[] 0)).alloc (.cells (newC now w.heap.size) 60)).heap[w.heap.size + 1]? = some (.cells (newC now w.heap.size) 60 (0, 0)) := by rw [← hs]; exact heap_alloc_new _ _
  have hc : ∀ j, ((w.alloc (.map #[] 0)).alloc (.cells (newC now w.heap.size) 60)).cell? ⟨w.heap.size + 1, j, none⟩ = (newC now w.heap.size)[j]? := fun j => cell_of_row _ _ _ _ 60 (0, 0) hb
  refine ⟨0, fun _ => none, fun _ => [], [], ?_, ?_, rfl⟩
  · exact {
      c0 := by rw [hc]; exact newC_0 _ _
      c1 := by rw [hc]; exact newC_1 _ _
      c2 := by rw [hc]; exact newC_2 _ _
      cs := fun k hk => by rw [hc]; exact newC_get _ _ _ hk
      fr := fun o => by unfold World.frozen?; rw [hb]; simp
      rows := fun k hk => ⟨rfl, .inl ⟨rfl, rfl⟩⟩
      map := (mapIs_made w).of_block (Below.heap_alloc _ _ _ (by rw [hs]; omega))
      pm := by omega
      apart := fun k hk b hb => nomatch hb
      sep := fun j k _ _ _ b hb => nomatch hb }
  · exact {
      slots := fun k hk j i => ⟨fun e => (nomatch e), fun ⟨tm, e, _⟩ => (nomatch e)⟩
      bound := fun i tm e => nomatch e
      mem := fun i => ⟨fun e => (nomatch e), fun e => (nomatch e)⟩
      sorted := List.Pairwise.nil
      len := rfl
      le := Nat.le_refl _
      now := h }

set_option maxRecDepth 20000 in
set_option maxHeartbeats 1000000 in
theorem new_run (w : World) (now : Nat) (h : now ≤ 1152921504606846976) : Calls Try.prog 16 #[.int .u64 (now : Nat)] w fun e w' => e = .returned (.tuple #[.pointer (some ⟨w.heap.size + 1, 0, none⟩), .int .i64 0]) ∧ w' = (w.alloc (.map #[] 0)).alloc (.cells (newC now w.heap.size) 60) := by
  have hng : ¬ ((1152921504606846976 : Int) < now) := by omega
  have hmk := make_run
  have hz := zero_run
  have hs0 : zeroC ≠ #[] := by unfold zeroC; simp
  have hs1 : zeroC.size = 259 := by simp [zeroC]
  have hs2 : ¬ zeroC.size < 3 := by omega
  have HC : Hid ((zeroC.setIfInBounds 0 (.int .u64 (now : Nat))).setIfInBounds 2 (.map (some w.heap.size)) = newC now w.heap.size) := new_cells now w.heap.size
  generalize zeroC = zC at *
  go_enter Try.func16, Try.ntmps16
  go_wp2
  go_ret2
  exact ⟨rfl, by rw [HC.out]⟩

/-- What a wheel is made of is new. -/
theorem new_any (w : World) (now : Nat) (h : now ≤ 1152921504606846976) : Calls Try.prog 16 #[.int .u64 (now : Nat)] w fun e w' => ∃ p m V, e = .returned (.tuple #[.pointer (some ⟨p, 0, none⟩), .int .i64 0]) ∧ Wh w' p m V now 0 [] ∧ Turned (fun _ => False) w w' ∧ (∀ b, Foot p m V b → w.heap.size ≤ b) := by
  refine (new_run w now h).mono ?_
  rintro e w' ⟨rfl, rfl⟩
  refine ⟨_, _, _, rfl, new_wh w now h, ((Turned.refl _ w).alloc _).alloc _, ?_⟩
  rintro b (rfl | rfl | ⟨k, hk, hb⟩)
  · omega
  · exact Nat.le_refl _
  · cases hb

theorem filter_due_map (f g : Int → Nat) (c : Nat) (L : List Int) (h : ∀ i, f i ≠ c → g i = f i) : (L.filter (fun i => decide (f i ≠ c))).map (fun i => (i, g i)) = (L.map (fun i => (i, f i))).filter (fun x => decide (x.2 ≠ c)) := by
  induction L with
  | nil => rfl
  | cons a L ih =>
    by_cases e : f a = c
    · rw [List.filter_cons_of_neg (by simpa using e), List.map_cons, List.filter_cons_of_neg (by simpa using e), ih]
    · rw [List.filter_cons_of_pos (by simpa using e), List.map_cons, List.map_cons, List.filter_cons_of_pos (by simpa using e), ih, h a e]
theorem filter_due_ids (f : Int → Nat) (c : Nat) (L : List Int) : L.filter (fun i => decide (f i = c)) = ((L.map (fun i => (i, f i))).filter (fun x => decide (x.2 = c))).map (·.1) := by
  induction L with
  | nil => rfl
  | cons a L ih =>
    by_cases e : f a = c
    · rw [List.filter_cons_of_pos (by simpa using e), List.map_cons, List.filter_cons_of_pos (by simpa using e), List.map_cons, ih]
    · rw [List.filter_cons_of_neg (by simpa using e), List.map_cons, List.filter_cons_of_neg (by simpa using e), ih]

/-- The timers that are due at a tick, in their order. -/
def dueAt (A : List (Int × Nat)) (now : Nat) : List Int := (A.filter (fun x => decide (x.2 = now))).map (·.1)
def leftAt (A : List (Int × Nat)) (now : Nat) : List (Int × Nat) := A.filter (fun x => decide (x.2 ≠ now))

theorem tick_wh (w : World) (p m : Nat) (V : Nat → Value) (now arms : Nat) (A : List (Int × Nat)) (h : Wh w p m V now arms A) (hnow : now < 1152921504606846976) (harms : arms < 4294967296) :
    Calls Try.prog 23 #[.pointer (some ⟨p, 0, none⟩)] w fun e w' => ∃ v V', e = .returned (.tuple #[v, .int .i64 0]) ∧ w'.ownsRow w.heap.size 3 1 v (dueAt A (now + 1)).length ((dueAt A (now + 1)).map (Value.int .i64)) ∧
      Wh w' p m V' (now + 1) arms (leftAt A (now + 1)) ∧ Goes p m V w V' w' ∧ (∀ b, v.ownBlock = some b → ¬ Foot p m V' b) := by
  obtain ⟨n, T, S, L, h1, h2, rfl⟩ := h
  refine (tick_any w p m V now arms n T S L h1 h2 hnow harms).mono ?_
  rintro e w' ⟨v, V', n', T', S', he, hrow, hrep, hok, hdue, hgo, hno⟩
  refine ⟨v, V', he, ?_, ⟨n', T', S', _, hrep, hok, ?_⟩, hgo, hno⟩
  · unfold dueAt; rw [← filter_due_ids]; exact hrow
  · unfold leftAt; exact (filter_due_map _ _ _ _ hdue).symm

theorem tick_last_wh (w : World) (p m : Nat) (V : Nat → Value) (arms : Nat) (A : List (Int × Nat)) (h : Wh w p m V 1152921504606846976 arms A) :
    Calls Try.prog 23 #[.pointer (some ⟨p, 0, none⟩)] w fun e w' => e = .returned (.tuple #[.slice none 0 0, .int .i64 1]) ∧ ∃ o, w' = w.alloc o := by
  obtain ⟨n, T, S, L, h1, h2, rfl⟩ := h
  exact tick_last w p h1.c0

end Go.Proofs.Ytofhkfbibdkjgaa
