/-
  How one's beats lie in memory, and what they say in plain data: when the own beat is due, and behind how many ticks each other node is missed.
-/
import Derived.Test.YtofhkfbibdkjgaaWNew
import Derived.Test.YtofhkfbibdkjgaaBCfg
namespace Go.Proofs.Ytofhkfbibdkjgaa
open Go.RowKit
set_option linter.unusedVariables false

/-- Which timers are armed: one's own, due behind r ticks; another node's, due behind what is left for it. -/
def Tim (s N now r : Nat) (left : Nat → Nat) (i : Int) (d : Nat) : Prop := (i = (s : Int) ∧ d = now + r) ∨ ∃ j : Nat, i = (j : Int) ∧ j < N ∧ j ≠ s ∧ 0 < left j ∧ d = now + left j

structure Bs (w : World) (F : Nat → Prop) (q p m : Nat) (V : Nat → Value) (now arms : Nat) (A : List (Int × Nat)) (s N B M K r : Nat) (left : Nat → Nat) : Prop where
  c0 : w.cell? ⟨q, 0, none⟩ = some (.int .i64 (N : Nat))
  c1 : w.cell? ⟨q, 1, none⟩ = some (.int .i64 (s : Nat))
  c2 : w.cell? ⟨q, 2, none⟩ = some (.int .u64 (B : Nat))
  c3 : w.cell? ⟨q, 3, none⟩ = some (.int .u64 (M : Nat))
  c4 : w.cell? ⟨q, 4, none⟩ = some (.pointer (some ⟨p, 0, none⟩))
  wh : Wh w p m V now arms A
  nq : ¬ Foot p m V q
  foot : ∀ b, F b ↔ b = q ∨ Foot p m V b
  nk : now ≤ K
  ak : arms ≤ K
  tim : ∀ i d, (i, d) ∈ A ↔ Tim s N now r left i d
  sN : s < N
  n16 : N ≤ 16
  r1 : 1 ≤ r
  rB : r ≤ B
  b2 : B ≤ 1000
  m1 : 1 ≤ M
  m2 : M ≤ 1000

/-- One's beats: F are its blocks, K bounds how often it was called, r is behind how many ticks the own beat is due. -/
def Bt (w : World) (F : Nat → Prop) (q s N B M K r : Nat) (left : Nat → Nat) : Prop := ∃ p m V now arms A, Bs w F q p m V now arms A s N B M K r left

/-- What may have turned: its own blocks, and new ones. -/
structure Go2 (F : Nat → Prop) (w : World) (F' : Nat → Prop) (w' : World) : Prop where
  turned : Turned F w w'
  foot : ∀ b, F' b → F b ∨ w.heap.size ≤ b
theorem Go2.still {F : Nat → Prop} {w w' : World} (t : Turned (fun _ => False) w w') : Go2 F w F w' := ⟨t.mono (fun _ h => h.elim), fun _ h => .inl h⟩
theorem Go2.trans {F F' F'' : Nat → Prop} {w w' w'' : World} (h : Go2 F w F' w') (k : Go2 F' w' F'' w'') : Go2 F w F'' w'' :=
  ⟨h.turned.trans k.turned h.foot, fun b hb => (k.foot b hb).elim (h.foot b) (fun hle => .inr (Nat.le_trans h.turned.size hle))⟩
/-- A thing of one's own: nothing that was there has turned. -/
structure Own (w0 w : World) (F : Nat → Prop) : Prop where
  turned : Turned (fun _ => False) w0 w
  foot : ∀ b, F b → w0.heap.size ≤ b
theorem Own.go {w0 w w' : World} {F F' : Nat → Prop} (h : Own w0 w F) (g : Go2 F w F' w') : Own w0 w' F' :=
  ⟨h.turned.trans g.turned (fun i hi => .inr (h.foot i hi)), fun b hb => (g.foot b hb).elim (h.foot b) (fun hle => Nat.le_trans h.turned.size hle)⟩
theorem Own.below {w0 w : World} {F : Nat → Prop} (h : Own w0 w F) : Below w0.heap.size w0 w := h.turned.below (Nat.le_refl _) (fun _ f => f.elim)

section
variable {w w' : World} {F : Nat → Prop} {q p m now arms s N B M K r : Nat} {V : Nat → Value} {A : List (Int × Nat)} {left : Nat → Nat}

theorem Bs.lt (h : Bs w F q p m V now arms A s N B M K r left) : ∀ b, F b → b < w.heap.size := by
  intro b hb
  rcases (h.foot b).1 hb with rfl | hb
  · exact World.block_lt_of_cell? w _ h.c0
  · exact h.wh.foot_lt b hb
theorem Bs.frame (h : Bs w F q p m V now arms A s N B M K r left) (hb : ∀ b, F b → w'.heap[b]? = w.heap[b]?) : Bs w' F q p m V now arms A s N B M K r left :=
  have hq := hb q ((h.foot q).2 (.inl rfl))
  { h with
    c0 := by rw [cell_block hq]; exact h.c0
    c1 := by rw [cell_block hq]; exact h.c1
    c2 := by rw [cell_block hq]; exact h.c2
    c3 := by rw [cell_block hq]; exact h.c3
    c4 := by rw [cell_block hq]; exact h.c4
    wh := h.wh.frame (fun b hf => hb b ((h.foot b).2 (.inr hf))) }
theorem Bs.still (h : Bs w F q p m V now arms A s N B M K r left) (t : Turned (fun _ => False) w w') : Bs w' F q p m V now arms A s N B M K r left :=
  h.frame (fun b hb => t.block b (h.lt b hb) (fun f => f))
theorem Bt.lt (h : Bt w F q s N B M K r left) : ∀ b, F b → b < w.heap.size := by
  obtain ⟨p, m, V, now, arms, A, h⟩ := h
  exact h.lt
theorem Bt.frame (h : Bt w F q s N B M K r left) (hb : ∀ b, F b → w'.heap[b]? = w.heap[b]?) : Bt w' F q s N B M K r left := by
  obtain ⟨p, m, V, now, arms, A, h⟩ := h
  exact ⟨p, m, V, now, arms, A, h.frame hb⟩
theorem Bt.still (h : Bt w F q s N B M K r left) (t : Turned (fun _ => False) w w') : Bt w' F q s N B M K r left :=
  h.frame (fun b hb => t.block b (h.lt b hb) (fun f => f))
theorem Bt.more {K' : Nat} (h : Bt w F q s N B M K r left) (hK : K ≤ K') : Bt w F q s N B M K' r left := by
  obtain ⟨p, m, V, now, arms, A, h⟩ := h
  exact ⟨p, m, V, now, arms, A, { h with nk := Nat.le_trans h.nk hK, ak := Nat.le_trans h.ak hK }⟩
theorem Bt.bounds (h : Bt w F q s N B M K r left) : s < N ∧ N ≤ 16 ∧ 1 ≤ r ∧ r ≤ B ∧ B ≤ 1000 ∧ 1 ≤ M ∧ M ≤ 1000 := by
  obtain ⟨p, m, V, now, arms, A, h⟩ := h
  exact ⟨h.sN, h.n16, h.r1, h.rB, h.b2, h.m1, h.m2⟩
end

theorem in_nat {i : Nat} (h : i < 1000000) : In (i : Int) := by unfold In; omega

/-- The own timer is due at the next tick just if one tick is left for it. -/
theorem due_own {A : List (Int × Nat)} {s N now r : Nat} {left : Nat → Nat} (h : ∀ i d, (i, d) ∈ A ↔ Tim s N now r left i d) : (s : Int) ∈ dueAt A (now + 1) ↔ r = 1 := by
  unfold dueAt
  rw [List.mem_map]
  constructor
  · rintro ⟨⟨i, d⟩, hx, e⟩
    obtain ⟨h1, h2⟩ := List.mem_filter.1 hx
    simp only [decide_eq_true_eq] at h2
    simp only at e
    subst e
    rcases (h _ _).1 h1 with ⟨_, e⟩ | ⟨j, e, _, hj, _⟩
    · omega
    · omega
  · rintro rfl
    refine ⟨((s : Int), now + 1), List.mem_filter.2 ⟨(h _ _).2 (.inl ⟨rfl, rfl⟩), by simp⟩, rfl⟩
theorem left_on {A : List (Int × Nat)} {s N now r : Nat} {left : Nat → Nat} (h : ∀ i d, (i, d) ∈ A ↔ Tim s N now r left i d) (hr : 1 < r) (i : Int) (d : Nat) : (i, d) ∈ leftAt A (now + 1) ↔ Tim s N (now + 1) (r - 1) (fun j => left j - 1) i d := by
  unfold leftAt
  rw [List.mem_filter, h i d]
  simp only [decide_eq_true_eq, Tim]
  constructor
  · rintro ⟨⟨e1, e2⟩ | ⟨j, e1, e2, e3, e4, e5⟩, hne⟩
    · exact .inl ⟨e1, by omega⟩
    · exact .inr ⟨j, e1, e2, e3, by omega, by omega⟩
  · rintro (⟨e1, e2⟩ | ⟨j, e1, e2, e3, e4, e5⟩)
    · exact ⟨.inl ⟨e1, by omega⟩, by omega⟩
    · exact ⟨.inr ⟨j, e1, e2, e3, by omega, by omega⟩, by omega⟩
theorem left_own {A : List (Int × Nat)} {s N now B : Nat} {left : Nat → Nat} (h : ∀ i d, (i, d) ∈ A ↔ Tim s N now 1 left i d) (i : Int) (d : Nat) :
    (i, d) ∈ (leftAt A (now + 1)).filter (fun x => decide (x.1 ≠ (s : Int))) ++ [((s : Int), now + 1 + B)] ↔ Tim s N (now + 1) B (fun j => left j - 1) i d := by
  unfold leftAt
  rw [List.mem_append, List.mem_filter, List.mem_filter, h i d]
  simp only [decide_eq_true_eq, Tim, List.mem_singleton, Prod.mk.injEq]
  constructor
  · rintro (⟨⟨⟨e1, e2⟩ | ⟨j, e1, e2, e3, e4, e5⟩, hne⟩, hs⟩ | ⟨e1, e2⟩)
    · exact absurd e1 hs
    · exact .inr ⟨j, e1, e2, e3, by omega, by omega⟩
    · exact .inl ⟨e1, e2⟩
  · rintro (⟨e1, e2⟩ | ⟨j, e1, e2, e3, e4, e5⟩)
    · exact .inr ⟨e1, e2⟩
    · exact .inl ⟨⟨.inr ⟨j, e1, e2, e3, by omega, by omega⟩, by omega⟩, by omega⟩
theorem heard_tim {A : List (Int × Nat)} {s N now r M k : Nat} {left : Nat → Nat} (h : ∀ i d, (i, d) ∈ A ↔ Tim s N now r left i d) (hk : k < N) (hs : k ≠ s) (hM : 1 ≤ M) (i : Int) (d : Nat) :
    (i, d) ∈ A.filter (fun x => decide (x.1 ≠ (k : Int))) ++ [((k : Int), now + M)] ↔ Tim s N now r (put left k M) i d := by
  rw [List.mem_append, List.mem_filter, h i d]
  simp only [decide_eq_true_eq, Tim, List.mem_singleton, Prod.mk.injEq]
  constructor
  · rintro (⟨⟨e1, e2⟩ | ⟨j, e1, e2, e3, e4, e5⟩, hne⟩ | ⟨e1, e2⟩)
    · exact .inl ⟨e1, e2⟩
    · have hjk : j ≠ k := by omega
      exact .inr ⟨j, e1, e2, e3, by rw [put_other _ _ hjk]; exact e4, by rw [put_other _ _ hjk]; exact e5⟩
    · exact .inr ⟨k, e1, hk, hs, by rw [put_same]; omega, by rw [put_same]; exact e2⟩
  · rintro (⟨e1, e2⟩ | ⟨j, e1, e2, e3, e4, e5⟩)
    · exact .inl ⟨.inl ⟨e1, e2⟩, by omega⟩
    · by_cases hjk : j = k
      · subst hjk
        rw [put_same] at e5
        exact .inr ⟨e1, e5⟩
      · rw [put_other _ _ hjk] at e4 e5
        exact .inl ⟨.inr ⟨j, e1, e2, e3, e4, e5⟩, by omega⟩

theorem lookup_some {A : List (Int × Nat)} {i : Int} {d : Nat} (h : (i, d) ∈ A) : ∃ d', A.lookup i = some d' := by
  induction A with
  | nil => cases h
  | cons a A ih =>
    obtain ⟨b, e⟩ := a
    rw [List.lookup_cons]
    by_cases c : i = b
    · subst c; exact ⟨e, by simp⟩
    · rw [show (i == b) = false by simpa using c]
      rcases List.mem_cons.1 h with h | h
      · exact absurd (Prod.mk.inj h).1 c
      · exact ih h
theorem lookup_none {A : List (Int × Nat)} {i : Int} (h : ∀ d, (i, d) ∉ A) : A.lookup i = none := by
  induction A with
  | nil => rfl
  | cons a A ih =>
    obtain ⟨b, e⟩ := a
    rw [List.lookup_cons]
    by_cases c : i = b
    · subst c; exact absurd (List.mem_cons_self) (h e)
    · rw [show (i == b) = false by simpa using c]
      exact ih (fun d hd => h d (List.mem_cons_of_mem _ hd))
theorem look_yes {A : List (Int × Nat)} {s N now r k : Nat} {left : Nat → Nat} (h : ∀ i d, (i, d) ∈ A ↔ Tim s N now r left i d) (hk : k < N) (hy : k = s ∨ 0 < left k) : ∃ d, A.lookup (k : Int) = some d := by
  by_cases hs : k = s
  · subst hs; exact lookup_some ((h _ _).2 (.inl ⟨rfl, rfl⟩))
  · exact lookup_some ((h _ _).2 (.inr ⟨k, rfl, hk, hs, by omega, rfl⟩))
theorem look_no {A : List (Int × Nat)} {s N now r k : Nat} {left : Nat → Nat} (h : ∀ i d, (i, d) ∈ A ↔ Tim s N now r left i d) (hn : ¬ (k = s ∨ 0 < left k)) : A.lookup (k : Int) = none := by
  refine lookup_none (fun d hd => ?_)
  rcases (h _ _).1 hd with ⟨e, _⟩ | ⟨j, e, _, _, h0, _⟩
  · omega
  · have : j = k := by omega
    subst this; omega

/-- Of whom was heard of late, among the first n nodes. -/
def estN (s : Nat) (left : Nat → Nat) : Nat → Nat
  | 0 => 0
  | n + 1 => if n = s ∨ 0 < left n then withN (estN s left n) (n : Int) else estN s left n
theorem estN_lt (s : Nat) (left : Nat → Nat) : ∀ n, estN s left n < 65536
  | 0 => by unfold estN; omega
  | n + 1 => by
    unfold estN
    split
    · exact withN_lt _ (estN_lt s left n) _
    · exact estN_lt s left n
theorem with_bit (a k x : Nat) (hk : k < 16) : (withN a (k : Int)).testBit x = (a.testBit x || decide (k = x)) := by
  unfold withN onlyN
  rw [if_pos (by omega), Int.toNat_natCast, Nat.testBit_or, Nat.testBit_two_pow]
theorem estN_bit (s : Nat) (left : Nat → Nat) (x : Nat) : ∀ n, n ≤ 16 → ((estN s left n).testBit x = true ↔ x < n ∧ (x = s ∨ 0 < left x))
  | 0, _ => by simp [estN]
  | n + 1, hn => by
    have ih := estN_bit s left x n (by omega)
    unfold estN
    split
    · rename_i hc
      rw [with_bit _ _ _ (by omega), Bool.or_eq_true, ih, decide_eq_true_eq]
      constructor
      · rintro (⟨h1, h2⟩ | rfl)
        · exact ⟨by omega, h2⟩
        · exact ⟨by omega, hc⟩
      · rintro ⟨h1, h2⟩
        by_cases e : n = x
        · exact .inr e
        · exact .inl ⟨by omega, h2⟩
    · rename_i hc
      rw [ih]
      constructor
      · rintro ⟨h1, h2⟩; exact ⟨by omega, h2⟩
      · rintro ⟨h1, h2⟩
        refine ⟨?_, h2⟩
        by_cases e : x = n
        · subst e; exact absurd h2 hc
        · omega
/-- The same, as the document's answer: oneself first. -/
def lawN (s : Nat) (left : Nat → Nat) : Nat → Nat
  | 0 => withN 0 (s : Int)
  | n + 1 => if 0 < left n then withN (lawN s left n) (n : Int) else lawN s left n
theorem lawN_lt (s : Nat) (left : Nat → Nat) : ∀ n, lawN s left n < 65536
  | 0 => by unfold lawN; exact withN_lt _ (by omega) _
  | n + 1 => by
    unfold lawN
    split
    · exact withN_lt _ (lawN_lt s left n) _
    · exact lawN_lt s left n
theorem lawN_bit (s : Nat) (hs : s < 16) (left : Nat → Nat) (x : Nat) : ∀ n, n ≤ 16 → ((lawN s left n).testBit x = true ↔ x = s ∨ (x < n ∧ 0 < left x))
  | 0, _ => by
    unfold lawN
    rw [with_bit _ _ _ hs]
    simp
    exact eq_comm
  | n + 1, hn => by
    have ih := lawN_bit s hs left x n (by omega)
    unfold lawN
    split
    · rename_i hc
      rw [with_bit _ _ _ (by omega), Bool.or_eq_true, ih, decide_eq_true_eq]
      constructor
      · rintro ((h | ⟨h1, h2⟩) | rfl)
        · exact .inl h
        · exact .inr ⟨by omega, h2⟩
        · exact .inr ⟨by omega, hc⟩
      · rintro (h | ⟨h1, h2⟩)
        · exact .inl (.inl h)
        · by_cases e : n = x
          · exact .inr e
          · exact .inl (.inr ⟨by omega, h2⟩)
    · rename_i hc
      rw [ih]
      constructor
      · rintro (h | ⟨h1, h2⟩)
        · exact .inl h
        · exact .inr ⟨by omega, h2⟩
      · rintro (h | ⟨h1, h2⟩)
        · exact .inl h
        · refine .inr ⟨?_, h2⟩
          by_cases e : x = n
          · subst e; exact absurd h2 hc
          · omega
theorem est_law {s N : Nat} {left : Nat → Nat} (hs : s < N) (hN : N ≤ 16) (h0 : ∀ j, N ≤ j → left j = 0) : estN s left N = lawN s left 16 := by
  apply Nat.eq_of_testBit_eq
  intro x
  apply Bool.eq_iff_iff.2
  rw [estN_bit s left x N hN, lawN_bit s (by omega) left x 16 (by omega)]
  constructor
  · rintro ⟨h1, h2 | h2⟩
    · exact .inl h2
    · exact .inr ⟨by omega, h2⟩
  · rintro (rfl | ⟨h1, h2⟩)
    · exact ⟨hs, .inl rfl⟩
    · refine ⟨?_, .inr h2⟩
      have := h0 x
      omega

end Go.Proofs.Ytofhkfbibdkjgaa
