/-
  Sets of nodes as bits: plain.
  Joined states in plain data.
  What a node knows of views, in plain data: its calls as functions.
  Sets of nodes: the calls of package ident, and the document's.
  How a node lies in memory, and what it says.
-/
import Derived.Test.YtlonbbepoamnmaaDoorSAll2
import Derived.Test.YtlonbbepoamnmaaDoorSAll1
import Derived.Laws.BitsAllLaws
import Derived.Laws.Rows
namespace Go.Proofs.YtlonbbepoamnmaaDoor
set_option linter.unusedVariables false

/-- How many of the first f bits are 1. -/
def cntF : Nat → Nat → Nat
  | 0, _ => 0
  | f + 1, n => n % 2 + cntF f (n / 2)
theorem cntF_zero : ∀ f, cntF f 0 = 0
  | 0 => rfl
  | f + 1 => by simp [cntF, cntF_zero f]
theorem cntF_add : ∀ a b n, cntF (a + b) n = cntF a n + cntF b (n / 2 ^ a)
  | 0, b, n => by simp [cntF]
  | a + 1, b, n => by
    rw [Nat.add_right_comm, cntF, cntF, cntF_add a b (n / 2), Nat.div_div_eq_div_mul, Nat.pow_succ, Nat.mul_comm 2]
    omega
theorem cntF_mod : ∀ a n, cntF a (n % 2 ^ a) = cntF a n
  | 0, n => rfl
  | a + 1, n => by
    have h1 : n % 2 ^ (a + 1) % 2 = n % 2 := by rw [Nat.pow_succ, Nat.mul_comm]; exact Nat.mod_mul_right_mod n 2 (2 ^ a)
    have h2 : n % 2 ^ (a + 1) / 2 = n / 2 % 2 ^ a := by rw [Nat.pow_succ, Nat.mul_comm]; exact Nat.mod_mul_right_div_self n 2 (2 ^ a)
    rw [cntF, cntF, h1, h2, cntF_mod a (n / 2)]
theorem cntF_split (n : Nat) : cntF 16 n = cntF 8 (n / 256) + cntF 8 (n % 256) := by
  have h1 : cntF 16 n = cntF 8 n + cntF 8 (n / 256) := cntF_add 8 8 n
  have h2 : cntF 8 (n % 256) = cntF 8 n := cntF_mod 8 n
  omega
theorem cntF_le : ∀ f n, cntF f n ≤ f
  | 0, n => Nat.le_refl _
  | f + 1, n => by have := cntF_le f (n / 2); rw [cntF]; omega
theorem cntF_small : ∀ f k n, n < 2 ^ k → cntF f n ≤ k
  | 0, k, n, _ => by simp [cntF]
  | f + 1, 0, n, h => by have : n = 0 := by simpa using h
                         subst this; rw [cntF_zero]; exact Nat.le_refl _
  | f + 1, k + 1, n, h => by
    have := cntF_small f k (n / 2) (by rw [Nat.pow_succ] at h; omega)
    rw [cntF]; omega
theorem cntF_and_or : ∀ f x y, cntF f (x &&& y) + cntF f (x ||| y) = cntF f x + cntF f y
  | 0, x, y => rfl
  | f + 1, x, y => by
    have h := cntF_and_or f (x / 2) (y / 2)
    have ha : (x &&& y) / 2 = x / 2 &&& y / 2 := Nat.and_div_two
    have ho : (x ||| y) / 2 = x / 2 ||| y / 2 := Nat.or_div_two
    have hm : (x &&& y) % 2 + (x ||| y) % 2 = x % 2 + y % 2 := by
      have e1 : (x &&& y) % 2 = (x % 2) &&& (y % 2) := by have := Nat.and_mod_two_pow (a := x) (b := y) (n := 1); simpa using this
      have e2 : (x ||| y) % 2 = (x % 2) ||| (y % 2) := by have := Nat.or_mod_two_pow (a := x) (b := y) (n := 1); simpa using this
      rw [e1, e2]
      rcases Nat.mod_two_eq_zero_or_one x with hx | hx <;> rcases Nat.mod_two_eq_zero_or_one y with hy | hy <;> rw [hx, hy] <;> rfl
    rw [cntF, cntF, cntF, cntF, ha, ho]
    omega
theorem cntF_disj (f x y : Nat) (h : x &&& y = 0) : cntF f (x ||| y) = cntF f x + cntF f y := by
  have := cntF_and_or f x y
  rw [h, cntF_zero] at this
  omega
theorem cntF_ones : ∀ f k, k ≤ f → cntF f (2 ^ k - 1) = k
  | f, 0, _ => by simp [cntF_zero]
  | 0, k + 1, h => by omega
  | f + 1, k + 1, h => by
    have h1 : (2 ^ (k + 1) - 1) % 2 = 1 := by have := Nat.one_le_two_pow (n := k); rw [Nat.pow_succ]; omega
    have h2 : (2 ^ (k + 1) - 1) / 2 = 2 ^ k - 1 := by have := Nat.one_le_two_pow (n := k); rw [Nat.pow_succ]; omega
    rw [cntF, h1, h2, cntF_ones f k (by omega)]
    omega
/-- The nodes of a set below k, rising. -/
def nodes (s : Nat) (k : Nat) : List Nat := (List.range k).filter (fun i => s.testBit i)
theorem nodes_succ (s k : Nat) : nodes s (k + 1) = nodes s k ++ (if s.testBit k then [k] else []) := by
  simp only [nodes, List.range_succ, List.filter_append]
  congr 1
  by_cases h : s.testBit k <;> simp [h]
theorem nodes_len : ∀ k s, (nodes s k).length = cntF k s
  | 0, s => rfl
  | k + 1, s => by
    rw [nodes_succ, List.length_append, nodes_len k s]
    have h := cntF_add k 1 s
    rw [h]
    congr 1
    show _ = s / 2 ^ k % 2 + 0
    rw [Nat.testBit_eq_decide_div_mod_eq]
    rcases Nat.mod_two_eq_zero_or_one (s / 2 ^ k) with e | e <;> simp [e]
theorem or_add : ∀ x y : Nat, x &&& y = 0 → x ||| y = x + y := by
  intro x
  induction x using Nat.strongRecOn with
  | _ x ih =>
    intro y h
    by_cases hx : x = 0
    · subst hx; simp
    · have h1 : x / 2 &&& y / 2 = 0 := by rw [← Nat.and_div_two, h]
      have h2 := ih (x / 2) (by omega) (y / 2) h1
      have h3 : (x ||| y) / 2 = x / 2 ||| y / 2 := Nat.or_div_two
      have e1 : (x &&& y) % 2 = (x % 2) &&& (y % 2) := by have := Nat.and_mod_two_pow (a := x) (b := y) (n := 1); simpa using this
      have e2 : (x ||| y) % 2 = (x % 2) ||| (y % 2) := by have := Nat.or_mod_two_pow (a := x) (b := y) (n := 1); simpa using this
      rw [h] at e1
      have h4 : (x ||| y) % 2 = x % 2 + y % 2 := by
        rcases Nat.mod_two_eq_zero_or_one x with a | a <;> rcases Nat.mod_two_eq_zero_or_one y with b | b <;> rw [a, b] at e1 e2 ⊢ <;> simp at e1 e2 ⊢ <;> omega
      omega
theorem or_pow (s k : Nat) : s ||| 2 ^ k = if s.testBit k then s else s + 2 ^ k := by
  by_cases h : s.testBit k
  · rw [if_pos h]
    apply Nat.eq_of_testBit_eq
    intro j
    rw [Nat.testBit_or, Nat.testBit_two_pow]
    by_cases e : k = j
    · subst e; simp [h]
    · simp [e]
  · rw [if_neg h]
    have h0 : s &&& 2 ^ k = 0 := by
      apply Nat.eq_of_testBit_eq
      intro j
      rw [Nat.testBit_and, Nat.testBit_two_pow, Nat.zero_testBit]
      by_cases e : k = j
      · subst e; simp [h]
      · simp [e]
    exact or_add s (2 ^ k) h0
theorem not_pow (s k : Nat) (hs : s < 65536) (hk : k < 16) : s &&& (65535 - 2 ^ k) = if s.testBit k then s - 2 ^ k else s := by
  have hp : 2 ^ k ≤ 32768 := by have := Nat.pow_le_pow_right (show 0 < 2 by omega) (show k ≤ 15 by omega); omega
  have e : 65535 - 2 ^ k = 2 ^ 16 - (2 ^ k + 1) := by omega
  have hb : ∀ j, (s &&& (65535 - 2 ^ k)).testBit j = (s.testBit j && !(decide (k = j))) := by
    intro j
    rw [Nat.testBit_and, e, Nat.testBit_two_pow_sub_succ (by omega), Nat.testBit_two_pow]
    by_cases hj : j < 16
    · simp [hj]
    · have : s.testBit j = false := Nat.testBit_lt_two_pow (Nat.lt_of_lt_of_le hs (by have := Nat.pow_le_pow_right (show 0 < 2 by omega) (show 16 ≤ j by omega); omega))
      simp [this]
  by_cases h : s.testBit k
  · rw [if_pos h]
    have h1 : (s &&& (65535 - 2 ^ k)) ||| 2 ^ k = s := by
      apply Nat.eq_of_testBit_eq
      intro j
      rw [Nat.testBit_or, hb, Nat.testBit_two_pow]
      by_cases ej : k = j
      · subst ej; simp [h]
      · simp [ej]
    have h2 := or_pow (s &&& (65535 - 2 ^ k)) k
    rw [hb k, h] at h2
    simp at h2
    rw [h1] at h2
    omega
  · rw [if_neg h]
    apply Nat.eq_of_testBit_eq
    intro j
    rw [hb]
    by_cases ej : k = j
    · subst ej; simp [h]
    · simp [ej]
theorem without_zero (s : Nat) (hs : s < 65536) : s &&& 65535 = s := Nat.and_two_pow_sub_one_of_lt_two_pow (n := 16) hs
/-- A number that is not 0 has a least bit. -/
theorem low_bit : ∀ s : Nat, 0 < s → ∃ k m, s = 2 ^ k * (2 * m + 1) := by
  intro s
  induction s using Nat.strongRecOn with
  | _ s ih =>
    intro hs
    rcases Nat.mod_two_eq_zero_or_one s with h | h
    · obtain ⟨k, m, e⟩ := ih (s / 2) (by omega) (by omega)
      refine ⟨k + 1, m, ?_⟩
      rw [Nat.pow_succ, Nat.mul_comm (2 ^ k) 2, Nat.mul_assoc, ← e]
      omega
    · exact ⟨0, s / 2, by omega⟩
theorem odd_bits (m t : Nat) : ((2 * m + 1).testBit t && !(2 * m).testBit t) = decide (t = 0) := by
  cases t with
  | zero => simp [Nat.testBit_zero]
  | succ t => 
    rw [Nat.testBit_succ, Nat.testBit_succ, show (2 * m + 1) / 2 = m by omega, show 2 * m / 2 = m by omega]
    simp
theorem low_and (k m : Nat) (h : 2 ^ k * (2 * m + 1) < 65536) : (2 ^ k * (2 * m + 1)) &&& (65536 - 2 ^ k * (2 * m + 1)) = 2 ^ k := by
  have hp := Nat.two_pow_pos k
  have hpos : 0 < 2 ^ k * (2 * m + 1) := Nat.mul_pos hp (by omega)
  have es : 2 ^ k * (2 * m + 1) - 1 = 2 ^ k * (2 * m) + (2 ^ k - 1) := by rw [Nat.mul_add]; omega
  have e1 : 65536 - 2 ^ k * (2 * m + 1) = 2 ^ 16 - ((2 ^ k * (2 * m + 1) - 1) + 1) := by omega
  apply Nat.eq_of_testBit_eq
  intro j
  rw [Nat.testBit_and, e1, Nat.testBit_two_pow_sub_succ (by omega), es, Nat.testBit_two_pow_mul_add _ (by omega), Nat.testBit_two_pow]
  have e2 : (2 ^ k * (2 * m + 1)).testBit j = if j < k then false else (2 * m + 1).testBit (j - k) := by
    have := Nat.testBit_two_pow_mul_add (2 * m + 1) (b := 0) (i := k) hp j
    rw [Nat.add_zero] at this
    rw [this]
    split <;> simp
  rw [e2]
  by_cases hj : j < k
  · rw [if_pos hj, if_pos hj]
    have : ¬ k = j := by omega
    simp [this]
  · rw [if_neg hj, if_neg hj]
    by_cases h16 : j < 16
    · have hd : decide (j < 16) = true := by simpa using h16
      rw [hd, Bool.true_and, odd_bits]
      by_cases e : k = j
      · subst e; simp
      · have : ¬ j - k = 0 := by omega
        simp [e, this]
    · have hk : k < 16 := by
        rcases Nat.lt_or_ge k 16 with h1 | h1
        · exact h1
        · have h2 := Nat.pow_le_pow_right (show 0 < 2 by omega) h1
          have h3 := Nat.le_mul_of_pos_right (2 ^ k) (show 0 < 2 * m + 1 by omega)
          omega
      have : ¬ k = j := by omega
      simp [h16, this]
theorem low_lt (k m : Nat) (h : 2 ^ k * (2 * m + 1) < 65536) : k < 16 := by
  rcases Nat.lt_or_ge k 16 with h1 | h1
  · exact h1
  · have h2 := Nat.pow_le_pow_right (show 0 < 2 by omega) h1
    have h3 := Nat.le_mul_of_pos_right (2 ^ k) (show 0 < 2 * m + 1 by omega)
    omega
theorem low_first (k m : Nat) (h : 2 ^ k * (2 * m + 1) < 65536) : (nodes (2 ^ k * (2 * m + 1)) 16)[0]? = some k := by
  have hk := low_lt k m h
  have hb : ∀ j, (2 ^ k * (2 * m + 1)).testBit j = if j < k then false else (2 * m + 1).testBit (j - k) := by
    intro j
    have := Nat.testBit_two_pow_mul_add (2 * m + 1) (b := 0) (i := k) (Nat.two_pow_pos k) j
    rw [Nat.add_zero] at this
    rw [this]
    split <;> simp
  rw [nodes, ← List.head?_eq_getElem?, List.head?_filter, List.find?_range_eq_some]
  refine ⟨?_, by simpa using hk, fun j hj => ?_⟩
  · rw [hb, if_neg (by omega)]; simp
  · rw [hb, if_pos hj]; rfl
/-- The set of one node. -/
def onlyN (i : Int) : Nat := if 0 ≤ i ∧ i < 16 then 2 ^ i.toNat else 0
theorem onlyN_lt (i : Int) : onlyN i < 65536 := by
  unfold onlyN
  split
  · have h := Nat.pow_le_pow_right (show 0 < 2 by omega) (show i.toNat ≤ 15 by omega)
    omega
  · omega
theorem and_pow (s k : Nat) : s &&& 2 ^ k = if s.testBit k then 2 ^ k else 0 := by
  apply Nat.eq_of_testBit_eq
  intro j
  rw [Nat.testBit_and, Nat.testBit_two_pow]
  by_cases h : k = j
  · subst h
    cases hb : s.testBit k <;> simp [Nat.testBit_two_pow_self]
  · have h1 : decide (k = j) = false := by simpa using h
    rw [h1, Bool.and_false]
    split
    · rw [Nat.testBit_two_pow, h1]
    · simp
/-- Is a node in a set? -/
def hasN (s : Nat) (i : Int) : Bool := decide (0 ≤ i) && decide (i < 16) && s.testBit i.toNat
/-- A set with a node, without it. -/
def withN (s : Nat) (i : Int) : Nat := s ||| onlyN i
def withoutN (s : Nat) (i : Int) : Nat := s &&& (65535 - onlyN i)
theorem withN_lt (s : Nat) (hs : s < 65536) (i : Int) : withN s i < 65536 := Nat.or_lt_two_pow (n := 16) hs (onlyN_lt i)
theorem withoutN_lt (s : Nat) (hs : s < 65536) (i : Int) : withoutN s i < 65536 := Nat.and_lt_two_pow (n := 16) s (by have := onlyN_lt i; omega)
theorem withN_eq (s : Nat) (i : Int) : withN s i = if 0 ≤ i ∧ i < 16 ∧ hasN s i = false then s + 2 ^ i.toNat else s := by
  unfold withN onlyN hasN
  by_cases h : 0 ≤ i ∧ i < 16
  · rw [if_pos h, or_pow]
    simp only [h.1, h.2, decide_true, Bool.true_and, true_and]
    cases s.testBit i.toNat <;> simp
  · rw [if_neg h, if_neg (by omega)]; simp
theorem withoutN_eq (s : Nat) (hs : s < 65536) (i : Int) : withoutN s i = if hasN s i = true then s - 2 ^ i.toNat else s := by
  unfold withoutN onlyN hasN
  by_cases h : 0 ≤ i ∧ i < 16
  · rw [if_pos h, not_pow s i.toNat hs (by omega)]
    simp only [h.1, h.2, decide_true, Bool.true_and]
  · rw [if_neg h, Nat.sub_zero, without_zero s hs]
    by_cases h0 : 0 ≤ i
    · simp [h0, show ¬ i < 16 by omega]
    · simp [h0]
theorem has_le (s n : Nat) (h : s.testBit n = true) : 2 ^ n ≤ s := Nat.ge_two_pow_of_testBit h
/-- The least node of a set, -1: none. -/
def leastN (s : Nat) : Int := (((nodes s 16)[0]?).map (fun (k : Nat) => (k : Int))).getD (-1)
theorem leastN_some {s k : Nat} (h : (nodes s 16)[0]? = some k) : leastN s = k := by unfold leastN; rw [h]; rfl
theorem leastN_zero : leastN 0 = -1 := by decide
end Go.Proofs.YtlonbbepoamnmaaDoor
namespace Go.Proofs.YtlonbbepoamnmaaDoor
set_option linter.unusedVariables false

/-- A state: its view's number, its floor, what its items say. -/
abbrev Sd := Nat × Int × Int × List Di
def keyS (d : Sd) : Sx := (d.1, d.2.1, d.2.2.1, none, d.2.2.2.length, 0)
def joinOf (tl : List Tg) : List Tg := (tl.filter (fun t => bestK tl t tl.length)).foldl (fun r x => ins x r) []
theorem fold_ins : ∀ (L r : List Tg), r.Pairwise ltV → L.Pairwise (fun a b => ¬ sameV b a) → (∀ x ∈ L, ∀ y ∈ r, ¬ sameV x y) →
    (L.foldl (fun r x => ins x r) r).Pairwise ltV ∧ ∀ z, z ∈ L.foldl (fun r x => ins x r) r ↔ z ∈ r ∨ z ∈ L
  | [], r, hr, _, _ => ⟨hr, fun z => by simp⟩
  | x :: L, r, hr, hL, hx => by
    obtain ⟨h1, h2⟩ := List.pairwise_cons.1 hL
    obtain ⟨i1, i2⟩ := ins_asc hr (hx x (List.mem_cons_self))
    obtain ⟨j1, j2⟩ := fold_ins L (ins x r) i1 h2 (fun y hy z hz => by
      rcases (i2 z).1 hz with hz | rfl
      · exact hx y (List.mem_cons_of_mem _ hy) z hz
      · exact h1 y hy)
    refine ⟨j1, fun z => ?_⟩
    rw [List.foldl_cons, j2 z, i2 z, List.mem_cons]
    constructor
    · rintro ((h | h) | h)
      · exact .inl h
      · exact .inr (.inl h)
      · exact .inr (.inr h)
    · rintro (h | h | h)
      · exact .inl (.inl h)
      · exact .inl (.inr h)
      · exact .inr h
theorem joinOf_is (ss : List Sx) : IsJoin (tagl ss) (joinOf (tagl ss)) := by
  have hb : ∀ t, bestK (tagl ss) t (tagl ss).length = true ↔ Best (tagl ss) t := fun t => bestK_all (Nat.le_refl _)
  obtain ⟨h1, h2⟩ := fold_ins ((tagl ss).filter (fun t => bestK (tagl ss) t (tagl ss).length)) [] List.Pairwise.nil (by
    refine List.Pairwise.imp_of_mem ?_ (List.Pairwise.sublist List.filter_sublist (tagl_tags ss))
    intro a b ha hb' hlt
    obtain ⟨a1, a2⟩ := List.mem_filter.1 ha
    obtain ⟨b1, b2⟩ := List.mem_filter.1 hb'
    exact best_one b1 a1 ((hb b).1 b2) ((hb a).1 a2) (by omega)) (by simp)
  refine ⟨h1, fun t => ?_⟩
  unfold joinOf
  rw [h2 t, List.mem_filter, hb t]
  simp
def zeroS : Sd := (0, 0, 0, [])
/-- Of each view the state that has the most. -/
def joinD (ds : List Sd) : List Sd := (joinOf (tagl (ds.map keyS))).map (fun t => ds.getD t.2 zeroS)

/-- The same things where they lie elsewhere. -/
theorem isJoin_map {tl J : List Tg} (φ : Tg → Tg) (hφ : ∀ t ∈ tl, (φ t).1.1 = t.1.1 ∧ (φ t).1.2.1 = t.1.2.1 ∧ endS (φ t).1 = endS t.1 ∧ (φ t).2 = t.2) (h : IsJoin tl J) : IsJoin (tl.map φ) (J.map φ) := by
  have hJ : ∀ t ∈ J, t ∈ tl := fun t ht => ((h.2 t).1 ht).1
  have hB : ∀ t ∈ tl, (Best (tl.map φ) (φ t) ↔ Best tl t) := fun t ht => by
    obtain ⟨a, b, c, d⟩ := hφ t ht
    unfold Best
    rw [a]
    constructor
    · rintro ⟨h0, h1⟩
      refine ⟨h0, fun u hu hs hl => ?_⟩
      obtain ⟨a', b', c', d'⟩ := hφ u hu
      refine h1 (φ u) (List.mem_map.2 ⟨u, hu, rfl⟩) ?_ ?_
      · unfold sameV at hs ⊢; omega
      · unfold ltT ltK at hl ⊢; omega
    · rintro ⟨h0, h1⟩
      refine ⟨h0, fun u hu hs hl => ?_⟩
      obtain ⟨v, hv, rfl⟩ := List.mem_map.1 hu
      obtain ⟨a', b', c', d'⟩ := hφ v hv
      refine h1 v hv ?_ ?_
      · unfold sameV at hs ⊢; omega
      · unfold ltT ltK at hl ⊢; omega
  refine ⟨?_, fun t => ?_⟩
  · rw [List.pairwise_map]
    refine List.Pairwise.imp_of_mem ?_ h.1
    intro x y hx hy hl
    obtain ⟨a, b, _, _⟩ := hφ x (hJ x hx)
    obtain ⟨a', b', _, _⟩ := hφ y (hJ y hy)
    unfold ltV at hl ⊢
    omega
  · rw [List.mem_map, List.mem_map]
    constructor
    · rintro ⟨u, hu, rfl⟩
      obtain ⟨h1, h2⟩ := (h.2 u).1 hu
      exact ⟨⟨u, h1, rfl⟩, (hB u h1).2 h2⟩
    · rintro ⟨⟨u, hu, rfl⟩, hb⟩
      exact ⟨u, (h.2 u).2 ⟨hu, (hB u hu).1 hb⟩, rfl⟩

/-- States in memory and what they say. -/
def Says (ss : List Sx) (ds : List Sd) : Prop := ss.length = ds.length ∧ ∀ (j : Nat) (x : Sx) (d : Sd), ss[j]? = some x → ds[j]? = some d → x.1 = d.1 ∧ x.2.1 = d.2.1 ∧ x.2.2.1 = d.2.2.1 ∧ x.2.2.2.2.1 = d.2.2.2.length
theorem tagl_says {ss : List Sx} {ds : List Sd} (h : Says ss ds) : tagl (ds.map keyS) = (tagl ss).map (fun t => (keyS (ds.getD t.2 zeroS), t.2)) := by
  apply List.ext_getElem?
  intro j
  rw [List.getElem?_map]
  by_cases hj : j < ds.length
  · have e1 : (ds.map keyS)[j]? = some (keyS ds[j]) := by rw [List.getElem?_map, List.getElem?_eq_getElem hj]; rfl
    have e2 : ss[j]? = some (ss[j]'(by rw [h.1]; exact hj)) := List.getElem?_eq_getElem _
    rw [tagl_get e1, tagl_get e2]
    simp [List.getD, List.getElem?_eq_getElem hj]
  · have e1 : (tagl (ds.map keyS))[j]? = none := List.getElem?_eq_none (by rw [tagl_len, List.length_map]; omega)
    have e2 : (tagl ss)[j]? = none := List.getElem?_eq_none (by rw [tagl_len, h.1]; omega)
    rw [e1, e2]; rfl
theorem says_phi {ss : List Sx} {ds : List Sd} (h : Says ss ds) : ∀ t ∈ tagl ss, (keyS (ds.getD t.2 zeroS)).1 = t.1.1 ∧ (keyS (ds.getD t.2 zeroS)).2.1 = t.1.2.1 ∧ endS (keyS (ds.getD t.2 zeroS)) = endS t.1 ∧ t.2 = t.2 := fun t ht => by
  have hm := tagl_mem ht
  have hl := (List.getElem?_eq_some_iff.1 hm).1
  have hd : ds[t.2]? = some (ds.getD t.2 zeroS) := by rw [List.getD, List.getElem?_eq_getElem (by rw [← h.1]; exact hl)]; rfl
  obtain ⟨a, b, c, d⟩ := h.2 t.2 _ _ hm hd
  refine ⟨a.symm, b.symm, ?_, rfl⟩
  unfold endS keyS
  simp only
  rw [c, d]
theorem join_says {ss : List Sx} {ds : List Sd} {J : List Tg} (h : Says ss ds) (hJ : IsJoin (tagl ss) J) : J.map (fun t => ds.getD t.2 zeroS) = joinD ds := by
  have hm := isJoin_map (fun t => (keyS (ds.getD t.2 zeroS), t.2)) (says_phi h) hJ
  rw [← tagl_says h] at hm
  have he := hm.unique (joinOf_is (ds.map keyS))
  unfold joinD
  rw [← he, List.map_map]
  rfl
theorem joinD_keys (ds : List Sd) : (joinD ds).map keyS = (joinOf (tagl (ds.map keyS))).map (·.1) := by
  unfold joinD
  rw [List.map_map]
  apply List.map_congr_left
  intro t ht
  have hm := tagl_mem (((joinOf_is (ds.map keyS)).2 t).1 ht).1
  rw [List.getElem?_map] at hm
  obtain ⟨d, hd, he⟩ := Option.map_eq_some_iff.1 hm
  show keyS (ds.getD t.2 zeroS) = t.1
  rw [List.getD, hd]
  exact he
theorem joinD_again (ds : List Sd) : joinD (joinD ds) = joinD ds := by
  have hT : Twin ((joinOf (tagl (ds.map keyS))).map (·.1)) ((joinD ds).map keyS) := by
    rw [joinD_keys]
    exact ⟨rfl, fun j x y hx hy => by rw [hx] at hy; cases hy; exact ⟨rfl, rfl, rfl, rfl⟩⟩
  have ha := again (xs := []) (joinOf_is (ds.map keyS)) hT (by simp)
  rw [List.append_nil] at ha
  have he := (joinOf_is ((joinD ds).map keyS)).unique ha
  generalize joinD ds = rs at *
  unfold joinD
  rw [he]
  apply List.ext_getElem?
  intro j
  rw [List.getElem?_map]
  by_cases hj : j < rs.length
  · have e1 : (rs.map keyS)[j]? = some (keyS rs[j]) := by rw [List.getElem?_map, List.getElem?_eq_getElem hj]; rfl
    rw [tagl_get e1, List.getElem?_eq_getElem hj]
    simp [List.getD, List.getElem?_eq_getElem hj]
  · rw [List.getElem?_eq_none (by rw [tagl_len, List.length_map]; omega), List.getElem?_eq_none (by omega)]; rfl
theorem joinD_len (ds : List Sd) : (joinD ds).length ≤ ds.length := by
  unfold joinD
  rw [List.length_map]
  have h := joinOf_is (ds.map keyS)
  have := nodup_len (ascV_nodup h.1) (fun x hx => ((h.2 x).1 hx).1)
  rw [tagl_len, List.length_map] at this
  exact this
end Go.Proofs.YtlonbbepoamnmaaDoor
namespace Go.Proofs.YtlonbbepoamnmaaDoor
set_option linter.unusedVariables false

/-- A view's number. -/
abbrev Vid := Nat × Int
def vlt (a b : Vid) : Prop := a.1 < b.1 ∨ a.1 = b.1 ∧ a.2 < b.2
def vle (a b : Vid) : Prop := a.1 < b.1 ∨ a.1 = b.1 ∧ a.2 ≤ b.2
instance (a b : Vid) : Decidable (vlt a b) := by unfold vlt; infer_instance
instance (a b : Vid) : Decidable (vle a b) := by unfold vle; infer_instance
theorem vle_refl (a : Vid) : vle a a := by unfold vle; omega
theorem vle_trans {a b c : Vid} (h : vle a b) (k : vle b c) : vle a c := by unfold vle at *; omega
theorem vlt_trans {a b c : Vid} (h : vlt a b) (k : vlt b c) : vlt a c := by unfold vlt at *; omega
theorem vlt_le {a b : Vid} (h : vlt a b) : vle a b := by unfold vle vlt at *; omega
theorem vlt_of_lt_le {a b c : Vid} (h : vlt a b) (k : vle b c) : vlt a c := by unfold vle vlt at *; omega
theorem vlt_of_le_lt {a b c : Vid} (h : vle a b) (k : vlt b c) : vlt a c := by unfold vle vlt at *; omega
theorem not_vlt {a b : Vid} : ¬ vlt a b ↔ vle b a := by unfold vle vlt; omega
theorem vle_antisymm {a b : Vid} (h : vle a b) (k : vle b a) : a = b := by
  unfold vle at *
  exact Prod.ext (by omega) (by omega)
theorem vlt_irr (a : Vid) : ¬ vlt a a := by unfold vlt; omega
theorem vlt_ne {a b : Vid} (h : vlt a b) : a ≠ b := fun e => by subst e; exact vlt_irr _ h
theorem vle_lt_or_eq {a b : Vid} (h : vle a b) : a = b ∨ vlt a b := by
  by_cases e : vlt a b
  · exact .inr e
  · exact .inl (vle_antisymm h (not_vlt.1 e))
theorem vle_of_eq {a b : Vid} (h : a = b) : vle a b := h ▸ vle_refl a
theorem vle_fst {a b : Vid} (h : vle a b) : a.1 ≤ b.1 := by unfold vle at h; omega

/-- A frame. -/
structure PF where
  kind : Nat
  frm : Int
  idN : Nat
  idP : Int
  set : Nat
  curN : Nat
  curP : Int
  promN : Nat
  promP : Int
  st : List Sd
  base : Nat
  ms : List (List UInt8)
  it : List Di
  ack : Nat
  safe : Nat
def zeroF : PF := ⟨0, 0, 0, 0, 0, 0, 0, 0, 0, [], 0, [], [], 0, 0⟩
def PF.id (F : PF) : Vid := (F.idN, F.idP)
def PF.cur (F : PF) : Vid := (F.curN, F.curP)
def PF.prom (F : PF) : Vid := (F.promN, F.promP)

/-- A proposal of one's own. -/
structure Pp where
  id : Vid
  set : Nat
  acc : Nat
  sts : List Sd
/-- What a node knows. -/
structure Mm where
  n : Nat
  self : Nat
  cur : Vid
  cset : Nat
  prom : Vid
  high : Nat
  own : Option Pp
  told : Nat → Vid × Vid
/-- A view that is installed. -/
structure Ins where
  id : Vid
  set : Nat
  sts : List Sd
structure Res where
  m : Mm
  outs : List (Nat × PF)
  inst : Option Ins
  err : Nat

def upd {α : Type} (f : Nat → α) (i : Nat) (x : α) : Nat → α := fun j => if j = i then x else f j
theorem upd_same {α : Type} (f : Nat → α) (i : Nat) (x : α) : upd f i x i = x := by simp [upd]
theorem upd_other {α : Type} (f : Nat → α) {i j : Nat} (x : α) (h : j ≠ i) : upd f i x j = f j := by simp [upd, h]

def newM (n self : Nat) : Mm := ⟨n, self, (0, 0), 0, (0, 0), 0, none, fun _ => ((0, 0), (0, 0))⟩
def Pp.agreed (p : Pp) : Bool := decide (p.acc = p.set)
def Mm.opn (m : Mm) : Bool := decide (0 < m.cur.1) && decide (m.prom = m.cur)
def Mm.passed (m : Mm) (s : Nat) (v : Vid) : Bool := (nodes s 16).any (fun i => decide (vlt v (m.told i).2))
def Mm.needs (m : Mm) (e : Nat) : Bool := !m.opn || !decide (m.cset = e) || m.passed e m.cur
def Mm.stands (m : Mm) (e : Nat) : Bool := match m.own with
  | none => false
  | some p => !p.agreed && decide (p.set = e) && !m.passed e p.id
def Mm.proposes (m : Mm) (e : Nat) : Bool := decide (leastN e = (m.self : Int)) && m.needs e && !m.stands e && decide (m.high < 18446744073709551615)
def Mm.estOf (m : Mm) (est : Nat) : Nat := withN (est &&& (2 ^ m.n - 1)) (m.self : Nat)
def Mm.prop (m : Mm) (e : Nat) (st : Sd) : Pp := ⟨(m.high + 1, (m.self : Int)), e, withN 0 (m.self : Nat), [st]⟩
def Mm.propose (m : Mm) (e : Nat) (st : Sd) : Mm := { m with high := m.high + 1, prom := (m.high + 1, (m.self : Int)), own := some (m.prop e st) }
def fr (k frm : Nat) (id : Vid) : PF := { zeroF with kind := k, frm := (frm : Int), idN := id.1, idP := id.2 }
def Mm.ask (m : Mm) (p : Pp) : PF := { fr 2 m.self p.id with set := p.set }
def Mm.commit (m : Mm) (p : Pp) : PF := { fr 5 m.self p.id with set := p.set, st := joinD p.sts }
def Mm.others (m : Mm) (p : Pp) : List Nat := nodes (withoutN p.set (m.self : Nat)) 16
def Mm.remind (m : Mm) : List (Nat × PF) := match m.own with
  | none => []
  | some p => if p.agreed = true then ((m.others p).filter (fun i => !decide ((m.told i).1 = p.id))).map (fun i => (i, m.commit p))
    else ((m.others p).filter (fun i => !hasN p.acc (i : Nat))).map (fun i => (i, m.ask p))
def Mm.install (m : Mm) (p : Pp) : Mm := { m with own := some { p with sts := joinD p.sts }, cur := p.id, cset := p.set }
def insOf (p : Pp) : Ins := ⟨p.id, p.set, joinD (joinD p.sts)⟩
/-- A tick. -/
def Mm.tick (m : Mm) (est : Nat) (st : Sd) : Res :=
  if m.proposes (m.estOf est) = true then
    if (m.prop (m.estOf est) st).agreed = true then ⟨(m.propose (m.estOf est) st).install (m.prop (m.estOf est) st), [], some (insOf (m.prop (m.estOf est) st)), 0⟩
    else ⟨m.propose (m.estOf est) st, (m.propose (m.estOf est) st).remind, none, 0⟩
  else ⟨m, m.remind, none, 0⟩

def Mm.rise (m : Mm) (k : Nat) : Mm := { m with high := max m.high k }
def Mm.beat (m : Mm) (F : PF) : Mm := ({ m with told := upd m.told F.frm.toNat (F.cur, F.prom) }.rise F.curN).rise F.promN
def Mm.yes (m : Mm) (F : PF) (st : Sd) : PF := { fr 3 m.self F.id with st := [st] }
def Mm.no (m : Mm) (F : PF) : PF := { fr 4 m.self F.id with promN := m.prom.1, promP := m.prom.2 }
def Mm.took (m : Mm) (F : PF) : Mm := if vlt m.prom F.id then { m with high := max m.high F.idN, prom := F.id, own := none } else { m with high := max m.high F.idN }
def Mm.proposed (m : Mm) (F : PF) (st : Sd) : Res :=
  if F.idP ≠ F.frm ∨ ¬ (hasN F.set F.frm = true ∧ hasN F.set (m.self : Nat) = true) ∨ F.set &&& (65535 - (2 ^ m.n - 1)) ≠ 0 then ⟨m, [], none, 3⟩
  else if F.id ≠ (m.took F).prom ∨ F.id = m.cur then ⟨m.took F, [(F.frm.toNat, (m.took F).no F)], none, 9⟩
  else ⟨m.took F, [(F.frm.toNat, m.yes F st)], none, 0⟩
def Pp.more (p : Pp) (i : Int) (d : Sd) : Pp := { p with acc := withN p.acc i, sts := p.sts ++ [d] }
def Mm.accepted (m : Mm) (F : PF) : Res := match m.own, F.st with
  | some p, [d] =>
    if F.id = p.id ∧ hasN p.set F.frm = true ∧ hasN p.acc F.frm = false then
      if (p.more F.frm d).agreed = true then ⟨{ m with own := some (p.more F.frm d) }.install (p.more F.frm d), (m.others p).map (fun i => (i, m.commit { p.more F.frm d with sts := joinD (p.more F.frm d).sts })), some (insOf (p.more F.frm d)), 0⟩
      else ⟨{ m with own := some (p.more F.frm d) }, [], none, 0⟩
    else ⟨m, [], none, 9⟩
  | _, _ => ⟨m, [], none, 9⟩
def Mm.refused (m : Mm) (F : PF) : Mm := match m.own with
  | some p => if p.agreed = false ∧ F.id = p.id ∧ vlt F.id F.prom then { m with high := max m.high F.promN, own := none } else { m with high := max m.high F.promN }
  | none => { m with high := max m.high F.promN }
def Mm.committed (m : Mm) (F : PF) : Res :=
  if F.id ≠ m.prom ∨ F.id = m.cur ∨ hasN F.set (m.self : Nat) = false ∨ F.idP ≠ F.frm then ⟨m, [], none, 9⟩
  else ⟨{ m with cur := F.id, cset := F.set }, [], some ⟨F.id, F.set, F.st⟩, 0⟩
/-- A frame comes. -/
def Mm.inn (m : Mm) (F : PF) (st : Sd) : Res :=
  if hasN (withoutN (2 ^ m.n - 1) (m.self : Nat)) F.frm = false then ⟨m, [], none, 1⟩
  else if F.kind = 1 then ⟨m.beat F, [], none, 0⟩
  else if F.kind = 2 then m.proposed F st
  else if F.kind = 3 then m.accepted F
  else if F.kind = 4 then ⟨m.refused F, [], none, 0⟩
  else if F.kind = 5 then m.committed F
  else ⟨m, [], none, 3⟩
end Go.Proofs.YtlonbbepoamnmaaDoor
namespace Go.Proofs.YtlonbbepoamnmaaDoor
open Go.RowKit
set_option linter.unusedVariables false

/-- How many bits each byte has. -/
def tab : ByteArray := ⟨((List.range 256).map (fun k => UInt8.ofNat (cntF 8 k))).toArray⟩
theorem tab_all : ∀ i : Fin 256, (tab.data[i.val]?).map UInt8.toNat = some (cntF 8 i.val) := by decide +kernel
theorem tab_at {T : ByteArray} (hT : T = tab) {i : Nat} (h : i < T.size) (k : Nat) (e : i = k) (hk : k < 256) : T[i].toNat = cntF 8 k := by
  subst hT
  subst e
  have ha := tab_all ⟨i, hk⟩
  have hs : i < tab.data.size := h
  simp only [Array.getElem?_eq_getElem hs, Option.map_some, Option.some.injEq] at ha
  exact ha
set_option maxRecDepth 10000 in
theorem ones_any (w : World) (s : Nat) (hs : s < 65536) : Calls Tryd.prog 105 #[.int .u16 (s : Nat)] w fun e w' => e = .returned (.int .i64 (cntF 16 s : Nat)) ∧ ∃ q, w' = w.drewN q := by
  have ha : bits .and .u16 (s : Int) 255 = ((s % 256 : Nat) : Int) := by
    have := u16_and_nat s 255 hs (by omega)
    rw [show s &&& 255 = s % 256 by exact Nat.and_two_pow_sub_one_eq_mod s 8] at this
    exact this
  have hl1 := cntF_le 8 (s / 256)
  have hl2 := cntF_le 8 (s % 256)
  have HS : Hid (cntF 16 s = cntF 8 (s / 256) + cntF 8 (s % 256)) := cntF_split s
  go_enter Tryd.func105, Tryd.ntmps105
  go_wp2_with fail
  refine wp_region_noPanic ?_
  refine wp_region_held_drew (S := fun wx => True) (by kernel_rfl) trivial (fun hHeld => ?_)
  refine take_first 0 (v := ?_) rfl (by kernel_rfl) (by kernel_rfl) (by kernel_rfl) (fun _ _ _ h => h) (Or.inl ⟨by rfl, by intro wx hSw; go_simp; try with_reducible rfl⟩) trivial ?_
  (try simp only [Act.put, List.setIfInBounds_toArray, List.set_cons_zero, List.set_cons_succ])
  refine take_first 1 (v := .int .u16 ((s / 256 : Nat) : Int)) rfl (by kernel_rfl) (by kernel_rfl) (by kernel_rfl) (fun _ _ _ h => h) (Or.inl ⟨by rfl, by intro wx hSw; go_simp⟩) trivial ?_
  (try simp only [Act.put, List.setIfInBounds_toArray, List.set_cons_zero, List.set_cons_succ])
  refine take_first 2 (v := .int .u8 ((cntF 8 (s / 256) : Nat) : Int)) rfl (by kernel_rfl) (by kernel_rfl) (by kernel_rfl) (fun _ _ _ h => h) (Or.inl ⟨by rfl, by
    intro wx hSw
    go_simp
    rw [dif_pos (by omega), Result.andThen_ok, tab_at (by kernel_rfl) _ (s / 256) (by omega) (by omega)]⟩) trivial ?_
  (try simp only [Act.put, List.setIfInBounds_toArray, List.set_cons_zero, List.set_cons_succ])
  refine take_first 3 (v := ?_) rfl (by kernel_rfl) (by kernel_rfl) (by kernel_rfl) (fun _ _ _ h => h) (Or.inl ⟨by rfl, by intro wx hSw; go_simp; try with_reducible rfl⟩) trivial ?_
  (try simp only [Act.put, List.setIfInBounds_toArray, List.set_cons_zero, List.set_cons_succ])
  refine take_first 4 (v := .int .u16 ((s % 256 : Nat) : Int)) rfl (by kernel_rfl) (by kernel_rfl) (by kernel_rfl) (fun _ _ _ h => h) (Or.inl ⟨by rfl, by intro wx hSw; go_simp⟩) trivial ?_
  (try simp only [Act.put, List.setIfInBounds_toArray, List.set_cons_zero, List.set_cons_succ])
  refine take_first 5 (v := .int .u8 ((cntF 8 (s % 256) : Nat) : Int)) rfl (by kernel_rfl) (by kernel_rfl) (by kernel_rfl) (fun _ _ _ h => h) (Or.inl ⟨by rfl, by
    intro wx hSw
    go_simp
    rw [dif_pos (by omega), Result.andThen_ok, tab_at (by kernel_rfl) _ (s % 256) (by omega) (by omega)]⟩) trivial ?_
  (try simp only [Act.put, List.setIfInBounds_toArray, List.set_cons_zero, List.set_cons_succ])
  generalize cntF 8 (s / 256) = c1 at *
  generalize cntF 8 (s % 256) = c2 at *
  refine take_first 6 (v := .int .u8 ((c1 : Int) + c2)) rfl (by kernel_rfl) (by kernel_rfl) (by kernel_rfl) (fun _ _ _ h => h) (Or.inl ⟨by rfl, by intro wx hSw; go_simp; exact IntWalk.u8_in _ (by omega)⟩) trivial ?_
  (try simp only [Act.put, List.setIfInBounds_toArray, List.set_cons_zero, List.set_cons_succ])
  refine take_first 7 (v := .int .i64 ((c1 : Int) + c2)) rfl (by kernel_rfl) (by kernel_rfl) (by kernel_rfl) (fun _ _ _ h => h) (Or.inl ⟨by rfl, by intro wx hSw; go_simp; exact IntWalk.i64_in _ (by omega)⟩) trivial ?_
  (try simp only [Act.put, List.setIfInBounds_toArray, List.set_cons_zero, List.set_cons_succ])
  refine take_first 8 (v := ?_) rfl (by kernel_rfl) (by kernel_rfl) (by kernel_rfl) (fun _ _ _ h => h) (Or.inl ⟨by rfl, by intro wx hSw; go_simp; try with_reducible rfl⟩) trivial ?_
  (try simp only [Act.put, List.setIfInBounds_toArray, List.set_cons_zero, List.set_cons_succ])
  refine wpAnyH_done (by kernel_rfl) ?_ _
  refine NoPanic.normal ?_
  go_wp2
  go_ret
  exact ⟨ret_int (by rw [HS.out]; rfl), 1, rfl⟩
theorem count_any (w : World) (s : Nat) (hs : s < 65536) : Calls Tryd.prog 99 #[.int .u16 (s : Nat)] w fun e w' => e = .returned (.int .i64 (cntF 16 s : Nat)) ∧ ∃ q, w' = w.drewN q := by
  go_enter Tryd.func99, Tryd.ntmps99
  go_wp2_with fail
  refine (ones_any w s hs).mono ?_
  rintro e w1 ⟨rfl, q, rfl⟩
  go_wp2
  go_ret
  exact ⟨rfl, q, rfl⟩
theorem wrap_pow (n : Nat) (h : n < 16) : IntKind.u16.wrap ((2 : Int) ^ n) = ((2 ^ n : Nat) : Int) := by
  have h2 := Nat.pow_le_pow_right (show 0 < 2 by omega) (show n ≤ 15 by omega)
  have e : ((2 ^ n : Nat) : Int) = (2 : Int) ^ n := by simp
  rw [← e]
  have hp : ∀ m : Nat, m ≤ 2 ^ 15 → IntKind.u16.wrap (m : Int) = m := fun m hm => IntWalk.u16_in _ (by omega)
  exact hp _ h2
set_option maxRecDepth 10000 in
theorem only_any (w : World) (i : Int) : Calls Tryd.prog 54 #[.int .i64 i] w fun e w' => e = .returned (.int .u16 (onlyN i : Nat)) ∧ w = w' := by
  by_cases h0 : i < 0
  · have HO : Hid (onlyN i = 0) := by unfold Hid onlyN; rw [if_neg (by omega)]
    go_enter Tryd.func54, Tryd.ntmps54
    go_wp2
    go_ret
    exact ⟨ret_int (by rw [HO.out]; rfl), rfl⟩
  · by_cases h1 : i < 16
    · have HO : Hid (onlyN i = 2 ^ i.toNat) := by unfold Hid onlyN; rw [if_pos (by omega)]
      have h2 := Nat.pow_le_pow_right (show 0 < 2 by omega) (show i.toNat ≤ 15 by omega)
      obtain ⟨n, rfl⟩ : ∃ n : Nat, i = n := ⟨i.toNat, by omega⟩
      rw [Int.toNat_natCast] at HO h2
      go_enter Tryd.func54, Tryd.ntmps54
      go_wp2
      go_ret
      exact ⟨ret_int (by rw [HO.out]; exact wrap_pow n (by omega)), rfl⟩
    · have HO : Hid (onlyN i = 0) := by unfold Hid onlyN; rw [if_neg (by omega)]
      go_enter Tryd.func54, Tryd.ntmps54
      go_wp2
      go_ret
      exact ⟨ret_int (by rw [HO.out]; rfl), rfl⟩
theorem has_num (s : Nat) (hs : s < 65536) (i : Int) : (bits .and .u16 (s : Int) (onlyN i : Nat) != 0) = hasN s i := by
  rw [u16_and_nat s (onlyN i) hs (onlyN_lt i)]
  unfold hasN onlyN
  by_cases h : 0 ≤ i ∧ i < 16
  · rw [if_pos h]
    simp only [h.1, h.2, decide_true, Bool.true_and]
    rw [and_pow]
    have h2 := Nat.two_pow_pos i.toNat
    generalize 2 ^ i.toNat = m at *
    cases s.testBit i.toNat
    · simp
    · simp; omega
  · rw [if_neg h]
    by_cases h0 : 0 ≤ i
    · simp [h0, show ¬ i < 16 by omega]
    · simp [h0]
theorem has_any (w : World) (s : Nat) (hs : s < 65536) (i : Int) : Calls Tryd.prog 43 #[.int .u16 (s : Nat), .int .i64 i] w fun e w' => e = .returned (.bool (hasN s i)) ∧ w = w' := by
  have HH : Hid ((bits .and .u16 (s : Int) (onlyN i : Nat) != 0) = hasN s i) := has_num s hs i
  have ho := only_any w i
  generalize onlyN i = o at *
  go_enter Tryd.func43, Tryd.ntmps43
  go_wp2_with fail
  refine ho.mono ?_
  rintro e w1 ⟨rfl, rfl⟩
  go_wp2
  go_ret
  exact ⟨ret_bool (by rw [← HH.out]), rfl⟩
theorem und50 : Tryd.prog.underlying 35 = some (.slice 3) := by kernel_rfl
theorem info3 : (Tryd.prog.info? 3).map (fun i => (i.zero, i.size, i.bytes)) = some (some (.int .i64 0), 1, 8) := by kernel_rfl
theorem make_list (c : Nat) (hc : c ≤ 16) (w : World) : (Instr.makeSlice 35 (.int .i64 0) (.int .i64 (c : Int))).run Tryd.prog w = .ok (.slice (some ⟨w.heap.size, 0, none⟩) 0 c) (w.alloc (.cells (madeCells #[.int .i64 0] c) 3)) := by
  obtain ⟨i, hi, hz, hs, hb⟩ := info_parts info3
  have hr := run_make (P := Tryd.prog) w 35 3 i (.int .i64 0) und50 hi hz .i64 .i64 0 (c : Int) (Int.le_refl _) (by omega) (by rw [hb]; omega) (by omega)
  simp only [Int.toNat_zero, Int.toNat_natCast, hs, Nat.mul_one] at hr
  exact hr
def ints (l : List Nat) : List Value := l.map (fun i => Value.int .i64 (i : Nat))
theorem ints_len (l : List Nat) : (ints l).length = l.length := by simp [ints]
set_option maxRecDepth 10000 in
set_option maxHeartbeats 1000000 in
theorem list_any (w : World) (s : Nat) (hs : s < 65536) : Calls Tryd.prog 80 #[.int .u16 (s : Nat)] w fun e w' => ∃ v, e = .returned v ∧ w'.ownsRow w.heap.size 3 1 v (cntF 16 s) (ints (nodes s 16)) ∧ Below w.heap.size w w' := by
  have hl := cntF_le 16 s
  obtain ⟨i0, hi0, hz0, hz1, hz2⟩ := info_parts info3
  have hmk := make_list (cntF 16 s) hl
  have hc := count_any w s hs
  have HN : Hid ((nodes s 16).length = cntF 16 s) := nodes_len 16 s
  have hrow : ∀ q, ((w.drewN q).alloc (.cells (madeCells #[.int .i64 0] (cntF 16 s)) 3)).ownsRow w.heap.size 3 1 (.slice (some ⟨w.heap.size, 0, none⟩) 0 (cntF 16 s)) 0 [] := fun q =>
    World.ownsRow_made (w.drewN q) _ (cntF 16 s) (Nat.le_refl _) (by unfold maxLen; omega) (by simp [size_madeCells])
  generalize cntF 16 s = c at *
  go_enter Tryd.func80, Tryd.ntmps80
  go_wp2_with fail
  refine hc.mono ?_
  rintro e w1 ⟨rfl, q1, rfl⟩
  have hrow1 := hrow q1
  go_wp2_with fail
  go_loopw [3, 8] (fun v iv wr => ∃ k : Nat, k ≤ 16 ∧ iv = .int .i64 k ∧ wr.ownsRow w.heap.size 3 1 v (nodes s k).length (ints (nodes s k)) ∧ Below w.heap.size w wr) (fun _ iv _ => 16 - (intOf iv).toNat)
  case atStart => exact ⟨0, by omega, rfl, hrow1, (bl_drewN (Below.refl _ _) q1).alloc (Nat.le_refl _) _⟩
  case round =>
    obtain ⟨k, hk, rfl, hown, hb⟩ := hrel
    by_cases hlt : k < 16
    · have hltI : (k : Int) < 16 := by omega
      have hh := has_any wr s hs (k : Int)
      have hhas : hasN s (k : Int) = s.testBit k := by simp [hasN]; omega
      rw [hhas] at hh
      have hnl : (nodes s k).length ≤ k := by rw [nodes_len]; exact cntF_le k s
      have HS : Hid (nodes s (k + 1) = nodes s k ++ (if s.testBit k then [k] else [])) := nodes_succ s k
      have hsz := hb.size
      cases hbit : s.testBit k with
      | false =>
        rw [hbit] at hh
        rw [hbit] at HS
        go_wp2_with fail
        refine hh.mono ?_
        rintro e w2 ⟨rfl, rfl⟩
        go_wp2
        go_roundw
        case rel => first | exact ⟨k + 1, by omega, by go_num, by rw [HS.out]; simpa using hown, hb⟩ | ((repeat apply Exists.intro); exact ⟨⟨k + 1, by omega, by go_num, by rw [HS.out]; simpa using hown, hb⟩, rfl⟩)
        case measure => simp [intOf]; omega
      | true =>
        rw [hbit] at hh
        rw [hbit] at HS
        obtain ⟨L, HL⟩ : ∃ L, Hid ((nodes s k).length = L) := ⟨_, rfl⟩
        have hL := HL.out
        rw [hL] at hown hnl
        clear hL
        go_wp2_with fail
        refine hh.mono ?_
        rintro e w2 ⟨rfl, rfl⟩
        have hb2 := fun o => hb.alloc hsz o
        have hown2 := fun o => hown.alloc o
        go_wp2_with (first | (at_builtin; refine wpList_append_own_at _ rfl _ _ 35 rfl w.heap.size 3 i0 (.int .i64 0) 1 8 und50 hi0 hz0 hz1 hz2 rfl (by decide) _ L (ints (nodes s k)) rfl ?d1 ⟨wr.heap.size, 0, none⟩ 1 1 [.int .i64 (k : Nat)] rfl rfl ?d3 ?d4 ?d6 ?d7 ?d8 ?_))
        case d1 => exact hown2 _
        case d3 => exact cell_one_new _ _ _
        case d4 => simp [Value.oneCell']
        case d6 => unfold maxLen; omega
        case d7 => omega
        case d8 => simp; omega
        intro v' w3 hown3 hgrow hnil hat
        have hb3 := bl_grown (hb2 _) (by simp; omega) hgrow (fun g hg => (hown.lt g hg).1)
        have hown4 : w3.ownsRow w.heap.size 3 1 v' (nodes s (k + 1)).length (ints (nodes s (k + 1))) := by
          rw [HS.out]
          simpa [ints, HL.out] using hown3
        clear hown3 hgrow hnil hat hb2 hown2 hown hb hh
        go_wp2
        go_roundw
        case rel => first | exact ⟨k + 1, by omega, by go_num, hown4, hb3⟩ | ((repeat apply Exists.intro); exact ⟨⟨k + 1, by omega, by go_num, hown4, hb3⟩, rfl⟩)
        case measure => simp [intOf]; omega
    · obtain rfl : k = 16 := by omega
      rw [HN.out] at hown
      go_wp2
      go_ret
      exact ⟨_, rfl, hown, hb⟩
theorem with_any (w : World) (s : Nat) (hs : s < 65536) (i : Int) : Calls Tryd.prog 30 #[.int .u16 (s : Nat), .int .i64 i] w fun e w' => e = .returned (.int .u16 (withN s i : Nat)) ∧ w = w' := by
  have ho := only_any w i
  have e := u16_or_nat s (onlyN i) hs (onlyN_lt i)
  unfold withN
  generalize onlyN i = o at *
  generalize s ||| o = r at *
  go_enter Tryd.func30, Tryd.ntmps30
  go_wp2_with fail
  refine ho.mono ?_
  rintro e w1 ⟨rfl, rfl⟩
  go_wp2
  go_ret
  exact ⟨rfl, rfl⟩
theorem without_any (w : World) (s : Nat) (hs : s < 65536) (i : Int) : Calls Tryd.prog 44 #[.int .u16 (s : Nat), .int .i64 i] w fun e w' => e = .returned (.int .u16 (withoutN s i : Nat)) ∧ w = w' := by
  have ho := only_any w i
  have e := u16_andNot_nat s (onlyN i) hs (onlyN_lt i)
  unfold withoutN
  generalize onlyN i = o at *
  generalize s &&& (65535 - o) = r at *
  go_enter Tryd.func44, Tryd.ntmps44
  go_wp2_with fail
  refine ho.mono ?_
  rintro e w1 ⟨rfl, rfl⟩
  go_wp2
  go_ret
  exact ⟨rfl, rfl⟩
theorem pow_step (k : Nat) (h : k < 15) : IntKind.u16.wrap (((2 ^ k : Nat) : Int) * 2) = ((2 ^ (k + 1) : Nat) : Int) := by
  have hp := Nat.pow_le_pow_right (show 0 < 2 by omega) (show k ≤ 14 by omega)
  rw [Nat.pow_succ]
  have : ∀ m : Nat, m ≤ 2 ^ 14 → IntKind.u16.wrap ((m : Int) * 2) = ((m * 2 : Nat) : Int) := fun m hm => by rw [IntWalk.u16_in _ (by omega)]; simp
  exact this _ hp
set_option maxRecDepth 10000 in
theorem bit_any (w : World) (n : Nat) (hn : n < 16) : Calls Tryd.prog 53 #[.int .i64 (n : Nat)] w fun e w' => e = .returned (.int .u16 (2 ^ n : Nat)) ∧ w = w' := by
  go_enter Tryd.func53, Tryd.ntmps53
  go_wp2
  go_loop [3, 4] (fun b i => ∃ k : Nat, k ≤ n ∧ i = .int .i64 k ∧ b = .int .u16 (2 ^ k : Nat)) (fun _ i => n - (intOf i).toNat)
  case atStart => exact ⟨0, by omega, rfl, rfl⟩
  case round =>
    obtain ⟨k, hk, rfl, rfl⟩ := hrel
    by_cases hlt : k < n
    · have hltI : (k : Int) < n := by omega
      have hs := pow_step k (by omega)
      obtain ⟨m, HM⟩ : ∃ m : Nat, Hid (2 ^ k = m) := ⟨_, rfl⟩
      have hm := Nat.pow_le_pow_right (show 0 < 2 by omega) (show k ≤ 14 by omega)
      rw [HM.out] at hs hm ⊢
      have HS : Hid (IntKind.u16.wrap ((m : Int) * 2) = ((2 ^ (k + 1) : Nat) : Int)) := hs
      clear hs
      go_wp2
      go_round
      case rel => exact ⟨k + 1, by omega, by go_num, by rw [← HS.out, IntWalk.u16_in _ (by omega)]⟩
      case measure => simp [intOf]; omega
    · obtain rfl : k = n := by omega
      go_wp2
      go_ret
      exact ⟨rfl, rfl⟩
theorem ref_has_num (s n : Nat) : decide (((s : Int) / ((2 ^ n : Nat) : Int)) % 2 = 1) = s.testBit n := by
  rw [Nat.testBit_eq_decide_div_mod_eq]
  have : ((s : Int) / ((2 ^ n : Nat) : Int)) % 2 = ((s / 2 ^ n % 2 : Nat) : Int) := by simp
  rw [this]
  exact decide_eq_decide.2 (by omega)
theorem ref_num (s m : Nat) (hs : s < 65536) (b : Bool) (h : decide (((s : Int) / (m : Int)) % 2 = 1) = b) : ((IntKind.u16.wrap ((s : Int) / (m : Int))).tmod 2 == 1) = b := by
  have e : (s : Int) / (m : Int) = ((s / m : Nat) : Int) := by simp
  have hle := Nat.div_le_self s m
  rw [e] at h ⊢
  clear e
  generalize s / m = d at *
  rw [IntWalk.u16_in _ (by omega), Int.tmod_eq_emod_of_nonneg (by omega), ← h]
  rfl
set_option maxRecDepth 10000 in
theorem refHas_any (w : World) (s : Nat) (hs : s < 65536) (i : Int) : Calls Tryd.prog 27 #[.int .u16 (s : Nat), .int .i64 i] w fun e w' => e = .returned (.bool (hasN s i)) ∧ w = w' := by
  unfold hasN
  by_cases h0 : 0 ≤ i
  · by_cases h1 : i < 16
    · obtain ⟨n, rfl⟩ : ∃ n : Nat, i = n := ⟨i.toNat, by omega⟩
      have hb := bit_any w n (by omega)
      have HR : Hid (decide (((s : Int) / ((2 ^ n : Nat) : Int)) % 2 = 1) = s.testBit n) := ref_has_num s n
      have hp := Nat.two_pow_pos n
      have hp2 := Nat.pow_le_pow_right (show 0 < 2 by omega) (show n ≤ 15 by omega)
      rw [Int.toNat_natCast, show decide (0 ≤ (n : Int)) = true by simp, show decide ((n : Int) < 16) = true by simpa using h1]
      generalize 2 ^ n = m at *
      go_enter Tryd.func27, Tryd.ntmps27
      go_wp2_with fail
      refine hb.mono ?_
      rintro e w1 ⟨rfl, rfl⟩
      go_wp2
      go_ret
      exact ⟨ret_bool (by rw [ref_num s m hs _ HR.out]; simp), rfl⟩
    · rw [show decide (i < 16) = false by simpa using h1]
      go_enter Tryd.func27, Tryd.ntmps27
      go_wp2
      go_ret
      exact ⟨ret_bool (by simp), rfl⟩
  · rw [show decide (0 ≤ i) = false by simpa using h0]
    go_enter Tryd.func27, Tryd.ntmps27
    go_wp2
    go_ret
    exact ⟨ret_bool (by simp), rfl⟩
set_option maxRecDepth 10000 in
theorem refWith_any (w : World) (s : Nat) (hs : s < 65536) (i : Int) : Calls Tryd.prog 28 #[.int .u16 (s : Nat), .int .i64 i] w fun e w' => e = .returned (.int .u16 (withN s i : Nat)) ∧ w = w' := by
  have hh := refHas_any w s hs i
  have hlt := withN_lt s hs i
  rw [withN_eq] at hlt ⊢
  by_cases h0 : i < 0
  · rw [if_neg (by omega)]
    go_enter Tryd.func28, Tryd.ntmps28
    go_wp2
    go_ret
    exact ⟨rfl, rfl⟩
  · by_cases h1 : 15 < i
    · rw [if_neg (by omega)]
      go_enter Tryd.func28, Tryd.ntmps28
      go_wp2
      go_ret
      exact ⟨rfl, rfl⟩
    · obtain ⟨n, rfl⟩ : ∃ n : Nat, i = n := ⟨i.toNat, by omega⟩
      have hb := bit_any w n (by omega)
      rw [Int.toNat_natCast] at hlt ⊢
      generalize 2 ^ n = m at *
      cases hc : hasN s n with
      | true =>
        rw [hc] at hh
        rw [if_neg (by simp)]
        go_enter Tryd.func28, Tryd.ntmps28
        go_wp2_with fail
        refine hh.mono ?_
        rintro e w1 ⟨rfl, rfl⟩
        go_wp2
        go_ret
        exact ⟨rfl, rfl⟩
      | false =>
        rw [hc] at hh hlt
        rw [if_pos ⟨by omega, by omega, rfl⟩] at hlt ⊢
        go_enter Tryd.func28, Tryd.ntmps28
        go_wp2_with fail
        refine hh.mono ?_
        rintro e w1 ⟨rfl, rfl⟩
        go_wp2_with fail
        refine hb.mono ?_
        rintro e w1 ⟨rfl, rfl⟩
        go_wp2
        go_ret
        exact ⟨ret_int (by go_num), rfl⟩
set_option maxRecDepth 10000 in
set_option maxHeartbeats 1000000 in
theorem refList_any (w : World) (s : Nat) (hs : s < 65536) : Calls Tryd.prog 39 #[.int .u16 (s : Nat)] w fun e w' => ∃ v, e = .returned v ∧ w'.ownsRow w.heap.size 3 1 v (cntF 16 s) (ints (nodes s 16)) ∧ Below w.heap.size w w' := by
  obtain ⟨i0, hi0, hz0, hz1, hz2⟩ := info_parts info3
  have HN : Hid ((nodes s 16).length = cntF 16 s) := nodes_len 16 s
  go_enter Tryd.func39, Tryd.ntmps39
  go_wp2_with fail
  go_loopw [3, 4] (fun v iv wr => ∃ k : Nat, k ≤ 16 ∧ iv = .int .i64 k ∧ wr.ownsRow w.heap.size 3 1 v (nodes s k).length (ints (nodes s k)) ∧ Below w.heap.size w wr) (fun _ iv _ => 16 - (intOf iv).toNat)
  case atStart => exact ⟨0, by omega, rfl, World.ownsRow_nil _ _ _ _, Below.refl _ _⟩
  case round =>
    obtain ⟨k, hk, rfl, hown, hb⟩ := hrel
    by_cases hlt : k < 16
    · have hltI : (k : Int) < 16 := by omega
      have hh := refHas_any wr s hs (k : Int)
      have hhas : hasN s (k : Int) = s.testBit k := by simp [hasN]; omega
      rw [hhas] at hh
      have hnl : (nodes s k).length ≤ k := by rw [nodes_len]; exact cntF_le k s
      have HS : Hid (nodes s (k + 1) = nodes s k ++ (if s.testBit k then [k] else [])) := nodes_succ s k
      have hsz := hb.size
      cases hbit : s.testBit k with
      | false =>
        rw [hbit] at hh
        rw [hbit] at HS
        go_wp2_with fail
        refine hh.mono ?_
        rintro e w2 ⟨rfl, rfl⟩
        go_wp2
        go_roundw
        case rel => first | exact ⟨k + 1, by omega, by go_num, by rw [HS.out]; simpa using hown, hb⟩ | ((repeat apply Exists.intro); exact ⟨⟨k + 1, by omega, by go_num, by rw [HS.out]; simpa using hown, hb⟩, rfl⟩)
        case measure => simp [intOf]; omega
      | true =>
        rw [hbit] at hh
        rw [hbit] at HS
        obtain ⟨L, HL⟩ : ∃ L, Hid ((nodes s k).length = L) := ⟨_, rfl⟩
        have hL := HL.out
        rw [hL] at hown hnl
        clear hL
        go_wp2_with fail
        refine hh.mono ?_
        rintro e w2 ⟨rfl, rfl⟩
        have hb2 := fun o => hb.alloc hsz o
        have hown2 := fun o => hown.alloc o
        go_wp2_with (first | (at_builtin; refine wpList_append_own_at _ rfl _ _ 35 rfl w.heap.size 3 i0 (.int .i64 0) 1 8 und50 hi0 hz0 hz1 hz2 rfl (by decide) _ L (ints (nodes s k)) rfl ?d1 ⟨wr.heap.size, 0, none⟩ 1 1 [.int .i64 (k : Nat)] rfl rfl ?d3 ?d4 ?d6 ?d7 ?d8 ?_))
        case d1 => exact hown2 _
        case d3 => exact cell_one_new _ _ _
        case d4 => simp [Value.oneCell']
        case d6 => unfold maxLen; omega
        case d7 => omega
        case d8 => simp; omega
        intro v' w3 hown3 hgrow hnil hat
        have hb3 := bl_grown (hb2 _) (by simp; omega) hgrow (fun g hg => (hown.lt g hg).1)
        have hown4 : w3.ownsRow w.heap.size 3 1 v' (nodes s (k + 1)).length (ints (nodes s (k + 1))) := by
          rw [HS.out]
          simpa [ints, HL.out] using hown3
        clear hown3 hgrow hnil hat hb2 hown2 hown hb hh
        go_wp2
        go_roundw
        case rel => first | exact ⟨k + 1, by omega, by go_num, hown4, hb3⟩ | ((repeat apply Exists.intro); exact ⟨⟨k + 1, by omega, by go_num, hown4, hb3⟩, rfl⟩)
        case measure => simp [intOf]; omega
    · obtain rfl : k = 16 := by omega
      rw [HN.out] at hown
      go_wp2
      go_ret
      exact ⟨_, rfl, hown, hb⟩
/-- The table of package math/bits. -/
def tzTab : List Nat := [0, 1, 28, 2, 29, 14, 24, 3, 30, 22, 20, 15, 25, 17, 4, 8, 31, 27, 13, 23, 21, 19, 16, 7, 26, 12, 18, 6, 11, 5, 10, 9]
def Tab (w : World) : Prop := ∀ j v, tzTab[j]? = some v → w.cell? ⟨0, j, none⟩ = some (.int .u8 (v : Nat))
theorem Tab.below {w w' : World} {B : Nat} (h : Tab w) (hb : Below B w w') (hB : 0 < B) : Tab w' := fun j v hj => (hb.cell (p := ⟨0, j, none⟩) hB).trans (h j v hj)
theorem Tab.drewN {w : World} (h : Tab w) (q : Nat) : Tab (w.drewN q) := h
theorem Tab.lt {w : World} (h : Tab w) : 0 < w.heap.size := World.block_lt_of_cell? w _ (h 0 0 rfl)
theorem tz_ok : ∀ k : Fin 16, tzTab[2 ^ k.val * 125613361 % 4294967296 / 134217728]? = some k.val := by decide
set_option maxRecDepth 10000 in
theorem tz_any (w : World) (hT : Tab w) (s k m : Nat) (hs : s < 65536) (he : s = 2 ^ k * (2 * m + 1)) : Calls Tryd.prog 77 #[.int .u16 (s : Nat)] w fun e w' => e = .returned (.int .i64 (k : Nat)) ∧ w = w' := by
  have hk := low_lt k m (he ▸ hs)
  have hpos : 0 < s := by rw [he]; exact Nat.mul_pos (Nat.two_pow_pos k) (by omega)
  have h1 : IntKind.u16.wrap (-(s : Int)) = ((65536 - s : Nat) : Int) := by rw [IntKind.wrap_u16]; omega
  have h2 := u16_and_nat s (65536 - s) hs (by omega)
  have h3 := low_and k m (he ▸ hs)
  rw [← he] at h3
  rw [h3] at h2
  have h4 := tz_ok ⟨k, hk⟩
  simp only at h4
  have hd : 2 ^ k * 125613361 % 4294967296 / 134217728 < 32 := by omega
  have h5 := hT _ _ h4
  have hp := Nat.pow_le_pow_right (show 0 < 2 by omega) (show k ≤ 15 by omega)
  clear h3 h4 he hT
  obtain ⟨P, HP⟩ : ∃ P : Nat, Hid (2 ^ k = P) := ⟨_, rfl⟩
  rw [HP.out] at h2 hd h5 hp
  have hsn : ((s : Int) == 0) = false := by simp; omega
  go_enter Tryd.func77, Tryd.ntmps77
  go_wp2
  go_ret
  exact ⟨rfl, rfl⟩
theorem least_zero (w : World) : Calls Tryd.prog 55 #[.int .u16 0] w fun e w' => e = .returned (.int .i64 (-1)) ∧ w = w' := by
  go_enter Tryd.func55, Tryd.ntmps55
  go_wp2
  go_ret
  exact ⟨rfl, rfl⟩
theorem least_any (w : World) (hT : Tab w) (s : Nat) (hs : s < 65536) : Calls Tryd.prog 55 #[.int .u16 (s : Nat)] w fun e w' => e = .returned (.int .i64 (leastN s)) ∧ w = w' := by
  by_cases h0 : s = 0
  · subst h0
    rw [leastN_zero]
    exact least_zero w
  · obtain ⟨k, m, he⟩ := low_bit s (by omega)
    have ht := tz_any w hT s k m hs he
    have hl := low_first k m (he ▸ hs)
    rw [← he] at hl
    rw [leastN_some hl]
    have hsn : ((s : Int) == 0) = false := by simp; omega
    clear he hl hT
    go_enter Tryd.func55, Tryd.ntmps55
    go_wp2_with fail
    refine ht.mono ?_
    rintro e w1 ⟨rfl, rfl⟩
    go_wp2
    go_ret
    exact ⟨rfl, rfl⟩
end Go.Proofs.YtlonbbepoamnmaaDoor
namespace Go.Proofs.YtlonbbepoamnmaaDoor
open Go.RowKit
set_option linter.unusedVariables false

/-- Of what was there only blocks of F have turned. -/
structure Turned (F : Nat → Prop) (w w' : World) : Prop where
  os : w'.os = w.os
  tape : w'.tape = w.tape
  output : w'.output = w.output
  size : w.heap.size ≤ w'.heap.size
  block : ∀ k, k < w.heap.size → ¬ F k → w'.heap[k]? = w.heap[k]?
theorem Turned.refl (F : Nat → Prop) (w : World) : Turned F w w := ⟨rfl, rfl, rfl, Nat.le_refl _, fun _ _ _ => rfl⟩
theorem Turned.trans {F F' : Nat → Prop} {a b c : World} (h : Turned F a b) (k : Turned F' b c) (hF : ∀ i, F' i → F i ∨ a.heap.size ≤ i) : Turned F a c :=
  ⟨k.os.trans h.os, k.tape.trans h.tape, k.output.trans h.output, Nat.le_trans h.size k.size, fun i hi hn => (k.block i (Nat.lt_of_lt_of_le hi h.size) (fun hf => (hF i hf).elim hn (fun hle => by omega))).trans (h.block i hi hn)⟩
theorem Turned.mono {F F' : Nat → Prop} {a b : World} (h : Turned F a b) (hF : ∀ i, F i → F' i) : Turned F' a b :=
  ⟨h.os, h.tape, h.output, h.size, fun i hi hn => h.block i hi (fun hf => hn (hF i hf))⟩
theorem Turned.of_grown {F : Nat → Prop} {w w' : World} {row : Option Nat} (h : w.grownBy w' row) (hr : ∀ k, row = some k → F k) : Turned F w w' :=
  ⟨h.os, h.tape, h.output, h.size, fun i hi hn => h.block i hi (fun e => hn (hr i e.symm))⟩
theorem Turned.of_below {F : Nat → Prop} {w w' : World} (h : Below w.heap.size w w') : Turned F w w' := ⟨h.os, h.tape, h.output, h.size, fun k hk _ => h.block k hk⟩
theorem Turned.alloc {F : Nat → Prop} {a w : World} (h : Turned F a w) (o : Obj) : Turned F a (w.alloc o) :=
  h.trans (Turned.of_grown (F := fun _ => False) (World.grownBy_alloc w o none) (by simp)) (by simp)
theorem Turned.drewN {F : Nat → Prop} {a w : World} (h : Turned F a w) (q : Nat) : Turned F a (w.drewN q) := ⟨h.os, h.tape, h.output, h.size, h.block⟩
theorem Turned.drew {F : Nat → Prop} {a w : World} (h : Turned F a w) : Turned F a w.drew := ⟨h.os, h.tape, h.output, h.size, h.block⟩
theorem Turned.setCell {F : Nat → Prop} {a w : World} (h : Turned F a w) {p : Addr} (hp : F p.block ∨ a.heap.size ≤ p.block) (u : Value) : Turned F a (w.setCell p u) :=
  h.trans (F' := fun i => i = p.block) ⟨rfl, rfl, rfl, by simp [World.setCell], fun k hk hn => Below.heap_setCell _ _ _ _ hn⟩ (by rintro i rfl; exact hp)
theorem Turned.below {F : Nat → Prop} {w w' : World} (h : Turned F w w') {B : Nat} (hB : B ≤ w.heap.size) (hF : ∀ i, F i → B ≤ i) : Below B w w' :=
  ⟨h.os, h.tape, h.output, h.size, fun k hk => h.block k (by omega) (fun hf => by have := hF k hf; omega)⟩
theorem Turned.bl {w w' : World} (h : Turned (fun _ => False) w w') : Below w.heap.size w w' := h.below (Nat.le_refl _) (fun _ f => f.elim)
theorem Turned.kp {F p : Nat → Prop} {w w' : World} (h : Turned F w w') (hp : ∀ b, p b → ¬ F b) : Kp p w w' := fun ad v hb hc => by
  have hl := World.block_lt_of_cell? w _ hc
  have := h.block _ hl (hp _ hb)
  rw [World.cell?_of_block (w := w) this]; exact hc
theorem cell_block {w w' : World} {b o : Nat} (h : w'.heap[b]? = w.heap[b]?) : w'.cell? ⟨b, o, none⟩ = w.cell? ⟨b, o, none⟩ := World.cell?_of_block (w := w) h
theorem frozen_block {w w' : World} {b o : Nat} (h : w'.heap[b]? = w.heap[b]?) : w'.frozen? ⟨b, o, none⟩ = w.frozen? ⟨b, o, none⟩ := World.frozen?_of_block (w := w) h
theorem row_block {w w' : World} {base e size : Nat} {v : Value} {n : Nat} {xs : List Value} (h : w.ownsRow base e size v n xs) (hb : ∀ b, v.ownBlock = some b → w'.heap[b]? = w.heap[b]?) : w'.ownsRow base e size v n xs := by
  refine ⟨h.1, ?_⟩
  rcases h.2 with hn | ⟨g, cap, cur, rfl, hbg, hg, r⟩
  · exact .inl hn
  · exact .inr ⟨g, cap, cur, rfl, hbg, by rw [hb g rfl]; exact hg, r⟩

/-- States in memory, and what they say. -/
def Si (p : Nat → Prop) (w : World) (x : Sx) (d : Sd) : Prop := x.1 = d.1 ∧ x.2.1 = d.2.1 ∧ x.2.2.1 = d.2.2.1 ∧ Its p w x.2.2.2.1 x.2.2.2.2.1 d.2.2.2
def Ss (p : Nat → Prop) (w : World) (ao : Option Addr) (n : Nat) (ds : List Sd) : Prop := ∃ ss, SR p w ao n ss ∧ ds.length = n ∧ ∀ (j : Nat) (x : Sx) (d : Sd), ss[j]? = some x → ds[j]? = some d → Si p w x d
section
variable {p q : Nat → Prop} {w w' : World} {x : Sx} {d : Sd} {ao : Option Addr} {n : Nat} {ds : List Sd}
theorem Si.keep (h : Si p w x d) (k : Kp p w w') : Si p w' x d := ⟨h.1, h.2.1, h.2.2.1, h.2.2.2.keep k⟩
theorem Si.imp (h : Si p w x d) (k : ∀ b, b < w.heap.size → p b → q b) : Si q w x d := ⟨h.1, h.2.1, h.2.2.1, h.2.2.2.imp k⟩
theorem Si.len (h : Si p w x d) : x.2.2.2.2.1 = d.2.2.2.length := h.2.2.2.len.symm
theorem Si.nil (p : Nat → Prop) (w : World) (n : Nat) (v f : Int) (c : Nat) : Si p w (n, v, f, none, 0, c) (n, v, f, []) := ⟨rfl, rfl, rfl, [], ⟨rfl, Nat.zero_le _, fun _ => rfl, fun h => absurd h (Nat.lt_irrefl 0)⟩, rfl, fun j x d hx => by simp at hx⟩
theorem Ss.keep (h : Ss p w ao n ds) (k : Kp p w w') : Ss p w' ao n ds := by
  obtain ⟨ss, h1, h2, h3⟩ := h
  exact ⟨ss, h1.keep k, h2, fun j x d hx hd => (h3 j x d hx hd).keep k⟩
theorem Ss.imp (h : Ss p w ao n ds) (k : ∀ b, b < w.heap.size → p b → q b) : Ss q w ao n ds := by
  obtain ⟨ss, h1, h2, h3⟩ := h
  exact ⟨ss, h1.imp k, h2, fun j x d hx hd => (h3 j x d hx hd).imp k⟩
theorem Ss.nil (p : Nat → Prop) (w : World) : Ss p w none 0 [] := ⟨[], ⟨rfl, by omega, fun _ => rfl, fun h => by omega⟩, rfl, fun j x d hx => by simp at hx⟩
theorem Ss.len (h : Ss p w ao n ds) : ds.length = n := by obtain ⟨_, _, h, _⟩ := h; exact h
theorem says_of {ss : List Sx} (h1 : ss.length = ds.length) (h2 : ∀ (j : Nat) (x : Sx) (d : Sd), ss[j]? = some x → ds[j]? = some d → Si p w x d) : Says ss ds := ⟨h1, fun j x d hx hd => ⟨(h2 j x d hx hd).1, (h2 j x d hx hd).2.1, (h2 j x d hx hd).2.2.1, (h2 j x d hx hd).len⟩⟩
theorem sts_of {ss : List Sx} (hs : SR p w ao n ss) (hl : ds.length = n) (h2 : ∀ (j : Nat) (x : Sx) (d : Sd), ss[j]? = some x → ds[j]? = some d → Si q w x d) : Sts (fun b => p b ∨ q b) w ao n ss (ds.map (·.2.2.2)) := by
  refine ⟨hs.imp (fun _ _ h => .inl h), by rw [List.length_map]; exact hl, fun j x e hx he => ?_⟩
  rw [List.getElem?_map] at he
  obtain ⟨d, hd, rfl⟩ := Option.map_eq_some_iff.1 he
  exact (h2 j x d hx hd).2.2.2.imp (fun _ _ h => .inr h)
end

/-- A state that is handed on. -/
theorem okS (x : Sx) : OkS x := trivial

/-- Join, by what states say. -/
theorem joinS_any {p q : Nat → Prop} (w : World) (ao : Option Addr) (n cap : Nat) (ss : List Sx) (ds : List Sd) (hs : SR p w ao n ss) (hl : ds.length = n) (h2 : ∀ (j : Nat) (x : Sx) (d : Sd), ss[j]? = some x → ds[j]? = some d → Si q w x d) (hn : n ≤ 1000) :
    Calls Tryd.prog 79 #[.slice ao n cap] w fun e w' => ∃ ao' cap' rs, e = .returned (.slice ao' (joinD ds).length cap') ∧ w'.ownsRow w.heap.size 45 4 (.slice ao' (joinD ds).length cap') (joinD ds).length (flat rs) ∧ rs.length = (joinD ds).length ∧
      (∀ (j : Nat) (x : Sx) (d : Sd), rs[j]? = some x → (joinD ds)[j]? = some d → Si (fun b => w.heap.size ≤ b ∧ ∀ a, ao' = some a → b ≠ a.block) w' x d) ∧ Below w.heap.size w w' := by
  have hsl : ss.length = ds.length := by rw [hs.1, hl]
  refine (join_any _ w ao n cap ss _ (sts_of hs hl h2) (fun x _ => okS x) hn).mono ?_
  rintro e w' ⟨ao', cap', J, rs, rfl, hJ, hown, hal, hsts, hits, _, hb⟩
  have hj := join_says (says_of hsl h2) hJ
  have hjl : (joinD ds).length = J.length := by rw [← hj, List.length_map]
  have hrl : rs.length = J.length := by rw [← hal.1, List.length_map]
  refine ⟨ao', cap', rs, by rw [hjl], by rw [hjl]; exact hown, by rw [hjl, hrl], fun j x d hx hd => ?_, hb⟩
  have hjlt : j < J.length := by have := (List.getElem?_eq_some_iff.1 hx).1; omega
  obtain ⟨t, ht⟩ : ∃ t, J[j]? = some t := ⟨J[j], List.getElem?_eq_getElem hjlt⟩
  have hm := tagl_mem (((hJ.2 t).1 (List.mem_of_getElem? ht)).1)
  have htl := (List.getElem?_eq_some_iff.1 hm).1
  have hdt : ds[t.2]? = some d := by
    rw [← hj, List.getElem?_map, ht] at hd
    simp at hd
    rw [List.getElem?_eq_getElem (by omega)] at hd ⊢
    simpa using hd
  have hsi := h2 t.2 t.1 d hm hdt
  obtain ⟨a1, a2, a3⟩ := hal.2 j t.1 x (by rw [List.getElem?_map, ht]; rfl) hx
  refine ⟨a1.trans hsi.1, a2.trans hsi.2.1, a3.trans hsi.2.2.1, ?_⟩
  refine hits j x d.2.2.2 hx ?_
  unfold esAt
  rw [List.getElem?_map, ht]
  simp [List.getElem?_map, hdt]

/-- The addresses of a frame's lists. -/
structure Fa where
  so : Option Addr
  sc : Nat
  mo : Option Addr
  mc : Nat
  io : Option Addr
  ic : Nat
def Fa.none : Fa := ⟨.none, 0, .none, 0, .none, 0⟩
def fcells (F : PF) (a : Fa) : Array Value := #[.int .u8 (F.kind : Nat), .int .i64 F.frm, .int .u64 (F.idN : Nat), .int .i64 F.idP, .int .u16 (F.set : Nat), .int .u64 (F.curN : Nat), .int .i64 F.curP, .int .u64 (F.promN : Nat), .int .i64 F.promP, .slice a.so F.st.length a.sc, .int .u64 (F.base : Nat), .slice a.mo F.ms.length a.mc, .slice a.io F.it.length a.ic, .int .u64 (F.ack : Nat), .int .u64 (F.safe : Nat)]
def fval (F : PF) (a : Fa) : Value := .agg (fcells F a)

/-- What a node's cells hold. -/
def tcell (t : Vid × Vid) : Nat → Value
  | 0 => .int .u64 (t.1.1 : Nat)
  | 1 => .int .i64 t.1.2
  | 2 => .int .u64 (t.2.1 : Nat)
  | _ => .int .i64 t.2.2
def ptr (o : Option Nat) : Value := .pointer (o.map fun b => ⟨b, 0, none⟩)
def mcell (M : Mm) (o : Option Nat) : Nat → Value
  | 0 => .int .u16 ((2 ^ M.n - 1 : Nat) : Int)
  | 1 => .int .i64 (M.self : Nat)
  | 2 => .int .u64 (M.cur.1 : Nat)
  | 3 => .int .i64 M.cur.2
  | 4 => .int .u16 (M.cset : Nat)
  | 5 => .int .u64 (M.prom.1 : Nat)
  | 6 => .int .i64 M.prom.2
  | 7 => .int .u64 (M.high : Nat)
  | 8 => ptr o
  | j + 9 => tcell (M.told (j / 4)) (j % 4)

/-- A proposal in memory. -/
structure Pb (w : World) (F Z : Nat → Prop) (q p : Nat) (P : Pp) : Prop where
  ne : p ≠ q
  fp : F p
  c0 : w.cell? ⟨p, 0, none⟩ = some (.int .u64 (P.id.1 : Nat))
  c1 : w.cell? ⟨p, 1, none⟩ = some (.int .i64 P.id.2)
  c2 : w.cell? ⟨p, 2, none⟩ = some (.int .u16 (P.set : Nat))
  c3 : w.cell? ⟨p, 3, none⟩ = some (.int .u16 (P.acc : Nat))
  fr : ∀ k, w.frozen? ⟨p, k, none⟩ = false
  s16 : P.set < 65536
  a16 : P.acc < 65536
  len : P.sts.length ≤ cntF 16 P.acc
  row : ∃ ao cap ss, w.cell? ⟨p, 4, none⟩ = some (.slice ao P.sts.length cap) ∧ w.ownsRow 1 45 4 (.slice ao P.sts.length cap) P.sts.length (flat ss) ∧ (∀ a, ao = some a → F a.block ∧ a.block ≠ p ∧ a.block ≠ q) ∧ ss.length = P.sts.length ∧
    ∀ (j : Nat) (x : Sx) (d : Sd), ss[j]? = some x → P.sts[j]? = some d → Si Z w x d
def OwnIs (w : World) (F Z : Nat → Prop) (q : Nat) : Option Pp → Option Nat → Prop
  | none, none => True
  | some P, some p => Pb w F Z q p P
  | _, _ => False
/-- A node in memory: F are its blocks, Z those that nobody writes to. -/
structure Mb (w : World) (F Z : Nat → Prop) (q : Nat) (M : Mm) (o : Option Nat) : Prop where
  cell : ∀ k, k < 73 → w.cell? ⟨q, k, none⟩ = some (mcell M o k)
  fr : ∀ k, w.frozen? ⟨q, k, none⟩ = false
  fq : F q
  lt : ∀ b, F b → b < w.heap.size
  f0 : ∀ b, F b → 0 < b
  zf : ∀ b, Z b → ¬ F b
  zl : ∀ b, Z b → b < w.heap.size
  tab : Tab w
  n16 : M.n ≤ 16
  sn : M.self < M.n
  own : OwnIs w F Z q M.own o

/-- What a call may have turned: the node's own blocks; what is new is its own, or written to by nobody. -/
structure Sp (w : World) (F Z : Nat → Prop) (w' : World) (F' Z' : Nat → Prop) : Prop where
  turned : Turned F w w'
  foot : ∀ b, F' b → F b ∨ w.heap.size ≤ b
  z : ∀ b, Z b → Z' b
  znew : ∀ b, Z' b → Z b ∨ w.heap.size ≤ b
  zlt : ∀ b, Z' b → b < w'.heap.size
theorem Sp.refl (w : World) (F Z : Nat → Prop) (zl : ∀ b, Z b → b < w.heap.size) : Sp w F Z w F Z := ⟨Turned.refl _ _, fun _ h => .inl h, fun _ h => h, fun _ h => .inl h, zl⟩
theorem Sp.trans {w w' w'' : World} {F F' F'' Z Z' Z'' : Nat → Prop} (h : Sp w F Z w' F' Z') (k : Sp w' F' Z' w'' F'' Z'') : Sp w F Z w'' F'' Z'' :=
  ⟨h.turned.trans k.turned h.foot, fun b hb => (k.foot b hb).elim (h.foot b) (fun hle => .inr (Nat.le_trans h.turned.size hle)), fun b hb => k.z b (h.z b hb), fun b hb => (k.znew b hb).elim (h.znew b) (fun hle => .inr (Nat.le_trans h.turned.size hle)), k.zlt⟩
/-- All that is new is written to by nobody. -/
def nz (Z : Nat → Prop) (w w' : World) : Nat → Prop := fun b => Z b ∨ (w.heap.size ≤ b ∧ b < w'.heap.size)
theorem Sp.up {w w' : World} {F Z : Nat → Prop} (u : Below w.heap.size w w') (zl : ∀ b, Z b → b < w.heap.size) : Sp w F Z w' F (nz Z w w') := ⟨Turned.of_below u, fun _ h => .inl h, fun _ h => .inl h, fun _ h => h.elim .inl (fun h => .inr h.1), fun b h => h.elim (fun h => Nat.lt_of_lt_of_le (zl b h) u.size) (fun h => h.2)⟩
theorem Sp.still {w w' : World} {F Z : Nat → Prop} (u : Below w.heap.size w w') (zl : ∀ b, Z b → b < w.heap.size) : Sp w F Z w' F Z := ⟨Turned.of_below u, fun _ h => .inl h, fun _ h => h, fun _ h => .inl h, fun b h => Nat.lt_of_lt_of_le (zl b h) u.size⟩
theorem Sp.kp {w w' : World} {F Z F' Z' : Nat → Prop} (s : Sp w F Z w' F' Z') (zf : ∀ b, Z b → ¬ F b) : Kp Z w w' := s.turned.kp zf

section
variable {w w' : World} {F Z Z' : Nat → Prop} {q : Nat} {M : Mm} {o : Option Nat}

theorem Tab.keep (h : Tab w) (hb : w'.heap[0]? = w.heap[0]?) : Tab w' := fun j v hj => (cell_block hb).trans (h j v hj)
/-- Blocks of the node are as they were, and so is what nobody writes to. -/
theorem Pb.frame {p : Nat} {P : Pp} (h : Pb w F Z q p P) (hb : ∀ b, F b → w'.heap[b]? = w.heap[b]?) (hk : Kp Z w w') (hz : ∀ b, Z b → Z' b) : Pb w' F Z' q p P := by
  obtain ⟨ao, cap, ss, r1, r2, r3, r4, r5⟩ := h.row
  have hp := hb p h.fp
  refine ⟨h.ne, h.fp, by rw [cell_block hp]; exact h.c0, by rw [cell_block hp]; exact h.c1, by rw [cell_block hp]; exact h.c2, by rw [cell_block hp]; exact h.c3, fun k => by rw [frozen_block hp]; exact h.fr k, h.s16, h.a16, h.len, ao, cap, ss, by rw [cell_block hp]; exact r1, ?_, r3, r4, fun j x d hx hd => ((r5 j x d hx hd).keep hk).imp (fun b _ hb => hz b hb)⟩
  refine row_block r2 (fun b hbb => ?_)
  cases ao with
  | none => cases hbb
  | some a =>
    have : a.block = b := by simpa [Value.ownBlock] using hbb
    subst this
    exact hb _ (r3 a rfl).1
theorem Mb.frame (h : Mb w F Z q M o) (hb : ∀ b, F b → w'.heap[b]? = w.heap[b]?) (h0 : w'.heap[0]? = w.heap[0]?) (hsz : w.heap.size ≤ w'.heap.size) (hk : Kp Z w w') (hz : ∀ b, Z b → Z' b) (hzf : ∀ b, Z' b → ¬ F b) (hzl : ∀ b, Z' b → b < w'.heap.size) : Mb w' F Z' q M o where
  cell := fun k hk => by rw [cell_block (hb q h.fq)]; exact h.cell k hk
  fr := fun k => by rw [frozen_block (hb q h.fq)]; exact h.fr k
  fq := h.fq
  lt := fun b hb => Nat.lt_of_lt_of_le (h.lt b hb) hsz
  f0 := h.f0
  zf := hzf
  zl := hzl
  tab := h.tab.keep h0
  n16 := h.n16
  sn := h.sn
  own := by
    have ho := h.own
    cases hM : M.own <;> cases o <;> rw [hM] at ho <;> simp only [OwnIs] at ho ⊢
    exact ho.frame hb hk hz
/-- Only new blocks came. -/
theorem Mb.up (h : Mb w F Z q M o) (u : Below w.heap.size w w') : Mb w' F (nz Z w w') q M o :=
  h.frame (fun b hb => u.block b (h.lt b hb)) (u.block 0 (h.tab.lt)) u.size (Kp.up u) (fun _ h => .inl h) (fun b hb hf => hb.elim (fun hz => h.zf b hz hf) (fun hle => by have := h.lt b hf; omega)) (fun b hb => hb.elim (fun hz => Nat.lt_of_lt_of_le (h.zl b hz) u.size) (fun h => h.2))
theorem Mb.still (h : Mb w F Z q M o) (u : Below w.heap.size w w') : Mb w' F Z q M o :=
  h.frame (fun b hb => u.block b (h.lt b hb)) (u.block 0 (h.tab.lt)) u.size (Kp.up u) (fun _ h => h) h.zf (fun b hz => Nat.lt_of_lt_of_le (h.zl b hz) u.size)
/-- Another one's call. -/
theorem Mb.other {G G' : Nat → Prop} (h : Mb w F Z q M o) (s : Sp w G Z w' G' Z') (hG : ∀ b, F b → ¬ G b) (hG0 : ¬ G 0) (hZ : ∀ b, Z b → ¬ G b) : Mb w' F Z' q M o :=
  h.frame (fun b hb => s.turned.block b (h.lt b hb) (hG b hb)) (s.turned.block 0 h.tab.lt hG0) s.turned.size (s.kp hZ) s.z (fun b hb hf => (s.znew b hb).elim (fun hz => h.zf b hz hf) (fun hle => by have := h.lt b hf; omega)) s.zlt
theorem Mb.sp (h : Mb w F Z q M o) : Sp w F Z w F Z := Sp.refl _ _ _ h.zl
theorem Mb.q0 (h : Mb w F Z q M o) : 0 < q := h.f0 q h.fq
theorem Mb.ownNone (h : Mb w F Z q M o) (hM : M.own = none) : o = none := by
  have ho := h.own
  rw [hM] at ho
  cases o <;> simp only [OwnIs] at ho
  rfl
theorem Mb.ownSome (h : Mb w F Z q M o) {P : Pp} (hM : M.own = some P) : ∃ p, o = some p ∧ Pb w F Z q p P := by
  have ho := h.own
  rw [hM] at ho
  cases o <;> simp only [OwnIs] at ho
  exact ⟨_, rfl, ho⟩
end
end Go.Proofs.YtlonbbepoamnmaaDoor
