/-
  Sets of nodes as bits: plain.
-/
namespace Go.Proofs.YtlonbbepoamnmaaDoor
set_option linter.unusedVariables false

/-- How many of the first f bits are 1. -/
def cntF : Nat → Nat → Nat
  | 0, _ => 0
  | f + 1, n => n % 2 + cntF f (n / 2)
theorem cntF_zero : ∀ f, cntF f 0 = 0
  | 0 => rfl
  | f + 1 => by simp [cntF, cntF_zero f]
theorem cntF_add : ∀ a b n, cntF (a + b) n = cntF a n + cntF b (n / 2 ^ a)
  | 0, b, n => by simp [cntF]
  | a + 1, b, n => by
    rw [Nat.add_right_comm, cntF, cntF, cntF_add a b (n / 2), Nat.div_div_eq_div_mul, Nat.pow_succ, Nat.mul_comm 2]
    omega
theorem cntF_mod : ∀ a n, cntF a (n % 2 ^ a) = cntF a n
  | 0, n => rfl
  | a + 1, n => by
    have h1 : n % 2 ^ (a + 1) % 2 = n % 2 := by rw [Nat.pow_succ, Nat.mul_comm]; exact Nat.mod_mul_right_mod n 2 (2 ^ a)
    have h2 : n % 2 ^ (a + 1) / 2 = n / 2 % 2 ^ a := by rw [Nat.pow_succ, Nat.mul_comm]; exact Nat.mod_mul_right_div_self n 2 (2 ^ a)
    rw [cntF, cntF, h1, h2, cntF_mod a (n / 2)]
theorem cntF_split (n : Nat) : cntF 16 n = cntF 8 (n / 256) + cntF 8 (n % 256) := by
  have h1 : cntF 16 n = cntF 8 n + cntF 8 (n / 256) := cntF_add 8 8 n
  have h2 : cntF 8 (n % 256) = cntF 8 n := cntF_mod 8 n
  omega
theorem cntF_le : ∀ f n, cntF f n ≤ f
  | 0, n => Nat.le_refl _
  | f + 1, n => by have := cntF_le f (n / 2); rw [cntF]; omega
theorem cntF_small : ∀ f k n, n < 2 ^ k → cntF f n ≤ k
  | 0, k, n, _ => by simp [cntF]
  | f + 1, 0, n, h => by have : n = 0 := by simpa using h
                         subst this; rw [cntF_zero]; exact Nat.le_refl _
  | f + 1, k + 1, n, h => by
    have := cntF_small f k (n / 2) (by rw [Nat.pow_succ] at h; omega)
    rw [cntF]; omega
theorem cntF_and_or : ∀ f x y, cntF f (x &&& y) + cntF f (x ||| y) = cntF f x + cntF f y
  | 0, x, y => rfl
  | f + 1, x, y => by
    have h := cntF_and_or f (x / 2) (y / 2)
    have ha : (x &&& y) / 2 = x / 2 &&& y / 2 := Nat.and_div_two
    have ho : (x ||| y) / 2 = x / 2 ||| y / 2 := Nat.or_div_two
    have hm : (x &&& y) % 2 + (x ||| y) % 2 = x % 2 + y % 2 := by
      have e1 : (x &&& y) % 2 = (x % 2) &&& (y % 2) := by have := Nat.and_mod_two_pow (a := x) (b := y) (n := 1); simpa using this
      have e2 : (x ||| y) % 2 = (x % 2) ||| (y % 2) := by have := Nat.or_mod_two_pow (a := x) (b := y) (n := 1); simpa using this
      rw [e1, e2]
      rcases Nat.mod_two_eq_zero_or_one x with hx | hx <;> rcases Nat.mod_two_eq_zero_or_one y with hy | hy <;> rw [hx, hy] <;> rfl
    rw [cntF, cntF, cntF, cntF, ha, ho]
    omega
theorem cntF_disj (f x y : Nat) (h : x &&& y = 0) : cntF f (x ||| y) = cntF f x + cntF f y := by
  have := cntF_and_or f x y
  rw [h, cntF_zero] at this
  omega
theorem cntF_ones : ∀ f k, k ≤ f → cntF f (2 ^ k - 1) = k
  | f, 0, _ => by simp [cntF_zero]
  | 0, k + 1, h => by omega
  | f + 1, k + 1, h => by
    have h1 : (2 ^ (k + 1) - 1) % 2 = 1 := by have := Nat.one_le_two_pow (n := k); rw [Nat.pow_succ]; omega
    have h2 : (2 ^ (k + 1) - 1) / 2 = 2 ^ k - 1 := by have := Nat.one_le_two_pow (n := k); rw [Nat.pow_succ]; omega
    rw [cntF, h1, h2, cntF_ones f k (by omega)]
    omega
/-- The nodes of a set below k, rising. -/
def nodes (s : Nat) (k : Nat) : List Nat := (List.range k).filter (fun i => s.testBit i)
theorem nodes_succ (s k : Nat) : nodes s (k + 1) = nodes s k ++ (if s.testBit k then [k] else []) := by
  simp only [nodes, List.range_succ, List.filter_append]
  congr 1
  by_cases h : s.testBit k <;> simp [h]
theorem nodes_len : ∀ k s, (nodes s k).length = cntF k s
  | 0, s => rfl
  | k + 1, s => by
    rw [nodes_succ, List.length_append, nodes_len k s]
    have h := cntF_add k 1 s
    rw [h]
    congr 1
    show _ = s / 2 ^ k % 2 + 0
    rw [Nat.testBit_eq_decide_div_mod_eq]
    rcases Nat.mod_two_eq_zero_or_one (s / 2 ^ k) with e | e <;> simp [e]
theorem or_add : ∀ x y : Nat, x &&& y = 0 → x ||| y = x + y := by
  intro x
  induction x using Nat.strongRecOn with
  | _ x ih =>
    intro y h
    by_cases hx : x = 0
    · subst hx; simp
    · have h1 : x / 2 &&& y / 2 = 0 := by rw [← Nat.and_div_two, h]
      have h2 := ih (x / 2) (by omega) (y / 2) h1
      have h3 : (x ||| y) / 2 = x / 2 ||| y / 2 := Nat.or_div_two
      have e1 : (x &&& y) % 2 = (x % 2) &&& (y % 2) := by have := Nat.and_mod_two_pow (a := x) (b := y) (n := 1); simpa using this
      have e2 : (x ||| y) % 2 = (x % 2) ||| (y % 2) := by have := Nat.or_mod_two_pow (a := x) (b := y) (n := 1); simpa using this
      rw [h] at e1
      have h4 : (x ||| y) % 2 = x % 2 + y % 2 := by
        rcases Nat.mod_two_eq_zero_or_one x with a | a <;> rcases Nat.mod_two_eq_zero_or_one y with b | b <;> rw [a, b] at e1 e2 ⊢ <;> simp at e1 e2 ⊢ <;> omega
      omega
theorem or_pow (s k : Nat) : s ||| 2 ^ k = if s.testBit k then s else s + 2 ^ k := by
  by_cases h : s.testBit k
  · rw [if_pos h]
    apply Nat.eq_of_testBit_eq
    intro j
    rw [Nat.testBit_or, Nat.testBit_two_pow]
    by_cases e : k = j
    · subst e; simp [h]
    · simp [e]
  · rw [if_neg h]
    have h0 : s &&& 2 ^ k = 0 := by
      apply Nat.eq_of_testBit_eq
      intro j
      rw [Nat.testBit_and, Nat.testBit_two_pow, Nat.zero_testBit]
      by_cases e : k = j
      · subst e; simp [h]
      · simp [e]
    exact or_add s (2 ^ k) h0
theorem not_pow (s k : Nat) (hs : s < 65536) (hk : k < 16) : s &&& (65535 - 2 ^ k) = if s.testBit k then s - 2 ^ k else s := by
  have hp : 2 ^ k ≤ 32768 := by have := Nat.pow_le_pow_right (show 0 < 2 by omega) (show k ≤ 15 by omega); omega
  have e : 65535 - 2 ^ k = 2 ^ 16 - (2 ^ k + 1) := by omega
  have hb : ∀ j, (s &&& (65535 - 2 ^ k)).testBit j = (s.testBit j && !(decide (k = j))) := by
    intro j
    rw [Nat.testBit_and, e, Nat.testBit_two_pow_sub_succ (by omega), Nat.testBit_two_pow]
    by_cases hj : j < 16
    · simp [hj]
    · have : s.testBit j = false := Nat.testBit_lt_two_pow (Nat.lt_of_lt_of_le hs (by have := Nat.pow_le_pow_right (show 0 < 2 by omega) (show 16 ≤ j by omega); omega))
      simp [this]
  by_cases h : s.testBit k
  · rw [if_pos h]
    have h1 : (s &&& (65535 - 2 ^ k)) ||| 2 ^ k = s := by
      apply Nat.eq_of_testBit_eq
      intro j
      rw [Nat.testBit_or, hb, Nat.testBit_two_pow]
      by_cases ej : k = j
      · subst ej; simp [h]
      · simp [ej]
    have h2 := or_pow (s &&& (65535 - 2 ^ k)) k
    rw [hb k, h] at h2
    simp at h2
    rw [h1] at h2
    omega
  · rw [if_neg h]
    apply Nat.eq_of_testBit_eq
    intro j
    rw [hb]
    by_cases ej : k = j
    · subst ej; simp [h]
    · simp [ej]
theorem without_zero (s : Nat) (hs : s < 65536) : s &&& 65535 = s := Nat.and_two_pow_sub_one_of_lt_two_pow (n := 16) hs
/-- A number that is not 0 has a least bit. -/
theorem low_bit : ∀ s : Nat, 0 < s → ∃ k m, s = 2 ^ k * (2 * m + 1) := by
  intro s
  induction s using Nat.strongRecOn with
  | _ s ih =>
    intro hs
    rcases Nat.mod_two_eq_zero_or_one s with h | h
    · obtain ⟨k, m, e⟩ := ih (s / 2) (by omega) (by omega)
      refine ⟨k + 1, m, ?_⟩
      rw [Nat.pow_succ, Nat.mul_comm (2 ^ k) 2, Nat.mul_assoc, ← e]
      omega
    · exact ⟨0, s / 2, by omega⟩
theorem odd_bits (m t : Nat) : ((2 * m + 1).testBit t && !(2 * m).testBit t) = decide (t = 0) := by
  cases t with
  | zero => simp [Nat.testBit_zero]
  | succ t => 
    rw [Nat.testBit_succ, Nat.testBit_succ, show (2 * m + 1) / 2 = m by omega, show 2 * m / 2 = m by omega]
    simp
theorem low_and (k m : Nat) (h : 2 ^ k * (2 * m + 1) < 65536) : (2 ^ k * (2 * m + 1)) &&& (65536 - 2 ^ k * (2 * m + 1)) = 2 ^ k := by
  have hp := Nat.two_pow_pos k
  have hpos : 0 < 2 ^ k * (2 * m + 1) := Nat.mul_pos hp (by omega)
  have es : 2 ^ k * (2 * m + 1) - 1 = 2 ^ k * (2 * m) + (2 ^ k - 1) := by rw [Nat.mul_add]; omega
  have e1 : 65536 - 2 ^ k * (2 * m + 1) = 2 ^ 16 - ((2 ^ k * (2 * m + 1) - 1) + 1) := by omega
  apply Nat.eq_of_testBit_eq
  intro j
  rw [Nat.testBit_and, e1, Nat.testBit_two_pow_sub_succ (by omega), es, Nat.testBit_two_pow_mul_add _ (by omega), Nat.testBit_two_pow]
  have e2 : (2 ^ k * (2 * m + 1)).testBit j = if j < k then false else (2 * m + 1).testBit (j - k) := by
    have := Nat.testBit_two_pow_mul_add (2 * m + 1) (b := 0) (i := k) hp j
    rw [Nat.add_zero] at this
    rw [this]
    split <;> simp
  rw [e2]
  by_cases hj : j < k
  · rw [if_pos hj, if_pos hj]
    have : ¬ k = j := by omega
    simp [this]
  · rw [if_neg hj, if_neg hj]
    by_cases h16 : j < 16
    · have hd : decide (j < 16) = true := by simpa using h16
      rw [hd, Bool.true_and, odd_bits]
      by_cases e : k = j
      · subst e; simp
      · have : ¬ j - k = 0 := by omega
        simp [e, this]
    · have hk : k < 16 := by
        rcases Nat.lt_or_ge k 16 with h1 | h1
        · exact h1
        · have h2 := Nat.pow_le_pow_right (show 0 < 2 by omega) h1
          have h3 := Nat.le_mul_of_pos_right (2 ^ k) (show 0 < 2 * m + 1 by omega)
          omega
      have : ¬ k = j := by omega
      simp [h16, this]
theorem low_lt (k m : Nat) (h : 2 ^ k * (2 * m + 1) < 65536) : k < 16 := by
  rcases Nat.lt_or_ge k 16 with h1 | h1
  · exact h1
  · have h2 := Nat.pow_le_pow_right (show 0 < 2 by omega) h1
    have h3 := Nat.le_mul_of_pos_right (2 ^ k) (show 0 < 2 * m + 1 by omega)
    omega
theorem low_first (k m : Nat) (h : 2 ^ k * (2 * m + 1) < 65536) : (nodes (2 ^ k * (2 * m + 1)) 16)[0]? = some k := by
  have hk := low_lt k m h
  have hb : ∀ j, (2 ^ k * (2 * m + 1)).testBit j = if j < k then false else (2 * m + 1).testBit (j - k) := by
    intro j
    have := Nat.testBit_two_pow_mul_add (2 * m + 1) (b := 0) (i := k) (Nat.two_pow_pos k) j
    rw [Nat.add_zero] at this
    rw [this]
    split <;> simp
  rw [nodes, ← List.head?_eq_getElem?, List.head?_filter, List.find?_range_eq_some]
  refine ⟨?_, by simpa using hk, fun j hj => ?_⟩
  · rw [hb, if_neg (by omega)]; simp
  · rw [hb, if_pos hj]; rfl
/-- The set of one node. -/
def onlyN (i : Int) : Nat := if 0 ≤ i ∧ i < 16 then 2 ^ i.toNat else 0
theorem onlyN_lt (i : Int) : onlyN i < 65536 := by
  unfold onlyN
  split
  · have h := Nat.pow_le_pow_right (show 0 < 2 by omega) (show i.toNat ≤ 15 by omega)
    omega
  · omega
theorem and_pow (s k : Nat) : s &&& 2 ^ k = if s.testBit k then 2 ^ k else 0 := by
  apply Nat.eq_of_testBit_eq
  intro j
  rw [Nat.testBit_and, Nat.testBit_two_pow]
  by_cases h : k = j
  · subst h
    cases hb : s.testBit k <;> simp [Nat.testBit_two_pow_self]
  · have h1 : decide (k = j) = false := by simpa using h
    rw [h1, Bool.and_false]
    split
    · rw [Nat.testBit_two_pow, h1]
    · simp
/-- Is a node in a set? -/
def hasN (s : Nat) (i : Int) : Bool := decide (0 ≤ i) && decide (i < 16) && s.testBit i.toNat
/-- A set with a node, without it. -/
def withN (s : Nat) (i : Int) : Nat := s ||| onlyN i
def withoutN (s : Nat) (i : Int) : Nat := s &&& (65535 - onlyN i)
theorem withN_lt (s : Nat) (hs : s < 65536) (i : Int) : withN s i < 65536 := Nat.or_lt_two_pow (n := 16) hs (onlyN_lt i)
theorem withoutN_lt (s : Nat) (hs : s < 65536) (i : Int) : withoutN s i < 65536 := Nat.and_lt_two_pow (n := 16) s (by have := onlyN_lt i; omega)
theorem withN_eq (s : Nat) (i : Int) : withN s i = if 0 ≤ i ∧ i < 16 ∧ hasN s i = false then s + 2 ^ i.toNat else s := by
  unfold withN onlyN hasN
  by_cases h : 0 ≤ i ∧ i < 16
  · rw [if_pos h, or_pow]
    simp only [h.1, h.2, decide_true, Bool.true_and, true_and]
    cases s.testBit i.toNat <;> simp
  · rw [if_neg h, if_neg (by omega)]; simp
theorem withoutN_eq (s : Nat) (hs : s < 65536) (i : Int) : withoutN s i = if hasN s i = true then s - 2 ^ i.toNat else s := by
  unfold withoutN onlyN hasN
  by_cases h : 0 ≤ i ∧ i < 16
  · rw [if_pos h, not_pow s i.toNat hs (by omega)]
    simp only [h.1, h.2, decide_true, Bool.true_and]
  · rw [if_neg h, Nat.sub_zero, without_zero s hs]
    by_cases h0 : 0 ≤ i
    · simp [h0, show ¬ i < 16 by omega]
    · simp [h0]
theorem has_le (s n : Nat) (h : s.testBit n = true) : 2 ^ n ≤ s := Nat.ge_two_pow_of_testBit h
/-- The least node of a set, -1: none. -/
def leastN (s : Nat) : Int := (((nodes s 16)[0]?).map (fun (k : Nat) => (k : Int))).getD (-1)
theorem leastN_some {s k : Nat} (h : (nodes s 16)[0]? = some k) : leastN s = k := by unfold leastN; rw [h]; rfl
theorem leastN_zero : leastN 0 = -1 := by decide
end Go.Proofs.YtlonbbepoamnmaaDoor
