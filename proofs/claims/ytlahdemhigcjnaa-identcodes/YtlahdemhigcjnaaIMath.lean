/-
  The mathematics of sets of nodes as bits: how many a set has, and its list.
-/
import Init.Data.Nat.Bitwise
namespace Go.Proofs.Ytlahdemhigcjnaa

/-- How many of the first f bits are 1. -/
def cntF : Nat → Nat → Nat
  | 0, _ => 0
  | f + 1, n => n % 2 + cntF f (n / 2)

theorem cntF_zero : ∀ f, cntF f 0 = 0
  | 0 => rfl
  | f + 1 => by simp [cntF, cntF_zero f]
theorem cntF_add : ∀ a b n, cntF (a + b) n = cntF a n + cntF b (n / 2 ^ a)
  | 0, b, n => by simp [cntF]
  | a + 1, b, n => by
    rw [Nat.add_right_comm, cntF, cntF, cntF_add a b (n / 2), Nat.div_div_eq_div_mul, Nat.pow_succ, Nat.mul_comm 2]
    omega
theorem cntF_mod : ∀ a n, cntF a (n % 2 ^ a) = cntF a n
  | 0, n => rfl
  | a + 1, n => by
    have h1 : n % 2 ^ (a + 1) % 2 = n % 2 := by rw [Nat.pow_succ, Nat.mul_comm]; exact Nat.mod_mul_right_mod n 2 (2 ^ a)
    have h2 : n % 2 ^ (a + 1) / 2 = n / 2 % 2 ^ a := by rw [Nat.pow_succ, Nat.mul_comm]; exact Nat.mod_mul_right_div_self n 2 (2 ^ a)
    rw [cntF, cntF, h1, h2, cntF_mod a (n / 2)]
theorem cntF_split (n : Nat) : cntF 16 n = cntF 8 (n / 256) + cntF 8 (n % 256) := by
  have h1 : cntF 16 n = cntF 8 n + cntF 8 (n / 256) := cntF_add 8 8 n
  have h2 : cntF 8 (n % 256) = cntF 8 n := cntF_mod 8 n
  omega
theorem cntF_le : ∀ f n, cntF f n ≤ f
  | 0, n => Nat.le_refl _
  | f + 1, n => by have := cntF_le f (n / 2); rw [cntF]; omega
theorem cntF_small : ∀ f k n, n < 2 ^ k → cntF f n ≤ k
  | 0, k, n, _ => by simp [cntF]
  | f + 1, 0, n, h => by have : n = 0 := by simpa using h
                         subst this; rw [cntF_zero]; exact Nat.le_refl _
  | f + 1, k + 1, n, h => by
    have := cntF_small f k (n / 2) (by rw [Nat.pow_succ] at h; omega)
    rw [cntF]; omega
theorem cntF_and_or : ∀ f x y, cntF f (x &&& y) + cntF f (x ||| y) = cntF f x + cntF f y
  | 0, x, y => rfl
  | f + 1, x, y => by
    have h := cntF_and_or f (x / 2) (y / 2)
    have ha : (x &&& y) / 2 = x / 2 &&& y / 2 := Nat.and_div_two
    have ho : (x ||| y) / 2 = x / 2 ||| y / 2 := Nat.or_div_two
    have hm : (x &&& y) % 2 + (x ||| y) % 2 = x % 2 + y % 2 := by
      have e1 : (x &&& y) % 2 = (x % 2) &&& (y % 2) := by have := Nat.and_mod_two_pow (a := x) (b := y) (n := 1); simpa using this
      have e2 : (x ||| y) % 2 = (x % 2) ||| (y % 2) := by have := Nat.or_mod_two_pow (a := x) (b := y) (n := 1); simpa using this
      rw [e1, e2]
      rcases Nat.mod_two_eq_zero_or_one x with hx | hx <;> rcases Nat.mod_two_eq_zero_or_one y with hy | hy <;> rw [hx, hy] <;> rfl
    rw [cntF, cntF, cntF, cntF, ha, ho]
    omega
theorem cntF_disj (f x y : Nat) (h : x &&& y = 0) : cntF f (x ||| y) = cntF f x + cntF f y := by
  have := cntF_and_or f x y
  rw [h, cntF_zero] at this
  omega
theorem cntF_ones : ∀ f k, k ≤ f → cntF f (2 ^ k - 1) = k
  | f, 0, _ => by simp [cntF_zero]
  | 0, k + 1, h => by omega
  | f + 1, k + 1, h => by
    have h1 : (2 ^ (k + 1) - 1) % 2 = 1 := by have := Nat.one_le_two_pow (n := k); rw [Nat.pow_succ]; omega
    have h2 : (2 ^ (k + 1) - 1) / 2 = 2 ^ k - 1 := by have := Nat.one_le_two_pow (n := k); rw [Nat.pow_succ]; omega
    rw [cntF, h1, h2, cntF_ones f k (by omega)]
    omega

/-- The nodes of a set below k, rising. -/
def nodes (s : Nat) (k : Nat) : List Nat := (List.range k).filter (fun i => s.testBit i)
theorem nodes_succ (s k : Nat) : nodes s (k + 1) = nodes s k ++ (if s.testBit k then [k] else []) := by
  simp only [nodes, List.range_succ, List.filter_append]
  congr 1
  by_cases h : s.testBit k <;> simp [h]
theorem nodes_len : ∀ k s, (nodes s k).length = cntF k s
  | 0, s => rfl
  | k + 1, s => by
    rw [nodes_succ, List.length_append, nodes_len k s]
    have h := cntF_add k 1 s
    rw [h]
    congr 1
    show _ = s / 2 ^ k % 2 + 0
    rw [Nat.testBit_eq_decide_div_mod_eq]
    rcases Nat.mod_two_eq_zero_or_one (s / 2 ^ k) with e | e <;> simp [e]
end Go.Proofs.Ytlahdemhigcjnaa
