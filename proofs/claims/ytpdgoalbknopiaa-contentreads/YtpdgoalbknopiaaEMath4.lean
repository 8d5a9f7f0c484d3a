/-
  What is read as an entry, or as a summary, was its bytes.
-/
import Derived.Test.YtpdgoalbknopiaaEMath3
namespace Go.Proofs.Ytpdgoalbknopiaa
open Go.RowKit
set_option linter.unusedVariables false

theorem rdF_inv : ∀ (xs : List UInt8) (i acc n s : Nat), i ≤ 9 → Cd.rdF i acc xs = some (n, s) → ∃ m, n = acc + m * 128 ^ i ∧ xs.take (s - i) = Cd.encF (9 - i) m ∧ (0 < i → 0 < m)
  | [], i, acc, n, s, _, h => by simp [Cd.rdF] at h
  | x :: t, i, acc, n, s, hi, h => by
    rw [Cd.rdF] at h
    have hx := UInt8.toNat_lt x
    split at h
    · cases h
    · rename_i h9
      split at h
      · rename_i hb
        have hi9 : i < 9 := by
          rcases Nat.lt_or_ge i 9 with h1 | h1
          · exact h1
          · exact absurd ⟨by omega, by omega⟩ h9
        have hs := Cd.rdF_size t _ _ _ _ h
        obtain ⟨m, e1, e2, e3⟩ := rdF_inv t (i + 1) _ n s (by omega) h
        have h0 := e3 (by omega)
        refine ⟨x.toNat % 128 + 128 * m, ?_, ?_, fun _ => by omega⟩
        · rw [e1, Nat.pow_succ, Nat.add_mul, Nat.add_assoc]
          congr 1
          rw [Nat.mul_comm 128 m, Nat.mul_assoc, Nat.mul_comm 128 (128 ^ i)]
        · rw [show s - i = (s - (i + 1)) + 1 by omega, List.take_succ_cons, e2, show 9 - i = (9 - (i + 1)) + 1 by omega, Cd.encF_big _ _ (by omega)]
          congr 1
          · rw [show (x.toNat % 128 + 128 * m) % 128 + 128 = x.toNat by omega]
            simp
          · congr 1
            omega
      · rename_i hb
        split at h
        · cases h
        · rename_i hz
          simp at h
          obtain ⟨rfl, rfl⟩ := h
          refine ⟨x.toNat, by rw [Nat.mod_eq_of_lt (by omega)], ?_, fun h0 => ?_⟩
          · rw [Cd.encF_small _ _ (by omega)]
            simp
          · rcases Nat.eq_zero_or_pos x.toNat with h1 | h1
            · exact absurd ⟨h1, h0⟩ hz
            · exact h1
theorem pr2 {α β : Type} {p : α × β} {b : β} (h : p.2 = b) : p = (p.1, b) := by rw [← h]
theorem rUint_inv {xs r : List UInt8} {n : Nat} (h : Cd.rUint (some xs) = (n, some r)) : xs = Cd.enc n ++ r := by
  unfold Cd.rUint at h
  simp only at h
  cases hr : Cd.rd xs with
  | none => rw [hr] at h; simp at h
  | some q =>
    obtain ⟨k, s⟩ := q
    rw [hr] at h
    simp at h
    obtain ⟨rfl, rfl⟩ := h
    obtain ⟨m, e1, e2, _⟩ := rdF_inv xs 0 0 k s (by omega) hr
    simp at e1 e2
    subst e1
    show xs = Cd.encF 9 k ++ _
    rw [← e2, List.take_append_drop]
theorem rInt_inv {st : Option (List UInt8)} {m : Int} {n : Nat} {r : List UInt8} (h : Cd.rInt st m = (n, some r)) : st = some (Cd.enc n ++ r) ∧ (n : Int) ≤ m ∧ n < 18446744073709551616 := by
  have hl := Cd.rUint_lt st
  cases st with
  | none => simp [Cd.rInt, Cd.rUint] at h
  | some xs =>
    unfold Cd.rInt at h
    cases hu : (Cd.rUint (some xs)).2 with
    | none => rw [hu] at h; simp at h
    | some ys =>
      rw [hu] at h
      simp only at h
      split at h
      · simp at h
      · rename_i hc
        simp at h
        obtain ⟨rfl, rfl⟩ := h
        refine ⟨?_, by omega, hl⟩
        exact congrArg some (rUint_inv (pr2 hu))
theorem byte_enc (p : Nat) (h : p ≤ 15) : Cd.enc p = [pb (p : Int)] := Cd.encF_small 9 p (by omega)
theorem decV_inv {st : Option (List UInt8)} {N P : Nat} {r : List UInt8} (h : decV st = ((N, P), some r)) : st = some (Cd.enc N ++ ([pb (P : Int)] ++ r)) ∧ formV N (P : Int) = true ∧ N < 18446744073709551616 := by
  have hl := Cd.rUint_lt st
  unfold decV at h
  split at h
  · simp at h
  · rename_i ys hi
    simp at h
    obtain ⟨⟨rfl, rfl⟩, rfl⟩ := h
    obtain ⟨h1, h2, _⟩ := rInt_inv (pr2 hi)
    have h15 : (Cd.rInt (Cd.rUint st).2 (if (Cd.rUint st).1 = 0 then 0 else 15)).1 ≤ 15 := by
      have h3 : (if (Cd.rUint st).1 = 0 then (0 : Int) else 15) ≤ 15 := by split <;> omega
      omega
    rw [byte_enc _ h15] at h1
    cases st with
    | none => simp [Cd.rUint] at h1
    | some xs =>
      refine ⟨?_, ?_, hl⟩
      · exact congrArg some (rUint_inv (pr2 h1))
      · unfold formV
        rw [Bool.and_eq_true]
        exact ⟨by simp, by simpa using h2⟩
theorem decL_inv {st : Option (List UInt8)} {x : Lb} {r : List UInt8} (h : decL st = (x, some r)) : st = some (encL x ++ r) ∧ RL x := by
  have hl2 := Cd.rUint_lt (decV st).2
  unfold decL at h
  generalize hV : decV st = V at *
  obtain ⟨⟨N, P⟩, s1⟩ := V
  simp only at *
  generalize hU : Cd.rUint s1 = U at *
  obtain ⟨S, s2⟩ := U
  simp only at *
  generalize hI : Cd.rInt s2 15 = I at *
  obtain ⟨Q, s3⟩ := I
  simp only at *
  split at h
  · rename_i ys hf
    simp at h
    obtain ⟨rfl, rfl⟩ := h
    obtain ⟨h1, h2, _⟩ := rInt_inv hI
    rw [byte_enc _ (by omega)] at h1
    subst h1
    cases s1 with
    | none => simp [Cd.rUint] at hU
    | some us =>
      have h3 := rUint_inv hU
      obtain ⟨h4, h5, h6⟩ := decV_inv hV
      refine ⟨?_, h6, hl2, hf⟩
      rw [h4, h3]
      simp [encL]
  · simp at h
theorem rBytes_inv {st : Option (List UInt8)} {m r : List UInt8} (h : Cd.rBytes st 64 = (m, some r)) : st = some (Cd.enc m.length ++ (m ++ r)) ∧ m.length ≤ 64 := by
  unfold Cd.rBytes at h
  split at h
  · simp at h
  · rename_i ys hi
    split at h
    · simp at h
    · rename_i hc
      simp at h
      obtain ⟨rfl, rfl⟩ := h
      obtain ⟨h1, h2, _⟩ := rInt_inv (pr2 hi)
      have hlen : (ys.take (Cd.rInt st 64).1).length = (Cd.rInt st 64).1 := by simp; omega
      refine ⟨?_, by rw [hlen]; omega⟩
      rw [hlen, List.take_append_drop]
      exact h1
theorem decE_inv {st : Option (List UInt8)} {e : Lb × List UInt8} {r : List UInt8} (h : decE st = (e, some r)) : st = some (encE e.1 e.2 ++ r) ∧ RE e := by
  unfold decE at h
  simp at h
  obtain ⟨rfl, h2⟩ := h
  obtain ⟨h3, h4⟩ := rBytes_inv (pr2 h2)
  obtain ⟨h5, h6, h7, h8⟩ := decL_inv (pr2 h3)
  refine ⟨h5.trans ?_, h6, h7, h8, h4⟩
  simp [encE]
theorem decN_inv {α : Type} (f : Option (List UInt8) → α × Option (List UInt8)) (E : α → List UInt8) (R : α → Prop) (hf : ∀ st x r, f st = (x, some r) → st = some (E x ++ r) ∧ R x) :
    ∀ (n : Nat) (st : Option (List UInt8)) (l : List α) (r : List UInt8), decN f n st = (l, some r) → l.length = n ∧ st = some (l.flatMap E ++ r) ∧ ∀ x ∈ l, R x
  | 0, st, l, r, h => by
    simp [decN] at h
    obtain ⟨rfl, rfl⟩ := h
    simp
  | n + 1, st, l, r, h => by
    unfold decN at h
    split at h
    · rename_i a zs h1 h2
      simp at h
      obtain ⟨rfl, rfl⟩ := h
      obtain ⟨h3, h4⟩ := hf st _ _ (pr2 h1)
      obtain ⟨h5, h6, h7⟩ := decN_inv f E R hf n _ _ _ (pr2 h2)
      refine ⟨by simp [h5], h3.trans ?_, fun x hx => ?_⟩
      · have h8 := h1.symm.trans h6
        simp at h8
        rw [h8]
        simp
      · rcases List.mem_cons.1 hx with rfl | hx
        · exact h4
        · exact h7 x hx
    · simp at h
/-- A summary as the document reads it: no number above L. -/
def dEL (L : Int) (st : Option (List UInt8)) := decN decE (Cd.rInt st L).1 (Cd.rInt st L).2
def dLL (L : Int) (st : Option (List UInt8)) := decN decL (Cd.rInt st L).1 (Cd.rInt st L).2
def decSL (L : Int) (st : Option (List UInt8)) : DS × Option (List UInt8) :=
  (⟨(dEL L st).1, (dLL L (dEL L st).2).1, (Cd.rInt (dLL L (dEL L st).2).2 L).1, (decV (Cd.rInt (dLL L (dEL L st).2).2 L).2).1.1, (decV (Cd.rInt (dLL L (dEL L st).2).2 L).2).1.2⟩, (decV (Cd.rInt (dLL L (dEL L st).2).2 L).2).2)
theorem decS_is (st : Option (List UInt8)) : decS st = decSL mx st := rfl
theorem decSL_tail {es : List (Lb × List UInt8)} {ls : List Lb} {nx hn : Nat} {hp : Int} (L : Int) (hL : L < 18446744073709551616) (he : ∀ e ∈ es, RE e) (hl : ∀ x ∈ ls, RL x) (n1 : (es.length : Int) ≤ L) (n2 : (ls.length : Int) ≤ L) (n3 : (nx : Int) ≤ L) (n4 : hn < 18446744073709551616) (hf : formV hn hp = true) :
    decSL L (some (tailB es ls nx hn hp)) = (⟨es, ls, nx, hn, hp.toNat⟩, some []) := by
  have h1 : dEL L (some (tailB es ls nx hn hp)) = (es, some (Cd.enc ls.length ++ (encLs ls ++ (Cd.enc nx ++ (Cd.enc hn ++ [pb hp]))))) := by
    unfold dEL tailB
    rw [rInt_enc es.length (by omega) L n1]
    exact decN_encEs es _ he
  have h2 : dLL L (some (Cd.enc ls.length ++ (encLs ls ++ (Cd.enc nx ++ (Cd.enc hn ++ [pb hp]))))) = (ls, some (Cd.enc nx ++ (Cd.enc hn ++ [pb hp]))) := by
    unfold dLL
    rw [rInt_enc ls.length (by omega) L n2]
    exact decN_encLs ls _ hl
  have h3 := rInt_enc nx (by omega) L n3 (Cd.enc hn ++ [pb hp])
  have h4 : decV (some (Cd.enc hn ++ [pb hp])) = ((hn, hp.toNat), some []) := by
    have := dec_encV hn n4 hp hf []
    simpa using this
  unfold decSL
  rw [h1]
  simp only
  rw [h2]
  simp only
  rw [h3]
  simp only
  rw [h4]
theorem decSL_inv {L : Int} {st : Option (List UInt8)} {D : DS} (h : decSL L st = (D, some [])) : st = some (tailB D.es D.ls D.nx D.hn (D.hp : Int)) ∧ (∀ e ∈ D.es, RE e) ∧ (∀ x ∈ D.ls, RL x) ∧ (D.nx : Int) ≤ L ∧ D.hn < 18446744073709551616 ∧ formV D.hn (D.hp : Int) = true := by
  unfold decSL at h
  simp at h
  obtain ⟨rfl, h1⟩ := h
  obtain ⟨v1, v2, v3⟩ := decV_inv (pr2 h1)
  obtain ⟨i1, i2, _⟩ := rInt_inv (pr2 v1)
  obtain ⟨l1, l2, l3⟩ := decN_inv decL encL RL (fun _ _ _ h => decL_inv h) _ _ _ _ (pr2 i1)
  obtain ⟨j1, _, _⟩ := rInt_inv (pr2 l2)
  obtain ⟨e1, e2, e3⟩ := decN_inv decE (fun e => encE e.1 e.2) RE (fun _ _ _ h => decE_inv h) _ _ _ _ (pr2 j1)
  obtain ⟨k1, _, _⟩ := rInt_inv (pr2 e2)
  refine ⟨k1.trans ?_, e3, l3, i2, v3, v2⟩
  unfold tailB
  congr 1
  have q1 : (dEL L st).1.length = (Cd.rInt st L).1 := e1
  have q2 : (dLL L (dEL L st).2).1.length = (Cd.rInt (dEL L st).2 L).1 := l1
  rw [q1, q2]
  simp [encEs, encLs, dEL, dLL]
end Go.Proofs.Ytpdgoalbknopiaa
