/-
  What is read of an entry's bytes is the entry; what is read as an entry was its bytes.
-/
import Derived.Test.YtlaihgdfedalmaaGreatEDec
namespace Go.Proofs.YtlaihgdfedalmaaGreat
open Go.RowKit
set_option linter.unusedVariables false

theorem dec_encV (N : Nat) (hN : N < 18446744073709551616) (p : Int) (hf : formV N p = true) (rest : List UInt8) : decV (some (Cd.enc N ++ [pb p] ++ rest)) = ((N, p.toNat), some rest) := by
  have hp : 0 ≤ p ∧ p ≤ (if N = 0 then 0 else 15) := by simpa [formV] using hf
  have hp15 : p ≤ 15 := by have := hp.2; split at this <;> omega
  have e1 : Cd.rUint (some (Cd.enc N ++ [pb p] ++ rest)) = (N, some ([pb p] ++ rest)) := by
    have := Cd.rd_enc N ([pb p] ++ rest) hN
    rw [List.append_assoc]
    simp only [Cd.rUint, this]
    simp
  have hb : [pb p] = Cd.enc p.toNat := (Cd.encF_small 9 p.toNat (by omega)).symm
  have e2 : Cd.rUint (some ([pb p] ++ rest)) = (p.toNat, some rest) := by
    have := Cd.rd_enc p.toNat rest (by omega)
    rw [hb]
    simp only [Cd.rUint, this]
    simp
  unfold decV
  rw [e1]
  simp only
  have e3 : Cd.rInt (some ([pb p] ++ rest)) (if N = 0 then 0 else 15) = (p.toNat, some rest) := by
    unfold Cd.rInt
    rw [e2]
    simp only
    rw [if_neg]
    have h1 := hp.1
    have h2 := hp.2
    split <;> rename_i hN0
    · rw [if_pos hN0] at h2; omega
    · omega
  rw [e3]
theorem rUint_enc (n : Nat) (h : n < 18446744073709551616) (t : List UInt8) : Cd.rUint (some (Cd.enc n ++ t)) = (n, some t) := by
  have := Cd.rd_enc n t h
  simp [Cd.rUint, this]
theorem rInt_enc (n : Nat) (h : n < 18446744073709551616) (m : Int) (hm : (n : Int) ≤ m) (t : List UInt8) : Cd.rInt (some (Cd.enc n ++ t)) m = (n, some t) := by
  unfold Cd.rInt
  rw [rUint_enc n h t]
  simp only
  rw [if_neg (by omega)]
theorem dec_encL (x : Lb) (hx : x.1 < 18446744073709551616) (hx2 : x.2.2.1 < 18446744073709551616) (hf : formL x = true) (t : List UInt8) : decL (some (encL x ++ t)) = (x, some t) := by
  obtain ⟨hv, _, _, hq0, hq15⟩ := formL_parts hf
  obtain ⟨hp0, hp15⟩ := formV_p hv
  obtain ⟨N, p, s, q⟩ := x
  simp only at *
  have e0 : decV (some (encL (N, p, s, q) ++ t)) = ((N, p.toNat), some (Cd.enc s ++ ([pb q] ++ t))) := by
    have := dec_encV N hx p hv (Cd.enc s ++ ([pb q] ++ t))
    unfold encL
    simpa using this
  have hb : [pb q] = Cd.enc q.toNat := (Cd.encF_small 9 q.toNat (by omega)).symm
  have e2 : Cd.rInt (some ([pb q] ++ t)) 15 = (q.toNat, some t) := by
    rw [hb]
    exact rInt_enc q.toNat (by omega) 15 (by omega) t
  unfold decL
  rw [e0]
  simp only
  rw [rUint_enc s hx2, e2]
  simp only
  have hpp : ((p.toNat : Nat) : Int) = p := by omega
  have hqq : ((q.toNat : Nat) : Int) = q := by omega
  rw [hpp, hqq, hf]
theorem dec_encE (x : Lb) (m : List UInt8) (hx : x.1 < 18446744073709551616) (hx2 : x.2.2.1 < 18446744073709551616) (hf : formL x = true) (hm : m.length ≤ 64) (t : List UInt8) : decE (some (encE x m ++ t)) = ((x, m), some t) := by
  unfold decE encE
  rw [List.append_assoc, dec_encL x hx hx2 hf]
  simp only
  have : Cd.rBytes (some (Cd.enc m.length ++ m ++ t)) 64 = (m, some t) := by
    unfold Cd.rBytes
    rw [List.append_assoc, rInt_enc m.length (by omega) 64 (by omega) (m ++ t)]
    simp
  rw [this]
end Go.Proofs.YtlaihgdfedalmaaGreat
