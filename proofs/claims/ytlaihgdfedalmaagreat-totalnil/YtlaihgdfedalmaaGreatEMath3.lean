/-
  What is read of a summary's bytes is the summary.
-/
import Derived.Test.YtlaihgdfedalmaaGreatEMath2
import Derived.Test.YtlaihgdfedalmaaGreatESum
namespace Go.Proofs.YtlaihgdfedalmaaGreat
open Go.RowKit
set_option linter.unusedVariables false

theorem decN_encEs : ∀ (es : List (Lb × List UInt8)) (t : List UInt8), (∀ e ∈ es, RE e) → decN decE es.length (some (encEs es ++ t)) = (es, some t)
  | [], t, _ => by simp [decN, encEs]
  | e :: es, t, h => by
    have h1 := dec_encE e.1 e.2 (h e (by simp)).1 (h e (by simp)).2.1 (h e (by simp)).2.2.1 (h e (by simp)).2.2.2 (encEs es ++ t)
    have h2 := decN_encEs es t (fun x hx => h x (by simp [hx]))
    have e0 : encEs (e :: es) ++ t = encE e.1 e.2 ++ (encEs es ++ t) := by simp [encEs]
    simp only [List.length_cons]
    unfold decN
    rw [e0, h1]
    simp only
    rw [h2]
theorem decN_encLs : ∀ (ls : List Lb) (t : List UInt8), (∀ x ∈ ls, RL x) → decN decL ls.length (some (encLs ls ++ t)) = (ls, some t)
  | [], t, _ => by simp [decN, encLs]
  | x :: ls, t, h => by
    have h1 := dec_encL x (h x (by simp)).1 (h x (by simp)).2.1 (h x (by simp)).2.2 (encLs ls ++ t)
    have h2 := decN_encLs ls t (fun y hy => h y (by simp [hy]))
    have e0 : encLs (x :: ls) ++ t = encL x ++ (encLs ls ++ t) := by simp [encLs]
    simp only [List.length_cons]
    unfold decN
    rw [e0, h1]
    simp only
    rw [h2]
/-- A summary's bytes behind the first one. -/
def tailB (es : List (Lb × List UInt8)) (ls : List Lb) (nx : Nat) (hn : Nat) (hp : Int) : List UInt8 := Cd.enc es.length ++ (encEs es ++ (Cd.enc ls.length ++ (encLs ls ++ (Cd.enc nx ++ (Cd.enc hn ++ [pb hp])))))
theorem allB_tail (es : List (Lb × List UInt8)) (ls : List Lb) (nx : Nat) (hn : Nat) (hp : Int) : allB es ls nx hn hp = 2 :: tailB es ls nx hn hp := by simp [allB, tailB]
theorem decS_tail {es : List (Lb × List UInt8)} {ls : List Lb} {nx hn : Nat} {hp : Int} (he : ∀ e ∈ es, RE e) (hl : ∀ x ∈ ls, RL x) (n1 : es.length < 9223372036854775808) (n2 : ls.length < 9223372036854775808) (n3 : nx < 9223372036854775808) (n4 : hn < 18446744073709551616) (hf : formV hn hp = true) :
    decS (some (tailB es ls nx hn hp)) = (⟨es, ls, nx, hn, hp.toNat⟩, some []) := by
  have h1 : dE (some (tailB es ls nx hn hp)) = (es, some (Cd.enc ls.length ++ (encLs ls ++ (Cd.enc nx ++ (Cd.enc hn ++ [pb hp]))))) := by
    unfold dE tailB
    rw [rInt_enc es.length (by omega) mx (by unfold mx; omega)]
    exact decN_encEs es _ he
  have h2 : dL (some (Cd.enc ls.length ++ (encLs ls ++ (Cd.enc nx ++ (Cd.enc hn ++ [pb hp]))))) = (ls, some (Cd.enc nx ++ (Cd.enc hn ++ [pb hp]))) := by
    unfold dL
    rw [rInt_enc ls.length (by omega) mx (by unfold mx; omega)]
    exact decN_encLs ls _ hl
  have h3 := rInt_enc nx (by omega) mx (by unfold mx; omega) (Cd.enc hn ++ [pb hp])
  have h4 : decV (some (Cd.enc hn ++ [pb hp])) = ((hn, hp.toNat), some []) := by
    have := dec_encV hn n4 hp hf []
    simpa using this
  unfold decS
  rw [h1]
  simp only
  rw [h2]
  simp only
  rw [h3]
  simp only
  rw [h4]
end Go.Proofs.YtlaihgdfedalmaaGreat
