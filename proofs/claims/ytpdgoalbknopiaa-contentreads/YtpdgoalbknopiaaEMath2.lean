/-
  Unlike entries and unlike summaries have unlike bytes.
-/
import Derived.Test.YtpdgoalbknopiaaEMath
import Derived.Test.YtpdgoalbknopiaaEAll
namespace Go.Proofs.Ytpdgoalbknopiaa
open Go.RowKit
set_option linter.unusedVariables false

def RE (e : Lb × List UInt8) : Prop := e.1.1 < 18446744073709551616 ∧ e.1.2.2.1 < 18446744073709551616 ∧ formL e.1 = true ∧ e.2.length ≤ 64
def RL (x : Lb) : Prop := x.1 < 18446744073709551616 ∧ x.2.2.1 < 18446744073709551616 ∧ formL x = true
theorem enc_split {a b : Nat} {t u : List UInt8} (ha : a < 18446744073709551616) (hb : b < 18446744073709551616) (h : Cd.enc a ++ t = Cd.enc b ++ u) : a = b ∧ t = u := by
  have h1 := rUint_enc a ha t
  rw [h, rUint_enc b hb u] at h1
  simp at h1
  exact ⟨h1.1.symm, h1.2.symm⟩
theorem encE_split {x y : Lb × List UInt8} {t u : List UInt8} (hx : RE x) (hy : RE y) (h : encE x.1 x.2 ++ t = encE y.1 y.2 ++ u) : x = y ∧ t = u := by
  have h1 := dec_encE x.1 x.2 hx.1 hx.2.1 hx.2.2.1 hx.2.2.2 t
  rw [h, dec_encE y.1 y.2 hy.1 hy.2.1 hy.2.2.1 hy.2.2.2 u] at h1
  simp only [Prod.mk.injEq, Option.some.injEq] at h1
  exact ⟨Prod.ext h1.1.1.symm h1.1.2.symm, h1.2.symm⟩
theorem encL_split {x y : Lb} {t u : List UInt8} (hx : RL x) (hy : RL y) (h : encL x ++ t = encL y ++ u) : x = y ∧ t = u := by
  have h1 := dec_encL x hx.1 hx.2.1 hx.2.2 t
  rw [h, dec_encL y hy.1 hy.2.1 hy.2.2 u] at h1
  simp only [Prod.mk.injEq, Option.some.injEq] at h1
  exact ⟨h1.1.symm, h1.2.symm⟩
theorem encEs_split : ∀ {a b : List (Lb × List UInt8)} {t u : List UInt8}, (∀ e ∈ a, RE e) → (∀ e ∈ b, RE e) → a.length = b.length → encEs a ++ t = encEs b ++ u → a = b ∧ t = u
  | [], [], t, u, _, _, _, h => ⟨rfl, by simpa [encEs] using h⟩
  | [], y :: b, t, u, _, _, hl, _ => by simp at hl
  | x :: a, [], t, u, _, _, hl, _ => by simp at hl
  | x :: a, y :: b, t, u, ha, hb, hl, h => by
    have h' : encE x.1 x.2 ++ (encEs a ++ t) = encE y.1 y.2 ++ (encEs b ++ u) := by simpa [encEs] using h
    obtain ⟨e1, e2⟩ := encE_split (ha x (by simp)) (hb y (by simp)) h'
    obtain ⟨e3, e4⟩ := encEs_split (fun e he => ha e (by simp [he])) (fun e he => hb e (by simp [he])) (by simpa using hl) e2
    exact ⟨by rw [e1, e3], e4⟩
theorem encLs_split : ∀ {a b : List Lb} {t u : List UInt8}, (∀ e ∈ a, RL e) → (∀ e ∈ b, RL e) → a.length = b.length → encLs a ++ t = encLs b ++ u → a = b ∧ t = u
  | [], [], t, u, _, _, _, h => ⟨rfl, by simpa [encLs] using h⟩
  | [], y :: b, t, u, _, _, hl, _ => by simp at hl
  | x :: a, [], t, u, _, _, hl, _ => by simp at hl
  | x :: a, y :: b, t, u, ha, hb, hl, h => by
    have h' : encL x ++ (encLs a ++ t) = encL y ++ (encLs b ++ u) := by simpa [encLs] using h
    obtain ⟨e1, e2⟩ := encL_split (ha x (by simp)) (hb y (by simp)) h'
    obtain ⟨e3, e4⟩ := encLs_split (fun e he => ha e (by simp [he])) (fun e he => hb e (by simp [he])) (by simpa using hl) e2
    exact ⟨by rw [e1, e3], e4⟩
theorem pb_inj {p q : Int} (hp : 0 ≤ p ∧ p ≤ 15) (hq : 0 ≤ q ∧ q ≤ 15) (h : pb p = pb q) : p = q := by
  have h1 := pb_num p hp.1 hp.2
  have h2 := pb_num q hq.1 hq.2
  rw [h] at h1
  rw [h1] at h2
  simpa using h2
theorem allB_inj {es es' : List (Lb × List UInt8)} {ls ls' : List Lb} {nx nx' hn hn' : Nat} {hp hp' : Int} (he : ∀ e ∈ es, RE e) (he' : ∀ e ∈ es', RE e) (hl : ∀ x ∈ ls, RL x) (hl' : ∀ x ∈ ls', RL x)
    (n1 : es.length < 18446744073709551616) (n2 : es'.length < 18446744073709551616) (n3 : ls.length < 18446744073709551616) (n4 : ls'.length < 18446744073709551616) (n5 : nx < 18446744073709551616) (n6 : nx' < 18446744073709551616) (n7 : hn < 18446744073709551616) (n8 : hn' < 18446744073709551616)
    (hf : formV hn hp = true) (hf' : formV hn' hp' = true) : allB es ls nx hn hp = allB es' ls' nx' hn' hp' ↔ es = es' ∧ ls = ls' ∧ nx = nx' ∧ hn = hn' ∧ hp = hp' := by
  constructor
  · intro h
    unfold allB at h
    simp only [List.append_assoc, List.cons_append, List.nil_append, List.cons.injEq, true_and] at h
    obtain ⟨e1, h⟩ := enc_split n1 n2 h
    obtain ⟨e2, h⟩ := encEs_split he he' e1 h
    obtain ⟨e3, h⟩ := enc_split n3 n4 h
    obtain ⟨e4, h⟩ := encLs_split hl hl' e3 h
    obtain ⟨e5, h⟩ := enc_split n5 n6 h
    obtain ⟨e6, h⟩ := enc_split n7 n8 h
    simp at h
    exact ⟨e2, e4, e5, e6, pb_inj (formV_p hf) (formV_p hf') h⟩
  · rintro ⟨rfl, rfl, rfl, rfl, rfl⟩
    rfl
theorem one_inj {x y : Lb × List UInt8} (hx : RE x) (hy : RE y) : (1 : UInt8) :: encE x.1 x.2 = 1 :: encE y.1 y.2 ↔ x = y := by
  constructor
  · intro h
    simp only [List.cons.injEq, true_and] at h
    have h' : encE x.1 x.2 ++ [] = encE y.1 y.2 ++ [] := by simpa using h
    exact (encE_split hx hy h').1
  · rintro rfl
    rfl
/-- What a right summary's parts are. -/
theorem right_parts {es : List (Lb × List UInt8)} {ls : List Lb} {nx : Int} {hn : Nat} {hp : Int} (h : rightS es ls nx hn hp = true) (ho : ∀ e ∈ es, e.1.1 < 18446744073709551616 ∧ e.1.2.2.1 < 18446744073709551616) (hl : ∀ x ∈ ls, x.1 < 18446744073709551616 ∧ x.2.2.1 < 18446744073709551616) :
    (∀ e ∈ es, RE e) ∧ (∀ x ∈ ls, RL x) ∧ 1 ≤ nx ∧ nx ≤ (ls.length : Int) + 1 ∧ formV hn hp = true := by
  unfold rightS at h
  simp only [Bool.and_eq_true, decide_eq_true_eq] at h
  obtain ⟨⟨⟨⟨h1, h2, _⟩, h3⟩, h4⟩, h5⟩ := h
  refine ⟨fun e he => ?_, fun x hx => ⟨(hl x hx).1, (hl x hx).2, List.all_eq_true.1 h2 x hx⟩, h3, h4, h5⟩
  obtain ⟨i, hi, hie⟩ := List.getElem_of_mem he
  unfold ascE at h1
  have := List.all_eq_true.1 h1 i (by simpa using hi)
  unfold gooE at this
  simp only [Bool.and_eq_true] at this
  have h6 := this.2
  rw [show es.getD i den = e by simp [List.getD, List.getElem?_eq_getElem hi, hie]] at h6
  unfold formE at h6
  simp only [Bool.and_eq_true, decide_eq_true_eq] at h6
  exact ⟨(ho e he).1, (ho e he).2, h6.1, h6.2⟩
end Go.Proofs.Ytpdgoalbknopiaa
