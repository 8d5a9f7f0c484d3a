/-
  What the document's functions on traces say, in plain data.
-/
import Derived.Test.YthnbijnpbjfoaaaJStay
namespace Go.Proofs.Ythnbijnpbjfoaaa
open Go.RowKit Go.Sort
set_option linter.unusedVariables false

abbrev Vw := Nat × Int × Nat
def vwOf (e : Ev) : Vw := (e.n, e.p, e.s)
def viewsE (es : List Ev) : List Vw := (es.filter (fun e => decide (e.k = 1))).map vwOf
theorem viewsE_snoc (es : List Ev) (e : Ev) : viewsE (es ++ [e]) = viewsE es ++ (if e.k = 1 then [vwOf e] else []) := by
  unfold viewsE
  rw [List.filter_append, List.map_append]
  by_cases h : e.k = 1 <;> simp [h]
/-- Items of a kind in the view of a number, in the document's words. -/
def itemsE (node : Nat) (k n : Nat) (p : Int) (es : List Ev) : List Di := (es.filter (fun e => decide (e.k = k ∧ e.n = n ∧ e.p = p))).map (fun e => (if k = 2 then ((node : Nat) : Int) else e.f, e.m))
theorem itemsE_snoc (node k n : Nat) (p : Int) (es : List Ev) (e : Ev) : itemsE node k n p (es ++ [e]) = itemsE node k n p es ++ (if e.k = k ∧ e.n = n ∧ e.p = p then [(if k = 2 then ((node : Nat) : Int) else e.f, e.m)] else []) := by
  unfold itemsE
  rw [List.filter_append, List.map_append]
  by_cases h : e.k = k ∧ e.n = n ∧ e.p = p
  · rw [List.filter_cons_of_pos (by simpa using h), if_pos h]; rfl
  · rw [List.filter_cons_of_neg (by simpa using h), if_neg h]; rfl
theorem itemsE_prefix (node k n : Nat) (p : Int) (es fs : List Ev) : itemsE node k n p es <+: itemsE node k n p (es ++ fs) := by
  unfold itemsE
  rw [List.filter_append, List.map_append]
  exact List.prefix_append _ _
structure As where
  on : Bool
  n : Nat
  p : Int
  s : Nat
  recv : Nat
  safe : Nat
def zeroA : As := ⟨false, 0, 0, 0, 0, 0⟩
/-- One more event, in the document's alone. -/
def stepA (node : Nat) (a : As) (e : Ev) : Option As :=
  if e.k = 1 then (if e.n = 0 ∨ hasN e.s node = false ∨ (a.on = true ∧ ¬ 0 < cmpV e.n e.p a.n a.p) then none else some ⟨true, e.n, e.p, e.s, 0, 0⟩)
  else if e.k = 2 ∨ e.k = 3 ∨ e.k = 4 then
    (if a.on = false ∨ ¬ (e.n = a.n ∧ e.p = a.p ∧ e.s = a.s) ∨ a.recv + (if e.k = 3 then 1 else 0) < a.safe + (if e.k = 4 then 1 else 0) then none
     else some { a with recv := a.recv + (if e.k = 3 then 1 else 0), safe := a.safe + (if e.k = 4 then 1 else 0) })
  else none
def runA (node : Nat) : List Ev → As → Option As
  | [], a => some a
  | e :: r, a => (stepA node a e).bind (runA node r)
theorem runA_snoc (node : Nat) : ∀ (l : List Ev) (e : Ev) (a : As), runA node (l ++ [e]) a = (runA node l a).bind (fun s => stepA node s e)
  | [], e, a => by
    show (stepA node a e).bind (fun s => some s) = (some a).bind (fun s => stepA node s e)
    cases h : stepA node a e <;> simp [h]
  | b :: r, e, a => by
    simp only [List.cons_append, runA]
    cases stepA node a b with
    | none => rfl
    | some s => simpa using runA_snoc node r e s
theorem runA_none (node : Nat) : ∀ (l r : List Ev) (a : As), runA node l a = none → runA node (l ++ r) a = none
  | [], r, a, h => by simp [runA] at h
  | b :: l, r, a, h => by
    simp only [List.cons_append, runA] at h ⊢
    cases hs : stepA node a b with
    | none => rfl
    | some s => rw [hs] at h; simpa using runA_none node l r s (by simpa using h)
def AloneOk (node : Nat) (es : List Ev) : Prop := (∃ a, runA node es zeroA = some a) ∧ ∀ v ∈ viewsE es, itemsE node 4 v.1 v.2.1 es <+: itemsE node 3 v.1 v.2.1 es
def hasE (es : List Ev) (n : Nat) (p : Int) : Option Vw := (viewsE es).find? (fun v => decide (v.1 = n ∧ v.2.1 = p))
def nextV : List Vw → Nat → Int → Nat × Int
  | a :: b :: r, n, p => if a.1 = n ∧ a.2.1 = p then (b.1, b.2.1) else nextV (b :: r) n p
  | _, _, _ => (0, 0)
def fromD (ds : List Di) (j : Nat) : List Di := ds.filter (fun d => decide (d.1 = (j : Int)))
/-- What the document asks of one node's view beside another node. -/
def JOk (es : List Ev) (v : Vw) (recv : List Di) (safe j : Nat) (fs : List Ev) : Prop :=
  match hasE fs v.1 v.2.1 with
  | none => fromD recv j = [] ∧ ¬ (0 < safe ∧ hasN v.2.2 j = true)
  | some u => u = v ∧ (recv <+: itemsE j 3 v.1 v.2.1 fs ∨ itemsE j 3 v.1 v.2.1 fs <+: recv) ∧ fromD recv j <+: itemsE j 2 v.1 v.2.1 fs ∧
      ¬ ((itemsE j 3 v.1 v.2.1 fs).length < safe ∧ hasN v.2.2 j = true) ∧
      ¬ (0 < (nextV (viewsE es) v.1 v.2.1).1 ∧ nextV (viewsE es) v.1 v.2.1 = nextV (viewsE fs) v.1 v.2.1 ∧ recv.length ≠ (itemsE j 3 v.1 v.2.1 fs).length)
def InV (ess : List (List Ev)) (i : Nat) (es : List Ev) (v : Vw) : Prop :=
  (∀ d ∈ itemsE i 3 v.1 v.2.1 es, 0 ≤ d.1 ∧ d.1 < ess.length) ∧
  (∀ j fs, ess[j]? = some fs → JOk es v (itemsE i 3 v.1 v.2.1 es) (itemsE i 4 v.1 v.2.1 es).length j fs) ∧
  ∀ j : Nat, ess.length ≤ j → j < 16 → ¬ (0 < (itemsE i 4 v.1 v.2.1 es).length ∧ hasN v.2.2 j = true)
def DocViews (ess : List (List Ev)) : Prop := (∀ i es, ess[i]? = some es → AloneOk i es) ∧ ∀ i es, ess[i]? = some es → ∀ v ∈ viewsE es, InV ess i es v

end Go.Proofs.Ythnbijnpbjfoaaa
