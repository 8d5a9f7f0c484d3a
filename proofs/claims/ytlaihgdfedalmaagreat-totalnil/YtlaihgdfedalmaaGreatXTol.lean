/-
  Three rows that grow side by side: nodes with what they told, their numbers, and what they told.
-/
import Derived.Test.YtlaihgdfedalmaaGreatXFull
namespace Go.Proofs.YtlaihgdfedalmaaGreat
open Go.RowKit
set_option linter.unusedVariables false
set_option linter.unusedSimpArgs false

/-- What one told, and where its lists lie. -/
abbrev El := Pt × (Option Addr × Nat) × (Option Addr × Nat)
def c5 (x : El) : List Value := [.slice x.2.1.1 x.1.es.length x.2.1.2, .slice x.2.2.1 x.1.ls.length x.2.2.2, .int .i64 x.1.nx, .int .u64 (x.1.hn : Nat), .int .i64 x.1.hp]
def c6 (x : El) : List Value := .int .i64 x.1.node :: c5 x
def cN (x : El) : Value := .int .i64 x.1.node
def f5 (l : List El) : List Value := l.flatMap c5
def f6 (l : List El) : List Value := l.flatMap c6
theorem f6_snoc (l : List El) (x : El) : f6 (l ++ [x]) = f6 l ++ c6 x := by simp [f6]
theorem f6_get : ∀ (l : List El) (j : Nat) (x : El) (i : Nat), l[j]? = some x → i < 6 → (f6 l)[6 * j + i]? = (c6 x)[i]?
  | [], j, x, i, h, hi => by simp at h
  | a :: r, 0, x, i, h, hi => by
    simp at h; subst h
    rw [show f6 (a :: r) = c6 a ++ f6 r by simp [f6], List.getElem?_append_left (by simp [c6, c5]; omega)]; simp
  | a :: r, j + 1, x, i, h, hi => by
    rw [show f6 (a :: r) = c6 a ++ f6 r by simp [f6], List.getElem?_append_right (by simp [c6, c5]; omega), show 6 * (j + 1) + i - (c6 a).length = 6 * j + i by simp [c6, c5]; omega]
    exact f6_get r j x i (by simpa using h) hi
/-- Its lists, in blocks of p. -/
def Fx (p : Nat → Prop) (w : World) (x : El) : Prop :=
  ER p w x.2.1.1 x.1.es.length x.1.es ∧ LR w x.2.2.1 x.1.ls.length x.1.ls ∧ (∀ a, x.2.2.1 = some a → 0 < x.1.ls.length → p a.block) ∧ (x.2.1.1 = none → x.1.es.length = 0 ∧ x.2.1.2 = 0) ∧ (x.2.2.1 = none → x.1.ls.length = 0 ∧ x.2.2.2 = 0)
theorem Fx.kp {p : Nat → Prop} {w w' : World} {x : El} (h : Fx p w x) (k : Kp p w w') : Fx p w' x := ⟨h.1.kp k, h.2.1.kp h.2.2.1 k, h.2.2.1, h.2.2.2.1, h.2.2.2.2⟩
theorem Fx.mono {p q : Nat → Prop} {w : World} {x : El} (h : Fx p w x) (hq : ∀ k, p k → q k) : Fx q w x := ⟨h.1.mono hq, h.2.1, fun a ha hn => hq _ (h.2.2.1 a ha hn), h.2.2.2.1, h.2.2.2.2⟩
structure Tol (w0 w : World) (p : Nat → Prop) (vt vn vs : Value) (et en es : List El) : Prop where
  lt : ∀ k, p k → k < w.heap.size
  old : ∀ k, k < w0.heap.size → p k
  rt : w.ownsRow w0.heap.size 120 6 vt et.length (f6 et)
  rn : w.ownsRow w0.heap.size 3 1 vn en.length (en.map cN)
  rs : w.ownsRow w0.heap.size 45 5 vs es.length (f5 es)
  nt : ∀ k, vt.ownBlock = some k → ¬ p k ∧ vn.ownBlock ≠ some k ∧ vs.ownBlock ≠ some k
  nn : ∀ k, vn.ownBlock = some k → ¬ p k ∧ vs.ownBlock ≠ some k
  ns : ∀ k, vs.ownBlock = some k → ¬ p k
  ft : ∀ x ∈ et, Fx p w x
  fs : ∀ x ∈ es, Fx p w x
  bl : Below w0.heap.size w0 w
theorem Tol.nil (w : World) : Tol w w (fun k => k < w.heap.size) (.slice none 0 0) (.slice none 0 0) (.slice none 0 0) [] [] [] where
  lt := fun _ h => h
  old := fun _ h => h
  rt := World.ownsRow_nil _ _ _ _
  rn := World.ownsRow_nil _ _ _ _
  rs := World.ownsRow_nil _ _ _ _
  nt := fun k h => by cases h
  nn := fun k h => by cases h
  ns := fun k h => by cases h
  ft := fun x h => by cases h
  fs := fun x h => by cases h
  bl := Below.refl _ _
/-- One block turns that is none of these, or new ones come. -/
theorem Tol.gr {w0 w w' : World} {p : Nat → Prop} {vt vn vs : Value} {et en es : List El} {row : Option Nat} (h : Tol w0 w p vt vn vs et en es) (g : w.grownBy w' row) (hr : ∀ k, row = some k → w0.heap.size ≤ k ∧ ¬ p k ∧ vt.ownBlock ≠ some k ∧ vn.ownBlock ≠ some k ∧ vs.ownBlock ≠ some k) : Tol w0 w' p vt vn vs et en es := by
  have kk : Kp p w w' := fun ad v hp hv => (World.cell?_of_block (g.block _ (World.block_lt_of_cell? w _ hv) (fun e => (hr _ e.symm).2.1 hp))).trans hv
  have own : ∀ {t s n v xs}, w.ownsRow w0.heap.size t s v n xs → (∀ k, row = some k → v.ownBlock ≠ some k) → w'.ownsRow w0.heap.size t s v n xs := fun {t s n v xs} h hv => by
    refine h.kept (row := row) g ?_
    cases row with
    | none => cases v.ownBlock with | none => exact Or.inl rfl | some k => exact Or.inr (by simp)
    | some k => exact Or.inr (hv k rfl)
  exact { lt := fun k hk => Nat.lt_of_lt_of_le (h.lt k hk) g.size, old := h.old, rt := own h.rt (fun k e => (hr k e).2.2.1), rn := own h.rn (fun k e => (hr k e).2.2.2.1), rs := own h.rs (fun k e => (hr k e).2.2.2.2), nt := h.nt, nn := h.nn, ns := h.ns, ft := fun x hx => (h.ft x hx).kp kk, fs := fun x hx => (h.fs x hx).kp kk, bl := bl_grown h.bl h.bl.size g (fun k e => (hr k e).1) }
theorem Tol.up {w0 w w' : World} {p : Nat → Prop} {vt vn vs : Value} {et en es : List El} (h : Tol w0 w p vt vn vs et en es) (u : Below w.heap.size w w') : Tol w0 w' p vt vn vs et en es :=
  h.gr (row := none) ⟨u.os, u.tape, u.output, u.size, fun i hi _ => u.block i hi⟩ (fun k e => by cases e)
/-- New blocks are read, too. -/
theorem Tol.more {w0 w w' : World} {p : Nat → Prop} {vt vn vs : Value} {et en es : List El} (h : Tol w0 w p vt vn vs et en es) (u : Below w.heap.size w w') : Tol w0 w' (fun k => p k ∨ w.heap.size ≤ k ∧ k < w'.heap.size) vt vn vs et en es := by
  have h2 := h.up u
  have lt : ∀ {t s n v xs}, w.ownsRow w0.heap.size t s v n xs → ∀ k, v.ownBlock = some k → ¬ (w.heap.size ≤ k ∧ k < w'.heap.size) := fun {t s n v xs} ho k hk => by have := (ho.lt k hk).2; omega
  exact { h2 with
    lt := fun k hk => by rcases hk with hk | hk; exact h2.lt k hk; exact hk.2
    old := fun k hk => .inl (h.old k hk)
    nt := fun k hk => ⟨by rintro (h1 | h1); exact (h.nt k hk).1 h1; exact lt h.rt k hk h1, (h.nt k hk).2⟩
    nn := fun k hk => ⟨by rintro (h1 | h1); exact (h.nn k hk).1 h1; exact lt h.rn k hk h1, (h.nn k hk).2⟩
    ns := fun k hk => by rintro (h1 | h1); exact h.ns k hk h1; exact lt h.rs k hk h1
    ft := fun x hx => (h2.ft x hx).mono (fun k hk => .inl hk)
    fs := fun x hx => (h2.fs x hx).mono (fun k hk => .inl hk) }
theorem own_ne {w0 w : World} {t : TypeId} {s n : Nat} {v : Value} {xs : List Value} (h : w.ownsRow w0.heap.size t s v n xs) : ∀ k, v.ownBlock = some k → w0.heap.size ≤ k ∧ k < w.heap.size := fun k hk => h.lt k hk
/-- One more of each. -/
theorem Tol.putT {w0 w w' : World} {p : Nat → Prop} {vt vn vs vt' : Value} {et en es : List El} {x : El} (h : Tol w0 w p vt vn vs et en es) (g : w.grownBy w' vt.ownBlock) (ho : w'.ownsRow w0.heap.size 120 6 vt' (et.length + 1) (f6 (et ++ [x]))) (hat : vt'.ownBlock = vt.ownBlock ∨ ∃ k, vt'.ownBlock = some k ∧ w.heap.size ≤ k) (hx : Fx p w x) : Tol w0 w' p vt' vn vs (et ++ [x]) en es := by
  have kk : Kp p w w' := fun ad v hp hv => (World.cell?_of_block (g.block _ (World.block_lt_of_cell? w _ hv) (fun e => (h.nt _ e.symm).1 hp))).trans hv
  have own : ∀ {t s n v xs}, w.ownsRow w0.heap.size t s v n xs → (∀ k, vt.ownBlock = some k → v.ownBlock ≠ some k) → w'.ownsRow w0.heap.size t s v n xs := fun {t s n v xs} h hv => by
    refine h.kept (row := vt.ownBlock) g ?_
    cases hvt : vt.ownBlock with
    | none => cases v.ownBlock with | none => exact Or.inl rfl | some k => exact Or.inr (by simp)
    | some k => exact Or.inr (hv k hvt)
  refine { lt := fun k hk => Nat.lt_of_lt_of_le (h.lt k hk) g.size, old := h.old, rt := by rw [List.length_append]; exact ho, rn := own h.rn (fun k e => (h.nt k e).2.1), rs := own h.rs (fun k e => (h.nt k e).2.2), nt := fun k hk => ?_, nn := h.nn, ns := h.ns, ft := fun y hy => ?_, fs := fun y hy => (h.fs y hy).kp kk, bl := bl_grown h.bl h.bl.size g (fun k hk => (own_ne h.rt k hk).1) }
  · rcases hat with e | ⟨j, e, hj⟩
    · exact h.nt k (e ▸ hk)
    · rw [e] at hk
      simp at hk
      subst hk
      exact ⟨fun hp => by have := h.lt _ hp; omega, fun e2 => by have := (own_ne h.rn _ e2).2; omega, fun e2 => by have := (own_ne h.rs _ e2).2; omega⟩
  · rcases List.mem_append.1 hy with hy | hy
    · exact (h.ft y hy).kp kk
    · rw [List.mem_singleton] at hy
      subst hy
      exact hx.kp kk
end Go.Proofs.YtlaihgdfedalmaaGreat
