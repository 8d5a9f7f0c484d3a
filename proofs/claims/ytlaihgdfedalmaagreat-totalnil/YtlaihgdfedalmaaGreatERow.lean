/-
  Entries in memory.
-/
import Derived.Test.YtlaihgdfedalmaaGreatEAdd
import Derived.Test.YtlaihgdfedalmaaGreatLAll
namespace Go.Proofs.YtlaihgdfedalmaaGreat
open Go.RowKit
set_option linter.unusedVariables false

/-- An entry's five cells, and its message, in blocks of p. -/
def EC (p : Nat → Prop) (w : World) (b off : Nat) (e : Lb × List UInt8) : Prop :=
  ∃ so sn sc, w.cell? ⟨b, off, none⟩ = some (.int .u64 (e.1.1 : Nat)) ∧ w.cell? ⟨b, off + 1, none⟩ = some (.int .i64 e.1.2.1) ∧ w.cell? ⟨b, off + 2, none⟩ = some (.int .u64 (e.1.2.2.1 : Nat)) ∧ w.cell? ⟨b, off + 3, none⟩ = some (.int .i64 e.1.2.2.2) ∧ w.cell? ⟨b, off + 4, none⟩ = some (.slice so sn sc) ∧ Cd.Row w so sn sc e.2 ∧ ∀ a, so = some a → 0 < sn → p a.block
/-- Entries in memory, in blocks of p. -/
def ER (p : Nat → Prop) (w : World) (ao : Option Addr) (n : Nat) (es : List (Lb × List UInt8)) : Prop :=
  es.length = n ∧ n ≤ 9223372036854775807 ∧ (0 < n → ∃ b off, ao = some ⟨b, off, none⟩ ∧ p b ∧ ∀ j e, es[j]? = some e → EC p w b (off + j * 5) e)
/-- What lies in blocks of p is read as before. -/
def Kp (p : Nat → Prop) (w w' : World) : Prop := ∀ ad v, p ad.block → w.cell? ad = some v → w'.cell? ad = some v
theorem Kp.trans {p : Nat → Prop} {a b c : World} (h : Kp p a b) (k : Kp p b c) : Kp p a c := fun ad v hp hv => k ad v hp (h ad v hp hv)
theorem Kp.refl (p : Nat → Prop) (a : World) : Kp p a a := fun _ _ _ h => h
theorem Kp.bl {p : Nat → Prop} {w w' : World} (u : Below w.heap.size w w') : Kp p w w' := fun ad v _ hv => bl_cell u hv
theorem Kp.base {B : Nat} {w w' : World} (u : Below B w w') : Kp (· < B) w w' := fun ad v hp hv => (u.cell hp).trans hv
theorem Kp.mono {p q : Nat → Prop} {a b : World} (h : Kp p a b) (hq : ∀ k, q k → p k) : Kp q a b := fun ad v hp hv => h ad v (hq _ hp) hv
theorem add_block (a : Addr) (i : Nat) : (a.add i).block = a.block := by unfold Addr.add; split <;> rfl
theorem row_kp {p : Nat → Prop} {w w' : World} {ao : Option Addr} {n cap : Nat} {xs : List UInt8} (h : Cd.Row w ao n cap xs) (hp : ∀ a, ao = some a → 0 < n → p a.block) (k : Kp p w w') : Cd.Row w' ao n cap xs :=
  ⟨h.1, h.2.1, h.2.2.1, h.2.2.2.1, fun a ha i hi => k _ _ (by rw [add_block]; exact hp a ha (by omega)) (h.2.2.2.2 a ha i hi)⟩
theorem EC.kp {p : Nat → Prop} {w w' : World} {b off : Nat} {e : Lb × List UInt8} (h : EC p w b off e) (hb : p b) (k : Kp p w w') : EC p w' b off e := by
  obtain ⟨so, sn, sc, h0, h1, h2, h3, h4, h5, h6⟩ := h
  exact ⟨so, sn, sc, k _ _ hb h0, k _ _ hb h1, k _ _ hb h2, k _ _ hb h3, k _ _ hb h4, row_kp h5 h6 k, h6⟩
theorem EC.mono {p q : Nat → Prop} {w : World} {b off : Nat} {e : Lb × List UInt8} (h : EC p w b off e) (hq : ∀ k, p k → q k) : EC q w b off e := by
  obtain ⟨so, sn, sc, h0, h1, h2, h3, h4, h5, h6⟩ := h
  exact ⟨so, sn, sc, h0, h1, h2, h3, h4, h5, fun a ha hn => hq _ (h6 a ha hn)⟩
theorem ER.kp {p : Nat → Prop} {w w' : World} {ao : Option Addr} {n : Nat} {es : List (Lb × List UInt8)} (h : ER p w ao n es) (k : Kp p w w') : ER p w' ao n es := by
  refine ⟨h.1, h.2.1, fun hn => ?_⟩
  obtain ⟨b, off, e, hp, hh⟩ := h.2.2 hn
  exact ⟨b, off, e, hp, fun j x hj => (hh j x hj).kp hp k⟩
theorem ER.mono {p q : Nat → Prop} {w : World} {ao : Option Addr} {n : Nat} {es : List (Lb × List UInt8)} (h : ER p w ao n es) (hq : ∀ k, p k → q k) : ER q w ao n es := by
  refine ⟨h.1, h.2.1, fun hn => ?_⟩
  obtain ⟨b, off, e, hp, hh⟩ := h.2.2 hn
  exact ⟨b, off, e, hq _ hp, fun j x hj => (hh j x hj).mono hq⟩
theorem ER.bl {p : Nat → Prop} {w w' : World} {ao : Option Addr} {n : Nat} {es : List (Lb × List UInt8)} (h : ER p w ao n es) (u : Below w.heap.size w w') : ER p w' ao n es := h.kp (Kp.bl u)
theorem ER.nil (p : Nat → Prop) (w : World) (ao : Option Addr) : ER p w ao 0 [] := ⟨rfl, by omega, fun h => by omega⟩
/-- All of it lies in blocks that are there. -/
theorem ER.here {p : Nat → Prop} {w : World} {ao : Option Addr} {n : Nat} {es : List (Lb × List UInt8)} (h : ER p w ao n es) : ER (fun k => p k ∧ k < w.heap.size) w ao n es := by
  refine ⟨h.1, h.2.1, fun hn => ?_⟩
  obtain ⟨b, off, e, hp, hh⟩ := h.2.2 hn
  have hlen : 0 < es.length := by have := h.1; omega
  have h0 : es[0]? = some (es[0]'hlen) := List.getElem?_eq_getElem hlen
  obtain ⟨_, _, _, hc, _⟩ := hh 0 _ h0
  refine ⟨b, off, e, ⟨hp, World.block_lt_of_cell? w _ hc⟩, fun j x hj => ?_⟩
  obtain ⟨so, sn, sc, k0, k1, k2, k3, k4, k5, k6⟩ := hh j x hj
  exact ⟨so, sn, sc, k0, k1, k2, k3, k4, k5, fun a ha hn => ⟨k6 a ha hn, row_lt k5 a ha hn⟩⟩
end Go.Proofs.YtlaihgdfedalmaaGreat
