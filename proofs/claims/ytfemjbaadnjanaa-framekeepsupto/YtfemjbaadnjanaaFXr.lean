/-
  Bytes of one stretch of blocks are turned, nothing else.
-/
import Derived.Test.YtfemjbaadnjanaaFUzF
namespace Go.Proofs.Ytfemjbaadnjanaa
open Go.RowKit
set_option linter.unusedVariables false
set_option linter.unusedSimpArgs false

structure Xr (L H : Nat) (wc wr : World) : Prop where
  os : wr.os = wc.os
  tape : wr.tape = wc.tape
  output : wr.output = wc.output
  size : wr.heap.size = wc.heap.size
  out : ∀ b, (b < L ∨ H ≤ b) → wr.heap[b]? = wc.heap[b]?
  non : ∀ ad v, wc.cell? ad = some v → (∀ k, v ≠ .int .u8 k) → wr.cell? ad = some v
  byt : ∀ ad (k : Nat), wc.cell? ad = some (.int .u8 (k : Nat)) → k < 256 → ∃ k' : Nat, k' < 256 ∧ wr.cell? ad = some (.int .u8 (k' : Nat))
  fz : ∀ ad, wr.frozen? ad = wc.frozen? ad
section
variable {L H : Nat} {wc wr : World}
theorem Xr.refl (L H : Nat) (w : World) : Xr L H w w := ⟨rfl, rfl, rfl, rfl, fun _ _ => rfl, fun _ _ h _ => h, fun _ k h hk => ⟨k, hk, h⟩, fun _ => rfl⟩
theorem Xr.drew (h : Xr L H wc wr) : Xr L H wc wr.drew := ⟨h.os, h.tape, h.output, h.size, h.out, h.non, h.byt, h.fz⟩
theorem Xr.set (h : Xr L H wc wr) {b o : Nat} {k k' : Nat} (hc : wr.cell? ⟨b, o, none⟩ = some (.int .u8 (k : Nat))) (hb : L ≤ b ∧ b < H) (hk : k' < 256) : Xr L H wc (wr.setCell ⟨b, o, none⟩ (.int .u8 (k' : Nat))) where
  os := h.os
  tape := h.tape
  output := h.output
  size := by rw [← h.size]; simp [World.setCell]
  out := fun x hx => by rw [Below.heap_setCell _ _ _ _ (by show x ≠ b; omega)]; exact h.out x hx
  non := fun ad v hv hn => by
    have h1 := h.non ad v hv hn
    rw [World.cell?_setCell_other]
    · exact h1
    · intro e
      rw [← e, hc] at h1
      exact hn k (by simpa using h1.symm)
  byt := fun ad j hv hj => by
    obtain ⟨j', hj', h1⟩ := h.byt ad j hv hj
    by_cases e : ad = ⟨b, o, none⟩
    · exact ⟨k', hk, by rw [e]; exact World.cell?_setCell_same _ _ _ hc⟩
    · exact ⟨j', hj', by rw [World.cell?_setCell_other _ _ _ _ (fun e' => e e'.symm)]; exact h1⟩
  fz := fun ad => by rw [World.frozen?_setCell]; exact h.fz ad
theorem Xr.below (h : Xr L H wc wr) : Below L wc wr := ⟨h.os, h.tape, h.output, by rw [h.size]; exact Nat.le_refl _, fun b hb => h.out b (.inl hb)⟩
/-- A message of such a list, and its bytes. -/
theorem ms_at {p : Nat → Prop} {ao : Option Addr} {n : Nat} {ds : List (List UInt8)} (h : MsU p wc ao n ds) (hp : ∀ b, p b → L ≤ b ∧ b < H) {i : Nat} (hi : i < n) :
    ∃ lb lo mo mn mc, ao = some ⟨lb, lo, none⟩ ∧ mn ≤ mc ∧ mn ≤ 140737488355328 ∧ ∀ wr, Xr L H wc wr → wr.cell? ⟨lb, lo + i, none⟩ = some (.slice mo mn mc) ∧
      ∀ k, k < mn → ∃ mb off, mo = some ⟨mb, off, none⟩ ∧ L ≤ mb ∧ mb < H ∧ (∃ z : Nat, z < 256 ∧ wr.cell? ⟨mb, off + k, none⟩ = some (.int .u8 (z : Nat))) ∧ wr.frozen? ⟨mb, off + k, none⟩ = false := by
  obtain ⟨xs, ⟨h1, h2, h3, h4⟩, h5, h6⟩ := h
  obtain ⟨lb, lo, rfl, hpl, hc⟩ := h4 (by omega)
  have hx : xs[i]? = some xs[i] := List.getElem?_eq_getElem (by omega)
  have hm : ds[i]? = some ds[i] := List.getElem?_eq_getElem (by omega)
  have hru := h6 i _ _ hx hm
  generalize xs[i] = y at *
  generalize ds[i] = m at *
  obtain ⟨mo, mn, mc⟩ := y
  have hcc := hc i _ hx
  obtain ⟨⟨⟨r1, r2, r3, r4⟩, g1, g2, g3⟩, hu⟩ := hru
  refine ⟨lb, lo, mo, mn, mc, rfl, g1, r2, fun wr x => ⟨x.non _ _ hcc (fun k e => by cases e), fun k hk => ?_⟩⟩
  obtain ⟨mb, off, e, hpb, hcb⟩ := r4 (by show 0 < mn; omega)
  have e' : mo = some ⟨mb, off, none⟩ := e
  obtain ⟨u1, u2, u3⟩ := hu (by show 0 < mn; omega) _ e
  have hkm : k < m.length := by have : m.length = mn := r1; omega
  refine ⟨mb, off, e', (hp _ hpb).1, (hp _ hpb).2, ?_, by rw [x.fz]; exact u3 _⟩
  exact x.byt _ _ (hcb k m[k] (List.getElem?_eq_getElem hkm)) (Cd.u8_lt _)
/-- An item of such a list, and its bytes. -/
theorem it_at {p : Nat → Prop} {ao : Option Addr} {n : Nat} {ds : List Di} (h : ItsU p wc ao n ds) (hp : ∀ b, p b → L ≤ b ∧ b < H) {i : Nat} (hi : i < n) :
    ∃ lb lo mo mn mc, ao = some ⟨lb, lo, none⟩ ∧ mn ≤ mc ∧ mn ≤ 140737488355328 ∧ ∀ wr, Xr L H wc wr → wr.cell? ⟨lb, lo + i * 2 + 1, none⟩ = some (.slice mo mn mc) ∧
      ∀ k, k < mn → ∃ mb off, mo = some ⟨mb, off, none⟩ ∧ L ≤ mb ∧ mb < H ∧ (∃ z : Nat, z < 256 ∧ wr.cell? ⟨mb, off + k, none⟩ = some (.int .u8 (z : Nat))) ∧ wr.frozen? ⟨mb, off + k, none⟩ = false := by
  obtain ⟨xs, ⟨h1, h2, h3, h4⟩, h5, h6⟩ := h
  obtain ⟨lb, lo, rfl, hpl, hc⟩ := h4 (by omega)
  have hx : xs[i]? = some xs[i] := List.getElem?_eq_getElem (by omega)
  have hm : ds[i]? = some ds[i] := List.getElem?_eq_getElem (by omega)
  have hru := h6 i _ _ hx hm
  generalize xs[i] = y at *
  generalize ds[i] = m at *
  obtain ⟨fr, mo, mn, mc⟩ := y
  have hcc := (hc i _ hx).2
  obtain ⟨_, ⟨⟨r1, r2, r3, r4⟩, g1, g2, g3⟩, hu⟩ := hru
  refine ⟨lb, lo, mo, mn, mc, rfl, g1, r2, fun wr x => ⟨x.non _ _ hcc (fun k e => by cases e), fun k hk => ?_⟩⟩
  obtain ⟨mb, off, e, hpb, hcb⟩ := r4 (by show 0 < mn; omega)
  have e' : mo = some ⟨mb, off, none⟩ := e
  obtain ⟨u1, u2, u3⟩ := hu (by show 0 < mn; omega) _ e
  have hkm : k < m.2.length := by have : m.2.length = mn := r1; omega
  refine ⟨mb, off, e', (hp _ hpb).1, (hp _ hpb).2, ?_, by rw [x.fz]; exact u3 _⟩
  exact x.byt _ _ (hcb k m.2[k] (List.getElem?_eq_getElem hkm)) (Cd.u8_lt _)
end
theorem xor1 (z : Nat) (hz : z < 256) : ∃ z1 : Nat, z1 < 256 ∧ bits .xor .u8 (z : Int) 1 = (z1 : Int) := by
  have h1 := u8_xor_nat z 1 hz (by omega)
  exact ⟨z ^^^ 1, Nat.xor_lt_two_pow (n := 8) hz (by omega), h1⟩
end Go.Proofs.Ytfemjbaadnjanaa
