/-
  Numbers and lists of numbers as they are handed in.
-/
import Derived.Test.YtofhkfbibdkjgaaBAwake
import Derived.ProofKit
import Derived.OpenShut
import Derived.ShutString
import Derived.ChangeOld
import Derived.Below
namespace Go.Proofs.Ytofhkfbibdkjgaa
open Go.ChangeShapes Go.WideShapes Go.ChangeAt Go.RowKit
set_option linter.unusedVariables false
theorem in_of_wf {a : Int} (h : (Lit.int .i64 a).wf = true) : In a := by
  unfold In
  simp [Lit.wf, IntKind.min, IntKind.max, IntKind.bits, IntKind.signed] at h
  omega
theorem u64_of_wf {a : Int} (h : (Lit.int .u64 a).wf = true) : ∃ n : Nat, a = n ∧ n < 18446744073709551616 := by
  simp [Lit.wf, IntKind.min, IntKind.max, IntKind.bits, IntKind.signed] at h
  exact ⟨a.toNat, by omega, by omega⟩
theorem u32_of_wf {a : Int} (h : (Lit.int .u32 a).wf = true) : ∃ n : Nat, a = n ∧ n < 4294967296 := by
  simp [Lit.wf, IntKind.min, IntKind.max, IntKind.bits, IntKind.signed] at h
  exact ⟨a.toNat, by omega, by omega⟩
theorem u16_of_wf {a : Int} (h : (Lit.int .u16 a).wf = true) : ∃ n : Nat, a = n ∧ n < 65536 := by
  simp [Lit.wf, IntKind.min, IntKind.max, IntKind.bits, IntKind.signed] at h
  exact ⟨a.toNat, by omega, by omega⟩
theorem u8_of_wf {a : Int} (h : (Lit.int .u8 a).wf = true) : ∃ n : Nat, a = n ∧ n < 256 := by
  simp [Lit.wf, IntKind.min, IntKind.max, IntKind.bits, IntKind.signed] at h
  exact ⟨a.toNat, by omega, by omega⟩

theorem own : ownKnob Try.prog.godebug = none := by kernel_rfl
theorem laidOut : laidOutB Try.prog = true := by kernel_rfl

/-- A list of numbers that was handed in. -/
structure Nums (W : World) (k : IntKind) (a : Option Addr) (len B : Nat) (xs : List Nat) : Prop where
  length : xs.length = len
  max : len ≤ 9223372036854775807
  lt : ∀ j, xs.getD j 0 < B
  cell : 0 < len → ∃ ad, a = some ad ∧ ad.block < W.heap.size ∧ ∀ j, j < len → W.cell? (ad.add j) = some (.int k (xs.getD j 0 : Nat))
theorem Nums.turned {W w : World} {k : IntKind} {a : Option Addr} {len B : Nat} {xs : List Nat} (h : Nums W k a len B xs) (t : Turned (fun _ => False) W w) : Nums w k a len B xs where
  length := h.length
  max := h.max
  lt := h.lt
  cell := fun h0 => by
    obtain ⟨ad, e, hb, hc⟩ := h.cell h0
    refine ⟨ad, e, Nat.lt_of_lt_of_le hb t.size, fun j hj => ?_⟩
    rw [World.cell?_of_block (w := W)]
    · exact hc j hj
    · have : (ad.add j).block = ad.block := by unfold Addr.add; split <;> rfl
      rw [this]
      exact t.block _ hb (fun f => f)

theorem open_nums {H : Type} {enc : TypeId × Value → H} {W : World} {a : Option Addr} {t e : TypeId} {k : IntKind} {len cap B : Nat} {d : DataW H} {p : List MemPlace} (ht : Try.prog.underlying t = some (.slice e)) (he : Try.prog.underlying e = some (.int k)) (hc : Try.prog.cellsOf e = 1)
    (hB : ∀ z : Int, (Lit.int k z).wf = true → ∃ n : Nat, z = n ∧ n < B) (hB0 : 0 < B) (h : DataW.Trod enc Try.prog W 0 (fun _ => true) true t (.slice a len cap) d p) : ∃ xs, Nums W k a len B xs := by
  obtain ⟨fuel, hf⟩ := h
  rcases open_ints ht he hc hf with ⟨hcs, _⟩ | ⟨x, l, c, zs, hcs, _, hl, hm, hz, hx, hcell, hwz⟩
  · simp [Value.cells] at hcs
    obtain ⟨rfl, rfl, rfl⟩ := hcs
    exact ⟨[], rfl, by omega, fun j => by simpa using hB0, fun h => by omega⟩
  · simp [Value.cells] at hcs
    obtain ⟨rfl, rfl, rfl⟩ := hcs
    simp only [if_true] at hz
    have hw : ∀ j, j < len → ∃ n : Nat, zs.getD j 0 = n ∧ n < B := fun j hj => by
      have hi2 : j < zs.length := by omega
      exact hB _ (hwz (zs.getD j 0) (by simp [List.getD, List.getElem?_eq_getElem hi2]))
    have hg : ∀ j, j < len → ((zs.take len).map Int.toNat).getD j 0 = (zs.getD j 0).toNat := fun j hj => by
      have hi2 : j < zs.length := by omega
      simp [List.getD, hj, List.getElem?_eq_getElem hi2]
    refine ⟨(zs.take len).map Int.toNat, by simp; omega, by unfold maxLen at hm; omega, fun j => ?_, fun h0 => ⟨x, rfl, ?_, fun j hj => ?_⟩⟩
    · by_cases hj : j < len
      · obtain ⟨n, e1, e2⟩ := hw j hj
        rw [hg j hj, e1]
        simpa using e2
      · rw [List.getD_eq_getElem?_getD, List.getElem?_eq_none (by simp; omega)]
        exact hB0
    · have := World.block_lt_of_cell? W _ (hcell 0 (by omega))
      have e : (x.add 0).block = x.block := by unfold Addr.add; split <;> rfl
      rw [e] at this
      exact this
    · rw [hcell j (by omega), hg j hj]
      obtain ⟨n, e1, e2⟩ := hw j hj
      rw [e1]
      rfl

theorem cells5 : Try.prog.cellsOf 5 = 1 := by kernel_rfl
end Go.Proofs.Ytofhkfbibdkjgaa
