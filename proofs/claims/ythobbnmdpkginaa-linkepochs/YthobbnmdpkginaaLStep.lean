/-
  Whatever happens: what holds of two ends holds behind it.
-/
import Derived.Test.YthobbnmdpkginaaLInv
import Derived.Test.YthobbnmdpkginaaLPutXA
import Derived.Test.YthobbnmdpkginaaLPutXB
import Derived.Test.YthobbnmdpkginaaLOutXA
import Derived.Test.YthobbnmdpkginaaLOutXB
import Derived.Test.YthobbnmdpkginaaLInXA
import Derived.Test.YthobbnmdpkginaaLInXB
import Derived.Test.YthobbnmdpkginaaLTakeXA
import Derived.Test.YthobbnmdpkginaaLTakeXB
namespace Go.Proofs.Ythobbnmdpkginaa
open Go.RowKit
set_option linter.unusedVariables false
set_option linter.unusedSimpArgs false

theorem wrap_nat (n : Int) : ∃ u : Nat, IntKind.u64.wrap n = (u : Int) := by
  refine ⟨(n % 18446744073709551616).toNat, ?_⟩
  rw [IntKind.wrap_u64]
  omega

theorem act_any {w : World} {col : Nat → Nat} {q M N k : Nat} {d : Adr} {p : Pl} (h : Wd w col q M N d p) (i : Inv M N p) (sz : Sz k p) (hk : k ≤ 900) (kd : Nat) (s : ByteArray) (n : Int) (hkd : kd < 256) :
    Calls Try.prog 12 #[.pointer (some ⟨q, 0, none⟩), .agg #[.int .u8 (kd : Nat), .string s, .int .i64 n]] w fun e w' => e = .returned (.tuple #[]) ∧ ∃ p', Nx col w q M N p' w' ∧ Inv M N p' ∧ Sz (k + 1) p' := by
  have s1 := sz.mono (Nat.le_add_right k 1)
  have hs := i.small sz
  have z1 := sz.pA
  have z2 := sz.pB
  have z3 := sz.tA
  have z4 := sz.tB
  have hc : kd % 9 = 0 ∨ kd % 9 = 1 ∨ kd % 9 = 2 ∨ kd % 9 = 3 ∨ kd % 9 = 4 ∨ kd % 9 = 5 ∨ kd % 9 = 6 ∨ kd % 9 = 7 ∨ kd % 9 = 8 := by omega
  have same : ∀ e w', (e = Ending.returned (.tuple #[]) ∧ Nx col w q M N p w') → e = .returned (.tuple #[]) ∧ ∃ p', Nx col w q M N p' w' ∧ Inv M N p' ∧ Sz (k + 1) p' := fun e w' ⟨h1, h2⟩ => ⟨h1, p, h2, i, s1⟩
  rcases hc with hc | hc | hc | hc | hc | hc | hc | hc | hc
  · by_cases hr : p.xA.length < M
    · refine (act0_any h kd s n hc hkd (by omega) hr).mono ?_
      rintro e w' ⟨rfl, h1⟩
      exact ⟨rfl, _, h1, i.putA _ (kd9 s) hr, ⟨by simp; omega, s1.pB, s1.tA, s1.tB⟩⟩
    · exact (act0_busy h kd s n hc hkd (by have := i.A.xM; omega)).mono same
  · by_cases hr : p.xB.length < M
    · refine (act1_any h kd s n hc hkd (by omega) hr).mono ?_
      rintro e w' ⟨rfl, h1⟩
      exact ⟨rfl, _, h1, i.putB _ (kd3 n) hr, ⟨s1.pA, by simp; omega, s1.tA, s1.tB⟩⟩
    · exact (act1_busy h kd s n hc hkd (by have := i.B.xM; omega)).mono same
  · refine (act2_any h kd s n hc hkd (by omega) i.xA).mono ?_
    rintro e w' ⟨rfl, iv, h1⟩
    exact ⟨rfl, _, h1, i.outA iv, ⟨s1.pA, s1.pB, s1.tA, by simp; omega⟩⟩
  · refine (act3_any h kd s n hc hkd (by omega) i.xB).mono ?_
    rintro e w' ⟨rfl, iv, h1⟩
    exact ⟨rfl, _, h1, i.outB iv, ⟨s1.pA, s1.pB, by simp; omega, s1.tB⟩⟩
  · by_cases h0 : p.tB = []
    · exact (act4_none h kd s n hc hkd h0).mono same
    · have hl : 0 < p.tB.length := List.length_pos_iff.2 h0
      obtain ⟨u, hu⟩ := wrap_nat n
      have hj := Nat.mod_lt u hl
      obtain ⟨x, hx⟩ : ∃ x, p.tB[u % p.tB.length]? = some x := ⟨_, List.getElem?_eq_getElem hj⟩
      have ok := i.A.pk x (List.mem_of_getElem? hx)
      have o2 := i.okB ok
      have := ok.ack
      refine (act4_any h kd s n hc hkd (by omega) _ ⟨u, hu, rfl⟩ x hx o2.1 (by omega) o2.2 (by omega) _ rfl).mono ?_
      rintro e w' ⟨rfl, h1⟩
      exact ⟨rfl, _, h1, i.inB ok _ rfl, ⟨s1.pA, s1.pB, s1.tA, s1.tB⟩⟩
  · by_cases h0 : p.tA = []
    · exact (act5_none h kd s n hc hkd h0).mono same
    · have hl : 0 < p.tA.length := List.length_pos_iff.2 h0
      obtain ⟨u, hu⟩ := wrap_nat n
      have hj := Nat.mod_lt u hl
      obtain ⟨x, hx⟩ : ∃ x, p.tA[u % p.tA.length]? = some x := ⟨_, List.getElem?_eq_getElem hj⟩
      have ok := i.B.pk x (List.mem_of_getElem? hx)
      have o2 := i.okA ok
      have := ok.ack
      refine (act5_any h kd s n hc hkd (by omega) _ ⟨u, hu, rfl⟩ x hx o2.1 (by omega) o2.2 (by omega) _ rfl).mono ?_
      rintro e w' ⟨rfl, h1⟩
      exact ⟨rfl, _, h1, i.inA ok _ rfl, ⟨s1.pA, s1.pB, s1.tA, s1.tB⟩⟩
  · cases hy : p.yA with
    | nil => exact (act6_none h kd s n hc hkd hy).mono same
    | cons y ys =>
      refine (act6_any h kd s n hc hkd (by omega) y ys hy (i.yA y (by rw [hy]; simp))).mono ?_
      rintro e w' ⟨rfl, h1⟩
      exact ⟨rfl, _, h1, i.takeA hy, ⟨s1.pA, s1.pB, s1.tA, s1.tB⟩⟩
  · cases hy : p.yB with
    | nil => exact (act7_none h kd s n hc hkd hy).mono same
    | cons y ys =>
      refine (act7_any h kd s n hc hkd (by omega) y ys hy (i.yB y (by rw [hy]; simp))).mono ?_
      rintro e w' ⟨rfl, h1⟩
      exact ⟨rfl, _, h1, i.takeB hy, ⟨s1.pA, s1.pB, s1.tA, s1.tB⟩⟩
  · cases hx : p.tB with
    | nil => exact (act8_none h kd s n hc hkd hx).mono same
    | cons x r =>
      refine (act8_any h kd s n hc hkd x r hx).mono ?_
      rintro e w' ⟨rfl, h1⟩
      exact ⟨rfl, _, h1, i.dropB hx, ⟨s1.pA, s1.pB, s1.tA, by have := s1.tB; rw [hx] at this; simp at this; show r.length ≤ _; omega⟩⟩
end Go.Proofs.Ythobbnmdpkginaa
