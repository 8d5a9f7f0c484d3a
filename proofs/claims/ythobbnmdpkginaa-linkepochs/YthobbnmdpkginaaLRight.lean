/-
  Is what was taken there a beginning of what was put here, and the other way round? It is.
-/
import Derived.Test.YthobbnmdpkginaaLInv
namespace Go.Proofs.Ythobbnmdpkginaa
open Go.RowKit
set_option linter.unusedVariables false
set_option linter.unusedSimpArgs false

theorem Lst.cell {w : World} {e : TypeId} {ao : Option Addr} {L cap : Nat} {xs : List Value} (h : Lst w e (.slice ao L cap) xs) {j : Nat} {x : Value} (hj : xs[j]? = some x) : ∃ b off, ao = some ⟨b, off, none⟩ ∧ w.cell? ⟨b, off + j, none⟩ = some x := by
  obtain ⟨_, b, off, e, _, hc⟩ := h.2.cell hj
  exact ⟨b, off, e, hc⟩
theorem Dir.same {M N : Nat} {put : List Value} {a : Nat} {x : List Value} {n : Nat} {y g : List Value} {tk : List Px} {o : Nat} (h : Dir M N put a x n y g tk o) {j : Nat} (hj : j < g.length) : ∃ v, g[j]? = some v ∧ put[j]? = some v := by
  refine ⟨g[j], List.getElem?_eq_getElem hj, ?_⟩
  have := congrArg (fun l => l[j]?) h.hg
  simp only [List.getElem?_take, if_pos hj] at this
  rw [← this, List.getElem?_eq_getElem hj]
theorem calls_same {P : Program} {f : Nat} {args : Array Value} {w : World} {v : Value} (h : Calls P f args w fun e w' => e = .returned v ∧ w = w') : Calls P f args w fun e w' => e = .returned v ∧ w' = w := h.mono (fun _ _ h => ⟨h.1, h.2.symm⟩)
/-- All that the call reads. -/
structure Rt (w : World) (q : Nat) (d : Adr) (p : Pl) (o2 o3 o4 o5 : Option Addr) (k2 k3 k4 k5 : Nat) : Prop where
  c0 : w.cell? ⟨q, 0, none⟩ = some (.pointer (some ⟨d.ka, 0, none⟩))
  c1 : w.cell? ⟨q, 1, none⟩ = some (.pointer (some ⟨d.kb, 0, none⟩))
  c2 : w.cell? ⟨q, 2, none⟩ = some (.slice o2 p.pA.length k2)
  c3 : w.cell? ⟨q, 3, none⟩ = some (.slice o3 p.pB.length k3)
  c4 : w.cell? ⟨q, 4, none⟩ = some (.slice o4 p.gA.length k4)
  c5 : w.cell? ⟨q, 5, none⟩ = some (.slice o5 p.gB.length k5)
  l2 : Lst w 9 (.slice o2 p.pA.length k2) p.pA
  l3 : Lst w 3 (.slice o3 p.pB.length k3) p.pB
  l4 : Lst w 3 (.slice o4 p.gA.length k4) p.gA
  l5 : Lst w 9 (.slice o5 p.gB.length k5) p.gB
theorem Wd.rt {w : World} {col : Nat → Nat} {q M N : Nat} {d : Adr} {p : Pl} (h : Wd w col q M N d p) : ∃ o2 o3 o4 o5 k2 k3 k4 k5, Rt w q d p o2 o3 o4 o5 k2 k3 k4 k5 := by
  obtain ⟨o2, k2, e2⟩ := h.shape2
  obtain ⟨o3, k3, e3⟩ := h.shape3
  obtain ⟨o4, k4, e4⟩ := h.shape4
  obtain ⟨o5, k5, e5⟩ := h.shape5
  exact ⟨o2, o3, o4, o5, k2, k3, k4, k5, h.qb.c0, h.qb.c1, e2 ▸ h.qb.c2, e3 ▸ h.qb.c3, e4 ▸ h.qb.c4, e5 ▸ h.qb.c5, e2 ▸ h.list2, e3 ▸ h.list3, e4 ▸ h.list4, e5 ▸ h.list5⟩

set_option maxRecDepth 10000 in
set_option maxHeartbeats 2000000 in
theorem right_any {w : World} {col : Nat → Nat} {q M N : Nat} {d : Adr} {p : Pl} (h : Wd w col q M N d p) (i : Inv M N p) (hl : p.pA.length ≤ 1000 ∧ p.pB.length ≤ 1000) :
    Calls Try.prog 13 #[.pointer (some ⟨q, 0, none⟩)] w fun e w' => e = .returned (.bool true) ∧ ∃ k, w' = w.drewN k := by
  obtain ⟨o2, o3, o4, o5, k2, k3, k4, k5, r⟩ := h.rt
  have hga := i.B.gn
  have hgb := i.A.gn
  have hna := i.B.np
  have hnb := i.A.np
  have haa := i.A.an
  have hab := i.B.an
  have q1 := fun k => calls_same (lackedA_any (w := w.drewN k) (h.lka.still ((Turned.refl _ w).drewN k)))
  have q2 := fun k => calls_same (lgotB_any (w := w.drewN k) (h.lkb.still ((Turned.refl _ w).drewN k)))
  have q3 := fun k => calls_same (lackedB_any (w := w.drewN k) (h.lkb.still ((Turned.refl _ w).drewN k)))
  have q4 := fun k => calls_same (lgotA_any (w := w.drewN k) (h.lka.still ((Turned.refl _ w).drewN k)))
  have HSA : Hid (∀ j, j < p.gA.length → ∃ v, p.gA[j]? = some v ∧ p.pB[j]? = some v) := fun j hj => i.B.same hj
  have HSB : Hid (∀ j, j < p.gB.length → ∃ v, p.gB[j]? = some v ∧ p.pA[j]? = some v) := fun j hj => i.A.same hj
  have HKA : Hid (∀ x ∈ p.pA, Kd 9 x) := i.kA
  have HKB : Hid (∀ x ∈ p.pB, Kd 3 x) := i.kB
  obtain ⟨c0, c1, c2, c3, c4, c5, l2, l3, l4, l5⟩ := r
  have L2 : Hid (Lst w 9 (.slice o2 p.pA.length k2) p.pA) := l2
  have L3 : Hid (Lst w 3 (.slice o3 p.pB.length k3) p.pB) := l3
  have L4 : Hid (Lst w 3 (.slice o4 p.gA.length k4) p.gA) := l4
  have L5 : Hid (Lst w 9 (.slice o5 p.gB.length k5) p.gB) := l5
  have f1 : decide (p.pB.length < p.gA.length) = false := by simp; omega
  have f2 : decide (p.pA.length < p.gB.length) = false := by simp; omega
  have f3 : decide (p.nB < p.aA) = false := by simp; omega
  have f4 : decide (p.nA < p.aB) = false := by simp; omega
  have hlA : p.gA.length ≤ 1000 := by omega
  have hlB : p.gB.length ≤ 1000 := by omega
  obtain ⟨LA, hLA⟩ : ∃ n, n = p.gA.length := ⟨_, rfl⟩
  obtain ⟨LB, hLB⟩ : ∃ n, n = p.gB.length := ⟨_, rfl⟩
  rw [← hLA] at c4 L4 HSA f1 hlA
  rw [← hLB] at c5 L5 HSB f2 hlB
  have hbA : LA ≤ p.pB.length := by omega
  have hbB : LB ≤ p.pA.length := by omega
  clear h i l2 l3 l4 l5 hga hgb hna hnb haa hab hl hLA hLB
  go_enter Try.func13, Try.ntmps13
  go_wp2_with fail
  go_quiet (first | (go_at_call 21; refine Calls.quiet_of_same (q1 _)) | (go_at_call 22; refine Calls.quiet_of_same (q2 _)) | (go_at_call 24; refine Calls.quiet_of_same (q3 _)) | (go_at_call 28; refine Calls.quiet_of_same (q4 _)))
  go_wp2
  clear q1 q2 q3 q4 f1 f2 f3 f4 c0 c1
  go_loopw [3] (fun iv wr => ∃ (j m : Nat), j ≤ LA ∧ iv = .int .i64 j ∧ wr = w.drewN m) (fun iv _ => LA - (intOf iv).toNat)
  case atStart => exact ⟨0, _, by omega, rfl, rfl⟩
  case round =>
    obtain ⟨j, m, hj, rfl, rfl⟩ := hrel
    by_cases hlt : j < LA
    · have hltI : (j : Int) < LA := by omega
      have hltI2 : (j : Int) < p.pB.length := by omega
      obtain ⟨v, hv1, hv2⟩ := HSA.out j hlt
      obtain ⟨z, rfl⟩ := kd_i (HKB.out v (List.mem_of_getElem? hv2))
      obtain ⟨b4, off4, e4, d4⟩ := L4.out.cell hv1
      obtain ⟨b3, off3, e3, d3⟩ := L3.out.cell hv2
      rw [e4] at c4
      rw [e3] at c3
      clear hv1 hv2 e4 e3
      go_wp2_with fail
      go_quiet (fail)
      go_wp2
      go_roundw
      case rel => first | exact ⟨j + 1, _, by omega, by go_num, rfl⟩ | ((repeat apply Exists.intro); exact ⟨⟨j + 1, _, by omega, by go_num, rfl⟩, rfl⟩)
      case measure => simp [intOf]; omega
    · have hltI : ¬ (j : Int) < LA := by omega
      go_wp2
      clear hltI hlt hj
      go_loopw [4] (fun iv wr => ∃ (j m : Nat), j ≤ LB ∧ iv = .int .i64 j ∧ wr = w.drewN m) (fun iv _ => LB - (intOf iv).toNat)
      case atStart => exact ⟨0, _, by omega, rfl, rfl⟩
      case round =>
        obtain ⟨j, m, hj, rfl, rfl⟩ := hrel
        by_cases hlt : j < LB
        · have hltI : (j : Int) < LB := by omega
          have hltI2 : (j : Int) < p.pA.length := by omega
          obtain ⟨v, hv1, hv2⟩ := HSB.out j hlt
          obtain ⟨z, rfl⟩ := kd_s (HKA.out v (List.mem_of_getElem? hv2))
          obtain ⟨b5, off5, e5, d5⟩ := L5.out.cell hv1
          obtain ⟨b2, off2, e2, d2⟩ := L2.out.cell hv2
          rw [e5] at c5
          rw [e2] at c2
          clear hv1 hv2 e5 e2
          go_wp2_with fail
          go_quiet (fail)
          go_wp2
          go_roundw
          case rel => first | exact ⟨j + 1, _, by omega, by go_num, rfl⟩ | ((repeat apply Exists.intro); exact ⟨⟨j + 1, _, by omega, by go_num, rfl⟩, rfl⟩)
          case measure => simp [intOf]; omega
        · have hltI : ¬ (j : Int) < LB := by omega
          go_wp2
          go_ret
          exact ⟨rfl, _, rfl⟩
end Go.Proofs.Ythobbnmdpkginaa
