/-
  Packets go to and fro, and all that has come is taken: in each round one more comes, where there is one.
-/
import Derived.Test.YthobbnmdpkginaaLArgs
namespace Go.Proofs.Ythobbnmdpkginaa
open Go.RowKit
set_option linter.unusedVariables false
set_option linter.unusedSimpArgs false

/-- How far it is behind r rounds. -/
structure Rd (A B : List Value) (r : Nat) (p : Pl) : Prop where
  pA : p.pA = A
  pB : p.pB = B
  ys : 1 ≤ r → p.yA = [] ∧ p.yB = [] ∧ p.aA = p.nB
  nB : min A.length (r - 1) ≤ p.nB
  nA : min B.length (r - 1) ≤ p.nA
  aB : min B.length (r - 2) ≤ p.aB
/-- What a take leaves as it was. -/
structure Tk (p p' : Pl) : Prop where
  pA : p'.pA = p.pA
  pB : p'.pB = p.pB
  aA : p'.aA = p.aA
  aB : p'.aB = p.aB
  nA : p'.nA = p.nA
  nB : p'.nB = p.nB
theorem Tk.refl (p : Pl) : Tk p p := ⟨rfl, rfl, rfl, rfl, rfl, rfl⟩
theorem Tk.trans {p q r : Pl} (h : Tk p q) (k : Tk q r) : Tk p r := ⟨k.pA.trans h.pA, k.pB.trans h.pB, k.aA.trans h.aA, k.aB.trans h.aB, k.nA.trans h.nA, k.nB.trans h.nB⟩
section
variable {M N k : Nat} {p : Pl} {w0 w : World} {Z : Nat → Prop} {q ka kb : Nat}
theorem ws_t6 (h : Ws w0 w Z q ka kb M N p) (inv : Inv M N p) (sz : Sz k p) (hk : k ≤ 900) : Calls Try.prog 12 #[.pointer (some ⟨q, 0, none⟩), .agg #[.int .u8 6, .string ⟨#[]⟩, .int .i64 0]] w fun e w' => e = .returned (.tuple #[]) ∧ ∃ ka' kb' p', Ws w0 w' Z q ka' kb' M N p' ∧ Inv M N p' ∧ Sz k p' ∧ Tk p p' ∧ p'.yA.length ≤ p.yA.length - 1 ∧ p'.yB.length = p.yB.length := by
  have hs := inv.small sz
  have hh := h
  obtain ⟨col, d, h1, e1, e2, o, hZ⟩ := h
  cases hy : p.yA with
  | nil =>
    refine (act6_none h1 6 ⟨#[]⟩ 0 (by omega) (by omega) hy).mono ?_
    rintro e w' ⟨rfl, n1⟩
    obtain ⟨ka', kb', h2, k2⟩ := nx_ws h1 o hZ n1
    exact ⟨rfl, ka', kb', p, h2, inv, sz, Tk.refl p, by rw [hy]; simp, rfl⟩
  | cons y ys =>
    refine (act6_any h1 6 ⟨#[]⟩ 0 (by omega) (by omega) (by omega) y ys hy (inv.yA y (by rw [hy]; simp))).mono ?_
    rintro e w' ⟨rfl, n1⟩
    obtain ⟨ka', kb', h2, k2⟩ := nx_ws h1 o hZ n1
    exact ⟨rfl, ka', kb', _, h2, inv.takeA hy, ⟨sz.pA, sz.pB, sz.tA, sz.tB⟩, ⟨rfl, rfl, rfl, rfl, rfl, rfl⟩, by simp, rfl⟩
theorem ws_t7 (h : Ws w0 w Z q ka kb M N p) (inv : Inv M N p) (sz : Sz k p) (hk : k ≤ 900) : Calls Try.prog 12 #[.pointer (some ⟨q, 0, none⟩), .agg #[.int .u8 7, .string ⟨#[]⟩, .int .i64 0]] w fun e w' => e = .returned (.tuple #[]) ∧ ∃ ka' kb' p', Ws w0 w' Z q ka' kb' M N p' ∧ Inv M N p' ∧ Sz k p' ∧ Tk p p' ∧ p'.yB.length ≤ p.yB.length - 1 ∧ p'.yA.length = p.yA.length := by
  have hs := inv.small sz
  have hh := h
  obtain ⟨col, d, h1, e1, e2, o, hZ⟩ := h
  cases hy : p.yB with
  | nil =>
    refine (act7_none h1 7 ⟨#[]⟩ 0 (by omega) (by omega) hy).mono ?_
    rintro e w' ⟨rfl, n1⟩
    obtain ⟨ka', kb', h2, k2⟩ := nx_ws h1 o hZ n1
    exact ⟨rfl, ka', kb', p, h2, inv, sz, Tk.refl p, by rw [hy]; simp, rfl⟩
  | cons y ys =>
    refine (act7_any h1 7 ⟨#[]⟩ 0 (by omega) (by omega) (by omega) y ys hy (inv.yB y (by rw [hy]; simp))).mono ?_
    rintro e w' ⟨rfl, n1⟩
    obtain ⟨ka', kb', h2, k2⟩ := nx_ws h1 o hZ n1
    exact ⟨rfl, ka', kb', _, h2, inv.takeB hy, ⟨sz.pA, sz.pB, sz.tA, sz.tB⟩, ⟨rfl, rfl, rfl, rfl, rfl, rfl⟩, by simp, rfl⟩
/-- A packet goes from the one end to the other. -/
theorem hopAB (inv : Inv M N p) (sz : Sz k p) (hk : k ≤ 900) (w0 : World) (q ka kb : Nat) :
    ∃ (c : Nat) (p1 : Pl), Inv M N p1 ∧ Sz k p1 ∧ p1.pA = p.pA ∧ p1.pB = p.pB ∧ p1.aA = p.aA ∧ p1.nA = p.nA ∧ p1.yA = p.yA ∧ p1.aB = p.nA ∧ p1.nB = p.nB + c ∧ c = min (min N p.xA.length - (p.nB - p.aA)) (M - p.yB.length) ∧
      (∀ w Z ao n cap, Ws w0 w Z q ka kb M N p → Tx w 9 (.slice ao n cap) (p.xA.take N) → (∀ b, (Value.slice ao n cap).ownBlock = some b → Z b) → Calls Try.prog 14 #[.pointer (some ⟨kb, 0, none⟩), .agg #[.int .u64 4, .int .i64 2, .int .u64 (p.aA : Nat), .slice ao n cap, .int .u64 (p.nA : Nat)]] w fun e w' => e = .returned (.tuple #[.int .i64 (c : Nat), .int .i64 0]) ∧ Hid (Ws w0 w' Z q ka kb M N p1)) := by
  have hs := inv.small sz
  have ok := inv.A.pok (.slice none 0 0)
  have o1 := inv.okB ok
  obtain ⟨c, hc⟩ : ∃ c, c = min ((p.xA.take N).length - (p.nB - p.aA)) (M - p.yB.length) := ⟨_, rfl⟩
  refine ⟨c, _, inv.inB ok c hc, ⟨sz.pA, sz.pB, sz.tA, sz.tB⟩, rfl, rfl, rfl, rfl, rfl, Nat.max_eq_right inv.B.an, rfl, by rw [← List.length_take]; exact hc, fun w Z ao n cap h ht hZ => ?_⟩
  exact (ws_inB h p.aA o1.1 (by omega) ao n cap _ ht hZ p.nA o1.2 (by omega) c hc).mono (fun e w' ⟨h1, h2⟩ => ⟨h1, h2.out.1⟩)
theorem hopBA (inv : Inv M N p) (sz : Sz k p) (hk : k ≤ 900) (w0 : World) (q ka kb : Nat) :
    ∃ (c : Nat) (p1 : Pl), Inv M N p1 ∧ Sz k p1 ∧ p1.pA = p.pA ∧ p1.pB = p.pB ∧ p1.aB = p.aB ∧ p1.nB = p.nB ∧ p1.aA = p.nB ∧ p1.nA = p.nA + c ∧ c = min (min N p.xB.length - (p.nA - p.aB)) (M - p.yA.length) ∧
      (∀ w Z ao n cap, Ws w0 w Z q ka kb M N p → Tx w 3 (.slice ao n cap) (p.xB.take N) → (∀ b, (Value.slice ao n cap).ownBlock = some b → Z b) → Calls Try.prog 16 #[.pointer (some ⟨ka, 0, none⟩), .agg #[.int .u64 4, .int .i64 2, .int .u64 (p.aB : Nat), .slice ao n cap, .int .u64 (p.nB : Nat)]] w fun e w' => e = .returned (.tuple #[.int .i64 (c : Nat), .int .i64 0]) ∧ Hid (Ws w0 w' Z q ka kb M N p1)) := by
  have hs := inv.small sz
  have ok := inv.B.pok (.slice none 0 0)
  have o1 := inv.okA ok
  obtain ⟨c, hc⟩ : ∃ c, c = min ((p.xB.take N).length - (p.nA - p.aB)) (M - p.yA.length) := ⟨_, rfl⟩
  refine ⟨c, _, inv.inA ok c hc, ⟨sz.pA, sz.pB, sz.tA, sz.tB⟩, rfl, rfl, rfl, rfl, Nat.max_eq_right inv.A.an, rfl, by rw [← List.length_take]; exact hc, fun w Z ao n cap h ht hZ => ?_⟩
  exact (ws_inA h p.aB o1.1 (by omega) ao n cap _ ht hZ p.nB o1.2 (by omega) c hc).mono (fun e w' ⟨h1, h2⟩ => ⟨h1, h2.out.1⟩)
theorem step_num {L r n X N M c : Nat} (h0 : 0 < r) (e : n + X = L) (m1 : 1 ≤ M) (n1 : 1 ≤ N) (r1 : min L (r - 1) ≤ n) (hc : c = min (min N X) M) : min L (r + 1 - 1) ≤ n + c := by
  by_cases hX : X = 0
  · omega
  · have : 1 ≤ c := by rw [hc]; omega
    clear hc
    omega
/-- One round more. -/
theorem Rd.step {A B : List Value} {r c1 c2 : Nat} {p1 p2 p3 : Pl} (inv : Inv M N p) (rd : Rd A B r p) (i1 : Inv M N p1)
    (a1 : p1.pA = p.pA) (a2 : p1.pB = p.pB) (a3 : p1.aA = p.aA) (a4 : p1.nA = p.nA) (a5 : p1.yA = p.yA) (a6 : p1.aB = p.nA) (a7 : p1.nB = p.nB + c1) (a8 : c1 = min (min N p.xA.length - (p.nB - p.aA)) (M - p.yB.length))
    (b1 : p2.pA = p1.pA) (b2 : p2.pB = p1.pB) (b3 : p2.aB = p1.aB) (b4 : p2.nB = p1.nB) (b5 : p2.aA = p1.nB) (b6 : p2.nA = p1.nA + c2) (b7 : c2 = min (min N p1.xB.length - (p1.nA - p1.aB)) (M - p1.yA.length))
    (t : Tk p2 p3) (y1 : p3.yA = []) (y2 : p3.yB = []) : Rd A B (r + 1) p3 := by
  have e1 := inv.A.xl
  have e2 := i1.B.xl
  have m1 := inv.M1
  have n1 := inv.N1
  have lA : p.pA.length = A.length := by rw [rd.pA]
  have lB : p1.pB.length = B.length := by rw [a2, rd.pB]
  refine ⟨by rw [t.pA, b1, a1, rd.pA], by rw [t.pB, b2, a2, rd.pB], fun _ => ⟨y1, y2, by rw [t.aA, t.nB, b5, b4]⟩, ?_, ?_, ?_⟩
  · rw [t.nB, b4, a7]
    rcases Nat.eq_zero_or_pos r with h0 | h0
    · subst h0; simp
    · obtain ⟨z1, z2, z3⟩ := rd.ys h0
      rw [z2, z3, Nat.sub_self, Nat.sub_zero] at a8
      rw [z3] at e1
      exact step_num h0 (e1.trans lA) m1 n1 rd.nB (by simpa using a8)
  · rw [t.nA, b6, a4]
    rcases Nat.eq_zero_or_pos r with h0 | h0
    · subst h0; simp
    · obtain ⟨z1, z2, z3⟩ := rd.ys h0
      rw [a5, z1, a6, a4, Nat.sub_self, Nat.sub_zero] at b7
      rw [a6] at e2
      exact step_num h0 (e2.trans lB) m1 n1 rd.nA (by simpa using b7)
  · rw [t.aB, b3, a6]
    exact rd.nA
/-- Behind so many rounds all is there. -/
theorem Rd.ends {A B : List Value} {r : Nat} (inv : Inv M N p) (rd : Rd A B r p) (h : 2 * (A.length + B.length) + 2 ≤ r) : p.xA = [] ∧ p.xB = [] ∧ p.gA.length = p.pB.length ∧ p.gB.length = p.pA.length := by
  obtain ⟨z1, z2, z3⟩ := rd.ys (by omega)
  have r1 := rd.nB
  have r2 := rd.nA
  have r3 := rd.aB
  have e1 := inv.A.xl
  have e2 := inv.B.xl
  have y1 := inv.A.yl
  have y2 := inv.B.yl
  have n1 := inv.A.np
  have n2 := inv.B.np
  have n3 := inv.B.an
  have lA : p.pA.length = A.length := by rw [rd.pA]
  have lB : p.pB.length = B.length := by rw [rd.pB]
  rw [z2] at y1
  rw [z1] at y2
  simp only [List.length_nil] at y1 y2
  refine ⟨List.length_eq_zero_iff.1 (by omega), List.length_eq_zero_iff.1 (by omega), by omega, by omega⟩
end
end Go.Proofs.Ythobbnmdpkginaa
