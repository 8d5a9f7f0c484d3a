/-
  In of the end b, whatever packet comes, beside all the rest.
-/
import Derived.Test.YthobbnmdpkginaaLArgs2
import Derived.Test.YthobbnmdpkginaaLInEB
import Derived.Deep.CutRange
import Derived.Deep.CutBlock
namespace Go.Proofs.Ythobbnmdpkginaa
open Go.RowKit
set_option linter.unusedVariables false
set_option linter.unusedSimpArgs false

section
variable {w0 w w' : World} {Z : Nat → Prop} {q ka kb M N : Nat} {p p' : Pl}
/-- What was there ahead of them is none of theirs. -/
theorem Ws.olds (h : Ws w0 w Z q ka kb M N p) : Ws w0 w (fun b => b < w0.heap.size) q ka kb M N p := by
  obtain ⟨col, d, h1, e1, e2, o, hZ⟩ := h
  refine ⟨col, d, h1, e1, e2, o, fun b hb => ⟨?_, Nat.lt_of_lt_of_le hb o.turned.size⟩⟩
  by_cases hc : col b = 0
  · exact hc
  · have := o.foot b hc
    omega
theorem one_slice (ao : Option Addr) (n c : Nat) : One (.slice ao n c) := ⟨rfl, rfl⟩
theorem ws_staleB (h : Ws w0 w Z q ka kb M N p) (un : Nat) (up : Int) (hne : ¬ (un = 4 ∧ up = 2)) (base : Nat) (ao : Option Addr) (n c : Nat) (a : Nat) :
    Calls Try.prog 14 #[.pointer (some ⟨kb, 0, none⟩), .agg #[.int .u64 (un : Nat), .int .i64 up, .int .u64 (base : Nat), .slice ao n c, .int .u64 (a : Nat)]] w fun e w' => e = .returned (.tuple #[.int .i64 0, .int .i64 9]) ∧ Hid (Ws w0 w' Z q ka kb M N p ∧ Turned (fun _ => False) w w') := by
  have hh := h
  obtain ⟨col, d, h1, rfl, rfl, o, hZ⟩ := h
  refine (linB_stale h1.lkb un up hne base _ (one_slice ao n c) a).mono ?_
  rintro e w' ⟨rfl, t⟩
  exact ⟨rfl, hh.still t, t⟩
theorem ws_argB (h : Ws w0 w Z q ka kb M N p) (base : Nat) (ao : Option Addr) (n c : Nat) (a : Nat) (ha : p.aB + min N p.xB.length < a) (ha2 : a < 18446744073709551616) :
    Calls Try.prog 14 #[.pointer (some ⟨kb, 0, none⟩), .agg #[.int .u64 4, .int .i64 2, .int .u64 (base : Nat), .slice ao n c, .int .u64 (a : Nat)]] w fun e w' => e = .returned (.tuple #[.int .i64 0, .int .i64 1]) ∧ Hid (Ws w0 w' Z q ka kb M N p ∧ Turned (fun _ => False) w w') := by
  have hh := h
  obtain ⟨col, d, h1, rfl, rfl, o, hZ⟩ := h
  refine (linB_arg h1.lkb base _ (one_slice ao n c) a ha ha2).mono ?_
  rintro e w' ⟨rfl, t⟩
  exact ⟨rfl, hh.still t, t⟩
theorem ws_baseB (h : Ws w0 w Z q ka kb M N p) (base : Nat) (hb : p.nB < base) (ao : Option Addr) (n c : Nat) (a : Nat) (ha : a ≤ p.aB + min N p.xB.length) (ha2 : a < 18446744073709551616) :
    Calls Try.prog 14 #[.pointer (some ⟨kb, 0, none⟩), .agg #[.int .u64 4, .int .i64 2, .int .u64 (base : Nat), .slice ao n c, .int .u64 (a : Nat)]] w fun e w' => e = .returned (.tuple #[.int .i64 0, .int .i64 1]) ∧ Hid (Ws w0 w' Z q ka kb M N { p with aB := max p.aB a, xB := p.xB.drop (a - p.aB) } ∧ Kep Z w w') := by
  obtain ⟨col, d, h1, rfl, rfl, o, hZ⟩ := h
  refine (linB_base h1.lkb base hb _ (one_slice ao n c) a ha ha2).mono ?_
  rintro e w' ⟨rfl, F', l', g'⟩
  obtain ⟨h2, g2⟩ := h1.goB l' g'
  exact ⟨rfl, Ws.of o hZ h2 g2 rfl rfl⟩
theorem ws_insB (h : Ws w0 w Z q ka kb M N p) (base : Nat) (hb : base ≤ p.nB) (hnx : p.nB ≤ 1000) (ao : Option Addr) (n cap : Nat) (zs : List Value) (hy : Tx w 9 (.slice ao n cap) zs) (hcol : 0 < n → ∀ b, (Value.slice ao n cap).ownBlock = some b → Z b)
    (a : Nat) (ha : a ≤ p.aB + min N p.xB.length) (ha2 : a ≤ 1000) (c : Nat) (hc : c = min (n - (p.nB - base)) (M - p.yB.length)) :
    Calls Try.prog 14 #[.pointer (some ⟨kb, 0, none⟩), .agg #[.int .u64 4, .int .i64 2, .int .u64 (base : Nat), .slice ao n cap, .int .u64 (a : Nat)]] w fun e w' => e = .returned (.tuple #[.int .i64 (c : Nat), .int .i64 0]) ∧
      Hid (Ws w0 w' Z q ka kb M N { p with aB := max p.aB a, xB := p.xB.drop (a - p.aB), nB := p.nB + c, yB := p.yB ++ (zs.drop (p.nB - base)).take c } ∧ Kep Z w w') := by
  obtain ⟨col, d, h1, rfl, rfl, o, hZ⟩ := h
  refine (linB_any h1.lkb base hb (by omega) ao n cap zs hy (fun h0 b hb' hf => by
    have e1 := (hZ b (hcol h0 b hb')).1
    have e2 := (h1.lb (fun f => f)).2 b hf
    rw [e1] at e2
    cases e2) a ha (by omega) c hc).mono ?_
  rintro e w' ⟨rfl, F', l', g'⟩
  obtain ⟨h2, g2⟩ := h1.goB l' g'
  exact ⟨rfl, Ws.of o hZ h2 g2 rfl rfl⟩
theorem Tx.olds {e : TypeId} {ao : Option Addr} {n c : Nat} {xs : List Value} (h : Tx w e (.slice ao n c) xs) : 0 < n → ∀ b, (Value.slice ao n c).ownBlock = some b → b < w.heap.size := by
  intro h0 b hb
  obtain ⟨ao', cap', hv, p1, p2, p3, p4⟩ := h
  obtain ⟨rfl, rfl, rfl⟩ : ao = ao' ∧ n = xs.length ∧ c = cap' := by simpa using hv
  obtain ⟨b', off, rfl, hb', _⟩ := p4 h0
  obtain rfl : b' = b := by simpa [Value.ownBlock] using hb
  exact hb'
theorem Tx.at {e : TypeId} {ao : Option Addr} {n cap : Nat} {xs : List Value} (h : Tx w e (.slice ao n cap) xs) {j : Nat} (hj : j < n) : ∃ b off x, ao = some ⟨b, off, none⟩ ∧ xs[j]? = some x ∧ Kd e x ∧ w.cell? ⟨b, off + j, none⟩ = some x := by
  obtain ⟨ao', cap', hv, h1, h2, h3, h4⟩ := h
  obtain ⟨rfl, rfl, rfl⟩ : ao = ao' ∧ n = xs.length ∧ cap = cap' := by simpa using hv
  obtain ⟨b, off, rfl, hb, hc⟩ := h4 (by omega)
  have hx : xs[j]? = some xs[j] := List.getElem?_eq_getElem hj
  exact ⟨b, off, _, rfl, hx, h3 _ (List.getElem_mem hj), hc j _ hx⟩
/-- A block that is none of theirs is set, while no packet is under way. -/
theorem Ws.alien (h : Ws w0 w Z q ka kb M N p) (hA : p.tA = []) (hB : p.tB = []) (B o : Nat) (v : Value) (hZB : Z B) (hlo : w0.heap.size ≤ B) : Ws w0 (w.setCell ⟨B, o, none⟩ v) Z q ka kb M N p := by
  obtain ⟨col, d, h1, e1, e2, ow, hZ⟩ := h
  have t : Turned (fun b => b = B) w (w.setCell ⟨B, o, none⟩ v) := (Turned.refl (fun b => b = B) w).setCell (p := ⟨B, o, none⟩) (.inl rfl) v
  have hne : ∀ b, col b ≠ 0 → (w.setCell ⟨B, o, none⟩ v).heap[b]? = w.heap[b]? := fun b hb => set_block_other (fun e => hb (by rw [e]; exact (hZ B hZB).1))
  refine ⟨col, d, ?_, e1, e2, ow.on t (fun i hi => by rw [hi]; exact hlo), fun b hb => ⟨(hZ b hb).1, Nat.lt_of_lt_of_le (hZ b hb).2 t.size⟩⟩
  refine ⟨fun x => ?_, fun x => ?_, fun x => ?_, fun x => ?_, fun x => ?_, fun x => ?_, fun x => ?_, fun x => ?_, fun x => ?_⟩
  · obtain ⟨k, e⟩ := h1.q9 x
    exact ⟨k.frame (hne q (by rw [e]; decide)), e⟩
  · obtain ⟨k, e⟩ := h1.la x
    exact ⟨k.frame (fun b hb => hne b (by rw [e b hb]; decide)), e⟩
  · obtain ⟨k, e⟩ := h1.lb x
    exact ⟨k.frame (fun b hb => hne b (by rw [e b hb]; decide)), e⟩
  · obtain ⟨k, e⟩ := h1.r2 x
    exact ⟨k.frame (fun b hb => hne b (by rw [e b hb]; decide)), e⟩
  · obtain ⟨k, e⟩ := h1.r3 x
    exact ⟨k.frame (fun b hb => hne b (by rw [e b hb]; decide)), e⟩
  · obtain ⟨k, e⟩ := h1.r4 x
    exact ⟨k.frame (fun b hb => hne b (by rw [e b hb]; decide)), e⟩
  · obtain ⟨k, e⟩ := h1.r5 x
    exact ⟨k.frame (fun b hb => hne b (by rw [e b hb]; decide)), e⟩
  · obtain ⟨k, e⟩ := h1.r6 x
    exact ⟨⟨k.1.frame (fun b hb => hne b (by rw [e b hb]; decide)), fun y hy => by rw [hA] at hy; cases hy⟩, e⟩
  · obtain ⟨k, e⟩ := h1.r7 x
    exact ⟨⟨k.1.frame (fun b hb => hne b (by rw [e b hb]; decide)), fun y hy => by rw [hB] at hy; cases hy⟩, e⟩
theorem set2_row {B : Nat} {a b c d e x y : Value} {t : TypeId} (h : w.heap[B]? = some (.cells #[a, b, c, d, e] t (0, 0))) : ((w.setCell ⟨B, 0, none⟩ x).setCell ⟨B, 1, none⟩ y).heap[B]? = some (.cells #[x, y, c, d, e] t (0, 0)) := by
  have hlt : B < w.heap.size := by
    rcases Nat.lt_or_ge B w.heap.size with h' | h'
    · exact h'
    · rw [Array.getElem?_eq_none h'] at h; cases h
  rw [Array.getElem?_eq_getElem hlt] at h
  simp only [Option.some.injEq] at h
  simp [World.setCell, Array.getElem_modify, hlt, h]
theorem row_cells {B : Nat} {a b c d e : Value} {t : TypeId} (h : w.heap[B]? = some (.cells #[a, b, c, d, e] t (0, 0))) : w.cell? ⟨B, 0, none⟩ = some a ∧ w.cell? ⟨B, 1, none⟩ = some b ∧ w.cell? ⟨B, 2, none⟩ = some c ∧ w.cell? ⟨B, 3, none⟩ = some d ∧ w.cell? ⟨B, 4, none⟩ = some e ∧ ∀ o, w.frozen? ⟨B, o, none⟩ = false := by
  refine ⟨?_, ?_, ?_, ?_, ?_, fun o => ?_⟩
  all_goals first | (unfold World.cell?; rw [h]; rfl) | (unfold World.frozen?; rw [h]; simp)
end
end Go.Proofs.Ythobbnmdpkginaa
