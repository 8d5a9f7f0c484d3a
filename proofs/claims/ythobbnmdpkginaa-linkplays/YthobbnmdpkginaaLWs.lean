/-
  Two ends of one's own, as the statements see them: Z: blocks that are none of theirs.
-/
import Derived.Test.YthobbnmdpkginaaLBegin
import Derived.Test.YthobbnmdpkginaaLStep
import Derived.Test.YthobbnmdpkginaaLRight
namespace Go.Proofs.Ythobbnmdpkginaa
open Go.RowKit
set_option linter.unusedVariables false
set_option linter.unusedSimpArgs false

def Ws (w0 w : World) (Z : Nat → Prop) (q ka kb M N : Nat) (p : Pl) : Prop :=
  ∃ col d, Wd w col q M N d p ∧ d.ka = ka ∧ d.kb = kb ∧ Own w0 w (fun b => col b ≠ 0) ∧ ∀ b, Z b → col b = 0 ∧ b < w.heap.size
/-- Blocks of Z are as they were. -/
def Kep (Z : Nat → Prop) (w w' : World) : Prop := w.heap.size ≤ w'.heap.size ∧ ∀ b, Z b → w'.heap[b]? = w.heap[b]?
theorem tx_kep {w w' : World} {Z : Nat → Prop} {e : TypeId} {v : Value} {xs : List Value} (h : Tx w e v xs) (k : Kep Z w w') (hZ : ∀ b, v.ownBlock = some b → Z b) : Tx w' e v xs := by
  obtain ⟨ao, cap, rfl, h1, h2, h3, h4⟩ := h
  refine ⟨ao, cap, rfl, h1, h2, h3, fun h0 => ?_⟩
  obtain ⟨b, off, rfl, hb, hc⟩ := h4 h0
  refine ⟨b, off, rfl, Nat.lt_of_lt_of_le hb k.1, fun j x hj => ?_⟩
  rw [cell_block (k.2 b (hZ b rfl))]
  exact hc j x hj
section
variable {w0 w w' : World} {Z : Nat → Prop} {q ka kb M N : Nat} {p p' : Pl}
theorem Ws.turned (h : Ws w0 w Z q ka kb M N p) : Turned (fun _ => False) w0 w := by
  obtain ⟨col, d, h1, _, _, o, _⟩ := h
  exact o.turned
theorem Ws.below (h : Ws w0 w Z q ka kb M N p) : Below w0.heap.size w0 w := by
  obtain ⟨col, d, h1, _, _, o, _⟩ := h
  exact o.below
theorem Ws.of {col col' : Nat → Nat} {d' : Adr} (o : Own w0 w (fun b => col b ≠ 0)) (hZ : ∀ b, Z b → col b = 0 ∧ b < w.heap.size) (h : Wd w' col' q M N d' p') (g : Gn col w col' w') (ea : d'.ka = ka) (eb : d'.kb = kb) : Ws w0 w' Z q ka kb M N p' ∧ Kep Z w w' :=
  ⟨⟨col', d', h, ea, eb, o.goes g.goes, fun b hb => ⟨(g.old b (hZ b hb).2).trans (hZ b hb).1, Nat.lt_of_lt_of_le (hZ b hb).2 g.turned.size⟩⟩, ⟨g.turned.size, fun b hb => g.block (hZ b hb).2 (hZ b hb).1⟩⟩
theorem Ws.still (h : Ws w0 w Z q ka kb M N p) (t : Turned (fun _ => False) w w') : Ws w0 w' Z q ka kb M N p := by
  obtain ⟨col, d, h1, rfl, rfl, o, hZ⟩ := h
  obtain ⟨h2, g2⟩ := h1.still t
  exact (Ws.of o hZ h2 g2 rfl rfl).1
theorem Ws.behind {w1 : World} (t : Turned (fun _ => False) w1 w0) (h : Ws w0 w Z q ka kb M N p) : Ws w1 w Z q ka kb M N p := by
  obtain ⟨col, d, h1, e1, e2, o, hZ⟩ := h
  exact ⟨col, d, h1, e1, e2, o.behind t, hZ⟩
/-- What is new is none of theirs. -/
theorem Ws.more (h : Ws w0 w Z q ka kb M N p) (t : Turned (fun _ => False) w w') (Y : Nat → Prop) (hY : ∀ b, Y b → w.heap.size ≤ b ∧ b < w'.heap.size) : Ws w0 w' (fun b => Z b ∨ Y b) q ka kb M N p := by
  obtain ⟨col, d, h1, rfl, rfl, o, hZ⟩ := h
  obtain ⟨h2, g2⟩ := h1.still t
  refine ⟨_, d, h2, rfl, rfl, o.goes g2.goes, fun b hb => ?_⟩
  rcases hb with hb | hb
  · exact ⟨(g2.old b (hZ b hb).2).trans (hZ b hb).1, Nat.lt_of_lt_of_le (hZ b hb).2 g2.turned.size⟩
  · exact ⟨if_neg (by have := hY b hb; omega), (hY b hb).2⟩
theorem Ws.less (h : Ws w0 w Z q ka kb M N p) (Y : Nat → Prop) (hY : ∀ b, Y b → Z b) : Ws w0 w Y q ka kb M N p := by
  obtain ⟨col, d, h1, e1, e2, o, hZ⟩ := h
  exact ⟨col, d, h1, e1, e2, o, fun b hb => hZ b (hY b hb)⟩
theorem Ws.c0 (h : Ws w0 w Z q ka kb M N p) : w.cell? ⟨q, 0, none⟩ = some (.pointer (some ⟨ka, 0, none⟩)) := by
  obtain ⟨col, d, h1, rfl, rfl, _⟩ := h
  exact h1.qb.c0
theorem Ws.c1 (h : Ws w0 w Z q ka kb M N p) : w.cell? ⟨q, 1, none⟩ = some (.pointer (some ⟨kb, 0, none⟩)) := by
  obtain ⟨col, d, h1, rfl, rfl, _⟩ := h
  exact h1.qb.c1
theorem Ws.c2 (h : Ws w0 w Z q ka kb M N p) : ∃ ao cap, w.cell? ⟨q, 2, none⟩ = some (.slice ao p.pA.length cap) := by
  obtain ⟨col, d, h1, rfl, rfl, _⟩ := h
  obtain ⟨ao, cap, e⟩ := h1.shape2
  exact ⟨ao, cap, e ▸ h1.qb.c2⟩
theorem Ws.c3 (h : Ws w0 w Z q ka kb M N p) : ∃ ao cap, w.cell? ⟨q, 3, none⟩ = some (.slice ao p.pB.length cap) := by
  obtain ⟨col, d, h1, rfl, rfl, _⟩ := h
  obtain ⟨ao, cap, e⟩ := h1.shape3
  exact ⟨ao, cap, e ▸ h1.qb.c3⟩
theorem Ws.c4 (h : Ws w0 w Z q ka kb M N p) : ∃ ao cap, w.cell? ⟨q, 4, none⟩ = some (.slice ao p.gA.length cap) := by
  obtain ⟨col, d, h1, rfl, rfl, _⟩ := h
  obtain ⟨ao, cap, e⟩ := h1.shape4
  exact ⟨ao, cap, e ▸ h1.qb.c4⟩
theorem Ws.c5 (h : Ws w0 w Z q ka kb M N p) : ∃ ao cap, w.cell? ⟨q, 5, none⟩ = some (.slice ao p.gB.length cap) := by
  obtain ⟨col, d, h1, rfl, rfl, _⟩ := h
  obtain ⟨ao, cap, e⟩ := h1.shape5
  exact ⟨ao, cap, e ▸ h1.qb.c5⟩
theorem ws_begin (w : World) (most win : Nat) (h1 : most < 256) (h2 : win < 256) (M N : Nat) (hM : M = 1 + most % 12) (hN : N = 1 + win % 8) :
    Calls Try.prog 11 #[.int .u8 (most : Nat), .int .u8 (win : Nat)] w fun e w' => ∃ q ka kb, e = .returned (.pointer (some ⟨q, 0, none⟩)) ∧ Ws w w' (fun _ => False) q ka kb M N .zero :=
  (begin_any w most win h1 h2 M N hM hN).mono (by
    rintro e w' ⟨q, col, d, rfl, h, o⟩
    exact ⟨q, d.ka, d.kb, rfl, col, d, h, rfl, rfl, o, fun _ f => f.elim⟩)
theorem ws_putA (h : Ws w0 w Z q ka kb M N p) (hr : p.xA.length < M) (x : Value) (hx : One x) : Calls Try.prog 27 #[.pointer (some ⟨ka, 0, none⟩), x] w fun e w' => e = .returned (.int .i64 0) ∧ Hid (Ws w0 w' Z q ka kb M N { p with xA := p.xA ++ [x] } ∧ Kep Z w w') := by
  obtain ⟨col, d, h1, rfl, rfl, o, hZ⟩ := h
  refine (lputA_any h1.lka hr x hx).mono ?_
  rintro e w' ⟨rfl, F', l', g'⟩
  obtain ⟨h2, g2⟩ := h1.goA l' g'
  exact ⟨rfl, Ws.of o hZ h2 g2 rfl rfl⟩
theorem ws_takeA {y : Value} {ys : List Value} (h : Ws w0 w Z q ka kb M N p) (hy : p.yA = y :: ys) : Calls Try.prog 26 #[.pointer (some ⟨ka, 0, none⟩)] w fun e w' => e = .returned (.tuple #[y, .int .i64 0]) ∧ Hid (Ws w0 w' Z q ka kb M N { p with yA := ys } ∧ Kep Z w w') := by
  obtain ⟨col, d, h1, rfl, rfl, o, hZ⟩ := h
  have hl := h1.lka
  rw [hy] at hl
  refine (ltakeA_any hl).mono ?_
  rintro e w' ⟨rfl, F', l', g'⟩
  obtain ⟨h2, g2⟩ := h1.goA l' g'
  exact ⟨rfl, Ws.of o hZ h2 g2 rfl rfl⟩
theorem ws_ackedA (h : Ws w0 w Z q ka kb M N p) : Calls Try.prog 21 #[.pointer (some ⟨ka, 0, none⟩)] w fun e w' => e = .returned (.int .u64 (p.aA : Nat)) ∧ w = w' := by
  obtain ⟨col, d, h1, rfl, rfl, o, hZ⟩ := h
  exact lackedA_any h1.lka
theorem ws_gotA (h : Ws w0 w Z q ka kb M N p) : Calls Try.prog 28 #[.pointer (some ⟨ka, 0, none⟩)] w fun e w' => e = .returned (.int .u64 (p.nA : Nat)) ∧ w = w' := by
  obtain ⟨col, d, h1, rfl, rfl, o, hZ⟩ := h
  exact lgotA_any h1.lka
theorem ws_idleA (h : Ws w0 w Z q ka kb M N p) (hx : p.xA = []) : Calls Try.prog 18 #[.pointer (some ⟨ka, 0, none⟩)] w fun e w' => e = .returned (.bool true) ∧ w = w' := by
  obtain ⟨col, d, h1, rfl, rfl, o, hZ⟩ := h
  have hl := h1.lka
  rw [hx] at hl
  exact lidleA_true hl
theorem ws_outA (h : Ws w0 w Z q ka kb M N p) (hk : ∀ x ∈ p.xA, Kd 9 x) : Calls Try.prog 15 #[.pointer (some ⟨ka, 0, none⟩)] w fun e w' => ∃ ao n cap, e = .returned (.agg #[.int .u64 4, .int .i64 2, .int .u64 (p.aA : Nat), .slice ao n cap, .int .u64 (p.nA : Nat)]) ∧ Hid (n = min N p.xA.length) ∧
      Hid (Ws w0 w' (fun b => Z b ∨ (Value.slice ao n cap).ownBlock = some b) q ka kb M N p ∧ Tx w' 9 (.slice ao n cap) (p.xA.take N) ∧ Kep Z w w' ∧ Turned (fun _ => False) w w') := by
  obtain ⟨col, d, h1, rfl, rfl, o, hZ⟩ := h
  refine (wdoutA h1 hk).mono ?_
  rintro e w' ⟨ao, n, cap, rfl, hn, HH⟩
  obtain ⟨col', h2, g2, t2, b2, tt⟩ := HH.out
  refine ⟨ao, n, cap, rfl, hn, ⟨col', d, h2, rfl, rfl, o.goes g2.goes, fun b hb => ?_⟩, t2, ⟨g2.turned.size, fun b hb => g2.block (hZ b hb).2 (hZ b hb).1⟩, tt⟩
  rcases hb with hb | hb
  · exact ⟨(g2.old b (hZ b hb).2).trans (hZ b hb).1, Nat.lt_of_lt_of_le (hZ b hb).2 g2.turned.size⟩
  · exact b2 b hb
theorem ws_inA (h : Ws w0 w Z q ka kb M N p) (base : Nat) (hb : base ≤ p.nA) (hnx : p.nA ≤ 1000) (ao : Option Addr) (n cap : Nat) (zs : List Value) (hy : Tx w 3 (.slice ao n cap) zs) (hcol : ∀ b, (Value.slice ao n cap).ownBlock = some b → Z b)
    (a : Nat) (ha : a ≤ p.aA + min N p.xA.length) (ha2 : a ≤ 1000) (c : Nat) (hc : c = min (zs.length - (p.nA - base)) (M - p.yA.length)) :
    Calls Try.prog 16 #[.pointer (some ⟨ka, 0, none⟩), .agg #[.int .u64 4, .int .i64 2, .int .u64 (base : Nat), .slice ao n cap, .int .u64 (a : Nat)]] w fun e w' => e = .returned (.tuple #[.int .i64 (c : Nat), .int .i64 0]) ∧
      Hid (Ws w0 w' Z q ka kb M N { p with aA := max p.aA a, xA := p.xA.drop (a - p.aA), nA := p.nA + c, yA := p.yA ++ (zs.drop (p.nA - base)).take c } ∧ Kep Z w w') := by
  obtain ⟨col, d, h1, rfl, rfl, o, hZ⟩ := h
  refine (wdinA h1 base hb hnx ao n cap zs hy (fun b hb => (hZ b (hcol b hb)).1) a ha ha2 c hc).mono ?_
  rintro e w' ⟨rfl, HH⟩
  obtain ⟨F', h2, g2⟩ := HH.out
  exact ⟨rfl, Ws.of o hZ h2 g2 rfl rfl⟩
theorem ws_putB (h : Ws w0 w Z q ka kb M N p) (hr : p.xB.length < M) (x : Value) (hx : One x) : Calls Try.prog 23 #[.pointer (some ⟨kb, 0, none⟩), x] w fun e w' => e = .returned (.int .i64 0) ∧ Hid (Ws w0 w' Z q ka kb M N { p with xB := p.xB ++ [x] } ∧ Kep Z w w') := by
  obtain ⟨col, d, h1, rfl, rfl, o, hZ⟩ := h
  refine (lputB_any h1.lkb hr x hx).mono ?_
  rintro e w' ⟨rfl, F', l', g'⟩
  obtain ⟨h2, g2⟩ := h1.goB l' g'
  exact ⟨rfl, Ws.of o hZ h2 g2 rfl rfl⟩
theorem ws_takeB {y : Value} {ys : List Value} (h : Ws w0 w Z q ka kb M N p) (hy : p.yB = y :: ys) : Calls Try.prog 29 #[.pointer (some ⟨kb, 0, none⟩)] w fun e w' => e = .returned (.tuple #[y, .int .i64 0]) ∧ Hid (Ws w0 w' Z q ka kb M N { p with yB := ys } ∧ Kep Z w w') := by
  obtain ⟨col, d, h1, rfl, rfl, o, hZ⟩ := h
  have hl := h1.lkb
  rw [hy] at hl
  refine (ltakeB_any hl).mono ?_
  rintro e w' ⟨rfl, F', l', g'⟩
  obtain ⟨h2, g2⟩ := h1.goB l' g'
  exact ⟨rfl, Ws.of o hZ h2 g2 rfl rfl⟩
theorem ws_ackedB (h : Ws w0 w Z q ka kb M N p) : Calls Try.prog 24 #[.pointer (some ⟨kb, 0, none⟩)] w fun e w' => e = .returned (.int .u64 (p.aB : Nat)) ∧ w = w' := by
  obtain ⟨col, d, h1, rfl, rfl, o, hZ⟩ := h
  exact lackedB_any h1.lkb
theorem ws_gotB (h : Ws w0 w Z q ka kb M N p) : Calls Try.prog 22 #[.pointer (some ⟨kb, 0, none⟩)] w fun e w' => e = .returned (.int .u64 (p.nB : Nat)) ∧ w = w' := by
  obtain ⟨col, d, h1, rfl, rfl, o, hZ⟩ := h
  exact lgotB_any h1.lkb
theorem ws_idleB (h : Ws w0 w Z q ka kb M N p) (hx : p.xB = []) : Calls Try.prog 19 #[.pointer (some ⟨kb, 0, none⟩)] w fun e w' => e = .returned (.bool true) ∧ w = w' := by
  obtain ⟨col, d, h1, rfl, rfl, o, hZ⟩ := h
  have hl := h1.lkb
  rw [hx] at hl
  exact lidleB_true hl
theorem ws_outB (h : Ws w0 w Z q ka kb M N p) (hk : ∀ x ∈ p.xB, Kd 3 x) : Calls Try.prog 17 #[.pointer (some ⟨kb, 0, none⟩)] w fun e w' => ∃ ao n cap, e = .returned (.agg #[.int .u64 4, .int .i64 2, .int .u64 (p.aB : Nat), .slice ao n cap, .int .u64 (p.nB : Nat)]) ∧ Hid (n = min N p.xB.length) ∧
      Hid (Ws w0 w' (fun b => Z b ∨ (Value.slice ao n cap).ownBlock = some b) q ka kb M N p ∧ Tx w' 3 (.slice ao n cap) (p.xB.take N) ∧ Kep Z w w' ∧ Turned (fun _ => False) w w') := by
  obtain ⟨col, d, h1, rfl, rfl, o, hZ⟩ := h
  refine (wdoutB h1 hk).mono ?_
  rintro e w' ⟨ao, n, cap, rfl, hn, HH⟩
  obtain ⟨col', h2, g2, t2, b2, tt⟩ := HH.out
  refine ⟨ao, n, cap, rfl, hn, ⟨col', d, h2, rfl, rfl, o.goes g2.goes, fun b hb => ?_⟩, t2, ⟨g2.turned.size, fun b hb => g2.block (hZ b hb).2 (hZ b hb).1⟩, tt⟩
  rcases hb with hb | hb
  · exact ⟨(g2.old b (hZ b hb).2).trans (hZ b hb).1, Nat.lt_of_lt_of_le (hZ b hb).2 g2.turned.size⟩
  · exact b2 b hb
theorem ws_inB (h : Ws w0 w Z q ka kb M N p) (base : Nat) (hb : base ≤ p.nB) (hnx : p.nB ≤ 1000) (ao : Option Addr) (n cap : Nat) (zs : List Value) (hy : Tx w 9 (.slice ao n cap) zs) (hcol : ∀ b, (Value.slice ao n cap).ownBlock = some b → Z b)
    (a : Nat) (ha : a ≤ p.aB + min N p.xB.length) (ha2 : a ≤ 1000) (c : Nat) (hc : c = min (zs.length - (p.nB - base)) (M - p.yB.length)) :
    Calls Try.prog 14 #[.pointer (some ⟨kb, 0, none⟩), .agg #[.int .u64 4, .int .i64 2, .int .u64 (base : Nat), .slice ao n cap, .int .u64 (a : Nat)]] w fun e w' => e = .returned (.tuple #[.int .i64 (c : Nat), .int .i64 0]) ∧
      Hid (Ws w0 w' Z q ka kb M N { p with aB := max p.aB a, xB := p.xB.drop (a - p.aB), nB := p.nB + c, yB := p.yB ++ (zs.drop (p.nB - base)).take c } ∧ Kep Z w w') := by
  obtain ⟨col, d, h1, rfl, rfl, o, hZ⟩ := h
  refine (wdinB h1 base hb hnx ao n cap zs hy (fun b hb => (hZ b (hcol b hb)).1) a ha ha2 c hc).mono ?_
  rintro e w' ⟨rfl, HH⟩
  obtain ⟨F', h2, g2⟩ := HH.out
  exact ⟨rfl, Ws.of o hZ h2 g2 rfl rfl⟩
theorem ws_roomA (h : Ws w0 w Z q ka kb M N p) : Calls Try.prog 20 #[.pointer (some ⟨ka, 0, none⟩)] w fun e w' => e = .returned (.int .i64 ((M : Int) - p.xA.length)) ∧ ∃ k, w' = w.drewN k := by
  obtain ⟨col, d, h1, rfl, rfl, o, hZ⟩ := h
  exact lroomA_any h1.lka
theorem ws_right (h : Ws w0 w Z q ka kb M N p) (i : Inv M N p) (hl : p.pA.length ≤ 1000 ∧ p.pB.length ≤ 1000) : Calls Try.prog 13 #[.pointer (some ⟨q, 0, none⟩)] w fun e w' => e = .returned (.bool true) ∧ ∃ k, w' = w.drewN k := by
  obtain ⟨col, d, h1, rfl, rfl, o, hZ⟩ := h
  exact right_any h1 i hl
theorem nx_ws {col : Nat → Nat} {d : Adr} (h1 : Wd w col q M N d p) (o : Own w0 w (fun b => col b ≠ 0)) (hZ : ∀ b, Z b → col b = 0 ∧ b < w.heap.size) (h : Nx col w q M N p' w') : ∃ ka kb, Ws w0 w' Z q ka kb M N p' ∧ Kep Z w w' := by
  obtain ⟨col', d', h2, g2⟩ := h
  exact ⟨_, _, Ws.of o hZ h2 g2 rfl rfl⟩
end
end Go.Proofs.Ythobbnmdpkginaa
