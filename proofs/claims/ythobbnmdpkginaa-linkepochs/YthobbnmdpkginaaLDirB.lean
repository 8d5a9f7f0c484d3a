/-
  Out and In of an end, beside all the rest.
-/
import Derived.Test.YthobbnmdpkginaaLInv
namespace Go.Proofs.Ythobbnmdpkginaa
open Go.RowKit
set_option linter.unusedVariables false
set_option linter.unusedSimpArgs false

section
variable {w : World} {col : Nat → Nat} {q M N : Nat} {d : Adr} {p : Pl}
theorem wdoutB (h : Wd w col q M N d p) (hk : ∀ x ∈ p.xB, Kd 3 x) :
    Calls Try.prog 17 #[.pointer (some ⟨d.kb, 0, none⟩)] w fun e w' => ∃ ao n cap, e = .returned (.agg #[.int .u64 4, .int .i64 2, .int .u64 (p.aB : Nat), .slice ao n cap, .int .u64 (p.nB : Nat)]) ∧ Hid (n = min N p.xB.length) ∧
      Hid (∃ col', Wd w' col' q M N d p ∧ Gn col w col' w' ∧ Tx w' 3 (.slice ao n cap) (p.xB.take N) ∧ (∀ b, (Value.slice ao n cap).ownBlock = some b → col' b = 0 ∧ b < w'.heap.size) ∧ Turned (fun _ => False) w w') := by
  refine (loutB_any h.lkb hk).mono ?_
  rintro e w' ⟨ao, n, cap, rfl, hn, hl, t, hb⟩
  obtain ⟨h1, g1⟩ := h.still t
  exact ⟨ao, n, cap, rfl, hn, _, h1, g1, hl.tx, fun b hb' => ⟨if_neg (by have := hb b hb'; omega), hl.lt b hb'⟩, t⟩
theorem wdinB (h : Wd w col q M N d p) (base : Nat) (hb : base ≤ p.nB) (hnx : p.nB ≤ 1000) (ao : Option Addr) (n cap : Nat) (zs : List Value) (hy : Tx w 9 (.slice ao n cap) zs) (hcol : ∀ b, (Value.slice ao n cap).ownBlock = some b → col b = 0)
    (a : Nat) (ha : a ≤ p.aB + min N p.xB.length) (ha2 : a ≤ 1000) (c : Nat) (hc : c = min (zs.length - (p.nB - base)) (M - p.yB.length)) :
    Calls Try.prog 14 #[.pointer (some ⟨d.kb, 0, none⟩), .agg #[.int .u64 4, .int .i64 2, .int .u64 (base : Nat), .slice ao n cap, .int .u64 (a : Nat)]] w fun e w' => e = .returned (.tuple #[.int .i64 (c : Nat), .int .i64 0]) ∧
      Hid (∃ F', Wd w' (rc col w 2) q M N { d with FB := F' } { p with aB := max p.aB a, xB := p.xB.drop (a - p.aB), nB := p.nB + c, yB := p.yB ++ (zs.drop (p.nB - base)).take c } ∧ Gn col w (rc col w 2) w') := by
  have hn := hy.len.1
  refine (linB_any h.lkb base hb (by omega) ao n cap zs hy (fun _ b hb' hf => by
    have e1 := hcol b hb'
    have e2 := (h.lb (fun f => f)).2 b hf
    rw [e1] at e2
    cases e2) a ha (by omega) c (by rw [hn]; exact hc)).mono ?_
  rintro e w' ⟨rfl, F', l', g'⟩
  obtain ⟨h1, g1⟩ := h.goB l' g'
  exact ⟨rfl, F', h1, g1⟩
end
end Go.Proofs.Ythobbnmdpkginaa
