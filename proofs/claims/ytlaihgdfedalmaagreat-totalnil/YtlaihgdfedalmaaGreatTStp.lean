/-
  Package total: what is to be sent is sent, received, and safe.
-/
import Derived.Test.YtlaihgdfedalmaaGreatTGet
import Derived.Test.YtlaihgdfedalmaaGreatTSafe
import Derived.Test.YtlaihgdfedalmaaGreatTSent
namespace Go.Proofs.YtlaihgdfedalmaaGreat
open Go.RowKit Go.Sort Go.Conc
set_option linter.unusedVariables false
set_option linter.unusedSimpArgs false

theorem Stp.bind {w w1 w2 : World} {col col1 : Nat → Nat} {Z Z1 : Nat → Prop} {q : Nat} {T' : Tot} (g : Gt w col w1 col1) (hz : ∀ b, Z b → Z1 b) (hy : ∀ b, Z1 b → Z b ∨ w.heap.size ≤ b) (k : Stp w1 col1 Z1 q T' w2) : Stp w col Z q T' w2 := by
  obtain ⟨c, Z', a, h1, h2, h3, h4⟩ := k
  exact ⟨c, Z', a, h1, g.trans h2, fun b hb => h3 b (hz b hb), fun b hb => (h4 b hb).elim (hy b) (fun e => .inr (Nat.le_trans g.turned.size e))⟩
/-- A row that is none of the node's. -/
def Fre (w : World) (col : Nat → Nat) (ao : Option Addr) (n cap : Nat) (b : List UInt8) : Prop := Cd.Row w ao n cap b ∧ ∀ a, ao = some a → 0 < n → col a.block = 0 ∧ a.block < w.heap.size
theorem Fre.go {w w' : World} {col col' : Nat → Nat} {ao : Option Addr} {n cap : Nat} {b : List UInt8} (h : Fre w col ao n cap b) (g : Gt w col w' col') : Fre w' col' ao n cap b := by
  refine ⟨row_kp (p := fun k => col k = 0 ∧ k < w.heap.size) h.1 h.2 (fun ad v hp hv => ?_), fun a e hn => ?_⟩
  · rw [World.cell?_of_block (w := w) (g.turned.block _ hp.2 (by omega))]
    exact hv
  · obtain ⟨h1, h2⟩ := h.2 a e hn
    refine ⟨?_, Nat.lt_of_lt_of_le h2 g.turned.size⟩
    by_cases hc : col' a.block = 0
    · exact hc
    · rcases g.foot a.block (by omega) with h3 | h3 <;> omega
set_option maxRecDepth 10000 in
set_option maxHeartbeats 2000000 in
theorem step_gen {w : World} {col : Nat → Nat} {Z : Nat → Prop} {q : Nat} {T T1 T2 T3 : Tot} {a : Ta} (h : Tt w col Z q T a) (b : List UInt8) (hnx : Calls Tryz.prog 20 #[.pointer (some ⟨q, 0, none⟩)] w (NextPost w (some b)))
    (hse : ∀ W A, Tt W col Z q T A → Calls Tryz.prog 21 #[.pointer (some ⟨q, 0, none⟩)] W fun e w' => e = .returned (.int .i64 0) ∧ Stp W col Z q T1 w')
    (hre : ∀ W c Z' A ao n cap, Tt W c Z' q T1 A → Cd.Row W ao n cap b → Calls Tryz.prog 23 #[.pointer (some ⟨q, 0, none⟩), .int .i64 0, .slice ao n cap] W fun e w' => e = .returned (.int .i64 0) ∧ Stp W c Z' q T2 w')
    (hsa : ∀ W c Z' A ao n cap, Tt W c Z' q T2 A → Cd.Row W ao n cap b → Calls Tryz.prog 25 #[.pointer (some ⟨q, 0, none⟩), .int .i64 0, .slice ao n cap] W fun e w' => e = .returned (.int .i64 0) ∧ Stp W c Z' q T3 w') :
    Calls Tryz.prog 40 #[.pointer (some ⟨q, 0, none⟩)] w fun e w' => e = .returned (.bool true) ∧ Stp w col Z q T3 w' := by
  have H0 : Hid (Tt w col Z q T a) := h
  have HRE : Hid (∀ W c Z' A ao n cap, Tt W c Z' q T1 A → Cd.Row W ao n cap b → Calls Tryz.prog 23 #[.pointer (some ⟨q, 0, none⟩), .int .i64 0, .slice ao n cap] W fun e w' => e = .returned (.int .i64 0) ∧ Stp W c Z' q T2 w') := hre
  have HSA : Hid (∀ W c Z' A ao n cap, Tt W c Z' q T2 A → Cd.Row W ao n cap b → Calls Tryz.prog 25 #[.pointer (some ⟨q, 0, none⟩), .int .i64 0, .slice ao n cap] W fun e w' => e = .returned (.int .i64 0) ∧ Stp W c Z' q T3 w') := hsa
  have HSE : Hid (∀ W A, Tt W col Z q T A → Calls Tryz.prog 21 #[.pointer (some ⟨q, 0, none⟩)] W fun e w' => e = .returned (.int .i64 0) ∧ Stp W col Z q T1 w') := hse
  clear h hse hre hsa
  go_enter Tryz.func40, Tryz.ntmps40
  go_wp2_with fail
  refine hnx.mono ?_
  rintro e w1 ⟨u1, v, rfl, hv⟩
  obtain ⟨so, sc, rfl, hrow, hbl⟩ := own_bytes hv
  have h1 := H0.out.still u1
  have HF1 : Hid (Fre w1 col so b.length sc b) := ⟨hrow, fun ad e hn => by
    have := hbl ad e
    refine ⟨?_, this.2⟩
    by_cases hc : col ad.block = 0
    · exact hc
    · have := H0.out.d.lt ad.block (by omega); omega⟩
  have hs := HSE.out w1 a h1
  have HU1 : Hid (Below w.heap.size w w1) := u1
  clear hnx u1 hv hrow hbl h1 HSE
  go_wp2_with fail
  refine hs.mono ?_
  rintro e w2 ⟨rfl, c2, Z2, a2, h2, g2, z2, y2⟩
  have HF2 : Hid (Fre w2 c2 so b.length sc b) := HF1.out.go g2
  have hr := HRE.out w2 c2 Z2 a2 so b.length sc h2 HF2.out.1
  have HG2 : Hid (Gt w col w2 c2 ∧ (∀ b, Z b → Z2 b) ∧ ∀ b, Z2 b → Z b ∨ w.heap.size ≤ b) := ⟨(Gt.bl col HU1.out).trans g2, z2, fun b hb => (y2 b hb).imp id (fun e => Nat.le_trans HU1.out.size e)⟩
  clear hs h2 g2 z2 y2 HF1 HU1 HRE
  go_wp2_with fail
  refine hr.mono ?_
  rintro e w3 ⟨rfl, c3, Z3, a3, h3, g3, z3, y3⟩
  have HF3 : Hid (Fre w3 c3 so b.length sc b) := HF2.out.go g3
  have hf := HSA.out w3 c3 Z3 a3 so b.length sc h3 HF3.out.1
  have HG3 : Hid (Gt w col w3 c3 ∧ (∀ b, Z b → Z3 b) ∧ ∀ b, Z3 b → Z b ∨ w.heap.size ≤ b) := ⟨HG2.out.1.trans g3, fun b hb => z3 b (HG2.out.2.1 b hb), fun b hb => (y3 b hb).elim (HG2.out.2.2 b) (fun e => .inr (Nat.le_trans HG2.out.1.turned.size e))⟩
  clear hr h3 g3 z3 y3 HF2 HG2 HSA
  go_wp2_with fail
  refine hf.mono ?_
  rintro e w4 ⟨rfl, hst⟩
  have HF : Hid (Stp w col Z q T3 w4) := Stp.bind HG3.out.1 HG3.out.2.1 HG3.out.2.2 hst
  clear hf hst HF3 HG3 H0
  go_wp2
  go_ret
  exact ⟨rfl, HF.out⟩
end Go.Proofs.YtlaihgdfedalmaaGreat
