/-
  The beginning of the document's Decode: the bytes are opened, the reader is made, the frame's block is laid.
-/
import Derived.Test.YtfemjbaadnjanaaFUndAll
import Derived.Test.YtfemjbaadnjanaaFRefG
import Derived.Test.YtfemjbaadnjanaaFRefE5
namespace Go.Proofs.Ytfemjbaadnjanaa
open Go.RowKit
set_option linter.unusedVariables false
set_option linter.unusedSimpArgs false

/-- What the document's Decode answers. -/
def RefAns (w' : World) (b : List UInt8) (e : Ending) : Prop :=
  ∃ a, e = .returned (.tuple #[fval (decF 1073741824 b).2 a, .int .i64 ((decF 1073741824 b).1 : Nat)]) ∧ FIn (fun _ => True) w' (decF 1073741824 b).2 a
theorem refAns_zero {w' : World} {b : List UInt8} {n : Nat} (h : decF 1073741824 b = (n, zeroF)) : RefAns w' b (.returned (.tuple #[.agg #[.int .u8 0, .int .i64 0, .int .u64 0, .int .i64 0, .int .u16 0, .int .u64 0, .int .i64 0, .int .u64 0, .int .i64 0, .slice none 0 0, .int .u64 0, .slice none 0 0, .slice none 0 0, .int .u64 0, .int .u64 0], .int .i64 (n : Nat)])) := by
  unfold RefAns
  rw [h]
  exact ⟨Fa.none, rfl, FIn.zero _ _⟩
/-- The blocks of what is read. -/
def Qv (vo : Option Addr) (yn : Nat) (b : Nat) : Prop := 0 < yn ∧ ∃ c, vo = some c ∧ c.block = b
structure St1 (w : World) (vo : Option Addr) (yn vc : Nat) (ys : List UInt8) (W : World) : Prop where
  row : Cd.Row W vo yn vc ys
  bl : Below w.heap.size w W
  rz : W.heap[w.heap.size]? = some (.cells zero15 30 (0, 0))
  lt : w.heap.size < W.heap.size
  q : ∀ b, Qv vo yn b → b < w.heap.size
theorem open18 (w : World) (ao : Option Addr) (n cap : Nat) (xs : List UInt8) (h : Cd.Row w ao n cap xs) (hn : n ≤ 1048576) :
    Calls Try.prog 38 #[.slice ao n cap] (w.alloc (.cells #[.int .u8 0, .int .i64 0, .int .u64 0, .int .i64 0, .int .u16 0, .int .u64 0, .int .i64 0, .int .u64 0, .int .i64 0, .slice none 0 0, .int .u64 0, .slice none 0 0, .slice none 0 0, .int .u64 0, .int .u64 0] 30)) fun e w' => ∃ vo vc, e = .returned (.tuple #[.slice vo (Cd.opened xs).2.length vc, .int .i64 ((Cd.opened xs).1 : Nat)]) ∧ St1 w vo (Cd.opened xs).2.length vc (Cd.opened xs).2 w' := by
  have hb0 : Below w.heap.size w (w.alloc (.cells zero15 30)) := bl1 _ _
  refine (Cd.refOpen_any _ ao n cap xs (h.below hb0 (Nat.le_refl _)) (by omega)).mono ?_
  rintro e w' ⟨vo, vc, rfl, hrow, hvo, hb⟩
  have hsz := hb.size
  simp at hsz
  refine ⟨vo, vc, rfl, hrow, bl_step hb0 hb, (hb.block _ (by simp)).trans (heap_alloc_new _ _), by omega, ?_⟩
  rintro b ⟨h0, c, hc, rfl⟩
  rcases hvo with e | e
  · rw [e] at hc; cases hc
  · rw [e] at hc
    obtain ⟨b, off, hab, hcell⟩ := h.open (by
      have := opened_len xs
      have := h.1
      omega)
    rw [hab] at hc
    cases hc
    have := hcell 0 (by
      have := opened_len xs
      have := h.1
      omega)
    exact World.block_lt_of_cell? w _ this
theorem St1.int {w : World} {vo : Option Addr} {yn vc : Nat} {ys : List UInt8} {W : World} (h : St1 w vo yn vc ys W) (hy : yn ≤ 1048576) (K : Nat) (hK : (Cd.rInt (some ys) 7).1 = K) :
    Calls Try.prog 39 #[.pointer (some ⟨W.heap.size, 0, none⟩), .int .i64 7] (W.alloc (.cells #[.slice vo yn vc, .int .i64 0] 76)) fun e w2 => e = .returned (.int .i64 (K : Nat)) ∧ W.heap.size < w2.heap.size ∧
      Dq w (Qv vo yn) W.heap.size w2.heap.size vo yn vc ys (w2.alloc (.cells #[.int .u8 (K : Nat), .int .i64 0, .int .u64 0, .int .i64 0, .int .u16 0, .int .u64 0, .int .i64 0, .int .u64 0, .int .i64 0, .slice none 0 0, .int .u64 0, .slice none 0 0, .slice none 0 0, .int .u64 0, .int .u64 0] 30)) { zeroF with kind := K } Fa.none (Cd.rInt (some ys) 7).2 := by
  have hu := bl1 W (.cells #[.slice vo yn vc, .int .i64 0] 76)
  have hrr : Cd.RR (W.alloc (.cells #[.slice vo yn vc, .int .i64 0] 76)) W.heap.size vo yn vc (some 0) := heap_alloc_new _ _
  have hrow := h.row.below hu (Nat.le_refl _)
  refine (Cd.refInt_step _ W.heap.size vo yn vc ys (some 0) (some ys) ⟨by omega, rfl⟩ hrr hrow (by omega) 7 (by omega) (by omega)).mono ?_
  rintro e w2 ⟨rfl, o', hs', hr', hg'⟩
  have hsz := hg'.size
  simp at hsz
  have hbl := h.bl.size
  have hlt := h.lt
  have hu2 := bl1 w2 (.cells (fcells { zeroF with kind := K } Fa.none) 30)
  have hb12 : Below w.heap.size w w2 := ⟨hg'.os.trans h.bl.os, hg'.tape.trans h.bl.tape, hg'.output.trans h.bl.output, by omega, fun k hk => ((hg'.block k (by simp; omega) (by simp; omega)).trans (Below.heap_alloc _ _ k (by omega))).trans (h.bl.block k hk)⟩
  have hrow2 := Cd.row_RR hrow hrr hg'
  refine ⟨by rw [hK], by omega, ?_⟩
  refine ⟨bl_step hb12 hu2, ?_, heap_alloc_new _ _, ⟨SsX.nil _ _, MsX.nil _ _, ItsX.nil _ _⟩, ⟨o', hr'.below hu2, hs'⟩, hrow2.below hu2 (Nat.le_refl _), hlt, by omega, by simp, h.q, fun c hc h0 => ⟨h0, c, hc, rfl⟩⟩
  rw [Below.heap_alloc _ _ _ (by omega), hg'.block _ (by simp; omega) (by simp; omega), Below.heap_alloc _ _ _ (by omega)]
  exact h.rz
/-- The last test's outcome, at the end of the bytes. -/
theorem end18 {w : World} {Q : Nat → Prop} {m B : Nat} {vo : Option Addr} {yn vc : Nat} {ys : List UInt8} {W : World} {F : PF} {a : Fa} {st : St} (h : Dq w Q m B vo yn vc ys W F a st) :
    ∃ A : Int, W.cell? ⟨m, 1, none⟩ = some (.int .i64 A) ∧ (A = (yn : Nat) → st = some []) ∧ (A ≠ (yn : Nat) → st ≠ some []) := by
  obtain ⟨o, hrr, hs⟩ := h.rq
  have hl := h.row.1
  refine ⟨Cd.atOf o, hrr.cells.2.1, fun e => ?_, fun hne e => ?_⟩
  · cases o with
    | none => simp [Cd.atOf] at e
    | some k =>
      cases st with
      | none => exact absurd hs (by simp [Cd.same])
      | some zs =>
        obtain ⟨h1, h2⟩ := hs
        simp only [Cd.atOf] at e
        rw [h2, List.drop_eq_nil_of_le (by omega)]
  · subst e
    obtain ⟨k, rfl, hk, hz⟩ := Cd.same_left hs
    simp only [Cd.atOf] at hne
    have := congrArg List.length hz
    rw [List.length_drop, List.length_nil] at this
    omega
theorem Dq.cell1 {w : World} {Q : Nat → Prop} {m B : Nat} {vo : Option Addr} {yn vc : Nat} {ys : List UInt8} {W V : World} {F : PF} {a : Fa} {st : St} (h : Dq w Q m B vo yn vc ys W F a st) {A : Int} (hc : W.cell? ⟨m, 1, none⟩ = some (.int .i64 A)) (u : Below W.heap.size W V) : V.cell? ⟨m, 1, none⟩ = some (.int .i64 A) := by
  have := World.block_lt_of_cell? _ _ hc
  rw [World.cell?_of_block (w := W) (u.block _ this)]
  exact hc
end Go.Proofs.Ytfemjbaadnjanaa
