/-
  What happens among nodes, as it is handed in.
-/
import Derived.Test.YtlonbbepoamnmaaDoorMLaid
import Derived.ShutString
import Derived.ChangeOld
import Derived.Below
import Derived.Deep.Slices
import Derived.ChangeSame
import Derived.SizedLaws
import Derived.Lib.SmallJoins
import Derived.Test.YtlonbbepoamnmaaDoorPMove
namespace Go.Proofs.YtlonbbepoamnmaaDoor
open Go.ChangeShapes Go.WideShapes Go.ChangeAt Go.RowKit Go.Deep
set_option linter.unusedVariables false
set_option linter.unusedSimpArgs false

theorem laidOut : laidOutB Tryd.prog = true := by kernel_rfl
theorem cells32 : Tryd.prog.cellsOf 32 = 1 := by kernel_rfl
instance : Inhabited Mv := ⟨⟨0, 0, 0, false⟩⟩
/-- A list of moves that was handed in. -/
structure Mvs (W : World) (a : Option Addr) (len : Nat) (xs : Nat → Mv) : Prop where
  max : len ≤ 9223372036854775807
  lt : ∀ j, j < len → (xs j).kind < 256 ∧ (xs j).i < 256 ∧ (xs j).est < 65536
  cell : 0 < len → ∃ b off, a = some ⟨b, off, none⟩ ∧ b < W.heap.size ∧ ∀ j, j < len → W.cell? ⟨b, off + j * 4, none⟩ = some (.int .u8 ((xs j).kind : Nat)) ∧ W.cell? ⟨b, off + j * 4 + 1, none⟩ = some (.int .u8 ((xs j).i : Nat)) ∧ W.cell? ⟨b, off + j * 4 + 2, none⟩ = some (.int .u16 ((xs j).est : Nat)) ∧ W.cell? ⟨b, off + j * 4 + 3, none⟩ = some (.bool (xs j).keep)
theorem Mvs.keep {W w : World} {a : Option Addr} {len : Nat} {xs : Nat → Mv} (h : Mvs W a len xs) {B : Nat} (hB : B = W.heap.size) (u : Below B W w) : Mvs w a len xs where
  max := h.max
  lt := h.lt
  cell := fun h0 => by
    obtain ⟨b, off, e, hb, hc⟩ := h.cell h0
    have hk : ∀ o, w.cell? ⟨b, o, none⟩ = W.cell? ⟨b, o, none⟩ := fun o => u.cell (by show b < B; omega)
    refine ⟨b, off, e, Nat.lt_of_lt_of_le hb u.size, fun j hj => ?_⟩
    rw [hk, hk, hk, hk]
    exact hc j hj
theorem move70 : ∃ f0 f1 f2 f3 : Field, Tryd.prog.underlying 70 = some (.struct #[f0, f1, f2, f3]) ∧ f0.offset = 0 ∧ f1.offset = 1 ∧ f2.offset = 2 ∧ f3.offset = 3 ∧ f0.type = 5 ∧ f1.type = 5 ∧ f2.type = 32 ∧ f3.type = 4 :=
  ⟨_, _, _, _, Tryd.underlying70, rfl, rfl, rfl, rfl, rfl, rfl, rfl, rfl⟩
theorem cells70 : Tryd.prog.cellsOf 70 = 4 := by kernel_rfl
theorem cells4 : Tryd.prog.cellsOf 4 = 1 := by kernel_rfl
set_option maxRecDepth 100000 in
theorem open_moves {H : Type} {enc : TypeId × Value → H} {W : World} {a : Option Addr} {len cap : Nat} {d : DataW H} {p : List MemPlace} (h : DataW.Trod enc Tryd.prog W 0 (fun _ => true) true 65 (.slice a len cap) d p) : ∃ xs, Mvs W a len xs := by
  obtain ⟨fuel, hf⟩ := h
  obtain ⟨f0, f1, f2, f3, he, o0, o1, o2, o3, t0, t1, t2, t3⟩ := move70
  rcases open_slice Tryd.underlying65 hf with ⟨hcs, _⟩ | ⟨x, l, c, mm, n, D, Pl, hcs, hb, hl, hm, hmm, _, hx⟩
  · simp [Value.cells] at hcs
    obtain ⟨rfl, rfl, rfl⟩ := hcs
    exact ⟨fun _ => ⟨0, 0, 0, false⟩, by omega, fun j hj => by omega, fun h => by omega⟩
  · simp [Value.cells] at hcs
    obtain ⟨rfl, rfl, rfl⟩ := hcs
    simp only [if_true] at hmm
    have each : ∀ i, i < len → ∃ q : Mv, (q.kind < 256 ∧ q.i < 256 ∧ q.est < 65536) ∧ W.cell? (x.add (i * 4)) = some (.int .u8 (q.kind : Nat)) ∧ W.cell? (x.add (i * 4 + 1)) = some (.int .u8 (q.i : Nat)) ∧ W.cell? (x.add (i * 4 + 2)) = some (.int .u16 (q.est : Nat)) ∧ W.cell? (x.add (i * 4 + 3)) = some (.bool q.keep) := by
      intro i hi
      obtain ⟨cs', h1, h2⟩ := hx i (by omega)
      rw [cells70] at h1
      obtain ⟨_, hlen, hcell⟩ := World.cells?_some h1
      obtain ⟨xs, k, hk, hxy, _, hxl, hf⟩ := DataW.trod_struct he h2
      match xs, hxl, cs', hlen with
      | [y0, y1, y2, y3], _, [v0, v1, v2, v3], _ =>
        have g0 := hf 0 f0 rfl
        have g1 := hf 1 f1 rfl
        have g2 := hf 2 f2 rfl
        have g3 := hf 3 f3 rfl
        simp [o0, t0, cells5] at g0
        simp [o1, t1, cells5] at g1
        simp [o2, t2, cells32] at g2
        simp [o3, t3, cells4] at g3
        have e0 := hcell 0 (by omega)
        have e1 := hcell 1 (by omega)
        have e2 := hcell 2 (by omega)
        have e3 := hcell 3 (by omega)
        rw [add_add] at e0 e1 e2 e3
        obtain ⟨n0, c0, _, w0⟩ := DataW.trod_int Tryd.underlying5 g0
        obtain ⟨n1, c1, _, w1⟩ := DataW.trod_int Tryd.underlying5 g1
        obtain ⟨n2, c2, _, w2⟩ := DataW.trod_int Tryd.underlying32 g2
        obtain ⟨b3, c3, _⟩ := DataW.trod_bool Tryd.underlying4 g3
        simp at c0 c1 c2 c3
        subst c0 c1 c2 c3
        obtain ⟨m0, rfl, hm0⟩ := u8_of_wf w0
        obtain ⟨m1, rfl, hm1⟩ := u8_of_wf w1
        obtain ⟨m2, rfl, hm2⟩ := u16_of_wf w2
        exact ⟨⟨m0, m1, m2, b3⟩, ⟨hm0, hm1, hm2⟩, e0, e1, e2, e3⟩
    obtain ⟨q, hq⟩ := choose_lt each
    refine ⟨q, by unfold maxLen at hm; omega, fun j hj => (hq j hj).1, fun h0 => ?_⟩
    obtain ⟨b, off, spot⟩ := x
    have hs : spot = none := by
      have := (hq 0 h0).2.1
      simpa [Addr.add] using World.cell?_spot this
    subst hs
    refine ⟨b, off, rfl, World.block_lt_of_cell? W _ (by have := (hq 0 h0).2.1; simpa [Addr.add] using this), fun j hj => ?_⟩
    have k := (hq j hj).2
    rw [Addr.add_lit, Addr.add_lit, Addr.add_lit, Addr.add_lit, ← Nat.add_assoc, ← Nat.add_assoc, ← Nat.add_assoc] at k
    exact k
end Go.Proofs.YtlonbbepoamnmaaDoor
