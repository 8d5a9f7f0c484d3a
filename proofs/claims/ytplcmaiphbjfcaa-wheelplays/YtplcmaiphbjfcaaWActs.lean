/-
  Calls as they are handed in: a list of kinds, timers and times.
-/
import Derived.Test.YtplcmaiphbjfcaaWArgs
import Derived.Deep.Slices
import Derived.ChangeSame
namespace Go.Proofs.Ytplcmaiphbjfcaa
open Go.ChangeShapes Go.WideShapes Go.ChangeAt Go.RowKit Go.Deep
set_option linter.unusedVariables false

theorem add_next (ad : Addr) (n j : Nat) (hj : 0 < j) : (⟨(ad.add n).block, (ad.add n).off + j, none⟩ : Addr) = ad.add (n + j) := by
  unfold Addr.add
  rw [if_neg (by omega : ¬ n + j = 0)]
  split
  · next h => subst h; simp
  · simp; omega

structure Ac where
  kind : Nat
  id : Int
  inn : Nat

instance : Inhabited Ac := ⟨⟨0, 0, 0⟩⟩

/-- A list of calls that was handed in. -/
structure Acts (W : World) (a : Option Addr) (len : Nat) (xs : Nat → Ac) : Prop where
  max : len ≤ 9223372036854775807
  lt : ∀ j, j < len → (xs j).kind < 256 ∧ In (xs j).id ∧ (xs j).inn < 18446744073709551616
  cell : 0 < len → ∃ ad, a = some ad ∧ ad.block < W.heap.size ∧ ∀ j, j < len → W.cell? (ad.add (j * 3)) = some (.int .u8 ((xs j).kind : Nat)) ∧ W.cell? ⟨(ad.add (j * 3)).block, (ad.add (j * 3)).off + 1, none⟩ = some (.int .i64 (xs j).id) ∧ W.cell? ⟨(ad.add (j * 3)).block, (ad.add (j * 3)).off + 2, none⟩ = some (.int .u64 ((xs j).inn : Nat))
theorem Acts.turned {W w : World} {a : Option Addr} {len : Nat} {xs : Nat → Ac} (h : Acts W a len xs) (t : Turned (fun _ => False) W w) : Acts w a len xs where
  max := h.max
  lt := h.lt
  cell := fun h0 => by
    obtain ⟨ad, e, hb, hc⟩ := h.cell h0
    have hk : ∀ n, w.cell? (ad.add n) = W.cell? (ad.add n) := fun n => by
      rw [World.cell?_of_block (w := W)]
      have : (ad.add n).block = ad.block := by unfold Addr.add; split <;> rfl
      rw [this]
      exact t.block _ hb (fun f => f)
    refine ⟨ad, e, Nat.lt_of_lt_of_le hb t.size, fun j hj => ?_⟩
    have h3 := hc j hj
    rw [add_next _ _ _ (by omega), add_next _ _ _ (by omega)] at h3 ⊢
    rw [hk, hk, hk]
    exact h3

theorem cells34 : Try.prog.cellsOf 34 = 3 := by kernel_rfl
theorem cells3 : Try.prog.cellsOf 3 = 1 := by kernel_rfl
theorem cells22 : Try.prog.cellsOf 22 = 1 := by kernel_rfl
theorem act34 : ∃ f0 f1 f2 : Field, Try.prog.underlying 34 = some (.struct #[f0, f1, f2]) ∧ f0.offset = 0 ∧ f1.offset = 1 ∧ f2.offset = 2 ∧ f0.type = 5 ∧ f1.type = 3 ∧ f2.type = 22 :=
  ⟨_, _, _, Try.underlying34, rfl, rfl, rfl, rfl, rfl, rfl⟩

set_option maxRecDepth 100000 in
theorem open_acts {H : Type} {enc : TypeId × Value → H} {W : World} {a : Option Addr} {len cap : Nat} {d : DataW H} {p : List MemPlace} (h : DataW.Trod enc Try.prog W 0 (fun _ => true) true 23 (.slice a len cap) d p) : ∃ xs, Acts W a len xs := by
  obtain ⟨fuel, hf⟩ := h
  obtain ⟨f0, f1, f2, he, o0, o1, o2, t0, t1, t2⟩ := act34
  rcases open_slice Try.underlying23 hf with ⟨hcs, _⟩ | ⟨x, l, c, mm, n, D, Pl, hcs, hb, hl, hm, hmm, _, hx⟩
  · simp [Value.cells] at hcs
    obtain ⟨rfl, rfl, rfl⟩ := hcs
    exact ⟨fun _ => ⟨0, 0, 0⟩, by omega, fun j hj => by omega, fun h => by omega⟩
  · simp [Value.cells] at hcs
    obtain ⟨rfl, rfl, rfl⟩ := hcs
    simp only [if_true] at hmm
    have each : ∀ i, i < len → ∃ q : Ac, q.kind < 256 ∧ In q.id ∧ q.inn < 18446744073709551616 ∧ W.cell? (x.add (i * 3)) = some (.int .u8 (q.kind : Nat)) ∧ W.cell? (x.add (i * 3 + 1)) = some (.int .i64 q.id) ∧ W.cell? (x.add (i * 3 + 2)) = some (.int .u64 (q.inn : Nat)) := by
      intro i hi
      obtain ⟨cs', h1, h2⟩ := hx i (by omega)
      rw [cells34] at h1
      obtain ⟨_, hlen, hcell⟩ := World.cells?_some h1
      obtain ⟨xs, k, hk, hxy, _, hxl, hf⟩ := DataW.trod_struct he h2
      match xs, hxl, cs', hlen with
      | [y0, y1, y2], _, [v0, v1, v2], _ =>
        have g0 := hf 0 f0 rfl
        have g1 := hf 1 f1 rfl
        have g2 := hf 2 f2 rfl
        simp [o0, o1, o2, t0, t1, t2, cells5, cells3, cells22] at g0 g1 g2
        have e0 := hcell 0 (by omega)
        have e1 := hcell 1 (by omega)
        have e2 := hcell 2 (by omega)
        rw [add_add] at e0 e1 e2
        obtain ⟨n0, c0, _, w0⟩ := DataW.trod_int Try.underlying5 g0
        obtain ⟨n1, c1, _, w1⟩ := DataW.trod_int Try.underlying3 g1
        obtain ⟨n2, c2, _, w2⟩ := DataW.trod_int Try.underlying22 g2
        simp at c0 c1 c2
        subst c0 c1 c2
        obtain ⟨m0, rfl, hm0⟩ := u8_of_wf w0
        obtain ⟨m2, rfl, hm2⟩ := u64_of_wf w2
        exact ⟨⟨m0, n1, m2⟩, hm0, in_of_wf w1, hm2, by simpa using e0, by simpa using e1, by simpa using e2⟩
    obtain ⟨q, hq⟩ := choose_lt each
    refine ⟨q, by unfold maxLen at hm; omega, fun j hj => ⟨(hq j hj).1, (hq j hj).2.1, (hq j hj).2.2.1⟩, fun h0 => ⟨x, rfl, ?_, fun j hj => by rw [add_next _ _ _ (by omega), add_next _ _ _ (by omega)]; exact (hq j hj).2.2.2⟩⟩
    have := World.block_lt_of_cell? W _ (hq 0 h0).2.2.2.1
    have e : (x.add (0 * 3)).block = x.block := by unfold Addr.add; split <;> rfl
    rw [e] at this
    exact this
end Go.Proofs.Ytplcmaiphbjfcaa
