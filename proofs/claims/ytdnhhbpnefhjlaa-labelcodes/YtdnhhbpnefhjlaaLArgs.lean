/-
  Labels, and lists of labels, as they are handed in.
-/
import Derived.Test.YtdnhhbpnefhjlaaLAwake
import Derived.Test.YtdnhhbpnefhjlaaRows
import Derived.ProofKit
import Derived.OpenShut
import Derived.ShutString
import Derived.ChangeOld
import Derived.Below
import Derived.Deep.Slices
import Derived.ChangeSame
import Derived.MapViews
import Derived.WideKeyArgs
namespace Go.Proofs.Ytdnhhbpnefhjlaa
open Go.ChangeShapes Go.WideShapes Go.ChangeAt Go.RowKit Go.Deep
set_option linter.unusedVariables false

theorem in_of_wf {a : Int} (h : (Lit.int .i64 a).wf = true) : In a := by
  unfold In
  simp [Lit.wf, IntKind.min, IntKind.max, IntKind.bits, IntKind.signed] at h
  omega
theorem u64_of_wf {a : Int} (h : (Lit.int .u64 a).wf = true) : ∃ n : Nat, a = n ∧ n < 18446744073709551616 := by
  simp [Lit.wf, IntKind.min, IntKind.max, IntKind.bits, IntKind.signed] at h
  exact ⟨a.toNat, by omega, by omega⟩
theorem u8_of_wf {a : Int} (h : (Lit.int .u8 a).wf = true) : ∃ n : Nat, a = n ∧ n < 256 := by
  simp [Lit.wf, IntKind.min, IntKind.max, IntKind.bits, IntKind.signed] at h
  exact ⟨a.toNat, by omega, by omega⟩
theorem own : ownKnob Try.prog.godebug = none := by kernel_rfl
theorem rec26 : Try.prog.readableRec 26 = true := by kernel_rfl
theorem deep26 : Try.prog.keyTypeAt (Try.prog.types.size + 1) 26 = true := by kernel_rfl

theorem vid24 : ∃ f0 f1 : Field, Try.prog.underlying 24 = some (.struct #[f0, f1]) ∧ f0.offset = 0 ∧ f1.offset = 1 ∧ f0.type = 22 ∧ f1.type = 3 :=
  ⟨_, _, Try.underlying24, rfl, rfl, rfl, rfl⟩
theorem lab26 : ∃ f0 f1 f2 : Field, Try.prog.underlying 26 = some (.struct #[f0, f1, f2]) ∧ f0.offset = 0 ∧ f1.offset = 2 ∧ f2.offset = 3 ∧ f0.type = 24 ∧ f1.type = 22 ∧ f2.type = 3 :=
  ⟨_, _, _, Try.underlying26, rfl, rfl, rfl, rfl, rfl, rfl⟩

set_option maxRecDepth 100000 in
theorem trod_lab {H : Type} {enc : TypeId × Value → H} {W : World} {base : Nat} {sp : Nat → Bool} {held : Bool} {fuel : Nat} {cs : List Value} {y : DataW H × List MemPlace} (h : DataW.trod enc Try.prog W base sp held fuel 26 cs = some y) : ∃ x, OkL x ∧ cs = cellsL x := by
  obtain ⟨f0, f1, f2, he, p0, p1, p2, t0, t1, t2⟩ := lab26
  obtain ⟨g0, g1, he', q0, q1, u0, u1⟩ := vid24
  obtain ⟨xs, k, hk, hxy, hcl, hxl, hf⟩ := DataW.trod_struct he h
  rw [cells26] at hcl
  match xs, hxl, cs, hcl with
  | [y0, y1, y2], _, [v0, v1, v2, v3], _ =>
    have a0 := hf 0 f0 rfl
    have a1 := hf 1 f1 rfl
    have a2 := hf 2 f2 rfl
    simp [p0, p1, p2, t0, t1, t2, cells24, cells22, cells3] at a0 a1 a2
    obtain ⟨ys, k', hk', hyy, _, hyl, hg⟩ := DataW.trod_struct he' a0
    match ys, hyl with
    | [z0, z1], _ =>
      have b0 := hg 0 g0 rfl
      have b1 := hg 1 g1 rfl
      simp [q0, q1, u0, u1, cells22, cells3] at b0 b1
      obtain ⟨n0, c0, _, w0⟩ := DataW.trod_int Try.underlying22 b0
      obtain ⟨n1, c1, _, w1⟩ := DataW.trod_int Try.underlying3 b1
      obtain ⟨n2, c2, _, w2⟩ := DataW.trod_int Try.underlying22 a1
      obtain ⟨n3, c3, _, w3⟩ := DataW.trod_int Try.underlying3 a2
      simp at c0 c1 c2 c3
      subst c0 c1 c2 c3
      obtain ⟨m0, rfl, hm0⟩ := u64_of_wf w0
      obtain ⟨m2, rfl, hm2⟩ := u64_of_wf w2
      exact ⟨(m0, n1, m2, n3), ⟨hm0, in_of_wf w1, hm2, in_of_wf w3⟩, rfl⟩

set_option maxRecDepth 100000 in
theorem open_lab {H : Type} {enc : TypeId × Value → H} {W : World} {base : Nat} {v : Value} {d : DataW H} {p : List MemPlace} (hv : Value.okWide Try.prog W .any base 26 v) (h : DataW.Trod enc Try.prog W 0 (fun _ => true) true 26 v d p) : ∃ x, OkL x ∧ v = lab x ∧ p = [] := by
  obtain ⟨f0, f1, f2, he, _⟩ := lab26
  obtain ⟨cs, rfl, hs⟩ := okWide_struct he hv
  have hform : (Value.agg cs).formed Try.prog 26 = true := by simp [Value.formed, he, hs]
  obtain ⟨_, hp⟩ := keyOf_asKey deep26 wide26 hform h
  obtain ⟨fuel, hf⟩ := h
  obtain ⟨x, hx, hc⟩ := trod_lab hf
  refine ⟨x, hx, ?_, hp⟩
  obtain ⟨l⟩ := cs
  have e : l = cellsL x := by simpa [Value.cells] using hc
  rw [e]
  rfl

set_option maxRecDepth 100000 in
theorem open_labels {H : Type} {enc : TypeId × Value → H} {W : World} {a : Option Addr} {len cap : Nat} {d : DataW H} {p : List MemPlace} (h : DataW.Trod enc Try.prog W 0 (fun _ => true) true 32 (.slice a len cap) d p) :
    ∃ ls, LR W a len ls ∧ (∀ x ∈ ls, OkL x) ∧ (a = none → len = 0 ∧ cap = 0) ∧ len ≤ cap ∧ cap ≤ 9223372036854775807 := by
  obtain ⟨fuel, hf⟩ := h
  rcases open_slice Try.underlying32 hf with ⟨hcs, _⟩ | ⟨x, l, c, mm, n, D, Pl, hcs, hb, hl, hm, hmm, _, hx⟩
  · simp [Value.cells] at hcs
    obtain ⟨rfl, rfl, rfl⟩ := hcs
    exact ⟨[], ⟨rfl, by omega, fun h => by omega⟩, by simp, fun _ => ⟨rfl, rfl⟩, by omega, by omega⟩
  · simp [Value.cells] at hcs
    obtain ⟨rfl, rfl, rfl⟩ := hcs
    simp only [if_true] at hmm
    have each : ∀ i, i < len → ∃ q : Lb, OkL q ∧ ∀ j, j < 4 → W.cell? (x.add (i * 4 + j)) = (cellsL q)[j]? := by
      intro i hi
      obtain ⟨cs', h1, h2⟩ := hx i (by omega)
      rw [cells26] at h1
      obtain ⟨_, hlen, hcell⟩ := World.cells?_some h1
      obtain ⟨q, hq, rfl⟩ := trod_lab h2
      refine ⟨q, hq, fun j hj => ?_⟩
      have e0 := hcell j (by omega)
      rw [add_add] at e0
      exact e0
    obtain ⟨q, hq⟩ := choose_lt each
    have hget : ∀ j y, ((List.range len).map q)[j]? = some y → j < len ∧ y = q j := fun j y hj => by
      obtain ⟨h1, h2⟩ := List.getElem?_eq_some_iff.1 hj
      simp at h1 h2
      exact ⟨h1, h2.symm⟩
    refine ⟨(List.range len).map q, ⟨by simp, by unfold maxLen at hm; omega, fun h0 => ?_⟩, fun y hy => ?_, (fun e => by cases e), hl, by unfold maxLen at hm; omega⟩
    · obtain ⟨b, off, spot⟩ := x
      have hs : spot = none := by
        have := (hq 0 h0).2 0 (by omega)
        simpa [Addr.add, cellsL] using World.cell?_spot this
      subst hs
      refine ⟨b, off, rfl, fun j y hj => ?_⟩
      obtain ⟨hjl, rfl⟩ := hget j y hj
      have key : ∀ i, i < 4 → W.cell? ⟨b, off + j * 4 + i, none⟩ = (cellsL (q j))[i]? := fun i hi => by
        have := (hq j hjl).2 i hi
        rw [Addr.add_lit, ← Nat.add_assoc] at this
        exact this
      exact ⟨key 0 (by omega), key 1 (by omega), key 2 (by omega), key 3 (by omega)⟩
    · obtain ⟨j, hj, rfl⟩ := List.mem_map.1 hy
      exact (hq j (by simpa using hj)).1
theorem LR.take {w : World} {a : Option Addr} {n i : Nat} {ls : List Lb} (h : LR w a n ls) (hi : i ≤ n) : LR w a i (ls.take i) := by
  obtain ⟨h1, h2, h3⟩ := h
  refine ⟨by rw [List.length_take]; omega, by omega, fun h0 => ?_⟩
  obtain ⟨b, off, e, hc⟩ := h3 (by omega)
  refine ⟨b, off, e, fun j x hj => hc j x ?_⟩
  rw [List.getElem?_take] at hj
  split at hj
  · exact hj
  · cases hj
/-- A label's cells. -/
def Ce (a : Addr) (x : Lb) (wx : World) : Prop :=
  wx.cell? a = some (.int .u64 (x.1 : Nat)) ∧ wx.cell? ⟨a.block, a.off + 1, none⟩ = some (.int .i64 x.2.1) ∧ wx.cell? ⟨a.block, a.off + 2, none⟩ = some (.int .u64 (x.2.2.1 : Nat)) ∧ wx.cell? ⟨a.block, a.off + 3, none⟩ = some (.int .i64 x.2.2.2)
theorem nodup_step {ls : List Lb} {i : Nat} {x : Lb} (h : ls[i]? = some x) : decide (¬ (ls.take (i + 1)).Nodup) = (decide (¬ (ls.take i).Nodup) || decide (x ∈ ls.take i)) := by
  rw [List.take_add_one, h]
  have : (ls.take i ++ (some x).toList).Nodup ↔ (ls.take i).Nodup ∧ x ∉ ls.take i := by
    rw [List.nodup_append]
    constructor
    · rintro ⟨a, _, c⟩
      exact ⟨a, fun hx => c x hx x (by simp) rfl⟩
    · rintro ⟨a, b⟩
      refine ⟨a, by simp, fun y hy z hz => ?_⟩
      simp at hz
      subst hz
      exact fun e => b (e ▸ hy)
  rw [Bool.eq_iff_iff]
  simp only [Bool.or_eq_true, decide_eq_true_eq, this]
  by_cases h1 : (ls.take i).Nodup <;> simp [h1]
end Go.Proofs.Ytdnhhbpnefhjlaa
