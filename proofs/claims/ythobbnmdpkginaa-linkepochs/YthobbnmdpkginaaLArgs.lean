/-
  Numbers, texts, lists of numbers, of texts and of calls as they are handed in.
-/
import Derived.Test.YthobbnmdpkginaaLAwake
import Derived.Deep.Slices
import Derived.ChangeSame
import Derived.SliceStrings
import Derived.ProofKit
import Derived.OpenShut
import Derived.ShutString
import Derived.ChangeOld
import Derived.Below
import Derived.Deep.CondSized
namespace Go.Proofs.Ythobbnmdpkginaa
open Go.ChangeShapes Go.WideShapes Go.ChangeAt Go.RowKit Go.Deep
set_option linter.unusedVariables false
set_option linter.unusedSimpArgs false
def In (a : Int) : Prop := -9223372036854775808 ≤ a ∧ a ≤ 9223372036854775807
theorem in_of_wf {a : Int} (h : (Lit.int .i64 a).wf = true) : In a := by
  unfold In
  simp [Lit.wf, IntKind.min, IntKind.max, IntKind.bits, IntKind.signed] at h
  omega
theorem u64_of_wf {a : Int} (h : (Lit.int .u64 a).wf = true) : ∃ n : Nat, a = n ∧ n < 18446744073709551616 := by
  simp [Lit.wf, IntKind.min, IntKind.max, IntKind.bits, IntKind.signed] at h
  exact ⟨a.toNat, by omega, by omega⟩
theorem u32_of_wf {a : Int} (h : (Lit.int .u32 a).wf = true) : ∃ n : Nat, a = n ∧ n < 4294967296 := by
  simp [Lit.wf, IntKind.min, IntKind.max, IntKind.bits, IntKind.signed] at h
  exact ⟨a.toNat, by omega, by omega⟩
theorem u16_of_wf {a : Int} (h : (Lit.int .u16 a).wf = true) : ∃ n : Nat, a = n ∧ n < 65536 := by
  simp [Lit.wf, IntKind.min, IntKind.max, IntKind.bits, IntKind.signed] at h
  exact ⟨a.toNat, by omega, by omega⟩
theorem u8_of_wf {a : Int} (h : (Lit.int .u8 a).wf = true) : ∃ n : Nat, a = n ∧ n < 256 := by
  simp [Lit.wf, IntKind.min, IntKind.max, IntKind.bits, IntKind.signed] at h
  exact ⟨a.toNat, by omega, by omega⟩

theorem own : ownKnob Try.prog.godebug = none := by kernel_rfl
theorem laidOut : laidOutB Try.prog = true := by kernel_rfl

theorem cells5 : Try.prog.cellsOf 5 = 1 := by kernel_rfl
theorem cells9 : Try.prog.cellsOf 9 = 1 := by kernel_rfl
theorem cells3 : Try.prog.cellsOf 3 = 1 := by kernel_rfl
theorem cells41 : Try.prog.cellsOf 41 = 1 := by kernel_rfl
theorem cells32 : Try.prog.cellsOf 32 = 1 := by kernel_rfl
theorem cells33 : Try.prog.cellsOf 33 = 1 := by kernel_rfl
theorem cells43 : Try.prog.cellsOf 43 = 2 := by kernel_rfl
theorem cells28 : Try.prog.cellsOf 28 = 3 := by kernel_rfl
theorem cells45 : Try.prog.cellsOf 45 = 5 := by kernel_rfl
theorem cells4 : Try.prog.cellsOf 4 = 1 := by kernel_rfl
theorem trod_texts {H : Type} {enc : TypeId × Value → H} {W : World} {held : Bool} {fuel : Nat} {cs : List Value} {y : DataW H × List MemPlace} (hf : DataW.trod enc Try.prog W 0 (fun _ => true) held fuel 32 cs = some y) : ∃ a len cap xs, cs = [.slice a len cap] ∧ Tx W 9 (.slice a len cap) xs := by
  rcases open_strings Try.underlying32 Try.underlying9 cells9 hf with ⟨hcs, _⟩ | ⟨x, l, c, ss, hcs, _, hl, hm, hz, hx, hcell, hws⟩
  · exact ⟨none, 0, 0, [], hcs, none, 0, rfl, by simp, by omega, by simp, fun h => by simp at h⟩
  · simp only [if_true] at hz
    have hlen : ((ss.take l).map Value.string).length = l := by simp; omega
    refine ⟨some x, l, c, (ss.take l).map Value.string, hcs, some x, c, by rw [hlen], by omega, by unfold maxLen at hm; omega, fun v hv => ?_, fun h0 => ?_⟩
    · obtain ⟨s, _, rfl⟩ := List.mem_map.1 hv
      exact kd9 s
    · rw [hlen] at h0
      obtain ⟨b, off, spot⟩ := x
      have h00 := hcell 0 (by omega)
      have hs : spot = none := by simpa [Addr.add] using World.cell?_spot h00
      subst hs
      refine ⟨b, off, rfl, ?_, fun j v hj => ?_⟩
      · have := World.block_lt_of_cell? W _ h00
        simpa [Addr.add] using this
      · have hjl := (List.getElem?_eq_some_iff.1 hj).1
        rw [hlen] at hjl
        have hc := hcell j (by omega)
        rw [Addr.add_lit] at hc
        rw [hc]
        have hj2 : j < ss.length := by omega
        rw [List.getElem?_map, List.getElem?_take, if_pos hjl, List.getElem?_eq_getElem hj2] at hj
        simp only [Option.map_some, Option.some.injEq] at hj
        rw [← hj]
        simp [List.getD, List.getElem?_eq_getElem hj2]
theorem open_texts {H : Type} {enc : TypeId × Value → H} {W : World} {a : Option Addr} {len cap : Nat} {d : DataW H} {p : List MemPlace} (h : DataW.Trod enc Try.prog W 0 (fun _ => true) true 32 (.slice a len cap) d p) : ∃ xs, Tx W 9 (.slice a len cap) xs := by
  obtain ⟨fuel, hf⟩ := h
  obtain ⟨a', len', cap', xs, hcs, hx⟩ := trod_texts hf
  simp [Value.cells] at hcs
  obtain ⟨rfl, rfl, rfl⟩ := hcs
  exact ⟨xs, hx⟩
theorem trod_ints {H : Type} {enc : TypeId × Value → H} {W : World} {fuel : Nat} {a : Option Addr} {len cap : Nat} {y : DataW H × List MemPlace} (hf : DataW.trod enc Try.prog W 0 (fun _ => true) true fuel 33 (Value.cells (.slice a len cap)).toList = some y) : ∃ xs, Tx W 3 (.slice a len cap) xs := by
  rcases open_ints Try.underlying33 Try.underlying3 cells3 hf with ⟨hcs, _⟩ | ⟨x, l, c, zs, hcs, _, hl, hm, hz, hx, hcell, hwz⟩
  · simp [Value.cells] at hcs
    obtain ⟨rfl, rfl, rfl⟩ := hcs
    exact ⟨[], none, 0, rfl, by simp, by omega, by simp, fun h => by simp at h⟩
  · simp [Value.cells] at hcs
    obtain ⟨rfl, rfl, rfl⟩ := hcs
    simp only [if_true] at hz
    have hlen : ((zs.take len).map (Value.int .i64)).length = len := by simp; omega
    refine ⟨(zs.take len).map (Value.int .i64), some x, cap, by rw [hlen], by omega, by unfold maxLen at hm; omega, fun v hv => ?_, fun h0 => ?_⟩
    · obtain ⟨s, _, rfl⟩ := List.mem_map.1 hv
      exact kd3 s
    · rw [hlen] at h0
      obtain ⟨b, off, spot⟩ := x
      have h00 := hcell 0 (by omega)
      have hs : spot = none := by simpa [Addr.add] using World.cell?_spot h00
      subst hs
      refine ⟨b, off, rfl, ?_, fun j v hj => ?_⟩
      · have := World.block_lt_of_cell? W _ h00
        simpa [Addr.add] using this
      · have hjl := (List.getElem?_eq_some_iff.1 hj).1
        rw [hlen] at hjl
        have hc := hcell j (by omega)
        rw [Addr.add_lit] at hc
        rw [hc]
        have hj2 : j < zs.length := by omega
        rw [List.getElem?_map, List.getElem?_take, if_pos hjl, List.getElem?_eq_getElem hj2] at hj
        simp only [Option.map_some, Option.some.injEq] at hj
        rw [← hj]
        simp [List.getD, List.getElem?_eq_getElem hj2]
theorem open_numsI {H : Type} {enc : TypeId × Value → H} {W : World} {a : Option Addr} {len cap : Nat} {d : DataW H} {p : List MemPlace} (h : DataW.Trod enc Try.prog W 0 (fun _ => true) true 33 (.slice a len cap) d p) : ∃ xs, Tx W 3 (.slice a len cap) xs := by
  obtain ⟨fuel, hf⟩ := h
  exact trod_ints hf
theorem add_next (ad : Addr) (n j : Nat) (hj : 0 < j) : (⟨(ad.add n).block, (ad.add n).off + j, none⟩ : Addr) = ad.add (n + j) := by
  unfold Addr.add
  rw [if_neg (by omega : ¬ n + j = 0)]
  split
  · next h => subst h; simp
  · simp; omega

structure Ac where
  kind : Nat
  s : ByteArray
  n : Int
instance : Inhabited Ac := ⟨⟨0, ByteArray.empty, 0⟩⟩

/-- A list of calls that was handed in. -/
structure Acts (W : World) (a : Option Addr) (len : Nat) (xs : Nat → Ac) : Prop where
  max : len ≤ 9223372036854775807
  lt : ∀ j, j < len → (xs j).kind < 256 ∧ In (xs j).n
  cell : 0 < len → ∃ ad, a = some ad ∧ ad.block < W.heap.size ∧ ∀ j, j < len → W.cell? (ad.add (j * 3)) = some (.int .u8 ((xs j).kind : Nat)) ∧ W.cell? ⟨(ad.add (j * 3)).block, (ad.add (j * 3)).off + 1, none⟩ = some (.string (xs j).s) ∧ W.cell? ⟨(ad.add (j * 3)).block, (ad.add (j * 3)).off + 2, none⟩ = some (.int .i64 (xs j).n)
theorem Acts.turned {W w : World} {a : Option Addr} {len : Nat} {xs : Nat → Ac} (h : Acts W a len xs) (t : Turned (fun _ => False) W w) : Acts w a len xs where
  max := h.max
  lt := h.lt
  cell := fun h0 => by
    obtain ⟨ad, e, hb, hc⟩ := h.cell h0
    have hk : ∀ n, w.cell? (ad.add n) = W.cell? (ad.add n) := fun n => by
      rw [World.cell?_of_block (w := W)]
      have : (ad.add n).block = ad.block := by unfold Addr.add; split <;> rfl
      rw [this]
      exact t.block _ hb (fun f => f)
    refine ⟨ad, e, Nat.lt_of_lt_of_le hb t.size, fun j hj => ?_⟩
    have h3 := hc j hj
    rw [add_next _ _ _ (by omega), add_next _ _ _ (by omega)] at h3 ⊢
    rw [hk, hk, hk]
    exact h3

theorem act28 : ∃ f0 f1 f2 : Field, Try.prog.underlying 28 = some (.struct #[f0, f1, f2]) ∧ f0.offset = 0 ∧ f1.offset = 1 ∧ f2.offset = 2 ∧ f0.type = 5 ∧ f1.type = 9 ∧ f2.type = 3 :=
  ⟨_, _, _, Try.underlying28, rfl, rfl, rfl, rfl, rfl, rfl⟩

set_option maxRecDepth 100000 in
theorem open_acts {H : Type} {enc : TypeId × Value → H} {W : World} {a : Option Addr} {len cap : Nat} {d : DataW H} {p : List MemPlace} (h : DataW.Trod enc Try.prog W 0 (fun _ => true) true 22 (.slice a len cap) d p) : ∃ xs, Acts W a len xs := by
  obtain ⟨fuel, hf⟩ := h
  obtain ⟨f0, f1, f2, he, o0, o1, o2, t0, t1, t2⟩ := act28
  rcases open_slice Try.underlying22 hf with ⟨hcs, _⟩ | ⟨x, l, c, mm, n, D, Pl, hcs, hb, hl, hm, hmm, _, hx⟩
  · simp [Value.cells] at hcs
    obtain ⟨rfl, rfl, rfl⟩ := hcs
    exact ⟨fun _ => ⟨0, ByteArray.empty, 0⟩, by omega, fun j hj => by omega, fun h => by omega⟩
  · simp [Value.cells] at hcs
    obtain ⟨rfl, rfl, rfl⟩ := hcs
    simp only [if_true] at hmm
    have each : ∀ i, i < len → ∃ q : Ac, q.kind < 256 ∧ In q.n ∧ W.cell? (x.add (i * 3)) = some (.int .u8 (q.kind : Nat)) ∧ W.cell? (x.add (i * 3 + 1)) = some (.string q.s) ∧ W.cell? (x.add (i * 3 + 2)) = some (.int .i64 q.n) := by
      intro i hi
      obtain ⟨cs', h1, h2⟩ := hx i (by omega)
      rw [cells28] at h1
      obtain ⟨_, hlen, hcell⟩ := World.cells?_some h1
      obtain ⟨xs, k, hk, hxy, _, hxl, hf⟩ := DataW.trod_struct he h2
      match xs, hxl, cs', hlen with
      | [y0, y1, y2], _, [v0, v1, v2], _ =>
        have g0 := hf 0 f0 rfl
        have g1 := hf 1 f1 rfl
        have g2 := hf 2 f2 rfl
        simp [o0, o1, o2, t0, t1, t2, cells5, cells3, cells9] at g0 g1 g2
        have e0 := hcell 0 (by omega)
        have e1 := hcell 1 (by omega)
        have e2 := hcell 2 (by omega)
        rw [add_add] at e0 e1 e2
        obtain ⟨n0, c0, _, w0⟩ := DataW.trod_int Try.underlying5 g0
        obtain ⟨n1, c1, _, w1⟩ := DataW.trod_string Try.underlying9 g1
        obtain ⟨n2, c2, _, w2⟩ := DataW.trod_int Try.underlying3 g2
        simp at c0 c1 c2
        subst c0 c1 c2
        obtain ⟨m0, rfl, hm0⟩ := u8_of_wf w0
        exact ⟨⟨m0, n1, n2⟩, hm0, in_of_wf w2, by simpa using e0, by simpa using e1, by simpa using e2⟩
    obtain ⟨q, hq⟩ := choose_lt each
    refine ⟨q, by unfold maxLen at hm; omega, fun j hj => ⟨(hq j hj).1, (hq j hj).2.1⟩, fun h0 => ⟨x, rfl, ?_, fun j hj => by rw [add_next _ _ _ (by omega), add_next _ _ _ (by omega)]; exact (hq j hj).2.2⟩⟩
    have := World.block_lt_of_cell? W _ (hq 0 h0).2.2.1
    have e : (x.add (0 * 3)).block = x.block := by unfold Addr.add; split <;> rfl
    rw [e] at this
    exact this

end Go.Proofs.Ythobbnmdpkginaa
