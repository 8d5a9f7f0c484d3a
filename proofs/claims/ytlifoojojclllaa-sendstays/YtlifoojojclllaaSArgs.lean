/-
  Numbers, texts, lists of numbers, of texts and of calls as they are handed in.
-/
import Derived.Test.YtlifoojojclllaaSAwake
import Derived.Deep.Slices
import Derived.ChangeSame
import Derived.SliceStrings
import Derived.ProofKit
import Derived.OpenShut
import Derived.ShutString
import Derived.ChangeOld
import Derived.Below
import Derived.Deep.CondSized
namespace Go.Proofs.Ytlifoojojclllaa
open Go.ChangeShapes Go.WideShapes Go.ChangeAt Go.RowKit Go.Deep
set_option linter.unusedVariables false
def In (a : Int) : Prop := -9223372036854775808 ≤ a ∧ a ≤ 9223372036854775807
theorem in_of_wf {a : Int} (h : (Lit.int .i64 a).wf = true) : In a := by
  unfold In
  simp [Lit.wf, IntKind.min, IntKind.max, IntKind.bits, IntKind.signed] at h
  omega
theorem u64_of_wf {a : Int} (h : (Lit.int .u64 a).wf = true) : ∃ n : Nat, a = n ∧ n < 18446744073709551616 := by
  simp [Lit.wf, IntKind.min, IntKind.max, IntKind.bits, IntKind.signed] at h
  exact ⟨a.toNat, by omega, by omega⟩
theorem u32_of_wf {a : Int} (h : (Lit.int .u32 a).wf = true) : ∃ n : Nat, a = n ∧ n < 4294967296 := by
  simp [Lit.wf, IntKind.min, IntKind.max, IntKind.bits, IntKind.signed] at h
  exact ⟨a.toNat, by omega, by omega⟩
theorem u16_of_wf {a : Int} (h : (Lit.int .u16 a).wf = true) : ∃ n : Nat, a = n ∧ n < 65536 := by
  simp [Lit.wf, IntKind.min, IntKind.max, IntKind.bits, IntKind.signed] at h
  exact ⟨a.toNat, by omega, by omega⟩
theorem u8_of_wf {a : Int} (h : (Lit.int .u8 a).wf = true) : ∃ n : Nat, a = n ∧ n < 256 := by
  simp [Lit.wf, IntKind.min, IntKind.max, IntKind.bits, IntKind.signed] at h
  exact ⟨a.toNat, by omega, by omega⟩

theorem own : ownKnob Try.prog.godebug = none := by kernel_rfl
theorem laidOut : laidOutB Try.prog = true := by kernel_rfl

/-- A list of numbers that was handed in. -/
structure Nums (W : World) (k : IntKind) (a : Option Addr) (len B : Nat) (xs : List Nat) : Prop where
  length : xs.length = len
  max : len ≤ 9223372036854775807
  lt : ∀ j, xs.getD j 0 < B
  cell : 0 < len → ∃ ad, a = some ad ∧ ad.block < W.heap.size ∧ ∀ j, j < len → W.cell? (ad.add j) = some (.int k (xs.getD j 0 : Nat))
theorem Nums.turned {W w : World} {k : IntKind} {a : Option Addr} {len B : Nat} {xs : List Nat} (h : Nums W k a len B xs) (t : Turned (fun _ => False) W w) : Nums w k a len B xs where
  length := h.length
  max := h.max
  lt := h.lt
  cell := fun h0 => by
    obtain ⟨ad, e, hb, hc⟩ := h.cell h0
    refine ⟨ad, e, Nat.lt_of_lt_of_le hb t.size, fun j hj => ?_⟩
    rw [World.cell?_of_block (w := W)]
    · exact hc j hj
    · have : (ad.add j).block = ad.block := by unfold Addr.add; split <;> rfl
      rw [this]
      exact t.block _ hb (fun f => f)

theorem open_nums {H : Type} {enc : TypeId × Value → H} {W : World} {a : Option Addr} {t e : TypeId} {k : IntKind} {len cap B : Nat} {d : DataW H} {p : List MemPlace} (ht : Try.prog.underlying t = some (.slice e)) (he : Try.prog.underlying e = some (.int k)) (hc : Try.prog.cellsOf e = 1)
    (hB : ∀ z : Int, (Lit.int k z).wf = true → ∃ n : Nat, z = n ∧ n < B) (hB0 : 0 < B) (h : DataW.Trod enc Try.prog W 0 (fun _ => true) true t (.slice a len cap) d p) : ∃ xs, Nums W k a len B xs := by
  obtain ⟨fuel, hf⟩ := h
  rcases open_ints ht he hc hf with ⟨hcs, _⟩ | ⟨x, l, c, zs, hcs, _, hl, hm, hz, hx, hcell, hwz⟩
  · simp [Value.cells] at hcs
    obtain ⟨rfl, rfl, rfl⟩ := hcs
    exact ⟨[], rfl, by omega, fun j => by simpa using hB0, fun h => by omega⟩
  · simp [Value.cells] at hcs
    obtain ⟨rfl, rfl, rfl⟩ := hcs
    simp only [if_true] at hz
    have hw : ∀ j, j < len → ∃ n : Nat, zs.getD j 0 = n ∧ n < B := fun j hj => by
      have hi2 : j < zs.length := by omega
      exact hB _ (hwz (zs.getD j 0) (by simp [List.getD, List.getElem?_eq_getElem hi2]))
    have hg : ∀ j, j < len → ((zs.take len).map Int.toNat).getD j 0 = (zs.getD j 0).toNat := fun j hj => by
      have hi2 : j < zs.length := by omega
      simp [List.getD, hj, List.getElem?_eq_getElem hi2]
    refine ⟨(zs.take len).map Int.toNat, by simp; omega, by unfold maxLen at hm; omega, fun j => ?_, fun h0 => ⟨x, rfl, ?_, fun j hj => ?_⟩⟩
    · by_cases hj : j < len
      · obtain ⟨n, e1, e2⟩ := hw j hj
        rw [hg j hj, e1]
        simpa using e2
      · rw [List.getD_eq_getElem?_getD, List.getElem?_eq_none (by simp; omega)]
        exact hB0
    · have := World.block_lt_of_cell? W _ (hcell 0 (by omega))
      have e : (x.add 0).block = x.block := by unfold Addr.add; split <;> rfl
      rw [e] at this
      exact this
    · rw [hcell j (by omega), hg j hj]
      obtain ⟨n, e1, e2⟩ := hw j hj
      rw [e1]
      rfl

theorem cells5 : Try.prog.cellsOf 5 = 1 := by kernel_rfl
theorem cells9 : Try.prog.cellsOf 9 = 1 := by kernel_rfl
theorem cells3 : Try.prog.cellsOf 3 = 1 := by kernel_rfl
theorem cells28 : Try.prog.cellsOf 28 = 1 := by kernel_rfl
theorem cells29 : Try.prog.cellsOf 29 = 1 := by kernel_rfl
theorem cells31 : Try.prog.cellsOf 31 = 3 := by kernel_rfl
theorem cells54 : Try.prog.cellsOf 54 = 4 := by kernel_rfl
theorem bytes9 : Try.prog.bytesOf 9 = 16 := by kernel_rfl

/-- A list of texts, read alone. -/
def Tx (w : World) (v : Value) (xs : List Value) : Prop :=
  ∃ ao cap, v = .slice ao xs.length cap ∧ xs.length ≤ cap ∧ cap ≤ 9223372036854775807 ∧ (∀ x ∈ xs, ∃ s, x = .string s) ∧ (0 < xs.length → ∃ b off, ao = some ⟨b, off, none⟩ ∧ b < w.heap.size ∧ ∀ j x, xs[j]? = some x → w.cell? ⟨b, off + j, none⟩ = some x)
theorem Tx.turned {W w : World} {v : Value} {xs : List Value} (h : Tx W v xs) (t : Turned (fun _ => False) W w) : Tx w v xs := by
  obtain ⟨ao, cap, rfl, h1, h2, h3, h4⟩ := h
  refine ⟨ao, cap, rfl, h1, h2, h3, fun h0 => ?_⟩
  obtain ⟨b, off, e, hb, hc⟩ := h4 h0
  refine ⟨b, off, e, Nat.lt_of_lt_of_le hb t.size, fun j x hj => ?_⟩
  rw [cell_block (t.block b hb (fun f => f))]
  exact hc j x hj
/-- It stays where others' blocks turn. -/
theorem Tx.apart {W w : World} {F : Nat → Prop} {v : Value} {xs : List Value} (h : Tx W v xs) (t : Turned F W w) (hF : ∀ b, v.ownBlock = some b → b < W.heap.size → ¬ F b) : Tx w v xs := by
  obtain ⟨ao, cap, rfl, h1, h2, h3, h4⟩ := h
  refine ⟨ao, cap, rfl, h1, h2, h3, fun h0 => ?_⟩
  obtain ⟨b, off, rfl, hb, hc⟩ := h4 h0
  refine ⟨b, off, rfl, Nat.lt_of_lt_of_le hb t.size, fun j x hj => ?_⟩
  rw [cell_block (t.block b hb (hF b rfl hb))]
  exact hc j x hj
theorem Tx.strs {w : World} {v : Value} {xs : List Value} (h : Tx w v xs) : Strs w v xs := by
  obtain ⟨ao, cap, rfl, h1, h2, h3, h4⟩ := h
  refine ⟨ao, cap, rfl, fun j x hj => ?_⟩
  have hjl := (List.getElem?_eq_some_iff.1 hj).1
  obtain ⟨b, off, rfl, hb, hc⟩ := h4 (by omega)
  obtain ⟨s, rfl⟩ := h3 x (List.mem_of_getElem? hj)
  exact ⟨s, _, rfl, rfl, by rw [add_flat]; exact hc j _ hj⟩
theorem Tx.txt {w : World} {v : Value} {xs : List Value} (h : Tx w v xs) : ∀ x ∈ xs, ∃ s, x = .string s := by
  obtain ⟨ao, cap, rfl, h1, h2, h3, h4⟩ := h
  exact h3
theorem Tx.at {w : World} {ao : Option Addr} {n cap : Nat} {xs : List Value} (h : Tx w (.slice ao n cap) xs) {j : Nat} (hj : j < n) : n = xs.length ∧ n ≤ cap ∧ ∃ b off s, ao = some ⟨b, off, none⟩ ∧ xs[j]? = some (.string s) ∧ w.cell? ⟨b, off + j, none⟩ = some (.string s) := by
  obtain ⟨ao', cap', hv, h1, h2, h3, h4⟩ := h
  obtain ⟨rfl, rfl, rfl⟩ : ao = ao' ∧ n = xs.length ∧ cap = cap' := by simpa using hv
  obtain ⟨b, off, rfl, hb, hc⟩ := h4 (by omega)
  obtain ⟨s, hs⟩ := h3 xs[j] (List.getElem_mem hj)
  have hx : xs[j]? = some (.string s) := by rw [List.getElem?_eq_getElem hj, hs]
  exact ⟨rfl, h1, b, off, s, rfl, hx, hc j _ hx⟩
theorem Lst.tx {w : World} {v : Value} {xs : List Value} (h : Lst w v xs) (hn : xs.length ≤ 100000) (hc : ∀ ao n c, v = .slice ao n c → c ≤ 9223372036854775807) : Tx w v xs := by
  obtain ⟨h0, ao, cap, rfl, ⟨rfl, rfl, rfl⟩ | ⟨b, off, N, f, rfl, hr, h1, h2, h3⟩⟩ := h
  · exact ⟨none, 0, rfl, by simp, by omega, h0, fun h => by simp at h⟩
  · exact ⟨_, cap, rfl, h2, hc _ _ _ rfl, h0, fun _ => ⟨b, off, rfl, hr.lt, fun j x hj => by rw [hr.cell (by have := (List.getElem?_eq_some_iff.1 hj).1; omega), h3 j x hj]⟩⟩
theorem trod_texts {H : Type} {enc : TypeId × Value → H} {W : World} {held : Bool} {fuel : Nat} {cs : List Value} {y : DataW H × List MemPlace} (hf : DataW.trod enc Try.prog W 0 (fun _ => true) held fuel 28 cs = some y) : ∃ a len cap xs, cs = [.slice a len cap] ∧ Tx W (.slice a len cap) xs := by
  rcases open_strings Try.underlying28 Try.underlying9 cells9 hf with ⟨hcs, _⟩ | ⟨x, l, c, ss, hcs, _, hl, hm, hz, hx, hcell, hws⟩
  · exact ⟨none, 0, 0, [], hcs, none, 0, rfl, by simp, by omega, by simp, fun h => by simp at h⟩
  · simp only [if_true] at hz
    have hlen : ((ss.take l).map Value.string).length = l := by simp; omega
    refine ⟨some x, l, c, (ss.take l).map Value.string, hcs, some x, c, by rw [hlen], by omega, by unfold maxLen at hm; omega, fun v hv => ?_, fun h0 => ?_⟩
    · obtain ⟨s, _, rfl⟩ := List.mem_map.1 hv
      exact ⟨s, rfl⟩
    · rw [hlen] at h0
      obtain ⟨b, off, spot⟩ := x
      have h00 := hcell 0 (by omega)
      have hs : spot = none := by simpa [Addr.add] using World.cell?_spot h00
      subst hs
      refine ⟨b, off, rfl, ?_, fun j v hj => ?_⟩
      · have := World.block_lt_of_cell? W _ h00
        simpa [Addr.add] using this
      · have hjl := (List.getElem?_eq_some_iff.1 hj).1
        rw [hlen] at hjl
        have hc := hcell j (by omega)
        rw [Addr.add_lit] at hc
        rw [hc]
        have hj2 : j < ss.length := by omega
        rw [List.getElem?_map, List.getElem?_take, if_pos hjl, List.getElem?_eq_getElem hj2] at hj
        simp only [Option.map_some, Option.some.injEq] at hj
        rw [← hj]
        simp [List.getD, List.getElem?_eq_getElem hj2]
theorem open_texts {H : Type} {enc : TypeId × Value → H} {W : World} {a : Option Addr} {len cap : Nat} {d : DataW H} {p : List MemPlace} (h : DataW.Trod enc Try.prog W 0 (fun _ => true) true 28 (.slice a len cap) d p) : ∃ xs, Tx W (.slice a len cap) xs := by
  obtain ⟨fuel, hf⟩ := h
  obtain ⟨a', len', cap', xs, hcs, hx⟩ := trod_texts hf
  simp [Value.cells] at hcs
  obtain ⟨rfl, rfl, rfl⟩ := hcs
  exact ⟨xs, hx⟩
theorem size_texts {H : Type} {enc : TypeId × Value → H} {W : World} {a : Option Addr} {len cap : Nat} {d : DataW H} {p : List MemPlace} {ts : List TypeId} {ds : List (DataW H)} {j : Nat}
    (h : DataW.Trod enc Try.prog W 0 (fun _ => true) true 28 (.slice a len cap) d p) (hsz : (DataW.weightsEach Try.prog ts ds).all (· ≤ reachBytes) = true) (ht : ts[j]? = some 28) (hd : ds[j]? = some d) : len ≤ 140737488355328 := by
  obtain ⟨fuel, hf⟩ := h
  rcases open_slice Try.underlying28 hf with ⟨hcs, _⟩ | ⟨x, l, c, mm, n, D, Pl, hcs, hb, hl, hm, hmm, hx, _⟩
  · simp [Value.cells] at hcs
    obtain ⟨rfl, rfl, rfl⟩ := hcs
    omega
  · simp [Value.cells] at hcs
    obtain ⟨rfl, rfl, rfl⟩ := hcs
    simp only [Prod.mk.injEq] at hx
    obtain ⟨rfl, _⟩ := hx
    have := sized_slice hsz ht hd Try.underlying28
    rw [bytes9] at this
    simp only [List.length_map, List.length_range, reachBytes] at this
    omega

theorem add_next (ad : Addr) (n j : Nat) (hj : 0 < j) : (⟨(ad.add n).block, (ad.add n).off + j, none⟩ : Addr) = ad.add (n + j) := by
  unfold Addr.add
  rw [if_neg (by omega : ¬ n + j = 0)]
  split
  · next h => subst h; simp
  · simp; omega

structure Ac where
  kind : Nat
  s : ByteArray
  n : Nat
instance : Inhabited Ac := ⟨⟨0, ByteArray.empty, 0⟩⟩

/-- A list of calls that was handed in. -/
structure Acts (W : World) (a : Option Addr) (len : Nat) (xs : Nat → Ac) : Prop where
  max : len ≤ 9223372036854775807
  lt : ∀ j, j < len → (xs j).kind < 256 ∧ (xs j).n < 18446744073709551616
  cell : 0 < len → ∃ ad, a = some ad ∧ ad.block < W.heap.size ∧ ∀ j, j < len → W.cell? (ad.add (j * 3)) = some (.int .u8 ((xs j).kind : Nat)) ∧ W.cell? ⟨(ad.add (j * 3)).block, (ad.add (j * 3)).off + 1, none⟩ = some (.string (xs j).s) ∧ W.cell? ⟨(ad.add (j * 3)).block, (ad.add (j * 3)).off + 2, none⟩ = some (.int .u64 ((xs j).n : Nat))
theorem Acts.turned {W w : World} {a : Option Addr} {len : Nat} {xs : Nat → Ac} (h : Acts W a len xs) (t : Turned (fun _ => False) W w) : Acts w a len xs where
  max := h.max
  lt := h.lt
  cell := fun h0 => by
    obtain ⟨ad, e, hb, hc⟩ := h.cell h0
    have hk : ∀ n, w.cell? (ad.add n) = W.cell? (ad.add n) := fun n => by
      rw [World.cell?_of_block (w := W)]
      have : (ad.add n).block = ad.block := by unfold Addr.add; split <;> rfl
      rw [this]
      exact t.block _ hb (fun f => f)
    refine ⟨ad, e, Nat.lt_of_lt_of_le hb t.size, fun j hj => ?_⟩
    have h3 := hc j hj
    rw [add_next _ _ _ (by omega), add_next _ _ _ (by omega)] at h3 ⊢
    rw [hk, hk, hk]
    exact h3

theorem act31 : ∃ f0 f1 f2 : Field, Try.prog.underlying 31 = some (.struct #[f0, f1, f2]) ∧ f0.offset = 0 ∧ f1.offset = 1 ∧ f2.offset = 2 ∧ f0.type = 5 ∧ f1.type = 9 ∧ f2.type = 29 :=
  ⟨_, _, _, Try.underlying31, rfl, rfl, rfl, rfl, rfl, rfl⟩

set_option maxRecDepth 100000 in
theorem open_acts {H : Type} {enc : TypeId × Value → H} {W : World} {a : Option Addr} {len cap : Nat} {d : DataW H} {p : List MemPlace} (h : DataW.Trod enc Try.prog W 0 (fun _ => true) true 22 (.slice a len cap) d p) : ∃ xs, Acts W a len xs := by
  obtain ⟨fuel, hf⟩ := h
  obtain ⟨f0, f1, f2, he, o0, o1, o2, t0, t1, t2⟩ := act31
  rcases open_slice Try.underlying22 hf with ⟨hcs, _⟩ | ⟨x, l, c, mm, n, D, Pl, hcs, hb, hl, hm, hmm, _, hx⟩
  · simp [Value.cells] at hcs
    obtain ⟨rfl, rfl, rfl⟩ := hcs
    exact ⟨fun _ => ⟨0, ByteArray.empty, 0⟩, by omega, fun j hj => by omega, fun h => by omega⟩
  · simp [Value.cells] at hcs
    obtain ⟨rfl, rfl, rfl⟩ := hcs
    simp only [if_true] at hmm
    have each : ∀ i, i < len → ∃ q : Ac, q.kind < 256 ∧ q.n < 18446744073709551616 ∧ W.cell? (x.add (i * 3)) = some (.int .u8 (q.kind : Nat)) ∧ W.cell? (x.add (i * 3 + 1)) = some (.string q.s) ∧ W.cell? (x.add (i * 3 + 2)) = some (.int .u64 (q.n : Nat)) := by
      intro i hi
      obtain ⟨cs', h1, h2⟩ := hx i (by omega)
      rw [cells31] at h1
      obtain ⟨_, hlen, hcell⟩ := World.cells?_some h1
      obtain ⟨xs, k, hk, hxy, _, hxl, hf⟩ := DataW.trod_struct he h2
      match xs, hxl, cs', hlen with
      | [y0, y1, y2], _, [v0, v1, v2], _ =>
        have g0 := hf 0 f0 rfl
        have g1 := hf 1 f1 rfl
        have g2 := hf 2 f2 rfl
        simp [o0, o1, o2, t0, t1, t2, cells5, cells29, cells9] at g0 g1 g2
        have e0 := hcell 0 (by omega)
        have e1 := hcell 1 (by omega)
        have e2 := hcell 2 (by omega)
        rw [add_add] at e0 e1 e2
        obtain ⟨n0, c0, _, w0⟩ := DataW.trod_int Try.underlying5 g0
        obtain ⟨n1, c1, _, w1⟩ := DataW.trod_string Try.underlying9 g1
        obtain ⟨n2, c2, _, w2⟩ := DataW.trod_int Try.underlying29 g2
        simp at c0 c1 c2
        subst c0 c1 c2
        obtain ⟨m0, rfl, hm0⟩ := u8_of_wf w0
        obtain ⟨m2, rfl, hm2⟩ := u64_of_wf w2
        exact ⟨⟨m0, n1, m2⟩, hm0, hm2, by simpa using e0, by simpa using e1, by simpa using e2⟩
    obtain ⟨q, hq⟩ := choose_lt each
    refine ⟨q, by unfold maxLen at hm; omega, fun j hj => ⟨(hq j hj).1, (hq j hj).2.1⟩, fun h0 => ⟨x, rfl, ?_, fun j hj => by rw [add_next _ _ _ (by omega), add_next _ _ _ (by omega)]; exact (hq j hj).2.2⟩⟩
    have := World.block_lt_of_cell? W _ (hq 0 h0).2.2.1
    have e : (x.add (0 * 3)).block = x.block := by unfold Addr.add; split <;> rfl
    rw [e] at this
    exact this

theorem act54 : ∃ f0 f1 f2 f3 : Field, Try.prog.underlying 54 = some (.struct #[f0, f1, f2, f3]) ∧ f0.offset = 0 ∧ f1.offset = 1 ∧ f2.offset = 2 ∧ f3.offset = 3 ∧ f0.type = 5 ∧ f1.type = 29 ∧ f2.type = 5 ∧ f3.type = 28 :=
  ⟨_, _, _, _, Try.underlying54, rfl, rfl, rfl, rfl, rfl, rfl, rfl, rfl⟩
/-- A call of a receiver. -/
structure Rc where
  kind : Nat
  base : Nat
  near : Nat
  ao : Option Addr
  n : Nat
  cap : Nat
  xs : List Value
instance : Inhabited Rc := ⟨⟨0, 0, 0, none, 0, 0, []⟩⟩
structure RcOk (W : World) (x : Rc) : Prop where
  kind : x.kind < 256
  base : x.base < 18446744073709551616
  near : x.near < 256
  tx : Tx W (.slice x.ao x.n x.cap) x.xs
theorem trod_rc {H : Type} {enc : TypeId × Value → H} {W : World} {held : Bool} {fuel : Nat} {cs : List Value} {y : DataW H × List MemPlace} (h : DataW.trod enc Try.prog W 0 (fun _ => true) held fuel 54 cs = some y) :
    ∃ x : Rc, cs = [.int .u8 (x.kind : Nat), .int .u64 (x.base : Nat), .int .u8 (x.near : Nat), .slice x.ao x.n x.cap] ∧ RcOk W x := by
  obtain ⟨f0, f1, f2, f3, he, p0, p1, p2, p3, t0, t1, t2, t3⟩ := act54
  obtain ⟨xs, k, hk, hxy, hcl, hxl, hg⟩ := DataW.trod_struct he h
  rw [cells54] at hcl
  subst hxy
  match xs, hxl, cs, hcl with
  | [y0, y1, y2, y3], _, [v0, v1, v2, v3], _ =>
    have a0 := hg 0 f0 rfl
    have a1 := hg 1 f1 rfl
    have a2 := hg 2 f2 rfl
    have a3 := hg 3 f3 rfl
    simp [p0, p1, p2, p3, t0, t1, t2, t3, cells5, cells29, cells28] at a0 a1 a2 a3
    obtain ⟨n0, c0, _, w0⟩ := DataW.trod_int Try.underlying5 a0
    obtain ⟨n1, c1, _, w1⟩ := DataW.trod_int Try.underlying29 a1
    obtain ⟨n2, c2, _, w2⟩ := DataW.trod_int Try.underlying5 a2
    obtain ⟨ao, n, cap, ys, hcs, hrw⟩ := trod_texts a3
    simp at c0 c1 c2 hcs
    obtain ⟨m0, e0, hm0⟩ := u8_of_wf w0
    obtain ⟨m1, e1, hm1⟩ := u64_of_wf w1
    obtain ⟨m2, e2, hm2⟩ := u8_of_wf w2
    subst c0 c1 c2 hcs e0 e1 e2
    exact ⟨⟨m0, m1, m2, ao, n, cap, ys⟩, rfl, ⟨hm0, hm1, hm2, hrw⟩⟩
/-- A list of calls of a receiver. -/
structure Rcs (W : World) (a : Option Addr) (len : Nat) (xs : Nat → Rc) : Prop where
  max : len ≤ 9223372036854775807
  ok : ∀ j, j < len → RcOk W (xs j)
  cell : 0 < len → ∃ b off, a = some ⟨b, off, none⟩ ∧ b < W.heap.size ∧ ∀ j, j < len → W.cell? ⟨b, off + j * 4, none⟩ = some (.int .u8 ((xs j).kind : Nat)) ∧ W.cell? ⟨b, off + j * 4 + 1, none⟩ = some (.int .u64 ((xs j).base : Nat)) ∧ W.cell? ⟨b, off + j * 4 + 2, none⟩ = some (.int .u8 ((xs j).near : Nat)) ∧ W.cell? ⟨b, off + j * 4 + 3, none⟩ = some (.slice (xs j).ao (xs j).n (xs j).cap)
theorem Rcs.turned {W w : World} {a : Option Addr} {len : Nat} {xs : Nat → Rc} (h : Rcs W a len xs) (t : Turned (fun _ => False) W w) : Rcs w a len xs where
  max := h.max
  ok := fun j hj => ⟨(h.ok j hj).kind, (h.ok j hj).base, (h.ok j hj).near, (h.ok j hj).tx.turned t⟩
  cell := fun h0 => by
    obtain ⟨b, off, e, hb, hc⟩ := h.cell h0
    refine ⟨b, off, e, Nat.lt_of_lt_of_le hb t.size, fun j hj => ?_⟩
    have hk := fun o => cell_block (o := o) (t.block b hb (fun f => f))
    rw [hk, hk, hk, hk]
    exact hc j hj
theorem open_rcs {H : Type} {enc : TypeId × Value → H} {W : World} {a : Option Addr} {len cap : Nat} {d : DataW H} {p : List MemPlace} (h : DataW.Trod enc Try.prog W 0 (fun _ => true) true 49 (.slice a len cap) d p) : ∃ xs, Rcs W a len xs := by
  obtain ⟨fuel, hf⟩ := h
  rcases open_slice Try.underlying49 hf with ⟨hcs, _⟩ | ⟨x, l, c, mm, n, D, Pl, hcs, hb, hl, hm, hmm, hy, hx⟩
  · simp [Value.cells] at hcs
    obtain ⟨rfl, rfl, rfl⟩ := hcs
    exact ⟨fun _ => ⟨0, 0, 0, none, 0, 0, []⟩, ⟨by omega, fun j hj => by omega, fun h => by omega⟩⟩
  · simp [Value.cells] at hcs
    obtain ⟨rfl, rfl, rfl⟩ := hcs
    simp only [if_true] at hmm
    have each : ∀ i, i < len → ∃ q : Rc, RcOk W q ∧ W.cell? (x.add (i * 4)) = some (.int .u8 (q.kind : Nat)) ∧ W.cell? (x.add (i * 4 + 1)) = some (.int .u64 (q.base : Nat)) ∧ W.cell? (x.add (i * 4 + 2)) = some (.int .u8 (q.near : Nat)) ∧ W.cell? (x.add (i * 4 + 3)) = some (.slice q.ao q.n q.cap) := by
      intro i hi
      obtain ⟨cs', h1, h2⟩ := hx i (by omega)
      rw [cells54] at h1
      obtain ⟨_, hlen, hcell⟩ := World.cells?_some h1
      obtain ⟨q, rfl, hok⟩ := trod_rc h2
      have e0 := hcell 0 (by omega)
      have e1 := hcell 1 (by omega)
      have e2 := hcell 2 (by omega)
      have e3 := hcell 3 (by omega)
      rw [add_add] at e0 e1 e2 e3
      exact ⟨q, hok, e0, e1, e2, e3⟩
    obtain ⟨q, hq⟩ := choose_lt each
    refine ⟨q, ⟨by unfold maxLen at hm; omega, fun j hj => (hq j hj).1, fun h0 => ?_⟩⟩
    obtain ⟨b, off, spot⟩ := x
    have hs : spot = none := by
      have := (hq 0 h0).2.1
      simpa [Addr.add] using World.cell?_spot this
    subst hs
    have hb0 := World.block_lt_of_cell? W _ (hq 0 h0).2.1
    refine ⟨b, off, rfl, by simpa [Addr.add] using hb0, fun j hj => ?_⟩
    have := (hq j hj).2
    rw [Addr.add_lit, Addr.add_lit, Addr.add_lit, Addr.add_lit, ← Nat.add_assoc, ← Nat.add_assoc, ← Nat.add_assoc] at this
    exact this
end Go.Proofs.Ytlifoojojclllaa
