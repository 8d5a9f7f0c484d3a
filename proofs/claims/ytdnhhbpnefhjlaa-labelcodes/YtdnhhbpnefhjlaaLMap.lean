/-
  A set of labels: a map from labels to nothing.
-/
import Derived.Test.YtdnhhbpnefhjlaaLSame
import Derived.Maps.OwnSet
import Derived.DeepKeys4
namespace Go.Proofs.Ytdnhhbpnefhjlaa
open Go.RowKit Go.Sort
open Go.Maps (Keyed has size Tidy IsMap)
set_option linter.unusedVariables false

def In (a : Int) : Prop := -9223372036854775808 ≤ a ∧ a ≤ 9223372036854775807
/-- The numbers of a label are numbers of their kinds. -/
def OkL (x : Lb) : Prop := x.1 < 18446744073709551616 ∧ In x.2.1 ∧ x.2.2.1 < 18446744073709551616 ∧ In x.2.2.2
theorem wf_i64 {a : Int} (h : In a) : (Lit.int .i64 a).wf = true := by
  unfold In at h
  simp [Lit.wf, IntKind.min, IntKind.max, IntKind.bits, IntKind.signed]
  omega
theorem wf_u64 {a : Nat} (h : a < 18446744073709551616) : (Lit.int .u64 (a : Int)).wf = true := by
  simp [Lit.wf, IntKind.min, IntKind.max, IntKind.bits, IntKind.signed]
  omega

theorem laidOut : laidOutB Try.prog = true := by kernel_rfl
theorem row26 : (26 : TypeId) < Try.prog.types.size := of_decide_eq_true (by kernel_rfl)
theorem wide26 : (match Try.prog.underlying 26 with | some (.array _ _) | some (.struct _) => true | _ => false) = true := by kernel_rfl
theorem kta26 : Try.prog.keyTypeAt 3 26 = true := by kernel_rfl
set_option maxRecDepth 100000 in
theorem law26 : WideMaps.KeyLaw Try.prog 26 := deep_law_laid laidOut (m := 3) (by omega) row26 kta26 wide26
theorem keyed26 : Keyed Try.prog 26 := Keyed.of_law law26
theorem cells26 : Try.prog.cellsOf 26 = 4 := by kernel_rfl
theorem cells24 : Try.prog.cellsOf 24 = 2 := by kernel_rfl
theorem cells22 : Try.prog.cellsOf 22 = 1 := by kernel_rfl
theorem cells3 : Try.prog.cellsOf 3 = 1 := by kernel_rfl
theorem und83 : Try.prog.underlying 83 = some (.map 26 84) := by kernel_rfl
theorem zero84 (w : World) : (zeroValue 84).run Try.prog w = .ok (.agg #[]) w := by kernel_rfl
theorem kt26 : Try.prog.keyType 26 = true := by kernel_rfl
theorem tsz : Try.prog.types.size + 1 = 122 + 3 := by kernel_rfl

theorem lits22 (d : Nat) {n : Nat} (h : n < 18446744073709551616) : Try.prog.keyLits (d + 1) 22 [.int .u64 (n : Nat)] = some [.int .u64 (n : Nat)] := by
  unfold Program.keyLits; rw [Try.underlying22]; simp [wf_u64 h]
theorem lits3 (d : Nat) {p : Int} (h : In p) : Try.prog.keyLits (d + 1) 3 [.int .i64 p] = some [.int .i64 p] := by
  unfold Program.keyLits; rw [Try.underlying3]; simp [wf_i64 h]
theorem lits24 (d : Nat) {n : Nat} {p : Int} (hn : n < 18446744073709551616) (hp : In p) : Try.prog.keyLits (d + 2) 24 [.int .u64 (n : Nat), .int .i64 p] = some [.int .u64 (n : Nat), .int .i64 p] := by
  have h1 := lits22 d hn
  have h2 := lits3 d hp
  unfold Program.keyLits
  rw [Try.underlying24]
  simp [cells24, cells22, cells3, h1, h2]
theorem lits26 (d : Nat) {x : Lb} (h : OkL x) : Try.prog.keyLits (d + 3) 26 [.int .u64 (x.1 : Nat), .int .i64 x.2.1, .int .u64 (x.2.2.1 : Nat), .int .i64 x.2.2.2] = some [.int .u64 (x.1 : Nat), .int .i64 x.2.1, .int .u64 (x.2.2.1 : Nat), .int .i64 x.2.2.2] := by
  have h1 := lits24 d h.1 h.2.1
  have h2 := lits22 (d + 1) h.2.2.1
  have h3 := lits3 (d + 1) h.2.2.2
  unfold Program.keyLits
  rw [Try.underlying26]
  simp [cells26, cells24, cells22, cells3, h1, h2, h3]
theorem key26 {x : Lb} (h : OkL x) : ∃ k, keyOf Try.prog 26 (lab x) = some k := by
  unfold keyOf lab
  rw [Try.underlying26]
  simp only [kt26, Value.formed, Try.underlying26, cells26, Value.cells, tsz]
  simp [lits26 122 h]

/-- Block b is a set of labels. -/
def SetIs (w : World) (b n : Nat) (ls : List Lb) : Prop :=
  ∃ D : DataW Unit, w.ownsMap Try.prog 26 unitElem b n D ∧ ∀ x k, OkL x → keyOf Try.prog 26 (lab x) = some k → has D k = decide (x ∈ ls)
theorem SetIs.lt {w : World} {b n : Nat} {ls : List Lb} (h : SetIs w b n ls) : b < w.heap.size := by
  obtain ⟨D, h, _⟩ := h; exact h.lt
theorem SetIs.of_block {w w' : World} {b n : Nat} {ls : List Lb} (h : SetIs w b n ls) (hb : w'.heap[b]? = w.heap[b]?) : SetIs w' b n ls := by
  obtain ⟨D, ⟨es, clock, hb', r⟩, h2⟩ := h
  exact ⟨D, ⟨es, clock, by rw [hb]; exact hb', r⟩, h2⟩
theorem set_made (w : World) : SetIs (w.alloc (.map #[] 0)) w.heap.size 0 [] := ⟨.map [], World.ownsMap_made w Try.prog 26 unitElem, fun x k hx hk => by simp [has]⟩
theorem SetIs.look {w : World} {b n : Nat} {ls : List Lb} (h : SetIs w b n ls) {x : Lb} (hx : OkL x) :
    (Instr.lookup 83 (.map (some b)) (lab x) true).run Try.prog w = .ok (.tuple #[.agg #[], .bool (decide (x ∈ ls))]) w := by
  obtain ⟨D, ho, hD⟩ := h
  obtain ⟨k, hk⟩ := key26 hx
  obtain ⟨v, ps, hrun, hv⟩ := ho.look_ok keyed26 und83 (zero84 w) unitElem_mk hk
  rw [hrun, (unitElem_inv hv).1, hD x k hx hk]
theorem lab_inj {x y : Lb} (h : lab x = lab y) : x = y := by
  unfold lab at h
  simp at h
  obtain ⟨a1, a2, a3, a4⟩ := h
  exact Prod.ext (by omega) (Prod.ext a2 (Prod.ext (by omega) a4))
theorem SetIs.store {w : World} {b n : Nat} {ls : List Lb} (h : SetIs w b n ls) (hn : n < maxLen) {x : Lb} (hx : OkL x) :
    ∃ w', (Instr.mapUpdate 83 (.map (some b)) (lab x) (.agg #[])).run Try.prog w = .ok () w' ∧ SetIs w' b (n + 1) (x :: ls) ∧ w.grownBy w' (some b) := by
  obtain ⟨D, ho, hD⟩ := h
  obtain ⟨k, hk⟩ := key26 hx
  obtain ⟨w', hrun, ho', hg⟩ := ho.update keyed26 und83 hn hk unitElem_mk
  refine ⟨w', hrun, ⟨_, ho', fun y ky hy hky => ?_⟩, hg⟩
  by_cases e : y = x
  · subst e
    obtain rfl : k = ky := by rw [hk] at hky; exact Option.some.inj hky
    rw [Maps.has_put_same ho.isMap (keyed26.key hk)]
    simp
  · have hne : ky ≠ k := fun he => e (lab_inj (keyed26.inj (he ▸ hky) hk))
    rw [Maps.has_put_other hne, hD y ky hy hky]
    simp [e]
end Go.Proofs.Ytdnhhbpnefhjlaa
