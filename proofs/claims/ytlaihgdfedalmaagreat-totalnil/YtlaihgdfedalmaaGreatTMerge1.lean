/-
  One more entry behind a row of one's own, its row in a box.
-/
import Derived.Test.YtlaihgdfedalmaaGreatTMerge0
import Derived.Test.YtlaihgdfedalmaaGreatNHold
import Derived.Test.YtlaihgdfedalmaaGreatFFind
namespace Go.Proofs.YtlaihgdfedalmaaGreat
open Go.RowKit
set_option linter.unusedVariables false
set_option linter.unusedSimpArgs false

/-- Those of some places that are the first of their label. -/
def keptL {N : Nat} (F : List En) (pre : List { k : Nat // k < N }) : List En := (pre.filter (fun x => abvE F x.1)).filterMap (fun x => F[x.1]?)
theorem keptL_snoc {N : Nat} (F : List En) (pre : List { k : Nat // k < N }) (x : { k : Nat // k < N }) (e : En) (h : F[x.1]? = some e) : keptL F (pre ++ [x]) = if abvE F x.1 then keptL F pre ++ [e] else keptL F pre := by
  unfold keptL
  rw [List.filter_append]
  cases hb : abvE F x.1 <;> simp [hb, h]
theorem keptL_len {N : Nat} (F : List En) (pre : List { k : Nat // k < N }) : (keptL F pre).length ≤ pre.length := by
  unfold keptL
  exact Nat.le_trans (List.length_filterMap_le _ _) (List.length_filter_le _ _)
theorem keptL_firsts {N : Nat} (F : List En) : ∀ (k : Nat) (h : k ≤ N), N = F.length → keptL F (firsts N k h) = keptE F k
  | 0, _, _ => by simp [firsts, keptL, keptE]
  | k + 1, h, hN => by
    have he : F[k]? = some (F[k]'(by omega)) := List.getElem?_eq_getElem (by omega)
    show keptL F (firsts N k (by omega) ++ [⟨k, by omega⟩]) = _
    rw [keptL_snoc F _ ⟨k, by omega⟩ _ he, keptE_succ F k _ he, keptL_firsts F k (by omega) hN]
theorem run_append_EO {B : Nat} {w : World} {v : Value} {es : List En} (h : EO B w v es) (ad : Addr) (c : Nat) (x : Lb) (s : Sl) (em : List UInt8) (hcs : ∀ j u, (cells5 (x, s))[j]? = some u → w.cell? (ad.add j) = some u)
    (hrow : Cd.Row w s.1 s.2.1 s.2.2 em) (hb : ∀ a, s.1 = some a → 0 < s.2.1 → B ≤ a.block ∧ v.ownBlock ≠ some a.block) (hn : es.length ≤ 1000000) (hB : B ≤ w.heap.size) (ty : TypeId) :
    ∃ v' w', (Builtin.append_ #[42, 42] ty #[v, .slice (some ad) 1 c]).run Tryz.prog w = .ok v' w' ∧ EO B w' v' (es ++ [(x, em)]) ∧ w.grownBy w' v.ownBlock ∧ (v'.ownBlock = v.ownBlock ∨ v'.ownBlock = some w.heap.size) := by
  obtain ⟨xs, hl, ho, hm⟩ := h
  obtain ⟨i0, hi0, hz0, hz1, hz2⟩ := info_parts infoE29
  obtain ⟨v', w', hr, ho', hg, _, hat⟩ := run_append_own_at (P := Tryz.prog) w B 42 ty 41 i0 (.agg #[.int .u64 0, .int .i64 0, .int .u64 0, .int .i64 0, .slice none 0 0]) 5 56 und35 hi0 hz0 hz1 hz2 rfl (by decide) v es.length (flatE xs) ho ad 1 c (cells5 (x, s)) (by simp [cells5]) hcs (fun u hu => by simp [cells5] at hu; rcases hu with rfl | rfl | rfl | rfl | rfl <;> rfl) (by unfold maxLen; omega) (by omega) hB
  exact ⟨v', w', hr, EO.snoc (e := (x, em)) hl hm hrow hb ho' hg hat, hg, hat⟩
/-- A box turns that is none of its blocks. -/
theorem EO.box {B : Nat} {w : World} {v : Value} {es : List En} (h : EO B w v es) (b : Nat) (u u' : Value) (t : TypeId) (hb : w.heap[b]? = some (.cells #[u] t (0, 0))) (hu : ∀ k i, u ≠ .int k i) (hv : v.ownBlock ≠ some b) : EO B (w.setRow b #[u']) v es := by
  have hg : w.grownBy (w.setRow b #[u']) (some b) := T.gr_setRow _ _ _
  obtain ⟨xs, hl, ho, hm⟩ := h
  refine ⟨xs, hl, ho.kept (row := some b) hg (Or.inr hv), fun j e x he hx => ?_⟩
  obtain ⟨h1, h2, h3⟩ := hm j e x he hx
  refine ⟨h1, row_grown h2 hg (fun a ha hn e' => ?_), fun a ha hn => ⟨(h3 a ha hn).1, by rw [setRow_size]; exact (h3 a ha hn).2.1, (h3 a ha hn).2.2⟩⟩
  have hc := h2.2.2.2.2 a ha 0 hn
  simp only [Option.some.injEq] at e'
  unfold World.cell? at hc
  rw [add_block, ← e', hb] at hc
  simp only at hc
  split at hc
  · cases hc
  · obtain ⟨hlt, hv'⟩ := Array.getElem?_eq_some_iff.1 hc
    simp at hlt hv'
    exact hu _ _ hv'
/-- Where a copy of bytes lies. -/
theorem own_bytes {w : World} {B : Nat} {v : Value} {xs : List UInt8} (h : w.ownsRow B 5 1 v xs.length (xs.map Cd.by8)) : ∃ so sc, v = .slice so xs.length sc ∧ Cd.Row w so xs.length sc xs ∧ ∀ a, so = some a → B ≤ a.block ∧ a.block < w.heap.size := by
  obtain ⟨so, sc, e, hr, _⟩ := Cd.owns_row h
  subst e
  refine ⟨so, sc, rfl, hr, fun a ha => ?_⟩
  subst ha
  exact h.lt a.block rfl
end Go.Proofs.YtlaihgdfedalmaaGreat
