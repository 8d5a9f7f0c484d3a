/-
  What holds while a node's trace is gone through.
-/
import Derived.Test.YthnbijnpbjfoaaaJBefore
namespace Go.Proofs.Ythnbijnpbjfoaaa
open Go.RowKit Go.Sort
set_option linter.unusedVariables false

theorem own_of_block {w w' : World} {B T z n : Nat} {v : Value} {vs : List Value} (h : w.ownsRow B T z v n vs) (hs : w.heap.size ≤ w'.heap.size) (e : ∀ k, v.ownBlock = some k → w'.heap[k]? = w.heap[k]?) : w'.ownsRow B T z v n vs := by
  refine ⟨h.1, ?_⟩
  rcases h.2 with h0 | ⟨g, cap, cur, rfl, a, b, c⟩
  · exact .inl h0
  · exact .inr ⟨g, cap, cur, rfl, a, by rw [e g rfl]; exact b, c⟩
def pF (pE : Nat → Prop) (W0 q : Nat) (v : Value) (b : Nat) : Prop := (pE b ∨ W0 ≤ b) ∧ b < q ∧ v.ownBlock ≠ some b
structure StI (pE : Nat → Prop) (w0 wr : World) (node : Nat) (es : List Ev) (k : Nat) (done : List Sy) (cur : Sy) (qs : List Nat) (q Z : Nat) (rl : Sr) : Prop where
  run : runD node (es.take k) ([], zeroY node) = some (done, cur)
  len : qs.length = done.length
  isc : Cur pE Z wr q cur
  W0q : w0.heap.size ≤ q
  fin : ∀ (j : Nat) q' y', qs[j]? = some q' → done[j]? = some y' → Fin (pF pE w0.heap.size q (slv rl)) wr q' y'
  row : wr.ownsRow w0.heap.size 59 1 (slv rl) done.length (((qs ++ [q]).tail).map ptr)
  blk : ∀ b, (slv rl).ownBlock = some b → b < Z ∧ b ≠ q
  bl : Below w0.heap.size w0 wr
  bd : cur.sent.length ≤ k ∧ cur.got.length ≤ k ∧ cur.safe ≤ cur.got.length
  nd : cur.node = node
theorem stepD_len {node : Nat} {st st' : List Sy × Sy} {e : Ev} (h : stepD node st e = some st') : st'.1.length ≤ st.1.length + 1 := by
  unfold stepD at h
  split at h
  · split at h
    · cases h; simp
    · cases h
  · obtain ⟨y, _, rfl⟩ := Option.map_eq_some_iff.1 h
    simp
theorem runD_len {node : Nat} : ∀ {l : List Ev} {st st' : List Sy × Sy}, runD node l st = some st' → st'.1.length ≤ st.1.length + l.length
  | [], st, st', h => by simp [runD] at h; subst h; simp
  | a :: r, st, st', h => by
    simp only [runD] at h
    obtain ⟨s, hs, h2⟩ := Option.bind_eq_some_iff.1 h
    have := stepD_len hs
    have := runD_len h2
    simp
    omega
theorem StI.donelen {pE : Nat → Prop} {w0 wr : World} {node : Nat} {es : List Ev} {k : Nat} {done : List Sy} {cur : Sy} {qs : List Nat} {q Z : Nat} {rl : Sr} (h : StI pE w0 wr node es k done cur qs q Z rl) : done.length ≤ k := by
  have := runD_len h.run
  simp at this
  omega
theorem Cur.qZ {p : Nat → Prop} {Z : Nat} {w : World} {q : Nat} {y : Sy} (h : Cur p Z w q y) : q < Z ∧ Z ≤ w.heap.size := by
  obtain ⟨_, _, h0, h1, _⟩ := h
  exact ⟨h0, h1⟩
theorem StI.hp {pE : Nat → Prop} {w0 wr : World} {node : Nat} {es : List Ev} {k : Nat} {done : List Sy} {cur : Sy} {qs : List Nat} {q Z : Nat} {rl : Sr} (h : StI pE w0 wr node es k done cur qs q Z rl) (hpE : ∀ b, pE b → b < w0.heap.size) : ∀ b, pE b → b < Z ∧ b ≠ q := fun b hb => by
  have := hpE b hb
  have := h.W0q
  have := h.isc.qZ
  omega
theorem StI.up {pE : Nat → Prop} {w0 wr w' : World} {node : Nat} {es : List Ev} {k : Nat} {done : List Sy} {cur : Sy} {qs : List Nat} {q Z : Nat} {rl : Sr} (h : StI pE w0 wr node es k done cur qs q Z rl) (u : Below wr.heap.size wr w') : StI pE w0 w' node es k done cur qs q Z rl :=
  ⟨h.run, h.len, h.isc.up u, h.W0q, fun j q' y' hq hy => (h.fin j q' y' hq hy).up u, own_keep h.row u, h.blk, bl_step h.bl u, h.bd, h.nd⟩
theorem take_bd {y y' : Sy} {e : Ev} {k : Nat} (h : takeD y e = some y') (b : y.sent.length ≤ k ∧ y.got.length ≤ k ∧ y.safe ≤ y.got.length) : (y'.sent.length ≤ k + 1 ∧ y'.got.length ≤ k + 1 ∧ y'.safe ≤ y'.got.length) ∧ y'.node = y.node := by
  unfold takeD at h
  split at h
  · cases h
  · split at h
    · cases h; simp; omega
    · split at h
      · cases h; simp; omega
      · split at h
        · split at h
          · rename_i hg
            cases h
            have := (List.getElem?_eq_some_iff.1 hg).1
            simp
            omega
          · cases h
        · cases h
theorem StI.take {pE : Nat → Prop} {w0 wr w' : World} {node : Nat} {es : List Ev} {k : Nat} {done : List Sy} {cur y' : Sy} {qs : List Nat} {q Z : Nat} {rl : Sr} {e : Ev} (h : StI pE w0 wr node es k done cur qs q Z rl) (he : es[k]? = some e) (hk : e.k ≠ 1) (ht : takeD cur e = some y') (hc : Cur pE Z w' q y') (u : Tch q Z wr w') : StI pE w0 w' node es (k + 1) done y' qs q Z rl := by
  have hqZ := h.isc.qZ
  have hbd := take_bd ht h.bd
  refine ⟨?_, h.len, hc, h.W0q, fun j q' y' hq hy => (h.fin j q' y' hq hy).keep (u.kp (fun b hb => ?_)), own_of_block h.row u.size (fun b hb => u.block b (h.blk b hb).1 (h.blk b hb).2), h.blk, ?_, hbd.1, hbd.2.trans h.nd⟩
  · rw [take_snoc he, runD_snoc, h.run]
    show stepD node (done, cur) e = _
    unfold stepD
    rw [if_neg hk]
    simp [ht]
  · have := hb.2.1
    omega
  · exact h.bl.trans (u.below h.W0q (by have := h.W0q; omega))
theorem StI.no_take {pE : Nat → Prop} {w0 wr : World} {node : Nat} {es : List Ev} {k : Nat} {done : List Sy} {cur : Sy} {qs : List Nat} {q Z : Nat} {rl : Sr} {e : Ev} (h : StI pE w0 wr node es k done cur qs q Z rl) (he : es[k]? = some e) (hk : e.k ≠ 1) (ht : takeD cur e = none) : staysD node es = none := by
  have h1 : runD node (es.take (k + 1)) ([], zeroY node) = none := by
    rw [take_snoc he, runD_snoc, h.run]
    show stepD node (done, cur) e = _
    unfold stepD
    rw [if_neg hk]
    simp [ht]
  unfold staysD
  rw [← List.take_append_drop (k + 1) es, runD_none _ _ _ _ h1]
  rfl
theorem StI.no_view {pE : Nat → Prop} {w0 wr : World} {node : Nat} {es : List Ev} {k : Nat} {done : List Sy} {cur : Sy} {qs : List Nat} {q Z : Nat} {rl : Sr} {e : Ev} (h : StI pE w0 wr node es k done cur qs q Z rl) (he : es[k]? = some e) (hk : e.k = 1) (ht : beforeD cur e = false) : staysD node es = none := by
  have h1 : runD node (es.take (k + 1)) ([], zeroY node) = none := by
    rw [take_snoc he, runD_snoc, h.run]
    show stepD node (done, cur) e = _
    unfold stepD
    rw [if_pos hk]
    simp [ht]
  unfold staysD
  rw [← List.take_append_drop (k + 1) es, runD_none _ _ _ _ h1]
  rfl
theorem gr_set (w : World) (q i : Nat) (v : Value) : w.grownBy (w.setCell ⟨q, i, none⟩ v) (some q) :=
  ⟨rfl, rfl, rfl, by simp [World.setCell], fun k _ hne => heap_setCell_other _ _ _ _ (fun e => hne (by rw [e]))⟩
theorem Cur.set7 {p : Nat → Prop} {Z : Nat} {w : World} {q : Nat} {y : Sy} (h : Cur p Z w q y) (hp : ∀ b, p b → b < Z ∧ b ≠ q) (n : Nat) (v : Int) : Cur p Z ((w.setCell ⟨q, 7, none⟩ (.int .u64 (n : Nat))).setCell ⟨q, 8, none⟩ (.int .i64 v)) q { y with nn := n, np := v } := by
  obtain ⟨rs, rg, h0, h1, h2, h3, h4, h5⟩ := h
  have hg : w.grownBy ((w.setCell ⟨q, 7, none⟩ (.int .u64 (n : Nat))).setCell ⟨q, 8, none⟩ (.int .i64 v)) (some q) := gr_trans (gr_set w q 7 _) (gr_set _ q 8 _)
  refine ⟨rs, rg, h0, by simpa [World.setCell] using h1, h2.set7 n v, fun i => by rw [World.frozen?_setCell, World.frozen?_setCell]; exact h3 i, h4.other hg (fun b hb => ?_) (fun b hb => (hp b hb).2), h5.other2 hg (fun b hb => ?_) (fun b hb => (hp b hb).2)⟩
  · obtain ⟨_, rs', h1', _⟩ := h4
    have := (own_blk h1' hb).1
    omega
  · obtain ⟨_, xs', h1', _⟩ := h5
    have := (own_blk h1' hb).1
    omega
theorem OwB.bsp {p p' : Nat → Prop} {B : Nat} {w : World} {r : Sr} {xs : List By} (h : OwB p B w r xs) (hp : ∀ b, p b → p' b) (ho : ∀ b, (slv r).ownBlock = some b → p' b) (hm : xs.length ≤ 100000) : BsP p' w r.1 r.2.1 xs ∧ Cp r := by
  obtain ⟨h0, rs, h1, h2, h3, h4⟩ := h
  have hsl : SlR p' w r.1 r.2.1 rs := by
    rcases own_shape h1 with ⟨e, h5⟩ | ⟨g, cap, e, hg, _⟩
    · simp at e
      rw [e.1, e.2.1]
      exact ⟨by omega, by omega, fun _ => rfl, fun h => by omega⟩
    · simp at e
      rw [e.1, h0]
      refine ⟨h2, by omega, fun e => (by cases e), fun _ => ⟨g, 0, rfl, ho g (by simp [slv, Value.ownBlock, e.1]), fun j s hj => ?_⟩⟩
      rw [Nat.zero_add]
      refine own_cell (cap := cap) (by rw [e.1, e.2.1, e.2.2] at h1; exact h1) j _ ?_
      rw [List.getElem?_map, hj]
      rfl
  refine ⟨⟨rs, hsl, h0.symm, h3, fun j s x hs hx => (h4 j s x hs hx).imp (fun b _ hb => hp b hb)⟩, ?_⟩
  rcases h1.2 with ⟨e, h0'⟩ | ⟨g, cap, cur, e, _, _, hn, hc, _⟩
  · simp at e
    obtain ⟨a, b, c⟩ := e
    exact ⟨by omega, by omega, fun _ => c⟩
  · simp at e
    obtain ⟨a, b⟩ := e
    exact ⟨by omega, by unfold maxLen at hc; omega, fun h => by rw [a] at h; cases h⟩
theorem OwP.itp {p p' : Nat → Prop} {B : Nat} {w : World} {r : Sr} {S : List Di} (h : OwP p B w r S) (hp : ∀ b, p b → p' b) (ho : ∀ b, (slv r).ownBlock = some b → p' b) (hm : S.length ≤ 100000) : Its p' w r.1 r.2.1 S ∧ Cp r := by
  refine ⟨?_, h.cp.1⟩
  obtain ⟨h0, xs, h1, h2, h3⟩ := h
  rcases IR.own h1 (by omega) with ⟨e, h0'⟩ | ⟨g, cap, e, _, _, _, hI⟩
  · simp at e
    have : S = [] := List.length_eq_zero_iff.1 h0'
    subst this
    rw [e.1, e.2.1]
    exact Its.nil0 _ _
  · simp at e
    rw [e.1, h0]
    exact ⟨xs, hI.imp (fun b _ hb => by rw [hb]; exact ho g (by simp [slv, Value.ownBlock, e.1])), rfl, fun j x d hx hd => (h3 j x d hx hd).imp (fun b _ hb => hp b hb)⟩
/-- What is filled is done. -/
theorem Cur.fin {p p' : Nat → Prop} {Z : Nat} {w : World} {q : Nat} {y : Sy} (h : Cur p Z w q y) (hp : ∀ b, p b → p' b) (hq : p' q) (hZ : ∀ b, Z ≤ b → b < w.heap.size → p' b) (hm : y.sent.length ≤ 100000 ∧ y.got.length ≤ 100000) : Fin p' w q y := by
  obtain ⟨rs, rg, h0, h1, h2, h3, h4, h5⟩ := h
  obtain ⟨a, b⟩ := h4.bsp (p' := p') hp (fun b hb => by
    obtain ⟨_, rs', l, _⟩ := h4
    have := own_blk l hb
    exact hZ b this.1 this.2.1) hm.1
  obtain ⟨c, d⟩ := h5.itp (p' := p') hp (fun b hb => by
    obtain ⟨_, xs', l, _⟩ := h5
    have := own_blk l hb
    exact hZ b this.1 this.2.1) hm.2
  exact ⟨rs, rg, hq, h2, b, d, a, c⟩
end Go.Proofs.Ythnbijnpbjfoaaa
