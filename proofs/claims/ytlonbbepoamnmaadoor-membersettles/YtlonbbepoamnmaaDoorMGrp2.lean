/-
  Steps of a group in memory: its frames, its nodes, its views.
-/
import Derived.Test.YtlonbbepoamnmaaDoorMGrp
namespace Go.Proofs.YtlonbbepoamnmaaDoor
open Go.RowKit
set_option linter.unusedVariables false

section
variable {X Y : Nat → Prop} {W0 w w1 w2 : World} {col col1 col2 : Nat → Nat} {B : Nat → Prop} {n kl kv gq : Nat} {A : Ga} {g : Gp}
theorem Cw.trans (c : Cw X w w1 col col1) (d : Cw Y w1 w2 col1 col2) : Cw (fun k => X k ∨ Y k) w w2 col col2 where
  os := d.os.trans c.os
  tape := d.tape.trans c.tape
  output := d.output.trans c.output
  size := Nat.le_trans c.size d.size
  blk := fun b hb hx => by
    have h1 : ¬ Y (col1 b) := by
      by_cases h0 : col b = 0
      · have : col1 b = 0 := by
          by_cases e : col1 b = 0
          · exact e
          · rcases c.lo b e with h2 | h2
            · exact absurd h0 h2
            · omega
        rw [this]; exact d.x0
      · rw [c.cl b h0 (fun h => hx (.inl h))]; exact fun h => hx (.inr h)
    exact (d.blk b (Nat.lt_of_lt_of_le hb c.size) h1).trans (c.blk b hb (fun h => hx (.inl h)))
  cl := fun b hb hx => by
    have e1 := c.cl b hb (fun h => hx (.inl h))
    rw [d.cl b (by rw [e1]; exact hb) (by rw [e1]; exact fun h => hx (.inr h)), e1]
  nw := fun b hb => by
    rcases d.nw b hb with h1 | h1 | h1
    · rcases c.nw b (by rw [← h1]; exact hb) with h2 | h2 | h2
      · exact .inl (h1.trans h2)
      · exact .inr (.inl (.inl (by rw [h1]; exact h2)))
      · exact .inr (.inr (h1.trans h2))
    · exact .inr (.inl (.inr h1))
    · exact .inr (.inr h1)
  lo := fun b hb => by
    rcases d.lo b hb with h1 | h1
    · exact c.lo b h1
    · exact .inr (Nat.le_trans c.size h1)
  hi := d.hi
  x0 := fun h => h.elim c.x0 d.x0
  x5 := fun h => h.elim c.x5 d.x5
/-- What is written to by nobody is as it was. -/
def Kz (w w' : World) (col col' : Nat → Nat) : Prop := (∀ b, col b = 5 → b < w.heap.size → col' b = 5 ∧ w'.heap[b]? = w.heap[b]?) ∧ ∀ b, b < w.heap.size → col b = 0 → col' b = 0
theorem Cw.kz (c : Cw X w w1 col col1) : Kz w w1 col col1 := ⟨fun b hb hl => ⟨c.same (by decide) c.x5 hb, c.block hb c.x5 hl⟩, fun b hl h0 => by
  by_cases e : col1 b = 0
  · exact e
  · rcases c.lo b e with h | h
    · exact absurd h0 h
    · omega⟩

theorem Gs.setBag (h : Gs W0 B w col n kl kv gq A g) {v' : Value} {L : List Ox} {bag' : List (Nat × PF)} (gr : w.grownBy w1 A.bv.ownBlock) (hrow : w1.ownsRow 1 87 16 v' L.length (flatO L)) (hp : plainO L = bag') (hat : ∀ b, v'.ownBlock = some b → A.bv.ownBlock = some b ∨ w.heap.size ≤ b) (hin : OIn (fun b => col b = 5) w L) :
    ∃ col', Gs W0 B (w1.setCell ⟨gq, 2, none⟩ v') col' n kl kv gq { A with bv := v' } { g with bag := bag' } ∧ Kz w (w1.setCell ⟨gq, 2, none⟩ v') col col' := by
  obtain ⟨L0, _, r0, r1, _⟩ := h.bag
  have c1 := ch_row (k := 3) (by decide) (by decide) (fun b hb => (h.lo b hb).2) r1 gr hat (fun b hb => (hrow.lt b hb).2)
  obtain ⟨g1, g2, g3⟩ := h.ch1 c1 (by decide)
  have c2 := ch_set (k := 1) (w := w1) (j := 2) (by decide) (by decide) c1.hi g1 v'
  have c := c1.trans c2
  obtain ⟨b1, b2, b3, b4⟩ := c.bel h
  have hne : ∀ b, v'.ownBlock = some b → b ≠ gq := fun b hb e => by
    have := setcol_at (col := col) (k := 3) hb
    rw [e, g1] at this
    omega
  refine ⟨_, ⟨b1, b2, h.hB1, b3, b4, h.n6, h.kl6, h.kv6, g1, fun k => by rw [World.frozen?_setCell]; exact g2 k, by rw [set_other (by decide)]; exact g3 _ _ h.c0, by rw [set_other (by decide)]; exact g3 _ _ h.c1, set_cell (g3 _ _ h.c2), by rw [set_other (by decide)]; exact g3 _ _ h.c3, h.l.ch c (by omega), ?_, h.vs.ch c (by omega) (fun i => by omega), fun i hi => (h.mb i hi).ch c (by omega) (c.zero h)⟩, c.kz⟩
  exact ⟨L, hp, row_block hrow (fun b hb => Below.heap_setCell _ _ _ _ (hne b hb)), fun b hb => setcol_at hb, oin_ch hin c⟩

theorem ptrs_succ (k : Nat) (qs : Nat → Nat) (q : Nat) : ptrs (k + 1) (upd qs k q) = ptrs k qs ++ [.pointer (some ⟨q, 0, none⟩)] := by
  unfold ptrs
  rw [List.range_succ, List.map_append]
  congr 1
  · apply List.map_congr_left
    intro i hi
    have : i ≠ k := by have := List.mem_range.1 hi; omega
    rw [upd_other _ _ this]
  · simp [upd_same]
theorem grown_up {w a b : World} {row : Option Nat} (u : Below w.heap.size w a) (gr : a.grownBy b row) : w.grownBy b row :=
  ⟨gr.os.trans u.os, gr.tape.trans u.tape, gr.output.trans u.output, Nat.le_trans u.size gr.size, fun k hk hne => (gr.block k (Nat.lt_of_lt_of_le hk u.size) hne).trans (u.block k hk)⟩
theorem grown_below {w a : World} (u : Below w.heap.size w a) (row : Option Nat) : w.grownBy a row := ⟨u.os, u.tape, u.output, u.size, fun k hk _ => u.block k hk⟩
/-- One more node. -/
theorem Gs.addL (h : Gs W0 B w col n kl kv gq A g) (hk : kl < n) {q : Nat} {wN : World} (u : Below w.heap.size w wN) (hq : w.heap.size ≤ q) (hm : Mb wN (fun b => b = q) (fun b => col b = 5) q (g.ms kl) none) {v' : Value} (gr : wN.grownBy w1 A.lv.ownBlock) (hrow : w1.ownsRow 1 24 1 v' (kl + 1) (ptrs kl A.qs ++ [.pointer (some ⟨q, 0, none⟩)])) (hat : ∀ b, v'.ownBlock = some b → A.lv.ownBlock = some b ∨ wN.heap.size ≤ b) :
    ∃ col', Gs W0 B (w1.setCell ⟨gq, 1, none⟩ v') col' n (kl + 1) kv gq { A with lv := v', qs := upd A.qs kl q, os := upd A.os kl none } g := by
  have hql : q < wN.heap.size := hm.lt q rfl
  have hn6 := h.n6
  have hqb : ∀ b, (Value.slice (some ⟨q, 0, none⟩) 0 0).ownBlock = some b → q = b := fun b hb => by simpa [Value.ownBlock] using hb
  have c0 : Cw (fun k => k = 10 + kl) w wN col (setcol col (10 + kl) (.slice (some ⟨q, 0, none⟩) 0 0)) :=
    ch_row (v := .slice none 0 0) (by omega) (by omega) (fun b hb => (h.lo b hb).2) (fun b hb => by cases hb) (grown_below u _) (fun b hb => .inr (by have := hqb b hb; omega)) (fun b hb => by have := hqb b hb; omega)
  have eq0 : ∀ b, setcol col (10 + kl) (.slice (some ⟨q, 0, none⟩) 0 0) b = 10 + kl ↔ b = q := fun b => by
    unfold setcol
    by_cases e : b = q
    · subst e; simp [Value.ownBlock]
    · have : ¬ ((Value.slice (some ⟨q, 0, none⟩) 0 0).ownBlock = some b) := by simp [Value.ownBlock]; exact fun h => e h.symm
      rw [if_neg this]
      simp only [e, iff_false]
      split
      · omega
      · rename_i h1; exact h1
  generalize setcol col (10 + kl) (.slice (some ⟨q, 0, none⟩) 0 0) = col0 at *
  obtain ⟨g1, g2, g3⟩ := h.ch1 c0 (by omega)
  have c1 := ch_row (col := col0) (k := 2) (by decide) (by decide) c0.hi (fun b hb => c0.same (by decide) (by omega) (h.l.2 b hb)) gr hat (fun b hb => (hrow.lt b hb).2)
  have hgl : gq < wN.heap.size := c0.hi gq (by rw [g1]; decide)
  have hgb : w1.heap[gq]? = wN.heap[gq]? := c1.block g1 (by decide) hgl
  have g1' := c1.same (by decide) (by decide) g1
  have c2 := ch_set (k := 1) (w := w1) (j := 1) (by decide) (by decide) c1.hi g1' v'
  have c12 := c1.trans c2
  have c := c0.trans c12
  have hv2 : ∀ b, v'.ownBlock = some b → setcol col0 2 v' b = 2 := fun b hb => setcol_at hb
  generalize setcol col0 2 v' = col1 at *
  obtain ⟨b1, b2, b3, b4⟩ := c.bel h
  have g3' : ∀ k v, w.cell? ⟨gq, k, none⟩ = some v → w1.cell? ⟨gq, k, none⟩ = some v := fun k v hv => by rw [cell_block hgb]; exact g3 k v hv
  have hne : ∀ b, v'.ownBlock = some b → b ≠ gq := fun b hb e => by
    have := hv2 b hb
    rw [e, g1'] at this
    omega
  refine ⟨col1, b1, b2, h.hB1, b3, b4, h.n6, hk, h.kv6, g1', fun k => by rw [World.frozen?_setCell, frozen_block hgb]; exact g2 k, by rw [set_other (by decide)]; exact g3' _ _ h.c0, set_cell (g3' _ _ h.c1), by rw [set_other (by decide)]; exact g3' _ _ h.c2, by rw [set_other (by decide)]; exact g3' _ _ h.c3, ?_, h.bag.ch c (by omega), h.vs.ch c (by omega) (fun i => by omega), fun i hi => ?_⟩
  · refine ⟨?_, hv2⟩
    show (w1.setCell ⟨gq, 1, none⟩ v').ownsRow 1 24 1 v' (kl + 1) (ptrs (kl + 1) (upd A.qs kl q))
    rw [ptrs_succ]
    exact row_block hrow (fun b hb => Below.heap_setCell _ _ _ _ (hne b hb))
  · by_cases e : i = kl
    · subst e
      simp only [upd_same]
      have hq5 : ∀ b, col b = 5 → col0 b = 5 := fun b hb => c0.same (by decide) (by omega) hb
      have h1 : Mb (w1.setCell ⟨gq, 1, none⟩ v') (fun b => b = q) (fun b => col1 b = 5) q (g.ms i) none := hm.frame (fun b hb => c12.block ((eq0 b).2 hb) (by omega) (hm.lt b hb)) ((c.zero h).trans (u.block 0 (h.hB 0 h.hB1)).symm) c12.size
        (fun ad x hz hc => by rw [World.cell?_of_block (w := wN) (c12.block (hq5 _ hz) c12.x5 (World.block_lt_of_cell? _ _ hc))]; exact hc) (fun b hb => c12.same (by decide) c12.x5 (hq5 b hb))
        (fun b hb hf => by have := (c12.iff (k := 10 + i) (by omega) (by omega) (by omega) b).2 ((eq0 b).2 hf); rw [hb] at this; omega) (fun b hb => c12.hi b (by rw [hb]; decide))
      exact mb_pred h1 (fun b => (eq0 b).symm.trans (c12.iff (k := 10 + i) (by omega) (by omega) (by omega) b).symm) (fun _ => Iff.rfl)
    · simp only [upd_other _ _ e]
      exact (h.mb i (by omega)).ch c (by omega) (c.zero h)
/-- One more list of views, with none. -/
theorem Gs.addV (h : Gs W0 B w col n kl kv gq A g) (hk : kv < n) (hv0 : g.views kv = []) {v' : Value} (gr : w.grownBy w1 A.vv.ownBlock) (hrow : w1.ownsRow 1 71 1 v' (kv + 1) (A.vl ++ [.slice none 0 0])) (hat : ∀ b, v'.ownBlock = some b → A.vv.ownBlock = some b ∨ w.heap.size ≤ b) :
    ∃ col', Gs W0 B (w1.setCell ⟨gq, 3, none⟩ v') col' n kl (kv + 1) gq { A with vv := v', vl := A.vl ++ [.slice none 0 0] } g := by
  have hlen : A.vl.length = kv := by have := h.vs.1.1; omega
  have c1 := ch_row (k := 4) (by decide) (by decide) (fun b hb => (h.lo b hb).2) h.vs.2.1 gr hat (fun b hb => (hrow.lt b hb).2)
  obtain ⟨g1, g2, g3⟩ := h.ch1 c1 (by decide)
  have c2 := ch_set (k := 1) (w := w1) (j := 3) (by decide) (by decide) c1.hi g1 v'
  have c := c1.trans c2
  obtain ⟨b1, b2, b3, b4⟩ := c.bel h
  have hne : ∀ b, v'.ownBlock = some b → b ≠ gq := fun b hb e => by
    have := setcol_at (col := col) (k := 4) hb
    rw [e, g1] at this
    omega
  refine ⟨_, b1, b2, h.hB1, b3, b4, h.n6, h.kl6, hk, g1, fun k => by rw [World.frozen?_setCell]; exact g2 k, by rw [set_other (by decide)]; exact g3 _ _ h.c0, by rw [set_other (by decide)]; exact g3 _ _ h.c1, by rw [set_other (by decide)]; exact g3 _ _ h.c2, set_cell (g3 _ _ h.c3), h.l.ch c (by omega), h.bag.ch c (by omega), ⟨row_block hrow (fun b hb => Below.heap_setCell _ _ _ _ (hne b hb)), fun b hb => setcol_at hb, fun i x hx => ?_⟩, fun i hi => (h.mb i hi).ch c (by omega) (c.zero h)⟩
  by_cases hi : i < kv
  · rw [List.getElem?_append_left (by omega)] at hx
    obtain ⟨r1, r2⟩ := h.vs.2.2 i x hx
    exact ⟨row_block r1 (fun b hb => c.block (r2 b hb) (by omega) (r1.lt b hb).2), fun b hb => c.same (by omega) (by omega) (r2 b hb)⟩
  · have hil := (List.getElem?_eq_some_iff.1 hx).1
    rw [List.length_append, hlen] at hil
    have e : i = kv := by simp at hil; omega
    subst e
    rw [List.getElem?_append_right (by omega)] at hx
    have hx' : x = .slice none 0 0 := by simpa [hlen] using hx.symm
    subst hx'
    rw [hv0]
    exact ⟨World.ownsRow_nil _ _ _ _, fun b hb => by cases hb⟩
/-- One more view of a node. -/
theorem Gs.setView (h : Gs W0 B w col n kl kv gq A g) {i : Nat} {x x' : Value} {v : Vid × Nat} (hx : A.vl[i]? = some x) {vb cap : Nat} (hvv : A.vv = .slice (some ⟨vb, 0, none⟩) kv cap) (gr : w.grownBy w1 x.ownBlock) (hrow : w1.ownsRow 1 34 3 x' ((g.views i).length + 1) (flatV (g.views i ++ [v]))) (hat : ∀ b, x'.ownBlock = some b → x.ownBlock = some b ∨ w.heap.size ≤ b) :
    ∃ col', Gs W0 B (w1.setCell ⟨vb, i, none⟩ x') col' n kl kv gq { A with vl := A.vl.set i x' } { g with views := upd g.views i (g.views i ++ [v]) } := by
  obtain ⟨v1, v2, v3⟩ := h.vs
  obtain ⟨r1, r2⟩ := v3 i x hx
  have hil : i < A.vl.length := (List.getElem?_eq_some_iff.1 hx).1
  have hn6 := h.n6
  have hkv := h.kv6
  have hlen : A.vl.length = kv := by have := v1.1; omega
  have c1 := ch_row (k := 20 + i) (by omega) (by omega) (fun b hb => (h.lo b hb).2) r2 gr hat (fun b hb => (hrow.lt b hb).2)
  have hvb : col vb = 4 := v2 vb (by rw [hvv]; rfl)
  have hvl := (v1.lt vb (by rw [hvv]; rfl)).2
  have hvb1 := c1.same (k := 4) (by decide) (by omega) hvb
  have c2 := ch_set (k := 4) (w := w1) (j := i) (by decide) (by decide) c1.hi hvb1 x'
  have c := c1.trans c2
  obtain ⟨b1, b2, b3, b4⟩ := c.bel h
  obtain ⟨g1, g2, g3⟩ := h.ch1 c (by omega)
  have hx2 : ∀ b, x'.ownBlock = some b → setcol col (20 + i) x' b = 20 + i := fun b hb => setcol_at hb
  generalize setcol col (20 + i) x' = col1 at *
  have hne : ∀ b, x'.ownBlock = some b → b ≠ vb := fun b hb e => by
    have := hx2 b hb
    rw [e, hvb1] at this
    omega
  have hr1 : w1.ownsRow 1 71 1 A.vv kv A.vl := row_block v1 (fun b hb => c1.block (v2 b hb) (by omega) (v1.lt b hb).2)
  have hr2 : (w1.setCell ⟨vb, i, none⟩ x').ownsRow 1 71 1 A.vv kv (A.vl.set i x') := by
    rw [hvv] at hr1 ⊢
    exact (hr1.stored i x').1
  refine ⟨col1, b1, b2, h.hB1, b3, b4, h.n6, h.kl6, h.kv6, g1, g2, g3 _ _ h.c0, g3 _ _ h.c1, g3 _ _ h.c2, g3 _ _ h.c3, h.l.ch c (by omega), h.bag.ch c (by omega), ⟨hr2, fun b hb => c1.same (k := 4) (by decide) (by omega) (v2 b hb), fun j y hy => ?_⟩, fun j hj => (h.mb j hj).ch c (by have := h.kl6; omega) (c.zero h)⟩
  · by_cases e : j = i
    · subst e
      rw [List.getElem?_set_self hil] at hy
      obtain rfl : x' = y := by simpa using hy
      simp only [upd_same]
      refine ⟨?_, hx2⟩
      rw [List.length_append]
      exact row_block hrow (fun b hb => Below.heap_setCell _ _ _ _ (hne b hb))
    · rw [List.getElem?_set_ne (fun h => e h.symm)] at hy
      obtain ⟨s1, s2⟩ := v3 j y hy
      simp only [upd_other _ _ e]
      exact ⟨row_block s1 (fun b hb => c.block (s2 b hb) (by omega) (s1.lt b hb).2), fun b hb => c.same (by omega) (by omega) (s2 b hb)⟩
end
end Go.Proofs.YtlonbbepoamnmaaDoor
