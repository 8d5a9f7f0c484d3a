/-
  Two ends, what was put and taken, and packets under way, as they lie in memory: whose each block is is told by a colour.
-/
import Derived.Test.YthobbnmdpkginaaLRep
namespace Go.Proofs.Ythobbnmdpkginaa
open Go.RowKit
set_option linter.unusedVariables false
set_option linter.unusedSimpArgs false

/-- A packet: the number of the first thing, where its things lie, they themselves, and how many have come. -/
structure Px where
  base : Nat
  iv : Value
  zs : List Value
  ack : Nat
def cellsP (x : Px) : List Value := [.int .u64 4, .int .i64 2, .int .u64 (x.base : Nat), x.iv, .int .u64 (x.ack : Nat)]
def flatP (ps : List Px) : List Value := ps.flatMap cellsP
theorem flatP_app (a b : List Px) : flatP (a ++ b) = flatP a ++ flatP b := by simp [flatP]
theorem flatP_len : ∀ ps : List Px, (flatP ps).length = ps.length * 5
  | [] => rfl
  | p :: r => by
    have := flatP_len r
    simp only [flatP, List.flatMap_cons, List.length_append, List.length_cons] at this ⊢
    simp [cellsP] at this ⊢
    omega
theorem flatP_at : ∀ (ps : List Px) (j : Nat) (x : Px) (i : Nat) (v : Value), ps[j]? = some x → (cellsP x)[i]? = some v → (flatP ps)[j * 5 + i]? = some v
  | [], j, x, i, v, h, _ => by simp at h
  | p :: r, 0, x, i, v, h, hv => by
    obtain rfl : p = x := by simpa using h
    have hi : i < (cellsP p).length := (List.getElem?_eq_some_iff.1 hv).1
    show (cellsP p ++ flatP r)[0 * 5 + i]? = some v
    rw [Nat.zero_mul, Nat.zero_add, List.getElem?_append_left hi]
    exact hv
  | p :: r, j + 1, x, i, v, h, hv => by
    have := flatP_at r j x i v (by simpa using h) hv
    show (cellsP p ++ flatP r)[(j + 1) * 5 + i]? = some v
    rw [List.getElem?_append_right (by simp [cellsP]; omega)]
    rw [show (j + 1) * 5 + i - (cellsP p).length = j * 5 + i by simp [cellsP]; omega]
    exact this
theorem flatP_drop (p : Px) (r : List Px) : (flatP (p :: r)).drop 5 = flatP r := by simp [flatP, cellsP]

/-- Packets under way, in a row of one's own; what they bring lies in blocks that are nobody's. -/
def Pks (w : World) (T e : TypeId) (col : Nat → Nat) (v : Value) (ps : List Px) : Prop :=
  Rw w T 5 v ps.length (flatP ps) ∧ ∀ x ∈ ps, Tx w e x.iv x.zs ∧ ∀ b, x.iv.ownBlock = some b → col b = 0 ∧ b < w.heap.size

/-- Where all of it lies. -/
structure Adr where
  ka : Nat
  kb : Nat
  FA : Nat → Prop
  FB : Nat → Prop
  l2 : Value
  l3 : Value
  l4 : Value
  l5 : Value
  l6 : Value
  l7 : Value
/-- What it says. -/
structure Pl where
  aA : Nat
  xA : List Value
  nA : Nat
  yA : List Value
  aB : Nat
  xB : List Value
  nB : Nat
  yB : List Value
  pA : List Value
  pB : List Value
  gA : List Value
  gB : List Value
  tA : List Px
  tB : List Px

structure Qb (w : World) (q : Nat) (d : Adr) : Prop where
  c0 : w.cell? ⟨q, 0, none⟩ = some (.pointer (some ⟨d.ka, 0, none⟩))
  c1 : w.cell? ⟨q, 1, none⟩ = some (.pointer (some ⟨d.kb, 0, none⟩))
  c2 : w.cell? ⟨q, 2, none⟩ = some d.l2
  c3 : w.cell? ⟨q, 3, none⟩ = some d.l3
  c4 : w.cell? ⟨q, 4, none⟩ = some d.l4
  c5 : w.cell? ⟨q, 5, none⟩ = some d.l5
  c6 : w.cell? ⟨q, 6, none⟩ = some d.l6
  c7 : w.cell? ⟨q, 7, none⟩ = some d.l7
  fr : ∀ o, w.frozen? ⟨q, o, none⟩ = false
theorem Qb.lt {w : World} {q : Nat} {d : Adr} (h : Qb w q d) : q < w.heap.size := World.block_lt_of_cell? w _ h.c0
theorem Qb.frame {w w' : World} {q : Nat} {d : Adr} (h : Qb w q d) (e : w'.heap[q]? = w.heap[q]?) : Qb w' q d where
  c0 := by rw [cell_block e]; exact h.c0
  c1 := by rw [cell_block e]; exact h.c1
  c2 := by rw [cell_block e]; exact h.c2
  c3 := by rw [cell_block e]; exact h.c3
  c4 := by rw [cell_block e]; exact h.c4
  c5 := by rw [cell_block e]; exact h.c5
  c6 := by rw [cell_block e]; exact h.c6
  c7 := by rw [cell_block e]; exact h.c7
  fr := fun o => by rw [frozen_block e]; exact h.fr o
theorem Qb.set2 {w : World} {q : Nat} {d : Adr} (h : Qb w q d) (v : Value) : Qb (w.setCell ⟨q, 2, none⟩ v) q { d with l2 := v } where
  c0 := (set_cell_other (by omega)).trans h.c0
  c1 := (set_cell_other (by omega)).trans h.c1
  c2 := set_cell h.c2
  c3 := (set_cell_other (by omega)).trans h.c3
  c4 := (set_cell_other (by omega)).trans h.c4
  c5 := (set_cell_other (by omega)).trans h.c5
  c6 := (set_cell_other (by omega)).trans h.c6
  c7 := (set_cell_other (by omega)).trans h.c7
  fr := fun o => by rw [World.frozen?_setCell]; exact h.fr o
theorem Qb.set3 {w : World} {q : Nat} {d : Adr} (h : Qb w q d) (v : Value) : Qb (w.setCell ⟨q, 3, none⟩ v) q { d with l3 := v } where
  c0 := (set_cell_other (by omega)).trans h.c0
  c1 := (set_cell_other (by omega)).trans h.c1
  c2 := (set_cell_other (by omega)).trans h.c2
  c3 := set_cell h.c3
  c4 := (set_cell_other (by omega)).trans h.c4
  c5 := (set_cell_other (by omega)).trans h.c5
  c6 := (set_cell_other (by omega)).trans h.c6
  c7 := (set_cell_other (by omega)).trans h.c7
  fr := fun o => by rw [World.frozen?_setCell]; exact h.fr o
theorem Qb.set4 {w : World} {q : Nat} {d : Adr} (h : Qb w q d) (v : Value) : Qb (w.setCell ⟨q, 4, none⟩ v) q { d with l4 := v } where
  c0 := (set_cell_other (by omega)).trans h.c0
  c1 := (set_cell_other (by omega)).trans h.c1
  c2 := (set_cell_other (by omega)).trans h.c2
  c3 := (set_cell_other (by omega)).trans h.c3
  c4 := set_cell h.c4
  c5 := (set_cell_other (by omega)).trans h.c5
  c6 := (set_cell_other (by omega)).trans h.c6
  c7 := (set_cell_other (by omega)).trans h.c7
  fr := fun o => by rw [World.frozen?_setCell]; exact h.fr o
theorem Qb.set5 {w : World} {q : Nat} {d : Adr} (h : Qb w q d) (v : Value) : Qb (w.setCell ⟨q, 5, none⟩ v) q { d with l5 := v } where
  c0 := (set_cell_other (by omega)).trans h.c0
  c1 := (set_cell_other (by omega)).trans h.c1
  c2 := (set_cell_other (by omega)).trans h.c2
  c3 := (set_cell_other (by omega)).trans h.c3
  c4 := (set_cell_other (by omega)).trans h.c4
  c5 := set_cell h.c5
  c6 := (set_cell_other (by omega)).trans h.c6
  c7 := (set_cell_other (by omega)).trans h.c7
  fr := fun o => by rw [World.frozen?_setCell]; exact h.fr o
theorem Qb.set6 {w : World} {q : Nat} {d : Adr} (h : Qb w q d) (v : Value) : Qb (w.setCell ⟨q, 6, none⟩ v) q { d with l6 := v } where
  c0 := (set_cell_other (by omega)).trans h.c0
  c1 := (set_cell_other (by omega)).trans h.c1
  c2 := (set_cell_other (by omega)).trans h.c2
  c3 := (set_cell_other (by omega)).trans h.c3
  c4 := (set_cell_other (by omega)).trans h.c4
  c5 := (set_cell_other (by omega)).trans h.c5
  c6 := set_cell h.c6
  c7 := (set_cell_other (by omega)).trans h.c7
  fr := fun o => by rw [World.frozen?_setCell]; exact h.fr o
theorem Qb.set7 {w : World} {q : Nat} {d : Adr} (h : Qb w q d) (v : Value) : Qb (w.setCell ⟨q, 7, none⟩ v) q { d with l7 := v } where
  c0 := (set_cell_other (by omega)).trans h.c0
  c1 := (set_cell_other (by omega)).trans h.c1
  c2 := (set_cell_other (by omega)).trans h.c2
  c3 := (set_cell_other (by omega)).trans h.c3
  c4 := (set_cell_other (by omega)).trans h.c4
  c5 := (set_cell_other (by omega)).trans h.c5
  c6 := (set_cell_other (by omega)).trans h.c6
  c7 := set_cell h.c7
  fr := fun o => by rw [World.frozen?_setCell]; exact h.fr o

/-- All of it but the parts of X. -/
structure WdX (X : Nat → Prop) (w : World) (col : Nat → Nat) (q M N : Nat) (d : Adr) (p : Pl) : Prop where
  q9 : ¬ X 9 → Qb w q d ∧ col q = 9
  la : ¬ X 1 → Lnk w 9 3 d.FA d.ka 4 2 M N p.aA p.xA p.nA p.yA ∧ ∀ b, d.FA b → col b = 1
  lb : ¬ X 2 → Lnk w 3 9 d.FB d.kb 4 2 M N p.aB p.xB p.nB p.yB ∧ ∀ b, d.FB b → col b = 2
  r2 : ¬ X 3 → Lst w 9 d.l2 p.pA ∧ ∀ b, d.l2.ownBlock = some b → col b = 3
  r3 : ¬ X 4 → Lst w 3 d.l3 p.pB ∧ ∀ b, d.l3.ownBlock = some b → col b = 4
  r4 : ¬ X 5 → Lst w 3 d.l4 p.gA ∧ ∀ b, d.l4.ownBlock = some b → col b = 5
  r5 : ¬ X 6 → Lst w 9 d.l5 p.gB ∧ ∀ b, d.l5.ownBlock = some b → col b = 6
  r6 : ¬ X 7 → Pks w 49 3 col d.l6 p.tA ∧ ∀ b, d.l6.ownBlock = some b → col b = 7
  r7 : ¬ X 8 → Pks w 45 9 col d.l7 p.tB ∧ ∀ b, d.l7.ownBlock = some b → col b = 8
abbrev Wd (w : World) (col : Nat → Nat) (q M N : Nat) (d : Adr) (p : Pl) : Prop := WdX (fun _ => False) w col q M N d p

/-- What is new is of the colour c. -/
def rc (col : Nat → Nat) (w : World) (c : Nat) : Nat → Nat := fun b => if b < w.heap.size then col b else c
theorem rc_old {col : Nat → Nat} {w : World} {c b : Nat} (h : b < w.heap.size) : rc col w c b = col b := if_pos h
/-- From one state to another: nothing that is nobody's has turned, and what was there is whose it was. -/
structure Gn (col : Nat → Nat) (w : World) (col' : Nat → Nat) (w' : World) : Prop where
  turned : Turned (fun b => col b ≠ 0) w w'
  old : ∀ b, b < w.heap.size → col' b = col b
theorem Gn.refl (col : Nat → Nat) (w : World) : Gn col w col w := ⟨Turned.refl _ _, fun _ _ => rfl⟩
theorem Gn.trans {c1 c2 c3 : Nat → Nat} {w1 w2 w3 : World} (h : Gn c1 w1 c2 w2) (k : Gn c2 w2 c3 w3) : Gn c1 w1 c3 w3 :=
  ⟨h.turned.trans k.turned (fun b hb => by
    by_cases hlt : b < w1.heap.size
    · rw [h.old b hlt] at hb; exact .inl hb
    · exact .inr (by omega)), fun b hb => (k.old b (Nat.lt_of_lt_of_le hb h.turned.size)).trans (h.old b hb)⟩
theorem Gn.goes {c1 c2 : Nat → Nat} {w1 w2 : World} (h : Gn c1 w1 c2 w2) : Goes2 (fun b => c1 b ≠ 0) w1 (fun b => c2 b ≠ 0) w2 :=
  ⟨h.turned, fun b hb => by
    by_cases hlt : b < w1.heap.size
    · rw [h.old b hlt] at hb; exact .inl hb
    · exact .inr (by omega)⟩
theorem Gn.block {c1 c2 : Nat → Nat} {w1 w2 : World} (h : Gn c1 w1 c2 w2) {b : Nat} (hb : b < w1.heap.size) (h0 : c1 b = 0) : w2.heap[b]? = w1.heap[b]? := h.turned.block b hb (fun hn => hn h0)
theorem rc_goes {col : Nat → Nat} {w w' : World} {c : Nat} {X : Nat → Prop} (t : Turned (fun b => X (col b)) w w') (h0 : ¬ X 0) : Gn col w (rc col w c) w' :=
  ⟨t.mono (fun b hb e => h0 (e ▸ hb)), fun b hb => rc_old hb⟩
theorem rc_new {col : Nat → Nat} {w w' : World} {c : Nat} {F F' : Nat → Prop} (g : Goes2 F w F' w') (hF : ∀ b, F b → col b = c ∧ b < w.heap.size) : ∀ b, F' b → rc col w c b = c := fun b hb => by
  rcases g.foot b hb with h | h
  · rw [rc_old (hF b h).2]; exact (hF b h).1
  · exact if_neg (by omega)

section
variable {w w' : World} {col : Nat → Nat} {q M N : Nat} {d : Adr} {p : Pl} {X : Nat → Prop}
/-- What has not turned stays. -/
theorem WdX.keep (h : Wd w col q M N d p) (t : Turned (fun b => X (col b)) w w') (h0 : ¬ X 0) (c : Nat) : WdX X w' (rc col w c) q M N d p where
  q9 := fun hx => by
    obtain ⟨k, e⟩ := h.q9 (fun f => f)
    exact ⟨k.frame (t.block q k.lt (by rw [e]; exact hx)), by rw [rc_old k.lt]; exact e⟩
  la := fun hx => by
    obtain ⟨k, e⟩ := h.la (fun f => f)
    exact ⟨k.turned t (fun b hb => by rw [e b hb]; exact hx), fun b hb => by rw [rc_old (k.lt b hb)]; exact e b hb⟩
  lb := fun hx => by
    obtain ⟨k, e⟩ := h.lb (fun f => f)
    exact ⟨k.turned t (fun b hb => by rw [e b hb]; exact hx), fun b hb => by rw [rc_old (k.lt b hb)]; exact e b hb⟩
  r2 := fun hx => by
    obtain ⟨k, e⟩ := h.r2 (fun f => f)
    exact ⟨k.frame (fun b hb => t.block b (k.lt b hb) (by rw [e b hb]; exact hx)), fun b hb => by rw [rc_old (k.lt b hb)]; exact e b hb⟩
  r3 := fun hx => by
    obtain ⟨k, e⟩ := h.r3 (fun f => f)
    exact ⟨k.frame (fun b hb => t.block b (k.lt b hb) (by rw [e b hb]; exact hx)), fun b hb => by rw [rc_old (k.lt b hb)]; exact e b hb⟩
  r4 := fun hx => by
    obtain ⟨k, e⟩ := h.r4 (fun f => f)
    exact ⟨k.frame (fun b hb => t.block b (k.lt b hb) (by rw [e b hb]; exact hx)), fun b hb => by rw [rc_old (k.lt b hb)]; exact e b hb⟩
  r5 := fun hx => by
    obtain ⟨k, e⟩ := h.r5 (fun f => f)
    exact ⟨k.frame (fun b hb => t.block b (k.lt b hb) (by rw [e b hb]; exact hx)), fun b hb => by rw [rc_old (k.lt b hb)]; exact e b hb⟩
  r6 := fun hx => by
    obtain ⟨⟨k, i⟩, e⟩ := h.r6 (fun f => f)
    refine ⟨⟨k.frame (fun b hb => t.block b (k.lt b hb) (by rw [e b hb]; exact hx)), fun x hxm => ?_⟩, fun b hb => by rw [rc_old (k.lt b hb)]; exact e b hb⟩
    obtain ⟨j, je⟩ := i x hxm
    exact ⟨j.apart t (fun b hb _ => by rw [(je b hb).1]; exact h0), fun b hb => ⟨by rw [rc_old (je b hb).2]; exact (je b hb).1, Nat.lt_of_lt_of_le (je b hb).2 t.size⟩⟩
  r7 := fun hx => by
    obtain ⟨⟨k, i⟩, e⟩ := h.r7 (fun f => f)
    refine ⟨⟨k.frame (fun b hb => t.block b (k.lt b hb) (by rw [e b hb]; exact hx)), fun x hxm => ?_⟩, fun b hb => by rw [rc_old (k.lt b hb)]; exact e b hb⟩
    obtain ⟨j, je⟩ := i x hxm
    exact ⟨j.apart t (fun b hb _ => by rw [(je b hb).1]; exact h0), fun b hb => ⟨by rw [rc_old (je b hb).2]; exact (je b hb).1, Nat.lt_of_lt_of_le (je b hb).2 t.size⟩⟩
theorem Wd.of (h : WdX X w col q M N d p) (hX : ∀ i, i < 10 → ¬ X i) : Wd w col q M N d p :=
  ⟨fun _ => h.q9 (hX 9 (by omega)), fun _ => h.la (hX 1 (by omega)), fun _ => h.lb (hX 2 (by omega)), fun _ => h.r2 (hX 3 (by omega)), fun _ => h.r3 (hX 4 (by omega)), fun _ => h.r4 (hX 5 (by omega)), fun _ => h.r5 (hX 6 (by omega)), fun _ => h.r6 (hX 7 (by omega)), fun _ => h.r7 (hX 8 (by omega))⟩
/-- Nothing of old has turned. -/
theorem Wd.still (h : Wd w col q M N d p) (t : Turned (fun _ => False) w w') : Wd w' (rc col w 0) q M N d p ∧ Gn col w (rc col w 0) w' :=
  ⟨Wd.of (X := fun _ => False) (WdX.keep h t (fun f => f) 0) (fun _ _ f => f), rc_goes (X := fun _ => False) t (fun f => f)⟩
/-- The one end has gone on. -/
theorem Wd.goA {F' : Nat → Prop} {a n : Nat} {xs ys : List Value} (h : Wd w col q M N d p) (k : Lnk w' 9 3 F' d.ka 4 2 M N a xs n ys) (g : Goes2 d.FA w F' w') :
    Wd w' (rc col w 1) q M N { d with FA := F' } { p with aA := a, xA := xs, nA := n, yA := ys } ∧ Gn col w (rc col w 1) w' := by
  obtain ⟨l, e⟩ := h.la (fun f => f)
  have t : Turned (fun b => col b = 1) w w' := g.turned.mono e
  have r := WdX.keep (X := fun i => i = 1) h t (by decide) 1
  exact ⟨⟨fun _ => ⟨⟨(r.q9 (by decide)).1.c0, (r.q9 (by decide)).1.c1, (r.q9 (by decide)).1.c2, (r.q9 (by decide)).1.c3, (r.q9 (by decide)).1.c4, (r.q9 (by decide)).1.c5, (r.q9 (by decide)).1.c6, (r.q9 (by decide)).1.c7, (r.q9 (by decide)).1.fr⟩, (r.q9 (by decide)).2⟩, fun _ => ⟨k, rc_new g (fun b hb => ⟨e b hb, l.lt b hb⟩)⟩, fun _ => r.lb (by decide), fun _ => r.r2 (by decide), fun _ => r.r3 (by decide), fun _ => r.r4 (by decide), fun _ => r.r5 (by decide), fun _ => r.r6 (by decide), fun _ => r.r7 (by decide)⟩, rc_goes (X := fun i => i = 1) t (by decide)⟩
theorem Wd.goB {F' : Nat → Prop} {a n : Nat} {xs ys : List Value} (h : Wd w col q M N d p) (k : Lnk w' 3 9 F' d.kb 4 2 M N a xs n ys) (g : Goes2 d.FB w F' w') :
    Wd w' (rc col w 2) q M N { d with FB := F' } { p with aB := a, xB := xs, nB := n, yB := ys } ∧ Gn col w (rc col w 2) w' := by
  obtain ⟨l, e⟩ := h.lb (fun f => f)
  have t : Turned (fun b => col b = 2) w w' := g.turned.mono e
  have r := WdX.keep (X := fun i => i = 2) h t (by decide) 2
  exact ⟨⟨fun _ => ⟨⟨(r.q9 (by decide)).1.c0, (r.q9 (by decide)).1.c1, (r.q9 (by decide)).1.c2, (r.q9 (by decide)).1.c3, (r.q9 (by decide)).1.c4, (r.q9 (by decide)).1.c5, (r.q9 (by decide)).1.c6, (r.q9 (by decide)).1.c7, (r.q9 (by decide)).1.fr⟩, (r.q9 (by decide)).2⟩, fun _ => r.la (by decide), fun _ => ⟨k, rc_new g (fun b hb => ⟨e b hb, l.lt b hb⟩)⟩, fun _ => r.r2 (by decide), fun _ => r.r3 (by decide), fun _ => r.r4 (by decide), fun _ => r.r5 (by decide), fun _ => r.r6 (by decide), fun _ => r.r7 (by decide)⟩, rc_goes (X := fun i => i = 2) t (by decide)⟩
theorem Wd.qb (h : Wd w col q M N d p) : Qb w q d := (h.q9 (fun f => f)).1
theorem Wd.lka (h : Wd w col q M N d p) : Lnk w 9 3 d.FA d.ka 4 2 M N p.aA p.xA p.nA p.yA := (h.la (fun f => f)).1
theorem Wd.lkb (h : Wd w col q M N d p) : Lnk w 3 9 d.FB d.kb 4 2 M N p.aB p.xB p.nB p.yB := (h.lb (fun f => f)).1
end

theorem info9z : (Try.prog.info? 9).map (fun i => (i.zero, i.size, i.bytes)) = some (some (.string ⟨#[]⟩), 1, 16) := by kernel_rfl
theorem info3z : (Try.prog.info? 3).map (fun i => (i.zero, i.size, i.bytes)) = some (some (.int .i64 0), 1, 8) := by kernel_rfl
theorem info45z : (Try.prog.info? 45).map (fun i => (i.zero, i.size, i.bytes)) = some (some (.agg #[.int .u64 0, .int .i64 0, .int .u64 0, .slice none 0 0, .int .u64 0]), 5, 56) := by kernel_rfl
theorem info49z : (Try.prog.info? 49).map (fun i => (i.zero, i.size, i.bytes)) = some (some (.agg #[.int .u64 0, .int .i64 0, .int .u64 0, .slice none 0 0, .int .u64 0]), 5, 56) := by kernel_rfl
theorem und32 : Try.prog.underlying 32 = some (.slice 9) := by kernel_rfl
theorem und33 : Try.prog.underlying 33 = some (.slice 3) := by kernel_rfl
theorem und34 : Try.prog.underlying 34 = some (.slice 49) := by kernel_rfl
theorem und35 : Try.prog.underlying 35 = some (.slice 45) := by kernel_rfl
theorem grown_turned {w w' : World} {o : Option Nat} (g : w.grownBy w' o) : Turned (fun b => o = some b) w w' := ⟨g.os, g.tape, g.output, g.size, fun k hk hn => g.block k hk (fun e => hn e.symm)⟩

section
variable {w : World} {col : Nat → Nat} {q M N : Nat} {d : Adr} {p : Pl}
/-- One more in the list of cell 2. -/
theorem Wd.app2 (h : Wd w col q M N d p) (x : Value) (hx : Kd 9 x) (hn : p.pA.length ≤ 1000) (b c : Nat) (hc : w.cell? ⟨b, 0, none⟩ = some x) (ty : TypeId) :
    ∃ v' w', (Builtin.append_ #[32, 32] ty #[d.l2, .slice (some ⟨b, 0, none⟩) 1 c]).run Try.prog w = .ok v' w' ∧ w'.cell? ⟨q, 2, none⟩ = some d.l2 ∧ w'.frozen? ⟨q, 2, none⟩ = false ∧ (∃ ao n cap, v' = .slice ao n cap) ∧ (∀ b, b < w.heap.size → col b ≠ 3 → w'.heap[b]? = w.heap[b]?) ∧
      Hid (Wd (w'.setCell ⟨q, 2, none⟩ v') (rc col w 3) q M N { d with l2 := v' } { p with pA := p.pA ++ [x] } ∧ Gn col w (rc col w 3) (w'.setCell ⟨q, 2, none⟩ v')) := by
  obtain ⟨⟨hk, hr⟩, he⟩ := h.r2 (fun f => f)
  obtain ⟨hq, hqc⟩ := h.q9 (fun f => f)
  obtain ⟨v', w', r1, r2, r3, r4⟩ := rw_append und32 info9z rfl (by omega) (by omega) hr hn ⟨b, 0, none⟩ c [x] rfl (fun j u hj => by
    match j, hj with
    | 0, hj =>
      obtain rfl : x = u := by simpa using hj
      rw [add_flat]; exact hc) (fun u hu => by rw [List.mem_singleton.1 hu]; exact hx.one.2) ty
  obtain ⟨ao, cap, hv, _⟩ := r2.shape
  have t1 : Turned (fun b => col b = 3) w w' := (grown_turned r3).mono (fun b hb => he b hb)
  have eq : w'.heap[q]? = w.heap[q]? := t1.block q hq.lt (by rw [hqc]; decide)
  have t2 : Turned (fun b => col b = 3 ∨ col b = 9) w (w'.setCell ⟨q, 2, none⟩ v') := (t1.mono (fun b hb => .inl hb)).setCell (.inl (.inr hqc)) v'
  have r := WdX.keep (X := fun i => i = 3 ∨ i = 9) h t2 (by decide) 3
  have hvq : v'.ownBlock ≠ some q := fun e => (r4 q e).elim (fun h1 => by have := he q h1; rw [hqc] at this; cases this) (fun hle => by have := hq.lt; omega)
  refine ⟨v', w', r1, by rw [cell_block eq]; exact hq.c2, by rw [frozen_block eq]; exact hq.fr _, ⟨ao, _, cap, hv⟩, fun b hb hn => t1.block b hb hn, ⟨fun _ => ⟨(hq.frame eq).set2 v', by rw [rc_old hq.lt]; exact hqc⟩, fun _ => r.la (by decide), fun _ => r.lb (by decide), ?_, ?_, ?_, ?_, fun _ => r.r6 (by decide), fun _ => r.r7 (by decide)⟩, rc_goes (X := fun i => i = 3 ∨ i = 9) t2 (by decide)⟩
  all_goals first
    | exact fun _ => r.r2 (by decide)
    | exact fun _ => r.r3 (by decide)
    | exact fun _ => r.r4 (by decide)
    | exact fun _ => r.r5 (by decide)
    | exact fun _ => ⟨⟨fun y hy => (List.mem_append.1 hy).elim (hk y) (fun e => by rw [List.mem_singleton.1 e]; exact hx), by
        rw [List.length_append]
        exact r2.frame (fun b hb => set_block_other (fun e => hvq (by rw [hb, e])))⟩, fun b hb => by
          rcases r4 b hb with h1 | h1
          · rw [rc_old (hr.lt b h1)]; exact he b h1
          · exact if_neg (by omega)⟩
/-- One more in the list of cell 3. -/
theorem Wd.app3 (h : Wd w col q M N d p) (x : Value) (hx : Kd 3 x) (hn : p.pB.length ≤ 1000) (b c : Nat) (hc : w.cell? ⟨b, 0, none⟩ = some x) (ty : TypeId) :
    ∃ v' w', (Builtin.append_ #[33, 33] ty #[d.l3, .slice (some ⟨b, 0, none⟩) 1 c]).run Try.prog w = .ok v' w' ∧ w'.cell? ⟨q, 3, none⟩ = some d.l3 ∧ w'.frozen? ⟨q, 3, none⟩ = false ∧ (∃ ao n cap, v' = .slice ao n cap) ∧ (∀ b, b < w.heap.size → col b ≠ 4 → w'.heap[b]? = w.heap[b]?) ∧
      Hid (Wd (w'.setCell ⟨q, 3, none⟩ v') (rc col w 4) q M N { d with l3 := v' } { p with pB := p.pB ++ [x] } ∧ Gn col w (rc col w 4) (w'.setCell ⟨q, 3, none⟩ v')) := by
  obtain ⟨⟨hk, hr⟩, he⟩ := h.r3 (fun f => f)
  obtain ⟨hq, hqc⟩ := h.q9 (fun f => f)
  obtain ⟨v', w', r1, r2, r3, r4⟩ := rw_append und33 info3z rfl (by omega) (by omega) hr hn ⟨b, 0, none⟩ c [x] rfl (fun j u hj => by
    match j, hj with
    | 0, hj =>
      obtain rfl : x = u := by simpa using hj
      rw [add_flat]; exact hc) (fun u hu => by rw [List.mem_singleton.1 hu]; exact hx.one.2) ty
  obtain ⟨ao, cap, hv, _⟩ := r2.shape
  have t1 : Turned (fun b => col b = 4) w w' := (grown_turned r3).mono (fun b hb => he b hb)
  have eq : w'.heap[q]? = w.heap[q]? := t1.block q hq.lt (by rw [hqc]; decide)
  have t2 : Turned (fun b => col b = 4 ∨ col b = 9) w (w'.setCell ⟨q, 3, none⟩ v') := (t1.mono (fun b hb => .inl hb)).setCell (.inl (.inr hqc)) v'
  have r := WdX.keep (X := fun i => i = 4 ∨ i = 9) h t2 (by decide) 4
  have hvq : v'.ownBlock ≠ some q := fun e => (r4 q e).elim (fun h1 => by have := he q h1; rw [hqc] at this; cases this) (fun hle => by have := hq.lt; omega)
  refine ⟨v', w', r1, by rw [cell_block eq]; exact hq.c3, by rw [frozen_block eq]; exact hq.fr _, ⟨ao, _, cap, hv⟩, fun b hb hn => t1.block b hb hn, ⟨fun _ => ⟨(hq.frame eq).set3 v', by rw [rc_old hq.lt]; exact hqc⟩, fun _ => r.la (by decide), fun _ => r.lb (by decide), ?_, ?_, ?_, ?_, fun _ => r.r6 (by decide), fun _ => r.r7 (by decide)⟩, rc_goes (X := fun i => i = 4 ∨ i = 9) t2 (by decide)⟩
  all_goals first
    | exact fun _ => r.r2 (by decide)
    | exact fun _ => r.r3 (by decide)
    | exact fun _ => r.r4 (by decide)
    | exact fun _ => r.r5 (by decide)
    | exact fun _ => ⟨⟨fun y hy => (List.mem_append.1 hy).elim (hk y) (fun e => by rw [List.mem_singleton.1 e]; exact hx), by
        rw [List.length_append]
        exact r2.frame (fun b hb => set_block_other (fun e => hvq (by rw [hb, e])))⟩, fun b hb => by
          rcases r4 b hb with h1 | h1
          · rw [rc_old (hr.lt b h1)]; exact he b h1
          · exact if_neg (by omega)⟩
/-- One more in the list of cell 4. -/
theorem Wd.app4 (h : Wd w col q M N d p) (x : Value) (hx : Kd 3 x) (hn : p.gA.length ≤ 1000) (b c : Nat) (hc : w.cell? ⟨b, 0, none⟩ = some x) (ty : TypeId) :
    ∃ v' w', (Builtin.append_ #[33, 33] ty #[d.l4, .slice (some ⟨b, 0, none⟩) 1 c]).run Try.prog w = .ok v' w' ∧ w'.cell? ⟨q, 4, none⟩ = some d.l4 ∧ w'.frozen? ⟨q, 4, none⟩ = false ∧ (∃ ao n cap, v' = .slice ao n cap) ∧ (∀ b, b < w.heap.size → col b ≠ 5 → w'.heap[b]? = w.heap[b]?) ∧
      Hid (Wd (w'.setCell ⟨q, 4, none⟩ v') (rc col w 5) q M N { d with l4 := v' } { p with gA := p.gA ++ [x] } ∧ Gn col w (rc col w 5) (w'.setCell ⟨q, 4, none⟩ v')) := by
  obtain ⟨⟨hk, hr⟩, he⟩ := h.r4 (fun f => f)
  obtain ⟨hq, hqc⟩ := h.q9 (fun f => f)
  obtain ⟨v', w', r1, r2, r3, r4⟩ := rw_append und33 info3z rfl (by omega) (by omega) hr hn ⟨b, 0, none⟩ c [x] rfl (fun j u hj => by
    match j, hj with
    | 0, hj =>
      obtain rfl : x = u := by simpa using hj
      rw [add_flat]; exact hc) (fun u hu => by rw [List.mem_singleton.1 hu]; exact hx.one.2) ty
  obtain ⟨ao, cap, hv, _⟩ := r2.shape
  have t1 : Turned (fun b => col b = 5) w w' := (grown_turned r3).mono (fun b hb => he b hb)
  have eq : w'.heap[q]? = w.heap[q]? := t1.block q hq.lt (by rw [hqc]; decide)
  have t2 : Turned (fun b => col b = 5 ∨ col b = 9) w (w'.setCell ⟨q, 4, none⟩ v') := (t1.mono (fun b hb => .inl hb)).setCell (.inl (.inr hqc)) v'
  have r := WdX.keep (X := fun i => i = 5 ∨ i = 9) h t2 (by decide) 5
  have hvq : v'.ownBlock ≠ some q := fun e => (r4 q e).elim (fun h1 => by have := he q h1; rw [hqc] at this; cases this) (fun hle => by have := hq.lt; omega)
  refine ⟨v', w', r1, by rw [cell_block eq]; exact hq.c4, by rw [frozen_block eq]; exact hq.fr _, ⟨ao, _, cap, hv⟩, fun b hb hn => t1.block b hb hn, ⟨fun _ => ⟨(hq.frame eq).set4 v', by rw [rc_old hq.lt]; exact hqc⟩, fun _ => r.la (by decide), fun _ => r.lb (by decide), ?_, ?_, ?_, ?_, fun _ => r.r6 (by decide), fun _ => r.r7 (by decide)⟩, rc_goes (X := fun i => i = 5 ∨ i = 9) t2 (by decide)⟩
  all_goals first
    | exact fun _ => r.r2 (by decide)
    | exact fun _ => r.r3 (by decide)
    | exact fun _ => r.r4 (by decide)
    | exact fun _ => r.r5 (by decide)
    | exact fun _ => ⟨⟨fun y hy => (List.mem_append.1 hy).elim (hk y) (fun e => by rw [List.mem_singleton.1 e]; exact hx), by
        rw [List.length_append]
        exact r2.frame (fun b hb => set_block_other (fun e => hvq (by rw [hb, e])))⟩, fun b hb => by
          rcases r4 b hb with h1 | h1
          · rw [rc_old (hr.lt b h1)]; exact he b h1
          · exact if_neg (by omega)⟩
/-- One more in the list of cell 5. -/
theorem Wd.app5 (h : Wd w col q M N d p) (x : Value) (hx : Kd 9 x) (hn : p.gB.length ≤ 1000) (b c : Nat) (hc : w.cell? ⟨b, 0, none⟩ = some x) (ty : TypeId) :
    ∃ v' w', (Builtin.append_ #[32, 32] ty #[d.l5, .slice (some ⟨b, 0, none⟩) 1 c]).run Try.prog w = .ok v' w' ∧ w'.cell? ⟨q, 5, none⟩ = some d.l5 ∧ w'.frozen? ⟨q, 5, none⟩ = false ∧ (∃ ao n cap, v' = .slice ao n cap) ∧ (∀ b, b < w.heap.size → col b ≠ 6 → w'.heap[b]? = w.heap[b]?) ∧
      Hid (Wd (w'.setCell ⟨q, 5, none⟩ v') (rc col w 6) q M N { d with l5 := v' } { p with gB := p.gB ++ [x] } ∧ Gn col w (rc col w 6) (w'.setCell ⟨q, 5, none⟩ v')) := by
  obtain ⟨⟨hk, hr⟩, he⟩ := h.r5 (fun f => f)
  obtain ⟨hq, hqc⟩ := h.q9 (fun f => f)
  obtain ⟨v', w', r1, r2, r3, r4⟩ := rw_append und32 info9z rfl (by omega) (by omega) hr hn ⟨b, 0, none⟩ c [x] rfl (fun j u hj => by
    match j, hj with
    | 0, hj =>
      obtain rfl : x = u := by simpa using hj
      rw [add_flat]; exact hc) (fun u hu => by rw [List.mem_singleton.1 hu]; exact hx.one.2) ty
  obtain ⟨ao, cap, hv, _⟩ := r2.shape
  have t1 : Turned (fun b => col b = 6) w w' := (grown_turned r3).mono (fun b hb => he b hb)
  have eq : w'.heap[q]? = w.heap[q]? := t1.block q hq.lt (by rw [hqc]; decide)
  have t2 : Turned (fun b => col b = 6 ∨ col b = 9) w (w'.setCell ⟨q, 5, none⟩ v') := (t1.mono (fun b hb => .inl hb)).setCell (.inl (.inr hqc)) v'
  have r := WdX.keep (X := fun i => i = 6 ∨ i = 9) h t2 (by decide) 6
  have hvq : v'.ownBlock ≠ some q := fun e => (r4 q e).elim (fun h1 => by have := he q h1; rw [hqc] at this; cases this) (fun hle => by have := hq.lt; omega)
  refine ⟨v', w', r1, by rw [cell_block eq]; exact hq.c5, by rw [frozen_block eq]; exact hq.fr _, ⟨ao, _, cap, hv⟩, fun b hb hn => t1.block b hb hn, ⟨fun _ => ⟨(hq.frame eq).set5 v', by rw [rc_old hq.lt]; exact hqc⟩, fun _ => r.la (by decide), fun _ => r.lb (by decide), ?_, ?_, ?_, ?_, fun _ => r.r6 (by decide), fun _ => r.r7 (by decide)⟩, rc_goes (X := fun i => i = 6 ∨ i = 9) t2 (by decide)⟩
  all_goals first
    | exact fun _ => r.r2 (by decide)
    | exact fun _ => r.r3 (by decide)
    | exact fun _ => r.r4 (by decide)
    | exact fun _ => r.r5 (by decide)
    | exact fun _ => ⟨⟨fun y hy => (List.mem_append.1 hy).elim (hk y) (fun e => by rw [List.mem_singleton.1 e]; exact hx), by
        rw [List.length_append]
        exact r2.frame (fun b hb => set_block_other (fun e => hvq (by rw [hb, e])))⟩, fun b hb => by
          rcases r4 b hb with h1 | h1
          · rw [rc_old (hr.lt b h1)]; exact he b h1
          · exact if_neg (by omega)⟩
/-- One more packet in the list of cell 6. -/
theorem Wd.app6 (h : Wd w col q M N d p) (x : Px) (hx : Tx w 3 x.iv x.zs) (hxc : ∀ b, x.iv.ownBlock = some b → col b = 0 ∧ b < w.heap.size) (hn : p.tA.length ≤ 1000) (b c : Nat) (hc : ∀ j u, (cellsP x)[j]? = some u → w.cell? ⟨b, j, none⟩ = some u) (ty : TypeId) :
    ∃ v' w', (Builtin.append_ #[34, 34] ty #[d.l6, .slice (some ⟨b, 0, none⟩) 1 c]).run Try.prog w = .ok v' w' ∧ w'.cell? ⟨q, 6, none⟩ = some d.l6 ∧ w'.frozen? ⟨q, 6, none⟩ = false ∧ (∃ ao n cap, v' = .slice ao n cap) ∧ (∀ b, b < w.heap.size → col b ≠ 7 → w'.heap[b]? = w.heap[b]?) ∧
      Hid (Wd (w'.setCell ⟨q, 6, none⟩ v') (rc col w 7) q M N { d with l6 := v' } { p with tA := p.tA ++ [x] } ∧ Gn col w (rc col w 7) (w'.setCell ⟨q, 6, none⟩ v')) := by
  obtain ⟨⟨hr, hi⟩, he⟩ := h.r6 (fun f => f)
  obtain ⟨hq, hqc⟩ := h.q9 (fun f => f)
  have hone : x.iv.oneCell' = true := by obtain ⟨ao, cap, e, _⟩ := hx; rw [e]; rfl
  obtain ⟨v', w', r1, r2, r3, r4⟩ := rw_append und34 info49z rfl (by omega) (by omega) hr hn ⟨b, 0, none⟩ c (cellsP x) rfl (fun j u hj => by
    rw [add_flat, Nat.zero_add]; exact hc j u hj) (fun u hu => by
      simp only [cellsP, List.mem_cons, List.not_mem_nil, or_false] at hu
      rcases hu with rfl | rfl | rfl | rfl | rfl
      · rfl
      · rfl
      · rfl
      · exact hone
      · rfl) ty
  obtain ⟨ao, cap, hv, _⟩ := r2.shape
  have t1 : Turned (fun b => col b = 7) w w' := (grown_turned r3).mono (fun b hb => he b hb)
  have eq : w'.heap[q]? = w.heap[q]? := t1.block q hq.lt (by rw [hqc]; decide)
  have t2 : Turned (fun b => col b = 7 ∨ col b = 9) w (w'.setCell ⟨q, 6, none⟩ v') := (t1.mono (fun b hb => .inl hb)).setCell (.inl (.inr hqc)) v'
  have r := WdX.keep (X := fun i => i = 7 ∨ i = 9) h t2 (by decide) 7
  have hvq : v'.ownBlock ≠ some q := fun e => (r4 q e).elim (fun h1 => by have := he q h1; rw [hqc] at this; cases this) (fun hle => by have := hq.lt; omega)
  have hitem : ∀ y : Px, Tx w 3 y.iv y.zs → (∀ b, y.iv.ownBlock = some b → col b = 0 ∧ b < w.heap.size) → Tx (w'.setCell ⟨q, 6, none⟩ v') 3 y.iv y.zs ∧ ∀ b, y.iv.ownBlock = some b → rc col w 7 b = 0 ∧ b < (w'.setCell ⟨q, 6, none⟩ v').heap.size := fun y hy hyc =>
    ⟨hy.apart t2 (fun b hb _ => by rw [(hyc b hb).1]; decide), fun b hb => ⟨by rw [rc_old (hyc b hb).2]; exact (hyc b hb).1, Nat.lt_of_lt_of_le (hyc b hb).2 t2.size⟩⟩
  refine ⟨v', w', r1, by rw [cell_block eq]; exact hq.c6, by rw [frozen_block eq]; exact hq.fr _, ⟨ao, _, cap, hv⟩, fun b hb hn => t1.block b hb hn, ⟨fun _ => ⟨(hq.frame eq).set6 v', by rw [rc_old hq.lt]; exact hqc⟩, fun _ => r.la (by decide), fun _ => r.lb (by decide), fun _ => r.r2 (by decide), fun _ => r.r3 (by decide), fun _ => r.r4 (by decide), fun _ => r.r5 (by decide), ?_, ?_⟩, rc_goes (X := fun i => i = 7 ∨ i = 9) t2 (by decide)⟩
  all_goals first
    | exact fun _ => r.r6 (by decide)
    | exact fun _ => r.r7 (by decide)
    | exact fun _ => ⟨⟨by
        rw [List.length_append, flatP_app, show flatP [x] = cellsP x by simp [flatP]]
        exact r2.frame (fun b hb => set_block_other (fun e => hvq (by rw [hb, e]))), fun y hy => (List.mem_append.1 hy).elim (fun hm => hitem y (hi y hm).1 (hi y hm).2) (fun e => by rw [List.mem_singleton.1 e]; exact hitem x hx hxc)⟩, fun b hb => by
          rcases r4 b hb with h1 | h1
          · rw [rc_old (hr.lt b h1)]; exact he b h1
          · exact if_neg (by omega)⟩
/-- One more packet in the list of cell 7. -/
theorem Wd.app7 (h : Wd w col q M N d p) (x : Px) (hx : Tx w 9 x.iv x.zs) (hxc : ∀ b, x.iv.ownBlock = some b → col b = 0 ∧ b < w.heap.size) (hn : p.tB.length ≤ 1000) (b c : Nat) (hc : ∀ j u, (cellsP x)[j]? = some u → w.cell? ⟨b, j, none⟩ = some u) (ty : TypeId) :
    ∃ v' w', (Builtin.append_ #[35, 35] ty #[d.l7, .slice (some ⟨b, 0, none⟩) 1 c]).run Try.prog w = .ok v' w' ∧ w'.cell? ⟨q, 7, none⟩ = some d.l7 ∧ w'.frozen? ⟨q, 7, none⟩ = false ∧ (∃ ao n cap, v' = .slice ao n cap) ∧ (∀ b, b < w.heap.size → col b ≠ 8 → w'.heap[b]? = w.heap[b]?) ∧
      Hid (Wd (w'.setCell ⟨q, 7, none⟩ v') (rc col w 8) q M N { d with l7 := v' } { p with tB := p.tB ++ [x] } ∧ Gn col w (rc col w 8) (w'.setCell ⟨q, 7, none⟩ v')) := by
  obtain ⟨⟨hr, hi⟩, he⟩ := h.r7 (fun f => f)
  obtain ⟨hq, hqc⟩ := h.q9 (fun f => f)
  have hone : x.iv.oneCell' = true := by obtain ⟨ao, cap, e, _⟩ := hx; rw [e]; rfl
  obtain ⟨v', w', r1, r2, r3, r4⟩ := rw_append und35 info45z rfl (by omega) (by omega) hr hn ⟨b, 0, none⟩ c (cellsP x) rfl (fun j u hj => by
    rw [add_flat, Nat.zero_add]; exact hc j u hj) (fun u hu => by
      simp only [cellsP, List.mem_cons, List.not_mem_nil, or_false] at hu
      rcases hu with rfl | rfl | rfl | rfl | rfl
      · rfl
      · rfl
      · rfl
      · exact hone
      · rfl) ty
  obtain ⟨ao, cap, hv, _⟩ := r2.shape
  have t1 : Turned (fun b => col b = 8) w w' := (grown_turned r3).mono (fun b hb => he b hb)
  have eq : w'.heap[q]? = w.heap[q]? := t1.block q hq.lt (by rw [hqc]; decide)
  have t2 : Turned (fun b => col b = 8 ∨ col b = 9) w (w'.setCell ⟨q, 7, none⟩ v') := (t1.mono (fun b hb => .inl hb)).setCell (.inl (.inr hqc)) v'
  have r := WdX.keep (X := fun i => i = 8 ∨ i = 9) h t2 (by decide) 8
  have hvq : v'.ownBlock ≠ some q := fun e => (r4 q e).elim (fun h1 => by have := he q h1; rw [hqc] at this; cases this) (fun hle => by have := hq.lt; omega)
  have hitem : ∀ y : Px, Tx w 9 y.iv y.zs → (∀ b, y.iv.ownBlock = some b → col b = 0 ∧ b < w.heap.size) → Tx (w'.setCell ⟨q, 7, none⟩ v') 9 y.iv y.zs ∧ ∀ b, y.iv.ownBlock = some b → rc col w 8 b = 0 ∧ b < (w'.setCell ⟨q, 7, none⟩ v').heap.size := fun y hy hyc =>
    ⟨hy.apart t2 (fun b hb _ => by rw [(hyc b hb).1]; decide), fun b hb => ⟨by rw [rc_old (hyc b hb).2]; exact (hyc b hb).1, Nat.lt_of_lt_of_le (hyc b hb).2 t2.size⟩⟩
  refine ⟨v', w', r1, by rw [cell_block eq]; exact hq.c7, by rw [frozen_block eq]; exact hq.fr _, ⟨ao, _, cap, hv⟩, fun b hb hn => t1.block b hb hn, ⟨fun _ => ⟨(hq.frame eq).set7 v', by rw [rc_old hq.lt]; exact hqc⟩, fun _ => r.la (by decide), fun _ => r.lb (by decide), fun _ => r.r2 (by decide), fun _ => r.r3 (by decide), fun _ => r.r4 (by decide), fun _ => r.r5 (by decide), ?_, ?_⟩, rc_goes (X := fun i => i = 8 ∨ i = 9) t2 (by decide)⟩
  all_goals first
    | exact fun _ => r.r6 (by decide)
    | exact fun _ => r.r7 (by decide)
    | exact fun _ => ⟨⟨by
        rw [List.length_append, flatP_app, show flatP [x] = cellsP x by simp [flatP]]
        exact r2.frame (fun b hb => set_block_other (fun e => hvq (by rw [hb, e]))), fun y hy => (List.mem_append.1 hy).elim (fun hm => hitem y (hi y hm).1 (hi y hm).2) (fun e => by rw [List.mem_singleton.1 e]; exact hitem x hx hxc)⟩, fun b hb => by
          rcases r4 b hb with h1 | h1
          · rw [rc_old (hr.lt b h1)]; exact he b h1
          · exact if_neg (by omega)⟩
/-- Where a packet of the list of cell 6 lies. -/
theorem Wd.at6 (h : Wd w col q M N d p) {j : Nat} {x : Px} (hj : p.tA[j]? = some x) : ∃ b off cap, d.l6 = .slice (some ⟨b, off, none⟩) p.tA.length cap ∧ p.tA.length ≤ cap ∧ cap ≤ maxLen ∧ Tx w 3 x.iv x.zs ∧ (∀ b, x.iv.ownBlock = some b → col b = 0 ∧ b < w.heap.size) ∧ ∀ i v, (cellsP x)[i]? = some v → w.cell? ⟨b, off + j * 5 + i, none⟩ = some v := by
  obtain ⟨⟨hr, hi⟩, he⟩ := h.r6 (fun f => f)
  obtain ⟨ao, cap, hv, h1, h2⟩ := hr.shape
  rw [hv] at hr
  obtain ⟨_, b, off, rfl, hb, _⟩ := hr.cell (flatP_at _ j x 0 _ hj rfl)
  refine ⟨b, off, cap, hv, h1, h2, (hi x (List.mem_of_getElem? hj)).1, (hi x (List.mem_of_getElem? hj)).2, fun i v hiv => ?_⟩
  obtain ⟨_, b', off', e, _, hc⟩ := hr.cell (flatP_at _ j x i v hj hiv)
  obtain ⟨rfl, rfl⟩ : b = b' ∧ off = off' := by simpa using e
  rw [Nat.add_assoc]; exact hc
theorem Wd.shape6 (h : Wd w col q M N d p) : ∃ ao cap, d.l6 = .slice ao p.tA.length cap := by
  obtain ⟨⟨hr, hi⟩, he⟩ := h.r6 (fun f => f)
  obtain ⟨ao, cap, hv, h1, h2⟩ := hr.shape
  exact ⟨ao, cap, hv⟩
/-- Where a packet of the list of cell 7 lies. -/
theorem Wd.at7 (h : Wd w col q M N d p) {j : Nat} {x : Px} (hj : p.tB[j]? = some x) : ∃ b off cap, d.l7 = .slice (some ⟨b, off, none⟩) p.tB.length cap ∧ p.tB.length ≤ cap ∧ cap ≤ maxLen ∧ Tx w 9 x.iv x.zs ∧ (∀ b, x.iv.ownBlock = some b → col b = 0 ∧ b < w.heap.size) ∧ ∀ i v, (cellsP x)[i]? = some v → w.cell? ⟨b, off + j * 5 + i, none⟩ = some v := by
  obtain ⟨⟨hr, hi⟩, he⟩ := h.r7 (fun f => f)
  obtain ⟨ao, cap, hv, h1, h2⟩ := hr.shape
  rw [hv] at hr
  obtain ⟨_, b, off, rfl, hb, _⟩ := hr.cell (flatP_at _ j x 0 _ hj rfl)
  refine ⟨b, off, cap, hv, h1, h2, (hi x (List.mem_of_getElem? hj)).1, (hi x (List.mem_of_getElem? hj)).2, fun i v hiv => ?_⟩
  obtain ⟨_, b', off', e, _, hc⟩ := hr.cell (flatP_at _ j x i v hj hiv)
  obtain ⟨rfl, rfl⟩ : b = b' ∧ off = off' := by simpa using e
  rw [Nat.add_assoc]; exact hc
theorem Wd.shape7 (h : Wd w col q M N d p) : ∃ ao cap, d.l7 = .slice ao p.tB.length cap := by
  obtain ⟨⟨hr, hi⟩, he⟩ := h.r7 (fun f => f)
  obtain ⟨ao, cap, hv, h1, h2⟩ := hr.shape
  exact ⟨ao, cap, hv⟩
theorem Wd.shape2 (h : Wd w col q M N d p) : ∃ ao cap, d.l2 = .slice ao p.pA.length cap := (h.r2 (fun f => f)).1.shape
theorem Wd.list2 (h : Wd w col q M N d p) : Lst w 9 d.l2 p.pA := (h.r2 (fun f => f)).1
theorem Wd.shape3 (h : Wd w col q M N d p) : ∃ ao cap, d.l3 = .slice ao p.pB.length cap := (h.r3 (fun f => f)).1.shape
theorem Wd.list3 (h : Wd w col q M N d p) : Lst w 3 d.l3 p.pB := (h.r3 (fun f => f)).1
theorem Wd.shape4 (h : Wd w col q M N d p) : ∃ ao cap, d.l4 = .slice ao p.gA.length cap := (h.r4 (fun f => f)).1.shape
theorem Wd.list4 (h : Wd w col q M N d p) : Lst w 3 d.l4 p.gA := (h.r4 (fun f => f)).1
theorem Wd.shape5 (h : Wd w col q M N d p) : ∃ ao cap, d.l5 = .slice ao p.gB.length cap := (h.r5 (fun f => f)).1.shape
theorem Wd.list5 (h : Wd w col q M N d p) : Lst w 9 d.l5 p.gB := (h.r5 (fun f => f)).1
theorem und35e : Try.prog.underlying 35 = some (.slice (Try.prog.elem 35)) := by kernel_rfl
set_option maxRecDepth 100000 in
theorem size35 (w : World) : (sizeOf (Try.prog.elem 35)).run Try.prog w = .ok 5 w := by rfl
/-- One packet less at the front. -/
theorem Wd.drop7 (h : Wd w col q M N d p) {x : Px} {r : List Px} (hx : p.tB = x :: r) :
    ∃ ao n cap ao' n' cap', d.l7 = .slice ao n cap ∧ (0 : Int) < n ∧ (∀ W, (Instr.slice 35 (.slice ao n cap) (some (.int .i64 1)) none none).run Try.prog W = .ok (.slice ao' n' cap') W) ∧ Hid (Wd (w.setCell ⟨q, 7, none⟩ (.slice ao' n' cap')) (rc col w 8) q M N { d with l7 := .slice ao' n' cap' } { p with tB := r } ∧ Gn col w (rc col w 8) (w.setCell ⟨q, 7, none⟩ (.slice ao' n' cap'))) := by
  obtain ⟨⟨hr, hi⟩, he⟩ := h.r7 (fun f => f)
  obtain ⟨hq, hqc⟩ := h.q9 (fun f => f)
  rw [hx] at hr hi
  have hcs := flatP_drop x r
  obtain ⟨hl, h1, ao, cap, hv, hm, ⟨_, h2, _⟩ | ⟨b, off, K, f, rfl, hrow, h2, h3, h4⟩⟩ := hr
  · simp at h2
  have h3' : r.length + 1 ≤ cap := by simpa using h3
  have hsl : ∀ W, (Instr.slice 35 (.slice (some ⟨b, off, none⟩) (r.length + 1) cap) (some (.int .i64 1)) none none).run Try.prog W = .ok (.slice (some (if cap = 1 then ⟨b, off, none⟩ else ⟨b, off + 5, none⟩)) r.length (cap - 1)) W := fun W => by
    rw [run_slice_l W 35 (some ⟨b, off, none⟩) (r.length + 1) cap und35e .i64 1 (by omega) (by omega), size35]
    simp only [Result.andThen_ok, sliced]
    congr 2
    · split
      · next h => rw [if_pos (by simpa using h)]
      · next h => rw [if_neg (by simpa using h)]; simp [add_flat]
  have hrw : Rw w 45 5 (.slice (some (if cap = 1 then ⟨b, off, none⟩ else ⟨b, off + 5, none⟩)) r.length (cap - 1)) r.length (flatP r) := by
    refine ⟨flatP_len r, fun y hy => h1 y (by rw [← hcs] at hy; exact List.mem_of_mem_drop hy), _, _, rfl, by omega, .inr ?_⟩
    by_cases hc : cap = 1
    · subst hc
      obtain rfl : r = [] := List.length_eq_zero_iff.1 (by omega)
      exact ⟨b, off, K, f, by simp, hrow, by omega, by simp, by simp [flatP]⟩
    · refine ⟨b, off + 5, K, f, by rw [if_neg hc], hrow, by omega, by omega, fun j y hj => ?_⟩
      rw [← hcs, List.getElem?_drop] at hj
      rw [← h4 (5 + j) y hj]
      congr 1
      omega
  have hob : ∀ b', (Value.slice (some (if cap = 1 then (⟨b, off, none⟩ : Addr) else ⟨b, off + 5, none⟩)) r.length (cap - 1)).ownBlock = some b' → d.l7.ownBlock = some b' := fun b' hb' => by
    rw [hv]
    split at hb' <;> simpa [Value.ownBlock] using hb'
  have t2 : Turned (fun b => col b = 8 ∨ col b = 9) w (w.setCell ⟨q, 7, none⟩ (.slice (some (if cap = 1 then ⟨b, off, none⟩ else ⟨b, off + 5, none⟩)) r.length (cap - 1))) := (Turned.refl _ w).setCell (.inl (.inr hqc)) _
  have k := WdX.keep (X := fun i => i = 8 ∨ i = 9) h t2 (by decide) 8
  refine ⟨_, _, _, _, _, _, hv, by simp, by simpa using hsl, ⟨fun _ => ⟨hq.set7 _, by rw [rc_old hq.lt]; exact hqc⟩, fun _ => k.la (by decide), fun _ => k.lb (by decide), fun _ => k.r2 (by decide), fun _ => k.r3 (by decide), fun _ => k.r4 (by decide), fun _ => k.r5 (by decide), fun _ => k.r6 (by decide), fun _ => ⟨⟨?_, fun y hy => ?_⟩, fun b' hb' => ?_⟩⟩, rc_goes (X := fun i => i = 8 ∨ i = 9) t2 (by decide)⟩
  · exact hrw.frame (fun b' hb' => set_block_other (fun e => by have := he _ (hob b' hb'); rw [e, hqc] at this; cases this))
  · obtain ⟨j, je⟩ := hi y (List.mem_cons_of_mem _ hy)
    exact ⟨j.apart t2 (fun b hb _ => by rw [(je b hb).1]; decide), fun b hb => ⟨by rw [rc_old (je b hb).2]; exact (je b hb).1, Nat.lt_of_lt_of_le (je b hb).2 t2.size⟩⟩
  · rw [rc_old (hrw.lt b' hb')]; exact he b' (hob b' hb')
end
end Go.Proofs.Ythobbnmdpkginaa
