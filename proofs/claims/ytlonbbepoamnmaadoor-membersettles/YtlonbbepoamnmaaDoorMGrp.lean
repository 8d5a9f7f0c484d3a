/-
  Nodes, frames under way and views in memory: each block has a colour that tells whose it is.
-/
import Derived.Test.YtlonbbepoamnmaaDoorMTos
import Derived.Test.YtlonbbepoamnmaaDoorPMove
import Derived.Laws.AppendOwnNone
namespace Go.Proofs.YtlonbbepoamnmaaDoor
open Go.RowKit
set_option linter.unusedVariables false

theorem wpList_append_run {P : Program} {w : World} {ops : Array Oper} {rest : List Oper} {o : Oper} {a : Act} {Q : Exit → Act → World → Prop} (hgd : o.guard = none) (s x : Operand) (t u : TypeId)
    (ho : o.op = .call { callee := .builtin .append, args := #[s, x], argTypes := #[t, u] }) (v y v' : Value) (w' : World) (hs : a.eval s = v) (hx : a.eval x = y) (hrun : (Builtin.append_ #[t, u] o.type #[v, y]).run P w = .ok v' w')
    (h : wpList P ops Q rest (a.put o.dst v') w') : wpList P ops Q (o :: rest) a w := by
  refine wpList_plain hgd fun K hK => ?_
  unfold Oper.wp execOp
  simp only [ho, resolve, invoke, builtin, Sem.run_bind, Sem.run_pure, Result.andThen_ok, List.map_toArray, List.map_cons, List.map_nil, hs, hx, hrun]
  exact hK _ _ h
theorem und72 : Tryd.prog.underlying 72 = some (.slice 24) := by kernel_rfl
theorem und73 : Tryd.prog.underlying 73 = some (.slice 71) := by kernel_rfl
theorem und71 : Tryd.prog.underlying 71 = some (.slice 34) := by kernel_rfl
theorem info24 : (Tryd.prog.info? 24).map (fun i => (i.zero, i.size, i.bytes)) = some (some (.pointer none), 1, 8) := by kernel_rfl
theorem info71 : (Tryd.prog.info? 71).map (fun i => (i.zero, i.size, i.bytes)) = some (some (.slice none 0 0), 1, 24) := by kernel_rfl
theorem info34 : (Tryd.prog.info? 34).map (fun i => (i.zero, i.size, i.bytes)) = some (some (.agg #[.int .u64 0, .int .i64 0, .int .u16 0]), 3, 24) := by kernel_rfl

/-- Things that are read from some place on, or none. -/
def From (w : World) (u : Value) (m : Nat) (news : List Value) : Prop := (u = .slice none 0 0 ∧ m = 0 ∧ news = []) ∨ ∃ ad c, u = .slice (some ad) m c ∧ ∀ j x, news[j]? = some x → w.cell? (ad.add j) = some x
/-- append to a row of one's own. -/
theorem row_append {w : World} {t e : TypeId} {z : Value} {sz bytes : Nat} (ht : Tryd.prog.underlying t = some (.slice e)) (hinfo : (Tryd.prog.info? e).map (fun i => (i.zero, i.size, i.bytes)) = some (some z, sz, bytes)) (hzs : z.cells.size = sz) (h0 : 0 < sz) (hby : bytes ≤ 200)
    {v : Value} {n : Nat} {xs : List Value} (h : w.ownsRow 1 e sz v n xs) {u : Value} {m : Nat} {news : List Value} (hu : From w u m news) (hl : news.length = m * sz) (hone : ∀ x ∈ news, x.oneCell' = true) (hn : n + m ≤ 100000000) (h1 : 1 ≤ w.heap.size) (ty : TypeId) :
    ∃ v' w', (Builtin.append_ #[t, t] ty #[v, u]).run Tryd.prog w = .ok v' w' ∧ w'.ownsRow 1 e sz v' (n + m) (xs ++ news) ∧ w.grownBy w' v.ownBlock ∧ (v'.ownBlock = v.ownBlock ∨ v'.ownBlock = some w.heap.size) := by
  obtain ⟨i, hi, hz0, hz1, hz2⟩ := info_parts hinfo
  rcases hu with ⟨rfl, rfl, rfl⟩ | ⟨ad, c, rfl, hc⟩
  · have hrun := run_append_owned_none (P := Tryd.prog) (w := w) 1 t ty e i sz ht hi v n xs h
    exact ⟨v, w, hrun, by simpa using h, ⟨rfl, rfl, rfl, Nat.le_refl _, fun _ _ _ => rfl⟩, .inl rfl⟩
  · have hb2 : (n + m) * bytes ≤ 140737488355328 := by
      have : (n + m) * bytes ≤ 100000000 * 200 := Nat.mul_le_mul (by omega) hby
      omega
    obtain ⟨v', w', a1, a2, a3, a4, a5⟩ := run_append_own_at (P := Tryd.prog) w 1 t ty e i z sz bytes ht hi hz0 hz1 hz2 hzs h0 v n xs h ad m c news hl hc hone (by unfold maxLen; omega) hb2 h1
    exact ⟨v', w', a1, a2, a3, a5⟩

/-- Views, cell by cell. -/
def vcells (v : Vid × Nat) : List Value := [.int .u64 (v.1.1 : Nat), .int .i64 v.1.2, .int .u16 (v.2 : Nat)]
def flatV (L : List (Vid × Nat)) : List Value := L.flatMap vcells
theorem flatV_app (A B : List (Vid × Nat)) : flatV (A ++ B) = flatV A ++ flatV B := by simp [flatV]
theorem flatV_one (v : Vid × Nat) : flatV [v] = vcells v := by simp [flatV]
theorem flatV_len (L : List (Vid × Nat)) : (flatV L).length = L.length * 3 := by
  induction L with
  | nil => rfl
  | cons a L ih => simp only [flatV, List.flatMap_cons, List.length_append, List.length_cons] at *; rw [ih]; simp [vcells]; omega
theorem vcells_one (v : Vid × Nat) : ∀ u ∈ vcells v, u.oneCell' = true := by
  intro u hu
  simp only [vcells, List.mem_cons, List.not_mem_nil, or_false] at hu
  rcases hu with rfl | rfl | rfl <;> rfl

def ptrs (k : Nat) (qs : Nat → Nat) : List Value := (List.range k).map (fun i => Value.pointer (some ⟨qs i, 0, none⟩))
def GL (w : World) (col : Nat → Nat) (v : Value) (k : Nat) (qs : Nat → Nat) : Prop := w.ownsRow 1 24 1 v k (ptrs k qs) ∧ ∀ b, v.ownBlock = some b → col b = 2
def GB (w : World) (col : Nat → Nat) (v : Value) (bag : List (Nat × PF)) : Prop := ∃ L, plainO L = bag ∧ w.ownsRow 1 87 16 v L.length (flatO L) ∧ (∀ b, v.ownBlock = some b → col b = 3) ∧ OIn (fun b => col b = 5) w L
def GV (w : World) (col : Nat → Nat) (v : Value) (k : Nat) (vl : List Value) (views : Nat → List (Vid × Nat)) : Prop :=
  w.ownsRow 1 71 1 v k vl ∧ (∀ b, v.ownBlock = some b → col b = 4) ∧ ∀ i x, vl[i]? = some x → w.ownsRow 1 34 3 x (views i).length (flatV (views i)) ∧ ∀ b, x.ownBlock = some b → col b = 20 + i
/-- Where all of it lies. -/
structure Ga where
  lv : Value
  bv : Value
  vv : Value
  vl : List Value
  qs : Nat → Nat
  os : Nat → Option Nat
/-- What must be as it was: the blocks of K. -/
structure Kept (K : Nat → Prop) (w w' : World) : Prop where
  os : w'.os = w.os
  tape : w'.tape = w.tape
  output : w'.output = w.output
  size : w.heap.size ≤ w'.heap.size
  block : ∀ b, K b → w'.heap[b]? = w.heap[b]?
/-- What was there. -/
def Old (w : World) : Nat → Prop := fun b => b < w.heap.size
theorem Kept.below {w w' : World} (h : Kept (Old w) w w') : Below w.heap.size w w' := ⟨h.os, h.tape, h.output, h.size, fun k hk => h.block k hk⟩
theorem Kept.of {w w' : World} (h : Below w.heap.size w w') : Kept (Old w) w w' := ⟨h.os, h.tape, h.output, h.size, fun k hk => h.block k hk⟩
structure Gs (W0 : World) (B : Nat → Prop) (w : World) (col : Nat → Nat) (n kl kv gq : Nat) (A : Ga) (g : Gp) : Prop where
  bel : Kept B W0 w
  hB : ∀ b, B b → b < w.heap.size
  hB1 : B 0
  tab : Tab w
  lo : ∀ b, col b ≠ 0 → ¬ B b ∧ b < w.heap.size
  n6 : n ≤ 6
  kl6 : kl ≤ n
  kv6 : kv ≤ n
  cg : col gq = 1
  fz : ∀ k, w.frozen? ⟨gq, k, none⟩ = false
  c0 : w.cell? ⟨gq, 0, none⟩ = some (.int .i64 (n : Nat))
  c1 : w.cell? ⟨gq, 1, none⟩ = some A.lv
  c2 : w.cell? ⟨gq, 2, none⟩ = some A.bv
  c3 : w.cell? ⟨gq, 3, none⟩ = some A.vv
  l : GL w col A.lv kl A.qs
  bag : GB w col A.bv g.bag
  vs : GV w col A.vv kv A.vl g.views
  mb : ∀ i, i < kl → Mb w (fun b => col b = 10 + i) (fun b => col b = 5) (A.qs i) (g.ms i) (A.os i)

/-- What may have turned: blocks of colours of X alone. -/
structure Cw (X : Nat → Prop) (w w' : World) (col col' : Nat → Nat) : Prop where
  os : w'.os = w.os
  tape : w'.tape = w.tape
  output : w'.output = w.output
  size : w.heap.size ≤ w'.heap.size
  blk : ∀ b, b < w.heap.size → ¬ X (col b) → w'.heap[b]? = w.heap[b]?
  cl : ∀ b, col b ≠ 0 → ¬ X (col b) → col' b = col b
  nw : ∀ b, col' b ≠ 0 → col' b = col b ∨ X (col' b) ∨ col' b = 5
  lo : ∀ b, col' b ≠ 0 → col b ≠ 0 ∨ w.heap.size ≤ b
  hi : ∀ b, col' b ≠ 0 → b < w'.heap.size
  x0 : ¬ X 0
  x5 : ¬ X 5

section
variable {X : Nat → Prop} {W0 w w' : World} {col col' : Nat → Nat} {B : Nat → Prop} {n kl kv gq : Nat} {A : Ga} {g : Gp}

theorem Cw.bel (c : Cw X w w' col col') (h : Gs W0 B w col n kl kv gq A g) : Kept B W0 w' ∧ (∀ b, B b → b < w'.heap.size) ∧ Tab w' ∧ ∀ b, col' b ≠ 0 → ¬ B b ∧ b < w'.heap.size := by
  have low : ∀ b, B b → w'.heap[b]? = w.heap[b]? := fun b hb => by
    have hc : col b = 0 := by
      by_cases e : col b = 0
      · exact e
      · exact absurd hb (h.lo b e).1
    exact c.blk b (h.hB b hb) (by rw [hc]; exact c.x0)
  refine ⟨⟨c.os.trans h.bel.os, c.tape.trans h.bel.tape, c.output.trans h.bel.output, Nat.le_trans h.bel.size c.size, fun k hk => (low k hk).trans (h.bel.block k hk)⟩, fun b hb => Nat.lt_of_lt_of_le (h.hB b hb) c.size, h.tab.keep (low 0 h.hB1), fun b hb => ⟨?_, c.hi b hb⟩⟩
  rcases c.lo b hb with h1 | h1
  · exact (h.lo b h1).1
  · intro hB
    have := h.hB b hB
    omega
theorem Cw.block (c : Cw X w w' col col') {b k : Nat} (hb : col b = k) (hk : ¬ X k) (hl : b < w.heap.size) : w'.heap[b]? = w.heap[b]? := c.blk b hl (by rw [hb]; exact hk)
theorem Cw.same (c : Cw X w w' col col') {k : Nat} (h0 : k ≠ 0) (hk : ¬ X k) {b : Nat} (hb : col b = k) : col' b = k := by rw [c.cl b (by rw [hb]; exact h0) (by rw [hb]; exact hk), hb]
theorem Cw.iff (c : Cw X w w' col col') {k : Nat} (h0 : k ≠ 0) (h5 : k ≠ 5) (hk : ¬ X k) (b : Nat) : col' b = k ↔ col b = k := by
  refine ⟨fun hb => ?_, c.same h0 hk⟩
  rcases c.nw b (by rw [hb]; exact h0) with h1 | h1 | h1
  · rw [← h1]; exact hb
  · rw [hb] at h1; exact absurd h1 hk
  · rw [hb] at h1; exact absurd h1 h5
theorem GL.ch (h : GL w col A.lv kl A.qs) (c : Cw X w w' col col') (h2 : ¬ X 2) : GL w' col' A.lv kl A.qs :=
  ⟨row_block h.1 (fun b hb => c.block (h.2 b hb) h2 (h.1.lt b hb).2), fun b hb => c.same (by decide) h2 (h.2 b hb)⟩
theorem oin_ch {L : List Ox} (h : OIn (fun b => col b = 5) w L) (c : Cw X w w' col col') : OIn (fun b => col' b = 5) w' L :=
  (h.keep (fun ad u hz hc => by rw [World.cell?_of_block (w := w) (c.block hz c.x5 (World.block_lt_of_cell? w _ hc))]; exact hc)).imp (fun b _ hb => c.same (by decide) c.x5 hb)
theorem GB.ch {v : Value} {bag : List (Nat × PF)} (h : GB w col v bag) (c : Cw X w w' col col') (h3 : ¬ X 3) : GB w' col' v bag := by
  obtain ⟨L, e1, e2, e3, e4⟩ := h
  exact ⟨L, e1, row_block e2 (fun b hb => c.block (e3 b hb) h3 (e2.lt b hb).2), fun b hb => c.same (by decide) h3 (e3 b hb), oin_ch e4 c⟩
theorem GV.ch {v : Value} {k : Nat} {vl : List Value} {views : Nat → List (Vid × Nat)} (h : GV w col v k vl views) (c : Cw X w w' col col') (h4 : ¬ X 4) (h20 : ∀ i, ¬ X (20 + i)) : GV w' col' v k vl views :=
  ⟨row_block h.1 (fun b hb => c.block (h.2.1 b hb) h4 (h.1.lt b hb).2), fun b hb => c.same (by decide) h4 (h.2.1 b hb), fun i x hx =>
    ⟨row_block (h.2.2 i x hx).1 (fun b hb => c.block ((h.2.2 i x hx).2 b hb) (h20 i) ((h.2.2 i x hx).1.lt b hb).2), fun b hb => c.same (by omega) (h20 i) ((h.2.2 i x hx).2 b hb)⟩⟩
theorem mb_pred {F F' Z Z' : Nat → Prop} {q : Nat} {M : Mm} {o : Option Nat} (h : Mb w F Z q M o) (hF : ∀ b, F b ↔ F' b) (hZ : ∀ b, Z b ↔ Z' b) : Mb w F' Z' q M o := by
  have e1 : F = F' := funext fun b => propext (hF b)
  have e2 : Z = Z' := funext fun b => propext (hZ b)
  rw [← e1, ← e2]; exact h
theorem Mb.ch {i q : Nat} {M : Mm} {o : Option Nat} (h : Mb w (fun b => col b = 10 + i) (fun b => col b = 5) q M o) (c : Cw X w w' col col') (hi : ¬ X (10 + i)) (h0 : w'.heap[0]? = w.heap[0]?) : Mb w' (fun b => col' b = 10 + i) (fun b => col' b = 5) q M o := by
  have h1 : Mb w' (fun b => col b = 10 + i) (fun b => col' b = 5) q M o := h.frame (fun b hb => c.block hb hi (h.lt b hb)) h0 c.size (fun ad u hz hc => by rw [World.cell?_of_block (w := w) (c.block hz c.x5 (World.block_lt_of_cell? w _ hc))]; exact hc) (fun b hb => c.same (by decide) c.x5 hb)
    (fun b hb hf => by have := (c.iff (k := 10 + i) (by omega) (by omega) hi b).2 hf; rw [hb] at this; omega) (fun b hb => c.hi b (by rw [hb]; decide))
  exact mb_pred h1 (fun b => (c.iff (by omega) (by omega) hi b).symm) (fun _ => Iff.rfl)
theorem Cw.zero (c : Cw X w w' col col') (h : Gs W0 B w col n kl kv gq A g) : w'.heap[0]? = w.heap[0]? := by
  have hc : col 0 = 0 := by
    by_cases e : col 0 = 0
    · exact e
    · exact absurd h.hB1 (h.lo 0 e).1
  exact c.blk 0 (h.hB 0 h.hB1) (by rw [hc]; exact c.x0)
/-- Only new blocks came. -/
theorem Cw.up (h : Gs W0 B w col n kl kv gq A g) (u : Below w.heap.size w w') : Cw (fun _ => False) w w' col col :=
  ⟨u.os, u.tape, u.output, u.size, fun b hb _ => u.block b hb, fun _ _ _ => rfl, fun _ _ => .inl rfl, fun _ hb => .inl hb, fun b hb => Nat.lt_of_lt_of_le (h.lo b hb).2 u.size, id, id⟩
theorem Gs.ch1 (h : Gs W0 B w col n kl kv gq A g) (c : Cw X w w' col col') (h1 : ¬ X 1) : col' gq = 1 ∧ (∀ k, w'.frozen? ⟨gq, k, none⟩ = false) ∧ ∀ k v, w.cell? ⟨gq, k, none⟩ = some v → w'.cell? ⟨gq, k, none⟩ = some v := by
  have hl : gq < w.heap.size := (h.lo gq (by rw [h.cg]; decide)).2
  have hb := c.block h.cg h1 hl
  exact ⟨c.same (by decide) h1 h.cg, fun k => by rw [frozen_block hb]; exact h.fz k, fun k v hv => by rw [cell_block hb]; exact hv⟩
theorem Gs.up (h : Gs W0 B w col n kl kv gq A g) (u : Below w.heap.size w w') : Gs W0 B w' col n kl kv gq A g := by
  have c := Cw.up h u
  obtain ⟨b1, b2, b3, b4⟩ := c.bel h
  obtain ⟨g1, g2, g3⟩ := h.ch1 c id
  exact ⟨b1, b2, h.hB1, b3, b4, h.n6, h.kl6, h.kv6, g1, g2, g3 _ _ h.c0, g3 _ _ h.c1, g3 _ _ h.c2, g3 _ _ h.c3, h.l.ch c id, h.bag.ch c id, h.vs.ch c id (fun _ => id), fun i hi => (h.mb i hi).ch c id (c.zero h)⟩
theorem Gs.drew (h : Gs W0 B w col n kl kv gq A g) : Gs W0 B w.drew col n kl kv gq A g := h.up ((Below.refl _ _).drew)

open Classical in
/-- Colours behind a node's call. -/
noncomputable def recol (col : Nat → Nat) (i : Nat) (F Z : Nat → Prop) (sz : Nat) : Nat → Nat := fun b => if F b then 10 + i else if Z b then 5 else if b < sz ∧ col b ≠ 10 + i ∧ col b ≠ 5 then col b else 0
/-- A node's call. -/
theorem Gs.call (h : Gs W0 B w col n kl kv gq A g) {i : Nat} (hi : i < kl) {F Z : Nat → Prop} {M : Mm} {o : Option Nat} (sp : Sp w (fun b => col b = 10 + i) (fun b => col b = 5) w' F Z) (hm : Mb w' F Z (A.qs i) M o) :
    ∃ col', (∀ b, col' b = 5 ↔ Z b) ∧ Gs W0 B w' col' n kl kv gq { A with os := upd A.os i o } { g with ms := upd g.ms i M } := by
  have hi6 : i < 6 := by have := h.kl6; have := h.n6; omega
  have eF : ∀ b, recol col i F Z w.heap.size b = 10 + i ↔ F b := fun b => by
    unfold recol
    by_cases hF : F b
    · simp [hF]
    · simp only [hF, if_false, iff_false]
      by_cases hZ : Z b
      · simp only [hZ, if_true]; omega
      · simp only [hZ, if_false]
        split
        · rename_i h1; exact h1.2.1
        · omega
  have eZ : ∀ b, recol col i F Z w.heap.size b = 5 ↔ Z b := fun b => by
    unfold recol
    by_cases hF : F b
    · simp only [hF, if_true]
      exact ⟨fun e => by omega, fun hz => absurd hF (hm.zf b hz)⟩
    · simp only [hF, if_false]
      by_cases hZ : Z b
      · simp [hZ]
      · simp only [hZ, if_false, iff_false]
        split
        · rename_i h1; exact h1.2.2
        · omega
  have eO : ∀ b, recol col i F Z w.heap.size b ≠ 0 → recol col i F Z w.heap.size b = col b ∨ recol col i F Z w.heap.size b = 10 + i ∨ recol col i F Z w.heap.size b = 5 := fun b => by
    unfold recol
    by_cases hF : F b
    · simp [hF]
    · simp only [hF, if_false]
      by_cases hZ : Z b
      · simp [hZ]
      · simp only [hZ, if_false]
        split
        · intro _; exact .inl rfl
        · intro e; exact absurd rfl e
  have c : Cw (fun k => k = 10 + i) w w' col (recol col i F Z w.heap.size) := by
    refine ⟨sp.turned.os, sp.turned.tape, sp.turned.output, sp.turned.size, fun b hb hx => sp.turned.block b hb hx, fun b hb hx => ?_, fun b hb => ?_, fun b hb => ?_, fun b hb => ?_, by omega, by omega⟩
    · have hl := (h.lo b hb).2
      by_cases h5 : col b = 5
      · rw [h5]; exact (eZ b).2 (sp.z b h5)
      · have hF : ¬ F b := fun hf => (sp.foot b hf).elim hx (fun hle => by omega)
        have hZ : ¬ Z b := fun hz => (sp.znew b hz).elim h5 (fun hle => by omega)
        unfold recol
        rw [if_neg hF, if_neg hZ, if_pos ⟨hl, hx, h5⟩]
    · rcases eO b hb with e | e | e
      · exact .inl e
      · exact .inr (.inl e)
      · exact .inr (.inr e)
    · by_cases hF : F b
      · exact (sp.foot b hF).elim (fun e => .inl (by rw [e]; omega)) .inr
      · by_cases hZ : Z b
        · exact (sp.znew b hZ).elim (fun e => .inl (by rw [e]; omega)) .inr
        · rcases eO b hb with e | e | e
          · exact .inl (by rw [← e]; exact hb)
          · exact absurd ((eF b).1 e) hF
          · exact absurd ((eZ b).1 e) hZ
    · by_cases hF : F b
      · exact hm.lt b hF
      · by_cases hZ : Z b
        · exact sp.zlt b hZ
        · rcases eO b hb with e | e | e
          · exact Nat.lt_of_lt_of_le (h.lo b (by rw [← e]; exact hb)).2 sp.turned.size
          · exact absurd ((eF b).1 e) hF
          · exact absurd ((eZ b).1 e) hZ
  obtain ⟨b1, b2, b3, b4⟩ := c.bel h
  obtain ⟨g1, g2, g3⟩ := h.ch1 c (by omega)
  refine ⟨_, eZ, b1, b2, h.hB1, b3, b4, h.n6, h.kl6, h.kv6, g1, g2, g3 _ _ h.c0, g3 _ _ h.c1, g3 _ _ h.c2, g3 _ _ h.c3, h.l.ch c (by omega), h.bag.ch c (by omega), h.vs.ch c (by omega) (fun j => by omega), fun j hj => ?_⟩
  by_cases e : j = i
  · subst e
    simp only [upd_same]
    exact mb_pred hm (fun b => (eF b).symm) (fun b => (eZ b).symm)
  · simp only [upd_other _ _ e]
    exact (h.mb j hj).ch c (by omega) (c.zero h)

open Classical in
/-- One row's colour behind a step. -/
noncomputable def setcol (col : Nat → Nat) (k : Nat) (v : Value) : Nat → Nat := fun b => if v.ownBlock = some b then k else if col b = k then 0 else col b
theorem setcol_at {k : Nat} {v : Value} {b : Nat} (h : v.ownBlock = some b) : setcol col k v b = k := by unfold setcol; rw [if_pos h]
theorem setcol_ne {k : Nat} {v : Value} {b : Nat} (h : setcol col k v b ≠ 0) : setcol col k v b = col b ∨ setcol col k v b = k := by
  unfold setcol at *
  by_cases h1 : v.ownBlock = some b
  · rw [if_pos h1]; exact .inr rfl
  · rw [if_neg h1] at h ⊢
    split
    · rename_i h2; rw [if_pos h2] at h; exact absurd rfl h
    · exact .inl rfl
/-- A row of colour k is another one now. -/
theorem ch_row {k : Nat} (hk0 : k ≠ 0) (hk5 : k ≠ 5) (hlo : ∀ b, col b ≠ 0 → b < w.heap.size) {v v' : Value} {w1 : World} (hv : ∀ b, v.ownBlock = some b → col b = k) (gr : w.grownBy w1 v.ownBlock) (hat : ∀ b, v'.ownBlock = some b → v.ownBlock = some b ∨ w.heap.size ≤ b) (hlt : ∀ b, v'.ownBlock = some b → b < w1.heap.size) :
    Cw (fun c => c = k) w w1 col (setcol col k v') := by
  refine ⟨gr.os, gr.tape, gr.output, gr.size, fun b hb hx => gr.block b hb (fun e => hx (hv b e.symm)), fun b hb hx => ?_, fun b hb => ?_, fun b hb => ?_, fun b hb => ?_, fun e => hk0 e.symm, fun e => hk5 e.symm⟩
  · unfold setcol
    rw [if_neg (fun e => ?_), if_neg hx]
    rcases hat b e with e2 | e2
    · exact hx (hv b e2)
    · have := hlo b hb; omega
  · rcases setcol_ne hb with e | e
    · exact .inl e
    · exact .inr (.inl e)
  · by_cases h1 : v'.ownBlock = some b
    · rcases hat b h1 with e | e
      · exact .inl (by rw [hv b e]; exact hk0)
      · exact .inr e
    · rcases setcol_ne hb with e | e
      · exact .inl (by rw [← e]; exact hb)
      · unfold setcol at e
        rw [if_neg h1] at e
        split at e
        · exact absurd e.symm hk0
        · exact .inl (by rw [e]; exact hk0)
  · by_cases h1 : v'.ownBlock = some b
    · exact hlt b h1
    · rcases setcol_ne hb with e | e
      · exact Nat.lt_of_lt_of_le (hlo b (by rw [← e]; exact hb)) gr.size
      · unfold setcol at e
        rw [if_neg h1] at e
        split at e
        · exact absurd e.symm hk0
        · exact Nat.lt_of_lt_of_le (hlo b (by rw [e]; exact hk0)) gr.size
/-- A cell of a block of colour k is set. -/
theorem ch_set {k : Nat} (hk0 : k ≠ 0) (hk5 : k ≠ 5) (hlo : ∀ b, col b ≠ 0 → b < w.heap.size) {b j : Nat} (hb : col b = k) (u : Value) : Cw (fun c => c = k) w (w.setCell ⟨b, j, none⟩ u) col col :=
  ⟨rfl, rfl, rfl, by simp [World.setCell], fun x hx hne => Below.heap_setCell _ _ _ _ (fun e => hne (by show col x = k; rw [show x = b from e]; exact hb)), fun _ _ _ => rfl, fun _ _ => .inl rfl, fun _ hx => .inl hx, fun x hx => by rw [World.size_setCell]; exact hlo x hx, fun e => hk0 e.symm, fun e => hk5 e.symm⟩
end
end Go.Proofs.YtlonbbepoamnmaaDoor
