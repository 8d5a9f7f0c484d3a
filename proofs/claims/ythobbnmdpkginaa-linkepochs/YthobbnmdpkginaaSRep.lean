/-
  How a sender and a receiver lie in memory: an object that points to a ring; F: the blocks that are theirs.
-/
import Derived.Test.YthobbnmdpkginaaRRep
namespace Go.Proofs.Ythobbnmdpkginaa
open Go.RowKit
set_option linter.unusedVariables false

/-- From one state of an object to another: nothing but its own blocks has turned, and what is new of it is new. -/
structure Goes2 (F : Nat → Prop) (w : World) (F' : Nat → Prop) (w' : World) : Prop where
  turned : Turned F w w'
  foot : ∀ b, F' b → F b ∨ w.heap.size ≤ b
theorem Goes2.refl (F : Nat → Prop) (w : World) : Goes2 F w F w := ⟨Turned.refl _ _, fun _ h => .inl h⟩
theorem Goes2.still {F : Nat → Prop} {w w' : World} (t : Turned (fun _ => False) w w') : Goes2 F w F w' := ⟨t.mono (fun _ h => h.elim), fun _ h => .inl h⟩
theorem Goes2.drewN (F : Nat → Prop) (w : World) (q : Nat) : Goes2 F w F (w.drewN q) := ⟨(Turned.refl _ _).drewN q, fun _ h => .inl h⟩
theorem Goes2.trans {F F' F'' : Nat → Prop} {w w' w'' : World} (h : Goes2 F w F' w') (k : Goes2 F' w' F'' w'') : Goes2 F w F'' w'' :=
  ⟨h.turned.trans k.turned h.foot, fun b hb => (k.foot b hb).elim (h.foot b) (fun hle => .inr (Nat.le_trans h.turned.size hle))⟩

/-- A sender of things of the type e: at most so many, so many at once, so many acked, and what waits. -/
structure SndAt (w : World) (e : TypeId) (q p : Nat) (sv : Value) (most first win ack : Nat) (xs : List Value) : Prop where
  ring : Ring w e p sv most first xs
  qp : q ≠ p
  qs : sv.ownBlock ≠ some q
  c0 : w.cell? ⟨q, 0, none⟩ = some (.pointer (some ⟨p, 0, none⟩))
  c1 : w.cell? ⟨q, 1, none⟩ = some (.int .i64 (win : Nat))
  c2 : w.cell? ⟨q, 2, none⟩ = some (.int .u64 (ack : Nat))
  fr : ∀ o, w.frozen? ⟨q, o, none⟩ = false
  win1 : 1 ≤ win
  win32 : win ≤ 32
def Snd (w : World) (e : TypeId) (F : Nat → Prop) (q most win ack : Nat) (xs : List Value) : Prop :=
  ∃ p sv first, SndAt w e q p sv most first win ack xs ∧ ∀ b, F b ↔ b = q ∨ Foot p sv b

/-- A receiver of texts: at most so many, how many have come, and what waits. -/
structure RcvAt (w : World) (e : TypeId) (q p : Nat) (sv : Value) (most first next : Nat) (xs : List Value) : Prop where
  ring : Ring w e p sv most first xs
  qp : q ≠ p
  qs : sv.ownBlock ≠ some q
  c0 : w.cell? ⟨q, 0, none⟩ = some (.pointer (some ⟨p, 0, none⟩))
  c1 : w.cell? ⟨q, 1, none⟩ = some (.int .u64 (next : Nat))
  fr : ∀ o, w.frozen? ⟨q, o, none⟩ = false
def Rcv (w : World) (e : TypeId) (F : Nat → Prop) (q most next : Nat) (xs : List Value) : Prop :=
  ∃ p sv first, RcvAt w e q p sv most first next xs ∧ ∀ b, F b ↔ b = q ∨ Foot p sv b

section
variable {w w' : World} {e : TypeId} {F : Nat → Prop} {q p most first win ack next : Nat} {sv : Value} {xs : List Value}

theorem SndAt.frame (h : SndAt w e q p sv most first win ack xs) (hb : ∀ b, (b = q ∨ Foot p sv b) → w'.heap[b]? = w.heap[b]?) : SndAt w' e q p sv most first win ack xs where
  ring := h.ring.frame (fun b hf => hb b (.inr hf))
  qp := h.qp
  qs := h.qs
  c0 := by rw [cell_block (hb q (.inl rfl))]; exact h.c0
  c1 := by rw [cell_block (hb q (.inl rfl))]; exact h.c1
  c2 := by rw [cell_block (hb q (.inl rfl))]; exact h.c2
  fr := fun o => by rw [frozen_block (hb q (.inl rfl))]; exact h.fr o
  win1 := h.win1
  win32 := h.win32
theorem RcvAt.frame (h : RcvAt w e q p sv most first next xs) (hb : ∀ b, (b = q ∨ Foot p sv b) → w'.heap[b]? = w.heap[b]?) : RcvAt w' e q p sv most first next xs where
  ring := h.ring.frame (fun b hf => hb b (.inr hf))
  qp := h.qp
  qs := h.qs
  c0 := by rw [cell_block (hb q (.inl rfl))]; exact h.c0
  c1 := by rw [cell_block (hb q (.inl rfl))]; exact h.c1
  fr := fun o => by rw [frozen_block (hb q (.inl rfl))]; exact h.fr o
theorem SndAt.qlt (h : SndAt w e q p sv most first win ack xs) : q < w.heap.size := World.block_lt_of_cell? w _ h.c0
theorem RcvAt.qlt (h : RcvAt w e q p sv most first next xs) : q < w.heap.size := World.block_lt_of_cell? w _ h.c0
theorem Snd.lt (h : Snd w e F q most win ack xs) : ∀ b, F b → b < w.heap.size := by
  obtain ⟨p, sv, first, h, hF⟩ := h
  intro b hb
  rcases (hF b).1 hb with rfl | hf
  · exact h.qlt
  · exact h.ring.foot_lt b hf
theorem Rcv.lt (h : Rcv w e F q most next xs) : ∀ b, F b → b < w.heap.size := by
  obtain ⟨p, sv, first, h, hF⟩ := h
  intro b hb
  rcases (hF b).1 hb with rfl | hf
  · exact h.qlt
  · exact h.ring.foot_lt b hf
theorem Snd.frame (h : Snd w e F q most win ack xs) (hb : ∀ b, F b → w'.heap[b]? = w.heap[b]?) : Snd w' e F q most win ack xs := by
  obtain ⟨p, sv, first, h, hF⟩ := h
  exact ⟨p, sv, first, h.frame (fun b hf => hb b ((hF b).2 hf)), hF⟩
theorem Rcv.frame (h : Rcv w e F q most next xs) (hb : ∀ b, F b → w'.heap[b]? = w.heap[b]?) : Rcv w' e F q most next xs := by
  obtain ⟨p, sv, first, h, hF⟩ := h
  exact ⟨p, sv, first, h.frame (fun b hf => hb b ((hF b).2 hf)), hF⟩
theorem Snd.turned {G : Nat → Prop} (h : Snd w e F q most win ack xs) (t : Turned G w w') (hG : ∀ b, F b → ¬ G b) : Snd w' e F q most win ack xs := h.frame (fun b hb => t.block b (h.lt b hb) (hG b hb))
theorem Rcv.turned {G : Nat → Prop} (h : Rcv w e F q most next xs) (t : Turned G w w') (hG : ∀ b, F b → ¬ G b) : Rcv w' e F q most next xs := h.frame (fun b hb => t.block b (h.lt b hb) (hG b hb))
theorem Snd.drewN (h : Snd w e F q most win ack xs) (n : Nat) : Snd (w.drewN n) e F q most win ack xs := h.frame (fun _ _ => rfl)
theorem Rcv.drewN (h : Rcv w e F q most next xs) (n : Nat) : Rcv (w.drewN n) e F q most next xs := h.frame (fun _ _ => rfl)
theorem SndAt.drew (h : SndAt w e q p sv most first win ack xs) : SndAt w.drew e q p sv most first win ack xs := h.frame (fun _ _ => rfl)
theorem RcvAt.drew (h : RcvAt w e q p sv most first next xs) : RcvAt w.drew e q p sv most first next xs := h.frame (fun _ _ => rfl)
theorem SndAt.drewN (h : SndAt w e q p sv most first win ack xs) (n : Nat) : SndAt (w.drewN n) e q p sv most first win ack xs := h.frame (fun _ _ => rfl)
theorem RcvAt.drewN (h : RcvAt w e q p sv most first next xs) (n : Nat) : RcvAt (w.drewN n) e q p sv most first next xs := h.frame (fun _ _ => rfl)
theorem Snd.le (h : Snd w e F q most win ack xs) : xs.length ≤ most ∧ most ≤ 256 ∧ 1 ≤ win ∧ win ≤ 32 ∧ 1 ≤ most := by
  obtain ⟨p, sv, first, h, hF⟩ := h
  exact ⟨h.ring.le, h.ring.most256, h.win1, h.win32, h.ring.most1⟩
theorem Rcv.le (h : Rcv w e F q most next xs) : xs.length ≤ most ∧ most ≤ 256 ∧ 1 ≤ most := by
  obtain ⟨p, sv, first, h, hF⟩ := h
  exact ⟨h.ring.le, h.ring.most256, h.ring.most1⟩

/-- The ring beneath has gone on. -/
theorem SndAt.goes {sv' : Value} {first' : Nat} {xs' : List Value} (h : SndAt w e q p sv most first win ack xs) (r : Ring w' e p sv' most first' xs') (g : Goes p sv w sv' w') : SndAt w' e q p sv' most first' win ack xs' := by
  have hq : ¬ Foot p sv q := by rintro (e | e); exact h.qp e; exact h.qs e
  have hb : w'.heap[q]? = w.heap[q]? := g.turned.block q h.qlt hq
  have hq' : ¬ Foot p sv' q := fun hf => (g.foot q hf).elim hq (fun hle => by have := h.qlt; omega)
  exact {
    ring := r
    qp := h.qp
    qs := fun e => hq' (.inr e)
    c0 := by rw [cell_block hb]; exact h.c0
    c1 := by rw [cell_block hb]; exact h.c1
    c2 := by rw [cell_block hb]; exact h.c2
    fr := fun o => by rw [frozen_block hb]; exact h.fr o
    win1 := h.win1
    win32 := h.win32 }
theorem RcvAt.goes {sv' : Value} {first' : Nat} {xs' : List Value} (h : RcvAt w e q p sv most first next xs) (r : Ring w' e p sv' most first' xs') (g : Goes p sv w sv' w') : RcvAt w' e q p sv' most first' next xs' := by
  have hq : ¬ Foot p sv q := by rintro (e | e); exact h.qp e; exact h.qs e
  have hb : w'.heap[q]? = w.heap[q]? := g.turned.block q h.qlt hq
  have hq' : ¬ Foot p sv' q := fun hf => (g.foot q hf).elim hq (fun hle => by have := h.qlt; omega)
  exact {
    ring := r
    qp := h.qp
    qs := fun e => hq' (.inr e)
    c0 := by rw [cell_block hb]; exact h.c0
    c1 := by rw [cell_block hb]; exact h.c1
    fr := fun o => by rw [frozen_block hb]; exact h.fr o }
theorem goes_foot {sv' : Value} (g : Goes p sv w sv' w') (hF : ∀ b, F b ↔ b = q ∨ Foot p sv b) : Goes2 F w (fun b => b = q ∨ Foot p sv' b) w' :=
  ⟨g.turned.mono (fun i hi => (hF i).2 (.inr hi)), fun b hb => hb.elim (fun e => .inl ((hF b).2 (.inl e))) (fun hf => (g.foot b hf).elim (fun h => .inl ((hF b).2 (.inr h))) .inr)⟩

/-- The last cell of the object is set. -/
theorem SndAt.acked (h : SndAt w e q p sv most first win ack xs) (n : Nat) : SndAt (w.setCell ⟨q, 2, none⟩ (.int .u64 (n : Nat))) e q p sv most first win n xs where
  ring := h.ring.setOther (by rintro (e | e); exact h.qp e; exact h.qs e) _
  qp := h.qp
  qs := h.qs
  c0 := by rw [set_cell_other (by omega)]; exact h.c0
  c1 := by rw [set_cell_other (by omega)]; exact h.c1
  c2 := set_cell h.c2
  fr := fun o => by rw [World.frozen?_setCell]; exact h.fr o
  win1 := h.win1
  win32 := h.win32
theorem RcvAt.come (h : RcvAt w e q p sv most first next xs) (n : Nat) : RcvAt (w.setCell ⟨q, 1, none⟩ (.int .u64 (n : Nat))) e q p sv most first n xs where
  ring := h.ring.setOther (by rintro (e | e); exact h.qp e; exact h.qs e) _
  qp := h.qp
  qs := h.qs
  c0 := by rw [set_cell_other (by omega)]; exact h.c0
  c1 := set_cell h.c1
  fr := fun o => by rw [World.frozen?_setCell]; exact h.fr o

theorem snd_new (h : Ring w e p (.slice none 0 0) most 0 []) (h1 : 1 ≤ win) (h2 : win ≤ 32) (t : TypeId) :
    Snd (w.alloc (.cells #[.pointer (some ⟨p, 0, none⟩), .int .i64 (win : Nat), .int .u64 0] t)) e (fun b => b = w.heap.size ∨ Foot p (.slice none 0 0) b) w.heap.size most win 0 [] := by
  have hb : (w.alloc (.cells #[.pointer (some ⟨p, 0, none⟩), .int .i64 (win : Nat), .int .u64 0] t)).heap[w.heap.size]? = some (.cells #[.pointer (some ⟨p, 0, none⟩), .int .i64 (win : Nat), .int .u64 0] t (0, 0)) := Deep.blk_alloc_new _ _
  have := h.plt
  refine ⟨p, _, 0, ⟨h.alloc _, by omega, by simp [Value.ownBlock], ?_, ?_, ?_, ?_, h1, h2⟩, fun b => Iff.rfl⟩
  · unfold World.cell?; rw [hb]; rfl
  · unfold World.cell?; rw [hb]; rfl
  · unfold World.cell?; rw [hb]; rfl
  · intro o; unfold World.frozen?; rw [hb]; simp
theorem rcv_new (h : Ring w e p (.slice none 0 0) most 0 []) (t : TypeId) :
    Rcv (w.alloc (.cells #[.pointer (some ⟨p, 0, none⟩), .int .u64 0] t)) e (fun b => b = w.heap.size ∨ Foot p (.slice none 0 0) b) w.heap.size most 0 [] := by
  have hb : (w.alloc (.cells #[.pointer (some ⟨p, 0, none⟩), .int .u64 0] t)).heap[w.heap.size]? = some (.cells #[.pointer (some ⟨p, 0, none⟩), .int .u64 0] t (0, 0)) := Deep.blk_alloc_new _ _
  have := h.plt
  refine ⟨p, _, 0, ⟨h.alloc _, by omega, by simp [Value.ownBlock], ?_, ?_, ?_⟩, fun b => Iff.rfl⟩
  · unfold World.cell?; rw [hb]; rfl
  · unfold World.cell?; rw [hb]; rfl
  · intro o; unfold World.frozen?; rw [hb]; simp
end
end Go.Proofs.Ythobbnmdpkginaa
