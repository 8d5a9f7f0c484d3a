/-
  How an end of a link lies in memory: an object that points to a sender and a receiver.
-/
import Derived.Test.YthobbnmdpkginaaLRow
namespace Go.Proofs.Ythobbnmdpkginaa
open Go.RowKit
set_option linter.unusedVariables false

/-- An end of the epoch (vn, vp): it sends things of the type es and receives things of the type er; at most so many wait, so many at once; acked, what waits to be acked; how many have come, what waits to be taken. -/
structure LnkAt (w : World) (es er : TypeId) (k qs qr : Nat) (FS FR : Nat → Prop) (vn : Nat) (vp : Int) (M N ack : Nat) (xs : List Value) (next : Nat) (ys : List Value) : Prop where
  c0 : w.cell? ⟨k, 0, none⟩ = some (.int .u64 (vn : Nat))
  c1 : w.cell? ⟨k, 1, none⟩ = some (.int .i64 vp)
  c2 : w.cell? ⟨k, 2, none⟩ = some (.pointer (some ⟨qs, 0, none⟩))
  c3 : w.cell? ⟨k, 3, none⟩ = some (.pointer (some ⟨qr, 0, none⟩))
  snd : Snd w es FS qs M N ack xs
  rcv : Rcv w er FR qr M next ys
  sr : ∀ b, FS b → ¬ FR b
  ks : ¬ FS k
  kr : ¬ FR k
def Lnk (w : World) (es er : TypeId) (F : Nat → Prop) (k : Nat) (vn : Nat) (vp : Int) (M N ack : Nat) (xs : List Value) (next : Nat) (ys : List Value) : Prop :=
  ∃ qs qr FS FR, LnkAt w es er k qs qr FS FR vn vp M N ack xs next ys ∧ ∀ b, F b ↔ b = k ∨ FS b ∨ FR b
section
variable {w w' : World} {es er : TypeId} {k qs qr : Nat} {F F' FS FR FS' FR' : Nat → Prop} {vn : Nat} {vp : Int} {M N ack ack' next next' : Nat} {xs ys xs' ys' : List Value}
theorem LnkAt.klt (h : LnkAt w es er k qs qr FS FR vn vp M N ack xs next ys) : k < w.heap.size := World.block_lt_of_cell? w _ h.c0
theorem LnkAt.frame (h : LnkAt w es er k qs qr FS FR vn vp M N ack xs next ys) (hb : ∀ b, (b = k ∨ FS b ∨ FR b) → w'.heap[b]? = w.heap[b]?) : LnkAt w' es er k qs qr FS FR vn vp M N ack xs next ys where
  c0 := by rw [cell_block (hb k (.inl rfl))]; exact h.c0
  c1 := by rw [cell_block (hb k (.inl rfl))]; exact h.c1
  c2 := by rw [cell_block (hb k (.inl rfl))]; exact h.c2
  c3 := by rw [cell_block (hb k (.inl rfl))]; exact h.c3
  snd := h.snd.frame (fun b hf => hb b (.inr (.inl hf)))
  rcv := h.rcv.frame (fun b hf => hb b (.inr (.inr hf)))
  sr := h.sr
  ks := h.ks
  kr := h.kr
theorem Lnk.lt (h : Lnk w es er F k vn vp M N ack xs next ys) : ∀ b, F b → b < w.heap.size := by
  obtain ⟨qs, qr, FS, FR, h, hF⟩ := h
  intro b hb
  rcases (hF b).1 hb with rfl | hf | hf
  · exact h.klt
  · exact h.snd.lt b hf
  · exact h.rcv.lt b hf
theorem Lnk.frame (h : Lnk w es er F k vn vp M N ack xs next ys) (hb : ∀ b, F b → w'.heap[b]? = w.heap[b]?) : Lnk w' es er F k vn vp M N ack xs next ys := by
  obtain ⟨qs, qr, FS, FR, h, hF⟩ := h
  exact ⟨qs, qr, FS, FR, h.frame (fun b hf => hb b ((hF b).2 hf)), hF⟩
theorem Lnk.turned {G : Nat → Prop} (h : Lnk w es er F k vn vp M N ack xs next ys) (t : Turned G w w') (hG : ∀ b, F b → ¬ G b) : Lnk w' es er F k vn vp M N ack xs next ys := h.frame (fun b hb => t.block b (h.lt b hb) (hG b hb))
theorem Lnk.still (h : Lnk w es er F k vn vp M N ack xs next ys) (t : Turned (fun _ => False) w w') : Lnk w' es er F k vn vp M N ack xs next ys := h.turned t (fun _ _ f => f)
theorem Lnk.le (h : Lnk w es er F k vn vp M N ack xs next ys) : xs.length ≤ M ∧ ys.length ≤ M ∧ 1 ≤ M ∧ M ≤ 256 ∧ 1 ≤ N ∧ N ≤ 32 := by
  obtain ⟨qs, qr, FS, FR, h, hF⟩ := h
  have h1 := h.snd.le
  have h2 := h.rcv.le
  omega
/-- The sender has gone on. -/
theorem LnkAt.sent (h : LnkAt w es er k qs qr FS FR vn vp M N ack xs next ys) (s : Snd w' es FS' qs M N ack' xs') (g : Goes2 FS w FS' w') : LnkAt w' es er k qs qr FS' FR vn vp M N ack' xs' next ys := by
  have hk : w'.heap[k]? = w.heap[k]? := g.turned.block k h.klt h.ks
  exact {
    c0 := by rw [cell_block hk]; exact h.c0
    c1 := by rw [cell_block hk]; exact h.c1
    c2 := by rw [cell_block hk]; exact h.c2
    c3 := by rw [cell_block hk]; exact h.c3
    snd := s
    rcv := h.rcv.turned g.turned (fun b hr hs => h.sr b hs hr)
    sr := fun b hs hr => (g.foot b hs).elim (fun h1 => h.sr b h1 hr) (fun hle => by have := h.rcv.lt b hr; omega)
    ks := fun hf => (g.foot k hf).elim h.ks (fun hle => by have := h.klt; omega)
    kr := h.kr }
theorem LnkAt.came (h : LnkAt w es er k qs qr FS FR vn vp M N ack xs next ys) (s : Rcv w' er FR' qr M next' ys') (g : Goes2 FR w FR' w') : LnkAt w' es er k qs qr FS FR' vn vp M N ack xs next' ys' := by
  have hk : w'.heap[k]? = w.heap[k]? := g.turned.block k h.klt h.kr
  exact {
    c0 := by rw [cell_block hk]; exact h.c0
    c1 := by rw [cell_block hk]; exact h.c1
    c2 := by rw [cell_block hk]; exact h.c2
    c3 := by rw [cell_block hk]; exact h.c3
    snd := h.snd.turned g.turned (fun b hs hr => h.sr b hs hr)
    rcv := s
    sr := fun b hs hr => (g.foot b hr).elim (fun h1 => h.sr b hs h1) (fun hle => by have := h.snd.lt b hs; omega)
    ks := h.ks
    kr := fun hf => (g.foot k hf).elim h.kr (fun hle => by have := h.klt; omega) }
theorem sent_foot (hF : ∀ b, F b ↔ b = k ∨ FS b ∨ FR b) (g : Goes2 FS w FS' w') : Goes2 F w (fun b => b = k ∨ FS' b ∨ FR b) w' :=
  ⟨g.turned.mono (fun i hi => (hF i).2 (.inr (.inl hi))), fun b hb => by
    rcases hb with h | h | h
    · exact .inl ((hF b).2 (.inl h))
    · exact (g.foot b h).elim (fun h1 => .inl ((hF b).2 (.inr (.inl h1)))) .inr
    · exact .inl ((hF b).2 (.inr (.inr h)))⟩
theorem came_foot (hF : ∀ b, F b ↔ b = k ∨ FS b ∨ FR b) (g : Goes2 FR w FR' w') : Goes2 F w (fun b => b = k ∨ FS b ∨ FR' b) w' :=
  ⟨g.turned.mono (fun i hi => (hF i).2 (.inr (.inr hi))), fun b hb => by
    rcases hb with h | h | h
    · exact .inl ((hF b).2 (.inl h))
    · exact .inl ((hF b).2 (.inr (.inl h)))
    · exact (g.foot b h).elim (fun h1 => .inl ((hF b).2 (.inr (.inr h1)))) .inr⟩
theorem lnk_new (s : Snd w es FS qs M N 0 []) (r : Rcv w er FR qr M 0 []) (hsr : ∀ b, FS b → ¬ FR b) (vn : Nat) (vp : Int) (t : TypeId) :
    Lnk (w.alloc (.cells #[.int .u64 (vn : Nat), .int .i64 vp, .pointer (some ⟨qs, 0, none⟩), .pointer (some ⟨qr, 0, none⟩)] t)) es er (fun b => b = w.heap.size ∨ FS b ∨ FR b) w.heap.size vn vp M N 0 [] 0 [] := by
  have hb : (w.alloc (.cells #[.int .u64 (vn : Nat), .int .i64 vp, .pointer (some ⟨qs, 0, none⟩), .pointer (some ⟨qr, 0, none⟩)] t)).heap[w.heap.size]? = some (.cells #[.int .u64 (vn : Nat), .int .i64 vp, .pointer (some ⟨qs, 0, none⟩), .pointer (some ⟨qr, 0, none⟩)] t (0, 0)) := Deep.blk_alloc_new _ _
  have tt : Turned (fun _ => False) w (w.alloc (.cells #[.int .u64 (vn : Nat), .int .i64 vp, .pointer (some ⟨qs, 0, none⟩), .pointer (some ⟨qr, 0, none⟩)] t)) := (Turned.refl _ w).alloc _
  refine ⟨qs, qr, FS, FR, ⟨?_, ?_, ?_, ?_, s.turned tt (fun _ _ f => f), r.turned tt (fun _ _ f => f), hsr, fun hf => by have := s.lt _ hf; omega, fun hf => by have := r.lt _ hf; omega⟩, fun b => Iff.rfl⟩
  all_goals (unfold World.cell?; rw [hb]; rfl)
end

/-- An object of one's own: made behind a world. -/
structure Own (w0 w : World) (F : Nat → Prop) : Prop where
  turned : Turned (fun _ => False) w0 w
  foot : ∀ b, F b → w0.heap.size ≤ b
section
variable {w0 w w' : World} {F F' : Nat → Prop}
theorem Own.goes (h : Own w0 w F) (g : Goes2 F w F' w') : Own w0 w' F' :=
  ⟨h.turned.trans g.turned (fun i hi => .inr (h.foot i hi)), fun b hb => (g.foot b hb).elim (h.foot b) (fun hle => Nat.le_trans h.turned.size hle)⟩
theorem Own.on {G : Nat → Prop} (h : Own w0 w F) (t : Turned G w w') (hG : ∀ i, G i → w0.heap.size ≤ i) : Own w0 w' F := ⟨h.turned.trans t (fun i hi => .inr (hG i hi)), h.foot⟩
theorem Own.still (h : Own w0 w F) (t : Turned (fun _ => False) w w') : Own w0 w' F := h.on t (fun _ hf => hf.elim)
theorem Own.below (h : Own w0 w F) : Below w0.heap.size w0 w := h.turned.below (Nat.le_refl _) (fun _ hf => hf.elim)
theorem Own.behind {w1 : World} (t : Turned (fun _ => False) w0 w1) (h : Own w1 w F) : Own w0 w F := ⟨t.trans h.turned (fun _ hf => hf.elim), fun b hb => Nat.le_trans t.size (h.foot b hb)⟩
end
theorem box5 (w : World) (a b c d e : Value) (t : TypeId) : (w.alloc (.cells #[a, b, c, d, e] t)).cell? ⟨w.heap.size, 0, none⟩ = some a ∧ (w.alloc (.cells #[a, b, c, d, e] t)).cell? ⟨w.heap.size, 1, none⟩ = some b ∧ (w.alloc (.cells #[a, b, c, d, e] t)).cell? ⟨w.heap.size, 2, none⟩ = some c ∧ (w.alloc (.cells #[a, b, c, d, e] t)).cell? ⟨w.heap.size, 3, none⟩ = some d ∧ (w.alloc (.cells #[a, b, c, d, e] t)).cell? ⟨w.heap.size, 4, none⟩ = some e := by
  have hb : (w.alloc (.cells #[a, b, c, d, e] t)).heap[w.heap.size]? = some (.cells #[a, b, c, d, e] t (0, 0)) := Deep.blk_alloc_new _ _
  refine ⟨?_, ?_, ?_, ?_, ?_⟩ <;> (unfold World.cell?; rw [hb]; rfl)
end Go.Proofs.Ythobbnmdpkginaa
