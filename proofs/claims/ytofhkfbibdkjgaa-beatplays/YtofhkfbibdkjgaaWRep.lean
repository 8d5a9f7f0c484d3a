/-
  How a wheel lies in memory, in plain data: its tick, its count of arms, its map of timers, its 256 slots; and what of memory a call on it may turn.
-/
import Derived.Test.YtofhkfbibdkjgaaWMap
import Derived.Maps.AppendAt
namespace Go.Proofs.Ytofhkfbibdkjgaa
open Go.RowKit
set_option linter.unusedVariables false

/-- The blocks of a wheel. -/
def Foot (p m : Nat) (V : Nat → Value) (b : Nat) : Prop := b = p ∨ b = m ∨ ∃ k, k < 256 ∧ (V k).ownBlock = some b

structure Rep (w : World) (p m : Nat) (V : Nat → Value) (now arms n : Nat) (T : Int → Option Tm) (S : Nat → List Int) : Prop where
  c0 : w.cell? ⟨p, 0, none⟩ = some (.int .u64 (now : Nat))
  c1 : w.cell? ⟨p, 1, none⟩ = some (.int .u64 (arms : Nat))
  c2 : w.cell? ⟨p, 2, none⟩ = some (.map (some m))
  cs : ∀ k, k < 256 → w.cell? ⟨p, 3 + k, none⟩ = some (V k)
  fr : ∀ o, w.frozen? ⟨p, o, none⟩ = false
  rows : ∀ k, k < 256 → w.ownsRow 0 3 1 (V k) (S k).length ((S k).map (Value.int .i64))
  map : MapIs w m n T
  pm : p ≠ m
  apart : ∀ k, k < 256 → ∀ b, (V k).ownBlock = some b → b ≠ p ∧ b ≠ m
  sep : ∀ j k, j < 256 → k < 256 → j ≠ k → ∀ b, (V j).ownBlock = some b → (V k).ownBlock ≠ some b

/-- Of what was there only blocks of F have turned. -/
structure Turned (F : Nat → Prop) (w w' : World) : Prop where
  os : w'.os = w.os
  tape : w'.tape = w.tape
  output : w'.output = w.output
  size : w.heap.size ≤ w'.heap.size
  block : ∀ k, k < w.heap.size → ¬ F k → w'.heap[k]? = w.heap[k]?

theorem Turned.refl (F : Nat → Prop) (w : World) : Turned F w w := ⟨rfl, rfl, rfl, Nat.le_refl _, fun _ _ _ => rfl⟩
theorem Turned.trans {F F' : Nat → Prop} {a b c : World} (h : Turned F a b) (k : Turned F' b c) (hF : ∀ i, F' i → F i ∨ a.heap.size ≤ i) : Turned F a c :=
  ⟨k.os.trans h.os, k.tape.trans h.tape, k.output.trans h.output, Nat.le_trans h.size k.size, fun i hi hn => (k.block i (Nat.lt_of_lt_of_le hi h.size) (fun hf => (hF i hf).elim hn (fun hle => by omega))).trans (h.block i hi hn)⟩
theorem Turned.mono {F F' : Nat → Prop} {a b : World} (h : Turned F a b) (hF : ∀ i, F i → F' i) : Turned F' a b :=
  ⟨h.os, h.tape, h.output, h.size, fun i hi hn => h.block i hi (fun hf => hn (hF i hf))⟩
theorem Turned.of_grown {F : Nat → Prop} {w w' : World} {row : Option Nat} (h : w.grownBy w' row) (hr : ∀ k, row = some k → F k) : Turned F w w' :=
  ⟨h.os, h.tape, h.output, h.size, fun i hi hn => h.block i hi (fun e => hn (hr i e.symm))⟩
theorem Turned.alloc {F : Nat → Prop} {a w : World} (h : Turned F a w) (o : Obj) : Turned F a (w.alloc o) :=
  h.trans (Turned.of_grown (F := fun _ => False) (World.grownBy_alloc w o none) (by simp)) (by simp)
theorem Turned.drewN {F : Nat → Prop} {a w : World} (h : Turned F a w) (q : Nat) : Turned F a (w.drewN q) := ⟨h.os, h.tape, h.output, h.size, h.block⟩
theorem Turned.setCell {F : Nat → Prop} {a w : World} (h : Turned F a w) {p : Addr} (hp : F p.block ∨ a.heap.size ≤ p.block) (u : Value) : Turned F a (w.setCell p u) :=
  h.trans (F' := fun i => i = p.block) ⟨rfl, rfl, rfl, by simp [World.setCell], fun k hk hn => Below.heap_setCell _ _ _ _ hn⟩ (by rintro i rfl; exact hp)
theorem Turned.below {F : Nat → Prop} {w w' : World} (h : Turned F w w') {B : Nat} (hB : B ≤ w.heap.size) (hF : ∀ i, F i → B ≤ i) : Below B w w' :=
  ⟨h.os, h.tape, h.output, h.size, fun k hk => h.block k (by omega) (fun hf => by have := hF k hf; omega)⟩

/-- From one state of a wheel to another: nothing else has turned, and what is new of it is new. -/
structure Goes (p m : Nat) (V : Nat → Value) (w : World) (V' : Nat → Value) (w' : World) : Prop where
  turned : Turned (Foot p m V) w w'
  foot : ∀ b, Foot p m V' b → Foot p m V b ∨ w.heap.size ≤ b
theorem Goes.refl (p m : Nat) (V : Nat → Value) (w : World) : Goes p m V w V w := ⟨Turned.refl _ _, fun _ h => .inl h⟩
theorem Goes.trans {p m : Nat} {V V' V'' : Nat → Value} {w w' w'' : World} (h : Goes p m V w V' w') (k : Goes p m V' w' V'' w'') : Goes p m V w V'' w'' :=
  ⟨h.turned.trans k.turned h.foot, fun b hb => (k.foot b hb).elim (h.foot b) (fun hle => .inr (Nat.le_trans h.turned.size hle))⟩

theorem cell_block {w w' : World} {b o : Nat} (h : w'.heap[b]? = w.heap[b]?) : w'.cell? ⟨b, o, none⟩ = w.cell? ⟨b, o, none⟩ := World.cell?_of_block (w := w) h
theorem frozen_block {w w' : World} {b o : Nat} (h : w'.heap[b]? = w.heap[b]?) : w'.frozen? ⟨b, o, none⟩ = w.frozen? ⟨b, o, none⟩ := World.frozen?_of_block (w := w) h
theorem row_block {w w' : World} {base e size : Nat} {v : Value} {n : Nat} {xs : List Value} (h : w.ownsRow base e size v n xs) (hb : ∀ b, v.ownBlock = some b → w'.heap[b]? = w.heap[b]?) : w'.ownsRow base e size v n xs := by
  refine ⟨h.1, ?_⟩
  rcases h.2 with hn | ⟨g, cap, cur, rfl, hbg, hg, r⟩
  · exact .inl hn
  · exact .inr ⟨g, cap, cur, rfl, hbg, by rw [hb g rfl]; exact hg, r⟩

section
variable {w w' : World} {p m : Nat} {V : Nat → Value} {now arms n : Nat} {T : Int → Option Tm} {S : Nat → List Int}

theorem Rep.plt (h : Rep w p m V now arms n T S) : p < w.heap.size := World.block_lt_of_cell? w _ h.c0
theorem Rep.foot_lt (h : Rep w p m V now arms n T S) : ∀ b, Foot p m V b → b < w.heap.size := by
  rintro b (rfl | rfl | ⟨k, hk, hb⟩)
  · exact h.plt
  · exact h.map.lt
  · exact ((h.rows k hk).lt b hb).2
theorem Rep.frame (h : Rep w p m V now arms n T S) (hb : ∀ b, Foot p m V b → w'.heap[b]? = w.heap[b]?) : Rep w' p m V now arms n T S where
  c0 := by rw [cell_block (hb p (.inl rfl))]; exact h.c0
  c1 := by rw [cell_block (hb p (.inl rfl))]; exact h.c1
  c2 := by rw [cell_block (hb p (.inl rfl))]; exact h.c2
  cs := fun k hk => by rw [cell_block (hb p (.inl rfl))]; exact h.cs k hk
  fr := fun o => by rw [frozen_block (hb p (.inl rfl))]; exact h.fr o
  rows := fun k hk => row_block (h.rows k hk) (fun b hbb => hb b (.inr (.inr ⟨k, hk, hbb⟩)))
  map := h.map.of_block (hb m (.inr (.inl rfl)))
  pm := h.pm
  apart := h.apart
  sep := h.sep
theorem Rep.alloc (h : Rep w p m V now arms n T S) (o : Obj) : Rep (w.alloc o) p m V now arms n T S :=
  h.frame (fun b hb => Below.heap_alloc w o b (h.foot_lt b hb))
/-- Another object's call, or a store into another block. -/
theorem Rep.turned {F : Nat → Prop} (h : Rep w p m V now arms n T S) (ht : Turned F w w') (hF : ∀ b, Foot p m V b → ¬ F b) : Rep w' p m V now arms n T S :=
  h.frame (fun b hb => ht.block b (h.foot_lt b hb) (hF b hb))
theorem Rep.setOther (h : Rep w p m V now arms n T S) {a : Addr} (ha : ¬ Foot p m V a.block) (u : Value) : Rep (w.setCell a u) p m V now arms n T S :=
  h.frame (fun b hb => Below.heap_setCell _ _ _ _ (fun e => ha (e ▸ hb)))

theorem set_cell {w : World} {b o : Nat} {v u : Value} (h : w.cell? ⟨b, o, none⟩ = some v) : (w.setCell ⟨b, o, none⟩ u).cell? ⟨b, o, none⟩ = some u := World.cell?_setCell_same _ _ _ h
theorem set_cell_other {w : World} {b o b' o' : Nat} {u : Value} (h : ¬ (b' = b ∧ o' = o)) : (w.setCell ⟨b, o, none⟩ u).cell? ⟨b', o', none⟩ = w.cell? ⟨b', o', none⟩ :=
  World.cell?_setCell_other _ _ _ _ (by intro e; simp only [Addr.mk.injEq] at e; omega)
theorem set_block_other {w : World} {b o b' : Nat} {u : Value} (h : b' ≠ b) : (w.setCell ⟨b, o, none⟩ u).heap[b']? = w.heap[b']? := Below.heap_setCell _ _ _ _ h

theorem Rep.setNow (h : Rep w p m V now arms n T S) (x : Nat) : Rep (w.setCell ⟨p, 0, none⟩ (.int .u64 (x : Nat))) p m V x arms n T S where
  c0 := set_cell h.c0
  c1 := by rw [set_cell_other (by omega)]; exact h.c1
  c2 := by rw [set_cell_other (by omega)]; exact h.c2
  cs := fun k hk => by rw [set_cell_other (by omega)]; exact h.cs k hk
  fr := fun o => by rw [World.frozen?_setCell]; exact h.fr o
  rows := fun k hk => row_block (h.rows k hk) (fun b hb => set_block_other (h.apart k hk b hb).1)
  map := h.map.of_block (set_block_other (Ne.symm h.pm))
  pm := h.pm
  apart := h.apart
  sep := h.sep
theorem Rep.setArms (h : Rep w p m V now arms n T S) (x : Nat) : Rep (w.setCell ⟨p, 1, none⟩ (.int .u64 (x : Nat))) p m V now x n T S where
  c0 := by rw [set_cell_other (by omega)]; exact h.c0
  c1 := set_cell h.c1
  c2 := by rw [set_cell_other (by omega)]; exact h.c2
  cs := fun k hk => by rw [set_cell_other (by omega)]; exact h.cs k hk
  fr := fun o => by rw [World.frozen?_setCell]; exact h.fr o
  rows := fun k hk => row_block (h.rows k hk) (fun b hb => set_block_other (h.apart k hk b hb).1)
  map := h.map.of_block (set_block_other (Ne.symm h.pm))
  pm := h.pm
  apart := h.apart
  sep := h.sep
/-- The map has turned. -/
theorem Rep.setMap {n' : Nat} {T' : Int → Option Tm} (h : Rep w p m V now arms n T S) (ht : w.mapTurned w' m) (hm : MapIs w' m n' T') : Rep w' p m V now arms n' T' S := by
  have hb : ∀ b, b < w.heap.size → b ≠ m → w'.heap[b]? = w.heap[b]? := fun b hlt hne => ht.grown.block b hlt (by simpa using hne)
  have hp := hb p h.plt h.pm
  exact {
    c0 := by rw [cell_block hp]; exact h.c0
    c1 := by rw [cell_block hp]; exact h.c1
    c2 := by rw [cell_block hp]; exact h.c2
    cs := fun k hk => by rw [cell_block hp]; exact h.cs k hk
    fr := fun o => by rw [frozen_block hp]; exact h.fr o
    rows := fun k hk => row_block (h.rows k hk) (fun b hbb => hb b ((h.rows k hk).lt b hbb).2 (h.apart k hk b hbb).2)
    map := hm
    pm := h.pm
    apart := h.apart
    sep := h.sep }

def put {α : Type} (f : Nat → α) (k : Nat) (v : α) : Nat → α := fun j => if j = k then v else f j
theorem put_same {α : Type} (f : Nat → α) (k : Nat) (v : α) : put f k v k = v := by simp [put]
theorem put_other {α : Type} (f : Nat → α) {k j : Nat} (v : α) (h : j ≠ k) : put f k v j = f j := by simp [put, h]

/-- A slot's row has turned, and the slot is set to it. -/
theorem Rep.setSlot (h : Rep w p m V now arms n T S) {k : Nat} (hk : k < 256) {w1 : World} {v : Value} {xs : List Int} (hg : w.grownBy w1 (V k).ownBlock)
    (hr : w1.ownsRow 0 3 1 v xs.length (xs.map (Value.int .i64))) (hv : ∀ b, v.ownBlock = some b → (V k).ownBlock = some b ∨ w.heap.size ≤ b) :
    Rep (w1.setCell ⟨p, 3 + k, none⟩ v) p m (put V k v) now arms n T (put S k xs) ∧ Goes p m V w (put V k v) (w1.setCell ⟨p, 3 + k, none⟩ v) := by
  have hold : ∀ b, b < w.heap.size → (V k).ownBlock ≠ some b → w1.heap[b]? = w.heap[b]? := fun b hb hn => hg.block b hb (fun e => hn e.symm)
  have hp : w1.heap[p]? = w.heap[p]? := hold p h.plt (fun e => (h.apart k hk p e).1 rfl)
  have hpl := h.plt
  have hml := h.map.lt
  have hvp : ∀ b, v.ownBlock = some b → b ≠ p ∧ b ≠ m := fun b hb => (hv b hb).elim (h.apart k hk b) (fun hle => ⟨by omega, by omega⟩)
  constructor
  · refine {
      c0 := by rw [set_cell_other (by omega), cell_block hp]; exact h.c0
      c1 := by rw [set_cell_other (by omega), cell_block hp]; exact h.c1
      c2 := by rw [set_cell_other (by omega), cell_block hp]; exact h.c2
      cs := fun j hj => ?_
      fr := fun o => by rw [World.frozen?_setCell, frozen_block hp]; exact h.fr o
      rows := fun j hj => ?_
      map := (h.map.of_block (hold m hml (fun e => (h.apart k hk m e).2 rfl))).of_block (set_block_other (Ne.symm h.pm))
      pm := h.pm
      apart := fun j hj b hb => ?_
      sep := fun i j hi hj hij b hb => ?_ }
    · by_cases e : j = k
      · subst e; rw [put_same]; exact set_cell (by rw [cell_block hp]; exact h.cs j hj)
      · rw [put_other _ _ e, set_cell_other (by omega), cell_block hp]; exact h.cs j hj
    · by_cases e : j = k
      · subst e; rw [put_same, put_same]; exact row_block hr (fun b hb => set_block_other (hvp b hb).1)
      · rw [put_other _ _ e, put_other _ _ e]
        exact row_block (h.rows j hj) (fun b hb => (set_block_other (h.apart j hj b hb).1).trans (hold b ((h.rows j hj).lt b hb).2 (h.sep j k hj hk e b hb)))
    · by_cases e : j = k
      · subst e; rw [put_same] at hb; exact hvp b hb
      · rw [put_other _ _ e] at hb; exact h.apart j hj b hb
    · by_cases e : i = k
      · subst e
        rw [put_same] at hb
        rw [put_other _ _ (Ne.symm hij)]
        rcases hv b hb with h1 | h1
        · exact h.sep i j hi hj hij b h1
        · intro h2; have := ((h.rows j hj).lt b h2).2; omega
      · rw [put_other _ _ e] at hb
        by_cases e2 : j = k
        · subst e2
          rw [put_same]
          intro h2
          rcases hv b h2 with h1 | h1
          · exact h.sep i j hi hj hij b hb h1
          · have := ((h.rows i hi).lt b hb).2; omega
        · rw [put_other _ _ e2]; exact h.sep i j hi hj hij b hb
  · constructor
    · exact (Turned.of_grown hg (fun b hb => .inr (.inr ⟨k, hk, hb⟩))).setCell (.inl (.inl rfl)) v
    · rintro b (rfl | rfl | ⟨j, hj, hb⟩)
      · exact .inl (.inl rfl)
      · exact .inl (.inr (.inl rfl))
      · by_cases e : j = k
        · subst e
          rw [put_same] at hb
          exact (hv b hb).elim (fun h1 => .inl (.inr (.inr ⟨j, hj, h1⟩))) .inr
        · rw [put_other _ _ e] at hb
          exact .inl (.inr (.inr ⟨j, hj, hb⟩))
theorem Goes.setMap (h : Rep w p m V now arms n T S) (ht : w.mapTurned w' m) : Goes p m V w V w' :=
  ⟨Turned.of_grown ht.grown (fun b hb => .inr (.inl (by simpa using hb.symm))), fun _ hb => .inl hb⟩
theorem Goes.alloc (p m : Nat) (V : Nat → Value) (w : World) (o : Obj) : Goes p m V w V (w.alloc o) := ⟨(Turned.refl _ _).alloc o, fun _ hb => .inl hb⟩
theorem Goes.setWheel (p m : Nat) (V : Nat → Value) (w : World) (o : Nat) (u : Value) : Goes p m V w V (w.setCell ⟨p, o, none⟩ u) := ⟨(Turned.refl _ _).setCell (.inl (.inl rfl)) u, fun _ hb => .inl hb⟩
end

end Go.Proofs.Ytofhkfbibdkjgaa
