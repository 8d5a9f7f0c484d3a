/-
  How a ring lies in memory, in plain data: how many it may hold, its slots, the first one's slot, its things as a list; and what of memory a call on it may turn.
-/
import Derived.Test.YthobbnmdpkginaaProg
import Derived.WalkKit
import Derived.WalkSpells
import Derived.WalkLawsBesides
import Derived.Outline
import Derived.Deep.OwnRows
import Derived.BigQuiet
import Derived.BigRegion
import Derived.Deep.QuietTactic
import Derived.Deep.RegionHeld3
namespace Go.Proofs.Ythobbnmdpkginaa
open Go.RowKit
set_option linter.unusedVariables false

theorem ret_int {k : IntKind} {a b : Int} (h : a = b) : Ending.returned (.int k a) = .returned (.int k b) := by rw [h]

theorem take_first {P : Program} {md : Region.Mode} {l : List Oper} {Q : Exit → Act → World → Prop} {S : World → Prop} (i : Nat) {oi : Oper} {v : Value} {fuel : Nat} {listed : Array Bool} {a : Act} {w : World} (hi : l[i]? = some oi)
    (hs : Region.noSelect l.toArray = true) (hf : Region.free md l.toArray listed i = true) (hr : (Region.ready md l.toArray listed).contains i = true)
    (hQ : ∀ c a w, Q (.panic c) (a.put oi.dst v) w → Q (.panic c) a w) (hy : YieldsIf P l.toArray S oi v a) (hS : S w)
    (h : wpAnyH P md l.toArray Q S fuel (listed.setIfInBounds i true) (a.put oi.dst v) w) : wpAnyH P md l.toArray Q S (fuel + 1) listed a w :=
  wpAnyH_take (by simpa using hi) hs hf hr hQ hy hS h
theorem comes_up {P : Program} {md : Region.Mode} {l : List Oper} {Q : Exit → Act → World → Prop} {S : World → Prop} (i : Nat) {o : Oper} {fuel : Nat} {listed : Array Bool} {a : Act} {w : World} (hi : l[i]? = some o) (hr : Region.ready md l.toArray listed = [i])
    (h : ∀ K' : Act → World → Prop, Shut (∀ a w, S w → (S w → wpAnyH P md l.toArray Q S fuel (listed.setIfInBounds i true) a w) → K' a w) → if Region.wanted o (yielded l.toArray a.tmps) = true then Oper.wp P o a w K' Q else K' (a.put o.dst undef) w) :
    wpAnyH P md l.toArray Q S (fuel + 1) listed a w :=
  wpAnyH_ready (rs := [i]) hr (by simp) (AllReadyH.cons (by simpa using hi) h AllReadyH.nil)

/-- Of what was there only blocks of F have turned. -/
structure Turned (F : Nat → Prop) (w w' : World) : Prop where
  os : w'.os = w.os
  tape : w'.tape = w.tape
  output : w'.output = w.output
  size : w.heap.size ≤ w'.heap.size
  block : ∀ k, k < w.heap.size → ¬ F k → w'.heap[k]? = w.heap[k]?

theorem Turned.refl (F : Nat → Prop) (w : World) : Turned F w w := ⟨rfl, rfl, rfl, Nat.le_refl _, fun _ _ _ => rfl⟩
theorem Turned.trans {F F' : Nat → Prop} {a b c : World} (h : Turned F a b) (k : Turned F' b c) (hF : ∀ i, F' i → F i ∨ a.heap.size ≤ i) : Turned F a c :=
  ⟨k.os.trans h.os, k.tape.trans h.tape, k.output.trans h.output, Nat.le_trans h.size k.size, fun i hi hn => (k.block i (Nat.lt_of_lt_of_le hi h.size) (fun hf => (hF i hf).elim hn (fun hle => by omega))).trans (h.block i hi hn)⟩
theorem Turned.mono {F F' : Nat → Prop} {a b : World} (h : Turned F a b) (hF : ∀ i, F i → F' i) : Turned F' a b :=
  ⟨h.os, h.tape, h.output, h.size, fun i hi hn => h.block i hi (fun hf => hn (hF i hf))⟩
theorem Turned.alloc {F : Nat → Prop} {a w : World} (h : Turned F a w) (o : Obj) : Turned F a (w.alloc o) :=
  h.trans (F' := fun _ => False) ⟨rfl, rfl, rfl, by simp, fun k hk _ => Below.heap_alloc w o k hk⟩ (by simp)
theorem Turned.drewN {F : Nat → Prop} {a w : World} (h : Turned F a w) (q : Nat) : Turned F a (w.drewN q) := ⟨h.os, h.tape, h.output, h.size, h.block⟩
theorem Turned.drew {F : Nat → Prop} {a w : World} (h : Turned F a w) : Turned F a w.drew := ⟨h.os, h.tape, h.output, h.size, h.block⟩
theorem Turned.setCell {F : Nat → Prop} {a w : World} (h : Turned F a w) {p : Addr} (hp : F p.block ∨ a.heap.size ≤ p.block) (u : Value) : Turned F a (w.setCell p u) :=
  h.trans (F' := fun i => i = p.block) ⟨rfl, rfl, rfl, by simp [World.setCell], fun k hk hn => Below.heap_setCell _ _ _ _ hn⟩ (by rintro i rfl; exact hp)
theorem Turned.below {F : Nat → Prop} {w w' : World} (h : Turned F w w') {B : Nat} (hB : B ≤ w.heap.size) (hF : ∀ i, F i → B ≤ i) : Below B w w' :=
  ⟨h.os, h.tape, h.output, h.size, fun k hk => h.block k (by omega) (fun hf => by have := hF k hf; omega)⟩

theorem cell_block {w w' : World} {b o : Nat} (h : w'.heap[b]? = w.heap[b]?) : w'.cell? ⟨b, o, none⟩ = w.cell? ⟨b, o, none⟩ := World.cell?_of_block (w := w) h
theorem frozen_block {w w' : World} {b o : Nat} (h : w'.heap[b]? = w.heap[b]?) : w'.frozen? ⟨b, o, none⟩ = w.frozen? ⟨b, o, none⟩ := World.frozen?_of_block (w := w) h
theorem set_cell {w : World} {b o : Nat} {v u : Value} (h : w.cell? ⟨b, o, none⟩ = some v) : (w.setCell ⟨b, o, none⟩ u).cell? ⟨b, o, none⟩ = some u := World.cell?_setCell_same _ _ _ h
theorem set_cell_other {w : World} {b o b' o' : Nat} {u : Value} (h : ¬ (b' = b ∧ o' = o)) : (w.setCell ⟨b, o, none⟩ u).cell? ⟨b', o', none⟩ = w.cell? ⟨b', o', none⟩ :=
  World.cell?_setCell_other _ _ _ _ (by intro e; simp only [Addr.mk.injEq] at e; omega)
theorem set_block_other {w : World} {b o b' : Nat} {u : Value} (h : b' ≠ b) : (w.setCell ⟨b, o, none⟩ u).heap[b']? = w.heap[b']? := Below.heap_setCell _ _ _ _ h

/-- The slots of a ring: none yet, or a row that is gone round. -/
def Slots (w : World) (e : TypeId) (p : Nat) (sv : Value) (most first : Nat) (xs : List Value) : Prop :=
  (sv = .slice none 0 0 ∧ first = 0 ∧ xs = []) ∨ ∃ b n f, sv = .slice (some ⟨b, 0, none⟩) n n ∧ b ≠ p ∧ 0 < n ∧ n ≤ most ∧ first < n ∧ xs.length ≤ n ∧ w.rowIs b e n f ∧ ∀ j x, xs[j]? = some x → f ((first + j) % n) = x

/-- A thing of one cell. -/
def One (x : Value) : Prop := x.cells = #[x] ∧ x.oneCell' = true

/-- A ring of things of the type e holds these. -/
structure Ring (w : World) (e : TypeId) (p : Nat) (sv : Value) (most first : Nat) (xs : List Value) : Prop where
  c0 : w.cell? ⟨p, 0, none⟩ = some (.int .i64 (most : Nat))
  c1 : w.cell? ⟨p, 1, none⟩ = some sv
  c2 : w.cell? ⟨p, 2, none⟩ = some (.int .i64 (first : Nat))
  c3 : w.cell? ⟨p, 3, none⟩ = some (.int .i64 (xs.length : Nat))
  fr : ∀ o, w.frozen? ⟨p, o, none⟩ = false
  most1 : 1 ≤ most
  most256 : most ≤ 256
  le : xs.length ≤ most
  one : ∀ x ∈ xs, One x
  slots : Slots w e p sv most first xs

def Foot (p : Nat) (sv : Value) (b : Nat) : Prop := b = p ∨ sv.ownBlock = some b

section
variable {w w' : World} {e : TypeId} {p : Nat} {sv : Value} {most first : Nat} {xs : List Value}

theorem Ring.plt (h : Ring w e p sv most first xs) : p < w.heap.size := World.block_lt_of_cell? w _ h.c0
theorem Ring.foot_lt (h : Ring w e p sv most first xs) : ∀ b, Foot p sv b → b < w.heap.size := by
  rintro b (rfl | hb)
  · exact h.plt
  · rcases h.slots with ⟨rfl, _⟩ | ⟨b', n, f, rfl, _, _, _, _, _, hr, _⟩
    · cases hb
    · obtain rfl : b' = b := by simpa [Value.ownBlock] using hb
      exact hr.lt
theorem Slots.frame (h : Slots w e p sv most first xs) (hb : ∀ b, sv.ownBlock = some b → w'.heap[b]? = w.heap[b]?) : Slots w' e p sv most first xs := by
  rcases h with h | ⟨b, n, f, rfl, h1, h2, h3, h4, h5, h6, h7⟩
  · exact .inl h
  · exact .inr ⟨b, n, f, rfl, h1, h2, h3, h4, h5, h6.of_block (hb b rfl), h7⟩
theorem Ring.frame (h : Ring w e p sv most first xs) (hb : ∀ b, Foot p sv b → w'.heap[b]? = w.heap[b]?) : Ring w' e p sv most first xs where
  c0 := by rw [cell_block (hb p (.inl rfl))]; exact h.c0
  c1 := by rw [cell_block (hb p (.inl rfl))]; exact h.c1
  c2 := by rw [cell_block (hb p (.inl rfl))]; exact h.c2
  c3 := by rw [cell_block (hb p (.inl rfl))]; exact h.c3
  fr := fun o => by rw [frozen_block (hb p (.inl rfl))]; exact h.fr o
  most1 := h.most1
  most256 := h.most256
  le := h.le
  one := h.one
  slots := h.slots.frame (fun b hbb => hb b (.inr hbb))
theorem Ring.alloc (h : Ring w e p sv most first xs) (o : Obj) : Ring (w.alloc o) e p sv most first xs := h.frame (fun b hb => Below.heap_alloc w o b (h.foot_lt b hb))
theorem Ring.drewN (h : Ring w e p sv most first xs) (q : Nat) : Ring (w.drewN q) e p sv most first xs := h.frame (fun _ _ => rfl)
theorem Ring.drew (h : Ring w e p sv most first xs) : Ring w.drew e p sv most first xs := h.frame (fun _ _ => rfl)
theorem Ring.turned {F : Nat → Prop} (h : Ring w e p sv most first xs) (ht : Turned F w w') (hF : ∀ b, Foot p sv b → ¬ F b) : Ring w' e p sv most first xs :=
  h.frame (fun b hb => ht.block b (h.foot_lt b hb) (hF b hb))
theorem Ring.setOther (h : Ring w e p sv most first xs) {a : Addr} (ha : ¬ Foot p sv a.block) (u : Value) : Ring (w.setCell a u) e p sv most first xs :=
  h.frame (fun b hb => Below.heap_setCell _ _ _ _ (fun e => ha (e ▸ hb)))

/-- From one state of a ring to another: nothing else has turned, and what is new of it is new. -/
structure Goes (p : Nat) (sv : Value) (w : World) (sv' : Value) (w' : World) : Prop where
  turned : Turned (Foot p sv) w w'
  foot : ∀ b, Foot p sv' b → Foot p sv b ∨ w.heap.size ≤ b
end
theorem Goes.refl (p : Nat) (sv : Value) (w : World) : Goes p sv w sv w := ⟨Turned.refl _ _, fun _ h => .inl h⟩
theorem Goes.drewN (p : Nat) (sv : Value) (w : World) (q : Nat) : Goes p sv w sv (w.drewN q) := ⟨(Turned.refl _ _).drewN q, fun _ h => .inl h⟩
theorem Goes.trans {p : Nat} {sv sv' sv'' : Value} {w w' w'' : World} (h : Goes p sv w sv' w') (k : Goes p sv' w' sv'' w'') : Goes p sv w sv'' w'' :=
  ⟨h.turned.trans k.turned h.foot, fun b hb => (k.foot b hb).elim (h.foot b) (fun hle => .inr (Nat.le_trans h.turned.size hle))⟩

/-- A put into the slots of which one is free. -/
theorem Ring.put {w : World} {e : TypeId} {p b n most first : Nat} {xs : List Value} (h : Ring w e p (.slice (some ⟨b, 0, none⟩) n n) most first xs) (hlt : xs.length < n) (hle : xs.length < most) (x : Value) (hx1 : One x) :
    Ring ((w.setCell ⟨b, (first + xs.length) % n, none⟩ x).setCell ⟨p, 3, none⟩ (.int .i64 ((xs.length : Nat) + 1))) e p (.slice (some ⟨b, 0, none⟩) n n) most first (xs ++ [x]) := by
  rcases h.slots with ⟨h0, _⟩ | ⟨b', n', f, hs, h1, h2, h3, h4, h5, h6, h7⟩
  · cases h0
  · simp only [Value.slice.injEq, Option.some.injEq, Addr.mk.injEq, and_true] at hs
    obtain ⟨rfl, rfl, -⟩ := hs
    have hp : ∀ o, ¬ (p = b ∧ o = (first + xs.length) % n) := fun o hh => h1 hh.1.symm
    exact {
      c0 := by rw [set_cell_other (by omega), set_cell_other (hp _)]; exact h.c0
      c1 := by rw [set_cell_other (by omega), set_cell_other (hp _)]; exact h.c1
      c2 := by rw [set_cell_other (by omega), set_cell_other (hp _)]; exact h.c2
      c3 := by rw [set_cell (by rw [set_cell_other (hp _)]; exact h.c3)]; simp
      fr := fun o => by rw [World.frozen?_setCell, World.frozen?_setCell]; exact h.fr o
      most1 := h.most1
      most256 := h.most256
      le := by simp; omega
      one := fun y hy => (List.mem_append.1 hy).elim (h.one y) (fun hh => by rw [List.mem_singleton.1 hh]; exact hx1)
      slots := by
        refine .inr ⟨b, n, _, rfl, h1, h2, h3, h4, by simp; omega, ((h6.set ((first + xs.length) % n) x).setOther h1 _), ?_⟩
        intro j y hj
        by_cases hj2 : j < xs.length
        · rw [List.getElem?_append_left hj2] at hj
          have hne : (first + j) % n ≠ (first + xs.length) % n := by
            intro hh
            have e1 := Nat.mod_add_div (first + j) n
            have e2 := Nat.mod_add_div (first + xs.length) n
            have l1 := Nat.mod_lt (first + j) h2
            rw [hh] at e1
            have : n * ((first + xs.length) / n) = n * ((first + j) / n) + (xs.length - j) := by omega
            have h8 : xs.length - j < n := by omega
            have h9 : 0 < xs.length - j := by omega
            have h10 : n * ((first + xs.length) / n - (first + j) / n) = xs.length - j := by rw [Nat.mul_sub]; omega
            rcases Nat.eq_zero_or_pos ((first + xs.length) / n - (first + j) / n) with h11 | h11
            · rw [h11] at h10; omega
            · have := Nat.le_mul_of_pos_right n h11; omega
          rw [if_neg hne]
          exact h7 j y hj
        · rw [List.getElem?_append_right (by omega)] at hj
          obtain ⟨hl, hx⟩ := List.getElem?_eq_some_iff.1 hj
          simp at hl hx
          obtain rfl : j = xs.length := by omega
          rw [if_pos rfl, hx] }

theorem mod_step (first n j : Nat) (hn : 0 < n) : ((first + 1) % n + j) % n = (first + (j + 1)) % n := by
  rw [Nat.mod_add_mod]; congr 1; omega

/-- A take. -/
theorem Ring.take {w : World} {e : TypeId} {p b n most first : Nat} {x : Value} {xs : List Value} (h : Ring w e p (.slice (some ⟨b, 0, none⟩) n n) most first (x :: xs)) (z : Value) :
    Ring (((w.setCell ⟨b, first, none⟩ z).setCell ⟨p, 2, none⟩ (.int .i64 (((first + 1) % n : Nat) : Int))).setCell ⟨p, 3, none⟩ (.int .i64 (xs.length : Nat))) e p (.slice (some ⟨b, 0, none⟩) n n) most ((first + 1) % n) xs := by
  rcases h.slots with ⟨h0, _⟩ | ⟨b', n', f, hs, h1, h2, h3, h4, h5, h6, h7⟩
  · cases h0
  · simp only [Value.slice.injEq, Option.some.injEq, Addr.mk.injEq, and_true] at hs
    obtain ⟨rfl, rfl, -⟩ := hs
    have hp : ∀ o, ¬ (p = b ∧ o = first) := fun o hh => h1 hh.1.symm
    simp only [List.length_cons] at h5
    exact {
      c0 := by rw [set_cell_other (by omega), set_cell_other (by omega), set_cell_other (hp _)]; exact h.c0
      c1 := by rw [set_cell_other (by omega), set_cell_other (by omega), set_cell_other (hp _)]; exact h.c1
      c2 := by rw [set_cell_other (by omega), set_cell (by rw [set_cell_other (hp _)]; exact h.c2)]
      c3 := by rw [set_cell (by rw [set_cell_other (by omega), set_cell_other (hp _)]; exact h.c3)]
      fr := fun o => by rw [World.frozen?_setCell, World.frozen?_setCell, World.frozen?_setCell]; exact h.fr o
      most1 := h.most1
      most256 := h.most256
      le := by have := h.le; simp at this; omega
      one := fun y hy => h.one y (List.mem_cons_of_mem _ hy)
      slots := by
        refine .inr ⟨b, n, _, rfl, h1, h2, h3, Nat.mod_lt _ h2, by omega, (((h6.set first z).setOther h1 _).setOther h1 _), ?_⟩
        intro j y hj
        have hjl : j < xs.length := (List.getElem?_eq_some_iff.1 hj).1
        rw [mod_step first n j h2]
        have hne : (first + (j + 1)) % n ≠ first := by
          intro hh
          by_cases hc : first + (j + 1) < n
          · rw [Nat.mod_eq_of_lt hc] at hh; omega
          · rw [Nat.mod_eq_sub_mod (by omega), Nat.mod_eq_of_lt (by omega)] at hh; omega
        rw [if_neg hne]
        exact h7 (j + 1) y (by simpa using hj) }

/-- New slots for the same things. -/
theorem Ring.moved {w : World} {e : TypeId} {p most first b n : Nat} {sv : Value} {xs : List Value} {f : Nat → Value} (h : Ring w e p sv most first xs) (hb : b ≠ p) (h0 : 0 < n) (hn : n ≤ most) (hl : xs.length ≤ n) (hr : w.rowIs b e n f) (hf : ∀ j x, xs[j]? = some x → f j = x) :
    Ring ((w.setCell ⟨p, 1, none⟩ (.slice (some ⟨b, 0, none⟩) n n)).setCell ⟨p, 2, none⟩ (.int .i64 0)) e p (.slice (some ⟨b, 0, none⟩) n n) most 0 xs where
  c0 := by rw [set_cell_other (by omega), set_cell_other (by omega)]; exact h.c0
  c1 := by rw [set_cell_other (by omega), set_cell h.c1]
  c2 := by rw [set_cell (by rw [set_cell_other (by omega)]; exact h.c2)]; rfl
  c3 := by rw [set_cell_other (by omega), set_cell_other (by omega)]; exact h.c3
  fr := fun o => by rw [World.frozen?_setCell, World.frozen?_setCell]; exact h.fr o
  most1 := h.most1
  most256 := h.most256
  le := h.le
  one := h.one
  slots := by
    refine .inr ⟨b, n, f, rfl, hb, h0, hn, h0, hl, ((hr.setOther hb _).setOther hb _), fun j x hj => ?_⟩
    have hjl : j < xs.length := (List.getElem?_eq_some_iff.1 hj).1
    rw [Nat.zero_add, Nat.mod_eq_of_lt (by omega)]
    exact hf j x hj

/-- A new ring. -/
theorem ring_new (w : World) (e t : TypeId) (most : Nat) (h1 : 1 ≤ most) (h2 : most ≤ 256) :
    Ring (w.alloc (.cells #[.int .i64 (most : Nat), .slice none 0 0, .int .i64 0, .int .i64 0] t)) e w.heap.size (.slice none 0 0) most 0 [] := by
  have hb : (w.alloc (.cells #[.int .i64 (most : Nat), .slice none 0 0, .int .i64 0, .int .i64 0] t)).heap[w.heap.size]? = some (.cells #[.int .i64 (most : Nat), .slice none 0 0, .int .i64 0, .int .i64 0] t (0, 0)) := Deep.blk_alloc_new _ _
  exact {
    c0 := by unfold World.cell?; rw [hb]; rfl
    c1 := by unfold World.cell?; rw [hb]; rfl
    c2 := by unfold World.cell?; rw [hb]; rfl
    c3 := by unfold World.cell?; rw [hb]; rfl
    fr := fun o => by unfold World.frozen?; rw [hb]; simp
    most1 := h1
    most256 := h2
    le := by simp
    one := by simp
    slots := .inl ⟨rfl, rfl, rfl⟩ }

end Go.Proofs.Ythobbnmdpkginaa
