/-
  Texts of the walk, one behind the other.
-/
import Derived.Test.YthnbijnpbjfoaaaProg
import Derived.WalkKit
import Derived.WalkSpells
import Derived.WalkLawsBesides
import Derived.Outline
import Derived.BigQuiet
import Derived.Below
import Derived.OwnWalk
import Derived.Deep.QuietTactic
import Derived.Deep.RegionHeld3
import Derived.Laws.AppendOwn
import Derived.Laws.OwnMore
import Derived.Laws.StructEq
import Derived.Maps.AppendAt
import Derived.Sort.Grow
import Derived.Deep.MidRow
import Derived.Laws.AppendOwnNone
/-
  What the texts lean on: steps of a drawn region, and worlds that have grown.
-/
namespace Go.Proofs.Ythnbijnpbjfoaaa
open Go.RowKit Go.Sort
set_option linter.unusedVariables false

theorem ret_int {k : IntKind} {a b : Int} (h : a = b) : Ending.returned (.int k a) = .returned (.int k b) := by rw [h]
theorem ret_bool {a b : Bool} (h : a = b) : Ending.returned (.bool a) = .returned (.bool b) := by rw [h]
theorem take_first {P : Program} {md : Region.Mode} {l : List Oper} {Q : Exit → Act → World → Prop} {S : World → Prop} (i : Nat) {oi : Oper} {v : Value} {fuel : Nat} {listed : Array Bool} {a : Act} {w : World} (hi : l[i]? = some oi)
    (hs : Region.noSelect l.toArray = true) (hf : Region.free md l.toArray listed i = true) (hr : (Region.ready md l.toArray listed).contains i = true)
    (hQ : ∀ c a w, Q (.panic c) (a.put oi.dst v) w → Q (.panic c) a w) (hy : YieldsIf P l.toArray S oi v a) (hS : S w)
    (h : wpAnyH P md l.toArray Q S fuel (listed.setIfInBounds i true) (a.put oi.dst v) w) : wpAnyH P md l.toArray Q S (fuel + 1) listed a w :=
  wpAnyH_take (by simpa using hi) hs hf hr hQ hy hS h
theorem comes_up {P : Program} {md : Region.Mode} {l : List Oper} {Q : Exit → Act → World → Prop} {S : World → Prop} (i : Nat) {o : Oper} {fuel : Nat} {listed : Array Bool} {a : Act} {w : World} (hi : l[i]? = some o) (hr : Region.ready md l.toArray listed = [i])
    (h : ∀ K' : Act → World → Prop, Shut (∀ a w, S w → (S w → wpAnyH P md l.toArray Q S fuel (listed.setIfInBounds i true) a w) → K' a w) → if Region.wanted o (yielded l.toArray a.tmps) = true then Oper.wp P o a w K' Q else K' (a.put o.dst undef) w) :
    wpAnyH P md l.toArray Q S (fuel + 1) listed a w :=
  wpAnyH_ready (rs := [i]) hr (by simp) (AllReadyH.cons (by simpa using hi) h AllReadyH.nil)
theorem comes_up2 {P : Program} {md : Region.Mode} {l : List Oper} {Q : Exit → Act → World → Prop} {S : World → Prop} (i j : Nat) {o o' : Oper} {fuel : Nat} {listed : Array Bool} {a : Act} {w : World} (hi : l[i]? = some o) (hj : l[j]? = some o') (hr : Region.ready md l.toArray listed = [i, j])
    (h : ∀ K' : Act → World → Prop, Shut (∀ a w, S w → (S w → wpAnyH P md l.toArray Q S fuel (listed.setIfInBounds i true) a w) → K' a w) → if Region.wanted o (yielded l.toArray a.tmps) = true then Oper.wp P o a w K' Q else K' (a.put o.dst undef) w)
    (h' : ∀ K' : Act → World → Prop, Shut (∀ a w, S w → (S w → wpAnyH P md l.toArray Q S fuel (listed.setIfInBounds j true) a w) → K' a w) → if Region.wanted o' (yielded l.toArray a.tmps) = true then Oper.wp P o' a w K' Q else K' (a.put o'.dst undef) w) :
    wpAnyH P md l.toArray Q S (fuel + 1) listed a w :=
  wpAnyH_ready (rs := [i, j]) hr (by simp) (AllReadyH.cons (by simpa using hi) h (AllReadyH.cons (by simpa using hj) h' AllReadyH.nil))
theorem step_append_run {P : Program} {ops : Array Oper} {o : Oper} {a : Act} {w : World} {K : Act → World → Prop} {Q : Exit → Act → World → Prop} {E : Prop}
    (hg : o.guard = none) (s x : Operand) (t : TypeId) (hop : o.op = Op.call { callee := Callee.builtin Builtin.append, args := #[s, x], argTypes := #[t, t] })
    (v y v' : Value) (w' : World) (hs : a.eval s = v) (hx : a.eval x = y) (hrun : (Builtin.append_ #[t, t] o.type #[v, y]).run P w = .ok v' w')
    (hK : K (a.put o.dst v') w') : if Region.wanted o (yielded ops a.tmps) = true then Oper.wp P o a w K Q else E := by
  have hw : Region.wanted o (yielded ops a.tmps) = true := by simp [Region.wanted, hg]
  rw [if_pos hw]
  unfold Oper.wp
  simp [execOp, hop, resolve, invoke, builtin, hs, hx, hrun, Result.andThen]
  exact hK
theorem tq {P : Program} {md : Region.Mode} {l : List Oper} {Q : Exit → Act → World → Prop} {S : World → Prop} (i : Nat) {oi : Oper} {v : Value} {fuel : Nat} {listed : Array Bool} {a a' : Act} {w : World}
    (h : wpAnyH P md l.toArray Q S fuel (listed.setIfInBounds i true) a' w) (hi : l[i]? = some oi := by rfl) (hy : ∀ w, S w → (execOp a.eval oi).run P w = .ok (.value v) w := by intro wx hSw; (try dsimp only at hSw); (repeat (have hSx := hSw.1; replace hSw := hSw.2)); go_simp; try with_reducible rfl) (hw : Region.wanted oi (yielded l.toArray a.tmps) = true := by rfl) (hs : Region.noSelect l.toArray = true := by kernel_rfl) (hf : Region.free md l.toArray listed i = true := by kernel_rfl) (hr : (Region.ready md l.toArray listed).contains i = true := by kernel_rfl)
    (hQ : ∀ c a w, Q (.panic c) (a.put oi.dst v) w → Q (.panic c) a w := by exact fun _ _ _ h => h) (hS : S w := by assumption) (ha : a.put oi.dst v = a' := by (try simp only [Act.put, List.setIfInBounds_toArray, List.set_cons_zero, List.set_cons_succ]) <;> rfl) : wpAnyH P md l.toArray Q S (fuel + 1) listed a w :=
  take_first i hi hs hf hr hQ (.inl ⟨hw, hy⟩) hS (ha ▸ h)
theorem tqS {P : Program} {md : Region.Mode} {l : List Oper} {Q : Exit → Act → World → Prop} {S : World → Prop} (i : Nat) {oi : Oper} {fuel : Nat} {listed : Array Bool} {a a' : Act} {w : World}
    (h : wpAnyH P md l.toArray Q S fuel (listed.setIfInBounds i true) a' w) (hi : l[i]? = some oi := by rfl) (hw : Region.wanted oi (yielded l.toArray a.tmps) = false := by rfl) (hs : Region.noSelect l.toArray = true := by kernel_rfl) (hf : Region.free md l.toArray listed i = true := by kernel_rfl) (hr : (Region.ready md l.toArray listed).contains i = true := by kernel_rfl)
    (hQ : ∀ c a w, Q (.panic c) (a.put oi.dst undef) w → Q (.panic c) a w := by exact fun _ _ _ h => h) (hS : S w := by assumption) (ha : a.put oi.dst undef = a' := by (try simp only [Act.put, List.setIfInBounds_toArray, List.set_cons_zero, List.set_cons_succ]) <;> rfl) : wpAnyH P md l.toArray Q S (fuel + 1) listed a w :=
  take_first i hi hs hf hr hQ (.inr ⟨hw, rfl⟩) hS (ha ▸ h)

theorem info_parts {e : TypeId} {z : Value} {s b : Nat} (h : (Try.prog.info? e).map (fun i => (i.zero, i.size, i.bytes)) = some (some z, s, b)) : ∃ i, Try.prog.info? e = some i ∧ i.zero = some z ∧ i.size = s ∧ i.bytes = b := by
  obtain ⟨i, hi, hz⟩ := Option.map_eq_some_iff.1 h
  simp only [Prod.mk.injEq] at hz
  exact ⟨i, hi, hz.1, hz.2.1, hz.2.2⟩

theorem bl_drewN {B : Nat} {w w' : World} (h : Below B w w') (q : Nat) : Below B w (w'.drewN q) := ⟨h.os, h.tape, h.output, h.size, h.block⟩
theorem bl_grown {B : Nat} {w a b : World} {row : Option Nat} (h : Below B w a) (hB : B ≤ a.heap.size) (g : a.grownBy b row) (hr : ∀ k, row = some k → B ≤ k) : Below B w b :=
  ⟨g.os.trans h.os, g.tape.trans h.tape, g.output.trans h.output, Nat.le_trans h.size g.size, fun k hk => (g.block k (by omega) (fun e => by have := hr k e.symm; omega)).trans (h.block k hk)⟩
theorem bl_step {w a b : World} (h : Below w.heap.size w a) (k : Below a.heap.size a b) : Below w.heap.size w b := h.trans (k.mono h.size)
theorem bl2 (w : World) (o1 o2 : Obj) : Below w.heap.size w ((w.alloc o1).alloc o2) := ((Below.refl _ _).alloc (Nat.le_refl _) _).alloc (by simp) _
theorem bl1 (w : World) (o1 : Obj) : Below w.heap.size w (w.alloc o1) := (Below.refl _ _).alloc (Nat.le_refl _) _

/-- Nothing of old has turned, and no draw was taken back. -/
structure Up (w w' : World) : Prop where
  bl : Below w.heap.size w w'
  dr : w.drawn ≤ w'.drawn
theorem Up.refl (w : World) : Up w w := ⟨Below.refl _ _, Nat.le_refl _⟩
theorem Up.trans {a b c : World} (h : Up a b) (k : Up b c) : Up a c := ⟨bl_step h.bl k.bl, Nat.le_trans h.dr k.dr⟩
theorem Up.alloc {a b : World} (h : Up a b) (o : Obj) : Up a (b.alloc o) := ⟨h.bl.alloc h.bl.size o, h.dr⟩
theorem Up.drewN {a b : World} (h : Up a b) (n : Nat) : Up a (b.drewN n) := ⟨bl_drewN h.bl n, Nat.le_trans h.dr (Nat.le_add_right _ _)⟩
theorem Up.drew {a b : World} (h : Up a b) : Up a b.drew := ⟨h.bl.drew, Nat.le_trans h.dr (Nat.le_add_right _ _)⟩
theorem Up.cell {a b : World} (h : Up a b) {ad : Addr} {v : Value} (hc : a.cell? ad = some v) : b.cell? ad = some v := (h.bl.cell (World.block_lt_of_cell? a _ hc)).trans hc
theorem Up.grow {w w' : World} (h : Up w w') : ∃ q os, w' = grow (w.drewN q) os := by
  refine ⟨w'.drawn - w.drawn, w'.heap.extract w.heap.size w'.heap.size, ?_⟩
  obtain ⟨hb, hd⟩ := h
  have he : w'.heap = w.heap ++ w'.heap.extract w.heap.size w'.heap.size := by
    apply Array.ext_getElem?
    intro i
    rw [Array.getElem?_append]
    split
    · rename_i hi; exact hb.block i hi
    · rename_i hi
      rw [Array.getElem?_extract]
      have hs := hb.size
      by_cases h2 : i < w'.heap.size
      · rw [if_pos (by simp; omega), show w.heap.size + (i - w.heap.size) = i by omega]
      · rw [if_neg (by simp; omega), Array.getElem?_eq_none (by omega)]
  have e1 := hb.os
  have e2 := hb.tape
  have e3 := hb.output
  cases w'
  cases w
  simp only [Sort.grow, World.drewN] at *
  simp only [World.mk.injEq]
  exact ⟨he, e2, by omega, e1, e3⟩
theorem cell_box (w : World) (c : Array Value) (t : TypeId) (j : Nat) (v : Value) (hj : c[j]? = some v) : (w.alloc (.cells c t)).cell? ⟨w.heap.size, j, none⟩ = some v := by
  have hb : (w.alloc (.cells c t)).heap[w.heap.size]? = some (.cells c t (0, 0)) := heap_alloc_new _ _
  unfold World.cell?; rw [hb]; simpa using hj
end Go.Proofs.Ythnbijnpbjfoaaa
/-
  Plain data: of which lists all are beginnings, and whether each item of it is the next one that its node told.
-/
namespace Go.Proofs.Ythnbijnpbjfoaaa
set_option linter.unusedVariables false

/-- What an item says: whom it is from, and its bytes. -/
abbrev Di := Int × List UInt8
abbrev By := List UInt8

def cnt (l : List Di) (f : Int) : Nat := l.countP (fun d => decide (d.1 = f))
theorem cnt_nil (f : Int) : cnt [] f = 0 := rfl
theorem cnt_snoc (l : List Di) (d : Di) (f : Int) : cnt (l ++ [d]) f = cnt l f + (if d.1 = f then 1 else 0) := by
  unfold cnt; rw [List.countP_append]; simp [List.countP_cons, List.countP_nil]
theorem take_snoc {α : Type} {l : List α} {k : Nat} {d : α} (h : l[k]? = some d) : l.take (k + 1) = l.take k ++ [d] := by
  rw [List.take_add_one, h]; rfl
theorem cnt_step {l : List Di} {k : Nat} {d : Di} (h : l[k]? = some d) (f : Int) : cnt (l.take (k + 1)) f = cnt (l.take k) f + (if d.1 = f then 1 else 0) := by
  rw [take_snoc h, cnt_snoc]
theorem cnt_le (l : List Di) (f : Int) (k : Nat) : cnt (l.take k) f ≤ k := Nat.le_trans List.countP_le_length (by simp; omega)

/-- The k-th item is the next one that its node told. -/
def Nxt (S : List Di) (acc : List (List By)) (k : Nat) (d : Di) : Prop := 0 ≤ d.1 ∧ ∃ own, acc[d.1.toNat]? = some own ∧ own[cnt (S.take k) d.1]? = some d.2
def Told (S : List Di) (acc : List (List By)) : Prop := ∀ k d, S[k]? = some d → Nxt S acc k d
/-- S is the one sequence. -/
def SeqOk (acc : List (List By)) (del : List (List Di)) (S : List Di) : Prop := (∀ l ∈ del, l <+: S) ∧ (S = [] ∨ S ∈ del) ∧ Told S acc
theorem SeqOk.unique {acc : List (List By)} {del : List (List Di)} {S S' : List Di} (h : SeqOk acc del S) (h' : SeqOk acc del S') : S = S' := by
  have a : S <+: S' := by rcases h.2.1 with e | e; · rw [e]; exact List.nil_prefix
                          · exact h'.1 S e
  have b : S' <+: S := by rcases h'.2.1 with e | e; · rw [e]; exact List.nil_prefix
                          · exact h.1 S' e
  exact a.eq_of_length (Nat.le_antisymm a.length_le b.length_le)
/-- The longest of a list's first ones. -/
def Lng (del : List (List Di)) (k : Nat) (S : List Di) : Prop := (S = [] ∨ S ∈ del) ∧ ∀ (j : Nat) l, j < k → del[j]? = some l → l.length ≤ S.length
theorem Lng.zero (del : List (List Di)) : Lng del 0 [] := ⟨.inl rfl, fun j l h => by omega⟩
theorem Lng.more {del : List (List Di)} {k : Nat} {S l : List Di} (h : Lng del k S) (hl : del[k]? = some l) (hg : S.length < l.length) : Lng del (k + 1) l :=
  ⟨.inr (List.mem_of_getElem? hl), fun j m hj hm => by
    by_cases e : j = k
    · subst e; rw [hl] at hm; cases hm; exact Nat.le_refl _
    · exact Nat.le_trans (h.2 j m (by omega) hm) (by omega)⟩
theorem Lng.less {del : List (List Di)} {k : Nat} {S l : List Di} (h : Lng del k S) (hl : del[k]? = some l) (hg : ¬ S.length < l.length) : Lng del (k + 1) S :=
  ⟨h.1, fun j m hj hm => by
    by_cases e : j = k
    · subst e; rw [hl] at hm; cases hm; omega
    · exact h.2 j m (by omega) hm⟩
/-- If there is a sequence at all, it is the longest. -/
theorem Lng.is {acc : List (List By)} {del : List (List Di)} {S T : List Di} (h : Lng del del.length S) (hT : SeqOk acc del T) : T = S := by
  have b : S <+: T := by rcases h.1 with e | e; · rw [e]; exact List.nil_prefix
                         · exact hT.1 S e
  rcases hT.2.1 with e | e
  · subst e; exact (List.prefix_nil.1 b).symm
  · obtain ⟨j, hj, hm⟩ := List.mem_iff_getElem.1 e
    have := h.2 j T hj (by rw [List.getElem?_eq_getElem hj, hm])
    exact (b.eq_of_length (Nat.le_antisymm b.length_le this)).symm
theorem Lng.ok {acc : List (List By)} {del : List (List Di)} {S : List Di} (h : Lng del del.length S) (hp : ∀ l ∈ del, l <+: S) (ht : Told S acc) : SeqOk acc del S := ⟨hp, h.1, ht⟩
theorem no_prefix {acc : List (List By)} {del : List (List Di)} {S l : List Di} (h : Lng del del.length S) (hl : l ∈ del) (hn : l ≠ S.take l.length) : ¬ ∃ T, SeqOk acc del T := by
  rintro ⟨T, hT⟩
  have := h.is hT
  subst this
  exact hn (List.prefix_iff_eq_take.1 (hT.1 l hl))
theorem no_told {acc : List (List By)} {del : List (List Di)} {S : List Di} (h : Lng del del.length S) (hn : ¬ Told S acc) : ¬ ∃ T, SeqOk acc del T := by
  rintro ⟨T, hT⟩
  have := h.is hT
  subst this
  exact hn hT.2.2
theorem not_told {S : List Di} {acc : List (List By)} {k : Nat} {d : Di} (h : S[k]? = some d) (hn : ¬ Nxt S acc k d) : ¬ Told S acc := fun ht => hn (ht k d h)

/-- What was seen so far makes one list. -/
def One (del : List (List Di)) (k : Nat) (S : List Di) : Prop := (S = [] ∨ S ∈ del) ∧ ∀ (j : Nat) l, j < k → del[j]? = some l → l <+: S
theorem One.zero (del : List (List Di)) : One del 0 [] := ⟨.inl rfl, fun j l h => by omega⟩
theorem One.lng {del : List (List Di)} {k : Nat} {S : List Di} (h : One del k S) : Lng del k S := ⟨h.1, fun j l hj hl => (h.2 j l hj hl).length_le⟩
/-- In the midst of list l: S is what S was, or l's first k. -/
def OneIn (S0 l : List Di) (k : Nat) (S : List Di) : Prop := l.take k <+: S ∧ (S = S0 ∨ S0.length < k ∧ S0 <+: S ∧ S = l.take k)
theorem OneIn.zero (S0 l : List Di) : OneIn S0 l 0 S0 := ⟨by simp, .inl rfl⟩
theorem OneIn.grow {S0 l S : List Di} {k : Nat} {d : Di} (h : OneIn S0 l k S) (hd : l[k]? = some d) (hk : S.length = k) : OneIn S0 l (k + 1) (S ++ [d]) := by
  have hkl := (List.getElem?_eq_some_iff.1 hd).1
  have e : l.take k = S := by
    have := h.1
    exact this.eq_of_length (by rw [List.length_take, hk]; omega)
  refine ⟨by rw [take_snoc hd, e]; exact List.prefix_refl _, .inr ?_⟩
  rcases h.2 with h2 | ⟨h2, h3, h4⟩
  · subst h2; exact ⟨by omega, List.prefix_append _ _, by rw [take_snoc hd, e]⟩
  · exact ⟨by omega, h3.trans (List.prefix_append _ _), by rw [take_snoc hd, e]⟩
theorem OneIn.same {S0 l S : List Di} {k : Nat} {d : Di} (h : OneIn S0 l k S) (hd : l[k]? = some d) (hs : S[k]? = some d) : OneIn S0 l (k + 1) S := by
  have hks := (List.getElem?_eq_some_iff.1 hs).1
  have hkl := (List.getElem?_eq_some_iff.1 hd).1
  have e : l.take k = S.take k := by
    have := List.prefix_iff_eq_take.1 h.1
    rw [List.length_take, Nat.min_eq_left (by omega)] at this
    exact this
  refine ⟨?_, ?_⟩
  · rw [take_snoc hd, e, ← take_snoc hs]; exact List.take_prefix _ _
  · rcases h.2 with h2 | ⟨h2, h3, h4⟩
    · exact .inl h2
    · have : S.length ≤ k := by rw [h4]; simp; omega
      omega
theorem OneIn.len {S0 l S : List Di} {k : Nat} (h : OneIn S0 l k S) (hk : k < l.length) : k ≤ S.length := by
  have := h.1.length_le
  rw [List.length_take] at this
  omega
theorem OneIn.done {del : List (List Di)} {i : Nat} {S0 l S : List Di} (h0 : One del i S0) (hl : del[i]? = some l) (h : OneIn S0 l l.length S) : One del (i + 1) S := by
  rw [OneIn, List.take_length] at h
  have hS0 : S0 <+: S := by
    rcases h.2 with h2 | ⟨_, h3, _⟩
    · rw [h2]; exact List.prefix_refl _
    · exact h3
  refine ⟨?_, fun j m hj hm => ?_⟩
  · rcases h.2 with h2 | ⟨_, _, h4⟩
    · rw [h2]; exact h0.1
    · rw [h4]; exact .inr (List.mem_of_getElem? hl)
  · by_cases e : j = i
    · subst e; rw [hl] at hm; cases hm; exact h.1
    · exact (h0.2 j m (by omega) hm).trans hS0
theorem OneIn.done' {del : List (List Di)} {i n : Nat} {S0 l S : List Di} (h : OneIn S0 l n S) (h0 : One del i S0) (hl : del[i]? = some l) (hn : l.length = n) : One del (i + 1) S := by
  subst hn
  exact OneIn.done h0 hl h
theorem One.le {del : List (List Di)} {i N : Nat} {S : List Di} (h : One del i S) (hs : ∀ l ∈ del, l.length ≤ N) : S.length ≤ N := by
  rcases h.1 with e | e
  · rw [e]; simp
  · exact hs S e
theorem OneIn.le {S0 l S : List Di} {k N : Nat} (h : OneIn S0 l k S) (h0 : S0.length ≤ N) (hl : l.length ≤ N) : S.length ≤ N := by
  rcases h.2 with e | ⟨_, _, e⟩
  · rw [e]; exact h0
  · rw [e]; simp; omega
/-- Two that part at one place are no beginnings of one. -/
theorem parts_no {acc : List (List By)} {del : List (List Di)} {i k : Nat} {S0 l S : List Di} {d d' : Di} (h0 : One del i S0) (hl : del[i]? = some l) (h : OneIn S0 l k S) (hd : l[k]? = some d) (hs : S[k]? = some d') (hn : d' ≠ d) : ¬ ∃ T, SeqOk acc del T := by
  rintro ⟨T, hT⟩
  have hks := (List.getElem?_eq_some_iff.1 hs).1
  have hlT := hT.1 l (List.mem_of_getElem? hl)
  have hST : S <+: T := by
    rcases h.2 with h2 | ⟨_, _, h4⟩
    · subst h2
      rcases h0.1 with e | e
      · subst e; simp at hks
      · exact hT.1 _ e
    · have : S.length ≤ k := by rw [h4]; simp; omega
      omega
  have a : T[k]? = some d := by
    obtain ⟨t, rfl⟩ := hlT
    rw [List.getElem?_append_left (List.getElem?_eq_some_iff.1 hd).1]; exact hd
  have b : T[k]? = some d' := by
    obtain ⟨t, rfl⟩ := hST
    rw [List.getElem?_append_left hks]; exact hs
  rw [a] at b
  cases b
  exact hn rfl

/-- No node's are counted beyond what it told. -/
theorem cnt_own {S : List Di} {acc : List (List By)} {f : Nat} {own : List By} (ho : acc[f]? = some own) : ∀ k, k ≤ S.length → (∀ j d, j < k → S[j]? = some d → Nxt S acc j d) → cnt (S.take k) (f : Int) ≤ own.length
  | 0, _, _ => by simp [cnt]
  | k + 1, hk, h => by
    obtain ⟨d, hd⟩ : ∃ d, S[k]? = some d := ⟨S[k]'(by omega), List.getElem?_eq_getElem (by omega)⟩
    have ih := cnt_own ho k (by omega) (fun j d hj => h j d (by omega))
    rw [cnt_step hd]
    split
    · rename_i e
      obtain ⟨_, own', a, b⟩ := h k d (by omega) hd
      rw [e] at a b
      rw [Int.toNat_natCast, ho] at a
      cases a
      have := (List.getElem?_eq_some_iff.1 b).1
      omega
    · exact ih

/-- The document's second and third look: each is of somebody; each one's are in their order. -/
def Rng (S : List Di) (m : Nat) (k : Nat) : Prop := ∀ j d, j < k → S[j]? = some d → 0 ≤ d.1 ∧ d.1 < m
def Ord1 (S : List Di) (acc : List (List By)) (i k : Nat) : Prop := ∀ j d, j < k → S[j]? = some d → d.1 = (i : Int) → ∃ own, acc[i]? = some own ∧ own[cnt (S.take j) i]? = some d.2
theorem told_of {S : List Di} {acc : List (List By)} (hr : Rng S acc.length S.length) (ho : ∀ i, i < acc.length → Ord1 S acc i S.length) : Told S acc := by
  intro k d hd
  have hk := (List.getElem?_eq_some_iff.1 hd).1
  obtain ⟨h0, h1⟩ := hr k d hk hd
  obtain ⟨own, a, b⟩ := ho d.1.toNat (by omega) k d hk hd (by omega)
  have e : ((d.1.toNat : Nat) : Int) = d.1 := by omega
  rw [e] at b
  exact ⟨h0, own, a, b⟩
theorem not_rng {S : List Di} {acc : List (List By)} {k : Nat} {d : Di} (h : S[k]? = some d) (hn : ¬ (0 ≤ d.1 ∧ d.1 < acc.length)) : ¬ Told S acc := fun ht => by
  obtain ⟨h0, own, a, _⟩ := ht k d h
  have := (List.getElem?_eq_some_iff.1 a).1
  exact hn ⟨h0, by omega⟩
theorem not_ord {S : List Di} {acc : List (List By)} {k i : Nat} {d : Di} {own : List By} (h : S[k]? = some d) (hi : d.1 = (i : Int)) (ho : acc[i]? = some own) (hn : own[cnt (S.take k) i]? ≠ some d.2) : ¬ Told S acc := fun ht => by
  obtain ⟨h0, own', a, b⟩ := ht k d h
  rw [hi] at a b
  rw [Int.toNat_natCast, ho] at a
  cases a
  exact hn b
theorem Rng.zero (S : List Di) (m : Nat) : Rng S m 0 := fun j d hj => by omega
theorem Rng.more {S : List Di} {m k : Nat} {d : Di} (h : Rng S m k) (hd : S[k]? = some d) (h0 : 0 ≤ d.1) (h1 : d.1 < m) : Rng S m (k + 1) := fun j e hj he => by
  by_cases x : j = k
  · subst x; rw [hd] at he; cases he; exact ⟨h0, h1⟩
  · exact h j e (by omega) he
theorem Ord1.zero (S : List Di) (acc : List (List By)) (i : Nat) : Ord1 S acc i 0 := fun j d hj => by omega
theorem Ord1.skip {S : List Di} {acc : List (List By)} {i k : Nat} {d : Di} (h : Ord1 S acc i k) (hd : S[k]? = some d) (hn : d.1 ≠ (i : Int)) : Ord1 S acc i (k + 1) := fun j e hj he hi => by
  by_cases x : j = k
  · subst x; rw [hd] at he; cases he; exact absurd hi hn
  · exact h j e (by omega) he hi
theorem Ord1.more {S : List Di} {acc : List (List By)} {i k c : Nat} {d : Di} {own : List By} (h : Ord1 S acc i k) (hd : S[k]? = some d) (ho : acc[i]? = some own) (hc : cnt (S.take k) i = c) (hv : own[c]? = some d.2) : Ord1 S acc i (k + 1) := fun j e hj he hi => by
  by_cases x : j = k
  · subst x; rw [hd] at he; cases he; exact ⟨own, ho, by rw [hc]; exact hv⟩
  · exact h j e (by omega) he hi
theorem cnt_skip {l : List Di} {k c : Nat} {d : Di} {f : Int} (h : l[k]? = some d) (hc : cnt (l.take k) f = c) (hn : d.1 ≠ f) : cnt (l.take (k + 1)) f = c := by rw [cnt_step h, hc, if_neg hn]; rfl
theorem cnt_more {l : List Di} {k c : Nat} {d : Di} {f : Int} (h : l[k]? = some d) (hc : cnt (l.take k) f = c) (hn : d.1 = f) : cnt (l.take (k + 1)) f = c + 1 := by rw [cnt_step h, hc, if_pos hn]
end Go.Proofs.Ythnbijnpbjfoaaa
/-
  Items and their bytes as they lie in memory, and copies of them (slices.Clone, bytes.Clone).
-/
namespace Go.Proofs.Ythnbijnpbjfoaaa
open Go.RowKit Go.Sort
set_option linter.unusedVariables false

theorem gr_refl (w : World) (r : Option Nat) : w.grownBy w r := ⟨rfl, rfl, rfl, Nat.le_refl _, fun _ _ _ => rfl⟩
theorem gr_trans {a b c : World} {r : Option Nat} (h : a.grownBy b r) (k : b.grownBy c r) : a.grownBy c r :=
  ⟨k.os.trans h.os, k.tape.trans h.tape, k.output.trans h.output, Nat.le_trans h.size k.size, fun i hi hne => (k.block i (Nat.lt_of_lt_of_le hi h.size) hne).trans (h.block i hi hne)⟩
theorem gr_below {a b : World} (h : Below a.heap.size a b) (r : Option Nat) : a.grownBy b r := ⟨h.os, h.tape, h.output, h.size, fun i hi _ => h.block i hi⟩
theorem gr_setRow (w : World) (g : Nat) (cs : Array Value) : w.grownBy (w.setRow g cs) (some g) := ⟨rfl, rfl, rfl, by simp, fun i hi hne => setRow_other _ _ _ _ (fun e => hne (by rw [e]))⟩

/-- An item: whom it is from, and where its bytes lie. -/
abbrev Ix := Int × Option Addr × Nat × Nat
/-- What is read in blocks of a kind is read as before. -/
def Kp (p : Nat → Prop) (w w' : World) : Prop := ∀ ad v, p ad.block → w.cell? ad = some v → w'.cell? ad = some v
theorem Kp.below {p : Nat → Prop} {w w' : World} {B : Nat} (h : Below B w w') (hp : ∀ b, p b → b < B) : Kp p w w' := fun ad v hb hc => (h.cell (hp _ hb)).trans hc
theorem Kp.up {p : Nat → Prop} {w w' : World} (h : Below w.heap.size w w') : Kp p w w' := fun ad v hb hc => (h.cell (World.block_lt_of_cell? w _ hc)).trans hc
theorem Kp.grown {p : Nat → Prop} {w w' : World} {g : Nat} (h : w.grownBy w' (some g)) (hp : ∀ b, p b → b ≠ g) : Kp p w w' := fun ad v hb hc => h.cell hc (by simpa using hp _ hb)
theorem Kp.trans {p : Nat → Prop} {a b c : World} (h : Kp p a b) (k : Kp p b c) : Kp p a c := fun ad v hb hc => k ad v hb (h ad v hb hc)
theorem Kp.imp {p q : Nat → Prop} {a b : World} (h : Kp q a b) (hpq : ∀ n, p n → q n) : Kp p a b := fun ad v hb hc => h ad v (hpq _ hb) hc

/-- Bytes that lie in memory. -/
def Rw (p : Nat → Prop) (w : World) (ao : Option Addr) (n : Nat) (xs : List UInt8) : Prop :=
  xs.length = n ∧ n ≤ 140737488355328 ∧ (ao = none → n = 0) ∧ (0 < n → ∃ b off, ao = some ⟨b, off, none⟩ ∧ p b ∧ ∀ j x, xs[j]? = some x → w.cell? ⟨b, off + j, none⟩ = some (.int .u8 (x.toNat : Int)))
theorem Rw.keep {p : Nat → Prop} {w w' : World} {ao : Option Addr} {n : Nat} {xs : List UInt8} (h : Rw p w ao n xs) (k : Kp p w w') : Rw p w' ao n xs := by
  obtain ⟨h1, h2, h3, h4⟩ := h
  refine ⟨h1, h2, h3, fun h0 => ?_⟩
  obtain ⟨b, off, e, hp, hc⟩ := h4 h0
  exact ⟨b, off, e, hp, fun j x hj => k _ _ hp (hc j x hj)⟩
theorem Rw.imp {p q : Nat → Prop} {w : World} {ao : Option Addr} {n : Nat} {xs : List UInt8} (h : Rw p w ao n xs) (k : ∀ b, b < w.heap.size → p b → q b) : Rw q w ao n xs := by
  obtain ⟨h1, h2, h3, h4⟩ := h
  refine ⟨h1, h2, h3, fun h0 => ?_⟩
  obtain ⟨b, off, e, hp, hc⟩ := h4 h0
  refine ⟨b, off, e, k b ?_ hp, hc⟩
  have := hc 0 xs[0] (List.getElem?_eq_getElem (by omega))
  exact World.block_lt_of_cell? w _ this
/-- Items that lie in memory. -/
def IR (p : Nat → Prop) (w : World) (ao : Option Addr) (n : Nat) (xs : List Ix) : Prop :=
  xs.length = n ∧ n ≤ 4398046511104 ∧ (ao = none → n = 0) ∧ (0 < n → ∃ b off, ao = some ⟨b, off, none⟩ ∧ p b ∧ ∀ j x, xs[j]? = some x → w.cell? ⟨b, off + j * 2, none⟩ = some (.int .i64 x.1) ∧ w.cell? ⟨b, off + j * 2 + 1, none⟩ = some (.slice x.2.1 x.2.2.1 x.2.2.2))
theorem IR.keep {p : Nat → Prop} {w w' : World} {ao : Option Addr} {n : Nat} {xs : List Ix} (h : IR p w ao n xs) (k : Kp p w w') : IR p w' ao n xs := by
  obtain ⟨h1, h2, h3, h4⟩ := h
  refine ⟨h1, h2, h3, fun h0 => ?_⟩
  obtain ⟨b, off, e, hp, hc⟩ := h4 h0
  exact ⟨b, off, e, hp, fun j x hj => ⟨k _ _ hp (hc j x hj).1, k _ _ hp (hc j x hj).2⟩⟩
theorem IR.imp {p q : Nat → Prop} {w : World} {ao : Option Addr} {n : Nat} {xs : List Ix} (h : IR p w ao n xs) (k : ∀ b, b < w.heap.size → p b → q b) : IR q w ao n xs := by
  obtain ⟨h1, h2, h3, h4⟩ := h
  refine ⟨h1, h2, h3, fun h0 => ?_⟩
  obtain ⟨b, off, e, hp, hc⟩ := h4 h0
  refine ⟨b, off, e, k b ?_ hp, hc⟩
  have := (hc 0 xs[0] (List.getElem?_eq_getElem (by omega))).1
  exact World.block_lt_of_cell? w _ this
def It (p : Nat → Prop) (w : World) (x : Ix) (d : Di) : Prop := x.1 = d.1 ∧ Rw p w x.2.1 x.2.2.1 d.2
theorem It.keep {p : Nat → Prop} {w w' : World} {x : Ix} {d : Di} (h : It p w x d) (k : Kp p w w') : It p w' x d := ⟨h.1, h.2.keep k⟩
theorem It.imp {p q : Nat → Prop} {w : World} {x : Ix} {d : Di} (h : It p w x d) (k : ∀ b, b < w.heap.size → p b → q b) : It q w x d := ⟨h.1, h.2.imp k⟩
/-- Items that lie in memory, and what they say. -/
def Its (p : Nat → Prop) (w : World) (ao : Option Addr) (n : Nat) (ds : List Di) : Prop := ∃ xs, IR p w ao n xs ∧ ds.length = n ∧ ∀ (j : Nat) (x : Ix) (d : Di), xs[j]? = some x → ds[j]? = some d → It p w x d
theorem Its.keep {p : Nat → Prop} {w w' : World} {ao : Option Addr} {n : Nat} {ds : List Di} (h : Its p w ao n ds) (k : Kp p w w') : Its p w' ao n ds := by
  obtain ⟨xs, h1, h2, h3⟩ := h
  exact ⟨xs, h1.keep k, h2, fun j x d hx hd => (h3 j x d hx hd).keep k⟩
theorem Its.imp {p q : Nat → Prop} {w : World} {ao : Option Addr} {n : Nat} {ds : List Di} (h : Its p w ao n ds) (k : ∀ b, b < w.heap.size → p b → q b) : Its q w ao n ds := by
  obtain ⟨xs, h1, h2, h3⟩ := h
  exact ⟨xs, h1.imp k, h2, fun j x d hx hd => (h3 j x d hx hd).imp k⟩
theorem Its.len {p : Nat → Prop} {w : World} {ao : Option Addr} {n : Nat} {ds : List Di} (h : Its p w ao n ds) : ds.length = n := by obtain ⟨xs, _, h2, _⟩ := h; exact h2

theorem own_cell {w : World} {B e size n g cap : Nat} {vs : List Value} (h : w.ownsRow B e size (.slice (some ⟨g, 0, none⟩) n cap) n vs) : ∀ j u, vs[j]? = some u → w.cell? ⟨g, j, none⟩ = some u := by
  intro j u hj
  rcases h.2 with ⟨h0, _⟩ | ⟨g', cap', cur, h0, a, b, c, d, e', f⟩
  · cases h0
  · simp only [Value.slice.injEq, Option.some.injEq, Addr.mk.injEq] at h0
    obtain ⟨⟨rfl, _, _⟩, _, rfl⟩ := h0
    unfold World.cell?
    rw [b]
    have : cur.toList[j]? = some u := by
      rw [← f, List.getElem?_take] at hj
      split at hj
      · exact hj
      · cases hj
    simpa using this
theorem own_shape {w : World} {B e size n : Nat} {v : Value} {vs : List Value} (h : w.ownsRow B e size v n vs) : v = .slice none 0 0 ∧ n = 0 ∨ ∃ g cap, v = .slice (some ⟨g, 0, none⟩) n cap ∧ B ≤ g ∧ g < w.heap.size := by
  rcases h.2 with ⟨rfl, rfl⟩ | ⟨g, cap, cur, rfl, a, b, _⟩
  · exact .inl ⟨rfl, rfl⟩
  · exact .inr ⟨g, cap, rfl, a, (Array.getElem?_eq_some_iff.1 b).1⟩

def cellB (xs : List UInt8) : List Value := xs.map (fun x => Value.int .u8 (x.toNat : Int))
theorem infoB : (Try.prog.info? 5).map (fun i => (i.zero, i.size, i.bytes)) = some (some (.int .u8 0), 1, 1) := by kernel_rfl
theorem und30 : Try.prog.underlying 30 = some (.slice 5) := by kernel_rfl
theorem und25 : Try.prog.underlying 25 = some (.slice 34) := by kernel_rfl
theorem Rw.cells {p : Nat → Prop} {w : World} {a : Addr} {n : Nat} {xs : List UInt8} (h : Rw p w (some a) n xs) : ∀ j u, (cellB xs)[j]? = some u → w.cell? (a.add j) = some u := by
  intro j u hj
  obtain ⟨h1, h2, h3, h4⟩ := h
  unfold cellB at hj
  rw [List.getElem?_map] at hj
  obtain ⟨x, hx, rfl⟩ := Option.map_eq_some_iff.1 hj
  have := (List.getElem?_eq_some_iff.1 hx).1
  obtain ⟨b, off, e, hp, hc⟩ := h4 (by omega)
  cases e
  rw [Addr.add_lit]
  exact hc j x hx
theorem Rw.own {w : World} {B n : Nat} {v : Value} {xs : List UInt8} (h : w.ownsRow B 5 1 v n (cellB xs)) (hm : n ≤ 140737488355328) : ∃ ao cap, v = .slice ao n cap ∧ Rw (fun b => B ≤ b) w ao n xs := by
  have hl : xs.length = n := by have := h.1; simp [cellB] at this; omega
  rcases own_shape h with ⟨rfl, rfl⟩ | ⟨g, cap, rfl, hg, _⟩
  · exact ⟨none, 0, rfl, hl, by omega, fun _ => rfl, fun h => by omega⟩
  · refine ⟨some ⟨g, 0, none⟩, cap, rfl, hl, hm, fun e => (by cases e), fun _ => ⟨g, 0, rfl, hg, fun j x hj => ?_⟩⟩
    rw [Nat.zero_add]
    refine own_cell h j _ ?_
    unfold cellB
    rw [List.getElem?_map, hj]
    rfl

set_option maxRecDepth 10000 in
set_option maxHeartbeats 1000000 in
theorem cloneB_any (p : Nat → Prop) (w : World) (ao : Option Addr) (n cap : Nat) (xs : List UInt8) (h : Rw p w ao n xs) :
    Calls Try.prog 34 #[.slice ao n cap] w fun e w' => ∃ ao' cap', e = .returned (.slice ao' n cap') ∧ Rw (fun b => w.heap.size ≤ b) w' ao' n xs ∧ Below w.heap.size w w' := by
  obtain ⟨i0, hi0, hz0, hz1, hz2⟩ := info_parts infoB
  have q30 := fun (w : World) (a : Option Addr) (n c n' c' : Nat) => Lib.run_eql_slice_nil (P := Try.prog) w 30 5 a n c n' c' und30
  have hl := h.1
  have hm := h.2.1
  cases ao with
  | none =>
    obtain rfl := h.2.2.1 rfl
    obtain rfl : xs = [] := List.length_eq_zero_iff.1 hl
    clear h
    go_enter Try.func34, Try.ntmps34
    go_wp2
    go_ret
    exact ⟨none, 0, rfl, ⟨rfl, by omega, fun _ => rfl, fun h => by omega⟩, Below.refl _ _⟩
  | some ad =>
    have hA : Hid (∀ j u, (cellB xs)[j]? = some u → w.cell? (ad.add j) = some u) := h.cells
    have HF : Hid ((cellB xs).length = n * 1) := by show _ = _; simp [cellB, hl]
    have HO : Hid (∀ u ∈ cellB xs, u.oneCell' = true) := fun u hu => by
      obtain ⟨x, _, rfl⟩ := List.mem_map.1 hu
      rfl
    clear h
    go_enter Try.func34, Try.ntmps34
    go_wp2_with (at_builtin; refine wpList_append_own_at _ rfl _ _ 30 rfl w.heap.size 5 i0 (.int .u8 0) 1 1 und30 hi0 hz0 hz1 hz2 rfl (by decide) _ 0 [] rfl ?d1 ad n cap (cellB xs) rfl ?d2 ?d3 ?d4 ?d6 ?d7 ?d8 ?_)
    case d1 => exact World.ownsRow_made w #[] 0 (Nat.le_refl _) (Nat.zero_le _) (by simp)
    case d2 => exact HF.out
    case d3 => exact fun j u hj => ((bl1 w _).cell (World.block_lt_of_cell? w _ (hA.out j u hj))).trans (hA.out j u hj)
    case d4 => exact HO.out
    case d6 => unfold maxLen; omega
    case d7 => omega
    case d8 => simp
    intro v' w1 hown hgrow hnil hat
    obtain ⟨ao', cap', rfl, hr⟩ := Rw.own (xs := xs) (B := w.heap.size) (n := n) (v := v') (w := w1) (by simpa using hown) hm
    have HE : Hid (Rw (fun b => w.heap.size ≤ b) w1 ao' n xs ∧ Below w.heap.size w w1) := ⟨hr, bl_grown (bl1 w _) (by simp) hgrow (by intro k hk; simp [Value.ownBlock] at hk; omega)⟩
    clear hown hgrow hnil hat hr
    go_wp2
    go_ret
    exact ⟨ao', cap', rfl, HE.out⟩

def cellI (xs : List Ix) : List Value := xs.flatMap (fun x => [.int .i64 x.1, .slice x.2.1 x.2.2.1 x.2.2.2])
theorem cellI_len (xs : List Ix) : (cellI xs).length = xs.length * 2 := by
  induction xs with
  | nil => rfl
  | cons a r ih => simp [cellI] at ih ⊢; omega
theorem cellI_get : ∀ (xs : List Ix) (j : Nat) (x : Ix) (i : Nat), xs[j]? = some x → i < 2 → (cellI xs)[2 * j + i]? = [Value.int .i64 x.1, .slice x.2.1 x.2.2.1 x.2.2.2][i]?
  | [], j, x, i, h, hi => by simp at h
  | a :: r, 0, x, i, h, hi => by
    simp at h; subst h
    rw [show cellI (a :: r) = [Value.int .i64 a.1, .slice a.2.1 a.2.2.1 a.2.2.2] ++ cellI r from rfl, List.getElem?_append_left (by simp; omega)]; simp
  | a :: r, j + 1, x, i, h, hi => by
    rw [show cellI (a :: r) = [Value.int .i64 a.1, .slice a.2.1 a.2.2.1 a.2.2.2] ++ cellI r from rfl, List.getElem?_append_right (by simp; omega), show 2 * (j + 1) + i - [Value.int .i64 a.1, Value.slice a.2.1 a.2.2.1 a.2.2.2].length = 2 * j + i by simp; omega]
    exact cellI_get r j x i (by simpa using h) hi
theorem cellI_one {xs : List Ix} {u : Value} (h : u ∈ cellI xs) : u.oneCell' = true := by
  obtain ⟨x, _, hx⟩ := List.mem_flatMap.1 h
  simp at hx
  rcases hx with rfl | rfl <;> rfl
theorem infoI : (Try.prog.info? 34).map (fun i => (i.zero, i.size, i.bytes)) = some (some (.agg #[.int .i64 0, .slice none 0 0]), 2, 32) := by kernel_rfl
theorem IR.cells {p : Nat → Prop} {w : World} {a : Addr} {n : Nat} {xs : List Ix} (h : IR p w (some a) n xs) : ∀ j u, (cellI xs)[j]? = some u → w.cell? (a.add j) = some u := by
  intro j u hj
  obtain ⟨h1, h2, h3, h4⟩ := h
  have hjl : j < xs.length * 2 := by
    have := (List.getElem?_eq_some_iff.1 hj).1
    rwa [cellI_len] at this
  obtain ⟨b, off, e, hp, hc⟩ := h4 (by omega)
  cases e
  rw [Addr.add_lit]
  obtain ⟨x, hx⟩ : ∃ x, xs[j / 2]? = some x := ⟨xs[j / 2]'(by omega), List.getElem?_eq_getElem (by omega)⟩
  have hf := cellI_get xs (j / 2) x (j % 2) hx (by omega)
  rw [show 2 * (j / 2) + j % 2 = j by omega, hj] at hf
  obtain ⟨c0, c1⟩ := hc _ x hx
  have hm : j % 2 = 0 ∨ j % 2 = 1 := by omega
  rcases hm with e | e
  · rw [e] at hf; simp at hf; rw [hf, show off + j = off + j / 2 * 2 by omega]; exact c0
  · rw [e] at hf; simp at hf; rw [hf, show off + j = off + j / 2 * 2 + 1 by omega]; exact c1
theorem IR.own {w : World} {B n : Nat} {v : Value} {xs : List Ix} (h : w.ownsRow B 34 2 v n (cellI xs)) (hm : n ≤ 4398046511104) : (v = .slice none 0 0 ∧ n = 0) ∨ ∃ g cap, v = .slice (some ⟨g, 0, none⟩) n cap ∧ B ≤ g ∧ g < w.heap.size ∧ (∀ i, w.frozen? ⟨g, i, none⟩ = false) ∧ IR (fun b => b = g) w (some ⟨g, 0, none⟩) n xs := by
  have hl : xs.length = n := by have := h.1; rw [cellI_len] at this; omega
  rcases own_shape h with ⟨rfl, rfl⟩ | ⟨g, cap, rfl, hg, hg2⟩
  · exact .inl ⟨rfl, rfl⟩
  · refine .inr ⟨g, cap, rfl, hg, hg2, fun i => ?_, hl, hm, fun e => (by cases e), fun _ => ⟨g, 0, rfl, rfl, fun j x hj => ⟨?_, ?_⟩⟩⟩
    · rcases h.2 with ⟨h0, _⟩ | ⟨g', cap', cur, h0, a, b, _⟩
      · cases h0
      · simp only [Value.slice.injEq, Option.some.injEq, Addr.mk.injEq] at h0
        obtain ⟨⟨rfl, _, _⟩, _, rfl⟩ := h0
        simp [World.frozen?, b]
    · rw [Nat.zero_add]
      refine own_cell h _ _ ?_
      have := cellI_get xs j x 0 hj (by omega)
      rw [show 2 * j + 0 = j * 2 by omega] at this
      exact this
    · rw [Nat.zero_add]
      refine own_cell h _ _ ?_
      have := cellI_get xs j x 1 hj (by omega)
      rw [show 2 * j + 1 = j * 2 + 1 by omega] at this
      exact this

set_option maxRecDepth 10000 in
set_option maxHeartbeats 1000000 in
theorem cloneI_any (p : Nat → Prop) (w : World) (ao : Option Addr) (n cap : Nat) (xs : List Ix) (h : IR p w ao n xs) :
    Calls Try.prog 33 #[.slice ao n cap] w fun e w' => (∃ v, e = .returned v ∧ ((v = .slice none 0 0 ∧ n = 0) ∨ ∃ g cap', v = .slice (some ⟨g, 0, none⟩) n cap' ∧ w.heap.size ≤ g ∧ g < w'.heap.size ∧ (∀ i, w'.frozen? ⟨g, i, none⟩ = false) ∧ IR (fun b => b = g) w' (some ⟨g, 0, none⟩) n xs)) ∧ Below w.heap.size w w' := by
  obtain ⟨i0, hi0, hz0, hz1, hz2⟩ := info_parts infoI
  have q25 := fun (w : World) (a : Option Addr) (n c n' c' : Nat) => Lib.run_eql_slice_nil (P := Try.prog) w 25 34 a n c n' c' und25
  have hl := h.1
  have hm := h.2.1
  cases ao with
  | none =>
    obtain rfl := h.2.2.1 rfl
    clear h
    go_enter Try.func33, Try.ntmps33
    go_wp2
    go_ret
    exact ⟨⟨_, rfl, .inl (by simp)⟩, Below.refl _ _⟩
  | some ad =>
    have hA : Hid (∀ j u, (cellI xs)[j]? = some u → w.cell? (ad.add j) = some u) := h.cells
    have HF : Hid ((cellI xs).length = n * 2) := by show _ = _; rw [cellI_len, hl]
    clear h
    go_enter Try.func33, Try.ntmps33
    go_wp2_with (at_builtin; refine wpList_append_own_at _ rfl _ _ 25 rfl w.heap.size 34 i0 (.agg #[.int .i64 0, .slice none 0 0]) 2 32 und25 hi0 hz0 hz1 hz2 rfl (by decide) _ 0 [] rfl ?d1 ad n cap (cellI xs) rfl ?d2 ?d3 ?d4 ?d6 ?d7 ?d8 ?_)
    case d1 => exact World.ownsRow_made w #[] 0 (Nat.le_refl _) (Nat.zero_le _) (by simp)
    case d2 => exact HF.out
    case d3 => exact fun j u hj => ((bl1 w _).cell (World.block_lt_of_cell? w _ (hA.out j u hj))).trans (hA.out j u hj)
    case d4 => exact fun u hu => cellI_one hu
    case d6 => unfold maxLen; omega
    case d7 => omega
    case d8 => simp
    intro v' w1 hown hgrow hnil hat
    have hr := IR.own (xs := xs) (B := w.heap.size) (n := n) (v := v') (w := w1) (by simpa using hown) hm
    have HE : Hid (((v' = .slice none 0 0 ∧ n = 0) ∨ ∃ g cap', v' = .slice (some ⟨g, 0, none⟩) n cap' ∧ w.heap.size ≤ g ∧ g < w1.heap.size ∧ (∀ i, w1.frozen? ⟨g, i, none⟩ = false) ∧ IR (fun b => b = g) w1 (some ⟨g, 0, none⟩) n xs) ∧ Below w.heap.size w w1) := ⟨hr, bl_grown (bl1 w _) (by simp) hgrow (by intro k hk; simp [Value.ownBlock] at hk; omega)⟩
    clear hown hgrow hnil hat hr
    go_wp2
    go_ret
    exact ⟨⟨v', rfl, HE.out.1⟩, HE.out.2⟩
end Go.Proofs.Ythnbijnpbjfoaaa
/-
  judge's copied: the same items in memory of their own.
-/
namespace Go.Proofs.Ythnbijnpbjfoaaa
open Go.RowKit Go.Sort
set_option linter.unusedVariables false

theorem setCell_other' {w : World} {g i : Nat} {v : Value} {ad : Addr} {u : Value} (h : ad ≠ ⟨g, i, none⟩) (hc : w.cell? ad = some u) : (w.setCell ⟨g, i, none⟩ v).cell? ad = some u := by
  rw [World.cell?_setCell_other _ _ _ _ (fun e => h e.symm)]; exact hc
theorem Kp.setCell {p : Nat → Prop} {w : World} {g i : Nat} {v : Value} (hp : ∀ b, p b → b ≠ g) : Kp p w (w.setCell ⟨g, i, none⟩ v) := fun ad u hb hc => setCell_other' (fun e => hp _ hb (by rw [e])) hc
/-- One of the items gets other bytes. -/
theorem IR.set {w : World} {g n k : Nat} {xs : List Ix} {x : Ix} (h : IR (fun b => b = g) w (some ⟨g, 0, none⟩) n xs) (hk : xs[k]? = some x) (ao : Option Addr) (l c : Nat) :
    IR (fun b => b = g) (w.setCell ⟨g, k * 2 + 1, none⟩ (.slice ao l c)) (some ⟨g, 0, none⟩) n (xs.set k (x.1, ao, l, c)) := by
  obtain ⟨h1, h2, h3, h4⟩ := h
  have hkl := (List.getElem?_eq_some_iff.1 hk).1
  refine ⟨by simpa using h1, h2, h3, fun h0 => ?_⟩
  obtain ⟨b, off, e, hp, hc⟩ := h4 h0
  cases e
  refine ⟨_, _, rfl, rfl, fun j y hj => ?_⟩
  simp only [Nat.zero_add] at hc ⊢
  by_cases e : j = k
  · subst e
    rw [List.getElem?_set_self hkl] at hj
    cases hj
    obtain ⟨c0, c1⟩ := hc j x hk
    exact ⟨setCell_other' (by simp <;> omega) c0, World.cell?_setCell_same' _ _ _ (by rw [c1]; rfl)⟩
  · rw [List.getElem?_set_ne (by omega)] at hj
    obtain ⟨c0, c1⟩ := hc j y hj
    exact ⟨setCell_other' (by simp <;> omega) c0, setCell_other' (by simp <;> omega) c1⟩

set_option maxRecDepth 10000 in
set_option maxHeartbeats 1000000 in
theorem copied_any (p : Nat → Prop) (w : World) (ao : Option Addr) (n cap : Nat) (ds : List Di) (h : Its p w ao n ds) :
    Calls Try.prog 20 #[.slice ao n cap] w fun e w' => ∃ ao' cap', e = .returned (.slice ao' n cap') ∧ Its (fun b => w.heap.size ≤ b) w' ao' n ds ∧ Below w.heap.size w w' := by
  obtain ⟨xs, hI, hd, hit⟩ := h
  have hcl := cloneI_any p w ao n cap xs hI
  have hxl := hI.1
  have hm := hI.2.1
  have HIT : Hid (∀ (j : Nat) (x : Ix) (d : Di), xs[j]? = some x → ds[j]? = some d → It p w x d) := hit
  clear hI hit
  go_enter Try.func20, Try.ntmps20
  go_wp2_with fail
  refine hcl.mono ?_
  rintro e w0 ⟨⟨v, rfl, hv⟩, hb0⟩
  clear hcl
  rcases hv with ⟨rfl, rfl⟩ | ⟨g, cap', rfl, hg, hg2, hfz, hIR⟩
  · go_wp2
    refine wp_loop_rounds 1 ?_
    rw [rounds_succ]
    go_wp2
    go_ret
    refine ⟨none, 0, rfl, ⟨[], ⟨rfl, by omega, fun _ => rfl, fun h => by omega⟩, hd, fun j x d hx => by simp at hx⟩, hb0⟩
  · have H0 : Hid (IR (fun b => b = g) w0 (some ⟨g, 0, none⟩) n xs ∧ (∀ i, w0.frozen? ⟨g, i, none⟩ = false)) := ⟨hIR, hfz⟩
    clear hIR hfz
    go_wp2_with fail
    go_loopw [4, 9] (fun _ kv wr => ∃ (k : Nat) (ys : List Ix), k ≤ n ∧ kv = .int .i64 (k : Nat) ∧ IR (fun b => b = g) wr (some ⟨g, 0, none⟩) n ys ∧ (∀ j, k ≤ j → ys[j]? = xs[j]?) ∧ (∀ (j : Nat) (y : Ix) (d : Di), j < k → ys[j]? = some y → ds[j]? = some d → It (fun b => w.heap.size ≤ b ∧ b ≠ g) wr y d) ∧ Below w.heap.size w wr ∧ g < wr.heap.size ∧ (∀ i, wr.frozen? ⟨g, i, none⟩ = false)) (fun _ kv _ => n - (intOf kv).toNat)
    case atStart => exact ⟨0, xs, by omega, rfl, H0.out.1, fun _ _ => rfl, fun j y d hj => by omega, hb0, hg2, H0.out.2⟩
    case round =>
      clear H0
      obtain ⟨k, ys, hk, rfl, hIR, hys, hits, hbl, hgl, hfz⟩ := hrel
      by_cases hlt : k < n
      · have hltI : (k : Int) < (n : Int) := by omega
        obtain ⟨x, hx⟩ : ∃ x, xs[k]? = some x := ⟨xs[k]'(by omega), List.getElem?_eq_getElem (by omega)⟩
        obtain ⟨d, hdk⟩ : ∃ d, ds[k]? = some d := ⟨ds[k]'(by omega), List.getElem?_eq_getElem (by omega)⟩
        have hyk : ys[k]? = some x := by rw [hys k (Nat.le_refl _)]; exact hx
        obtain ⟨b, off, e, hp, hc⟩ := hIR.2.2.2 (by omega)
        cases e
        obtain ⟨c0, c1⟩ := hc k x hyk
        simp only [Nat.zero_add] at c0 c1
        have hcb := cloneB_any p wr x.2.1 x.2.2.1 x.2.2.2 d.2 ((HIT.out k x d hx hdk).2.keep (Kp.up hbl))
        have hxd := (HIT.out k x d hx hdk).1
        have HIN : Hid (IR (fun b => b = g) wr (some ⟨g, 0, none⟩) n ys ∧ (∀ j, k ≤ j → ys[j]? = xs[j]?) ∧ (∀ (j : Nat) (y : Ix) (d : Di), j < k → ys[j]? = some y → ds[j]? = some d → It (fun b => w.heap.size ≤ b ∧ b ≠ g) wr y d) ∧ ys[k]? = some x ∧ ds[k]? = some d ∧ x.1 = d.1) := ⟨hIR, hys, hits, hyk, hdk, hxd⟩
        have hfz1 := hfz
        have hk0 : ¬ ((k : Int) < 0) := by omega
        clear hIR hys hits hc hx hdk hyk hxd hp
        go_wp2_with fail
        refine hcb.mono ?_
        rintro e w1 ⟨ao1, cap1, rfl, hrw, hb1⟩
        have c1' : w1.cell? ⟨g, k * 2 + 1, none⟩ = some (.slice x.2.1 x.2.2.1 x.2.2.2) := (hb1.cell hgl).trans c1
        have hf1 : ∀ i, w1.frozen? ⟨g, i, none⟩ = false := fun i => (hb1.frozen hgl).trans (hfz i)
        obtain ⟨w2, hw2⟩ : ∃ w2, w1.setCell ⟨g, k * 2 + 1, none⟩ (.slice ao1 x.2.2.1 cap1) = w2 := ⟨_, rfl⟩
        have HN : Hid (∃ ys' : List Ix, IR (fun b => b = g) w2 (some ⟨g, 0, none⟩) n ys' ∧ (∀ j, k + 1 ≤ j → ys'[j]? = xs[j]?) ∧ (∀ (j : Nat) (y : Ix) (d : Di), j < k + 1 → ys'[j]? = some y → ds[j]? = some d → It (fun b => w.heap.size ≤ b ∧ b ≠ g) w2 y d) ∧ Below w.heap.size w w2 ∧ g < w2.heap.size ∧ (∀ i, w2.frozen? ⟨g, i, none⟩ = false)) := by
          obtain ⟨i1, i2, i3, i4, i5, i6⟩ := HIN.out
          rw [← hw2]
          have hkl := (List.getElem?_eq_some_iff.1 i4).1
          have hbw : Below w.heap.size w w1 := bl_step hbl hb1
          have kp1 : Kp (fun b => w.heap.size ≤ b ∧ b ≠ g) w1 (w1.setCell ⟨g, k * 2 + 1, none⟩ (.slice ao1 x.2.2.1 cap1)) := Kp.setCell (fun b hb => hb.2)
          refine ⟨ys.set k (x.1, ao1, x.2.2.1, cap1), (i1.keep (Kp.up hb1)).set i4 ao1 x.2.2.1 cap1, fun j hj => by rw [List.getElem?_set_ne (by omega)]; exact i2 j (by omega), fun j y d' hj hy hd' => ?_, hbw.setCell (by omega) _, ?_, fun i => by rw [World.frozen?_setCell]; exact hf1 i⟩
          · by_cases e : j = k
            · subst e
              rw [List.getElem?_set_self hkl] at hy
              cases hy
              rw [i5] at hd'
              cases hd'
              refine ⟨i6, ?_⟩
              refine (hrw.imp (fun b _ hb => ?_)).keep kp1
              have := hbl.size
              exact ⟨by omega, by omega⟩
            · rw [List.getElem?_set_ne (by omega)] at hy
              exact ((i3 j y d' (by omega) hy hd').keep (Kp.up hb1)).keep kp1
          · have := hb1.size
            simp [World.setCell]; omega
        clear hcb hrw hb1 HIN hbl
        go_wp2_with fail
        (try simp only [hw2])
        clear hw2
        go_roundw
        case rel =>
          obtain ⟨ys', n1, n2, n3, n4, n5, n6⟩ := HN.out
          first | exact ⟨k + 1, ys', by omega, by go_num, n1, n2, n3, n4, n5, n6⟩ | ((repeat apply Exists.intro); exact ⟨⟨k + 1, ys', by omega, by go_num, n1, n2, n3, n4, n5, n6⟩, rfl⟩)
        case measure => simp [intOf]; omega
      · obtain rfl : k = n := by omega
        have HE : Hid (Its (fun b => w.heap.size ≤ b) wr (some ⟨g, 0, none⟩) k ds ∧ Below w.heap.size w wr) := by
          refine ⟨⟨ys, hIR.imp (fun b _ hb => by rw [hb]; exact hg), hd, fun j y d hy hd' => (hits j y d ?_ hy hd').imp (fun b _ hb => hb.1)⟩, hbl⟩
          have := (List.getElem?_eq_some_iff.1 hy).1
          have := hIR.1
          omega
        clear hIR hys hits hbl hfz
        go_wp2
        go_ret
        exact ⟨some ⟨g, 0, none⟩, cap', rfl, HE.out⟩
end Go.Proofs.Ythnbijnpbjfoaaa
/-
  Lists of lists as they lie in memory: of bytes, of items, of lists of bytes.
-/
namespace Go.Proofs.Ythnbijnpbjfoaaa
open Go.RowKit Go.Sort
set_option linter.unusedVariables false

/-- Where a list lies, how long it is, how long it may be. -/
abbrev Sr := Option Addr × Nat × Nat
def sl (r : Sr) : Value := .slice r.1 r.2.1 r.2.2
def Cp (r : Sr) : Prop := r.2.1 ≤ r.2.2 ∧ r.2.2 ≤ 9223372036854775807 ∧ (r.1 = none → r.2.2 = 0)
theorem Cp.nil : Cp (none, 0, 0) := ⟨Nat.le_refl _, Nat.zero_le _, fun _ => rfl⟩
def SlR (p : Nat → Prop) (w : World) (ao : Option Addr) (n : Nat) (rs : List Sr) : Prop :=
  rs.length = n ∧ n ≤ 140737488355328 ∧ (ao = none → n = 0) ∧ (0 < n → ∃ b off, ao = some ⟨b, off, none⟩ ∧ p b ∧ ∀ j r, rs[j]? = some r → w.cell? ⟨b, off + j, none⟩ = some (.slice r.1 r.2.1 r.2.2))
theorem SlR.keep {p : Nat → Prop} {w w' : World} {ao : Option Addr} {n : Nat} {xs : List Sr} (h : SlR p w ao n xs) (k : Kp p w w') : SlR p w' ao n xs := by
  obtain ⟨h1, h2, h3, h4⟩ := h
  refine ⟨h1, h2, h3, fun h0 => ?_⟩
  obtain ⟨b, off, e, hp, hc⟩ := h4 h0
  exact ⟨b, off, e, hp, fun j x hj => k _ _ hp (hc j x hj)⟩
/-- A list of lists, each of which lies there as E says. -/
def Lr {α : Type} (E : World → Sr → α → Prop) (w : World) (ao : Option Addr) (n : Nat) (xs : List α) : Prop :=
  ∃ rs, SlR (fun _ => True) w ao n rs ∧ xs.length = n ∧ (∀ r ∈ rs, Cp r) ∧ ∀ (j : Nat) r x, rs[j]? = some r → xs[j]? = some x → E w r x
theorem Lr.keep {α : Type} {E : World → Sr → α → Prop} {w w' : World} {ao : Option Addr} {n : Nat} {xs : List α} (h : Lr E w ao n xs) (u : Below w.heap.size w w') (hE : ∀ r x, E w r x → E w' r x) : Lr E w' ao n xs := by
  obtain ⟨rs, h1, h2, h3, h4⟩ := h
  exact ⟨rs, h1.keep (Kp.up u), h2, h3, fun j r x hr hx => hE r x (h4 j r x hr hx)⟩
theorem Lr.len {α : Type} {E : World → Sr → α → Prop} {w : World} {ao : Option Addr} {n : Nat} {xs : List α} (h : Lr E w ao n xs) : xs.length = n := by obtain ⟨_, _, h2, _⟩ := h; exact h2
theorem Lr.le {α : Type} {E : World → Sr → α → Prop} {w : World} {ao : Option Addr} {n : Nat} {xs : List α} (h : Lr E w ao n xs) : n ≤ 140737488355328 := by obtain ⟨_, h1, _⟩ := h; exact h1.2.1
theorem Lr.nil {α : Type} (E : World → Sr → α → Prop) (w : World) : Lr E w none 0 [] := ⟨[], ⟨rfl, by omega, fun _ => rfl, fun h => by omega⟩, rfl, by simp, fun j r x hr => by simp at hr⟩
theorem Lr.at {α : Type} {E : World → Sr → α → Prop} {w : World} {ao : Option Addr} {n : Nat} {xs : List α} (h : Lr E w ao n xs) {k : Nat} {x : α} (hx : xs[k]? = some x) :
    ∃ b off, ∃ r : Sr, ao = some ⟨b, off, none⟩ ∧ w.cell? ⟨b, off + k, none⟩ = some (.slice r.1 r.2.1 r.2.2) ∧ Cp r ∧ E w r x := by
  obtain ⟨rs, h1, h2, h3, h4⟩ := h
  have hk := (List.getElem?_eq_some_iff.1 hx).1
  obtain ⟨l1, _, _, l4⟩ := h1
  obtain ⟨b, off, e, _, hc⟩ := l4 (by omega)
  have hr : rs[k]? = some (rs[k]'(by omega)) := List.getElem?_eq_getElem (by omega)
  exact ⟨b, off, _, e, hc k _ hr, h3 _ (List.getElem_mem _), h4 k _ x hr hx⟩
abbrev Bs (w : World) (ao : Option Addr) (n : Nat) (xs : List By) : Prop := Lr (fun w r x => Rw (fun _ => True) w r.1 r.2.1 x) w ao n xs
abbrev Bss (w : World) (ao : Option Addr) (n : Nat) (xs : List (List By)) : Prop := Lr (fun w r x => Bs w r.1 r.2.1 x) w ao n xs
abbrev Iss (w : World) (ao : Option Addr) (n : Nat) (xs : List (List Di)) : Prop := Lr (fun w r x => Its (fun _ => True) w r.1 r.2.1 x) w ao n xs
theorem Bs.up {w w' : World} {ao : Option Addr} {n : Nat} {xs : List By} (h : Bs w ao n xs) (u : Below w.heap.size w w') : Bs w' ao n xs := h.keep u (fun r x e => e.keep (Kp.up u))
theorem Bss.up {w w' : World} {ao : Option Addr} {n : Nat} {xs : List (List By)} (h : Bss w ao n xs) (u : Below w.heap.size w w') : Bss w' ao n xs := h.keep u (fun r x e => e.keep u (fun r x e => e.keep (Kp.up u)))
theorem Iss.up {w w' : World} {ao : Option Addr} {n : Nat} {xs : List (List Di)} (h : Iss w ao n xs) (u : Below w.heap.size w w') : Iss w' ao n xs := h.keep u (fun r x e => e.keep (Kp.up u))
theorem Its.up {p : Nat → Prop} {w w' : World} {ao : Option Addr} {n : Nat} {xs : List Di} (h : Its p w ao n xs) (u : Below w.heap.size w w') : Its p w' ao n xs := h.keep (Kp.up u)
theorem Its.nil0 (p : Nat → Prop) (w : World) : Its p w none 0 [] := ⟨[], ⟨rfl, by omega, fun _ => rfl, fun h => by omega⟩, rfl, fun j x d hx => by simp at hx⟩
theorem Its.le {p : Nat → Prop} {w : World} {ao : Option Addr} {n : Nat} {ds : List Di} (h : Its p w ao n ds) : n ≤ 4398046511104 := by obtain ⟨xs, h1, _⟩ := h; exact h1.2.1
/-- The k-th item: its two cells, and its bytes. -/
theorem Its.at {p : Nat → Prop} {w : World} {ao : Option Addr} {n : Nat} {ds : List Di} (h : Its p w ao n ds) {k : Nat} {d : Di} (hd : ds[k]? = some d) :
    ∃ b off, ∃ r : Sr, ao = some ⟨b, off, none⟩ ∧ w.cell? ⟨b, off + k * 2, none⟩ = some (.int .i64 d.1) ∧ w.cell? ⟨b, off + k * 2 + 1, none⟩ = some (.slice r.1 r.2.1 r.2.2) ∧ Rw p w r.1 r.2.1 d.2 := by
  obtain ⟨xs, h1, h2, h3⟩ := h
  have hk := (List.getElem?_eq_some_iff.1 hd).1
  obtain ⟨l1, _, _, l4⟩ := h1
  obtain ⟨b, off, e, _, hc⟩ := l4 (by omega)
  have hx : xs[k]? = some (xs[k]'(by omega)) := List.getElem?_eq_getElem (by omega)
  obtain ⟨c0, c1⟩ := hc k _ hx
  have hi := h3 k _ d hx hd
  rw [hi.1] at c0
  exact ⟨b, off, xs[k].2, e, c0, c1, hi.2⟩
/-- The first k items. -/
theorem Its.take {p : Nat → Prop} {w : World} {ao : Option Addr} {n k : Nat} {ds : List Di} (h : Its p w ao n ds) (hk : k ≤ n) : Its p w ao k (ds.take k) := by
  obtain ⟨xs, h1, h2, h3⟩ := h
  obtain ⟨l1, l2, l3, l4⟩ := h1
  have tk : ∀ {α : Type} {l : List α} {j : Nat} {x : α}, (l.take k)[j]? = some x → l[j]? = some x := fun {α l j x} hj => by
    rw [List.getElem?_take] at hj
    split at hj
    · exact hj
    · cases hj
  refine ⟨xs.take k, ⟨by simp; omega, by omega, fun e => by have := l3 e; omega, fun h0 => ?_⟩, by simp; omega, fun j x d hx hd => h3 j x d (tk hx) (tk hd)⟩
  obtain ⟨b, off, e, hp, hc⟩ := l4 (by omega)
  exact ⟨b, off, e, hp, fun j x hj => hc j x (tk hj)⟩
theorem bl_cell {w w' : World} (u : Below w.heap.size w w') {a : Addr} {v : Value} (h : w.cell? a = some v) : w'.cell? a = some v := (u.cell (World.block_lt_of_cell? w _ h)).trans h
theorem Rw.up {p : Nat → Prop} {w w' : World} {ao : Option Addr} {n : Nat} {xs : List UInt8} (h : Rw p w ao n xs) (u : Below w.heap.size w w') : Rw p w' ao n xs := h.keep (Kp.up u)

def str (xs : List UInt8) : ByteArray := ⟨xs.toArray⟩
theorem str_of (xs : List UInt8) : (xs.map fun x => (x.toNat : Int)).foldl (fun r n => r.push (UInt8.ofNat n.toNat)) ByteArray.empty = str xs := by
  rw [foldl_push_bytes]
  simp [str, ByteArray.empty, ByteArray.emptyWithCapacity, Function.comp_def]
  try rfl
theorem str_beq (a b : List UInt8) : ((str a).toList == (str b).toList) = decide (a = b) := by
  have h : ∀ l, (str l).toList = l := fun l => ByteArray.toList_mk l
  rw [h, h, Bool.eq_iff_iff]
  simp
theorem conv_rw {p : Nat → Prop} {w : World} {ao : Option Addr} {n cap : Nat} {xs : List UInt8} (h : Rw p w ao n xs) : (convert 30 9 (.slice ao n cap)).run Try.prog w = .ok (.string (str xs)) w := by
  cases ao with
  | none =>
    have hx : xs = [] := List.eq_nil_of_length_eq_zero (by have := h.1; have := h.2.2.1 rfl; omega)
    subst hx
    exact run_convert_bytes_nil w 30 5 Try.underlying30 Try.underlying5 _ _ 9 Try.underlying9
  | some a =>
    have hl : (loadCells a n).run Try.prog w = .ok (((xs.map fun x => (x.toNat : Int))).map (Value.int .u8)).toArray w := by
      have := run_loadCells_list (P := Try.prog) w a ((xs.map fun x => (x.toNat : Int)).map (Value.int .u8)) (fun j v hj => h.cells j v (by unfold cellB; simpa [Function.comp_def] using hj))
      simpa [h.1] using this
    rw [run_convert_bytes_string w 30 9 5 _ n cap Try.underlying30 Try.underlying5 Try.underlying9, run_bytesToString w a n cap _ hl, str_of]

set_option maxRecDepth 10000 in
set_option maxHeartbeats 1000000 in
/-- bytes.Equal -/
theorem beq_any (p q : Nat → Prop) (w : World) (ao bo : Option Addr) (n c m d : Nat) (xs ys : List UInt8) (h : Rw p w ao n xs) (g : Rw q w bo m ys) :
    Calls Try.prog 50 #[.slice ao n c, .slice bo m d] w fun e w' => e = .returned (.bool (decide (xs = ys))) ∧ Up w w' := by
  have h1 := conv_rw (cap := c) h
  have h2 := conv_rw (cap := d) g
  have h3 := str_beq xs ys
  clear h g
  go_enter Try.func50, Try.ntmps50
  go_wp2
  go_ret
  exact ⟨rfl, Up.refl _⟩
/-- An item as a value. -/
def itm (f : Int) (r : Sr) : Value := .agg #[.int .i64 f, .slice r.1 r.2.1 r.2.2]
set_option maxRecDepth 10000 in
set_option maxHeartbeats 1000000 in
theorem same_any (p q : Nat → Prop) (w : World) (d e : Di) (r s : Sr) (h : Rw p w r.1 r.2.1 d.2) (g : Rw q w s.1 s.2.1 e.2) :
    Calls Try.prog 31 #[itm d.1 r, itm e.1 s] w fun ee w' => ee = .returned (.bool (decide (d = e))) ∧ Up w w' := by
  obtain ⟨f, xs⟩ := d
  obtain ⟨g', ys⟩ := e
  obtain ⟨ra, rn, rc⟩ := r
  obtain ⟨sa, sn, sc⟩ := s
  simp only [itm] at h g ⊢
  obtain ⟨w0, hw0⟩ : ∃ w0, (w.alloc (.cells #[.int .i64 f, .slice ra rn rc] 34)).alloc (.cells #[.int .i64 g', .slice sa sn sc] 34) = w0 := ⟨_, rfl⟩
  have u0 : Up w w0 := by rw [← hw0]; exact ((Up.refl _).alloc _).alloc _
  have hz : (w.alloc (.cells #[.int .i64 f, .slice ra rn rc] 34)).heap.size = w.heap.size + 1 := by simp
  have a0 : w0.cell? ⟨w.heap.size, 0, none⟩ = some (.int .i64 f) := by rw [← hw0]; exact bl_cell (bl1 _ _) (cell_box w _ 34 0 _ rfl)
  have a1 : w0.cell? ⟨w.heap.size, 1, none⟩ = some (.slice ra rn rc) := by rw [← hw0]; exact bl_cell (bl1 _ _) (cell_box w _ 34 1 _ rfl)
  have b0 : w0.cell? ⟨w.heap.size + 1, 0, none⟩ = some (.int .i64 g') := by rw [← hw0, ← hz]; exact cell_box _ _ 34 0 _ rfl
  have b1 : w0.cell? ⟨w.heap.size + 1, 1, none⟩ = some (.slice sa sn sc) := by rw [← hw0, ← hz]; exact cell_box _ _ 34 1 _ rfl
  have hb := beq_any p q w0 ra sa rn rc sn sc xs ys (h.up u0.bl) (g.up u0.bl)
  by_cases hfg : f = g'
  · subst hfg
    have hd : decide ((f, xs) = (f, ys)) = decide (xs = ys) := by simp
    rw [hd]
    clear h g hd hz
    go_enter Try.func31, Try.ntmps31
    go_wp2_with fail
    (try simp only [hw0])
    refine hb.mono ?_
    rintro _ w1 ⟨rfl, u1⟩
    have u01 := u0.trans u1
    clear hb u0 u1 hw0 a0 a1 b0 b1
    go_wp2
    go_ret
    exact ⟨rfl, u01⟩
  · have hd : decide ((f, xs) = (g', ys)) = false := by simp [hfg]
    have hf2 : (f == g') = false := by simpa using hfg
    rw [hd]
    clear h g hd hz hb
    go_enter Try.func31, Try.ntmps31
    go_wp2_with fail
    (try simp only [hw0])
    go_wp2
    go_ret
    exact ⟨rfl, u0⟩
end Go.Proofs.Ythnbijnpbjfoaaa
/-
  The document's Items: are two lists of items one?
-/
namespace Go.Proofs.Ythnbijnpbjfoaaa
open Go.RowKit Go.Sort
set_option linter.unusedVariables false

/-- Two items side by side. -/
def TwoI (b1 o1 b2 o2 : Nat) (d e : Di) (r s : Sr) (wx : World) : Prop :=
  wx.cell? ⟨b1, o1, none⟩ = some (.int .i64 d.1) ∧ wx.cell? ⟨b1, o1 + 1, none⟩ = some (.slice r.1 r.2.1 r.2.2) ∧ (convert 30 9 (.slice r.1 r.2.1 r.2.2)).run Try.prog wx = .ok (.string (str d.2)) wx ∧
  wx.cell? ⟨b2, o2, none⟩ = some (.int .i64 e.1) ∧ wx.cell? ⟨b2, o2 + 1, none⟩ = some (.slice s.1 s.2.1 s.2.2) ∧ (convert 30 9 (.slice s.1 s.2.1 s.2.2)).run Try.prog wx = .ok (.string (str e.2)) wx

set_option maxRecDepth 10000 in
set_option maxHeartbeats 2000000 in
theorem items_any (p q : Nat → Prop) (w : World) (ao bo : Option Addr) (n m c1 c2 : Nat) (ds es : List Di) (h : Its p w ao n ds) (g : Its q w bo m es) :
    Calls Try.prog 13 #[.slice ao n c1, .slice bo m c2] w fun e w' => e = .returned (.bool (decide (ds = es))) ∧ Up w w' := by
  have hl := h.len
  have hl2 := g.len
  have hm := h.le
  have HI : Hid (Its p w ao n ds ∧ Its q w bo m es) := ⟨h, g⟩
  generalize hdd : decide (ds = es) = res
  have HD : Hid (decide (ds = es) = res) := hdd
  clear h g hdd
  by_cases hnm : n = m
  · subst hnm
    go_enter Try.func13, Try.ntmps13
    go_wp2_with fail
    go_loopw [5] (fun iv wr => ∃ k : Nat, k ≤ n ∧ iv = .int .i64 (k : Nat) ∧ ds.take k = es.take k ∧ Up w wr) (fun iv _ => n - (intOf iv).toNat)
    case atStart => exact ⟨0, by omega, rfl, by simp, Up.refl _⟩
    case round =>
      obtain ⟨k, hk, rfl, htk, hu⟩ := hrel
      have HT : Hid (ds.take k = es.take k) := htk
      clear htk
      by_cases hlt : k < n
      · have hltI : (k : Int) < (n : Int) := by omega
        have hk0 : ¬ ((k : Int) < 0) := by omega
        obtain ⟨d, hd⟩ : ∃ d, ds[k]? = some d := ⟨ds[k]'(by omega), List.getElem?_eq_getElem (by omega)⟩
        obtain ⟨e, he⟩ : ∃ e, es[k]? = some e := ⟨es[k]'(by omega), List.getElem?_eq_getElem (by omega)⟩
        have hud : Below w.heap.size w wr.drew := hu.drew.bl
        obtain ⟨b1, o1, r, rfl, p0, p1, pr⟩ := (HI.out.1.up hud).at hd
        obtain ⟨b2, o2, s, rfl, q0, q1, qr⟩ := (HI.out.2.up hud).at he
        have HDE : Hid (ds[k]? = some d ∧ es[k]? = some e) := ⟨hd, he⟩
        have two : TwoI b1 (o1 + k * 2) b2 (o2 + k * 2) d e r s wr.drew := ⟨p0, p1, conv_rw pr, q0, q1, conv_rw qr⟩
        have hbe := str_beq d.2 e.2
        clear hd he pr qr p0 p1 q0 q1 HI hud
        obtain ⟨f, xs⟩ := d
        obtain ⟨f', ys⟩ := e
        simp only at hbe
        by_cases hf : f = f'
        · subst hf
          cases hde : decide (xs = ys) with
          | true =>
            rw [hde] at hbe
            have HT' : Hid (ds.take (k + 1) = es.take (k + 1)) := by
              have x : xs = ys := of_decide_eq_true hde
              show ds.take (k + 1) = es.take (k + 1)
              rw [take_snoc HDE.out.1, take_snoc HDE.out.2, HT.out, x]
            clear hde
            go_wp2_with fail
            refine wp_region_noPanic ?_
            refine wp_region_held_drew (S := TwoI b1 (o1 + k * 2) b2 (o2 + k * 2) (f, xs) (f, ys) r s) (by kernel_rfl) (two) (fun hHeld => ?_)
            unfold TwoI at hHeld
            refine tq 0 ?_
            refine tq 1 ?_
            refine tq 2 ?_
            refine tq 3 ?_
            refine tq 4 ?_
            refine tq 5 ?_
            refine tq 6 ?_
            refine tq 7 ?_
            refine tq 8 ?_
            refine tq 9 ?_
            refine tq 10 ?_
            refine tq 11 ?_
            refine tq 12 ?_
            refine tq 13 ?_
            refine tq 14 ?_
            refine tq 15 ?_
            refine tq 16 ?_
            refine tq 17 ?_
            refine tq 18 ?_
            refine tq 19 ?_
            refine tq 20 ?_
            refine tq 21 ?_
            refine tq 22 ?_
            refine tq 23 ?_
            refine tq 24 ?_
            refine tq 25 ?_
            refine wpAnyH_done (by kernel_rfl) ?_ _
            refine NoPanic.normal ?_
            go_wp2
            go_roundw
            case rel => first | exact ⟨k + 1, by omega, by go_num, HT'.out, hu.drew⟩ | ((repeat apply Exists.intro); exact ⟨⟨k + 1, by omega, by go_num, HT'.out, hu.drew⟩, rfl⟩)
            case measure => simp [intOf]; omega
          | false =>
            rw [hde] at hbe
            have hrt : Hid (false = res) := by
              show false = res
              rw [← HD.out]
              symm
              simp only [decide_eq_false_iff_not]
              intro x
              have hne : xs ≠ ys := of_decide_eq_false hde
              have y := HDE.out.1
              rw [x, HDE.out.2] at y
              exact hne (by simpa using y.symm)
            clear hde
            go_wp2_with fail
            refine wp_region_noPanic ?_
            refine wp_region_held_drew (S := TwoI b1 (o1 + k * 2) b2 (o2 + k * 2) (f, xs) (f, ys) r s) (by kernel_rfl) (two) (fun hHeld => ?_)
            unfold TwoI at hHeld
            refine tq 0 ?_
            refine tq 1 ?_
            refine tq 2 ?_
            refine tq 3 ?_
            refine tq 4 ?_
            refine tq 5 ?_
            refine tq 6 ?_
            refine tq 7 ?_
            refine tq 8 ?_
            refine tq 9 ?_
            refine tq 10 ?_
            refine tq 11 ?_
            refine tq 12 ?_
            refine tq 13 ?_
            refine tq 14 ?_
            refine tq 15 ?_
            refine tq 16 ?_
            refine tq 17 ?_
            refine tq 18 ?_
            refine tq 19 ?_
            refine tq 20 ?_
            refine tq 21 ?_
            refine tq 22 ?_
            refine tq 23 ?_
            refine tq 24 ?_
            refine tq 25 ?_
            refine wpAnyH_done (by kernel_rfl) ?_ _
            refine NoPanic.normal ?_
            go_wp2
            go_ret
            exact ⟨ret_bool hrt.out, hu.drew⟩
        · have hfb : (f == f') = false := by simpa using hf
          have hfn : (f != f') = true := by simpa using hf
          have hrt : Hid (false = res) := by
            show false = res
            rw [← HD.out]
            symm
            simp only [decide_eq_false_iff_not]
            intro x
            have y := HDE.out.1
            rw [x, HDE.out.2] at y
            exact hf (by have := congrArg Prod.fst (Option.some.inj y); simpa using this.symm)
          clear hbe
          go_wp2_with fail
          refine wp_region_noPanic ?_
          refine wp_region_held_drew (S := TwoI b1 (o1 + k * 2) b2 (o2 + k * 2) (f, xs) (f', ys) r s) (by kernel_rfl) (two) (fun hHeld => ?_)
          unfold TwoI at hHeld
          refine tq 0 ?_
          refine tq 1 ?_
          refine tq 2 ?_
          refine tq 3 ?_
          refine tq 4 ?_
          refine tq 5 ?_
          refine tq 6 ?_
          refine tq 7 ?_
          refine tq 8 ?_
          refine tq 9 ?_
          refine tq 10 ?_
          refine tq 11 ?_
          refine tqS 12 ?_
          refine tqS 13 ?_
          refine tqS 14 ?_
          refine tqS 15 ?_
          refine tqS 16 ?_
          refine tqS 17 ?_
          refine tqS 18 ?_
          refine tqS 19 ?_
          refine tqS 20 ?_
          refine tqS 21 ?_
          refine tqS 22 ?_
          refine tqS 23 ?_
          refine tqS 24 ?_
          refine tq 25 ?_
          refine wpAnyH_done (by kernel_rfl) ?_ _
          refine NoPanic.normal ?_
          go_wp2
          go_ret
          exact ⟨ret_bool hrt.out, hu.drew⟩
      · obtain rfl : k = n := by omega
        have hrt : Hid (true = res) := by
          show true = res
          rw [← HD.out]
          symm
          have := HT.out
          rw [List.take_of_length_le (by omega), List.take_of_length_le (by omega)] at this
          simpa using this
        go_wp2
        go_ret
        exact ⟨ret_bool hrt.out, hu⟩
  · have hnb : ((n : Int) == (m : Int)) = false := by simp; omega
    have hrt : Hid (false = res) := by
      show false = res
      rw [← HD.out]
      symm
      simp only [decide_eq_false_iff_not]
      intro x
      rw [x] at hl
      omega
    clear HI HD hl hl2
    go_enter Try.func13, Try.ntmps13
    go_wp2
    go_ret
    exact ⟨ret_bool hrt.out, Up.refl _⟩
end Go.Proofs.Ythnbijnpbjfoaaa
/-
  A list of items of one's own that grows.
-/
namespace Go.Proofs.Ythnbijnpbjfoaaa
open Go.RowKit Go.Sort
set_option linter.unusedVariables false

theorem wpList_append_gen {w : World} {ops : Array Oper} {rest : List Oper} {o : Oper} {a : Act} {Q : Exit → Act → World → Prop} (hgd : o.guard = none) (s x : Operand) (T E : TypeId)
    (ho : o.op = .call { callee := .builtin .append, args := #[s, x], argTypes := #[T, T] }) (z : Value) (size bytes : Nat) (hT : Try.prog.underlying T = some (.slice E)) (hi : (Try.prog.info? E).map (fun i => (i.zero, i.size, i.bytes)) = some (some z, size, bytes)) (hzs : z.cells.size = size) (hsz : 0 < size) (hby : bytes ≤ 1000)
    (B : Nat) (v : Value) (n : Nat) (xs : List Value) (hs : a.eval s = v) (hown : w.ownsRow B E size v n xs) (cs : List Value) (hcl : cs.length = size) (hone : ∀ u ∈ cs, u.oneCell' = true)
    (g : Nat) (hg : w.heap.size = g) (hx : a.eval x = .slice (some ⟨g, 0, none⟩) 1 1) (hn : n ≤ 10000) (hB : B ≤ w.heap.size)
    (h : ∀ v' w', w'.ownsRow B E size v' (n + 1) (xs ++ cs) → w.grownBy w' v.ownBlock → (v'.ownBlock = v.ownBlock ∨ ∃ k, v'.ownBlock = some k ∧ w.heap.size ≤ k) → wpList Try.prog ops Q rest (a.put o.dst v') w') :
    wpList Try.prog ops Q (o :: rest) a (w.alloc (.cells cs.toArray E)) := by
  subst hg
  have hal := bl1 w (.cells cs.toArray E)
  have hga : w.grownBy (w.alloc (.cells cs.toArray E)) none := ⟨hal.os, hal.tape, hal.output, hal.size, fun i hi _ => hal.block i hi⟩
  have hown2 := hown.kept (row := none) hga (by cases v.ownBlock with | none => exact Or.inl rfl | some k => exact Or.inr (by simp))
  obtain ⟨i0, hi0, hz0, hz1, hz2⟩ := info_parts hi
  have hb2 : (n + 1) * bytes ≤ 140737488355328 := by
    have h1 : (n + 1) * bytes ≤ 10001 * 1000 := Nat.mul_le_mul (by omega) hby
    omega
  refine wpList_append_own_at _ hgd s x T ho B E i0 z size bytes hT hi0 hz0 hz1 hz2 hzs hsz v n xs hs hown2 ⟨w.heap.size, 0, none⟩ 1 1 cs hx (by omega) (fun j u hj => ?_) hone (by unfold maxLen; omega) hb2 (Nat.le_trans hB hal.size) (fun v' w' a b _ d => h v' w' a ?_ ?_)
  · rw [Addr.add_lit, Nat.zero_add]
    exact cell_box w _ E j u (by simpa using hj)
  · exact ⟨b.os.trans hga.os, b.tape.trans hga.tape, b.output.trans hga.output, Nat.le_trans hga.size b.size, fun i hi hne => (b.block i (Nat.lt_of_lt_of_le hi hga.size) hne).trans (hga.block i hi (by simp))⟩
  · rcases d with d | d
    · exact .inl d
    · exact .inr ⟨_, d, hal.size⟩
/-- A list of one's own: its items' bytes lie in older blocks. -/
def OwS (B : Nat) (w : World) (v : Value) (S : List Di) : Prop :=
  ∃ xs : List Ix, w.ownsRow B 34 2 v S.length (cellI xs) ∧ xs.length = S.length ∧ ∀ (j : Nat) (x : Ix) (d : Di), xs[j]? = some x → S[j]? = some d → It (fun b => b < B) w x d
theorem OwS.nil (B : Nat) (w : World) : OwS B w (.slice none 0 0) [] := ⟨[], ⟨rfl, .inl ⟨rfl, rfl⟩⟩, rfl, fun j x d hx => by simp at hx⟩
theorem OwS.keep {B : Nat} {w w' : World} {v : Value} {S : List Di} (h : OwS B w v S) (u : Below w.heap.size w w') (hB : B ≤ w.heap.size) : OwS B w' v S := by
  obtain ⟨xs, h1, h2, h3⟩ := h
  exact ⟨xs, h1.kept (gr_below u none) (by cases v.ownBlock with | none => exact Or.inl rfl | some k => exact Or.inr (by simp)), h2, fun j x d hx hd => (h3 j x d hx hd).keep (Kp.up u)⟩
theorem OwS.its {B : Nat} {w : World} {v : Value} {S : List Di} (h : OwS B w v S) (hm : S.length ≤ 4398046511104) : ∃ r : Sr, v = .slice r.1 r.2.1 r.2.2 ∧ r.2.1 = S.length ∧ Its (fun _ => True) w r.1 r.2.1 S := by
  obtain ⟨xs, h1, h2, h3⟩ := h
  rcases IR.own h1 hm with ⟨rfl, h0⟩ | ⟨g, cap, rfl, _, _, _, hI⟩
  · have : S = [] := List.length_eq_zero_iff.1 h0
    subst this
    exact ⟨(none, 0, 0), rfl, rfl, Its.nil0 _ _⟩
  · exact ⟨(some ⟨g, 0, none⟩, S.length, cap), rfl, rfl, xs, hI.imp (fun _ _ _ => trivial), rfl, fun j x d hx hd => (h3 j x d hx hd).imp (fun _ _ _ => trivial)⟩
theorem cellI_snoc (xs : List Ix) (x : Ix) : cellI (xs ++ [x]) = cellI xs ++ [.int .i64 x.1, .slice x.2.1 x.2.2.1 x.2.2.2] := by simp [cellI]
/-- One more. -/
theorem OwS.more {B : Nat} {w w' : World} {v' : Value} {S : List Di} {xs : List Ix} {x : Ix} {d : Di} (h1 : w'.ownsRow B 34 2 v' (S.length + 1) (cellI xs ++ [.int .i64 x.1, .slice x.2.1 x.2.2.1 x.2.2.2])) (h2 : xs.length = S.length)
    (h3 : ∀ (j : Nat) (x : Ix) (d : Di), xs[j]? = some x → S[j]? = some d → It (fun b => b < B) w x d) (u : Below B w w') (hx : It (fun b => b < B) w x d) : OwS B w' v' (S ++ [d]) := by
  refine ⟨xs ++ [x], by rw [cellI_snoc]; simpa using h1, by simp [h2], fun j y e hy he => ?_⟩
  have kp : Kp (fun b => b < B) w w' := Kp.below u (fun _ hb => hb)
  by_cases hj : j < S.length
  · rw [List.getElem?_append_left (by omega)] at hy
    rw [List.getElem?_append_left hj] at he
    exact (h3 j y e hy he).keep kp
  · have hl := (List.getElem?_eq_some_iff.1 he).1
    simp at hl
    have : j = S.length := by omega
    subst this
    rw [List.getElem?_append_right (by omega), h2] at hy
    rw [List.getElem?_append_right (by omega)] at he
    simp at hy he
    subst hy he
    exact hx.keep kp
/-- .. as a slice. -/
def OwR (B : Nat) (w : World) (r : Sr) (S : List Di) : Prop := r.2.1 = S.length ∧ OwS B w (.slice r.1 r.2.1 r.2.2) S
theorem OwR.nil (B : Nat) (w : World) : OwR B w (none, 0, 0) [] := ⟨rfl, OwS.nil B w⟩
theorem OwS.row {B : Nat} {w : World} {v : Value} {S : List Di} (h : OwS B w v S) : ∃ r : Sr, v = .slice r.1 r.2.1 r.2.2 ∧ OwR B w r S := by
  have h' := h
  obtain ⟨xs, h1, _, _⟩ := h'
  rcases own_shape h1 with ⟨rfl, h0⟩ | ⟨g, cap, rfl, _⟩
  · exact ⟨(none, 0, 0), rfl, h0.symm, h⟩
  · exact ⟨(some ⟨g, 0, none⟩, S.length, cap), rfl, rfl, h⟩
theorem OwR.keep {B : Nat} {w w' : World} {r : Sr} {S : List Di} (h : OwR B w r S) (u : Below w.heap.size w w') (hB : B ≤ w.heap.size) : OwR B w' r S := ⟨h.1, h.2.keep u hB⟩
theorem OwR.its {B : Nat} {w : World} {r : Sr} {S : List Di} (h : OwR B w r S) (hm : S.length ≤ 4398046511104) : Its (fun _ => True) w r.1 r.2.1 S := by
  obtain ⟨r', e, _, hi⟩ := h.2.its hm
  simp only [Value.slice.injEq] at e
  obtain ⟨e1, e2, _⟩ := e
  rw [e1, e2]
  exact hi
end Go.Proofs.Ythnbijnpbjfoaaa
/-
  judge's longest list, and slices.EqualFunc of items.
-/
namespace Go.Proofs.Ythnbijnpbjfoaaa
open Go.RowKit Go.Sort
set_option linter.unusedVariables false

def LongPost (w : World) (del : List (List Di)) (n : Nat) (e : Ending) (w' : World) : Prop :=
  (∃ (r : Sr) (S : List Di), e = .returned (.slice r.1 r.2.1 r.2.2) ∧ Cp r ∧ Its (fun _ => True) w' r.1 r.2.1 S ∧ Lng del n S) ∧ Up w w'
set_option maxRecDepth 10000 in
set_option maxHeartbeats 1000000 in
theorem longest_any (w : World) (ao : Option Addr) (n cap : Nat) (del : List (List Di)) (h : Iss w ao n del) :
    Calls Try.prog 29 #[.slice ao n cap] w fun e w' => LongPost w del n e w' := by
  have hl := h.len
  have hm := h.le
  have HI : Hid (Iss w ao n del) := h
  clear h
  go_enter Try.func29, Try.ntmps29
  go_wp2_with fail
  go_loopw [3, 5, 8] (fun wv _ iv wr => ∃ (k : Nat) (r : Sr) (S : List Di), k ≤ n ∧ iv = .int .i64 (k : Nat) ∧ wv = .slice r.1 r.2.1 r.2.2 ∧ Cp r ∧ Its (fun _ => True) wr r.1 r.2.1 S ∧ Lng del k S ∧ Up w wr) (fun _ _ iv _ => n - (intOf iv).toNat)
  case atStart => exact ⟨0, (none, 0, 0), [], by omega, rfl, rfl, Cp.nil, Its.nil0 _ _, Lng.zero _, Up.refl _⟩
  case round =>
    obtain ⟨k, r, S, hk, rfl, rfl, hcp, hits, hlng, hu⟩ := hrel
    have HL : Hid (Cp r ∧ Its (fun _ => True) wr r.1 r.2.1 S ∧ Lng del k S ∧ S.length = r.2.1) := ⟨hcp, hits, hlng, hits.len⟩
    clear hcp hits hlng
    obtain ⟨ra, rn, rc⟩ := r
    simp only at HL ⊢
    by_cases hlt : k < n
    · have hltI : (k : Int) < (n : Int) := by omega
      obtain ⟨l, hl⟩ : ∃ l, del[k]? = some l := ⟨del[k]'(by omega), List.getElem?_eq_getElem (by omega)⟩
      obtain ⟨b, off, r2, rfl, c0, hc2, hi2⟩ := (Iss.up HI.out hu.bl).at hl
      have HR : Hid (Cp r2 ∧ Its (fun _ => True) wr r2.1 r2.2.1 l ∧ l.length = r2.2.1 ∧ del[k]? = some l) := ⟨hc2, hi2, hi2.len, hl⟩
      clear hc2 hi2 hl
      obtain ⟨sa, sn, sc⟩ := r2
      simp only at HR c0
      have hk0 : ¬ ((k : Int) < 0) := by omega
      by_cases hg : rn < sn
      · have hgI : (rn : Int) < (sn : Int) := by omega
        go_wp2
        go_roundw
        case rel =>
          obtain ⟨a1, a2, a3, a4⟩ := HL.out
          obtain ⟨b1, b2, b3, b4⟩ := HR.out
          have hn := a3.more b4 (by omega)
          first | exact ⟨k + 1, (sa, sn, sc), l, by omega, by go_num, rfl, b1, b2, hn, hu⟩ | ((repeat apply Exists.intro); exact ⟨⟨k + 1, (sa, sn, sc), l, by omega, by go_num, rfl, b1, b2, hn, hu⟩, rfl⟩)
        case measure => simp [intOf]; omega
      · have hgI : ¬ ((rn : Int) < (sn : Int)) := by omega
        go_wp2
        go_roundw
        case rel =>
          obtain ⟨a1, a2, a3, a4⟩ := HL.out
          obtain ⟨b1, b2, b3, b4⟩ := HR.out
          have hn := a3.less b4 (by omega)
          first | exact ⟨k + 1, (ra, rn, rc), S, by omega, by go_num, rfl, a1, a2, hn, hu⟩ | ((repeat apply Exists.intro); exact ⟨⟨k + 1, (ra, rn, rc), S, by omega, by go_num, rfl, a1, a2, hn, hu⟩, rfl⟩)
        case measure => simp [intOf]; omega
    · obtain rfl : k = n := by omega
      go_wp2
      go_ret
      exact ⟨⟨(ra, rn, rc), S, rfl, HL.out.1, HL.out.2.1, HL.out.2.2.1⟩, hu⟩

set_option maxRecDepth 10000 in
set_option maxHeartbeats 1000000 in
theorem eqf_any (w : World) (ao bo : Option Addr) (n c1 c2 : Nat) (ds es : List Di) (h : Its (fun _ => True) w ao n ds) (g : Its (fun _ => True) w bo n es) :
    Calls Try.prog 30 #[.slice ao n c1, .slice bo n c2, .func (.func 31) #[] #[]] w fun e w' => e = .returned (.bool (decide (ds = es))) ∧ Up w w' := by
  have hl := h.len
  have hl2 := g.len
  have hm := h.le
  have HI : Hid (Its (fun _ => True) w ao n ds ∧ Its (fun _ => True) w bo n es) := ⟨h, g⟩
  generalize hdd : decide (ds = es) = res
  have HD : Hid (decide (ds = es) = res) := hdd
  clear h g hdd
  go_enter Try.func30, Try.ntmps30
  go_wp2_with fail
  go_loopw [7, 8, 9, 17] (fun _ _ _ iv wr => ∃ k : Nat, k ≤ n ∧ iv = .int .i64 (k : Nat) ∧ ds.take k = es.take k ∧ Up w wr) (fun _ _ _ iv _ => n - (intOf iv).toNat)
  case atStart => exact ⟨0, by omega, rfl, by simp, Up.refl _⟩
  case round =>
    obtain ⟨k, hk, rfl, htk, hu⟩ := hrel
    have HT : Hid (ds.take k = es.take k) := htk
    clear htk
    by_cases hlt : k < n
    · have hltI : (k : Int) < (n : Int) := by omega
      have hk0 : ¬ ((k : Int) < 0) := by omega
      obtain ⟨d, hd⟩ : ∃ d, ds[k]? = some d := ⟨ds[k]'(by omega), List.getElem?_eq_getElem (by omega)⟩
      obtain ⟨e, he⟩ : ∃ e, es[k]? = some e := ⟨es[k]'(by omega), List.getElem?_eq_getElem (by omega)⟩
      obtain ⟨b1, o1, r, rfl, p0, p1, pr⟩ := (HI.out.1.up hu.bl).at hd
      obtain ⟨b2, o2, s, rfl, q0, q1, qr⟩ := (HI.out.2.up hu.bl).at he
      have HDE : Hid (ds[k]? = some d ∧ es[k]? = some e) := ⟨hd, he⟩
      obtain ⟨w1, hw1⟩ : ∃ w1, wr.alloc (.cells #[.int .i64 d.1, .slice r.1 r.2.1 r.2.2] 34) = w1 := ⟨_, rfl⟩
      obtain ⟨w2, hw2⟩ : ∃ w2, w1.alloc (.cells #[.int .i64 e.1, .slice s.1 s.2.1 s.2.2] 34) = w2 := ⟨_, rfl⟩
      have hz : w1.heap.size = wr.heap.size + 1 := by rw [← hw1]; simp
      have u1 : Up wr w1 := by rw [← hw1]; exact (Up.refl _).alloc _
      have u2 : Up wr w2 := by rw [← hw2]; exact u1.alloc _
      have q0' := bl_cell u1.bl q0
      have q1' := bl_cell u1.bl q1
      have a0 : w2.cell? ⟨wr.heap.size, 0, none⟩ = some (.int .i64 d.1) := by rw [← hw2]; exact bl_cell (bl1 _ _) (by rw [← hw1]; exact cell_box wr _ 34 0 _ rfl)
      have a1 : w2.cell? ⟨wr.heap.size, 1, none⟩ = some (.slice r.1 r.2.1 r.2.2) := by rw [← hw2]; exact bl_cell (bl1 _ _) (by rw [← hw1]; exact cell_box wr _ 34 1 _ rfl)
      have e0 : w2.cell? ⟨wr.heap.size + 1, 0, none⟩ = some (.int .i64 e.1) := by rw [← hw2, ← hz]; exact cell_box _ _ 34 0 _ rfl
      have e1 : w2.cell? ⟨wr.heap.size + 1, 1, none⟩ = some (.slice s.1 s.2.1 s.2.2) := by rw [← hw2, ← hz]; exact cell_box _ _ 34 1 _ rfl
      have hs := same_any (fun _ => True) (fun _ => True) w2 d e r s (pr.up u2.bl) (qr.up u2.bl)
      unfold itm at hs
      have hu2 := hu.trans u2
      clear hd he pr qr u1 u2 q0 q1 HI
      cases hde : decide (d = e) with
      | false =>
        rw [hde] at hs
        have hrt : Hid (false = res) := by
          show false = res
          rw [← HD.out]
          symm
          simp only [decide_eq_false_iff_not]
          intro x
          have hne : d ≠ e := by simpa using hde
          have y := HDE.out.1
          rw [x, HDE.out.2] at y
          exact hne (by simpa using y.symm)
        clear hde
        go_wp2_with fail
        (try simp only [hw1, hw2, hz])
        go_wp2_with fail
        (try simp only [hw1, hw2, hz])
        refine hs.mono ?_
        rintro _ w3 ⟨rfl, u3⟩
        have hu3 := hu2.trans u3
        clear hs hu2 u3 hw1 hw2 hz a0 a1 e0 e1 p0 p1 q0' q1'
        go_wp2
        go_ret
        exact ⟨ret_bool hrt.out, hu3⟩
      | true =>
        rw [hde] at hs
        have HT' : Hid (ds.take (k + 1) = es.take (k + 1)) := by
          have x : d = e := by simpa using hde
          show ds.take (k + 1) = es.take (k + 1)
          rw [take_snoc HDE.out.1, take_snoc HDE.out.2, HT.out, x]
        clear hde
        go_wp2_with fail
        (try simp only [hw1, hw2, hz])
        go_wp2_with fail
        (try simp only [hw1, hw2, hz])
        refine hs.mono ?_
        rintro _ w3 ⟨rfl, u3⟩
        have hu3 := hu2.trans u3
        clear hs hu2 u3 hw1 hw2 hz a0 a1 e0 e1 p0 p1 q0' q1'
        go_wp2
        go_roundw
        case rel => first | exact ⟨k + 1, by omega, by go_num, HT'.out, hu3⟩ | ((repeat apply Exists.intro); exact ⟨⟨k + 1, by omega, by go_num, HT'.out, hu3⟩, rfl⟩)
        case measure => simp [intOf]; omega
    · obtain rfl : k = n := by omega
      have hrt : Hid (true = res) := by
        show true = res
        rw [← HD.out]
        symm
        have := HT.out
        rw [List.take_of_length_le (by omega), List.take_of_length_le (by omega)] at this
        simpa using this
      go_wp2
      go_ret
      exact ⟨ret_bool hrt.out, hu⟩
end Go.Proofs.Ythnbijnpbjfoaaa
/-
  judge's isTold: is each item the next one that its node told?
-/
namespace Go.Proofs.Ythnbijnpbjfoaaa
open Go.RowKit Go.Sort
set_option linter.unusedVariables false

/-- Numbers of one's own, counted up. -/
def Cnt (w : World) (g m : Nat) (f : Nat → Nat) : Prop := ∀ i, i < m → w.cell? ⟨g, i, none⟩ = some (.int .i64 (f i : Nat)) ∧ w.frozen? ⟨g, i, none⟩ = false
theorem Cnt.up {w w' : World} {g m : Nat} {f : Nat → Nat} (h : Cnt w g m f) (u : Below w.heap.size w w') : Cnt w' g m f := fun i hi => by
  obtain ⟨a, b⟩ := h i hi
  exact ⟨bl_cell u a, (u.frozen (World.block_lt_of_cell? w _ a)).trans b⟩
theorem Cnt.set {w : World} {g m i v : Nat} {f : Nat → Nat} (h : Cnt w g m f) (hi : i < m) : Cnt (w.setCell ⟨g, i, none⟩ (.int .i64 (v : Nat))) g m (fun j => if j = i then v else f j) := fun j hj => by
  obtain ⟨a, b⟩ := h j hj
  refine ⟨?_, by rw [World.frozen?_setCell]; exact b⟩
  by_cases e : j = i
  · subst e
    dsimp only
    rw [if_pos rfl]
    exact World.cell?_setCell_same' _ _ _ (by rw [a]; rfl)
  · dsimp only
    rw [if_neg e]
    exact setCell_other' (by simp <;> exact e) a
theorem Cnt.made (w : World) (m : Nat) : Cnt (w.alloc (.cells (madeCells #[.int .i64 0] m) 3)) w.heap.size m (fun _ => 0) := fun i hi => by
  have hb : (w.alloc (.cells (madeCells #[.int .i64 0] m) 3)).heap[w.heap.size]? = some (.cells (madeCells #[.int .i64 0] m) 3 (0, 0)) := heap_alloc_new _ _
  refine ⟨?_, by unfold World.frozen?; rw [hb]; simp⟩
  unfold World.cell?
  rw [hb]
  have : (madeCells #[.int .i64 0] m)[i]? = some (.int .i64 0) := by
    rw [← Array.getElem?_toList, toList_madeCells_one, List.getElem?_replicate, if_pos hi]
  simpa using this
theorem info3 : (Try.prog.info? 3).map (fun i => (i.zero, i.size, i.bytes)) = some (some (.int .i64 0), 1, 8) := by kernel_rfl
theorem und31 : Try.prog.underlying 31 = some (.slice 3) := by kernel_rfl
theorem make31 (M : Nat) (hM : M ≤ 10000) (u : World) : (Instr.makeSlice 31 (.int .i64 (M : Nat)) (.int .i64 (M : Nat))).run Try.prog u = .ok (.slice (some ⟨u.heap.size, 0, none⟩) M M) (u.alloc (.cells (madeCells #[.int .i64 0] M) 3)) := by
  obtain ⟨i0, hi, hz0, hz1, hz2⟩ := info_parts info3
  have h := run_make (P := Try.prog) u 31 3 i0 _ und31 hi hz0 .i64 .i64 (M : Int) (M : Int) (by omega) (Int.le_refl _) (by rw [hz2]; omega) (by omega)
  simpa [hz1, Value.cells] using h

/-- What the comparison reads: what its node told there, and the item's bytes. -/
def T8 (b o x : Nat) (f : Int) (r s : Sr) (ys zs : By) (w : World) : Prop :=
  w.cell? ⟨b, o, none⟩ = some (.slice r.1 r.2.1 r.2.2) ∧ w.cell? ⟨x, 0, none⟩ = some (.int .i64 f) ∧ w.cell? ⟨x, 1, none⟩ = some (.slice s.1 s.2.1 s.2.2) ∧ Rw (fun _ => True) w r.1 r.2.1 ys ∧ Rw (fun _ => True) w s.1 s.2.1 zs
theorem T8.up {b o x : Nat} {f : Int} {r s : Sr} {ys zs : By} {w w' : World} (h : T8 b o x f r s ys zs w) (u : Below w.heap.size w w') : T8 b o x f r s ys zs w' :=
  ⟨bl_cell u h.1, bl_cell u h.2.1, bl_cell u h.2.2.1, h.2.2.2.1.up u, h.2.2.2.2.up u⟩
def X8 (x : Nat) (f : Int) (w : World) : Prop := w.cell? ⟨x, 0, none⟩ = some (.int .i64 f)
def ToldPost (w : World) (S : List Di) (acc : List (List By)) (e : Ending) (w' : World) : Prop := (∃ b : Bool, e = .returned (.bool b) ∧ (b = true ↔ Told S acc)) ∧ Up w w'
theorem ToldPost.no {w w' : World} {S : List Di} {acc : List (List By)} (h : ¬ Told S acc) (u : Up w w') : ToldPost w S acc (.returned (.bool false)) w' := ⟨⟨false, rfl, by simp [h]⟩, u⟩
set_option maxRecDepth 10000 in
set_option maxHeartbeats 2000000 in
theorem told_any (w : World) (ao : Option Addr) (n cap : Nat) (S : List Di) (h : Its (fun _ => True) w ao n S) (bo : Option Addr) (m bc : Nat) (acc : List (List By)) (g : Bss w bo m acc) (hm : m ≤ 10000) :
    Calls Try.prog 32 #[.slice ao n cap, .slice bo m bc] w fun e w' => ToldPost w S acc e w' := by
  have hl := h.len
  have hl2 := g.len
  have hn := h.le
  have HI : Hid (Its (fun _ => True) w ao n S ∧ Bss w bo m acc) := ⟨h, g⟩
  have hmk := make31 m hm
  have hc0 := Cnt.made w m
  obtain ⟨w0, hw0⟩ : ∃ w0, w.alloc (.cells (madeCells #[.int .i64 0] m) 3) = w0 := ⟨_, rfl⟩
  rw [hw0] at hc0
  have u0 : Up w w0 := by rw [← hw0]; exact (Up.refl _).alloc _
  have HC0 : Hid (Cnt w0 w.heap.size m (fun _ => 0)) := hc0
  have hGlt : w.heap.size < w0.heap.size := by rw [← hw0]; simp
  have hwG : Hid (w.heap.size = w.heap.size) := rfl
  obtain ⟨G, hG⟩ : ∃ G, w.heap.size = G := ⟨_, rfl⟩
  have HG : Hid (w.heap.size = G) := hG
  simp only [hG] at HC0 hmk hGlt
  clear h g hc0 hG hwG
  go_enter Try.func32, Try.ntmps32
  go_wp2_with fail
  (try simp only [HG.out])
  clear hw0 hmk
  go_loopw [7, 8, 9, 15] (fun _ _ _ iv wr => ∃ k : Nat, k ≤ n ∧ iv = .int .i64 (k : Nat) ∧ (∀ j d, j < k → S[j]? = some d → Nxt S acc j d) ∧ Cnt wr G m (fun i => cnt (S.take k) i) ∧ Up w wr ∧ G < wr.heap.size) (fun _ _ _ iv _ => n - (intOf iv).toNat)
  case atStart => exact ⟨0, by omega, rfl, fun j d hj => by omega, by simpa [cnt] using HC0.out, u0, hGlt⟩
  case round =>
    clear HC0 hGlt u0
    obtain ⟨k, hk, rfl, hno, hcnt, hu, hGr⟩ := hrel
    have HT : Hid ((∀ j d, j < k → S[j]? = some d → Nxt S acc j d) ∧ Cnt wr G m (fun i => cnt (S.take k) i)) := ⟨hno, hcnt⟩
    clear hno hcnt
    by_cases hlt : k < n
    · have hltI : (k : Int) < (n : Int) := by omega
      have hk0 : ¬ ((k : Int) < 0) := by omega
      obtain ⟨d, hd⟩ : ∃ d, S[k]? = some d := ⟨S[k]'(by omega), List.getElem?_eq_getElem (by omega)⟩
      obtain ⟨b1, o1, s, hao, p0, p1, ps⟩ := (HI.out.1.up hu.bl).at hd
      have HD : Hid (S[k]? = some d ∧ Rw (fun _ => True) wr s.1 s.2.1 d.2) := ⟨hd, ps⟩
      obtain ⟨w1, hw1⟩ : ∃ w1, wr.alloc (.cells #[.int .i64 d.1, .slice s.1 s.2.1 s.2.2] 34) = w1 := ⟨_, rfl⟩
      have u1 : Up wr w1 := by rw [← hw1]; exact (Up.refl _).alloc _
      obtain ⟨X, hX⟩ : ∃ X, wr.heap.size = X := ⟨_, rfl⟩
      have x0 : w1.cell? ⟨X, 0, none⟩ = some (.int .i64 d.1) := by rw [← hw1, ← hX]; exact cell_box wr _ 34 0 _ rfl
      have x1 : w1.cell? ⟨X, 1, none⟩ = some (.slice s.1 s.2.1 s.2.2) := by rw [← hw1, ← hX]; exact cell_box wr _ 34 1 _ rfl
      have hu1 := hu.trans u1
      have HGX : Hid (G < X) := by show G < X; omega
      have HU1 : Hid (Up wr w1) := u1
      subst hao
      clear hd ps u1
      obtain ⟨f, zs⟩ := d
      obtain ⟨sa, sn, sc⟩ := s
      simp only at p0 p1 x0 x1 HD hw1
      by_cases hneg : f < 0
      · go_wp2_with fail
        (try simp only [hX, hw1])
        go_wp2
        go_ret
        refine ToldPost.no (not_told HD.out.1 (fun hx => ?_)) hu1
        have := hx.1
        simp only at this
        omega
      · by_cases hge : f ≥ (m : Int)
        · go_wp2_with fail
          (try simp only [hX, hw1])
          go_wp2
          go_ret
          refine ToldPost.no (not_told HD.out.1 (fun hx => ?_)) hu1
          obtain ⟨_, own, ho, _⟩ := hx
          have := (List.getElem?_eq_some_iff.1 ho).1
          simp only at this
          omega
        · obtain ⟨fn, rfl⟩ : ∃ fn : Nat, f = (fn : Int) := ⟨f.toNat, by omega⟩
          have hfm : fn < m := by omega
          have hfmI : (fn : Int) < (m : Int) := by omega
          have hge2 : ¬ ((m : Int) ≤ (fn : Int)) := by omega
          obtain ⟨own, ho⟩ : ∃ own, acc[fn]? = some own := ⟨acc[fn]'(by omega), List.getElem?_eq_getElem (by omega)⟩
          obtain ⟨b2, o2, q, rfl, q0, hqc, hqb⟩ := (HI.out.2.up hu1.bl).at ho
          obtain ⟨cc, hcc⟩ : ∃ cc, cnt (S.take k) (fn : Int) = cc := ⟨_, rfl⟩
          have hcle : cc ≤ 4398046511104 := by have := cnt_le S (fn : Int) k; omega
          have y0 := ((HT.out.2.up HU1.out.bl) fn hfm).1
          simp only [hcc] at y0
          have HQ : Hid (acc[fn]? = some own ∧ Bs w1 q.1 q.2.1 own ∧ own.length = q.2.1 ∧ cnt (S.take k) (fn : Int) = cc) := ⟨ho, hqb, hqb.len, hcc⟩
          obtain ⟨qa, qn, qc⟩ := q
          simp only at HQ q0
          clear ho hqb hqc hcc
          go_wp2_with fail
          (try simp only [hX, hw1])
          clear hw1 p0 p1
          go_wp2_with fail
          go_quiet (fail)
          obtain ⟨w2, hw2⟩ : ∃ w2, w1.drewN nq = w2 := ⟨_, rfl⟩
          have u2 : Up w1 w2 := by rw [← hw2]; exact (Up.refl _).drewN _
          (try simp only [hw2])
          have hu2 := hu1.trans u2
          have x0 := bl_cell u2.bl x0
          have x1 := bl_cell u2.bl x1
          have HU2 : Hid (Up wr w2) := HU1.out.trans u2
          by_cases hcl : cc = qn
          · subst hcl
            have s0 : X8 X (fn : Int) w2.drew := bl_cell ((Up.refl w2).drew).bl x0
            clear hw2 u2 y0 q0
            go_wp2_with fail
            refine wp_region_noPanic ?_
            refine wp_region_held_drew (S := X8 X (fn : Int)) (by kernel_rfl) (s0) (fun hHeld => ?_)
            unfold X8 at hHeld
            refine tq 0 ?_
            refine tq 1 ?_
            refine tq 2 ?_
            refine tq 3 ?_
            refine tq 4 ?_
            refine tqS 5 ?_
            refine tqS 6 ?_
            refine tqS 7 ?_
            refine tqS 8 ?_
            refine tqS 9 ?_
            refine tqS 10 ?_
            refine tqS 11 ?_
            refine tqS 12 ?_
            refine tq 13 ?_
            refine wpAnyH_done (by kernel_rfl) ?_ _
            refine NoPanic.normal ?_
            go_wp2
            go_ret
            refine ToldPost.no (not_told HD.out.1 (fun hx => ?_)) hu2.drew
            obtain ⟨_, own', ho, hv⟩ := hx
            simp only [Int.toNat_natCast] at ho
            rw [HQ.out.1] at ho
            cases ho
            simp only [HQ.out.2.2.2] at hv
            have := (List.getElem?_eq_some_iff.1 hv).1
            have := HQ.out.2.2.1
            omega
          · have hclB : ((cc : Int) == (qn : Int)) = false := by simp; omega
            have hcm := cnt_own HQ.out.1 k (by omega) HT.out.1
            rw [HQ.out.2.2.2, HQ.out.2.2.1] at hcm
            have hcq : cc < qn := by omega
            clear hcm
            have hcqI : (cc : Int) < (qn : Int) := by omega
            have hcc0 : ¬ ((cc : Int) < 0) := by omega
            obtain ⟨ys, hy⟩ : ∃ ys, own[cc]? = some ys := ⟨own[cc]'(by have := HQ.out.2.2.1; omega), List.getElem?_eq_getElem _⟩
            obtain ⟨b3, o3, r, rfl, r0, _, hry⟩ := (Bs.up HQ.out.2.1 u2.bl).at hy
            have hrs := HD.out.2.up HU2.out.bl
            have HY : Hid (own[cc]? = some ys) := hy
            obtain ⟨ra, rn, rc⟩ := r
            simp only at r0 hry
            have s0 : T8 b3 (o3 + cc) X (fn : Int) (ra, rn, rc) (sa, sn, sc) ys zs w2 := ⟨r0, x0, x1, hry, hrs⟩
            have sd := s0.up ((Up.refl w2).drew).bl
            have hbq := fun (W : World) (h : T8 b3 (o3 + cc) X (fn : Int) (ra, rn, rc) (sa, sn, sc) ys zs W) => beq_any (fun _ => True) (fun _ => True) W ra sa rn rc sn sc ys zs h.2.2.2.1 h.2.2.2.2
            have y2 := (HT.out.2.up HU2.out.bl)
            have HC2 : Hid (Cnt w2 G m (fun i => cnt (S.take k) i)) := y2
            clear hw2 u2 y0 q0 s0 hry hrs r0 hy y2 x0 x1
            (try simp only at hbq)
            cases heq : decide (ys = zs) with
            | false =>
              simp only [heq] at hbq
              go_wp2_with fail
              refine wp_region_noPanic ?_
              refine wp_region_held_drew (S := T8 b3 (o3 + cc) X (fn : Int) (ra, rn, rc) (sa, sn, sc) ys zs) (by kernel_rfl) (sd) (fun hHeld => ?_)
              unfold T8 at hHeld
              refine tq 0 ?_
              refine tq 1 ?_
              refine tq 2 ?_
              refine tq 3 ?_
              refine tq 4 ?_
              refine tq 5 ?_
              refine tq 6 ?_
              refine tq 7 ?_
              refine tq 8 ?_
              refine tq 9 ?_
              refine tq 10 ?_
              refine comes_up 11 rfl (by kernel_rfl) (fun K hK => ?_)
              go_simp
              refine (hbq _ hHeld).mono ?_
              rintro _ w3 ⟨rfl, u3⟩
              refine hK.out _ _ (T8.up hHeld u3.bl) (fun hHeld => ?_)
              clear hK K
              (try simp only [Act.put, List.setIfInBounds_toArray, List.set_cons_zero, List.set_cons_succ])
              refine tq 12 ?_
              refine tq 13 ?_
              refine wpAnyH_done (by kernel_rfl) ?_ _
              refine NoPanic.normal ?_
              go_wp2
              go_ret
              refine ToldPost.no (not_told HD.out.1 (fun hx => ?_)) ((hu2.drew).trans u3)
              obtain ⟨_, own', ho, hv⟩ := hx
              simp only [Int.toNat_natCast] at ho
              rw [HQ.out.1] at ho
              cases ho
              simp only [HQ.out.2.2.2] at hv
              rw [HY.out] at hv
              cases hv
              simp at heq
            | true =>
              simp only [heq] at hbq
              have hyz : ys = zs := by simpa using heq
              have HN : Hid (∀ j d, j < k + 1 → S[j]? = some d → Nxt S acc j d) := by
                intro j d hj hjd
                by_cases e : j = k
                · subst e
                  rw [HD.out.1] at hjd
                  cases hjd
                  refine ⟨by simp, own, by simp only [Int.toNat_natCast]; exact HQ.out.1, ?_⟩
                  simp only [HQ.out.2.2.2]
                  rw [HY.out, hyz]
                · exact HT.out.1 j d (by omega) hjd
              clear hyz heq
              go_wp2_with fail
              refine wp_region_noPanic ?_
              refine wp_region_held_drew (S := T8 b3 (o3 + cc) X (fn : Int) (ra, rn, rc) (sa, sn, sc) ys zs) (by kernel_rfl) (sd) (fun hHeld => ?_)
              unfold T8 at hHeld
              refine tq 0 ?_
              refine tq 1 ?_
              refine tq 2 ?_
              refine tq 3 ?_
              refine tq 4 ?_
              refine tq 5 ?_
              refine tq 6 ?_
              refine tq 7 ?_
              refine tq 8 ?_
              refine tq 9 ?_
              refine tq 10 ?_
              refine comes_up 11 rfl (by kernel_rfl) (fun K hK => ?_)
              go_simp
              refine (hbq _ hHeld).mono ?_
              rintro _ w3 ⟨rfl, u3⟩
              have HH : Hid (T8 b3 (o3 + cc) X (fn : Int) (ra, rn, rc) (sa, sn, sc) ys zs w3) := T8.up hHeld u3.bl
              refine hK.out _ _ (HH.out) (fun hHeld => ?_)
              clear hK K
              (try simp only [Act.put, List.setIfInBounds_toArray, List.set_cons_zero, List.set_cons_succ])
              refine tq 12 ?_
              refine tq 13 ?_
              refine wpAnyH_done (by kernel_rfl) ?_ _
              refine NoPanic.normal ?_
              have x0 := HH.out.2.1
              have u23 : Up w2 w3 := ((Up.refl w2).drew).trans u3
              have hu3 := hu2.trans u23
              have hc3 := HC2.out.up u23.bl
              obtain ⟨y3, fz3⟩ := hc3 fn hfm
              simp only [HQ.out.2.2.2] at y3
              obtain ⟨w4, hw4⟩ : ∃ w4, w3.setCell ⟨G, fn, none⟩ (.int .i64 ((cc + 1 : Nat) : Int)) = w4 := ⟨_, rfl⟩
              have HC4 : Hid (Cnt w4 G m (fun i => cnt (S.take (k + 1)) i) ∧ Up w w4 ∧ G < w4.heap.size) := by
                rw [← hw4]
                refine ⟨?_, ⟨hu3.bl.setCell (Nat.le_of_eq HG.out) _, hu3.dr⟩, by have := u23.bl.size; have := HGX.out; have := HU2.out.bl.size; simp [World.setCell]; omega⟩
                have hs := hc3.set (v := cc + 1) hfm
                intro i hi
                obtain ⟨a, b⟩ := hs i hi
                refine ⟨?_, b⟩
                rw [a]
                simp only
                rw [cnt_step HD.out.1]
                by_cases e : i = fn
                · subst e
                  rw [if_pos rfl, if_pos rfl, HQ.out.2.2.2]
                · have : ¬ ((fn : Int) = (i : Int)) := by omega
                  rw [if_neg e]
                  simp only [if_neg this, Nat.add_zero]
              clear hHeld sd hbq u3 u23
              have hw5 : w3.setCell ⟨G, fn, none⟩ (.int .i64 ((cc : Int) + 1)) = w4 := by rw [← hw4]; rfl
              go_wp2_with fail
              (try simp only [hw5])
              clear hw4 hw5
              go_roundw
              case rel => first | exact ⟨k + 1, by omega, by go_num, HN.out, HC4.out⟩ | ((repeat apply Exists.intro); exact ⟨⟨k + 1, by omega, by go_num, HN.out, HC4.out⟩, rfl⟩)
              case measure => simp [intOf]; omega
    · obtain rfl : k = n := by omega
      go_wp2
      go_ret
      exact ⟨⟨true, rfl, by simp; intro j d hj; exact HT.out.1 j d (by have := (List.getElem?_eq_some_iff.1 hj).1; omega) hj⟩, hu⟩
end Go.Proofs.Ythnbijnpbjfoaaa
/-
  judge's sequence and Total.
-/
namespace Go.Proofs.Ythnbijnpbjfoaaa
open Go.RowKit Go.Sort
set_option linter.unusedVariables false

/-- The one sequence, or none. -/
def SeqPost (w : World) (acc : List (List By)) (del : List (List Di)) (e : Ending) (w' : World) : Prop :=
  ((∃ (r : Sr) (S : List Di), e = .returned (.tuple #[.slice r.1 r.2.1 r.2.2, .bool true]) ∧ Cp r ∧ Its (fun _ => True) w' r.1 r.2.1 S ∧ SeqOk acc del S) ∨
    (e = .returned (.tuple #[.slice none 0 0, .bool false]) ∧ ¬ ∃ S, SeqOk acc del S)) ∧ Up w w'
theorem pref_all {del : List (List Di)} {S : List Di} {n : Nat} (hn : del.length ≤ n) (h : ∀ j l, j < n → del[j]? = some l → l = S.take l.length) : ∀ l ∈ del, l <+: S := fun l hl => by
  obtain ⟨j, hj, hm⟩ := List.mem_iff_getElem.1 hl
  rw [h j l (by omega) (by rw [List.getElem?_eq_getElem hj, hm])]
  exact List.take_prefix _ _
set_option maxRecDepth 10000 in
set_option maxHeartbeats 2000000 in
theorem seq_any (w : World) (ao : Option Addr) (m c1 : Nat) (acc : List (List By)) (h : Bss w ao m acc) (hm : m ≤ 10000) (bo : Option Addr) (n c2 : Nat) (del : List (List Di)) (g : Iss w bo n del) :
    Calls Try.prog 19 #[.slice ao m c1, .slice bo n c2] w fun e w' => SeqPost w acc del e w' := by
  have hl := g.len
  have hn := g.le
  have HI : Hid (Bss w ao m acc ∧ Iss w bo n del) := ⟨h, g⟩
  have hlo := longest_any w bo n c2 del g
  clear h g
  go_enter Try.func19, Try.ntmps19
  go_wp2_with fail
  refine hlo.mono ?_
  rintro e w1 ⟨⟨r, S, rfl, hcp, hits, hlng⟩, u1⟩
  have HS : Hid (Its (fun _ => True) w1 r.1 r.2.1 S ∧ Lng del n S ∧ S.length = r.2.1) := ⟨hits, hlng, hits.len⟩
  obtain ⟨ra, rn, rc⟩ := r
  obtain ⟨hcp1, hcp2, hcp3⟩ := hcp
  simp only at HS hcp1 hcp2 hcp3
  clear hlo hits hlng
  have HU1 : Hid (Up w w1) := u1
  have HC : Hid (rn ≤ rc ∧ rc ≤ 9223372036854775807 ∧ (ra = none → rc = 0)) := ⟨hcp1, hcp2, hcp3⟩
  have hrn : rn ≤ 4398046511104 := HS.out.1.le
  clear u1
  go_wp2_with fail
  go_loopw [8, 13] (fun _ iv wr => ∃ k : Nat, k ≤ n ∧ iv = .int .i64 (k : Nat) ∧ (∀ j l, j < k → del[j]? = some l → l = S.take l.length) ∧ Up w1 wr) (fun _ iv _ => n - (intOf iv).toNat)
  case atStart => exact ⟨0, by omega, rfl, fun j l hj => by omega, Up.refl _⟩
  case round =>
    obtain ⟨k, hk, rfl, hno, hu⟩ := hrel
    have HT : Hid (∀ j l, j < k → del[j]? = some l → l = S.take l.length) := hno
    clear hno
    by_cases hlt : k < n
    · have hltI : (k : Int) < (n : Int) := by omega
      have hk0 : ¬ ((k : Int) < 0) := by omega
      obtain ⟨l, hl⟩ : ∃ l, del[k]? = some l := ⟨del[k]'(by omega), List.getElem?_eq_getElem (by omega)⟩
      obtain ⟨b, off, r2, rfl, q0, hq, hi⟩ := (Iss.up HI.out.2 (HU1.out.trans hu).bl).at hl
      have hll := hi.len
      have hle : l.length ≤ S.length := HS.out.2.1.2 k l hlt hl
      have hsl := HS.out.2.2
      have HL : Hid (del[k]? = some l ∧ l.length = r2.2.1) := ⟨hl, hll⟩
      have hle2 : r2.2.1 ≤ rn := by omega
      have hit := (HS.out.1.up hu.bl).take hle2
      obtain ⟨sa, sn, sc⟩ := r2
      simp only at HL q0 hit hi hle2
      have hs0 : ¬ ((sn : Int) < 0) := by omega
      have hs1 : ¬ ((rc : Int) < (sn : Int)) := by omega
      have heq := fun c => eqf_any wr sa ra sn sc c l (S.take sn) hi hit
      obtain ⟨db, HDB⟩ : ∃ db, Hid (decide (l = S.take sn) = db) := ⟨_, rfl⟩
      rw [HDB.out] at heq
      clear hl hq hi hll hle hsl hit
      cases ra with
      | none =>
        obtain rfl : rc = 0 := hcp3 rfl
        obtain rfl : rn = 0 := by omega
        obtain rfl : sn = 0 := by omega
        cases db with
        | false =>
          go_wp2_with fail
          refine (heq _).mono ?_
          rintro _ w3 ⟨rfl, u3⟩
          have hu3 := HU1.out.trans (hu.trans u3)
          clear heq u3 q0
          go_wp2
          go_ret2
          refine ⟨.inr ⟨rfl, ?_⟩, hu3⟩
          refine no_prefix (S := S) (by rw [‹del.length = n›]; exact HS.out.2.1) (List.mem_of_getElem? HL.out.1) ?_
          rw [HL.out.2]
          exact of_decide_eq_false HDB.out
        | true =>
          go_wp2_with fail
          refine (heq _).mono ?_
          rintro _ w3 ⟨rfl, u3⟩
          have hu3 := hu.trans u3
          clear heq u3 q0
          have HN : Hid (∀ j l, j < k + 1 → del[j]? = some l → l = S.take l.length) := fun j l' hj hm => by
            by_cases e : j = k
            · subst e; rw [HL.out.1] at hm; cases hm; rw [HL.out.2]; exact of_decide_eq_true HDB.out
            · exact HT.out j l' (by omega) hm
          go_wp2
          go_roundw
          case rel => first | exact ⟨k + 1, by omega, by go_num, HN.out, hu3⟩ | ((repeat apply Exists.intro); exact ⟨⟨k + 1, by omega, by go_num, HN.out, hu3⟩, rfl⟩)
          case measure => simp [intOf]; omega
      | some aw =>
        cases db with
        | false =>
          go_wp2_with fail
          refine (heq _).mono ?_
          rintro _ w3 ⟨rfl, u3⟩
          have hu3 := HU1.out.trans (hu.trans u3)
          clear heq u3 q0
          go_wp2
          go_ret2
          refine ⟨.inr ⟨rfl, ?_⟩, hu3⟩
          refine no_prefix (S := S) (by rw [‹del.length = n›]; exact HS.out.2.1) (List.mem_of_getElem? HL.out.1) ?_
          rw [HL.out.2]
          exact of_decide_eq_false HDB.out
        | true =>
          go_wp2_with fail
          refine (heq _).mono ?_
          rintro _ w3 ⟨rfl, u3⟩
          have hu3 := hu.trans u3
          clear heq u3 q0
          have HN : Hid (∀ j l, j < k + 1 → del[j]? = some l → l = S.take l.length) := fun j l' hj hm => by
            by_cases e : j = k
            · subst e; rw [HL.out.1] at hm; cases hm; rw [HL.out.2]; exact of_decide_eq_true HDB.out
            · exact HT.out j l' (by omega) hm
          go_wp2
          go_roundw
          case rel => first | exact ⟨k + 1, by omega, by go_num, HN.out, hu3⟩ | ((repeat apply Exists.intro); exact ⟨⟨k + 1, by omega, by go_num, HN.out, hu3⟩, rfl⟩)
          case measure => simp [intOf]; omega
    · obtain rfl : k = n := by omega
      have hto := told_any wr ra rn rc S (HS.out.1.up hu.bl) ao m c1 acc (Bss.up HI.out.1 (HU1.out.trans hu).bl) hm
      go_wp2_with fail
      refine hto.mono ?_
      rintro _ w3 ⟨⟨b, rfl, hb⟩, u3⟩
      have hu3 := HU1.out.trans (hu.trans u3)
      have hsl := hu.trans u3
      have HB : Hid (b = true ↔ Told S acc) := hb
      clear hto u3 hb
      cases b with
      | false =>
        go_wp2
        go_ret2
        refine ⟨.inr ⟨rfl, ?_⟩, hu3⟩
        refine no_told (S := S) (by rw [‹del.length = k›]; exact HS.out.2.1) (fun ht => ?_)
        have := HB.out.2 ht
        cases this
      | true =>
        go_wp2
        go_ret2
        refine ⟨.inl ⟨(ra, rn, rc), S, rfl, HC.out, HS.out.1.up hsl.bl, pref_all (n := k) (by omega) HT.out, HS.out.2.1.1, HB.out.1 (by trivial)⟩, hu3⟩

/-- .. in memory of its own. -/
def TotPost (w : World) (acc : List (List By)) (del : List (List Di)) (e : Ending) (w' : World) : Prop :=
  ((∃ (r : Sr) (S : List Di), e = .returned (.tuple #[.slice r.1 r.2.1 r.2.2, .bool true]) ∧ Its (fun _ => True) w' r.1 r.2.1 S ∧ SeqOk acc del S) ∨
    (∃ r : Sr, e = .returned (.tuple #[.slice r.1 r.2.1 r.2.2, .bool false]) ∧ Its (fun _ => True) w' r.1 r.2.1 [] ∧ ¬ ∃ S, SeqOk acc del S)) ∧ Below w.heap.size w w'
set_option maxRecDepth 10000 in
set_option maxHeartbeats 1000000 in
theorem total_any (w : World) (ao : Option Addr) (m c1 : Nat) (acc : List (List By)) (h : Bss w ao m acc) (hm : m ≤ 10000) (bo : Option Addr) (n c2 : Nat) (del : List (List Di)) (g : Iss w bo n del) :
    Calls Try.prog 11 #[.slice ao m c1, .slice bo n c2] w fun e w' => TotPost w acc del e w' := by
  have hs := seq_any w ao m c1 acc h hm bo n c2 del g
  clear h g
  go_enter Try.func11, Try.ntmps11
  go_wp2_with fail
  refine hs.mono ?_
  rintro _ w1 ⟨hp, u1⟩
  clear hs
  rcases hp with ⟨r, S, rfl, hcp, hits, hok⟩ | ⟨rfl, hno⟩
  · obtain ⟨ra, rn, rc⟩ := r
    simp only at hits
    have hc := copied_any (fun _ => True) w1 ra rn rc S hits
    have HO : Hid (SeqOk acc del S) := hok
    clear hits hok hcp
    go_wp2_with fail
    refine hc.mono ?_
    rintro _ w2 ⟨ao', cap', rfl, hi2, b2⟩
    have HE : Hid (Its (fun _ => True) w2 ao' rn S ∧ Below w.heap.size w w2) := ⟨hi2.imp (fun _ _ _ => trivial), bl_step u1.bl b2⟩
    clear hc hi2 b2 u1
    go_wp2
    go_ret2
    exact ⟨.inl ⟨(ao', rn, cap'), S, rfl, HE.out.1, HO.out⟩, HE.out.2⟩
  · have hc := copied_any (fun _ => True) w1 none 0 0 [] (Its.nil0 _ _)
    have HO : Hid (¬ ∃ S, SeqOk acc del S) := hno
    clear hno
    go_wp2_with fail
    refine hc.mono ?_
    rintro _ w2 ⟨ao', cap', rfl, hi2, b2⟩
    have HE : Hid (Its (fun _ => True) w2 ao' 0 [] ∧ Below w.heap.size w w2) := ⟨hi2.imp (fun _ _ _ => trivial), bl_step u1.bl b2⟩
    clear hc hi2 b2 u1
    go_wp2
    go_ret2
    exact ⟨.inr ⟨(ao', 0, cap'), rfl, HE.out.1, HO.out⟩, HE.out.2⟩
end Go.Proofs.Ythnbijnpbjfoaaa
/-
  The document's One.
-/
namespace Go.Proofs.Ythnbijnpbjfoaaa
open Go.RowKit Go.Sort
set_option linter.unusedVariables false

/-- What the comparison of two lists' items reads. -/
def Two3 (b o i : Nat) (q : Sr) (b1 o1 b2 o2 : Nat) (d e : Di) (r s : Sr) (wx : World) : Prop :=
  wx.cell? ⟨b, o + i, none⟩ = some (.slice q.1 q.2.1 q.2.2) ∧ TwoI b1 o1 b2 o2 d e r s wx
def Two4 (b o i : Nat) (q : Sr) (b1 o1 b2 o2 : Nat) (f f' : Int) (xs ys : By) (r s : Sr) (wx : World) : Prop :=
  wx.cell? ⟨b, o + i, none⟩ = some (.slice q.1 q.2.1 q.2.2) ∧
  wx.cell? ⟨b1, o1, none⟩ = some (.int .i64 f) ∧ wx.cell? ⟨b1, o1 + 1, none⟩ = some (.slice r.1 r.2.1 r.2.2) ∧ (convert 30 9 (.slice r.1 r.2.1 r.2.2)).run Try.prog wx = .ok (.string (str xs)) wx ∧
  wx.cell? ⟨b2, o2, none⟩ = some (.int .i64 f') ∧ wx.cell? ⟨b2, o2 + 1, none⟩ = some (.slice s.1 s.2.1 s.2.2) ∧ (convert 30 9 (.slice s.1 s.2.1 s.2.2)).run Try.prog wx = .ok (.string (str ys)) wx
/-- What the comparison with what was accepted reads. -/
def Two5 (b o i : Nat) (q : Sr) (b1 o1 b2 o2 : Nat) (xs ys : By) (r s : Sr) (wx : World) : Prop :=
  wx.cell? ⟨b, o + i, none⟩ = some (.slice q.1 q.2.1 q.2.2) ∧
  wx.cell? ⟨b1, o1, none⟩ = some (.slice r.1 r.2.1 r.2.2) ∧ (convert 30 9 (.slice r.1 r.2.1 r.2.2)).run Try.prog wx = .ok (.string (str xs)) wx ∧
  wx.cell? ⟨b2, o2, none⟩ = some (.slice s.1 s.2.1 s.2.2) ∧ (convert 30 9 (.slice s.1 s.2.1 s.2.2)).run Try.prog wx = .ok (.string (str ys)) wx
def Two6 (b o i : Nat) (q : Sr) (wx : World) : Prop := wx.cell? ⟨b, o + i, none⟩ = some (.slice q.1 q.2.1 q.2.2) ∧ True
theorem und25' : Try.prog.underlying 25 = some (.slice 34) := by kernel_rfl

set_option maxRecDepth 10000 in
set_option maxHeartbeats 4000000 in
theorem one_any (w : World) (ao : Option Addr) (m c1 : Nat) (acc : List (List By)) (h : Bss w ao m acc) (bo : Option Addr) (n c2 : Nat) (del : List (List Di)) (g : Iss w bo n del) (hs : ∀ l ∈ del, l.length ≤ 9000) :
    Calls Try.prog 21 #[.slice ao m c1, .slice bo n c2] w fun e w' => TotPost w acc del e w' := by
  have hl := g.len
  have hl2 := h.len
  have hn := g.le
  have hm := h.le
  have HI : Hid (Bss w ao m acc ∧ Iss w bo n del ∧ ∀ l ∈ del, l.length ≤ 9000) := ⟨h, g, hs⟩
  clear h g hs
  go_enter Try.func21, Try.ntmps21
  go_wp2_with fail
  go_loopw [6, 7, 8] (fun sv iv _ wr => ∃ (i : Nat) (S : List Di) (r : Sr), i ≤ n ∧ iv = .int .i64 (i : Nat) ∧ sv = .slice r.1 r.2.1 r.2.2 ∧ One del i S ∧ OwR w.heap.size wr r S ∧ Below w.heap.size w wr) (fun _ iv _ _ => n - (intOf iv).toNat)
  case atStart => exact ⟨0, [], (none, 0, 0), by omega, rfl, rfl, One.zero _, OwR.nil _ _, Below.refl _ _⟩
  case round =>
    obtain ⟨i, S0, r0, hi, rfl, rfl, hone, how, hbl⟩ := hrel
    by_cases hlt : i < n
    · have H0 : Hid (One del i S0 ∧ OwR w.heap.size wr r0 S0) := ⟨hone, how⟩
      clear hone how
      have hltI : (i : Int) < (n : Int) := by omega
      have hi0 : ¬ ((i : Int) < 0) := by omega
      obtain ⟨l, hdl⟩ : ∃ l, del[i]? = some l := ⟨del[i]'(by omega), List.getElem?_eq_getElem (by omega)⟩
      obtain ⟨b, off, q, rfl, q0, hqc, hqi⟩ := (Iss.up HI.out.2.1 (Below.refl _ _)).at hdl
      have hql := hqi.len
      have hq9 := HI.out.2.2 l (List.mem_of_getElem? hdl)
      have HQ : Hid (del[i]? = some l ∧ Its (fun _ => True) w q.1 q.2.1 l ∧ l.length = q.2.1 ∧ w.cell? ⟨b, off + i, none⟩ = some (.slice q.1 q.2.1 q.2.2)) := ⟨hdl, hqi, hql, q0⟩
      obtain ⟨qa, qn, qc⟩ := q
      simp only at HQ hql hq9
      clear hdl hqi hqc q0
      have hqn : qn ≤ 9000 := by omega
      have HWR : Hid (Below w.heap.size w wr) := hbl
      clear hbl hql hq9
      go_wp2_with fail
      go_loopw [6, 8] (fun sv kv wr => ∃ (k : Nat) (S : List Di) (r : Sr), k ≤ qn ∧ kv = .int .i64 (k : Nat) ∧ sv = .slice r.1 r.2.1 r.2.2 ∧ OneIn S0 l k S ∧ OwR w.heap.size wr r S ∧ Below w.heap.size w wr) (fun _ kv _ => qn - (intOf kv).toNat)
      case atStart => exact ⟨0, S0, r0, by omega, rfl, rfl, OneIn.zero _ _, H0.out.2, HWR.out⟩
      case round =>
        clear HWR
        obtain ⟨k, S, r, hk, rfl, rfl, hin, how, hbl⟩ := hrel
        obtain ⟨ra, rn, rc⟩ := r
        have hrn : rn = S.length := how.1
        have q0 := bl_cell hbl HQ.out.2.2.2
        have hql := HQ.out.2.2.1
        by_cases hkn : k < qn
        · have hknI : (k : Int) < (qn : Int) := by omega
          have hk0 : ¬ ((k : Int) < 0) := by omega
          have hkl : k ≤ S.length := hin.len (by omega)
          obtain ⟨d, hd⟩ : ∃ d, l[k]? = some d := ⟨l[k]'(by omega), List.getElem?_eq_getElem (by omega)⟩
          obtain ⟨b2, o2, t, rfl, t0, t1, ht⟩ := HQ.out.2.1.at hd
          have HD : Hid (l[k]? = some d ∧ Rw (fun _ => True) w t.1 t.2.1 d.2 ∧ w.cell? ⟨b2, o2 + k * 2, none⟩ = some (.int .i64 d.1) ∧ w.cell? ⟨b2, o2 + k * 2 + 1, none⟩ = some (.slice t.1 t.2.1 t.2.2)) := ⟨hd, ht, t0, t1⟩
          clear hd ht t0 t1
          obtain ⟨f, zs⟩ := d
          obtain ⟨ta, tn, tc⟩ := t
          simp only at HD
          by_cases hkS : k = S.length
          · have hrk : rn = k := by omega
            subst hrk
            have hS9 : S.length ≤ 10000 := by omega
            obtain ⟨xs, ho1, ho2, ho3⟩ := how.2
            simp only at ho1
            rw [← hkS] at ho1
            have HO : Hid (OneIn S0 l rn S ∧ xs.length = S.length ∧ ∀ (j : Nat) (x : Ix) (d : Di), xs[j]? = some x → S[j]? = some d → It (fun b => b < w.heap.size) wr x d) := ⟨hin, ho2, ho3⟩
            have t0 := bl_cell hbl HD.out.2.2.1
            have t1 := bl_cell hbl HD.out.2.2.2
            have hwl := hbl.size
            have HBL : Hid (Below w.heap.size w wr ∧ rn = S.length) := ⟨hbl, hkS⟩
            clear hin how ho2 ho3 hbl hkS hrn hS9
            go_wp2_with (at_builtin; refine wpList_append_gen rfl (.tmp 32) (.tmp 40) 25 34 rfl (.agg #[.int .i64 0, .slice none 0 0]) 2 32 und25' infoI rfl (by decide) (by omega) w.heap.size _ rn (cellI xs) rfl ?d1 [.int .i64 f, .slice ta tn tc] rfl ?d2 wr.heap.size rfl rfl ?d3 ?d4 ?_)
            case d2 => exact ⟨rfl, rfl⟩
            case d3 => omega
            intro v' w1 hown hgrow hat
            have hb1 : Below w.heap.size wr w1 := bl_grown (Below.refl _ _) hwl hgrow (fun kk hk => by
              have := own_shape ho1
              rcases this with ⟨e, _⟩ | ⟨g, cap, e, hg, _⟩
              · rw [e] at hk; simp [Value.ownBlock] at hk
              · rw [e] at hk; simp [Value.ownBlock] at hk; omega)
            have hb01 := HBL.out.1.trans hb1
            have hitd : It (fun b => b < w.heap.size) wr (f, ta, tn, tc) (f, zs) := ⟨rfl, ((HD.out.2.1.imp (q := fun b => b < w.heap.size) (fun b hb _ => hb)).keep (Kp.up HBL.out.1))⟩
            have how' := OwS.more (S := S) (x := (f, ta, tn, tc)) (d := (f, zs)) (by rw [← HBL.out.2]; exact hown) HO.out.2.1 HO.out.2.2 hb1 hitd
            obtain ⟨r', rfl, hor⟩ := how'.row
            have hl' : r'.2.1 = rn + 1 := by have := hor.1; simp at this; have := HBL.out.2; omega
            have hn9 : (S ++ [((f : Int), zs)]).length ≤ 4398046511104 := by have := HBL.out.2; simp; omega
            have hits := hor.its hn9
            have HN : Hid (OneIn S0 l (rn + 1) (S ++ [(f, zs)]) ∧ OwR w.heap.size w1.drew r' (S ++ [(f, zs)]) ∧ Below w.heap.size w w1.drew) := ⟨HO.out.1.grow HD.out.1 HBL.out.2.symm, hor.keep ((Up.refl w1).drew).bl hb01.size, hb01.drew⟩
            have hgk : (S ++ [(f, zs)])[rn]? = some (f, zs) := by rw [HBL.out.2, List.getElem?_append_right (Nat.le_refl _)]; simp
            have hbd := hb01.drew
            obtain ⟨b1, o1, s, hr', s0, s1, hsr⟩ := (hits.up ((Up.refl w1).drew).bl).at hgk
            have two : Two4 b off i (some ⟨b2, o2, none⟩, qn, qc) b1 (o1 + rn * 2) b2 (o2 + rn * 2) f f zs zs s (ta, tn, tc) w1.drew := ⟨bl_cell hbd HQ.out.2.2.2, s0, s1, conv_rw hsr, bl_cell hbd HD.out.2.2.1, bl_cell hbd HD.out.2.2.2, conv_rw (HD.out.2.1.up hbd)⟩
            have hbe := str_beq zs zs
            obtain ⟨ra', rn', rc'⟩ := r'
            simp only at hr' hl'
            subst hr' hl'
            have hrn2 : (rn : Int) < (rn : Int) + 1 := by omega
            clear hown hgrow hat hb1 hb01 hitd how' hor hits hgk hbd s0 s1 hsr q0 t0 t1 ho1 hn9
            go_wp2_with fail
            refine wp_region_noPanic ?_
            refine wp_region_held_drew (S := Two4 b off i (some ⟨b2, o2, none⟩, qn, qc) b1 (o1 + rn * 2) b2 (o2 + rn * 2) f f zs zs s (ta, tn, tc)) (by kernel_rfl) (two) (fun hHeld => ?_)
            unfold Two4 at hHeld
            refine tq 0 ?_
            refine tq 1 ?_
            refine tq 2 ?_
            refine tq 3 ?_
            refine tq 4 ?_
            refine tq 5 ?_
            refine tq 6 ?_
            refine tq 7 ?_
            refine tq 8 ?_
            refine tq 9 ?_
            refine tq 10 ?_
            refine tq 11 ?_
            refine tq 12 ?_
            refine tq 13 ?_
            refine tq 14 ?_
            refine tq 15 ?_
            refine tq 16 ?_
            refine tq 17 ?_
            refine tq 18 ?_
            refine tq 19 ?_
            refine tq 20 ?_
            refine tq 21 ?_
            refine tq 22 ?_
            refine tq 23 ?_
            refine tq 24 ?_
            refine tq 25 ?_
            refine tq 26 ?_
            refine tq 27 ?_
            refine tq 28 ?_
            refine tq 29 ?_
            refine tq 30 ?_
            refine tq 31 ?_
            refine wpAnyH_done (by kernel_rfl) ?_ _
            refine NoPanic.normal ?_
            go_wp2
            go_roundw
            case rel => first | exact ⟨rn + 1, S ++ [(f, zs)], _, by omega, by go_num, rfl, HN.out⟩ | ((repeat apply Exists.intro); exact ⟨⟨rn + 1, S ++ [(f, zs)], _, by omega, by go_num, rfl, HN.out⟩, rfl⟩)
            case measure => simp [intOf]; omega
          · have hkS2 : k < S.length := by omega
            have hS9 := hin.le (H0.out.1.le HI.out.2.2) (by omega : l.length ≤ 9000)
            obtain ⟨d', hd'⟩ : ∃ d', S[k]? = some d' := ⟨S[k]'(by omega), List.getElem?_eq_getElem (by omega)⟩
            obtain ⟨b1, o1, s, hr', s0, s1, hsr⟩ := ((how.its (by omega)).up ((Up.refl wr).drew).bl).at hd'
            have HK : Hid (OneIn S0 l k S ∧ S[k]? = some d' ∧ OwR w.heap.size wr (ra, rn, rc) S ∧ Below w.heap.size w wr) := ⟨hin, hd', how, hbl⟩
            have hbd := hbl.drew
            obtain ⟨f', ys⟩ := d'
            have two : Two4 b off i (some ⟨b2, o2, none⟩, qn, qc) b1 (o1 + k * 2) b2 (o2 + k * 2) f' f ys zs s (ta, tn, tc) wr.drew := ⟨bl_cell hbd HQ.out.2.2.2, s0, s1, conv_rw hsr, bl_cell hbd HD.out.2.2.1, bl_cell hbd HD.out.2.2.2, conv_rw (HD.out.2.1.up hbd)⟩
            have hbe := str_beq ys zs
            simp only at hr'
            subst hr'
            have hkb : ((k : Int) == (rn : Int)) = false := by simp; omega
            have hkI : (k : Int) < (rn : Int) := by omega
            clear hin how hbl hrn hql hkS hkS2 hS9 hd' hbd s0 s1 hsr hkl
            by_cases hf : f' = f
            · subst hf
              cases hde : decide (ys = zs) with
              | true =>
                rw [hde] at hbe
                have HN : Hid (OneIn S0 l (k + 1) S ∧ OwR w.heap.size wr.drew (some ⟨b1, o1, none⟩, rn, rc) S ∧ Below w.heap.size w wr.drew) := by
                  have e : ys = zs := of_decide_eq_true hde
                  subst e
                  exact ⟨HK.out.1.same HD.out.1 HK.out.2.1, HK.out.2.2.1.keep ((Up.refl wr).drew).bl HK.out.2.2.2.size, HK.out.2.2.2.drew⟩
                clear hde
                go_wp2_with fail
                refine wp_region_noPanic ?_
                refine wp_region_held_drew (S := Two4 b off i (some ⟨b2, o2, none⟩, qn, qc) b1 (o1 + k * 2) b2 (o2 + k * 2) f' f' ys zs s (ta, tn, tc)) (by kernel_rfl) (two) (fun hHeld => ?_)
                unfold Two4 at hHeld
                refine tq 0 ?_
                refine tq 1 ?_
                refine tq 2 ?_
                refine tq 3 ?_
                refine tq 4 ?_
                refine tq 5 ?_
                refine tq 6 ?_
                refine tq 7 ?_
                refine tq 8 ?_
                refine tq 9 ?_
                refine tq 10 ?_
                refine tq 11 ?_
                refine tq 12 ?_
                refine tq 13 ?_
                refine tq 14 ?_
                refine tq 15 ?_
                refine tq 16 ?_
                refine tq 17 ?_
                refine tq 18 ?_
                refine tq 19 ?_
                refine tq 20 ?_
                refine tq 21 ?_
                refine tq 22 ?_
                refine tq 23 ?_
                refine tq 24 ?_
                refine tq 25 ?_
                refine tq 26 ?_
                refine tq 27 ?_
                refine tq 28 ?_
                refine tq 29 ?_
                refine tq 30 ?_
                refine tq 31 ?_
                refine wpAnyH_done (by kernel_rfl) ?_ _
                refine NoPanic.normal ?_
                go_wp2
                go_roundw
                case rel => first | exact ⟨k + 1, S, _, by omega, by go_num, rfl, HN.out⟩ | ((repeat apply Exists.intro); exact ⟨⟨k + 1, S, _, by omega, by go_num, rfl, HN.out⟩, rfl⟩)
                case measure => simp [intOf]; omega
              | false =>
                rw [hde] at hbe
                have HNE : Hid (ys ≠ zs) := of_decide_eq_false hde
                clear hde
                go_wp2_with fail
                refine wp_region_noPanic ?_
                refine wp_region_held_drew (S := Two4 b off i (some ⟨b2, o2, none⟩, qn, qc) b1 (o1 + k * 2) b2 (o2 + k * 2) f' f' ys zs s (ta, tn, tc)) (by kernel_rfl) (two) (fun hHeld => ?_)
                unfold Two4 at hHeld
                refine tq 0 ?_
                refine tq 1 ?_
                refine tq 2 ?_
                refine tq 3 ?_
                refine tq 4 ?_
                refine tq 5 ?_
                refine tq 6 ?_
                refine tq 7 ?_
                refine tq 8 ?_
                refine tq 9 ?_
                refine tq 10 ?_
                refine tq 11 ?_
                refine tq 12 ?_
                refine tq 13 ?_
                refine tq 14 ?_
                refine tq 15 ?_
                refine tq 16 ?_
                refine tq 17 ?_
                refine tq 18 ?_
                refine tq 19 ?_
                refine tq 20 ?_
                refine tq 21 ?_
                refine tq 22 ?_
                refine tq 23 ?_
                refine tq 24 ?_
                refine tq 25 ?_
                refine tq 26 ?_
                refine tq 27 ?_
                refine tq 28 ?_
                refine tq 29 ?_
                refine tq 30 ?_
                refine tq 31 ?_
                refine wpAnyH_done (by kernel_rfl) ?_ _
                refine NoPanic.normal ?_
                go_wp2
                go_ret2
                refine ⟨.inr ⟨(none, 0, 0), rfl, Its.nil0 _ _, parts_no H0.out.1 HQ.out.1 HK.out.1 HD.out.1 HK.out.2.1 (fun e => HNE.out ?_)⟩, HK.out.2.2.2.drew⟩
                simpa using e
            · have hfn : (f' != f) = true := by simpa using hf
              have HNE : Hid (f' ≠ f) := hf
              clear hbe
              go_wp2_with fail
              refine wp_region_noPanic ?_
              refine wp_region_held_drew (S := Two4 b off i (some ⟨b2, o2, none⟩, qn, qc) b1 (o1 + k * 2) b2 (o2 + k * 2) f' f ys zs s (ta, tn, tc)) (by kernel_rfl) (two) (fun hHeld => ?_)
              unfold Two4 at hHeld
              refine tq 0 ?_
              refine tq 1 ?_
              refine tq 2 ?_
              refine tq 3 ?_
              refine tq 4 ?_
              refine tq 5 ?_
              refine tq 6 ?_
              refine tq 7 ?_
              refine tq 8 ?_
              refine tq 9 ?_
              refine tq 10 ?_
              refine tq 11 ?_
              refine tq 12 ?_
              refine tq 13 ?_
              refine tq 14 ?_
              refine tqS 15 ?_
              refine tqS 16 ?_
              refine tqS 17 ?_
              refine tqS 18 ?_
              refine tqS 19 ?_
              refine tqS 20 ?_
              refine tqS 21 ?_
              refine tqS 22 ?_
              refine tqS 23 ?_
              refine tqS 24 ?_
              refine tqS 25 ?_
              refine tqS 26 ?_
              refine tqS 27 ?_
              refine tqS 28 ?_
              refine tqS 29 ?_
              refine tqS 30 ?_
              refine tq 31 ?_
              refine wpAnyH_done (by kernel_rfl) ?_ _
              refine NoPanic.normal ?_
              go_wp2
              go_ret2
              refine ⟨.inr ⟨(none, 0, 0), rfl, Its.nil0 _ _, parts_no H0.out.1 HQ.out.1 HK.out.1 HD.out.1 HK.out.2.1 (fun e => HNE.out ?_)⟩, HK.out.2.2.2.drew⟩
              exact congrArg Prod.fst e
        · obtain rfl : k = qn := by omega
          have HE : Hid (One del (i + 1) S ∧ OwR w.heap.size wr (ra, rn, rc) S ∧ Below w.heap.size w wr) := ⟨hin.done' H0.out.1 HQ.out.1 hql, how, hbl⟩
          clear hin how hbl hrn hql
          go_wp2
          go_roundw
          case rel => first | exact ⟨i + 1, S, (ra, rn, rc), by omega, by go_num, rfl, HE.out⟩ | ((repeat apply Exists.intro); exact ⟨⟨i + 1, S, (ra, rn, rc), by omega, by go_num, rfl, HE.out⟩, rfl⟩)
          case measure => simp [intOf]; omega
    · obtain rfl : i = n := by omega
      obtain ⟨ra, rn, rc⟩ := r0
      have hrn : rn = S0.length := how.1
      have hS9 := hone.le HI.out.2.2
      have hits := how.its (by omega)
      have HS : Hid (Lng del del.length S0 ∧ (∀ l ∈ del, l <+: S0)) := by
        refine ⟨by rw [hl]; exact hone.lng, fun l hm => ?_⟩
        obtain ⟨j, hj, hm⟩ := List.mem_iff_getElem.1 hm
        exact hone.2 j l (by omega) (by rw [List.getElem?_eq_getElem hj, hm])
      simp only at hits
      have HB : Hid (Its (fun _ => True) wr ra rn S0 ∧ Below w.heap.size w wr) := ⟨hits, hbl⟩
      have hrn9 : rn ≤ 9000 := by omega
      have HRN : Hid (rn = S0.length) := hrn
      clear hone how hits hbl hS9 hrn
      go_wp2_with fail
      go_loopw [9] (fun jv wr => ∃ j : Nat, j ≤ rn ∧ jv = .int .i64 (j : Nat) ∧ Rng S0 m j ∧ Its (fun _ => True) wr ra rn S0 ∧ Below w.heap.size w wr) (fun jv _ => rn - (intOf jv).toNat)
      case atStart => exact ⟨0, by omega, rfl, Rng.zero _ _, HB.out⟩
      case round =>
        clear HB
        obtain ⟨j, hj, rfl, hrg, hits, hbl⟩ := hrel
        by_cases hjn : j < rn
        · have hjI : (j : Int) < (rn : Int) := by omega
          have hj0 : ¬ ((j : Int) < 0) := by omega
          obtain ⟨d, hd⟩ : ∃ d, S0[j]? = some d := ⟨S0[j]'(by have := HRN.out; omega), List.getElem?_eq_getElem _⟩
          obtain ⟨b1, o1, s, rfl, s0, s1, _⟩ := hits.at hd
          have HJ : Hid (Rng S0 m j ∧ Its (fun _ => True) wr (some ⟨b1, o1, none⟩) rn S0 ∧ Below w.heap.size w wr ∧ S0[j]? = some d) := ⟨hrg, hits, hbl, hd⟩
          clear hrg hits hbl hd
          obtain ⟨f, ys⟩ := d
          simp only at s0
          by_cases hneg : f < 0
          · go_wp2
            go_ret2
            refine ⟨.inr ⟨(none, 0, 0), rfl, Its.nil0 _ _, no_told HS.out.1 (not_rng HJ.out.2.2.2 (fun e => ?_))⟩, HJ.out.2.2.1⟩
            have := e.1
            simp only at this
            omega
          · by_cases hge : f ≥ (m : Int)
            · go_wp2
              go_ret2
              refine ⟨.inr ⟨(none, 0, 0), rfl, Its.nil0 _ _, no_told HS.out.1 (not_rng HJ.out.2.2.2 (fun e => ?_))⟩, HJ.out.2.2.1⟩
              have := e.2
              simp only at this
              omega
            · have hge2 : ¬ ((m : Int) ≤ f) := by omega
              have HN : Hid (Rng S0 m (j + 1)) := HJ.out.1.more HJ.out.2.2.2 (by simp only; omega) (by simp only; omega)
              go_wp2
              go_roundw
              case rel => first | exact ⟨j + 1, by omega, by go_num, HN.out, HJ.out.2.1, HJ.out.2.2.1⟩ | ((repeat apply Exists.intro); exact ⟨⟨j + 1, by omega, by go_num, HN.out, HJ.out.2.1, HJ.out.2.2.1⟩, rfl⟩)
              case measure => simp [intOf]; omega
        · obtain rfl : j = rn := by omega
          have HR : Hid (Rng S0 m S0.length) := by rw [← HRN.out]; exact hrg
          have HB : Hid (Its (fun _ => True) wr ra j S0 ∧ Below w.heap.size w wr) := ⟨hits, hbl⟩
          clear hrg hits hbl
          go_wp2_with fail
          go_loopw [10, 11, 12] (fun iv _ _ wr => ∃ i : Nat, i ≤ m ∧ iv = .int .i64 (i : Nat) ∧ (∀ i', i' < i → Ord1 S0 acc i' S0.length) ∧ Its (fun _ => True) wr ra j S0 ∧ Below w.heap.size w wr) (fun iv _ _ _ => m - (intOf iv).toNat)
          case atStart => exact ⟨0, by omega, rfl, fun i' hi' => by omega, HB.out⟩
          case round =>
            clear HB
            obtain ⟨i, hi, rfl, hor, hits, hbl⟩ := hrel
            by_cases him : i < m
            · have hiI : (i : Int) < (m : Int) := by omega
              have hi0 : ¬ ((i : Int) < 0) := by omega
              obtain ⟨own, hown⟩ : ∃ own, acc[i]? = some own := ⟨acc[i]'(by omega), List.getElem?_eq_getElem (by omega)⟩
              obtain ⟨b, off, q, rfl, q0, hqc, hqi⟩ := HI.out.1.at hown
              have HQ : Hid (acc[i]? = some own ∧ Bs w q.1 q.2.1 own ∧ own.length = q.2.1 ∧ w.cell? ⟨b, off + i, none⟩ = some (.slice q.1 q.2.1 q.2.2) ∧ (∀ i', i' < i → Ord1 S0 acc i' S0.length)) := ⟨hown, hqi, hqi.len, q0, hor⟩
              have HB : Hid (Its (fun _ => True) wr ra j S0 ∧ Below w.heap.size w wr) := ⟨hits, hbl⟩
              obtain ⟨qa, qn, qc⟩ := q
              clear hown hqi hqc q0 hor hits hbl
              go_wp2_with fail
              go_loopw [11, 12] (fun cv kv wr => ∃ k c : Nat, k ≤ j ∧ kv = .int .i64 (k : Nat) ∧ cv = .int .i64 (c : Nat) ∧ cnt (S0.take k) (i : Int) = c ∧ Ord1 S0 acc i k ∧ Its (fun _ => True) wr ra j S0 ∧ Below w.heap.size w wr) (fun _ kv _ => j - (intOf kv).toNat)
              case atStart => exact ⟨0, 0, by omega, rfl, rfl, rfl, Ord1.zero _ _ _, HB.out⟩
              case round =>
                clear HB
                obtain ⟨k, c, hk, rfl, rfl, hcc, hod, hits, hbl⟩ := hrel
                by_cases hkj : k < j
                · have hkI : (k : Int) < (j : Int) := by omega
                  have hk0 : ¬ ((k : Int) < 0) := by omega
                  obtain ⟨d, hd⟩ : ∃ d, S0[k]? = some d := ⟨S0[k]'(by have := HRN.out; omega), List.getElem?_eq_getElem _⟩
                  obtain ⟨b1, o1, s, rfl, s0, s1, hsr⟩ := hits.at hd
                  have q0 := bl_cell hbl HQ.out.2.2.2.1
                  have hcle := cnt_le S0 (i : Int) k
                  rw [hcc] at hcle
                  have HJ : Hid (cnt (S0.take k) (i : Int) = c ∧ Ord1 S0 acc i k ∧ Its (fun _ => True) wr (some ⟨b1, o1, none⟩) j S0 ∧ Below w.heap.size w wr ∧ S0[k]? = some d ∧ Rw (fun _ => True) wr s.1 s.2.1 d.2) := ⟨hcc, hod, hits, hbl, hd, hsr⟩
                  obtain ⟨f, ys⟩ := d
                  obtain ⟨sa, sn, sc⟩ := s
                  clear hcc hod hits hbl hd hsr
                  simp only at s0 s1
                  by_cases hfi : f = (i : Int)
                  · subst hfi
                    by_cases hcq : c < qn
                    · have hcqI : ¬ ((qn : Int) ≤ (c : Int)) := by omega
                      have hcqI2 : (c : Int) < (qn : Int) := by omega
                      have hc0 : ¬ ((c : Int) < 0) := by omega
                      obtain ⟨zs, hz⟩ : ∃ zs, own[c]? = some zs := ⟨own[c]'(by have := HQ.out.2.2.1; omega), List.getElem?_eq_getElem _⟩
                      have HZ : Hid (own[c]? = some zs) := hz
                      obtain ⟨b2, o2, t, hqa, t0, _, ht⟩ := (Bs.up HQ.out.2.1 (HJ.out.2.2.2.1.drew)).at hz
                      subst hqa
                      have hbd : Below wr.heap.size wr wr.drew := ((Up.refl wr).drew).bl
                      have five : Two5 b off i (some ⟨b2, o2, none⟩, qn, qc) b2 (o2 + c) b1 (o1 + k * 2 + 1) zs ys t (sa, sn, sc) wr.drew := ⟨bl_cell hbd q0, t0, conv_rw ht, bl_cell hbd s1, conv_rw (HJ.out.2.2.2.2.2.up hbd)⟩
                      have hbe := str_beq zs ys
                      clear hz t0 ht hbd
                      cases hde : decide (zs = ys) with
                      | true =>
                        rw [hde] at hbe
                        have HN : Hid (cnt (S0.take (k + 1)) (i : Int) = c + 1 ∧ Ord1 S0 acc i (k + 1) ∧ Its (fun _ => True) wr.drew (some ⟨b1, o1, none⟩) j S0 ∧ Below w.heap.size w wr.drew) := by
                          have e : zs = ys := of_decide_eq_true hde
                          subst e
                          exact ⟨cnt_more HJ.out.2.2.2.2.1 HJ.out.1 rfl, HJ.out.2.1.more HJ.out.2.2.2.2.1 HQ.out.1 HJ.out.1 HZ.out, HJ.out.2.2.1.up ((Up.refl wr).drew).bl, HJ.out.2.2.2.1.drew⟩
                        clear hde
                        go_wp2_with fail
                        refine wp_region_noPanic ?_
                        refine wp_region_held_drew (S := Two5 b off i (some ⟨b2, o2, none⟩, qn, qc) b2 (o2 + c) b1 (o1 + k * 2 + 1) zs ys t (sa, sn, sc)) (by kernel_rfl) (five) (fun hHeld => ?_)
                        unfold Two5 at hHeld
                        refine tq 0 ?_
                        refine tq 1 ?_
                        refine tq 2 ?_
                        refine tq 3 ?_
                        refine tq 4 ?_
                        refine tq 5 ?_
                        refine tq 6 ?_
                        refine tq 7 ?_
                        rw [show decide (qn ≤ c) = false from decide_eq_false (by omega)]
                        refine tq 8 ?_
                        refine tq 9 ?_
                        refine tq 10 ?_
                        refine tq 11 ?_
                        refine tq 12 ?_
                        refine tq 13 ?_
                        refine tq 14 ?_
                        refine tq 15 ?_
                        refine tq 16 ?_
                        refine tq 17 ?_
                        refine tq 18 ?_
                        refine tq 19 ?_
                        refine tq 20 ?_
                        refine tq 21 ?_
                        refine tq 22 ?_
                        refine tq 23 ?_
                        refine wpAnyH_done (by kernel_rfl) ?_ _
                        refine NoPanic.normal ?_
                        go_wp2
                        go_roundw
                        case rel => first | exact ⟨k + 1, c + 1, by omega, by go_num, by go_num, HN.out⟩ | ((repeat apply Exists.intro); exact ⟨⟨k + 1, c + 1, by omega, by go_num, by go_num, HN.out⟩, rfl⟩)
                        case measure => simp [intOf]; omega
                      | false =>
                        rw [hde] at hbe
                        have HNE : Hid (zs ≠ ys) := of_decide_eq_false hde
                        clear hde
                        go_wp2_with fail
                        refine wp_region_noPanic ?_
                        refine wp_region_held_drew (S := Two5 b off i (some ⟨b2, o2, none⟩, qn, qc) b2 (o2 + c) b1 (o1 + k * 2 + 1) zs ys t (sa, sn, sc)) (by kernel_rfl) (five) (fun hHeld => ?_)
                        unfold Two5 at hHeld
                        refine tq 0 ?_
                        refine tq 1 ?_
                        refine tq 2 ?_
                        refine tq 3 ?_
                        refine tq 4 ?_
                        refine tq 5 ?_
                        refine tq 6 ?_
                        refine tq 7 ?_
                        rw [show decide (qn ≤ c) = false from decide_eq_false (by omega)]
                        refine tq 8 ?_
                        refine tq 9 ?_
                        refine tq 10 ?_
                        refine tq 11 ?_
                        refine tq 12 ?_
                        refine tq 13 ?_
                        refine tq 14 ?_
                        refine tq 15 ?_
                        refine tq 16 ?_
                        refine tq 17 ?_
                        refine tq 18 ?_
                        refine tq 19 ?_
                        refine tq 20 ?_
                        refine tq 21 ?_
                        refine tq 22 ?_
                        refine tq 23 ?_
                        refine wpAnyH_done (by kernel_rfl) ?_ _
                        refine NoPanic.normal ?_
                        go_wp2
                        go_ret2
                        refine ⟨.inr ⟨(none, 0, 0), rfl, Its.nil0 _ _, no_told HS.out.1 (not_ord HJ.out.2.2.2.2.1 rfl HQ.out.1 (fun e => HNE.out ?_))⟩, HJ.out.2.2.2.1.drew⟩
                        rw [HJ.out.1, HZ.out] at e
                        simpa using e
                    · have hcqI : (qn : Int) ≤ (c : Int) := by omega
                      have hcqG : (c : Int) ≥ (qn : Int) := by omega
                      have six : Two6 b off i (qa, qn, qc) wr.drew := ⟨bl_cell ((Up.refl wr).drew).bl q0, trivial⟩
                      go_wp2_with fail
                      refine wp_region_noPanic ?_
                      refine wp_region_held_drew (S := Two6 b off i (qa, qn, qc)) (by kernel_rfl) (six) (fun hHeld => ?_)
                      unfold Two6 at hHeld
                      refine tq 0 ?_
                      refine tq 1 ?_
                      refine tq 2 ?_
                      refine tq 3 ?_
                      refine tq 4 ?_
                      refine tq 5 ?_
                      refine tq 6 ?_
                      refine tq 7 ?_
                      refine tqS 8 ?_
                      refine tqS 9 ?_
                      refine tqS 10 ?_
                      refine tqS 11 ?_
                      refine tqS 12 ?_
                      refine tqS 13 ?_
                      refine tqS 14 ?_
                      refine tqS 15 ?_
                      refine tqS 16 ?_
                      refine tqS 17 ?_
                      refine tqS 18 ?_
                      refine tqS 19 ?_
                      refine tqS 20 ?_
                      refine tqS 21 ?_
                      refine tqS 22 ?_
                      refine tq 23 ?_
                      refine wpAnyH_done (by kernel_rfl) ?_ _
                      refine NoPanic.normal ?_
                      go_wp2
                      go_ret2
                      refine ⟨.inr ⟨(none, 0, 0), rfl, Its.nil0 _ _, no_told HS.out.1 (not_ord HJ.out.2.2.2.2.1 rfl HQ.out.1 (fun e => ?_))⟩, HJ.out.2.2.2.1.drew⟩
                      rw [HJ.out.1] at e
                      have := (List.getElem?_eq_some_iff.1 e).1
                      have := HQ.out.2.2.1
                      omega
                  · have hfn : (f != (i : Int)) = true := by simpa using hfi
                    have HN : Hid (cnt (S0.take (k + 1)) (i : Int) = c ∧ Ord1 S0 acc i (k + 1) ∧ Its (fun _ => True) wr (some ⟨b1, o1, none⟩) j S0 ∧ Below w.heap.size w wr) :=
                      ⟨cnt_skip HJ.out.2.2.2.2.1 HJ.out.1 hfi, HJ.out.2.1.skip HJ.out.2.2.2.2.1 hfi, HJ.out.2.2.1, HJ.out.2.2.2.1⟩
                    go_wp2
                    go_roundw
                    case rel => first | exact ⟨k + 1, c, by omega, by go_num, rfl, HN.out⟩ | ((repeat apply Exists.intro); exact ⟨⟨k + 1, c, by omega, by go_num, rfl, HN.out⟩, rfl⟩)
                    case measure => simp [intOf]; omega
                · obtain rfl : k = j := by omega
                  have HN : Hid (∀ i', i' < i + 1 → Ord1 S0 acc i' S0.length) := fun i' hi' => by
                    by_cases e : i' = i
                    · subst e; rw [← HRN.out]; exact hod
                    · exact HQ.out.2.2.2.2 i' (by omega)
                  have HE : Hid (Its (fun _ => True) wr ra k S0 ∧ Below w.heap.size w wr) := ⟨hits, hbl⟩
                  clear hcc hod hits hbl
                  go_wp2
                  go_roundw
                  case rel => first | exact ⟨i + 1, by omega, by go_num, HN.out, HE.out⟩ | ((repeat apply Exists.intro); exact ⟨⟨i + 1, by omega, by go_num, HN.out, HE.out⟩, rfl⟩)
                  case measure => simp [intOf]; omega
            · obtain rfl : i = m := by omega
              have HE : Hid (Its (fun _ => True) wr ra j S0 ∧ Below w.heap.size w wr ∧ SeqOk acc del S0) := ⟨hits, hbl, HS.out.1.ok HS.out.2 (told_of (by rw [hl2]; exact HR.out) (fun i hi => hor i (by omega)))⟩
              clear hor hits hbl
              go_wp2
              go_ret2
              exact ⟨.inl ⟨(ra, j, rc), S0, rfl, HE.out.1, HE.out.2.2⟩, HE.out.2.1⟩
end Go.Proofs.Ythnbijnpbjfoaaa
/-
  The document's begins: is a list a beginning of another one?
-/
namespace Go.Proofs.Ythnbijnpbjfoaaa
open Go.RowKit Go.Sort
set_option linter.unusedVariables false

theorem und25e : Try.prog.underlying 25 = some (.slice (Try.prog.elem 25)) := by kernel_rfl
set_option maxRecDepth 100000 in
theorem size25 (w : World) : (sizeOf (Try.prog.elem 25)).run Try.prog w = .ok 2 w := by rfl
theorem slice_to25 (w : World) (ao : Option Addr) (L cap n : Nat) (hn : n ≤ cap) (hao : ∀ a, ao = some a → a.spot = none) : (Instr.slice 25 (.slice ao L cap) none (some (.int .i64 (n : Nat))) none).run Try.prog w = .ok (.slice ao n cap) w := by
  rw [run_slice_h w 25 ao L cap und25e .i64 (n : Nat) (by omega) (by omega), size25]
  simp only [Result.andThen_ok, sliced, Int.toNat_natCast, Nat.sub_zero, Nat.zero_mul]
  congr 2
  split
  · rfl
  · cases ao with
    | none => rfl
    | some a => simp [Addr.add]
theorem Its.flat {p : Nat → Prop} {w : World} {ao : Option Addr} {n : Nat} {ds : List Di} (h : Its p w ao n ds) (hn : 0 < n) : ∀ a, ao = some a → a.spot = none := by
  obtain ⟨xs, ⟨_, _, _, h4⟩, _⟩ := h
  obtain ⟨b, off, rfl, _⟩ := h4 hn
  intro a e
  cases e
  rfl
/-- 'begins': beginnings, in the document's words. -/
theorem begins_any (p q : Nat → Prop) (w : World) (ao bo : Option Addr) (n m c1 c2 : Nat) (ds es : List Di) (h : Its p w ao n ds) (g : Its q w bo m es) (hc : m ≤ c2) (hb : ∀ a, bo = some a → a.spot = none) :
    Calls Try.prog 69 #[.slice ao n c1, .slice bo m c2] w fun e w' => e = .returned (.bool (decide (ds <+: es))) ∧ Up w w' := by
  have hl := h.len
  have hl2 := g.len
  have hm := h.le
  have hm2 := g.le
  by_cases hle : n ≤ m
  · have hleI : (n : Int) ≤ (m : Int) := by omega
    have hit := fun W (u : Below w.heap.size w W) => items_any p q W ao bo n n c1 c2 ds (es.take n) (h.up u) ((g.up u).take hle)
    have hsl := fun W => slice_to25 W bo m c2 n (by omega) hb
    have HD : Hid (decide (ds = es.take n) = decide (ds <+: es)) := by
      show _ = _
      congr 1
      rw [List.prefix_iff_eq_take, hl]
    clear h g
    go_enter Try.func69, Try.ntmps69
    go_wp2_with fail
    refine (hit _ ?_).mono ?_
    · first | exact Below.refl _ _ | exact ((Up.refl w).drew).bl
    rintro e w1 ⟨rfl, u1⟩
    go_wp2
    go_ret
    exact ⟨ret_bool (by rw [HD.out]), u1⟩
  · have hleI : ¬ (n : Int) ≤ (m : Int) := by omega
    have HD : Hid (false = decide (ds <+: es)) := by
      show _ = _
      symm
      rw [decide_eq_false_iff_not]
      intro h
      have := h.length_le
      omega
    clear h g
    go_enter Try.func69, Try.ntmps69
    go_wp2
    go_ret
    exact ⟨ret_bool HD.out, Up.refl _⟩
end Go.Proofs.Ythnbijnpbjfoaaa
/-
  Lists of lists of one's own that grow.
-/
namespace Go.Proofs.Ythnbijnpbjfoaaa
open Go.RowKit Go.Sort
set_option linter.unusedVariables false

def slv (r : Sr) : Value := .slice r.1 r.2.1 r.2.2
theorem slv_one {rs : List Sr} {u : Value} (h : u ∈ rs.map slv) : u.oneCell' = true := by
  obtain ⟨r, _, rfl⟩ := List.mem_map.1 h
  rfl
theorem SlR.cells {p : Nat → Prop} {w : World} {a : Addr} {n : Nat} {rs : List Sr} (h : SlR p w (some a) n rs) : ∀ j u, (rs.map slv)[j]? = some u → w.cell? (a.add j) = some u := by
  intro j u hj
  obtain ⟨h1, h2, h3, h4⟩ := h
  rw [List.getElem?_map] at hj
  obtain ⟨r, hr, rfl⟩ := Option.map_eq_some_iff.1 hj
  have := (List.getElem?_eq_some_iff.1 hr).1
  obtain ⟨b, off, e, hp, hc⟩ := h4 (by omega)
  cases e
  rw [Addr.add_lit]
  exact hc j r hr
theorem SlR.own {w : World} {B T n : Nat} {v : Value} {rs : List Sr} (h : w.ownsRow B T 1 v n (rs.map slv)) (hm : n ≤ 140737488355328) : ∃ r : Sr, v = .slice r.1 r.2.1 r.2.2 ∧ r.2.1 = n ∧ SlR (fun _ => True) w r.1 n rs := by
  have hl : rs.length = n := by have := h.1; simp at this; omega
  rcases own_shape h with ⟨rfl, rfl⟩ | ⟨g, cap, rfl, hg, _⟩
  · exact ⟨(none, 0, 0), rfl, rfl, hl, by omega, fun _ => rfl, fun h => by omega⟩
  · refine ⟨(some ⟨g, 0, none⟩, n, cap), rfl, rfl, hl, hm, fun e => (by cases e), fun _ => ⟨g, 0, rfl, trivial, fun j r hj => ?_⟩⟩
    rw [Nat.zero_add]
    refine own_cell h j _ ?_
    rw [List.getElem?_map, hj]
    rfl
theorem info32 : (Try.prog.info? 32).map (fun i => (i.zero, i.size, i.bytes)) = some (some (.slice none 0 0), 1, 24) := by kernel_rfl
theorem info25 : (Try.prog.info? 25).map (fun i => (i.zero, i.size, i.bytes)) = some (some (.slice none 0 0), 1, 24) := by kernel_rfl
theorem und22' : Try.prog.underlying 22 = some (.slice 32) := by kernel_rfl
theorem und23' : Try.prog.underlying 23 = some (.slice 25) := by kernel_rfl
/-- 'append(s, l...)' of a list of lists. -/
theorem wpList_append_rows {w : World} {ops : Array Oper} {rest : List Oper} {o : Oper} {a : Act} {Q : Exit → Act → World → Prop} (hgd : o.guard = none) (s x : Operand) (T E : TypeId)
    (ho : o.op = .call { callee := .builtin .append, args := #[s, x], argTypes := #[T, T] }) (hT : Try.prog.underlying T = some (.slice E)) (hi : (Try.prog.info? E).map (fun i => (i.zero, i.size, i.bytes)) = some (some (.slice none 0 0), 1, 24))
    (B : Nat) (v : Value) (n : Nat) (rs : List Sr) (hs : a.eval s = v) (hown : w.ownsRow B E 1 v n (rs.map slv)) (ao : Option Addr) (m c : Nat) (xs : List Sr) (hx : a.eval x = .slice ao m c) (hx2 : SlR (fun _ => True) w ao m xs) (hz : ao = none → c = 0) (hn : n + m ≤ 10000) (hB : B ≤ w.heap.size)
    (h : ∀ v' w', w'.ownsRow B E 1 v' (n + m) ((rs ++ xs).map slv) → Below B w w' → wpList Try.prog ops Q rest (a.put o.dst v') w') : wpList Try.prog ops Q (o :: rest) a w := by
  obtain ⟨i0, hi0, hz0, hz1, hz2⟩ := info_parts hi
  have hl := hx2.1
  cases ao with
  | none =>
    obtain rfl := hz rfl
    obtain rfl := hx2.2.2.1 rfl
    obtain rfl : xs = [] := List.length_eq_zero_iff.1 hl
    exact wpList_append_own_none hgd s x T ho B E i0 1 hT hi0 v n _ hs hown hx (h _ _ (by simpa using hown) ((Below.refl _ _).mono hB))
  | some ad =>
    refine wpList_append_own_at _ hgd s x T ho B E i0 (.slice none 0 0) 1 24 hT hi0 hz0 hz1 hz2 rfl (by decide) v n _ hs hown ad m c (xs.map slv) hx (by simp [hl]) hx2.cells (fun u hu => slv_one hu) (by unfold maxLen; omega) (by omega) hB (fun v' w' hown' hgrow _ _ => h v' w' (by simpa using hown') ?_)
    refine bl_grown ((Below.refl _ _)) hB hgrow (fun k hk => ?_)
    rcases own_shape hown with ⟨e, _⟩ | ⟨g, cap, e, hg, _⟩
    · rw [e] at hk; simp [Value.ownBlock] at hk
    · rw [e] at hk; simp [Value.ownBlock] at hk; omega
/-- 'append(s, x)' of one list. -/
theorem wpList_append_row {w : World} {ops : Array Oper} {rest : List Oper} {o : Oper} {a : Act} {Q : Exit → Act → World → Prop} (hgd : o.guard = none) (s x : Operand) (T E : TypeId)
    (ho : o.op = .call { callee := .builtin .append, args := #[s, x], argTypes := #[T, T] }) (hT : Try.prog.underlying T = some (.slice E)) (hi : (Try.prog.info? E).map (fun i => (i.zero, i.size, i.bytes)) = some (some (.slice none 0 0), 1, 24))
    (B : Nat) (v : Value) (n : Nat) (rs : List Sr) (hs : a.eval s = v) (hown : w.ownsRow B E 1 v n (rs.map slv)) (r : Sr) (g : Nat) (hg : w.heap.size = g) (hx : a.eval x = .slice (some ⟨g, 0, none⟩) 1 1) (hn : n ≤ 10000) (hB : B ≤ w.heap.size)
    (h : ∀ v' w', w'.ownsRow B E 1 v' (n + 1) ((rs ++ [r]).map slv) → Below B w w' → wpList Try.prog ops Q rest (a.put o.dst v') w') : wpList Try.prog ops Q (o :: rest) a (w.alloc (.cells #[.slice r.1 r.2.1 r.2.2] E)) := by
  refine wpList_append_gen hgd s x T E ho (.slice none 0 0) 1 24 hT hi rfl (by decide) (by omega) B v n _ hs hown [.slice r.1 r.2.1 r.2.2] rfl (fun u hu => by simp at hu; subst hu; rfl) g hg hx hn hB (fun v' w' hown' hgrow _ => h v' w' (by simpa [slv] using hown') ?_)
  refine bl_grown ((Below.refl _ _)) hB hgrow (fun k hk => ?_)
  rcases own_shape hown with ⟨e, _⟩ | ⟨g, cap, e, hg, _⟩
  · rw [e] at hk; simp [Value.ownBlock] at hk
  · rw [e] at hk; simp [Value.ownBlock] at hk; omega
theorem own_none (w : World) (B T : Nat) : w.ownsRow B T 1 (.slice none 0 0) 0 (([] : List Sr).map slv) := ⟨rfl, .inl ⟨rfl, rfl⟩⟩
/-- The rows of one's own, and what each of them holds. -/
theorem Lr.mk {α : Type} {E : World → Sr → α → Prop} {w : World} {B T n : Nat} {v : Value} {rs : List Sr} {xs : List α} (h : w.ownsRow B T 1 v n (rs.map slv)) (hm : n ≤ 140737488355328) (hl : xs.length = n) (hc : ∀ r ∈ rs, Cp r) (hE : ∀ (j : Nat) r x, rs[j]? = some r → xs[j]? = some x → E w r x) :
    ∃ r : Sr, v = .slice r.1 r.2.1 r.2.2 ∧ r.2.1 = n ∧ Lr E w r.1 n xs := by
  obtain ⟨r, rfl, h1, h2⟩ := SlR.own h hm
  exact ⟨r, rfl, h1, rs, h2, hl, hc, hE⟩
/-- Two lists of lists, one behind the other. -/
theorem each_app {α : Type} {E : World → Sr → α → Prop} {w : World} {rs : List Sr} {xs : List α} (hl : rs.length = xs.length) (h : ∀ (j : Nat) r x, rs[j]? = some r → xs[j]? = some x → E w r x) {s : Sr} {y : α} (hy : E w s y) : ∀ (j : Nat) r x, (rs ++ [s])[j]? = some r → (xs ++ [y])[j]? = some x → E w r x := by
  intro j r x hr hx
  by_cases hj : j < xs.length
  · rw [List.getElem?_append_left (by omega)] at hr
    rw [List.getElem?_append_left hj] at hx
    exact h j r x hr hx
  · have hl2 := (List.getElem?_eq_some_iff.1 hx).1
    simp at hl2
    have : j = xs.length := by omega
    subst this
    rw [List.getElem?_append_right (by omega), hl] at hr
    rw [List.getElem?_append_right (by omega)] at hx
    simp at hr hx
    subst hr hx
    exact hy
theorem own_keep {w w' : World} {B T n : Nat} {v : Value} {xs : List Value} (h : w.ownsRow B T 1 v n xs) (u : Below w.heap.size w w') : w'.ownsRow B T 1 v n xs :=
  h.kept (gr_below u none) (by cases v.ownBlock with | none => exact Or.inl rfl | some k => exact Or.inr (by simp))
end Go.Proofs.Ythnbijnpbjfoaaa
/-
  A list of items of one's own, whose bytes lie in blocks of a kind.
-/
namespace Go.Proofs.Ythnbijnpbjfoaaa
open Go.RowKit Go.Sort
set_option linter.unusedVariables false

def OwP (p : Nat → Prop) (B : Nat) (w : World) (r : Sr) (S : List Di) : Prop :=
  r.2.1 = S.length ∧ ∃ xs : List Ix, w.ownsRow B 34 2 (.slice r.1 r.2.1 r.2.2) S.length (cellI xs) ∧ xs.length = S.length ∧ ∀ (j : Nat) (x : Ix) (d : Di), xs[j]? = some x → S[j]? = some d → It p w x d
theorem OwP.nil (p : Nat → Prop) (B : Nat) (w : World) : OwP p B w (none, 0, 0) [] := ⟨rfl, [], ⟨rfl, .inl ⟨rfl, rfl⟩⟩, rfl, fun j x d hx => by simp at hx⟩
theorem OwP.keep {p : Nat → Prop} {B : Nat} {w w' : World} {r : Sr} {S : List Di} (h : OwP p B w r S) (u : Below w.heap.size w w') : OwP p B w' r S := by
  obtain ⟨h0, xs, h1, h2, h3⟩ := h
  exact ⟨h0, xs, h1.kept (gr_below u none) (by cases Value.ownBlock _ with | none => exact Or.inl rfl | some k => exact Or.inr (by simp)), h2, fun j x d hx hd => (h3 j x d hx hd).keep (Kp.up u)⟩
/-- Another block turns. -/
theorem OwP.other {p : Nat → Prop} {B G : Nat} {w w' : World} {r : Sr} {S : List Di} (h : OwP p B w r S) (u : w.grownBy w' (some G)) (hG : G < B) (hp : ∀ b, p b → b ≠ G) : OwP p B w' r S := by
  obtain ⟨h0, xs, h1, h2, h3⟩ := h
  refine ⟨h0, xs, h1.kept u ?_, h2, fun j x d hx hd => (h3 j x d hx hd).keep (Kp.grown u hp)⟩
  have hlt := h1.lt
  cases hb : Value.ownBlock (.slice r.1 r.2.1 r.2.2) with
  | none => exact Or.inl rfl
  | some k => exact Or.inr (by have := (hlt k hb).1; simp; omega)
theorem OwP.its {p : Nat → Prop} {B : Nat} {w : World} {r : Sr} {S : List Di} (h : OwP p B w r S) (hm : S.length ≤ 4398046511104) : Its (fun _ => True) w r.1 r.2.1 S := by
  obtain ⟨h0, xs, h1, h2, h3⟩ := h
  rcases IR.own h1 hm with ⟨e, h0'⟩ | ⟨g, cap, e, _, _, _, hI⟩
  · simp at e
    have : S = [] := List.length_eq_zero_iff.1 h0'
    subst this
    rw [e.1, e.2.1]
    exact Its.nil0 _ _
  · simp at e
    rw [e.1, h0]
    exact ⟨xs, hI.imp (fun _ _ _ => trivial), rfl, fun j x d hx hd => (h3 j x d hx hd).imp (fun _ _ _ => trivial)⟩
theorem OwP.cp {p : Nat → Prop} {B : Nat} {w : World} {r : Sr} {S : List Di} (h : OwP p B w r S) : Cp r ∧ (r.1 = none ∨ ∃ g, r.1 = some ⟨g, 0, none⟩) := by
  obtain ⟨h0, xs, h1, h2, h3⟩ := h
  rcases h1.2 with ⟨e, h0'⟩ | ⟨g, cap, cur, e, _, _, hn, hc, _⟩
  · simp at e
    obtain ⟨a, b, c⟩ := e
    exact ⟨⟨by omega, by omega, fun _ => c⟩, .inl a⟩
  · simp at e
    obtain ⟨a, b⟩ := e
    refine ⟨⟨by omega, by unfold maxLen at hc; omega, fun h => by rw [a] at h; cases h⟩, .inr ⟨g, a⟩⟩
theorem own_row {w : World} {B n : Nat} {v : Value} {vs : List Value} (h : w.ownsRow B 34 2 v n vs) : ∃ r : Sr, v = .slice r.1 r.2.1 r.2.2 ∧ r.2.1 = n := by
  rcases own_shape h with ⟨rfl, h0⟩ | ⟨g, cap, rfl, _⟩
  · exact ⟨(none, 0, 0), rfl, h0.symm⟩
  · exact ⟨(some ⟨g, 0, none⟩, n, cap), rfl, rfl⟩
theorem own_row1 {w : World} {B T n : Nat} {v : Value} {vs : List Value} (h : w.ownsRow B T 1 v n vs) : ∃ r : Sr, v = .slice r.1 r.2.1 r.2.2 ∧ r.2.1 = n := by
  rcases own_shape h with ⟨rfl, h0⟩ | ⟨g, cap, rfl, _⟩
  · exact ⟨(none, 0, 0), rfl, h0.symm⟩
  · exact ⟨(some ⟨g, 0, none⟩, n, cap), rfl, rfl⟩
theorem wrap_in {a : Int} (h : -9223372036854775808 ≤ a) (h' : a ≤ 9223372036854775807) : IntKind.i64.wrap a = a := by
  simp only [IntKind.wrap, IntKind.bits, IntKind.signed]
  go_num
theorem own_cap {w : World} {B T z n m : Nat} {ad : Addr} {cap : Nat} {vs : List Value} (h : w.ownsRow B T z (.slice (some ad) m cap) n vs) : n ≤ cap ∧ cap ≤ 9223372036854775807 := by
  rcases h.2 with ⟨e, _⟩ | ⟨g, cap', cur, e, _, _, hn, hc, _⟩
  · simp at e
  · simp at e
    obtain ⟨_, _, rfl⟩ := e
    exact ⟨hn, by unfold maxLen at hc; omega⟩
/-- One more, as a run. -/
theorem OwP.run {p : Nat → Prop} {B : Nat} {w : World} {r : Sr} {S : List Di} (h : OwP p B w r S) (hp : ∀ b, p b → b < B) (x : Ix) (d : Di) (hx : It p w x d) (hn : S.length ≤ 10000) (hB : B ≤ w.heap.size) {a : Addr} (ha : ∀ j u, ([.int .i64 x.1, .slice x.2.1 x.2.2.1 x.2.2.2] : List Value)[j]? = some u → w.cell? (a.add j) = some u) :
    ∃ (r' : Sr) (w' : World), (Builtin.append_ #[25, 25] 25 #[.slice r.1 r.2.1 r.2.2, .slice (some a) 1 1]).run Try.prog w = .ok (.slice r'.1 r'.2.1 r'.2.2) w' ∧ OwP p B w' r' (S ++ [d]) ∧ Below B w w' := by
  obtain ⟨h0, xs, h1, h2, h3⟩ := h
  obtain ⟨i0, hi0, hz0, hz1, hz2⟩ := info_parts infoI
  obtain ⟨v', w', k1, k2, k3, _⟩ := run_append_own_at (P := Try.prog) (w := w) B 25 25 34 i0 (.agg #[.int .i64 0, .slice none 0 0]) 2 32 und25 hi0 hz0 hz1 hz2 rfl (by decide) _ S.length (cellI xs) h1 a 1 1 [.int .i64 x.1, .slice x.2.1 x.2.2.1 x.2.2.2] rfl ha (fun u hu => by
    simp at hu
    rcases hu with rfl | rfl <;> rfl) (by unfold maxLen; omega) (by omega) hB
  have hb : Below B w w' := bl_grown (Below.refl _ _) hB k3 (fun k hk => (h1.lt k hk).1)
  obtain ⟨r', rfl, hr'⟩ := own_row k2
  refine ⟨r', w', k1, ⟨by simp [hr'], xs ++ [x], by rw [cellI_snoc]; simpa using k2, by simp [h2], fun j y e hy he => ?_⟩, hb⟩
  have kp : Kp p w w' := Kp.below hb hp
  by_cases hj : j < S.length
  · rw [List.getElem?_append_left (by omega)] at hy
    rw [List.getElem?_append_left hj] at he
    exact (h3 j y e hy he).keep kp
  · have hl := (List.getElem?_eq_some_iff.1 he).1
    simp at hl
    have : j = S.length := by omega
    subst this
    rw [List.getElem?_append_right (by omega), h2] at hy
    rw [List.getElem?_append_right (by omega)] at he
    simp at hy he
    subst hy he
    exact hx.keep kp
theorem Cnt.below {w w' : World} {g m B : Nat} {f : Nat → Nat} (h : Cnt w g m f) (u : Below B w w') (hg : g < B) : Cnt w' g m f := fun i hi => by
  obtain ⟨a, b⟩ := h i hi
  exact ⟨(u.cell hg).trans a, (u.frozen hg).trans b⟩
/-- A list of one list. -/
theorem own_one (w : World) (r : Sr) (B : Nat) (hB : B ≤ w.heap.size) : (w.alloc (.cells #[.slice r.1 r.2.1 r.2.2] 25)).ownsRow B 25 1 (.slice (some ⟨w.heap.size, 0, none⟩) 1 1) 1 (([r] : List Sr).map slv) :=
  ⟨rfl, .inr ⟨w.heap.size, 1, #[.slice r.1 r.2.1 r.2.2], rfl, hB, heap_alloc_new w _, Nat.le_refl _, by unfold maxLen; omega, rfl, rfl⟩⟩
/-- Both cells of an item. -/
theorem IR.put {w : World} {g n k : Nat} {xs : List Ix} {y : Ix} (h : IR (fun b => b = g) w (some ⟨g, 0, none⟩) n xs) (hk : k < xs.length) :
    IR (fun b => b = g) ((w.setCell ⟨g, k * 2, none⟩ (.int .i64 y.1)).setCell ⟨g, k * 2 + 1, none⟩ (.slice y.2.1 y.2.2.1 y.2.2.2)) (some ⟨g, 0, none⟩) n (xs.set k y) := by
  obtain ⟨h1, h2, h3, h4⟩ := h
  refine ⟨by simpa using h1, h2, h3, fun h0 => ?_⟩
  obtain ⟨b, off, e, hp, hc⟩ := h4 h0
  cases e
  refine ⟨_, _, rfl, rfl, fun j z hj => ?_⟩
  simp only [Nat.zero_add] at hc ⊢
  by_cases e : j = k
  · subst e
    rw [List.getElem?_set_self hk] at hj
    cases hj
    obtain ⟨c0, c1⟩ := hc j _ (List.getElem?_eq_getElem hk)
    refine ⟨setCell_other' (by simp <;> omega) (World.cell?_setCell_same' _ _ _ (by rw [c0]; rfl)), World.cell?_setCell_same' _ _ _ ?_⟩
    rw [setCell_other' (by simp <;> omega) c1]; rfl
  · rw [List.getElem?_set_ne (by omega)] at hj
    obtain ⟨c0, c1⟩ := hc j z hj
    exact ⟨setCell_other' (by simp <;> omega) (setCell_other' (by simp <;> omega) c0), setCell_other' (by simp <;> omega) (setCell_other' (by simp <;> omega) c1)⟩
end Go.Proofs.Ythnbijnpbjfoaaa
/-
  Views' numbers: which of two is greater, and which are right (package ident), and the document's answers.
-/
namespace Go.Proofs.Ythnbijnpbjfoaaa
open Go.RowKit
set_option linter.unusedVariables false

/-- Which of two numbers is greater. -/
def sgn (x y : Int) : Int := if x < y then -1 else if y < x then 1 else 0
/-- Which of two views' numbers is greater. -/
def cmpV (n1 : Nat) (p1 : Int) (n2 : Nat) (p2 : Int) : Int := if n1 < n2 then -1 else if n2 < n1 then 1 else sgn p1 p2
def vid (n : Nat) (p : Int) : Value := .agg #[.int .u64 (n : Nat), .int .i64 p]

theorem nanU (w : World) (x : Int) : Calls Try.prog 64 #[.int .u64 x] w fun e w' => e = .returned (.bool false) ∧ w = w' := by
  go_enter Try.func64, Try.ntmps64
  go_wp2
  go_ret
  exact ⟨ret_bool (by simp), rfl⟩
theorem nanI (w : World) (x : Int) : Calls Try.prog 65 #[.int .i64 x] w fun e w' => e = .returned (.bool false) ∧ w = w' := by
  go_enter Try.func65, Try.ntmps65
  go_wp2
  go_ret
  exact ⟨ret_bool (by simp), rfl⟩
theorem cmpU (w : World) (x y : Int) : Calls Try.prog 39 #[.int .u64 x, .int .u64 y] w fun e w' => e = .returned (.int .i64 (sgn x y)) ∧ w = w' := by
  unfold sgn
  by_cases h1 : x < y
  · rw [if_pos h1]
    go_enter Try.func39, Try.ntmps39
    go_wp2_with (first | (go_at_call 64; refine (nanU _ _).mono ?_; rintro e w' ⟨rfl, rfl⟩))
    go_ret
    exact ⟨rfl, rfl⟩
  · rw [if_neg h1]
    by_cases h2 : y < x
    · rw [if_pos h2]
      go_enter Try.func39, Try.ntmps39
      go_wp2_with (first | (go_at_call 64; refine (nanU _ _).mono ?_; rintro e w' ⟨rfl, rfl⟩))
      go_ret
      exact ⟨rfl, rfl⟩
    · rw [if_neg h2]
      go_enter Try.func39, Try.ntmps39
      go_wp2_with (first | (go_at_call 64; refine (nanU _ _).mono ?_; rintro e w' ⟨rfl, rfl⟩))
      go_ret
      exact ⟨rfl, rfl⟩
theorem cmpI (w : World) (x y : Int) : Calls Try.prog 40 #[.int .i64 x, .int .i64 y] w fun e w' => e = .returned (.int .i64 (sgn x y)) ∧ w = w' := by
  unfold sgn
  by_cases h1 : x < y
  · rw [if_pos h1]
    go_enter Try.func40, Try.ntmps40
    go_wp2_with (first | (go_at_call 65; refine (nanI _ _).mono ?_; rintro e w' ⟨rfl, rfl⟩))
    go_ret
    exact ⟨rfl, rfl⟩
  · rw [if_neg h1]
    by_cases h2 : y < x
    · rw [if_pos h2]
      go_enter Try.func40, Try.ntmps40
      go_wp2_with (first | (go_at_call 65; refine (nanI _ _).mono ?_; rintro e w' ⟨rfl, rfl⟩))
      go_ret
      exact ⟨rfl, rfl⟩
    · rw [if_neg h2]
      go_enter Try.func40, Try.ntmps40
      go_wp2_with (first | (go_at_call 65; refine (nanI _ _).mono ?_; rintro e w' ⟨rfl, rfl⟩))
      go_ret
      exact ⟨rfl, rfl⟩


theorem compare_any (w : World) (n1 : Nat) (p1 : Int) (n2 : Nat) (p2 : Int) : Calls Try.prog 25 #[vid n1 p1, vid n2 p2] w fun e w' => e = .returned (.int .i64 (cmpV n1 p1 n2 p2)) ∧ Up w w' := by
  have h1 := fun W => cmpU W n1 n2
  have h2 := fun W => cmpI W p1 p2
  have hs : sgn (n1 : Int) (n2 : Int) = if n1 < n2 then -1 else if n2 < n1 then 1 else 0 := by
    unfold sgn; by_cases a : n1 < n2
    · rw [if_pos a, if_pos (by omega)]
    · rw [if_neg a, if_neg (by omega)]
      by_cases b : n2 < n1
      · rw [if_pos b, if_pos (by omega)]
      · rw [if_neg b, if_neg (by omega)]
  rw [hs] at h1
  clear hs
  unfold cmpV vid
  generalize sgn p1 p2 = c2 at *
  by_cases a : n1 < n2
  · simp only [if_pos a] at h1 ⊢
    clear a
    go_enter Try.func25, Try.ntmps25
    go_wp2_with fail
    refine (h1 _).mono ?_
    rintro e w' ⟨rfl, rfl⟩
    go_wp2
    go_ret
    exact ⟨rfl, ((Up.refl _).alloc _).alloc _⟩
  · simp only [if_neg a] at h1 ⊢
    by_cases b : n2 < n1
    · simp only [if_pos b] at h1 ⊢
      clear a b
      go_enter Try.func25, Try.ntmps25
      go_wp2_with fail
      refine (h1 _).mono ?_
      rintro e w' ⟨rfl, rfl⟩
      go_wp2
      go_ret
      exact ⟨rfl, ((Up.refl _).alloc _).alloc _⟩
    · simp only [if_neg b] at h1 ⊢
      clear a b
      go_enter Try.func25, Try.ntmps25
      go_wp2_with fail
      refine (h1 _).mono ?_
      rintro e w' ⟨rfl, rfl⟩
      go_wp2_with fail
      refine (h2 _).mono ?_
      rintro e w' ⟨rfl, rfl⟩
      go_wp2
      go_ret
      exact ⟨rfl, ((Up.refl _).alloc _).alloc _⟩

end Go.Proofs.Ythnbijnpbjfoaaa
