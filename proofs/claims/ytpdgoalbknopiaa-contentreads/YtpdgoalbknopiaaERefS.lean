/-
  The document's Decode of a summary's bytes: what it holds, and one more entry, one more label.
-/
import Derived.Test.YtpdgoalbknopiaaERefD1
import Derived.Test.YtpdgoalbknopiaaEList2
namespace Go.Proofs.Ytpdgoalbknopiaa
open Go.RowKit
set_option linter.unusedVariables false
set_option linter.unusedSimpArgs false

abbrev St := Option (List UInt8)
/-- Entries in a row behind B, their messages in ao's block. -/
def CR (B : Nat) (ao : Option Addr) (w : World) (v : Value) (es : List (Lb × List UInt8)) : Prop :=
  ∃ xs : List (Lb × Sl), xs.length = es.length ∧ w.ownsRow B 29 5 v es.length (flatE xs) ∧ ∀ (j : Nat) e x, es[j]? = some e → xs[j]? = some x → x.1 = e.1 ∧ Cd.Row w x.2.1 x.2.2.1 x.2.2.2 e.2 ∧ Cd.Of ao x.2.1 x.2.2.1
theorem CR.nil (B : Nat) (ao : Option Addr) (w : World) : CR B ao w (.slice none 0 0) [] := ⟨[], rfl, World.ownsRow_nil _ _ _ _, fun j e x he => by simp at he⟩
theorem CR.gr {B : Nat} {ao : Option Addr} {w w' : World} {v : Value} {es : List (Lb × List UInt8)} {row : Option Nat} (h : CR B ao w v es) (g : w.grownBy w' row) (hv : ∀ k, row = some k → v.ownBlock ≠ some k) (ha : ∀ k a, row = some k → ao = some a → k ≠ a.block) : CR B ao w' v es := by
  obtain ⟨xs, hl, ho, hm⟩ := h
  refine ⟨xs, hl, ho.kept (row := row) g ?_, fun j e x he hx => ?_⟩
  · cases hr : row with
    | none => cases v.ownBlock with | none => exact Or.inl rfl | some k => exact Or.inr (by simp)
    | some k => exact Or.inr (hv k hr)
  · obtain ⟨h1, h2, h3⟩ := hm j e x he hx
    refine ⟨h1, row_grown h2 g (fun a hx' hn e' => ?_), h3⟩
    obtain ⟨c, hc, hb⟩ := h3 hn a hx'
    exact ha _ c e' hc hb
theorem CR.bl {B : Nat} {ao : Option Addr} {w w' : World} {v : Value} {es : List (Lb × List UInt8)} (h : CR B ao w v es) (u : Below w.heap.size w w') : CR B ao w' v es :=
  h.gr (row := none) ⟨u.os, u.tape, u.output, u.size, fun i hi _ => u.block i hi⟩ (fun k hk => by cases hk) (fun k a hk => by cases hk)
theorem CR.lt {B : Nat} {ao : Option Addr} {w : World} {v : Value} {es : List (Lb × List UInt8)} (h : CR B ao w v es) : ∀ k, v.ownBlock = some k → B ≤ k ∧ k < w.heap.size := by
  obtain ⟨xs, hl, ho, hm⟩ := h
  exact ownE_lt ho
theorem CR.er {B : Nat} {ao : Option Addr} {w : World} {v : Value} {es : List (Lb × List UInt8)} (h : CR B ao w v es) : ∃ ca cc, v = .slice ca es.length cc ∧ ER (fun _ => True) w ca es.length es := by
  obtain ⟨xs, hl, ho, hm⟩ := h
  rcases id ho.2 with ⟨rfl, h0⟩ | ⟨g, cap, cur, rfl, hg, hh, hnc, hcm, hcs, htk⟩
  · exact ⟨none, 0, by rw [h0], rfl, by omega, fun hn => by omega⟩
  · refine ⟨_, _, rfl, rfl, by unfold maxLen at hcm; omega, fun hn => ⟨g, 0, rfl, trivial, fun j e he => ?_⟩⟩
    have hj : j < es.length := (List.getElem?_eq_some_iff.1 he).1
    obtain ⟨x, hx⟩ : ∃ x, xs[j]? = some x := ⟨xs[j]'(by omega), List.getElem?_eq_getElem (by omega)⟩
    obtain ⟨h1, h2, h3⟩ := hm j e x he hx
    have hcell : ∀ i, i < 5 → w.cell? ⟨g, 0 + j * 5 + i, none⟩ = (cells5 x)[i]? := fun i hi => by
      have e := flatE_get xs j x i hx hi
      have hlt : i < (cells5 x).length := by simpa [cells5] using hi
      rw [List.getElem?_eq_getElem hlt] at e ⊢
      have := ho.cells (g := g) rfl (5 * j + i) _ e
      rw [Addr.add_lit] at this
      rw [show 0 + j * 5 + i = 0 + (5 * j + i) by omega]
      exact this
    refine ⟨x.2.1, x.2.2.1, x.2.2.2, ?_, ?_, ?_, ?_, hcell 4 (by omega), h2, fun _ _ _ => trivial⟩ <;> rw [← h1]
    · exact hcell 0 (by omega)
    · exact hcell 1 (by omega)
    · exact hcell 2 (by omega)
    · exact hcell 3 (by omega)
theorem CR.snoc {B : Nat} {ao : Option Addr} {w w' : World} {v v' : Value} {es : List (Lb × List UInt8)} {e : Lb × List UInt8} {s : Sl} {xs : List (Lb × Sl)} (hl : xs.length = es.length)
    (hm : ∀ (j : Nat) e x, es[j]? = some e → xs[j]? = some x → x.1 = e.1 ∧ Cd.Row w x.2.1 x.2.2.1 x.2.2.2 e.2 ∧ Cd.Of ao x.2.1 x.2.2.1)
    (hrow : Cd.Row w s.1 s.2.1 s.2.2 e.2) (hof : Cd.Of ao s.1 s.2.1) (ha : ∀ k a, v.ownBlock = some k → ao = some a → k ≠ a.block)
    (hown : w'.ownsRow B 29 5 v' (es.length + 1) (flatE xs ++ cells5 (e.1, s))) (hg : w.grownBy w' v.ownBlock) : CR B ao w' v' (es ++ [e]) := by
  have key : ∀ {t n c m}, Cd.Row w t n c m → Cd.Of ao t n → Cd.Row w' t n c m := fun {t n c m} h2 h3 => row_grown h2 hg (fun a hx' hn e' => by
    obtain ⟨d, hc, hb⟩ := h3 hn a hx'
    exact ha _ d e' hc hb)
  refine ⟨xs ++ [(e.1, s)], by simp [hl], ?_, fun j e' x he hx => ?_⟩
  · rw [flatE_snoc, List.length_append]
    exact hown
  · by_cases hj : j < es.length
    · rw [List.getElem?_append_left hj] at he
      rw [List.getElem?_append_left (by omega)] at hx
      obtain ⟨h1, h2, h3⟩ := hm j e' x he hx
      exact ⟨h1, key h2 h3, h3⟩
    · have hje : j = es.length := by
        have := (List.getElem?_eq_some_iff.1 he).1
        simp at this
        omega
      subst hje
      rw [List.getElem?_append_right (by omega)] at he
      rw [List.getElem?_append_right (by omega)] at hx
      simp [hl] at he hx
      subst he hx
      exact ⟨rfl, key hrow hof, hof⟩
/-- What it holds while it reads a summary. -/
structure Dk (w : World) (ao : Option Addr) (n cap : Nat) (xs : List UInt8) (W : World) (c o : Value) (nx : Int) (hn : Nat) (hp : Int) (st : St) : Prop where
  bg : Bg w W
  rq : ∃ q, Cd.RR W (w.heap.size + 3) ao n cap q ∧ Cd.same xs q st
  sb : W.heap[w.heap.size + 4]? = some (.cells #[c, o, .int .i64 nx, .int .u64 (hn : Nat), .int .i64 hp] 38 (0, 0))
  row : Cd.Row W ao n cap xs
  ab : ∀ a, ao = some a → a.block < w.heap.size
section
variable {w W W' : World} {ao : Option Addr} {n cap : Nat} {xs : List UInt8} {c o : Value} {nx : Int} {hn : Nat} {hp : Int} {st st' : St}
theorem Dk.lt (h : Dk w ao n cap xs W c o nx hn hp st) : w.heap.size + 4 < W.heap.size := (Array.getElem?_eq_some_iff.1 h.sb).1
theorem Dk.below (h : Dk w ao n cap xs W c o nx hn hp st) (u : Below W.heap.size W W') : Dk w ao n cap xs W' c o nx hn hp st :=
  { bg := h.bg.below u, rq := by obtain ⟨q, h1, h2⟩ := h.rq; exact ⟨q, h1.below u, h2⟩, sb := (u.block _ h.lt).trans h.sb, row := h.row.below u (Nat.le_refl _), ab := h.ab }
/-- The reader turned. -/
theorem Dk.call {q' : Option Nat} (h : Dk w ao n cap xs W c o nx hn hp st) (rr : Cd.RR W' (w.heap.size + 3) ao n cap q') (hs : Cd.same xs q' st') (g : W.grownBy W' (some (w.heap.size + 3))) : Dk w ao n cap xs W' c o nx hn hp st' :=
  { bg := h.bg.step g (by omega), rq := ⟨q', rr, hs⟩, sb := (g.block _ h.lt (by simp)).trans h.sb, row := by obtain ⟨q, h1, h2⟩ := h.rq; exact Cd.row_RR h.row h1 g, ab := h.ab }
/-- A row behind all of it turned. -/
theorem Dk.behind {r : Option Nat} (h : Dk w ao n cap xs W c o nx hn hp st) (g : W.grownBy W' r) (hr : ∀ k, r = some k → w.heap.size + 5 ≤ k) : Dk w ao n cap xs W' c o nx hn hp st := by
  have key : ∀ k v, W.heap[k]? = some v → k < w.heap.size + 5 → W'.heap[k]? = some v := fun k v hk hl => (g.block k (Array.getElem?_eq_some_iff.1 hk).1 (fun e => by have := hr k e.symm; omega)).trans hk
  refine { bg := ⟨bl_grown h.bg.bl h.bg.bl.size g (fun k hk => by have := hr k hk; omega), key _ _ h.bg.r1 (by omega), key _ _ h.bg.r2 (by omega), key _ _ h.bg.nn (by omega)⟩, rq := ?_, sb := key _ _ h.sb (by omega), row := row_grown h.row g (fun a ha _ e => by have := hr _ e; have := h.ab a ha; omega), ab := h.ab }
  obtain ⟨q, h1, h2⟩ := h.rq
  exact ⟨q, key _ _ h1 (by omega), h2⟩
/-- The summary turned. -/
theorem Dk.set {c' o' : Value} {nx' : Int} {hn' : Nat} {hp' : Int} (h : Dk w ao n cap xs W c o nx hn hp st) (e : W'.heap[w.heap.size + 4]? = some (.cells #[c', o', .int .i64 nx', .int .u64 (hn' : Nat), .int .i64 hp'] 38 (0, 0))) (g : W.grownBy W' (some (w.heap.size + 4))) : Dk w ao n cap xs W' c' o' nx' hn' hp' st := by
  have key : ∀ k v, W.heap[k]? = some v → k ≠ w.heap.size + 4 → W'.heap[k]? = some v := fun k v hk hl => (g.block k (Array.getElem?_eq_some_iff.1 hk).1 (by simpa using hl)).trans hk
  refine { bg := h.bg.step g (by omega), rq := ?_, sb := e, row := row_grown h.row g (fun a ha _ e => by injection e with e; have := h.ab a ha; omega), ab := h.ab }
  obtain ⟨q, h1, h2⟩ := h.rq
  exact ⟨q, key _ _ h1 (by omega), h2⟩
theorem Dk.cell (h : Dk w ao n cap xs W c o nx hn hp st) : W.cell? ⟨w.heap.size + 4, 0, none⟩ = some c ∧ W.cell? ⟨w.heap.size + 4, 1, none⟩ = some o ∧ W.cell? ⟨w.heap.size + 4, 2, none⟩ = some (.int .i64 nx) ∧ W.cell? ⟨w.heap.size + 4, 3, none⟩ = some (.int .u64 (hn : Nat)) ∧ W.cell? ⟨w.heap.size + 4, 4, none⟩ = some (.int .i64 hp) :=
  ⟨(cell_of_row W _ 0 _ 38 (0, 0) h.sb).trans rfl, (cell_of_row W _ 1 _ 38 (0, 0) h.sb).trans rfl, (cell_of_row W _ 2 _ 38 (0, 0) h.sb).trans rfl, (cell_of_row W _ 3 _ 38 (0, 0) h.sb).trans rfl, (cell_of_row W _ 4 _ 38 (0, 0) h.sb).trans rfl⟩
theorem Dk.free (h : Dk w ao n cap xs W c o nx hn hp st) (j : Nat) : W.frozen? ⟨w.heap.size + 4, j, none⟩ = false := frozen_of_row W _ j _ 38 h.sb
theorem Dk.setCon (h : Dk w ao n cap xs W c o nx hn hp st) (c' : Value) : Dk w ao n cap xs (W.setCell ⟨w.heap.size + 4, 0, none⟩ c') c' o nx hn hp st :=
  h.set (by rw [setCell_eq_setRow W _ 0 _ 38 (0, 0) _ h.sb, setRow_heap _ _ _ _ _ _ h.sb]; rfl) (Cd.set_grown _)
theorem Dk.setOrd (h : Dk w ao n cap xs W c o nx hn hp st) (o' : Value) : Dk w ao n cap xs (W.setCell ⟨w.heap.size + 4, 1, none⟩ o') c o' nx hn hp st :=
  h.set (by rw [setCell_eq_setRow W _ 1 _ 38 (0, 0) _ h.sb, setRow_heap _ _ _ _ _ _ h.sb]; rfl) (Cd.set_grown _)
theorem Dk.setNext (h : Dk w ao n cap xs W c o nx hn hp st) (x : Int) : Dk w ao n cap xs (W.setCell ⟨w.heap.size + 4, 2, none⟩ (.int .i64 x)) c o x hn hp st :=
  h.set (by rw [setCell_eq_setRow W _ 2 _ 38 (0, 0) _ h.sb, setRow_heap _ _ _ _ _ _ h.sb]; rfl) (Cd.set_grown _)
theorem Dk.setHigh (h : Dk w ao n cap xs W c o nx hn hp st) (a : Nat) (b : Int) : W.there (w.heap.size + 4) 3 2 ∧ Dk w ao n cap xs (W.setCells (w.heap.size + 4) 3 [.int .u64 (a : Nat), .int .i64 b]) c o nx a b st ∧ W.grownBy (W.setCells (w.heap.size + 4) 3 [.int .u64 (a : Nat), .int .i64 b]) (some (w.heap.size + 4)) := by
  obtain ⟨c0, c1, c2, c3, c4⟩ := h.cell
  have hg : W.grownBy (W.setCells (w.heap.size + 4) 3 [.int .u64 (a : Nat), .int .i64 b]) (some (w.heap.size + 4)) := Cd.grown_trans (Cd.set_grown (r := w.heap.size + 4) (i := 3) (.int .u64 (a : Nat))) (Cd.set_grown _)
  refine ⟨fun j hj => ⟨?_, h.free (3 + j)⟩, h.set ?_ hg, hg⟩
  · rcases (show j = 0 ∨ j = 1 by omega) with rfl | rfl
    · rw [c3]; rfl
    · rw [c4]; rfl
  · show ((W.setCell ⟨w.heap.size + 4, 3, none⟩ (.int .u64 (a : Nat))).setCell ⟨w.heap.size + 4, 4, none⟩ (.int .i64 b)).heap[w.heap.size + 4]? = _
    have e1 : (W.setCell ⟨w.heap.size + 4, 3, none⟩ (.int .u64 (a : Nat))).heap[w.heap.size + 4]? = some (.cells #[c, o, .int .i64 nx, .int .u64 (a : Nat), .int .i64 hp] 38 (0, 0)) := by rw [setCell_eq_setRow W _ 3 _ 38 (0, 0) _ h.sb, setRow_heap _ _ _ _ _ _ h.sb]; rfl
    rw [setCell_eq_setRow _ _ 4 _ 38 (0, 0) _ e1, setRow_heap _ _ _ _ _ _ e1]
    rfl
end
theorem own_any {w : World} {B n s : Nat} {t : TypeId} {v : Value} {xs : List Value} (h : w.ownsRow B t s v n xs) : ∃ a m b, v = .slice a m b := by
  rcases h.2 with ⟨rfl, _⟩ | ⟨g, cap, cur, rfl, _⟩
  · exact ⟨_, _, _, rfl⟩
  · exact ⟨_, _, _, rfl⟩
/-- One more entry. -/
theorem ent_step {w W : World} {ao : Option Addr} {n cap : Nat} {xs : List UInt8} {c : Value} {st : St} {es : List (Lb × List UInt8)} (h : Dk w ao n cap xs W c (.slice none 0 0) 0 0 0 st) (hr : CR (w.heap.size + 5) ao W c es) (hk : es.length ≤ 1000000) (hn : n ≤ 140737488355328) :
    Calls Try.prog 43 #[.pointer (some ⟨w.heap.size + 3, 0, none⟩)] W fun e w1 => ∃ vo vc c' w3, e = .returned (ent (decE st).1.1 (.slice vo (decE st).1.2.length vc)) ∧
      w1.cell? ⟨w.heap.size + 4, 0, none⟩ = some c ∧ (w1.alloc (.cells (cells5 ((decE st).1.1, (vo, (decE st).1.2.length, vc))).toArray 29)).cell? ⟨w.heap.size + 4, 0, none⟩ = some c ∧
      (Builtin.append_ #[35, 35] 35 #[c, .slice (some ⟨w1.heap.size, 0, none⟩) 1 1]).run Try.prog (w1.alloc (.cells (cells5 ((decE st).1.1, (vo, (decE st).1.2.length, vc))).toArray 29)) = .ok c' w3 ∧ (∃ a m b, c' = .slice a m b) ∧
      w3.cell? ⟨w.heap.size + 4, 0, none⟩ = some c ∧ w3.frozen? ⟨w.heap.size + 4, 0, none⟩ = false ∧
      Hid (Dk w ao n cap xs (w3.setCell ⟨w.heap.size + 4, 0, none⟩ c') c' (.slice none 0 0) 0 0 0 (decE st).2 ∧ CR (w.heap.size + 5) ao (w3.setCell ⟨w.heap.size + 4, 0, none⟩ c') c' (es ++ [(decE st).1])) := by
  obtain ⟨i0, hi0, hz0, hz1, hz2⟩ := info_parts infoE29
  obtain ⟨q, hrr, hs⟩ := h.rq
  refine (unone_step W _ ao n cap xs q st hs hrr h.row hn).mono ?_
  rintro e w1 ⟨vo, vc, rfl, hrv, hof, q1, hs1, rr1, g1⟩
  have h1 := h.call rr1 hs1 g1
  have r1 : CR (w.heap.size + 5) ao w1 c es := hr.gr g1 (fun k hk e => by cases hk; have := (hr.lt _ e).1; omega) (fun k a hk ha => by cases hk; have := h.ab a ha; omega)
  have u2 := bl1 w1 (.cells (cells5 ((decE st).1.1, (vo, (decE st).1.2.length, vc))).toArray 29)
  have h2 := h1.below u2
  obtain ⟨xs2, hl2, ho2, hm2⟩ := r1.bl u2
  obtain ⟨c', w3, hrun, ho3, hg3, _, hat⟩ := run_append_own_at (P := Try.prog) (w1.alloc (.cells (cells5 ((decE st).1.1, (vo, (decE st).1.2.length, vc))).toArray 29)) (w.heap.size + 5) 35 35 29 i0 (.agg #[.int .u64 0, .int .i64 0, .int .u64 0, .int .i64 0, .slice none 0 0]) 5 56 und35 hi0 hz0 hz1 hz2 rfl (by decide) c es.length (flatE xs2) ho2 ⟨w1.heap.size, 0, none⟩ 1 1 (cells5 ((decE st).1.1, (vo, (decE st).1.2.length, vc))) (by simp [cells5]) (fun j u hj => by
      rw [Addr.add_lit, Nat.zero_add]
      exact cell_box w1 _ 29 j u (by simpa using hj)) (fun u hu => by simp [cells5] at hu; rcases hu with rfl | rfl | rfl | rfl | rfl <;> rfl) (by unfold maxLen; omega) (by omega) (by have := h1.lt; have := u2.size; omega)
  have hlt : ∀ k, c.ownBlock = some k → w.heap.size + 5 ≤ k := fun k hk => (ownE_lt ho2 k hk).1
  have h3 := h2.behind hg3 hlt
  have r3 : CR (w.heap.size + 5) ao w3 c' (es ++ [(decE st).1]) := CR.snoc (s := (vo, (decE st).1.2.length, vc)) hl2 hm2 (hrv.below u2 (Nat.le_refl _)) hof (fun k a hk ha => by have := hlt k hk; have := h.ab a ha; omega) ho3 hg3
  refine ⟨vo, vc, c', w3, rfl, h1.cell.1, h2.cell.1, hrun, own_any ho3, h3.cell.1, h3.free 0, h3.setCon c', r3.gr (Cd.set_grown c') (fun k hk e => by cases hk; have := (r3.lt _ e).1; omega) (fun k a hk ha => by cases hk; have := h.ab a ha; omega)⟩
theorem infoL26 : (Try.prog.info? 26).map (fun i => (i.zero, i.size, i.bytes)) = some (some (.agg #[.int .u64 0, .int .i64 0, .int .u64 0, .int .i64 0]), 4, 32) := by kernel_rfl
/-- One more label. -/
theorem lab_step {w W : World} {ao : Option Addr} {n cap : Nat} {xs : List UInt8} {c o : Value} {st : St} {es : List (Lb × List UInt8)} {ls : List Lb} {F : Nat} (h : Dk w ao n cap xs W c o 0 0 0 st) (hr : CR (w.heap.size + 5) ao W c es) (hF : w.heap.size + 5 ≤ F) (hc : ∀ k, c.ownBlock = some k → k < F) (ho : W.ownsRow F 26 4 o ls.length (flat ls)) (hk : ls.length ≤ 1000000) (hFs : F ≤ W.heap.size) (hn : n ≤ 140737488355328) :
    Calls Try.prog 45 #[.pointer (some ⟨w.heap.size + 3, 0, none⟩)] W fun e w1 => ∃ o' w3, e = .returned (lab (decL st).1) ∧
      w1.cell? ⟨w.heap.size + 4, 1, none⟩ = some o ∧ (w1.alloc (.cells (cellsL (decL st).1).toArray 26)).cell? ⟨w.heap.size + 4, 1, none⟩ = some o ∧
      (Builtin.append_ #[36, 36] 36 #[o, .slice (some ⟨w1.heap.size, 0, none⟩) 1 1]).run Try.prog (w1.alloc (.cells (cellsL (decL st).1).toArray 26)) = .ok o' w3 ∧ (∃ a m b, o' = .slice a m b) ∧
      w3.cell? ⟨w.heap.size + 4, 1, none⟩ = some o ∧ w3.frozen? ⟨w.heap.size + 4, 1, none⟩ = false ∧
      Hid (Dk w ao n cap xs (w3.setCell ⟨w.heap.size + 4, 1, none⟩ o') c o' 0 0 0 (decL st).2 ∧ CR (w.heap.size + 5) ao (w3.setCell ⟨w.heap.size + 4, 1, none⟩ o') c es ∧ (w3.setCell ⟨w.heap.size + 4, 1, none⟩ o').ownsRow F 26 4 o' (ls ++ [(decL st).1]).length (flat (ls ++ [(decL st).1])) ∧ F ≤ (w3.setCell ⟨w.heap.size + 4, 1, none⟩ o').heap.size) := by
  obtain ⟨i0, hi0, hz0, hz1, hz2⟩ := info_parts infoL26
  obtain ⟨q, hrr, hs⟩ := h.rq
  refine (refDecodeL_step W _ ao n cap xs q st hs hrr h.row hn).mono ?_
  rintro e w1 ⟨rfl, q1, hs1, rr1, g1⟩
  have h1 := h.call rr1 hs1 g1
  have r1 : CR (w.heap.size + 5) ao w1 c es := hr.gr g1 (fun k hk e => by cases hk; have := (hr.lt _ e).1; omega) (fun k a hk ha => by cases hk; have := h.ab a ha; omega)
  have keep : ∀ {A B : World} {r : Option Nat} {v : Value} {m : Nat} {ys : List Value}, A.ownsRow F 26 4 v m ys → A.grownBy B r → (∀ k, r = some k → k < F) → B.ownsRow F 26 4 v m ys := fun {A B r v m ys} h g hr => by
    refine h.kept g ?_
    cases hv : v.ownBlock with
    | none => exact Or.inl rfl
    | some k => exact Or.inr (fun e => by have := (h.lt k hv).1; have := hr k e.symm; omega)
  have o1 := keep ho g1 (fun k hk => by cases hk; omega)
  have u2 := bl1 w1 (.cells (cellsL (decL st).1).toArray 26)
  have h2 := h1.below u2
  have r2 := r1.bl u2
  have o2 := keep o1 (Cd.grown_of_below u2 none) (fun k hk => by cases hk)
  obtain ⟨o', w3, hrun, ho3, hg3, _, hat⟩ := run_append_own_at (P := Try.prog) (w1.alloc (.cells (cellsL (decL st).1).toArray 26)) F 36 36 26 i0 (.agg #[.int .u64 0, .int .i64 0, .int .u64 0, .int .i64 0]) 4 32 und36 hi0 hz0 hz1 hz2 rfl (by decide) o ls.length (flat ls) o2 ⟨w1.heap.size, 0, none⟩ 1 1 (cellsL (decL st).1) (by simp [cellsL]) (fun j u hj => by
      rw [Addr.add_lit, Nat.zero_add]
      exact cell_box w1 _ 26 j u (by simpa using hj)) (fun u hu => by simp [cellsL] at hu; rcases hu with rfl | rfl | rfl | rfl <;> rfl) (by unfold maxLen; omega) (by omega) (by have := g1.size; have := u2.size; omega)
  have hlt : ∀ k, o.ownBlock = some k → F ≤ k := fun k hk => (o2.lt k hk).1
  have h3 := h2.behind hg3 (fun k hk => by have := hlt k hk; omega)
  have r3 := r2.gr hg3 (fun k hk e => by have := hlt k hk; have := hc k e; omega) (fun k a hk ha => by have := hlt k hk; have := h.ab a ha; omega)
  have e3 : flat ls ++ cellsL (decL st).1 = flat (ls ++ [(decL st).1]) := by simp [flat]
  rw [e3] at ho3
  refine ⟨o', w3, rfl, h1.cell.2.1, h2.cell.2.1, hrun, own_any ho3, h3.cell.2.1, h3.free 1, h3.setOrd o', r3.gr (Cd.set_grown o') (fun k hk e => by cases hk; have := (r3.lt _ e).1; omega) (fun k a hk ha => by cases hk; have := h.ab a ha; omega), ?_, ?_⟩
  · rw [List.length_append]
    exact keep ho3 (Cd.set_grown o') (fun k hk => by cases hk; omega)
  · have := g1.size
    have := u2.size
    have := hg3.size
    simp [World.setCell]
    omega
end Go.Proofs.Ytpdgoalbknopiaa
