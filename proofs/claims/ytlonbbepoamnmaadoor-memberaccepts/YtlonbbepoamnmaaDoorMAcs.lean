/-
  What a statement notes of nodes ahead of a move, beside them in memory.
-/
import Derived.Test.YtlonbbepoamnmaaDoorMVw0
import Derived.Deep.CutBlock
namespace Go.Proofs.YtlonbbepoamnmaaDoor
open Go.RowKit
set_option linter.unusedVariables false

theorem tk4 {P : Program} {md : Region.Mode} {l : List Oper} {Q : Exit → Act → World → Prop} {S : World → Prop} (i : Nat) {oi : Oper} {v : Value} {fuel : Nat} {listed : Array Bool} {a a' : Act} {w : World} (hi : l[i]? = some oi) (hy : ∀ w, S w → (execOp a.eval oi).run P w = .ok (.value v) w)
    (h : wpAnyH P md l.toArray Q S fuel (listed.setIfInBounds i true) a' w) (hw : Region.wanted oi (yielded l.toArray a.tmps) = true := by rfl) (hs : Region.noSelect l.toArray = true := by kernel_rfl) (hf : Region.free md l.toArray listed i = true := by kernel_rfl) (hr : (Region.ready md l.toArray listed).contains i = true := by kernel_rfl)
    (hQ : ∀ c a w, Q (.panic c) (a.put oi.dst v) w → Q (.panic c) a w := by exact fun _ _ _ h => h) (hS : S w := by assumption) (ha : a.put oi.dst v = a' := by (try simp only [Act.put, List.setIfInBounds_toArray, List.set_cons_zero, List.set_cons_succ]) <;> rfl) : wpAnyH P md l.toArray Q S (fuel + 1) listed a w :=
  take_first i hi hs hf hr hQ (.inl ⟨hw, hy⟩) hS (ha ▸ h)
/-- What is read of a group. -/
structure Rd (W0 : World) (B : Nat → Prop) (n gq : Nat) (g : Gp) (i : Nat) (w : World) (lb lc q vb vc : Nat) (xo : Option Addr) (xc : Nat) : Prop where
  c0 : w.cell? ⟨gq, 0, none⟩ = some (.int .i64 (n : Nat))
  c1 : w.cell? ⟨gq, 1, none⟩ = some (.slice (some ⟨lb, 0, none⟩) n lc)
  c3 : w.cell? ⟨gq, 3, none⟩ = some (.slice (some ⟨vb, 0, none⟩) n vc)
  cl : w.cell? ⟨lb, i, none⟩ = some (.pointer (some ⟨q, 0, none⟩))
  cv : w.cell? ⟨vb, i, none⟩ = some (.slice xo (g.views i).length xc)
theorem Gs.rd {W0 w : World} {col : Nat → Nat} {B : Nat → Prop} {n gq : Nat} {A : Ga} {g : Gp} (h : Gs W0 B w col n n n gq A g) {i : Nat} (hi : i < n) : ∃ lb lc vb vc xo xc, Rd W0 B n gq g i w lb lc (A.qs i) vb vc xo xc ∧ w.ownsRow 1 34 3 (.slice xo (g.views i).length xc) (g.views i).length (flatV (g.views i)) := by
  obtain ⟨lb, lc, hlv, _, hlc⟩ := h.lcell (by omega)
  obtain ⟨vao, vc, hvv, _, _, hvg⟩ := own_slice h.vs.1
  obtain ⟨vb, rfl⟩ := hvg (by omega)
  have hvl : A.vl.length = n := by have := h.vs.1.1; simpa using this
  obtain ⟨x, hx⟩ : ∃ x, A.vl[i]? = some x := ⟨A.vl[i]'(by omega), List.getElem?_eq_getElem (by omega)⟩
  obtain ⟨r1, _⟩ := h.vs.2.2 i x hx
  obtain ⟨xo, xc, hxe, _⟩ := own_slice r1
  refine ⟨lb, lc, vb, vc, xo, xc, ⟨h.c0, by rw [← hlv]; exact h.c1, by rw [← hvv]; exact h.c3, hlc i hi, ?_⟩, by rw [hxe] at r1; exact r1⟩
  have hv1 := h.vs.1
  rw [hvv] at hv1
  rw [hv1.cellAt i (by omega), hx, hxe]
theorem flatV_get : ∀ (L : List (Vid × Nat)) (k : Nat) (v : Vid × Nat) (j : Nat), L[k]? = some v → j < 3 → (flatV L)[k * 3 + j]? = (vcells v)[j]?
  | [], k, v, j, h, _ => by simp at h
  | y :: L, 0, v, j, h, hj => by
    have e : y = v := by simpa using h
    subst e
    simp only [flatV, List.flatMap_cons]
    rw [List.getElem?_append_left (by simp [vcells]; omega)]
    simp
  | y :: L, k + 1, v, j, h, hj => by
    have h' : L[k]? = some v := by simpa using h
    have := flatV_get L k v j h' hj
    simp only [flatV, List.flatMap_cons] at this ⊢
    rw [List.getElem?_append_right (by simp [vcells]; omega), show (k + 1) * 3 + j - (vcells y).length = k * 3 + j by simp [vcells]; omega]
    exact this
theorem row_views {w : World} {xo : Option Addr} {xc m : Nat} {L : List (Vid × Nat)} (h : w.ownsRow 1 34 3 (.slice xo m xc) L.length (flatV L)) {k : Nat} {v : Vid × Nat} (hv : L[k]? = some v) : ∃ g, xo = some ⟨g, 0, none⟩ ∧ w.cell? ⟨g, k * 3, none⟩ = some (.int .u64 (v.1.1 : Nat)) ∧ w.cell? ⟨g, k * 3 + 1, none⟩ = some (.int .i64 v.1.2) ∧ w.cell? ⟨g, k * 3 + 2, none⟩ = some (.int .u16 (v.2 : Nat)) := by
  have hk := (List.getElem?_eq_some_iff.1 hv).1
  obtain ⟨ao, cap, e, _, _, hg⟩ := own_slice h
  obtain ⟨g, rfl⟩ := hg (by omega)
  simp only [Value.slice.injEq] at e
  obtain ⟨rfl, rfl, rfl⟩ := e
  refine ⟨g, rfl, ?_, ?_, ?_⟩
  · have := flatV_get L k v 0 hv (by omega)
    rw [Nat.add_zero] at this
    rw [h.cellAt _ (by omega), this]; rfl
  · rw [h.cellAt _ (by omega), flatV_get L k v 1 hv (by omega)]; rfl
  · rw [h.cellAt _ (by omega), flatV_get L k v 2 hv (by omega)]; rfl

theorem und79 : Tryd.prog.underlying 79 = some (.slice 31) := by kernel_rfl
theorem und35 : Tryd.prog.underlying 35 = some (.slice 3) := by kernel_rfl
theorem info31 : (Tryd.prog.info? 31).map (fun i => (i.zero, i.size, i.bytes)) = some (some (.agg #[.int .u64 0, .int .i64 0]), 2, 16) := by kernel_rfl
theorem info3z : (Tryd.prog.info? 3).map (fun i => (i.zero, i.size, i.bytes)) = some (some (.int .i64 0), 1, 8) := by kernel_rfl

def pcells (v : Vid) : List Value := [.int .u64 (v.1 : Nat), .int .i64 v.2]
def flatP (g : Gp) (k : Nat) : List Value := (List.range k).flatMap (fun i => pcells (g.ms i).prom)
def cntL (g : Gp) (k : Nat) : List Value := (List.range k).map (fun i => Value.int .i64 ((g.views i).length : Nat))
theorem flatP_succ (g : Gp) (k : Nat) : flatP g (k + 1) = flatP g k ++ pcells (g.ms k).prom := by unfold flatP; rw [List.range_succ, List.flatMap_append]; simp
theorem cntL_succ (g : Gp) (k : Nat) : cntL g (k + 1) = cntL g k ++ [.int .i64 ((g.views k).length : Nat)] := by unfold cntL; rw [List.range_succ, List.map_append]; rfl
theorem flatP_len (g : Gp) : ∀ k, (flatP g k).length = k * 2
  | 0 => rfl
  | k + 1 => by rw [flatP_succ, List.length_append, flatP_len g k]; simp [pcells]; omega
theorem flatP_get (g : Gp) {i j : Nat} (hj : j < 2) : ∀ k, i < k → (flatP g k)[i * 2 + j]? = (pcells (g.ms i).prom)[j]?
  | 0, h => by omega
  | k + 1, h => by
    rw [flatP_succ]
    by_cases e : i < k
    · rw [List.getElem?_append_left (by rw [flatP_len]; omega)]
      exact flatP_get g hj k e
    · obtain rfl : i = k := by omega
      rw [List.getElem?_append_right (by rw [flatP_len]; omega), flatP_len, Nat.add_sub_cancel_left]
theorem cntL_get (g : Gp) {i k : Nat} (h : i < k) : (cntL g k)[i]? = some (.int .i64 ((g.views i).length : Nat)) := by
  unfold cntL
  rw [List.getElem?_map, List.getElem?_range h]
  rfl

section
variable {W0 w w' w1 : World} {col : Nat → Nat} {B : Nat → Prop} {n kp kc gq : Nat} {A : Ga} {g g' : Gp} {pv cv : Value}
/-- What was noted of nodes (g), and what they are (g'). -/
structure Pc (W0 : World) (B : Nat → Prop) (n gq : Nat) (g g' : Gp) (kp kc : Nat) (pv cv : Value) (w : World) (col : Nat → Nat) (A : Ga) : Prop where
  gs : Gs W0 B w col n n n gq A g'
  pr : w.ownsRow 1 31 2 pv kp (flatP g kp)
  pb : ∀ b, pv.ownBlock = some b → col b = 0 ∧ ¬ B b
  cr : w.ownsRow 1 3 1 cv kc (cntL g kc)
  cb : ∀ b, cv.ownBlock = some b → col b = 0 ∧ ¬ B b ∧ pv.ownBlock ≠ some b
theorem Pc.up (h : Pc W0 B n gq g g' kp kc pv cv w col A) (u : Below w.heap.size w w') : Pc W0 B n gq g g' kp kc pv cv w' col A :=
  ⟨h.gs.up u, row_block h.pr (fun b hb => u.block b (h.pr.lt b hb).2), h.pb, row_block h.cr (fun b hb => u.block b (h.cr.lt b hb).2), h.cb⟩
theorem Gs.free (h : Gs W0 B w col n n n gq A g) : col w.heap.size = 0 ∧ ¬ B w.heap.size := by
  refine ⟨?_, fun hb => absurd (h.hB _ hb) (Nat.lt_irrefl _)⟩
  by_cases e : col w.heap.size = 0
  · exact e
  · have := (h.lo _ e).2; omega
theorem Pc.pushP {pv' : Value} (h : Pc W0 B n gq g g' kp kc pv cv w col A) (gr : w.grownBy w1 pv.ownBlock) (hrow : w1.ownsRow 1 31 2 pv' (kp + 1) (flatP g kp ++ pcells (g.ms kp).prom)) (hat : pv'.ownBlock = pv.ownBlock ∨ pv'.ownBlock = some w.heap.size) : Pc W0 B n gq g g' (kp + 1) kc pv' cv w1 col A := by
  have hfr := h.gs.free
  refine ⟨h.gs.alien gr.os gr.tape gr.output gr.size (fun b hb hc => gr.block b hb (fun e => by
    have := h.pb b e.symm
    exact hc.elim (fun h => h this.1) this.2)), by rw [flatP_succ]; exact hrow, fun b hb => ?_, row_block h.cr (fun b hb => gr.block b (h.cr.lt b hb).2 (fun e => (h.cb b hb).2.2 e.symm)), fun b hb => ⟨(h.cb b hb).1, (h.cb b hb).2.1, fun e => ?_⟩⟩
  · rcases hat with e | e
    · exact h.pb b (by rw [← e]; exact hb)
    · rw [e] at hb
      have : w.heap.size = b := by simpa using hb
      subst this
      exact hfr
  · rcases hat with e2 | e2
    · exact (h.cb b hb).2.2 (by rw [← e2]; exact e)
    · rw [e2] at e
      have : w.heap.size = b := by simpa using e
      have := (h.cr.lt b hb).2
      omega
theorem Pc.pushC {cv' : Value} (h : Pc W0 B n gq g g' kp kc pv cv w col A) (gr : w.grownBy w1 cv.ownBlock) (hrow : w1.ownsRow 1 3 1 cv' (kc + 1) (cntL g kc ++ [.int .i64 ((g.views kc).length : Nat)])) (hat : cv'.ownBlock = cv.ownBlock ∨ cv'.ownBlock = some w.heap.size) : Pc W0 B n gq g g' kp (kc + 1) pv cv' w1 col A := by
  have hfr := h.gs.free
  refine ⟨h.gs.alien gr.os gr.tape gr.output gr.size (fun b hb hc => gr.block b hb (fun e => by
    have := h.cb b e.symm
    exact hc.elim (fun h => h this.1) this.2.1)), row_block h.pr (fun b hb => gr.block b (h.pr.lt b hb).2 (fun e => (h.cb b e.symm).2.2 hb)), h.pb, by rw [cntL_succ]; exact hrow, fun b hb => ?_⟩
  rcases hat with e | e
  · exact h.cb b (by rw [← e]; exact hb)
  · rw [e] at hb
    have : w.heap.size = b := by simpa using hb
    subst this
    exact ⟨hfr.1, hfr.2, fun e => by have := (h.pr.lt _ e).2; omega⟩
/-- All that is no node's must be as it was. -/
theorem Gs.rebase (h : Gs W0 B w col n n n gq A g) : Gs w (fun b => b < w.heap.size ∧ col b = 0) w col n n n gq A g :=
  { h with
    bel := ⟨rfl, rfl, rfl, Nat.le_refl _, fun _ _ => rfl⟩
    hB := fun b hb => hb.1
    hB1 := ⟨h.hB 0 h.hB1, by
      by_cases e : col 0 = 0
      · exact e
      · exact absurd h.hB1 (h.lo 0 e).1⟩
    lo := fun b hb => ⟨fun e => hb e.2, (h.lo b hb).2⟩ }
theorem Gs.back {col' : Nat → Nat} {A' : Ga} (h : Gs W0 B w col n n n gq A g) (h' : Gs w (fun b => b < w.heap.size ∧ col b = 0) w' col' n n n gq A' g') : Gs W0 B w' col' n n n gq A' g' := by
  have hk : ∀ b, B b → b < w.heap.size ∧ col b = 0 := fun b hb => ⟨h.hB b hb, by
    by_cases e : col b = 0
    · exact e
    · exact absurd hb (h.lo b e).1⟩
  exact { h' with
    bel := ⟨h'.bel.os.trans h.bel.os, h'.bel.tape.trans h.bel.tape, h'.bel.output.trans h.bel.output, Nat.le_trans h.bel.size h'.bel.size, fun b hb => (h'.bel.block b (hk b hb)).trans (h.bel.block b hb)⟩
    hB := fun b hb => h'.hB b (hk b hb)
    hB1 := h.hB1
    lo := fun b hb => ⟨fun e => (h'.lo b hb).1 (hk b e), (h'.lo b hb).2⟩ }
/-- A move: what was noted stays. -/
theorem Pc.move (h : Pc W0 B n gq g g n n pv cv w col A) (hsz : BagSz g.bag) {H : List (Vid × Nat)} (hinv : GInv n g H) (a : Mv) (ha : a.kind < 256 ∧ a.i < 256 ∧ a.est < 65536) (hb : g.bag.length ≤ 9000000) (hv : ∀ i, (g.views i).length ≤ 9000000) :
    Calls Tryd.prog 25 #[.pointer (some ⟨gq, 0, none⟩), mval a] w fun e w' => e = .returned (.tuple #[]) ∧ BagSz (g.move n a).bag ∧ ∃ col' A', Pc W0 B n gq g (g.move n a) n n pv cv w' col' A' := by
  refine (move_any (W0 := w) (B := fun b => b < w.heap.size ∧ col b = 0) ⟨hsz, col, A, h.gs.rebase⟩ hinv a ha hb hv).mono ?_
  rintro e w' ⟨rfl, hsz', col', A', hG⟩
  have z : ∀ b, b < w.heap.size → col b = 0 → col' b = 0 := fun b hl h0 => by
    by_cases e : col' b = 0
    · exact e
    · exact absurd ⟨hl, h0⟩ (hG.lo b e).1
  refine ⟨rfl, hsz', col', A', h.gs.back hG, row_block h.pr (fun b hb => hG.bel.block b ⟨(h.pr.lt b hb).2, (h.pb b hb).1⟩), fun b hb => ⟨z b (h.pr.lt b hb).2 (h.pb b hb).1, (h.pb b hb).2⟩, row_block h.cr (fun b hb => hG.bel.block b ⟨(h.cr.lt b hb).2, (h.cb b hb).1⟩), fun b hb => ⟨z b (h.cr.lt b hb).2 (h.cb b hb).1, (h.cb b hb).2⟩⟩
theorem Pc.read (h : Pc W0 B n gq g g' n n pv cv w col A) {k : Nat} (hk : k < n) : ∃ pb pc cb cc, pv = .slice (some ⟨pb, 0, none⟩) n pc ∧ cv = .slice (some ⟨cb, 0, none⟩) n cc ∧ w.cell? ⟨pb, k * 2, none⟩ = some (.int .u64 ((g.ms k).prom.1 : Nat)) ∧ w.cell? ⟨pb, k * 2 + 1, none⟩ = some (.int .i64 (g.ms k).prom.2) ∧ w.cell? ⟨cb, k, none⟩ = some (.int .i64 ((g.views k).length : Nat)) := by
  obtain ⟨ao, pc, e, _, _, hg⟩ := own_slice h.pr
  obtain ⟨pb, rfl⟩ := hg (by omega)
  obtain ⟨ao, cc, e', _, _, hg⟩ := own_slice h.cr
  obtain ⟨cb, rfl⟩ := hg (by omega)
  subst e e'
  refine ⟨pb, pc, cb, cc, rfl, rfl, ?_, ?_, ?_⟩
  · have := flatP_get g (i := k) (j := 0) (by omega) n hk
    rw [Nat.add_zero] at this
    rw [h.pr.cellAt _ (by omega), this]; rfl
  · rw [h.pr.cellAt _ (by omega), flatP_get g (i := k) (j := 1) (by omega) n hk]; rfl
  · rw [h.cr.cellAt _ (by omega), cntL_get g hk]
end
end Go.Proofs.YtlonbbepoamnmaaDoor
