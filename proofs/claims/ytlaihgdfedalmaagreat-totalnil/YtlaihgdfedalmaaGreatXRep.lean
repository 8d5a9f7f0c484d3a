/-
  What nodes told, in memory; what comes of it, in plain data.
-/
import Derived.Test.YtlaihgdfedalmaaGreatERow
import Derived.Test.YtlaihgdfedalmaaGreatFLabels
import Derived.Deep.MidRow
namespace Go.Proofs.YtlaihgdfedalmaaGreat
open Go.RowKit
set_option linter.unusedVariables false
set_option linter.unusedSimpArgs false

/-- A node, and what it told. -/
structure Pt where
  node : Int
  es : List En
  ls : List Lb
  nx : Int
  hn : Nat
  hp : Int
/-- A summary's five cells, in blocks of p. -/
def SC (p : Nat → Prop) (w : World) (b off : Nat) (t : Pt) (ca : Option Addr) (cc : Nat) (oa : Option Addr) (oc : Nat) : Prop :=
  (w.cell? ⟨b, off, none⟩ = some (.slice ca t.es.length cc) ∧ w.cell? ⟨b, off + 1, none⟩ = some (.slice oa t.ls.length oc) ∧ w.cell? ⟨b, off + 2, none⟩ = some (.int .i64 t.nx) ∧ w.cell? ⟨b, off + 3, none⟩ = some (.int .u64 (t.hn : Nat)) ∧ w.cell? ⟨b, off + 4, none⟩ = some (.int .i64 t.hp)) ∧
  ER p w ca t.es.length t.es ∧ LR w oa t.ls.length t.ls ∧ (∀ a, oa = some a → 0 < t.ls.length → p a.block) ∧ (ca = none → t.es.length = 0 ∧ cc = 0) ∧ (oa = none → t.ls.length = 0 ∧ oc = 0)
/-- Summaries in memory, in blocks of p. -/
def SL (p : Nat → Prop) (w : World) (ao : Option Addr) (n : Nat) (ts : List Pt) : Prop :=
  ts.length = n ∧ n ≤ 9223372036854775807 ∧ (0 < n → ∃ b off, ao = some ⟨b, off, none⟩ ∧ p b ∧ ∀ j t, ts[j]? = some t → ∃ ca cc oa oc, SC p w b (off + j * 5) t ca cc oa oc)
/-- Nodes and what they told in memory, in blocks of p. -/
def TL (p : Nat → Prop) (w : World) (ao : Option Addr) (n : Nat) (ts : List Pt) : Prop :=
  ts.length = n ∧ n ≤ 9223372036854775807 ∧ (0 < n → ∃ b off, ao = some ⟨b, off, none⟩ ∧ p b ∧ ∀ j t, ts[j]? = some t → w.cell? ⟨b, off + j * 6, none⟩ = some (.int .i64 t.node) ∧ ∃ ca cc oa oc, SC p w b (off + j * 6 + 1) t ca cc oa oc)
theorem LR.kp {p : Nat → Prop} {w w' : World} {ao : Option Addr} {n : Nat} {ls : List Lb} (h : LR w ao n ls) (hp : ∀ a, ao = some a → 0 < n → p a.block) (k : Kp p w w') : LR w' ao n ls := by
  by_cases h0 : n = 0
  · exact ⟨h.1, h.2.1, fun hn => by omega⟩
  · refine h.of_cells (fun ad v hb hv => k ad v ?_ hv)
    obtain ⟨b, off, e, _⟩ := h.2.2 (by omega)
    rw [e] at hb hp
    simp at hb
    rw [← hb]
    exact hp _ rfl (by omega)
theorem SC.kp {p : Nat → Prop} {w w' : World} {b off : Nat} {t : Pt} {ca : Option Addr} {cc : Nat} {oa : Option Addr} {oc : Nat} (h : SC p w b off t ca cc oa oc) (hb : p b) (k : Kp p w w') : SC p w' b off t ca cc oa oc := by
  obtain ⟨⟨h0, h1, h2, h3, h4⟩, h5, h6, h7, h8, h9⟩ := h
  exact ⟨⟨k _ _ hb h0, k _ _ hb h1, k _ _ hb h2, k _ _ hb h3, k _ _ hb h4⟩, h5.kp k, h6.kp h7 k, h7, h8, h9⟩
theorem SL.kp {p : Nat → Prop} {w w' : World} {ao : Option Addr} {n : Nat} {ts : List Pt} (h : SL p w ao n ts) (k : Kp p w w') : SL p w' ao n ts := by
  refine ⟨h.1, h.2.1, fun hn => ?_⟩
  obtain ⟨b, off, e, hp, hc⟩ := h.2.2 hn
  refine ⟨b, off, e, hp, fun j t hj => ?_⟩
  obtain ⟨ca, cc, oa, oc, hs⟩ := hc j t hj
  exact ⟨ca, cc, oa, oc, hs.kp hp k⟩
theorem TL.kp {p : Nat → Prop} {w w' : World} {ao : Option Addr} {n : Nat} {ts : List Pt} (h : TL p w ao n ts) (k : Kp p w w') : TL p w' ao n ts := by
  refine ⟨h.1, h.2.1, fun hn => ?_⟩
  obtain ⟨b, off, e, hp, hc⟩ := h.2.2 hn
  refine ⟨b, off, e, hp, fun j t hj => ?_⟩
  obtain ⟨h0, ca, cc, oa, oc, hs⟩ := hc j t hj
  exact ⟨k _ _ hp h0, ca, cc, oa, oc, hs.kp hp k⟩
theorem SL.bl {p : Nat → Prop} {w w' : World} {ao : Option Addr} {n : Nat} {ts : List Pt} (h : SL p w ao n ts) (u : Below w.heap.size w w') : SL p w' ao n ts := h.kp (Kp.bl u)
theorem TL.bl {p : Nat → Prop} {w w' : World} {ao : Option Addr} {n : Nat} {ts : List Pt} (h : TL p w ao n ts) (u : Below w.heap.size w w') : TL p w' ao n ts := h.kp (Kp.bl u)

/-- The greatest number of a primary view. -/
def gtV (a b : Nat × Int) : Bool := decide (0 < cmpV a.1 a.2 b.1 b.2)
def highF (v : Nat × Int) (t : Pt) : Nat × Int := if gtV (t.hn, t.hp) v then (t.hn, t.hp) else v
def highT (ts : List Pt) : Nat × Int := ts.foldl highF (0, 0)
/-- Who is chosen. -/
def chF (h : Nat × Int) (c : Int) (t : Pt) : Int := if (decide (t.hn = h.1) && decide (t.hp = h.2)) then (if c < t.node then t.node else c) else c
def chT (ts : List Pt) : Int := ts.foldl (chF (highT ts)) (-1)
def nxF (n : Int) (t : Pt) : Int := if n < t.nx then t.nx else n
def nxT (ts : List Pt) : Int := ts.foldl nxF 1
theorem foldl_take {α β : Type} (f : β → α → β) (b : β) (l : List α) (k : Nat) (x : α) (h : l[k]? = some x) : (l.take (k + 1)).foldl f b = f ((l.take k).foldl f b) x := by
  rw [List.take_add_one, h]
  simp
theorem und65s : (Tryz.prog.underlying 120).any (·.isRow) = true := by kernel_rfl
theorem info65 : (Tryz.prog.info? 120).map (·.size) = some 6 := by kernel_rfl
/-- A node and what it told is read. -/
theorem wpList_load_T {ops : Array Oper} {rest : List Oper} {o : Oper} {a : Act} {w : World} {Q : Exit → Act → World → Prop} (hgd : o.guard = none) (x : Operand) (ho : o.op = .load 120 x) (b of : Nat) (hx : a.eval x = .pointer (some ⟨b, of, none⟩))
    (v0 v1 v2 v3 v4 v5 : Value) (h0 : w.cell? ⟨b, of, none⟩ = some v0) (h1 : w.cell? ⟨b, of + 1, none⟩ = some v1) (h2 : w.cell? ⟨b, of + 1 + 1, none⟩ = some v2) (h3 : w.cell? ⟨b, of + 1 + 2, none⟩ = some v3) (h4 : w.cell? ⟨b, of + 1 + 3, none⟩ = some v4) (h5 : w.cell? ⟨b, of + 1 + 4, none⟩ = some v5)
    (h : wpList Tryz.prog ops Q rest (a.put o.dst (.agg #[v0, v1, v2, v3, v4, v5])) w) : wpList Tryz.prog ops Q (o :: rest) a w := by
  obtain ⟨d, hd, hr⟩ := (Option.any_eq_true _ _).1 und65s
  refine wpList_load_mid hgd 120 x ho b of hx [v0, v1, v2, v3, v4, v5] d (fun j u hj => ?_) hd hr info65 h
  match j, hj with
  | 0, hj => simp at hj; subst hj; simpa using h0
  | 1, hj => simp at hj; subst hj; exact h1
  | 2, hj => simp at hj; subst hj; exact h2
  | 3, hj => simp at hj; subst hj; exact h3
  | 4, hj => simp at hj; subst hj; exact h4
  | 5, hj => simp at hj; subst hj; exact h5
  | n + 6, hj => simp at hj
/-- A view's number in a box. -/
def VB (g : Nat) (v : Nat × Int) (w : World) : Prop := w.heap[g]? = some (.cells #[.int .u64 (v.1 : Nat), .int .i64 v.2] 33 (0, 0))
theorem VB.lt {g : Nat} {v : Nat × Int} {w : World} (h : VB g v w) : g < w.heap.size := (Array.getElem?_eq_some_iff.1 h).1
theorem VB.bl {g : Nat} {v : Nat × Int} {w w' : World} (h : VB g v w) (u : Below w.heap.size w w') : VB g v w' := by
  unfold VB at *
  rw [u.block g (Array.getElem?_eq_some_iff.1 h).1]
  exact h
theorem VB.at {g : Nat} {v : Nat × Int} {w : World} (h : VB g v w) : w.cell? ⟨g, 0, none⟩ = some (.int .u64 (v.1 : Nat)) ∧ w.cell? ⟨g, 1, none⟩ = some (.int .i64 v.2) := by
  unfold VB at h
  unfold World.cell?
  simp [h]
theorem VB.set {g : Nat} {v : Nat × Int} {w : World} (h : VB g v w) (z : Nat × Int) : VB g z (w.setRow g #[.int .u64 (z.1 : Nat), .int .i64 z.2]) := setRow_heap _ _ _ _ _ _ h
theorem VB.other {g k : Nat} {v : Nat × Int} {w : World} (h : VB g v w) (cs : Array Value) (hk : g ≠ k) : VB g v (w.setRow k cs) := by
  unfold VB at *
  rw [setRow_other _ _ _ _ hk]
  exact h
theorem info32 : (Tryz.prog.info? 33).map (·.size) = some 2 := by kernel_rfl
end Go.Proofs.YtlaihgdfedalmaaGreat
