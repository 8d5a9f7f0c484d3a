/-
  Events and stays: what they say, and how they lie in memory.
-/
import Derived.Test.YthnbijnpbjfoaaaJAll1
import Derived.Test.YthnbijnpbjfoaaaJSet
namespace Go.Proofs.Ythnbijnpbjfoaaa
open Go.RowKit Go.Sort
set_option linter.unusedVariables false

/-- An event: its kind, its view's number and set, whom it is from, its bytes. -/
structure Ev where
  k : Nat
  n : Nat
  p : Int
  s : Nat
  f : Int
  m : By
/-- A stay: a node's time in a view. -/
structure Sy where
  node : Nat
  n : Nat
  p : Int
  s : Nat
  sent : List By
  got : List Di
  safe : Nat
  nn : Nat
  np : Int
def fresh (node : Nat) (e : Ev) : Sy := ⟨node, e.n, e.p, e.s, [], [], 0, 0, 0⟩
def zeroY (node : Nat) : Sy := ⟨node, 0, 0, 0, [], [], 0, 0, 0⟩
def sameView (y : Sy) (e : Ev) : Bool := decide (e.n = y.n ∧ e.p = y.p ∧ e.s = y.s)
/-- An event in the view. -/
def takeD (y : Sy) (e : Ev) : Option Sy :=
  if y.n = 0 ∨ sameView y e = false then none
  else if e.k = 2 then some { y with sent := y.sent ++ [e.m] }
  else if e.k = 3 then some { y with got := y.got ++ [(e.f, e.m)] }
  else if e.k = 4 then (if y.got[y.safe]? = some (e.f, e.m) then some { y with safe := y.safe + 1 } else none)
  else none
/-- May the node go on into this view? -/
def beforeD (y : Sy) (e : Ev) : Bool := decide (0 < e.n) && (hasN e.s y.node && decide (0 < cmpV e.n e.p y.n y.p))
/-- One more event. -/
def stepD (node : Nat) (st : List Sy × Sy) (e : Ev) : Option (List Sy × Sy) :=
  if e.k = 1 then (if beforeD st.2 e then some (st.1 ++ [{ st.2 with nn := e.n, np := e.p }], fresh node e) else none)
  else (takeD st.2 e).map (fun y => (st.1, y))
def runD (node : Nat) : List Ev → List Sy × Sy → Option (List Sy × Sy)
  | [], st => some st
  | e :: r, st => (stepD node st e).bind (runD node r)
theorem runD_snoc (node : Nat) : ∀ (l : List Ev) (e : Ev) (st : List Sy × Sy), runD node (l ++ [e]) st = (runD node l st).bind (fun s => stepD node s e)
  | [], e, st => by
    show (stepD node st e).bind (fun s => some s) = (some st).bind (fun s => stepD node s e)
    cases h : stepD node st e <;> simp [h]
  | a :: r, e, st => by
    simp only [List.cons_append, runD]
    cases stepD node st a with
    | none => rfl
    | some s => simpa using runD_snoc node r e s
theorem runD_none (node : Nat) : ∀ (l r : List Ev) (st : List Sy × Sy), runD node l st = none → runD node (l ++ r) st = none
  | [], r, st, h => by simp [runD] at h
  | a :: l, r, st, h => by
    simp only [List.cons_append, runD] at h ⊢
    cases hs : stepD node st a with
    | none => rfl
    | some s => rw [hs] at h; simpa using runD_none node l r s (by simpa using h)
/-- A node's times in views, one behind the other; none: no node has such events. -/
def staysD (node : Nat) (l : List Ev) : Option (List Sy) := (runD node l ([], zeroY node)).map (fun st => (st.1 ++ [st.2]).tail)
/-- What an event bears that came in. -/
def EvOk (e : Ev) : Prop := e.k < 256 ∧ e.n < 18446744073709551616 ∧ -9223372036854775808 ≤ e.p ∧ e.p ≤ 9223372036854775807 ∧ e.s < 65536 ∧ -9223372036854775808 ≤ e.f ∧ e.f ≤ 9223372036854775807

/-- Six cells of an event. -/
def E6 (w : World) (b o : Nat) (e : Ev) (r : Sr) : Prop :=
  w.cell? ⟨b, o, none⟩ = some (.int .u8 (e.k : Nat)) ∧ w.cell? ⟨b, o + 1, none⟩ = some (.int .u64 (e.n : Nat)) ∧ w.cell? ⟨b, o + 2, none⟩ = some (.int .i64 e.p) ∧ w.cell? ⟨b, o + 3, none⟩ = some (.int .u16 (e.s : Nat)) ∧ w.cell? ⟨b, o + 4, none⟩ = some (.int .i64 e.f) ∧ w.cell? ⟨b, o + 5, none⟩ = some (.slice r.1 r.2.1 r.2.2)
/-- Events that lie in memory; their bytes lie in blocks of a kind. -/
def EvR (p : Nat → Prop) (w : World) (ao : Option Addr) (n : Nat) (es : List Ev) : Prop :=
  es.length = n ∧ n ≤ 2199023255552 ∧ (ao = none → n = 0) ∧ (0 < n → ∃ b off, ao = some ⟨b, off, none⟩ ∧ p b ∧ ∀ j e, es[j]? = some e → ∃ r : Sr, E6 w b (off + j * 6) e r ∧ Cp r ∧ Rw p w r.1 r.2.1 e.m)
theorem E6.keep {p : Nat → Prop} {w w' : World} {b o : Nat} {e : Ev} {r : Sr} (h : E6 w b o e r) (k : Kp p w w') (hb : p b) : E6 w' b o e r := by
  obtain ⟨h0, h1, h2, h3, h4, h5⟩ := h
  exact ⟨k _ _ hb h0, k _ _ hb h1, k _ _ hb h2, k _ _ hb h3, k _ _ hb h4, k _ _ hb h5⟩
theorem E6.up {w w' : World} {b o : Nat} {e : Ev} {r : Sr} (h : E6 w b o e r) (u : Below w.heap.size w w') : E6 w' b o e r := h.keep (p := fun _ => True) (Kp.up u) trivial
theorem EvR.keep {p : Nat → Prop} {w w' : World} {ao : Option Addr} {n : Nat} {es : List Ev} (h : EvR p w ao n es) (k : Kp p w w') : EvR p w' ao n es := by
  obtain ⟨h1, h2, h3, h4⟩ := h
  refine ⟨h1, h2, h3, fun h0 => ?_⟩
  obtain ⟨b, off, e, hp, hc⟩ := h4 h0
  exact ⟨b, off, e, hp, fun j x hj => by
    obtain ⟨r, a, b, c⟩ := hc j x hj
    exact ⟨r, a.keep k hp, b, c.keep k⟩⟩
theorem EvR.at {p : Nat → Prop} {w : World} {ao : Option Addr} {n : Nat} {es : List Ev} (h : EvR p w ao n es) {k : Nat} {e : Ev} (hk : es[k]? = some e) :
    ∃ b off, ∃ r : Sr, ao = some ⟨b, off, none⟩ ∧ E6 w b (off + k * 6) e r ∧ Cp r ∧ Rw p w r.1 r.2.1 e.m := by
  obtain ⟨h1, h2, h3, h4⟩ := h
  have := (List.getElem?_eq_some_iff.1 hk).1
  obtain ⟨b, off, e', _, hc⟩ := h4 (by omega)
  obtain ⟨r, x, y, z⟩ := hc k e hk
  exact ⟨b, off, r, e', x, y, z⟩
def evv (e : Ev) (r : Sr) : Value := .agg #[.int .u8 (e.k : Nat), .int .u64 (e.n : Nat), .int .i64 e.p, .int .u16 (e.s : Nat), .int .i64 e.f, .slice r.1 r.2.1 r.2.2]
theorem e6_new (w : World) (e : Ev) (r : Sr) (t : TypeId) : E6 (w.alloc (.cells #[.int .u8 (e.k : Nat), .int .u64 (e.n : Nat), .int .i64 e.p, .int .u16 (e.s : Nat), .int .i64 e.f, .slice r.1 r.2.1 r.2.2] t)) w.heap.size 0 e r :=
  ⟨cell_box w _ t 0 _ rfl, cell_box w _ t 1 _ rfl, cell_box w _ t 2 _ rfl, cell_box w _ t 3 _ rfl, cell_box w _ t 4 _ rfl, cell_box w _ t 5 _ rfl⟩

/-- Nine cells of a stay. -/
def Y9 (w : World) (q : Nat) (y : Sy) (rs rg : Sr) : Prop :=
  w.cell? ⟨q, 0, none⟩ = some (.int .i64 (y.node : Nat)) ∧ w.cell? ⟨q, 1, none⟩ = some (.int .u64 (y.n : Nat)) ∧ w.cell? ⟨q, 2, none⟩ = some (.int .i64 y.p) ∧ w.cell? ⟨q, 3, none⟩ = some (.int .u16 (y.s : Nat)) ∧ w.cell? ⟨q, 4, none⟩ = some (.slice rs.1 rs.2.1 rs.2.2) ∧ w.cell? ⟨q, 5, none⟩ = some (.slice rg.1 rg.2.1 rg.2.2) ∧
  w.cell? ⟨q, 6, none⟩ = some (.int .i64 (y.safe : Nat)) ∧ w.cell? ⟨q, 7, none⟩ = some (.int .u64 (y.nn : Nat)) ∧ w.cell? ⟨q, 8, none⟩ = some (.int .i64 y.np)
theorem Y9.keep {p : Nat → Prop} {w w' : World} {q : Nat} {y : Sy} {rs rg : Sr} (h : Y9 w q y rs rg) (k : Kp p w w') (hb : p q) : Y9 w' q y rs rg := by
  obtain ⟨h0, h1, h2, h3, h4, h5, h6, h7, h8⟩ := h
  exact ⟨k _ _ hb h0, k _ _ hb h1, k _ _ hb h2, k _ _ hb h3, k _ _ hb h4, k _ _ hb h5, k _ _ hb h6, k _ _ hb h7, k _ _ hb h8⟩
theorem Y9.up {w w' : World} {q : Nat} {y : Sy} {rs rg : Sr} (h : Y9 w q y rs rg) (u : Below w.heap.size w w') : Y9 w' q y rs rg := h.keep (p := fun _ => True) (Kp.up u) trivial
theorem Y9.lt {w : World} {q : Nat} {y : Sy} {rs rg : Sr} (h : Y9 w q y rs rg) : q < w.heap.size := World.block_lt_of_cell? w _ h.1
/-- A list of bytes that is read alone. -/
def BsP (p : Nat → Prop) (w : World) (ao : Option Addr) (n : Nat) (xs : List By) : Prop :=
  ∃ rs, SlR p w ao n rs ∧ xs.length = n ∧ (∀ r ∈ rs, Cp r) ∧ ∀ (j : Nat) r x, rs[j]? = some r → xs[j]? = some x → Rw p w r.1 r.2.1 x
theorem BsP.keep {p : Nat → Prop} {w w' : World} {ao : Option Addr} {n : Nat} {xs : List By} (h : BsP p w ao n xs) (k : Kp p w w') : BsP p w' ao n xs := by
  obtain ⟨rs, h1, h2, h3, h4⟩ := h
  exact ⟨rs, h1.keep k, h2, h3, fun j r x hr hx => (h4 j r x hr hx).keep k⟩
theorem SlR.imp {p q : Nat → Prop} {w : World} {ao : Option Addr} {n : Nat} {xs : List Sr} (h : SlR p w ao n xs) (k : ∀ b, b < w.heap.size → p b → q b) : SlR q w ao n xs := by
  obtain ⟨h1, h2, h3, h4⟩ := h
  refine ⟨h1, h2, h3, fun h0 => ?_⟩
  obtain ⟨b, off, e, hp, hc⟩ := h4 h0
  refine ⟨b, off, e, k b ?_ hp, hc⟩
  have := hc 0 xs[0] (List.getElem?_eq_getElem (by omega))
  exact World.block_lt_of_cell? w _ this
theorem BsP.imp {p q : Nat → Prop} {w : World} {ao : Option Addr} {n : Nat} {xs : List By} (h : BsP p w ao n xs) (k : ∀ b, b < w.heap.size → p b → q b) : BsP q w ao n xs := by
  obtain ⟨rs, h1, h2, h3, h4⟩ := h
  exact ⟨rs, h1.imp k, h2, h3, fun j r x hr hx => (h4 j r x hr hx).imp k⟩
theorem BsP.bs {w : World} {ao : Option Addr} {n : Nat} {xs : List By} (h : BsP (fun _ => True) w ao n xs) : Bs w ao n xs := h
/-- A stay that nobody writes to: all of it lies in blocks of a kind. -/
def Fin (p : Nat → Prop) (w : World) (q : Nat) (y : Sy) : Prop :=
  ∃ rs rg : Sr, p q ∧ Y9 w q y rs rg ∧ Cp rs ∧ Cp rg ∧ BsP p w rs.1 rs.2.1 y.sent ∧ Its p w rg.1 rg.2.1 y.got
theorem Fin.keep {p : Nat → Prop} {w w' : World} {q : Nat} {y : Sy} (h : Fin p w q y) (k : Kp p w w') : Fin p w' q y := by
  obtain ⟨rs, rg, h0, h1, h2, h3, h4, h5⟩ := h
  exact ⟨rs, rg, h0, h1.keep k h0, h2, h3, h4.keep k, h5.keep k⟩
theorem Fin.imp {p p' : Nat → Prop} {w : World} {q : Nat} {y : Sy} (h : Fin p w q y) (k : ∀ b, b < w.heap.size → p b → p' b) : Fin p' w q y := by
  obtain ⟨rs, rg, h0, h1, h2, h3, h4, h5⟩ := h
  exact ⟨rs, rg, k q h1.lt h0, h1, h2, h3, h4.imp k, h5.imp k⟩
theorem Fin.up {p : Nat → Prop} {w w' : World} {q : Nat} {y : Sy} (h : Fin p w q y) (u : Below w.heap.size w w') : Fin p w' q y := h.keep (Kp.up u)
/-- A list of bytes of one's own, whose bytes lie in blocks of a kind. -/
def OwB (p : Nat → Prop) (B : Nat) (w : World) (r : Sr) (xs : List By) : Prop :=
  r.2.1 = xs.length ∧ ∃ rs : List Sr, w.ownsRow B 30 1 (.slice r.1 r.2.1 r.2.2) xs.length (rs.map slv) ∧ rs.length = xs.length ∧ (∀ s ∈ rs, Cp s) ∧ ∀ (j : Nat) s x, rs[j]? = some s → xs[j]? = some x → Rw p w s.1 s.2.1 x
theorem OwB.nil (p : Nat → Prop) (B : Nat) (w : World) : OwB p B w (none, 0, 0) [] := ⟨rfl, [], ⟨rfl, .inl ⟨rfl, rfl⟩⟩, rfl, by simp, fun j s x hs => by simp at hs⟩
/-- The stay that is being filled. -/
def Cur (p : Nat → Prop) (Z : Nat) (w : World) (q : Nat) (y : Sy) : Prop :=
  ∃ rs rg : Sr, q < Z ∧ Z ≤ w.heap.size ∧ Y9 w q y rs rg ∧ (∀ i, w.frozen? ⟨q, i, none⟩ = false) ∧ OwB p Z w rs y.sent ∧ OwP p Z w rg y.got
end Go.Proofs.Ythnbijnpbjfoaaa
