/-
  Frames as they lie in memory: bytes, messages, items, states, and the fifteen cells of a frame.
-/
import Derived.Test.YtfemjbaadnjanaaFMathAll
import Derived.Test.YtfemjbaadnjanaaSAll
namespace Go.Proofs.Ytfemjbaadnjanaa
open Go.RowKit
set_option linter.unusedVariables false

theorem own_up {w w' : World} {B e s n : Nat} {v : Value} {xs : List Value} (h : w.ownsRow B e s v n xs) (u : Below w.heap.size w w') : w'.ownsRow B e s v n xs := by
  refine h.kept (row := none) ⟨u.os, u.tape, u.output, u.size, fun i hi _ => u.block i hi⟩ ?_
  cases v.ownBlock with
  | none => exact Or.inl rfl
  | some k => exact Or.inr (by simp)
/-- A slice's address, length and capacity that can be. -/
def Gs (ao : Option Addr) (n cap : Nat) : Prop := n ≤ cap ∧ cap ≤ 9223372036854775807 ∧ (ao = none → cap = 0)
/-- Bytes in memory, with their capacity. -/
def Rx (p : Nat → Prop) (w : World) (ao : Option Addr) (n cap : Nat) (xs : List UInt8) : Prop := Rw p w ao n xs ∧ Gs ao n cap
section
variable {p q : Nat → Prop} {w w' : World} {ao : Option Addr} {n cap : Nat}
theorem Rx.keep {xs : List UInt8} (h : Rx p w ao n cap xs) (k : Kp p w w') : Rx p w' ao n cap xs := ⟨h.1.keep k, h.2⟩
theorem Rx.imp {xs : List UInt8} (h : Rx p w ao n cap xs) (k : ∀ b, b < w.heap.size → p b → q b) : Rx q w ao n cap xs := ⟨h.1.imp k, h.2⟩
theorem Rx.up {xs : List UInt8} (h : Rx p w ao n cap xs) (u : Below w.heap.size w w') : Rx p w' ao n cap xs := h.keep (Kp.up u)
theorem Rx.row {xs : List UInt8} (h : Rx p w ao n cap xs) : Cd.Row w ao n cap xs := by
  obtain ⟨⟨h1, h2, h3, h4⟩, h5, h6, h7⟩ := h
  refine ⟨h1, h5, by unfold maxLen; omega, fun e => ⟨h3 e, h7 e⟩, fun a ha i hi => ?_⟩
  obtain ⟨b, off, e, _, hc⟩ := h4 (by omega)
  rw [ha] at e
  cases e
  rw [Addr.add_lit]
  have hi' : i < xs.length := by omega
  rw [hc i xs[i] (List.getElem?_eq_getElem hi')]
  simp [List.getD, List.getElem?_eq_getElem hi']
theorem Rx.nil : Rx p w none 0 0 [] := ⟨⟨rfl, by omega, fun _ => rfl, fun h => by omega⟩, by omega, by omega, fun _ => rfl⟩
/-- Bytes of one's own. -/
theorem own_rx {B : Nat} {v : Value} {xs : List UInt8} (h : w.ownsRow B 5 1 v n (xs.map Cd.by8)) (hm : n ≤ 140737488355328) : ∃ ao cap, v = .slice ao n cap ∧ Rx (fun b => B ≤ b ∧ v.ownBlock = some b) w ao n cap xs := by
  have hl : xs.length = n := by simpa using h.1
  have hc := h
  rcases h.2 with ⟨rfl, rfl⟩ | ⟨g, cp, cur, rfl, hb, hg, hn, hcp, hs, ht⟩
  · exact ⟨none, 0, rfl, ⟨hl, by omega, fun _ => rfl, fun h => by omega⟩, by omega, by omega, fun _ => rfl⟩
  · refine ⟨some ⟨g, 0, none⟩, cp, rfl, ⟨hl, hm, fun e => (by cases e), fun _ => ⟨g, 0, rfl, ⟨hb, rfl⟩, fun j x hj => ?_⟩⟩, hn, by unfold maxLen at hcp; omega, fun e => (by cases e)⟩
    rw [Nat.zero_add]
    refine own_cell hc j _ ?_
    rw [List.getElem?_map, hj]
    rfl

/-- An item in memory. -/
def ItX (p : Nat → Prop) (w : World) (x : Ix) (d : Di) : Prop := x.1 = d.1 ∧ Rx p w x.2.1 x.2.2.1 x.2.2.2 d.2
def ItsX (p : Nat → Prop) (w : World) (ao : Option Addr) (n : Nat) (ds : List Di) : Prop := ∃ xs, IR p w ao n xs ∧ ds.length = n ∧ ∀ (j : Nat) (x : Ix) (d : Di), xs[j]? = some x → ds[j]? = some d → ItX p w x d
theorem ItsX.keep {ds : List Di} (h : ItsX p w ao n ds) (k : Kp p w w') : ItsX p w' ao n ds := by
  obtain ⟨xs, h1, h2, h3⟩ := h
  exact ⟨xs, h1.keep k, h2, fun j x d hx hd => ⟨(h3 j x d hx hd).1, (h3 j x d hx hd).2.keep k⟩⟩
theorem ItsX.imp {ds : List Di} (h : ItsX p w ao n ds) (k : ∀ b, b < w.heap.size → p b → q b) : ItsX q w ao n ds := by
  obtain ⟨xs, h1, h2, h3⟩ := h
  exact ⟨xs, h1.imp k, h2, fun j x d hx hd => ⟨(h3 j x d hx hd).1, (h3 j x d hx hd).2.imp k⟩⟩
theorem ItsX.nil (p : Nat → Prop) (w : World) : ItsX p w none 0 [] := ⟨[], ⟨rfl, by omega, fun _ => rfl, fun h => by omega⟩, rfl, fun j x d hx => by simp at hx⟩
theorem ItsX.all {ds : List Di} (h : ItsX p w ao n ds) (f : Int → Bool) : ∃ xs, IR p w ao n xs ∧ xs.all (fun x => f x.1) = ds.all (fun d => f d.1) := by
  obtain ⟨xs, h1, h2, h3⟩ := h
  refine ⟨xs, h1, ?_⟩
  have hl := h1.1
  have e : xs.map (·.1) = ds.map (·.1) := by
    apply List.ext_getElem?
    intro j
    rw [List.getElem?_map, List.getElem?_map]
    by_cases hj : j < n
    · have a : xs[j]? = some xs[j] := List.getElem?_eq_getElem (by omega)
      have b : ds[j]? = some ds[j] := List.getElem?_eq_getElem (by omega)
      rw [a, b]
      simp only [Option.map_some]
      rw [(h3 j _ _ a b).1]
    · rw [List.getElem?_eq_none (by omega), List.getElem?_eq_none (by omega)]
      rfl
  have := congrArg (fun l => l.all f) e
  simpa [List.all_map, Function.comp_def] using this

/-- Slices of bytes in memory. -/
def MR (p : Nat → Prop) (w : World) (ao : Option Addr) (n : Nat) (xs : List (Option Addr × Nat × Nat)) : Prop :=
  xs.length = n ∧ n ≤ 5864062014805 ∧ (ao = none → n = 0) ∧ (0 < n → ∃ b off, ao = some ⟨b, off, none⟩ ∧ p b ∧ ∀ (j : Nat) x, xs[j]? = some x → w.cell? ⟨b, off + j, none⟩ = some (.slice x.1 x.2.1 x.2.2))
theorem MR.keep {xs : List (Option Addr × Nat × Nat)} (h : MR p w ao n xs) (k : Kp p w w') : MR p w' ao n xs := by
  obtain ⟨h1, h2, h3, h4⟩ := h
  refine ⟨h1, h2, h3, fun h0 => ?_⟩
  obtain ⟨b, off, e, hp, hc⟩ := h4 h0
  exact ⟨b, off, e, hp, fun j x hj => k _ _ hp (hc j x hj)⟩
theorem MR.imp {xs : List (Option Addr × Nat × Nat)} (h : MR p w ao n xs) (k : ∀ b, b < w.heap.size → p b → q b) : MR q w ao n xs := by
  obtain ⟨h1, h2, h3, h4⟩ := h
  refine ⟨h1, h2, h3, fun h0 => ?_⟩
  obtain ⟨b, off, e, hp, hc⟩ := h4 h0
  refine ⟨b, off, e, k b ?_ hp, hc⟩
  have := hc 0 xs[0] (List.getElem?_eq_getElem (by omega))
  exact World.block_lt_of_cell? w _ this
/-- Messages in memory. -/
def MsX (p : Nat → Prop) (w : World) (ao : Option Addr) (n : Nat) (ms : List (List UInt8)) : Prop := ∃ xs, MR p w ao n xs ∧ ms.length = n ∧ ∀ (j : Nat) x m, xs[j]? = some x → ms[j]? = some m → Rx p w x.1 x.2.1 x.2.2 m
theorem MsX.keep {ms : List (List UInt8)} (h : MsX p w ao n ms) (k : Kp p w w') : MsX p w' ao n ms := by
  obtain ⟨xs, h1, h2, h3⟩ := h
  exact ⟨xs, h1.keep k, h2, fun j x d hx hd => (h3 j x d hx hd).keep k⟩
theorem MsX.imp {ms : List (List UInt8)} (h : MsX p w ao n ms) (k : ∀ b, b < w.heap.size → p b → q b) : MsX q w ao n ms := by
  obtain ⟨xs, h1, h2, h3⟩ := h
  exact ⟨xs, h1.imp k, h2, fun j x d hx hd => (h3 j x d hx hd).imp k⟩
theorem MsX.nil (p : Nat → Prop) (w : World) : MsX p w none 0 [] := ⟨[], ⟨rfl, by omega, fun _ => rfl, fun h => by omega⟩, rfl, fun j x d hx => by simp at hx⟩

/-- A state in memory. -/
def SiX (p : Nat → Prop) (w : World) (x : Sx) (d : Sd) : Prop := x.1 = d.1 ∧ x.2.1 = d.2.1 ∧ x.2.2.1 = d.2.2.1 ∧ ItsX p w x.2.2.2.1 x.2.2.2.2.1 d.2.2.2
def SsX (p : Nat → Prop) (w : World) (ao : Option Addr) (n : Nat) (ds : List Sd) : Prop := ∃ ss, SR p w ao n ss ∧ ds.length = n ∧ ∀ (j : Nat) (x : Sx) (d : Sd), ss[j]? = some x → ds[j]? = some d → SiX p w x d
theorem SiX.keep {x : Sx} {d : Sd} (h : SiX p w x d) (k : Kp p w w') : SiX p w' x d := ⟨h.1, h.2.1, h.2.2.1, h.2.2.2.keep k⟩
theorem SsX.keep {ds : List Sd} (h : SsX p w ao n ds) (k : Kp p w w') : SsX p w' ao n ds := by
  obtain ⟨xs, h1, h2, h3⟩ := h
  exact ⟨xs, h1.keep k, h2, fun j x d hx hd => (h3 j x d hx hd).keep k⟩
theorem SsX.imp {ds : List Sd} (h : SsX p w ao n ds) (k : ∀ b, b < w.heap.size → p b → q b) : SsX q w ao n ds := by
  obtain ⟨xs, h1, h2, h3⟩ := h
  exact ⟨xs, h1.imp k, h2, fun j x d hx hd => ⟨(h3 j x d hx hd).1, (h3 j x d hx hd).2.1, (h3 j x d hx hd).2.2.1, (h3 j x d hx hd).2.2.2.imp k⟩⟩
theorem SsX.nil (p : Nat → Prop) (w : World) : SsX p w none 0 [] := ⟨[], ⟨rfl, by omega, fun _ => rfl, fun h => by omega⟩, rfl, fun j x d hx => by simp at hx⟩
end

/-- Where a frame's lists lie. -/
structure Fa where
  so : Option Addr
  sc : Nat
  mo : Option Addr
  mc : Nat
  io : Option Addr
  ic : Nat
def Fa.none : Fa := ⟨.none, 0, .none, 0, .none, 0⟩
def fcells (F : PF) (a : Fa) : Array Value := #[.int .u8 (F.kind : Nat), .int .i64 F.frm, .int .u64 (F.idN : Nat), .int .i64 F.idP, .int .u16 (F.set : Nat), .int .u64 (F.curN : Nat), .int .i64 F.curP, .int .u64 (F.promN : Nat), .int .i64 F.promP, .slice a.so F.st.length a.sc, .int .u64 (F.base : Nat), .slice a.mo F.ms.length a.mc, .slice a.io F.it.length a.ic, .int .u64 (F.ack : Nat), .int .u64 (F.safe : Nat)]
def fval (F : PF) (a : Fa) : Value := .agg (fcells F a)
structure FIn (p : Nat → Prop) (w : World) (F : PF) (a : Fa) : Prop where
  st : SsX p w a.so F.st.length F.st
  ms : MsX p w a.mo F.ms.length F.ms
  it : ItsX p w a.io F.it.length F.it
theorem FIn.keep {p : Nat → Prop} {w w' : World} {F : PF} {a : Fa} (h : FIn p w F a) (k : Kp p w w') : FIn p w' F a := ⟨h.st.keep k, h.ms.keep k, h.it.keep k⟩
theorem FIn.imp {p q : Nat → Prop} {w : World} {F : PF} {a : Fa} (h : FIn p w F a) (k : ∀ b, b < w.heap.size → p b → q b) : FIn q w F a := ⟨h.st.imp k, h.ms.imp k, h.it.imp k⟩
theorem FIn.up {p : Nat → Prop} {w w' : World} {F : PF} {a : Fa} (h : FIn p w F a) (u : Below w.heap.size w w') : FIn p w' F a := h.keep (Kp.up u)
theorem FIn.zero (p : Nat → Prop) (w : World) : FIn p w zeroF Fa.none := ⟨SsX.nil _ _, MsX.nil _ _, ItsX.nil _ _⟩

/-- A frame in a block. -/
structure Bf (B : Nat) (F : PF) (a : Fa) (w : World) : Prop where
  c0 : w.cell? ⟨B, 0, none⟩ = some (.int .u8 (F.kind : Nat))
  c1 : w.cell? ⟨B, 1, none⟩ = some (.int .i64 F.frm)
  c2 : w.cell? ⟨B, 2, none⟩ = some (.int .u64 (F.idN : Nat))
  c3 : w.cell? ⟨B, 3, none⟩ = some (.int .i64 F.idP)
  c4 : w.cell? ⟨B, 4, none⟩ = some (.int .u16 (F.set : Nat))
  c5 : w.cell? ⟨B, 5, none⟩ = some (.int .u64 (F.curN : Nat))
  c6 : w.cell? ⟨B, 6, none⟩ = some (.int .i64 F.curP)
  c7 : w.cell? ⟨B, 7, none⟩ = some (.int .u64 (F.promN : Nat))
  c8 : w.cell? ⟨B, 8, none⟩ = some (.int .i64 F.promP)
  c9 : w.cell? ⟨B, 9, none⟩ = some (.slice a.so F.st.length a.sc)
  c10 : w.cell? ⟨B, 10, none⟩ = some (.int .u64 (F.base : Nat))
  c11 : w.cell? ⟨B, 11, none⟩ = some (.slice a.mo F.ms.length a.mc)
  c12 : w.cell? ⟨B, 12, none⟩ = some (.slice a.io F.it.length a.ic)
  c13 : w.cell? ⟨B, 13, none⟩ = some (.int .u64 (F.ack : Nat))
  c14 : w.cell? ⟨B, 14, none⟩ = some (.int .u64 (F.safe : Nat))
theorem Bf.keep {B : Nat} {F : PF} {a : Fa} {w w' : World} (h : Bf B F a w) {p : Nat → Prop} (k : Kp p w w') (hp : p B) : Bf B F a w' :=
  ⟨k _ _ hp h.c0, k _ _ hp h.c1, k _ _ hp h.c2, k _ _ hp h.c3, k _ _ hp h.c4, k _ _ hp h.c5, k _ _ hp h.c6, k _ _ hp h.c7, k _ _ hp h.c8, k _ _ hp h.c9, k _ _ hp h.c10, k _ _ hp h.c11, k _ _ hp h.c12, k _ _ hp h.c13, k _ _ hp h.c14⟩
theorem Bf.up {B : Nat} {F : PF} {a : Fa} {w w' : World} (h : Bf B F a w) (u : Below w.heap.size w w') : Bf B F a w' := h.keep (p := fun _ => True) (Kp.up u) trivial
theorem Bf.of {B : Nat} {F : PF} {a : Fa} {w : World} (h : ∀ j v, (fcells F a)[j]? = some v → w.cell? ⟨B, j, none⟩ = some v) : Bf B F a w :=
  ⟨h 0 _ rfl, h 1 _ rfl, h 2 _ rfl, h 3 _ rfl, h 4 _ rfl, h 5 _ rfl, h 6 _ rfl, h 7 _ rfl, h 8 _ rfl, h 9 _ rfl, h 10 _ rfl, h 11 _ rfl, h 12 _ rfl, h 13 _ rfl, h 14 _ rfl⟩
theorem bf_new (w : World) (F : PF) (a : Fa) (t : TypeId) : Bf w.heap.size F a (w.alloc (.cells (fcells F a) t)) := Bf.of (fun j v hj => cell_box w _ t j v hj)
end Go.Proofs.Ytfemjbaadnjanaa
