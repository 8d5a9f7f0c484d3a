/-
  How a node lies in memory, and what it says.
-/
import Derived.Test.YtlonbbepoamnmaaDoorSAgain
import Derived.Test.YtlonbbepoamnmaaDoorMSet
import Derived.Test.YtlonbbepoamnmaaDoorPMach
import Derived.Laws.Rows
namespace Go.Proofs.YtlonbbepoamnmaaDoor
open Go.RowKit
set_option linter.unusedVariables false

/-- Of what was there only blocks of F have turned. -/
structure Turned (F : Nat → Prop) (w w' : World) : Prop where
  os : w'.os = w.os
  tape : w'.tape = w.tape
  output : w'.output = w.output
  size : w.heap.size ≤ w'.heap.size
  block : ∀ k, k < w.heap.size → ¬ F k → w'.heap[k]? = w.heap[k]?
theorem Turned.refl (F : Nat → Prop) (w : World) : Turned F w w := ⟨rfl, rfl, rfl, Nat.le_refl _, fun _ _ _ => rfl⟩
theorem Turned.trans {F F' : Nat → Prop} {a b c : World} (h : Turned F a b) (k : Turned F' b c) (hF : ∀ i, F' i → F i ∨ a.heap.size ≤ i) : Turned F a c :=
  ⟨k.os.trans h.os, k.tape.trans h.tape, k.output.trans h.output, Nat.le_trans h.size k.size, fun i hi hn => (k.block i (Nat.lt_of_lt_of_le hi h.size) (fun hf => (hF i hf).elim hn (fun hle => by omega))).trans (h.block i hi hn)⟩
theorem Turned.mono {F F' : Nat → Prop} {a b : World} (h : Turned F a b) (hF : ∀ i, F i → F' i) : Turned F' a b :=
  ⟨h.os, h.tape, h.output, h.size, fun i hi hn => h.block i hi (fun hf => hn (hF i hf))⟩
theorem Turned.of_grown {F : Nat → Prop} {w w' : World} {row : Option Nat} (h : w.grownBy w' row) (hr : ∀ k, row = some k → F k) : Turned F w w' :=
  ⟨h.os, h.tape, h.output, h.size, fun i hi hn => h.block i hi (fun e => hn (hr i e.symm))⟩
theorem Turned.of_below {F : Nat → Prop} {w w' : World} (h : Below w.heap.size w w') : Turned F w w' := ⟨h.os, h.tape, h.output, h.size, fun k hk _ => h.block k hk⟩
theorem Turned.alloc {F : Nat → Prop} {a w : World} (h : Turned F a w) (o : Obj) : Turned F a (w.alloc o) :=
  h.trans (Turned.of_grown (F := fun _ => False) (World.grownBy_alloc w o none) (by simp)) (by simp)
theorem Turned.drewN {F : Nat → Prop} {a w : World} (h : Turned F a w) (q : Nat) : Turned F a (w.drewN q) := ⟨h.os, h.tape, h.output, h.size, h.block⟩
theorem Turned.drew {F : Nat → Prop} {a w : World} (h : Turned F a w) : Turned F a w.drew := ⟨h.os, h.tape, h.output, h.size, h.block⟩
theorem Turned.setCell {F : Nat → Prop} {a w : World} (h : Turned F a w) {p : Addr} (hp : F p.block ∨ a.heap.size ≤ p.block) (u : Value) : Turned F a (w.setCell p u) :=
  h.trans (F' := fun i => i = p.block) ⟨rfl, rfl, rfl, by simp [World.setCell], fun k hk hn => Below.heap_setCell _ _ _ _ hn⟩ (by rintro i rfl; exact hp)
theorem Turned.below {F : Nat → Prop} {w w' : World} (h : Turned F w w') {B : Nat} (hB : B ≤ w.heap.size) (hF : ∀ i, F i → B ≤ i) : Below B w w' :=
  ⟨h.os, h.tape, h.output, h.size, fun k hk => h.block k (by omega) (fun hf => by have := hF k hf; omega)⟩
theorem Turned.bl {w w' : World} (h : Turned (fun _ => False) w w') : Below w.heap.size w w' := h.below (Nat.le_refl _) (fun _ f => f.elim)
theorem Turned.kp {F p : Nat → Prop} {w w' : World} (h : Turned F w w') (hp : ∀ b, p b → ¬ F b) : Kp p w w' := fun ad v hb hc => by
  have hl := World.block_lt_of_cell? w _ hc
  have := h.block _ hl (hp _ hb)
  rw [World.cell?_of_block (w := w) this]; exact hc
theorem cell_block {w w' : World} {b o : Nat} (h : w'.heap[b]? = w.heap[b]?) : w'.cell? ⟨b, o, none⟩ = w.cell? ⟨b, o, none⟩ := World.cell?_of_block (w := w) h
theorem frozen_block {w w' : World} {b o : Nat} (h : w'.heap[b]? = w.heap[b]?) : w'.frozen? ⟨b, o, none⟩ = w.frozen? ⟨b, o, none⟩ := World.frozen?_of_block (w := w) h
theorem row_block {w w' : World} {base e size : Nat} {v : Value} {n : Nat} {xs : List Value} (h : w.ownsRow base e size v n xs) (hb : ∀ b, v.ownBlock = some b → w'.heap[b]? = w.heap[b]?) : w'.ownsRow base e size v n xs := by
  refine ⟨h.1, ?_⟩
  rcases h.2 with hn | ⟨g, cap, cur, rfl, hbg, hg, r⟩
  · exact .inl hn
  · exact .inr ⟨g, cap, cur, rfl, hbg, by rw [hb g rfl]; exact hg, r⟩

/-- States in memory, and what they say. -/
def Si (p : Nat → Prop) (w : World) (x : Sx) (d : Sd) : Prop := x.1 = d.1 ∧ x.2.1 = d.2.1 ∧ x.2.2.1 = d.2.2.1 ∧ Its p w x.2.2.2.1 x.2.2.2.2.1 d.2.2.2
def Ss (p : Nat → Prop) (w : World) (ao : Option Addr) (n : Nat) (ds : List Sd) : Prop := ∃ ss, SR p w ao n ss ∧ ds.length = n ∧ ∀ (j : Nat) (x : Sx) (d : Sd), ss[j]? = some x → ds[j]? = some d → Si p w x d
section
variable {p q : Nat → Prop} {w w' : World} {x : Sx} {d : Sd} {ao : Option Addr} {n : Nat} {ds : List Sd}
theorem Si.keep (h : Si p w x d) (k : Kp p w w') : Si p w' x d := ⟨h.1, h.2.1, h.2.2.1, h.2.2.2.keep k⟩
theorem Si.imp (h : Si p w x d) (k : ∀ b, b < w.heap.size → p b → q b) : Si q w x d := ⟨h.1, h.2.1, h.2.2.1, h.2.2.2.imp k⟩
theorem Si.len (h : Si p w x d) : x.2.2.2.2.1 = d.2.2.2.length := h.2.2.2.len.symm
theorem Si.nil (p : Nat → Prop) (w : World) (n : Nat) (v f : Int) (c : Nat) : Si p w (n, v, f, none, 0, c) (n, v, f, []) := ⟨rfl, rfl, rfl, [], ⟨rfl, Nat.zero_le _, fun _ => rfl, fun h => absurd h (Nat.lt_irrefl 0)⟩, rfl, fun j x d hx => by simp at hx⟩
theorem Ss.keep (h : Ss p w ao n ds) (k : Kp p w w') : Ss p w' ao n ds := by
  obtain ⟨ss, h1, h2, h3⟩ := h
  exact ⟨ss, h1.keep k, h2, fun j x d hx hd => (h3 j x d hx hd).keep k⟩
theorem Ss.imp (h : Ss p w ao n ds) (k : ∀ b, b < w.heap.size → p b → q b) : Ss q w ao n ds := by
  obtain ⟨ss, h1, h2, h3⟩ := h
  exact ⟨ss, h1.imp k, h2, fun j x d hx hd => (h3 j x d hx hd).imp k⟩
theorem Ss.nil (p : Nat → Prop) (w : World) : Ss p w none 0 [] := ⟨[], ⟨rfl, by omega, fun _ => rfl, fun h => by omega⟩, rfl, fun j x d hx => by simp at hx⟩
theorem Ss.len (h : Ss p w ao n ds) : ds.length = n := by obtain ⟨_, _, h, _⟩ := h; exact h
theorem says_of {ss : List Sx} (h1 : ss.length = ds.length) (h2 : ∀ (j : Nat) (x : Sx) (d : Sd), ss[j]? = some x → ds[j]? = some d → Si p w x d) : Says ss ds := ⟨h1, fun j x d hx hd => ⟨(h2 j x d hx hd).1, (h2 j x d hx hd).2.1, (h2 j x d hx hd).2.2.1, (h2 j x d hx hd).len⟩⟩
theorem sts_of {ss : List Sx} (hs : SR p w ao n ss) (hl : ds.length = n) (h2 : ∀ (j : Nat) (x : Sx) (d : Sd), ss[j]? = some x → ds[j]? = some d → Si q w x d) : Sts (fun b => p b ∨ q b) w ao n ss (ds.map (·.2.2.2)) := by
  refine ⟨hs.imp (fun _ _ h => .inl h), by rw [List.length_map]; exact hl, fun j x e hx he => ?_⟩
  rw [List.getElem?_map] at he
  obtain ⟨d, hd, rfl⟩ := Option.map_eq_some_iff.1 he
  exact (h2 j x d hx hd).2.2.2.imp (fun _ _ h => .inr h)
end

/-- A state that is handed on. -/
theorem okS (x : Sx) : OkS x := trivial

/-- Join, by what states say. -/
theorem joinS_any {p q : Nat → Prop} (w : World) (ao : Option Addr) (n cap : Nat) (ss : List Sx) (ds : List Sd) (hs : SR p w ao n ss) (hl : ds.length = n) (h2 : ∀ (j : Nat) (x : Sx) (d : Sd), ss[j]? = some x → ds[j]? = some d → Si q w x d) (hn : n ≤ 1000) :
    Calls Tryd.prog 79 #[.slice ao n cap] w fun e w' => ∃ ao' cap' rs, e = .returned (.slice ao' (joinD ds).length cap') ∧ w'.ownsRow w.heap.size 45 4 (.slice ao' (joinD ds).length cap') (joinD ds).length (flat rs) ∧ rs.length = (joinD ds).length ∧
      (∀ (j : Nat) (x : Sx) (d : Sd), rs[j]? = some x → (joinD ds)[j]? = some d → Si (fun b => w.heap.size ≤ b ∧ ∀ a, ao' = some a → b ≠ a.block) w' x d) ∧ Below w.heap.size w w' := by
  have hsl : ss.length = ds.length := by rw [hs.1, hl]
  refine (join_any _ w ao n cap ss _ (sts_of hs hl h2) (fun x _ => okS x) hn).mono ?_
  rintro e w' ⟨ao', cap', J, rs, rfl, hJ, hown, hal, hsts, hits, _, hb⟩
  have hj := join_says (says_of hsl h2) hJ
  have hjl : (joinD ds).length = J.length := by rw [← hj, List.length_map]
  have hrl : rs.length = J.length := by rw [← hal.1, List.length_map]
  refine ⟨ao', cap', rs, by rw [hjl], by rw [hjl]; exact hown, by rw [hjl, hrl], fun j x d hx hd => ?_, hb⟩
  have hjlt : j < J.length := by have := (List.getElem?_eq_some_iff.1 hx).1; omega
  obtain ⟨t, ht⟩ : ∃ t, J[j]? = some t := ⟨J[j], List.getElem?_eq_getElem hjlt⟩
  have hm := tagl_mem (((hJ.2 t).1 (List.mem_of_getElem? ht)).1)
  have htl := (List.getElem?_eq_some_iff.1 hm).1
  have hdt : ds[t.2]? = some d := by
    rw [← hj, List.getElem?_map, ht] at hd
    simp at hd
    rw [List.getElem?_eq_getElem (by omega)] at hd ⊢
    simpa using hd
  have hsi := h2 t.2 t.1 d hm hdt
  obtain ⟨a1, a2, a3⟩ := hal.2 j t.1 x (by rw [List.getElem?_map, ht]; rfl) hx
  refine ⟨a1.trans hsi.1, a2.trans hsi.2.1, a3.trans hsi.2.2.1, ?_⟩
  refine hits j x d.2.2.2 hx ?_
  unfold esAt
  rw [List.getElem?_map, ht]
  simp [List.getElem?_map, hdt]

/-- The addresses of a frame's lists. -/
structure Fa where
  so : Option Addr
  sc : Nat
  mo : Option Addr
  mc : Nat
  io : Option Addr
  ic : Nat
def Fa.none : Fa := ⟨.none, 0, .none, 0, .none, 0⟩
def fcells (F : PF) (a : Fa) : Array Value := #[.int .u8 (F.kind : Nat), .int .i64 F.frm, .int .u64 (F.idN : Nat), .int .i64 F.idP, .int .u16 (F.set : Nat), .int .u64 (F.curN : Nat), .int .i64 F.curP, .int .u64 (F.promN : Nat), .int .i64 F.promP, .slice a.so F.st.length a.sc, .int .u64 (F.base : Nat), .slice a.mo F.ms.length a.mc, .slice a.io F.it.length a.ic, .int .u64 (F.ack : Nat), .int .u64 (F.safe : Nat)]
def fval (F : PF) (a : Fa) : Value := .agg (fcells F a)

/-- What a node's cells hold. -/
def tcell (t : Vid × Vid) : Nat → Value
  | 0 => .int .u64 (t.1.1 : Nat)
  | 1 => .int .i64 t.1.2
  | 2 => .int .u64 (t.2.1 : Nat)
  | _ => .int .i64 t.2.2
def ptr (o : Option Nat) : Value := .pointer (o.map fun b => ⟨b, 0, none⟩)
def mcell (M : Mm) (o : Option Nat) : Nat → Value
  | 0 => .int .u16 ((2 ^ M.n - 1 : Nat) : Int)
  | 1 => .int .i64 (M.self : Nat)
  | 2 => .int .u64 (M.cur.1 : Nat)
  | 3 => .int .i64 M.cur.2
  | 4 => .int .u16 (M.cset : Nat)
  | 5 => .int .u64 (M.prom.1 : Nat)
  | 6 => .int .i64 M.prom.2
  | 7 => .int .u64 (M.high : Nat)
  | 8 => ptr o
  | j + 9 => tcell (M.told (j / 4)) (j % 4)

/-- A proposal in memory. -/
structure Pb (w : World) (F Z : Nat → Prop) (q p : Nat) (P : Pp) : Prop where
  ne : p ≠ q
  fp : F p
  c0 : w.cell? ⟨p, 0, none⟩ = some (.int .u64 (P.id.1 : Nat))
  c1 : w.cell? ⟨p, 1, none⟩ = some (.int .i64 P.id.2)
  c2 : w.cell? ⟨p, 2, none⟩ = some (.int .u16 (P.set : Nat))
  c3 : w.cell? ⟨p, 3, none⟩ = some (.int .u16 (P.acc : Nat))
  fr : ∀ k, w.frozen? ⟨p, k, none⟩ = false
  s16 : P.set < 65536
  a16 : P.acc < 65536
  len : P.sts.length ≤ cntF 16 P.acc
  row : ∃ ao cap ss, w.cell? ⟨p, 4, none⟩ = some (.slice ao P.sts.length cap) ∧ w.ownsRow 1 45 4 (.slice ao P.sts.length cap) P.sts.length (flat ss) ∧ (∀ a, ao = some a → F a.block ∧ a.block ≠ p ∧ a.block ≠ q) ∧ ss.length = P.sts.length ∧
    ∀ (j : Nat) (x : Sx) (d : Sd), ss[j]? = some x → P.sts[j]? = some d → Si Z w x d
def OwnIs (w : World) (F Z : Nat → Prop) (q : Nat) : Option Pp → Option Nat → Prop
  | none, none => True
  | some P, some p => Pb w F Z q p P
  | _, _ => False
/-- A node in memory: F are its blocks, Z those that nobody writes to. -/
structure Mb (w : World) (F Z : Nat → Prop) (q : Nat) (M : Mm) (o : Option Nat) : Prop where
  cell : ∀ k, k < 73 → w.cell? ⟨q, k, none⟩ = some (mcell M o k)
  fr : ∀ k, w.frozen? ⟨q, k, none⟩ = false
  fq : F q
  lt : ∀ b, F b → b < w.heap.size
  f0 : ∀ b, F b → 0 < b
  zf : ∀ b, Z b → ¬ F b
  zl : ∀ b, Z b → b < w.heap.size
  tab : Tab w
  n16 : M.n ≤ 16
  sn : M.self < M.n
  own : OwnIs w F Z q M.own o

/-- What a call may have turned: the node's own blocks; what is new is its own, or written to by nobody. -/
structure Sp (w : World) (F Z : Nat → Prop) (w' : World) (F' Z' : Nat → Prop) : Prop where
  turned : Turned F w w'
  foot : ∀ b, F' b → F b ∨ w.heap.size ≤ b
  z : ∀ b, Z b → Z' b
  znew : ∀ b, Z' b → Z b ∨ w.heap.size ≤ b
  zlt : ∀ b, Z' b → b < w'.heap.size
theorem Sp.refl (w : World) (F Z : Nat → Prop) (zl : ∀ b, Z b → b < w.heap.size) : Sp w F Z w F Z := ⟨Turned.refl _ _, fun _ h => .inl h, fun _ h => h, fun _ h => .inl h, zl⟩
theorem Sp.trans {w w' w'' : World} {F F' F'' Z Z' Z'' : Nat → Prop} (h : Sp w F Z w' F' Z') (k : Sp w' F' Z' w'' F'' Z'') : Sp w F Z w'' F'' Z'' :=
  ⟨h.turned.trans k.turned h.foot, fun b hb => (k.foot b hb).elim (h.foot b) (fun hle => .inr (Nat.le_trans h.turned.size hle)), fun b hb => k.z b (h.z b hb), fun b hb => (k.znew b hb).elim (h.znew b) (fun hle => .inr (Nat.le_trans h.turned.size hle)), k.zlt⟩
/-- All that is new is written to by nobody. -/
def nz (Z : Nat → Prop) (w w' : World) : Nat → Prop := fun b => Z b ∨ (w.heap.size ≤ b ∧ b < w'.heap.size)
theorem Sp.up {w w' : World} {F Z : Nat → Prop} (u : Below w.heap.size w w') (zl : ∀ b, Z b → b < w.heap.size) : Sp w F Z w' F (nz Z w w') := ⟨Turned.of_below u, fun _ h => .inl h, fun _ h => .inl h, fun _ h => h.elim .inl (fun h => .inr h.1), fun b h => h.elim (fun h => Nat.lt_of_lt_of_le (zl b h) u.size) (fun h => h.2)⟩
theorem Sp.still {w w' : World} {F Z : Nat → Prop} (u : Below w.heap.size w w') (zl : ∀ b, Z b → b < w.heap.size) : Sp w F Z w' F Z := ⟨Turned.of_below u, fun _ h => .inl h, fun _ h => h, fun _ h => .inl h, fun b h => Nat.lt_of_lt_of_le (zl b h) u.size⟩
theorem Sp.kp {w w' : World} {F Z F' Z' : Nat → Prop} (s : Sp w F Z w' F' Z') (zf : ∀ b, Z b → ¬ F b) : Kp Z w w' := s.turned.kp zf

section
variable {w w' : World} {F Z Z' : Nat → Prop} {q : Nat} {M : Mm} {o : Option Nat}

theorem Tab.keep (h : Tab w) (hb : w'.heap[0]? = w.heap[0]?) : Tab w' := fun j v hj => (cell_block hb).trans (h j v hj)
/-- Blocks of the node are as they were, and so is what nobody writes to. -/
theorem Pb.frame {p : Nat} {P : Pp} (h : Pb w F Z q p P) (hb : ∀ b, F b → w'.heap[b]? = w.heap[b]?) (hk : Kp Z w w') (hz : ∀ b, Z b → Z' b) : Pb w' F Z' q p P := by
  obtain ⟨ao, cap, ss, r1, r2, r3, r4, r5⟩ := h.row
  have hp := hb p h.fp
  refine ⟨h.ne, h.fp, by rw [cell_block hp]; exact h.c0, by rw [cell_block hp]; exact h.c1, by rw [cell_block hp]; exact h.c2, by rw [cell_block hp]; exact h.c3, fun k => by rw [frozen_block hp]; exact h.fr k, h.s16, h.a16, h.len, ao, cap, ss, by rw [cell_block hp]; exact r1, ?_, r3, r4, fun j x d hx hd => ((r5 j x d hx hd).keep hk).imp (fun b _ hb => hz b hb)⟩
  refine row_block r2 (fun b hbb => ?_)
  cases ao with
  | none => cases hbb
  | some a =>
    have : a.block = b := by simpa [Value.ownBlock] using hbb
    subst this
    exact hb _ (r3 a rfl).1
theorem Mb.frame (h : Mb w F Z q M o) (hb : ∀ b, F b → w'.heap[b]? = w.heap[b]?) (h0 : w'.heap[0]? = w.heap[0]?) (hsz : w.heap.size ≤ w'.heap.size) (hk : Kp Z w w') (hz : ∀ b, Z b → Z' b) (hzf : ∀ b, Z' b → ¬ F b) (hzl : ∀ b, Z' b → b < w'.heap.size) : Mb w' F Z' q M o where
  cell := fun k hk => by rw [cell_block (hb q h.fq)]; exact h.cell k hk
  fr := fun k => by rw [frozen_block (hb q h.fq)]; exact h.fr k
  fq := h.fq
  lt := fun b hb => Nat.lt_of_lt_of_le (h.lt b hb) hsz
  f0 := h.f0
  zf := hzf
  zl := hzl
  tab := h.tab.keep h0
  n16 := h.n16
  sn := h.sn
  own := by
    have ho := h.own
    cases hM : M.own <;> cases o <;> rw [hM] at ho <;> simp only [OwnIs] at ho ⊢
    exact ho.frame hb hk hz
/-- Only new blocks came. -/
theorem Mb.up (h : Mb w F Z q M o) (u : Below w.heap.size w w') : Mb w' F (nz Z w w') q M o :=
  h.frame (fun b hb => u.block b (h.lt b hb)) (u.block 0 (h.tab.lt)) u.size (Kp.up u) (fun _ h => .inl h) (fun b hb hf => hb.elim (fun hz => h.zf b hz hf) (fun hle => by have := h.lt b hf; omega)) (fun b hb => hb.elim (fun hz => Nat.lt_of_lt_of_le (h.zl b hz) u.size) (fun h => h.2))
theorem Mb.still (h : Mb w F Z q M o) (u : Below w.heap.size w w') : Mb w' F Z q M o :=
  h.frame (fun b hb => u.block b (h.lt b hb)) (u.block 0 (h.tab.lt)) u.size (Kp.up u) (fun _ h => h) h.zf (fun b hz => Nat.lt_of_lt_of_le (h.zl b hz) u.size)
/-- Another one's call. -/
theorem Mb.other {G G' : Nat → Prop} (h : Mb w F Z q M o) (s : Sp w G Z w' G' Z') (hG : ∀ b, F b → ¬ G b) (hG0 : ¬ G 0) (hZ : ∀ b, Z b → ¬ G b) : Mb w' F Z' q M o :=
  h.frame (fun b hb => s.turned.block b (h.lt b hb) (hG b hb)) (s.turned.block 0 h.tab.lt hG0) s.turned.size (s.kp hZ) s.z (fun b hb hf => (s.znew b hb).elim (fun hz => h.zf b hz hf) (fun hle => by have := h.lt b hf; omega)) s.zlt
theorem Mb.sp (h : Mb w F Z q M o) : Sp w F Z w F Z := Sp.refl _ _ _ h.zl
theorem Mb.q0 (h : Mb w F Z q M o) : 0 < q := h.f0 q h.fq
theorem Mb.ownNone (h : Mb w F Z q M o) (hM : M.own = none) : o = none := by
  have ho := h.own
  rw [hM] at ho
  cases o <;> simp only [OwnIs] at ho
  rfl
theorem Mb.ownSome (h : Mb w F Z q M o) {P : Pp} (hM : M.own = some P) : ∃ p, o = some p ∧ Pb w F Z q p P := by
  have ho := h.own
  rw [hM] at ho
  cases o <;> simp only [OwnIs] at ho
  exact ⟨_, rfl, ho⟩
end
end Go.Proofs.YtlonbbepoamnmaaDoor
