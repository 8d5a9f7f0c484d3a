/-
  Package total's node in memory.
-/
import Derived.Test.YtlaihgdfedalmaaGreatTRow
import Derived.Test.YtlaihgdfedalmaaGreatTList
import Derived.Test.YtlaihgdfedalmaaGreatTLine
import Derived.Test.YtlaihgdfedalmaaGreatTSel
import Derived.Test.YtlaihgdfedalmaaGreatXTol
namespace Go.Proofs.YtlaihgdfedalmaaGreat
open Go.RowKit Go.Sort
set_option linter.unusedVariables false

/-- Of what was there only blocks of F have turned. -/
structure Turned (F : Nat → Prop) (w w' : World) : Prop where
  os : w'.os = w.os
  tape : w'.tape = w.tape
  output : w'.output = w.output
  size : w.heap.size ≤ w'.heap.size
  block : ∀ k, k < w.heap.size → ¬ F k → w'.heap[k]? = w.heap[k]?
theorem Turned.refl (F : Nat → Prop) (w : World) : Turned F w w := ⟨rfl, rfl, rfl, Nat.le_refl _, fun _ _ _ => rfl⟩
theorem Turned.trans {F F' : Nat → Prop} {a b c : World} (h : Turned F a b) (k : Turned F' b c) (hF : ∀ i, F' i → F i ∨ a.heap.size ≤ i) : Turned F a c :=
  ⟨k.os.trans h.os, k.tape.trans h.tape, k.output.trans h.output, Nat.le_trans h.size k.size, fun i hi hn => (k.block i (Nat.lt_of_lt_of_le hi h.size) (fun hf => (hF i hf).elim hn (fun hle => by omega))).trans (h.block i hi hn)⟩
theorem Turned.mono {F F' : Nat → Prop} {a b : World} (h : Turned F a b) (hF : ∀ i, F i → F' i) : Turned F' a b :=
  ⟨h.os, h.tape, h.output, h.size, fun i hi hn => h.block i hi (fun hf => hn (hF i hf))⟩
theorem Turned.of_grown {F : Nat → Prop} {w w' : World} {row : Option Nat} (h : w.grownBy w' row) (hr : ∀ k, row = some k → F k) : Turned F w w' :=
  ⟨h.os, h.tape, h.output, h.size, fun i hi hn => h.block i hi (fun e => hn (hr i e.symm))⟩
theorem Turned.of_below {F : Nat → Prop} {w w' : World} (h : Below w.heap.size w w') : Turned F w w' := ⟨h.os, h.tape, h.output, h.size, fun k hk _ => h.block k hk⟩
theorem Turned.alloc {F : Nat → Prop} {a w : World} (h : Turned F a w) (o : Obj) : Turned F a (w.alloc o) :=
  h.trans (Turned.of_grown (F := fun _ => False) (World.grownBy_alloc w o none) (by simp)) (by simp)
theorem Turned.drewN {F : Nat → Prop} {a w : World} (h : Turned F a w) (q : Nat) : Turned F a (w.drewN q) := ⟨h.os, h.tape, h.output, h.size, h.block⟩
theorem Turned.drew {F : Nat → Prop} {a w : World} (h : Turned F a w) : Turned F a w.drew := ⟨h.os, h.tape, h.output, h.size, h.block⟩
theorem Turned.setCell {F : Nat → Prop} {a w : World} (h : Turned F a w) {p : Addr} (hp : F p.block ∨ a.heap.size ≤ p.block) (u : Value) : Turned F a (w.setCell p u) :=
  h.trans (F' := fun i => i = p.block) ⟨rfl, rfl, rfl, by simp [World.setCell], fun k hk hn => Below.heap_setCell _ _ _ _ hn⟩ (by rintro i rfl; exact hp)
theorem Turned.below {F : Nat → Prop} {w w' : World} (h : Turned F w w') {B : Nat} (hB : B ≤ w.heap.size) (hF : ∀ i, F i → B ≤ i) : Below B w w' :=
  ⟨h.os, h.tape, h.output, h.size, fun k hk => h.block k (by omega) (fun hf => by have := hF k hf; omega)⟩
theorem Turned.bl {w w' : World} (h : Turned (fun _ => False) w w') : Below w.heap.size w w' := h.below (Nat.le_refl _) (fun _ f => f.elim)
theorem Turned.kp {F p : Nat → Prop} {w w' : World} (h : Turned F w w') (hp : ∀ b, p b → ¬ F b) : Kp p w w' := fun ad v hb hc => by
  have hl := World.block_lt_of_cell? w _ hc
  have := h.block _ hl (hp _ hb)
  rw [World.cell?_of_block (w := w) this]; exact hc
theorem cell_block {w w' : World} {b o : Nat} (h : w'.heap[b]? = w.heap[b]?) : w'.cell? ⟨b, o, none⟩ = w.cell? ⟨b, o, none⟩ := World.cell?_of_block (w := w) h
theorem frozen_block {w w' : World} {b o : Nat} (h : w'.heap[b]? = w.heap[b]?) : w'.frozen? ⟨b, o, none⟩ = w.frozen? ⟨b, o, none⟩ := World.frozen?_of_block (w := w) h
theorem Kp.up {p : Nat → Prop} {w w' : World} (u : Below w.heap.size w w') : Kp p w w' := Kp.bl u

/-- A node: plain data. K bounds how often something was laid into its maps. -/
structure Tot where
  n : Int
  self : Int
  qc : Nat
  acc : Nat
  vn : Nat
  vp : Int
  vs : Nat
  st : Nat
  seq : Nat
  dl : List (List UInt8)
  buf : List En
  con : List En
  ord : List Lb
  nx : Int
  rep : Int
  hn : Nat
  hp : Int
  told : List Pt
  sf : Nat
  safe : List Lb
  K : Nat
/-- Where its parts lie. -/
structure Ta where
  c : Nat
  cb : Nat
  ab : Nat
  sb : Nat
  bv : Value
  ov : Value
  tv : Value
def tcell (T : Tot) (a : Ta) : Nat → Value
  | 0 => .int .i64 T.n
  | 1 => .int .i64 T.self
  | 2 => .chan (some a.c)
  | 3 => .int .i64 (T.acc : Nat)
  | 4 => .int .u64 (T.vn : Nat)
  | 5 => .int .i64 T.vp
  | 6 => .int .u16 (T.vs : Nat)
  | 7 => .int .u8 (T.st : Nat)
  | 8 => .int .u64 (T.seq : Nat)
  | 9 => a.bv
  | 10 => .map (some a.cb)
  | 11 => a.ov
  | 12 => .map (some a.ab)
  | 13 => .int .i64 T.nx
  | 14 => .int .i64 T.rep
  | 15 => .int .u64 (T.hn : Nat)
  | 16 => .int .i64 T.hp
  | 17 => a.tv
  | 18 => .int .u16 (T.sf : Nat)
  | 19 => .map (some a.sb)
  | _ => undef
/-- A message: its bytes lie in blocks that nobody writes to. -/
def Mg (Z : Nat → Prop) (w : World) (s : Sv) (b : List UInt8) : Prop := Cd.Row w s.1 s.2.1 s.2.2 b ∧ ∀ ad, s.1 = some ad → 0 < s.2.1 → Z ad.block
theorem Mg.kp {Z Z' : Nat → Prop} {w w' : World} {s : Sv} {b : List UInt8} (h : Mg Z w s b) (k : Kp Z w w') (hz : ∀ k, Z k → Z' k) : Mg Z' w' s b := ⟨row_kp h.1 h.2 k, fun ad e hn => hz _ (h.2 ad e hn)⟩
/-- The parts of a node: each block has a colour (0: none of its). -/
structure Td (w : World) (col : Nat → Nat) (Z : Nat → Prop) (T : Tot) (a : Ta) : Prop where
  ch : ∃ (s r : Nat) (vs : List Sv), w.heap[a.c]? = some (.chan T.qc (vs.map sv).toArray false s r false) ∧ vs.length = T.dl.length ∧ ∀ (j : Nat) x b, vs[j]? = some x → T.dl[j]? = some b → Mg Z w x b
  con : ∃ m, StoIs w a.cb T.K m ∧ Con w m T.con ∧ ∀ x s, OkL x → m x = some s → ∀ ad, s.1 = some ad → 0 < s.2.1 → Z ad.block
  am : ∃ S, Q.SetIs w a.ab T.K S ∧ ∀ x, x ∈ S ↔ x ∈ T.ord
  sa : ∃ S, Q.SetIs w a.sb T.K S ∧ ∀ x, x ∈ S ↔ x ∈ T.safe
  bu : ∃ xs : List (Lb × Sv), xs.length = T.buf.length ∧ Rw w 41 5 a.bv T.buf.length (flatE xs) ∧ ∀ (j : Nat) e x, T.buf[j]? = some e → xs[j]? = some x → x.1 = e.1 ∧ Mg Z w x.2 e.2
  od : Rw w 39 4 a.ov T.ord.length (flat T.ord)
  tl : ∃ xs : List El, xs.map (·.1) = T.told ∧ Rw w 120 6 a.tv T.told.length (f6 xs) ∧ ∀ x ∈ xs, Fx Z w x
  cc : col a.c = 2
  ccb : col a.cb = 3
  cab : col a.ab = 4
  csb : col a.sb = 5
  cbv : ∀ b, a.bv.ownBlock = some b → col b = 6
  cov : ∀ b, a.ov.ownBlock = some b → col b = 7
  ctv : ∀ b, a.tv.ownBlock = some b → col b = 8
  lt : ∀ b, 0 < col b → b < w.heap.size
  zf : ∀ b, Z b → col b = 0
  zl : ∀ b, Z b → b < w.heap.size
/-- A node in memory. -/
structure Tt (w : World) (col : Nat → Nat) (Z : Nat → Prop) (q : Nat) (T : Tot) (a : Ta) : Prop where
  cell : ∀ k, k < 20 → w.cell? ⟨q, k, none⟩ = some (tcell T a k)
  fr : ∀ k, w.frozen? ⟨q, k, none⟩ = false
  fq : col q = 1
  d : Td w col Z T a
section
variable {w w' : World} {col : Nat → Nat} {Z Z' : Nat → Prop} {q : Nat} {T : Tot} {a : Ta}
theorem Td.frame (h : Td w col Z T a) (hb : ∀ b, 1 < col b → w'.heap[b]? = w.heap[b]?) (hsz : w.heap.size ≤ w'.heap.size) (hk : Kp Z w w') (hz : ∀ b, Z b → Z' b) (hzf : ∀ b, Z' b → col b = 0) (hzl : ∀ b, Z' b → b < w'.heap.size) : Td w' col Z' T a where
  ch := by
    obtain ⟨s, r, vs, h1, h2, h3⟩ := h.ch
    exact ⟨s, r, vs, by rw [hb _ (by rw [h.cc]; omega)]; exact h1, h2, fun j x b e1 e2 => (h3 j x b e1 e2).kp hk hz⟩
  con := by
    obtain ⟨m, h1, h2, h3⟩ := h.con
    refine ⟨m, h1.of_block (hb _ (by rw [h.ccb]; omega)), ⟨h2.1, h2.2.1, h2.2.2.1, fun x s hx hs => ?_⟩, fun x s hx hs ad e hn => hz _ (h3 x s hx hs ad e hn)⟩
    obtain ⟨bs, e1, e2⟩ := h2.2.2.2 x s hx hs
    exact ⟨bs, e1, row_kp e2 (h3 x s hx hs) hk⟩
  am := by
    obtain ⟨S, h1, h2⟩ := h.am
    exact ⟨S, h1.of_block (hb _ (by rw [h.cab]; omega)), h2⟩
  sa := by
    obtain ⟨S, h1, h2⟩ := h.sa
    exact ⟨S, h1.of_block (hb _ (by rw [h.csb]; omega)), h2⟩
  bu := by
    obtain ⟨xs, h1, h2, h3⟩ := h.bu
    exact ⟨xs, h1, h2.frame (fun b e => hb b (by rw [h.cbv b e]; omega)), fun j e x e1 e2 => ⟨(h3 j e x e1 e2).1, (h3 j e x e1 e2).2.kp hk hz⟩⟩
  od := h.od.frame (fun b e => hb b (by rw [h.cov b e]; omega))
  tl := by
    obtain ⟨xs, h1, h2, h3⟩ := h.tl
    exact ⟨xs, h1, h2.frame (fun b e => hb b (by rw [h.ctv b e]; omega)), fun x hx => ((h3 x hx).kp hk).mono hz⟩
  cc := h.cc
  ccb := h.ccb
  cab := h.cab
  csb := h.csb
  cbv := h.cbv
  cov := h.cov
  ctv := h.ctv
  lt := fun b hb => Nat.lt_of_lt_of_le (h.lt b hb) hsz
  zf := hzf
  zl := hzl
theorem Tt.frame (h : Tt w col Z q T a) (hb : ∀ b, 0 < col b → w'.heap[b]? = w.heap[b]?) (hsz : w.heap.size ≤ w'.heap.size) (hk : Kp Z w w') (hz : ∀ b, Z b → Z' b) (hzf : ∀ b, Z' b → col b = 0) (hzl : ∀ b, Z' b → b < w'.heap.size) : Tt w' col Z' q T a where
  cell := fun k hk => by rw [cell_block (hb q (by rw [h.fq]; omega))]; exact h.cell k hk
  fr := fun k => by rw [frozen_block (hb q (by rw [h.fq]; omega))]; exact h.fr k
  fq := h.fq
  d := h.d.frame (fun b e => hb b (by omega)) hsz hk hz hzf hzl
/-- Only new blocks came. -/
theorem Tt.still (h : Tt w col Z q T a) (u : Below w.heap.size w w') : Tt w' col Z q T a :=
  h.frame (fun b hb => u.block b (h.d.lt b hb)) u.size (Kp.bl u) (fun _ e => e) h.d.zf (fun b e => Nat.lt_of_lt_of_le (h.d.zl b e) u.size)
/-- A cell of the node's own is written to; the parts are as they were. -/
theorem Tt.setc (h : Tt w col Z q T a) {T' : Tot} {a' : Ta} (k : Nat) (v : Value) (hc : ∀ j, j < 20 → tcell T' a' j = if j = k then v else tcell T a j) (hk : k < 20)
    (hd : ∀ W : World, Td W col Z T a → Td W col Z T' a') : Tt (w.setCell ⟨q, k, none⟩ v) col Z q T' a' where
  cell := fun j hj => by
    rw [hc j hj]
    by_cases e : j = k
    · subst e
      rw [if_pos rfl]
      exact World.cell?_setCell_same w _ _ (h.cell j hj)
    · rw [if_neg e, World.cell?_setCell_other _ _ _ _ (by intro h; simp only [Addr.mk.injEq] at h; omega)]
      exact h.cell j hj
  fr := fun j => by rw [World.frozen?_setCell]; exact h.fr j
  fq := h.fq
  d := hd _ (h.d.frame (fun b hb => Below.heap_setCell _ _ _ _ (fun e => by have e' : b = q := (by first | exact e | exact e.symm); rw [e', h.fq] at hb; omega)) (by simp [World.setCell]) (fun ad u hz hu => by
    rw [World.cell?_setCell_other _ _ _ _ (fun e => by have := h.d.zf _ hz; have h1 := h.fq; rw [← e] at this; simp at this; omega)]
    exact hu) (fun _ e => e) h.d.zf (fun b e => by have := h.d.zl b e; simpa [World.setCell] using this))
end
end Go.Proofs.YtlaihgdfedalmaaGreat
