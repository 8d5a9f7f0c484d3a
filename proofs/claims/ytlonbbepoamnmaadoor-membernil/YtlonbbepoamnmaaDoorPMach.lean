/-
  What a node knows of views, in plain data: its calls as functions.
-/
import Derived.Test.YtlonbbepoamnmaaDoorPSet
import Derived.Test.YtlonbbepoamnmaaDoorPJoin
namespace Go.Proofs.YtlonbbepoamnmaaDoor
set_option linter.unusedVariables false

/-- A view's number. -/
abbrev Vid := Nat × Int
def vlt (a b : Vid) : Prop := a.1 < b.1 ∨ a.1 = b.1 ∧ a.2 < b.2
def vle (a b : Vid) : Prop := a.1 < b.1 ∨ a.1 = b.1 ∧ a.2 ≤ b.2
instance (a b : Vid) : Decidable (vlt a b) := by unfold vlt; infer_instance
instance (a b : Vid) : Decidable (vle a b) := by unfold vle; infer_instance
theorem vle_refl (a : Vid) : vle a a := by unfold vle; omega
theorem vle_trans {a b c : Vid} (h : vle a b) (k : vle b c) : vle a c := by unfold vle at *; omega
theorem vlt_trans {a b c : Vid} (h : vlt a b) (k : vlt b c) : vlt a c := by unfold vlt at *; omega
theorem vlt_le {a b : Vid} (h : vlt a b) : vle a b := by unfold vle vlt at *; omega
theorem vlt_of_lt_le {a b c : Vid} (h : vlt a b) (k : vle b c) : vlt a c := by unfold vle vlt at *; omega
theorem vlt_of_le_lt {a b c : Vid} (h : vle a b) (k : vlt b c) : vlt a c := by unfold vle vlt at *; omega
theorem not_vlt {a b : Vid} : ¬ vlt a b ↔ vle b a := by unfold vle vlt; omega
theorem vle_antisymm {a b : Vid} (h : vle a b) (k : vle b a) : a = b := by
  unfold vle at *
  exact Prod.ext (by omega) (by omega)
theorem vlt_irr (a : Vid) : ¬ vlt a a := by unfold vlt; omega
theorem vlt_ne {a b : Vid} (h : vlt a b) : a ≠ b := fun e => by subst e; exact vlt_irr _ h
theorem vle_lt_or_eq {a b : Vid} (h : vle a b) : a = b ∨ vlt a b := by
  by_cases e : vlt a b
  · exact .inr e
  · exact .inl (vle_antisymm h (not_vlt.1 e))
theorem vle_of_eq {a b : Vid} (h : a = b) : vle a b := h ▸ vle_refl a
theorem vle_fst {a b : Vid} (h : vle a b) : a.1 ≤ b.1 := by unfold vle at h; omega

/-- A frame. -/
structure PF where
  kind : Nat
  frm : Int
  idN : Nat
  idP : Int
  set : Nat
  curN : Nat
  curP : Int
  promN : Nat
  promP : Int
  st : List Sd
  base : Nat
  ms : List (List UInt8)
  it : List Di
  ack : Nat
  safe : Nat
def zeroF : PF := ⟨0, 0, 0, 0, 0, 0, 0, 0, 0, [], 0, [], [], 0, 0⟩
def PF.id (F : PF) : Vid := (F.idN, F.idP)
def PF.cur (F : PF) : Vid := (F.curN, F.curP)
def PF.prom (F : PF) : Vid := (F.promN, F.promP)

/-- A proposal of one's own. -/
structure Pp where
  id : Vid
  set : Nat
  acc : Nat
  sts : List Sd
/-- What a node knows. -/
structure Mm where
  n : Nat
  self : Nat
  cur : Vid
  cset : Nat
  prom : Vid
  high : Nat
  own : Option Pp
  told : Nat → Vid × Vid
/-- A view that is installed. -/
structure Ins where
  id : Vid
  set : Nat
  sts : List Sd
structure Res where
  m : Mm
  outs : List (Nat × PF)
  inst : Option Ins
  err : Nat

def upd {α : Type} (f : Nat → α) (i : Nat) (x : α) : Nat → α := fun j => if j = i then x else f j
theorem upd_same {α : Type} (f : Nat → α) (i : Nat) (x : α) : upd f i x i = x := by simp [upd]
theorem upd_other {α : Type} (f : Nat → α) {i j : Nat} (x : α) (h : j ≠ i) : upd f i x j = f j := by simp [upd, h]

def newM (n self : Nat) : Mm := ⟨n, self, (0, 0), 0, (0, 0), 0, none, fun _ => ((0, 0), (0, 0))⟩
def Pp.agreed (p : Pp) : Bool := decide (p.acc = p.set)
def Mm.opn (m : Mm) : Bool := decide (0 < m.cur.1) && decide (m.prom = m.cur)
def Mm.passed (m : Mm) (s : Nat) (v : Vid) : Bool := (nodes s 16).any (fun i => decide (vlt v (m.told i).2))
def Mm.needs (m : Mm) (e : Nat) : Bool := !m.opn || !decide (m.cset = e) || m.passed e m.cur
def Mm.stands (m : Mm) (e : Nat) : Bool := match m.own with
  | none => false
  | some p => !p.agreed && decide (p.set = e) && !m.passed e p.id
def Mm.proposes (m : Mm) (e : Nat) : Bool := decide (leastN e = (m.self : Int)) && m.needs e && !m.stands e && decide (m.high < 18446744073709551615)
def Mm.estOf (m : Mm) (est : Nat) : Nat := withN (est &&& (2 ^ m.n - 1)) (m.self : Nat)
def Mm.prop (m : Mm) (e : Nat) (st : Sd) : Pp := ⟨(m.high + 1, (m.self : Int)), e, withN 0 (m.self : Nat), [st]⟩
def Mm.propose (m : Mm) (e : Nat) (st : Sd) : Mm := { m with high := m.high + 1, prom := (m.high + 1, (m.self : Int)), own := some (m.prop e st) }
def fr (k frm : Nat) (id : Vid) : PF := { zeroF with kind := k, frm := (frm : Int), idN := id.1, idP := id.2 }
def Mm.ask (m : Mm) (p : Pp) : PF := { fr 2 m.self p.id with set := p.set }
def Mm.commit (m : Mm) (p : Pp) : PF := { fr 5 m.self p.id with set := p.set, st := joinD p.sts }
def Mm.others (m : Mm) (p : Pp) : List Nat := nodes (withoutN p.set (m.self : Nat)) 16
def Mm.remind (m : Mm) : List (Nat × PF) := match m.own with
  | none => []
  | some p => if p.agreed = true then ((m.others p).filter (fun i => !decide ((m.told i).1 = p.id))).map (fun i => (i, m.commit p))
    else ((m.others p).filter (fun i => !hasN p.acc (i : Nat))).map (fun i => (i, m.ask p))
def Mm.install (m : Mm) (p : Pp) : Mm := { m with own := some { p with sts := joinD p.sts }, cur := p.id, cset := p.set }
def insOf (p : Pp) : Ins := ⟨p.id, p.set, joinD (joinD p.sts)⟩
/-- A tick. -/
def Mm.tick (m : Mm) (est : Nat) (st : Sd) : Res :=
  if m.proposes (m.estOf est) = true then
    if (m.prop (m.estOf est) st).agreed = true then ⟨(m.propose (m.estOf est) st).install (m.prop (m.estOf est) st), [], some (insOf (m.prop (m.estOf est) st)), 0⟩
    else ⟨m.propose (m.estOf est) st, (m.propose (m.estOf est) st).remind, none, 0⟩
  else ⟨m, m.remind, none, 0⟩

def Mm.rise (m : Mm) (k : Nat) : Mm := { m with high := max m.high k }
def Mm.beat (m : Mm) (F : PF) : Mm := ({ m with told := upd m.told F.frm.toNat (F.cur, F.prom) }.rise F.curN).rise F.promN
def Mm.yes (m : Mm) (F : PF) (st : Sd) : PF := { fr 3 m.self F.id with st := [st] }
def Mm.no (m : Mm) (F : PF) : PF := { fr 4 m.self F.id with promN := m.prom.1, promP := m.prom.2 }
def Mm.took (m : Mm) (F : PF) : Mm := if vlt m.prom F.id then { m with high := max m.high F.idN, prom := F.id, own := none } else { m with high := max m.high F.idN }
def Mm.proposed (m : Mm) (F : PF) (st : Sd) : Res :=
  if F.idP ≠ F.frm ∨ ¬ (hasN F.set F.frm = true ∧ hasN F.set (m.self : Nat) = true) ∨ F.set &&& (65535 - (2 ^ m.n - 1)) ≠ 0 then ⟨m, [], none, 3⟩
  else if F.id ≠ (m.took F).prom ∨ F.id = m.cur then ⟨m.took F, [(F.frm.toNat, (m.took F).no F)], none, 9⟩
  else ⟨m.took F, [(F.frm.toNat, m.yes F st)], none, 0⟩
def Pp.more (p : Pp) (i : Int) (d : Sd) : Pp := { p with acc := withN p.acc i, sts := p.sts ++ [d] }
def Mm.accepted (m : Mm) (F : PF) : Res := match m.own, F.st with
  | some p, [d] =>
    if F.id = p.id ∧ hasN p.set F.frm = true ∧ hasN p.acc F.frm = false then
      if (p.more F.frm d).agreed = true then ⟨{ m with own := some (p.more F.frm d) }.install (p.more F.frm d), (m.others p).map (fun i => (i, m.commit { p.more F.frm d with sts := joinD (p.more F.frm d).sts })), some (insOf (p.more F.frm d)), 0⟩
      else ⟨{ m with own := some (p.more F.frm d) }, [], none, 0⟩
    else ⟨m, [], none, 9⟩
  | _, _ => ⟨m, [], none, 9⟩
def Mm.refused (m : Mm) (F : PF) : Mm := match m.own with
  | some p => if p.agreed = false ∧ F.id = p.id ∧ vlt F.id F.prom then { m with high := max m.high F.promN, own := none } else { m with high := max m.high F.promN }
  | none => { m with high := max m.high F.promN }
def Mm.committed (m : Mm) (F : PF) : Res :=
  if F.id ≠ m.prom ∨ F.id = m.cur ∨ hasN F.set (m.self : Nat) = false ∨ F.idP ≠ F.frm then ⟨m, [], none, 9⟩
  else ⟨{ m with cur := F.id, cset := F.set }, [], some ⟨F.id, F.set, F.st⟩, 0⟩
/-- A frame comes. -/
def Mm.inn (m : Mm) (F : PF) (st : Sd) : Res :=
  if hasN (withoutN (2 ^ m.n - 1) (m.self : Nat)) F.frm = false then ⟨m, [], none, 1⟩
  else if F.kind = 1 then ⟨m.beat F, [], none, 0⟩
  else if F.kind = 2 then m.proposed F st
  else if F.kind = 3 then m.accepted F
  else if F.kind = 4 then ⟨m.refused F, [], none, 0⟩
  else if F.kind = 5 then m.committed F
  else ⟨m, [], none, 3⟩
end Go.Proofs.YtlonbbepoamnmaaDoor
