/-
  Texts of the walk, one behind the other.
-/
import Derived.Test.YtlaihgdfedalmaaGreatProg
import Derived.WalkKit
import Derived.WalkSpells
import Derived.WalkLawsBesides
import Derived.Outline
import Derived.BigQuiet
import Derived.Below
import Derived.OwnWalk
import Derived.Deep.QuietTactic
import Derived.Deep.RegionHeld3
import Derived.Laws.AppendOwn
import Derived.Laws.OwnMore
import Derived.Laws.StructEq
import Derived.Maps.AppendAt
import Derived.Sort.Grow
import Derived.Laws.CopyRow
import Derived.Lib.SliceRun
import Derived.Laws.BitsAllLaws
import Derived.Laws.AppendOwnNone
import Derived.Lib.SlBytesConst
import Derived.Laws.BytesArg
import Derived.Laws.Concat
import Derived.RegionTactic
import Derived.BigRegion
import Derived.Deep.DeepAppendWide
import Derived.Maps.OwnSet
import Derived.DeepKeys4
import Derived.Shelf.SlSortCmp.NoneTotal
import Derived.Ground.SlsfProg
import Derived.ArgAppend
import Derived.Deep.OwnRows
import Derived.Maps.RangeWalk
/-
  What the texts of package label lean on: steps of a drawn region, and worlds that have grown.
  Views' numbers: which of two is greater, and which are right (package ident), and the document's answers.
  Labels: which of two is greater, and which are right; the document's answers.
  Labels: which are right, and which of two is less: the document's answers.
  Rows of labels in memory; which of two labels are one; the document's In and Same.
  The document's Same: are two lists of labels one?
  A set of labels: a map from labels to nothing.
  What package label's among tells: whether a label is one of a list.
  slices.IndexFunc and slices.DeleteFunc of labels, at what among tells.
  A block of labels that is written to.
  slices.DeleteFunc of labels, at what among tells: those that are not in the set.
-/
namespace Go.Proofs.YtlaihgdfedalmaaGreat
open Go.RowKit Go.Sort
set_option linter.unusedVariables false

theorem ret_int {k : IntKind} {a b : Int} (h : a = b) : Ending.returned (.int k a) = .returned (.int k b) := by rw [h]
theorem ret_bool {a b : Bool} (h : a = b) : Ending.returned (.bool a) = .returned (.bool b) := by rw [h]
theorem take_first {P : Program} {md : Region.Mode} {l : List Oper} {Q : Exit → Act → World → Prop} {S : World → Prop} (i : Nat) {oi : Oper} {v : Value} {fuel : Nat} {listed : Array Bool} {a : Act} {w : World} (hi : l[i]? = some oi)
    (hs : Region.noSelect l.toArray = true) (hf : Region.free md l.toArray listed i = true) (hr : (Region.ready md l.toArray listed).contains i = true)
    (hQ : ∀ c a w, Q (.panic c) (a.put oi.dst v) w → Q (.panic c) a w) (hy : YieldsIf P l.toArray S oi v a) (hS : S w)
    (h : wpAnyH P md l.toArray Q S fuel (listed.setIfInBounds i true) (a.put oi.dst v) w) : wpAnyH P md l.toArray Q S (fuel + 1) listed a w :=
  wpAnyH_take (by simpa using hi) hs hf hr hQ hy hS h
theorem comes_up {P : Program} {md : Region.Mode} {l : List Oper} {Q : Exit → Act → World → Prop} {S : World → Prop} (i : Nat) {o : Oper} {fuel : Nat} {listed : Array Bool} {a : Act} {w : World} (hi : l[i]? = some o) (hr : Region.ready md l.toArray listed = [i])
    (h : ∀ K' : Act → World → Prop, Shut (∀ a w, S w → (S w → wpAnyH P md l.toArray Q S fuel (listed.setIfInBounds i true) a w) → K' a w) → if Region.wanted o (yielded l.toArray a.tmps) = true then Oper.wp P o a w K' Q else K' (a.put o.dst undef) w) :
    wpAnyH P md l.toArray Q S (fuel + 1) listed a w :=
  wpAnyH_ready (rs := [i]) hr (by simp) (AllReadyH.cons (by simpa using hi) h AllReadyH.nil)
theorem comes_up2 {P : Program} {md : Region.Mode} {l : List Oper} {Q : Exit → Act → World → Prop} {S : World → Prop} (i j : Nat) {o o' : Oper} {fuel : Nat} {listed : Array Bool} {a : Act} {w : World} (hi : l[i]? = some o) (hj : l[j]? = some o') (hr : Region.ready md l.toArray listed = [i, j])
    (h : ∀ K' : Act → World → Prop, Shut (∀ a w, S w → (S w → wpAnyH P md l.toArray Q S fuel (listed.setIfInBounds i true) a w) → K' a w) → if Region.wanted o (yielded l.toArray a.tmps) = true then Oper.wp P o a w K' Q else K' (a.put o.dst undef) w)
    (h' : ∀ K' : Act → World → Prop, Shut (∀ a w, S w → (S w → wpAnyH P md l.toArray Q S fuel (listed.setIfInBounds j true) a w) → K' a w) → if Region.wanted o' (yielded l.toArray a.tmps) = true then Oper.wp P o' a w K' Q else K' (a.put o'.dst undef) w) :
    wpAnyH P md l.toArray Q S (fuel + 1) listed a w :=
  wpAnyH_ready (rs := [i, j]) hr (by simp) (AllReadyH.cons (by simpa using hi) h (AllReadyH.cons (by simpa using hj) h' AllReadyH.nil))
theorem step_append_run {P : Program} {ops : Array Oper} {o : Oper} {a : Act} {w : World} {K : Act → World → Prop} {Q : Exit → Act → World → Prop} {E : Prop}
    (hg : o.guard = none) (s x : Operand) (t : TypeId) (hop : o.op = Op.call { callee := Callee.builtin Builtin.append, args := #[s, x], argTypes := #[t, t] })
    (v y v' : Value) (w' : World) (hs : a.eval s = v) (hx : a.eval x = y) (hrun : (Builtin.append_ #[t, t] o.type #[v, y]).run P w = .ok v' w')
    (hK : K (a.put o.dst v') w') : if Region.wanted o (yielded ops a.tmps) = true then Oper.wp P o a w K Q else E := by
  have hw : Region.wanted o (yielded ops a.tmps) = true := by simp [Region.wanted, hg]
  rw [if_pos hw]
  unfold Oper.wp
  simp [execOp, hop, resolve, invoke, builtin, hs, hx, hrun, Result.andThen]
  exact hK
theorem info_parts {e : TypeId} {z : Value} {s b : Nat} (h : (Tryz.prog.info? e).map (fun i => (i.zero, i.size, i.bytes)) = some (some z, s, b)) : ∃ i, Tryz.prog.info? e = some i ∧ i.zero = some z ∧ i.size = s ∧ i.bytes = b := by
  obtain ⟨i, hi, hz⟩ := Option.map_eq_some_iff.1 h
  simp only [Prod.mk.injEq] at hz
  exact ⟨i, hi, hz.1, hz.2.1, hz.2.2⟩

theorem bl_drewN {B : Nat} {w w' : World} (h : Below B w w') (q : Nat) : Below B w (w'.drewN q) := ⟨h.os, h.tape, h.output, h.size, h.block⟩
theorem bl_grown {B : Nat} {w a b : World} {row : Option Nat} (h : Below B w a) (hB : B ≤ a.heap.size) (g : a.grownBy b row) (hr : ∀ k, row = some k → B ≤ k) : Below B w b :=
  ⟨g.os.trans h.os, g.tape.trans h.tape, g.output.trans h.output, Nat.le_trans h.size g.size, fun k hk => (g.block k (by omega) (fun e => by have := hr k e.symm; omega)).trans (h.block k hk)⟩
theorem bl_step {w a b : World} (h : Below w.heap.size w a) (k : Below a.heap.size a b) : Below w.heap.size w b := h.trans (k.mono h.size)
theorem bl2 (w : World) (o1 o2 : Obj) : Below w.heap.size w ((w.alloc o1).alloc o2) := ((Below.refl _ _).alloc (Nat.le_refl _) _).alloc (by simp) _
theorem bl1 (w : World) (o1 : Obj) : Below w.heap.size w (w.alloc o1) := (Below.refl _ _).alloc (Nat.le_refl _) _

/-- Nothing of old has turned, and no draw was taken back. -/
structure Up (w w' : World) : Prop where
  bl : Below w.heap.size w w'
  dr : w.drawn ≤ w'.drawn
theorem Up.refl (w : World) : Up w w := ⟨Below.refl _ _, Nat.le_refl _⟩
theorem Up.trans {a b c : World} (h : Up a b) (k : Up b c) : Up a c := ⟨bl_step h.bl k.bl, Nat.le_trans h.dr k.dr⟩
theorem Up.alloc {a b : World} (h : Up a b) (o : Obj) : Up a (b.alloc o) := ⟨h.bl.alloc h.bl.size o, h.dr⟩
theorem Up.drewN {a b : World} (h : Up a b) (n : Nat) : Up a (b.drewN n) := ⟨bl_drewN h.bl n, Nat.le_trans h.dr (Nat.le_add_right _ _)⟩
theorem Up.drew {a b : World} (h : Up a b) : Up a b.drew := ⟨h.bl.drew, Nat.le_trans h.dr (Nat.le_add_right _ _)⟩
theorem Up.cell {a b : World} (h : Up a b) {ad : Addr} {v : Value} (hc : a.cell? ad = some v) : b.cell? ad = some v := (h.bl.cell (World.block_lt_of_cell? a _ hc)).trans hc
theorem Up.grow {w w' : World} (h : Up w w') : ∃ q os, w' = grow (w.drewN q) os := by
  refine ⟨w'.drawn - w.drawn, w'.heap.extract w.heap.size w'.heap.size, ?_⟩
  obtain ⟨hb, hd⟩ := h
  have he : w'.heap = w.heap ++ w'.heap.extract w.heap.size w'.heap.size := by
    apply Array.ext_getElem?
    intro i
    rw [Array.getElem?_append]
    split
    · rename_i hi; exact hb.block i hi
    · rename_i hi
      rw [Array.getElem?_extract]
      have hs := hb.size
      by_cases h2 : i < w'.heap.size
      · rw [if_pos (by simp; omega), show w.heap.size + (i - w.heap.size) = i by omega]
      · rw [if_neg (by simp; omega), Array.getElem?_eq_none (by omega)]
  have e1 := hb.os
  have e2 := hb.tape
  have e3 := hb.output
  cases w'
  cases w
  simp only [Sort.grow, World.drewN] at *
  simp only [World.mk.injEq]
  exact ⟨he, e2, by omega, e1, e3⟩
theorem cell_box (w : World) (c : Array Value) (t : TypeId) (j : Nat) (v : Value) (hj : c[j]? = some v) : (w.alloc (.cells c t)).cell? ⟨w.heap.size, j, none⟩ = some v := by
  have hb : (w.alloc (.cells c t)).heap[w.heap.size]? = some (.cells c t (0, 0)) := heap_alloc_new _ _
  unfold World.cell?; rw [hb]; simpa using hj
end Go.Proofs.YtlaihgdfedalmaaGreat
namespace Go.Proofs.YtlaihgdfedalmaaGreat
open Go.RowKit
set_option linter.unusedVariables false

/-- Which of two numbers is greater. -/
def sgn (x y : Int) : Int := if x < y then -1 else if y < x then 1 else 0
/-- Which of two views' numbers is greater. -/
def cmpV (n1 : Nat) (p1 : Int) (n2 : Nat) (p2 : Int) : Int := if n1 < n2 then -1 else if n2 < n1 then 1 else sgn p1 p2
def vid (n : Nat) (p : Int) : Value := .agg #[.int .u64 (n : Nat), .int .i64 p]

theorem nanU (w : World) (x : Int) : Calls Tryz.prog 146 #[.int .u64 x] w fun e w' => e = .returned (.bool false) ∧ w = w' := by
  go_enter Tryz.func146, Tryz.ntmps146
  go_wp2
  go_ret
  exact ⟨ret_bool (by simp), rfl⟩
theorem nanI (w : World) (x : Int) : Calls Tryz.prog 147 #[.int .i64 x] w fun e w' => e = .returned (.bool false) ∧ w = w' := by
  go_enter Tryz.func147, Tryz.ntmps147
  go_wp2
  go_ret
  exact ⟨ret_bool (by simp), rfl⟩
theorem cmpU (w : World) (x y : Int) : Calls Tryz.prog 114 #[.int .u64 x, .int .u64 y] w fun e w' => e = .returned (.int .i64 (sgn x y)) ∧ w = w' := by
  unfold sgn
  by_cases h1 : x < y
  · rw [if_pos h1]
    go_enter Tryz.func114, Tryz.ntmps114
    go_wp2_with (first | (go_at_call 146; refine (nanU _ _).mono ?_; rintro e w' ⟨rfl, rfl⟩))
    go_ret
    exact ⟨rfl, rfl⟩
  · rw [if_neg h1]
    by_cases h2 : y < x
    · rw [if_pos h2]
      go_enter Tryz.func114, Tryz.ntmps114
      go_wp2_with (first | (go_at_call 146; refine (nanU _ _).mono ?_; rintro e w' ⟨rfl, rfl⟩))
      go_ret
      exact ⟨rfl, rfl⟩
    · rw [if_neg h2]
      go_enter Tryz.func114, Tryz.ntmps114
      go_wp2_with (first | (go_at_call 146; refine (nanU _ _).mono ?_; rintro e w' ⟨rfl, rfl⟩))
      go_ret
      exact ⟨rfl, rfl⟩
theorem cmpI (w : World) (x y : Int) : Calls Tryz.prog 115 #[.int .i64 x, .int .i64 y] w fun e w' => e = .returned (.int .i64 (sgn x y)) ∧ w = w' := by
  unfold sgn
  by_cases h1 : x < y
  · rw [if_pos h1]
    go_enter Tryz.func115, Tryz.ntmps115
    go_wp2_with (first | (go_at_call 147; refine (nanI _ _).mono ?_; rintro e w' ⟨rfl, rfl⟩))
    go_ret
    exact ⟨rfl, rfl⟩
  · rw [if_neg h1]
    by_cases h2 : y < x
    · rw [if_pos h2]
      go_enter Tryz.func115, Tryz.ntmps115
      go_wp2_with (first | (go_at_call 147; refine (nanI _ _).mono ?_; rintro e w' ⟨rfl, rfl⟩))
      go_ret
      exact ⟨rfl, rfl⟩
    · rw [if_neg h2]
      go_enter Tryz.func115, Tryz.ntmps115
      go_wp2_with (first | (go_at_call 147; refine (nanI _ _).mono ?_; rintro e w' ⟨rfl, rfl⟩))
      go_ret
      exact ⟨rfl, rfl⟩


theorem compare_any (w : World) (n1 : Nat) (p1 : Int) (n2 : Nat) (p2 : Int) : Calls Tryz.prog 90 #[vid n1 p1, vid n2 p2] w fun e w' => e = .returned (.int .i64 (cmpV n1 p1 n2 p2)) ∧ Up w w' := by
  have h1 := fun W => cmpU W n1 n2
  have h2 := fun W => cmpI W p1 p2
  have hs : sgn (n1 : Int) (n2 : Int) = if n1 < n2 then -1 else if n2 < n1 then 1 else 0 := by
    unfold sgn; by_cases a : n1 < n2
    · rw [if_pos a, if_pos (by omega)]
    · rw [if_neg a, if_neg (by omega)]
      by_cases b : n2 < n1
      · rw [if_pos b, if_pos (by omega)]
      · rw [if_neg b, if_neg (by omega)]
  rw [hs] at h1
  clear hs
  unfold cmpV vid
  generalize sgn p1 p2 = c2 at *
  by_cases a : n1 < n2
  · simp only [if_pos a] at h1 ⊢
    clear a
    go_enter Tryz.func90, Tryz.ntmps90
    go_wp2_with fail
    refine (h1 _).mono ?_
    rintro e w' ⟨rfl, rfl⟩
    go_wp2
    go_ret
    exact ⟨rfl, ((Up.refl _).alloc _).alloc _⟩
  · simp only [if_neg a] at h1 ⊢
    by_cases b : n2 < n1
    · simp only [if_pos b] at h1 ⊢
      clear a b
      go_enter Tryz.func90, Tryz.ntmps90
      go_wp2_with fail
      refine (h1 _).mono ?_
      rintro e w' ⟨rfl, rfl⟩
      go_wp2
      go_ret
      exact ⟨rfl, ((Up.refl _).alloc _).alloc _⟩
    · simp only [if_neg b] at h1 ⊢
      clear a b
      go_enter Tryz.func90, Tryz.ntmps90
      go_wp2_with fail
      refine (h1 _).mono ?_
      rintro e w' ⟨rfl, rfl⟩
      go_wp2_with fail
      refine (h2 _).mono ?_
      rintro e w' ⟨rfl, rfl⟩
      go_wp2
      go_ret
      exact ⟨rfl, ((Up.refl _).alloc _).alloc _⟩

/-- Is a view's number right? -/
def formV (n : Nat) (p : Int) : Bool := decide (0 ≤ p) && decide (p ≤ if n = 0 then 0 else 15)
theorem great_any (w : World) (n : Nat) : Calls Tryz.prog 151 #[.int .u64 (n : Nat)] w fun e w' => e = .returned (.int .i64 (if n = 0 then 0 else 15)) ∧ w = w' := by
  by_cases h0 : n = 0
  · subst h0
    go_enter Tryz.func151, Tryz.ntmps151
    go_wp2
    go_ret
    exact ⟨rfl, rfl⟩
  · rw [if_neg h0]
    have hI : ((n : Int) == 0) = false := by simp; omega
    go_enter Tryz.func151, Tryz.ntmps151
    go_wp2
    go_ret
    exact ⟨rfl, rfl⟩

set_option maxRecDepth 10000 in
theorem form_any (w : World) (n : Nat) (p : Int) : Calls Tryz.prog 118 #[vid n p] w fun e w' => e = .returned (.bool (formV n p)) ∧ Up w w' := by
  have hg := fun W => great_any W n
  unfold formV vid
  generalize (if n = 0 then (0 : Int) else 15) = g at *
  by_cases h1 : 0 ≤ p
  · have hd : decide (0 ≤ p) = true := by simpa using h1
    rw [hd]
    have hgs := fun W => (hg W).mono (fun e w' ⟨a, b⟩ => (⟨a, b.symm⟩ : e = _ ∧ w' = W))
    go_enter Tryz.func118, Tryz.ntmps118
    go_wp2_with fail
    go_quiet (first | (go_at_call 151; refine Calls.quiet_of_same (hgs _)))
    go_wp2
    go_ret
    exact ⟨ret_bool (by simp), ((Up.refl _).alloc _).drewN _⟩
  · have hd : decide (0 ≤ p) = false := by simpa using h1
    rw [hd]
    have hgs := fun W => (hg W).mono (fun e w' ⟨a, b⟩ => (⟨a, b.symm⟩ : e = _ ∧ w' = W))
    go_enter Tryz.func118, Tryz.ntmps118
    go_wp2_with fail
    go_quiet (first | (go_at_call 151; refine Calls.quiet_of_same (hgs _)))
    go_wp2
    go_ret
    exact ⟨ret_bool (by simp), ((Up.refl _).alloc _).drewN _⟩

end Go.Proofs.YtlaihgdfedalmaaGreat
namespace Go.Proofs.YtlaihgdfedalmaaGreat
open Go.RowKit Go.Sort
set_option linter.unusedVariables false

/-- A label: its view's number, its own, and whose it is. -/
abbrev Lb := Nat × Int × Nat × Int
def lab (x : Lb) : Value := .agg #[.int .u64 (x.1 : Nat), .int .i64 x.2.1, .int .u64 (x.2.2.1 : Nat), .int .i64 x.2.2.2]
/-- Which of two labels is greater. -/
def cmpL (x y : Lb) : Int := if cmpV x.1 x.2.1 y.1 y.2.1 ≠ 0 then cmpV x.1 x.2.1 y.1 y.2.1 else if sgn x.2.2.1 y.2.2.1 ≠ 0 then sgn x.2.2.1 y.2.2.1 else sgn x.2.2.2 y.2.2.2

set_option maxRecDepth 10000 in
theorem or_any (w : World) (B : Nat) (c0 c1 c2 : Int) (h0 : w.cell? ⟨B, 0, none⟩ = some (.int .i64 c0)) (h1 : w.cell? ⟨B, 1, none⟩ = some (.int .i64 c1)) (h2 : w.cell? ⟨B, 2, none⟩ = some (.int .i64 c2)) :
    Calls Tryz.prog 181 #[.slice (some ⟨B, 0, none⟩) 3 3] w fun e w' => e = .returned (.int .i64 (if c0 ≠ 0 then c0 else if c1 ≠ 0 then c1 else c2)) ∧ w = w' := by
  by_cases a0 : c0 = 0
  · subst a0
    simp only [ne_eq, not_true_eq_false, if_false]
    by_cases a1 : c1 = 0
    · subst a1
      simp only [not_true_eq_false, if_false]
      by_cases a2 : c2 = 0
      · subst a2
        go_enter Tryz.func181, Tryz.ntmps181
        go_wp2
        refine wp_loop_rounds 4 ?_
        rw [rounds_succ]
        go_wp2
        rw [rounds_succ]
        go_wp2
        rw [rounds_succ]
        go_wp2
        rw [rounds_succ]
        go_wp2
        go_ret
        exact ⟨rfl, rfl⟩
      · have a2' : (c2 != 0) = true := by simpa using a2
        go_enter Tryz.func181, Tryz.ntmps181
        go_wp2
        refine wp_loop_rounds 3 ?_
        rw [rounds_succ]
        go_wp2
        rw [rounds_succ]
        go_wp2
        rw [rounds_succ]
        go_wp2
        go_ret
        exact ⟨rfl, rfl⟩
    · have a1' : (c1 != 0) = true := by simpa using a1
      rw [if_pos a1]
      go_enter Tryz.func181, Tryz.ntmps181
      go_wp2
      refine wp_loop_rounds 2 ?_
      rw [rounds_succ]
      go_wp2
      rw [rounds_succ]
      go_wp2
      go_ret
      exact ⟨rfl, rfl⟩
  · have a0' : (c0 != 0) = true := by simpa using a0
    rw [if_pos a0]
    go_enter Tryz.func181, Tryz.ntmps181
    go_wp2
    refine wp_loop_rounds 1 ?_
    rw [rounds_succ]
    go_wp2
    go_ret
    exact ⟨rfl, rfl⟩

/-- A label in a block. -/
def Bx (B : Nat) (n : Nat) (p : Int) (s : Nat) (q : Int) (wx : World) : Prop :=
  wx.cell? ⟨B, 0, none⟩ = some (.int .u64 (n : Nat)) ∧ wx.cell? ⟨B, 1, none⟩ = some (.int .i64 p) ∧ wx.cell? ⟨B, 2, none⟩ = some (.int .u64 (s : Nat)) ∧ wx.cell? ⟨B, 3, none⟩ = some (.int .i64 q)
theorem Bx.up {B n s : Nat} {p q : Int} {w w' : World} (h : Bx B n p s q w) (hb : Up w w') : Bx B n p s q w' := ⟨hb.cell h.1, hb.cell h.2.1, hb.cell h.2.2.1, hb.cell h.2.2.2⟩
theorem bx_new (w : World) (n : Nat) (p : Int) (s : Nat) (q : Int) (t : TypeId) : Bx w.heap.size n p s q (w.alloc (.cells #[.int .u64 (n : Nat), .int .i64 p, .int .u64 (s : Nat), .int .i64 q] t)) :=
  ⟨cell_box w _ t 0 _ rfl, cell_box w _ t 1 _ rfl, cell_box w _ t 2 _ rfl, cell_box w _ t 3 _ rfl⟩

set_option maxRecDepth 10000 in
set_option maxHeartbeats 2000000 in
theorem compareL_any (w : World) (x y : Lb) : Calls Tryz.prog 170 #[lab x, lab y] w fun e w' => e = .returned (.int .i64 (cmpL x y)) ∧ Up w w' := by
  obtain ⟨n1, p1, s1, q1⟩ := x
  obtain ⟨n2, p2, s2, q2⟩ := y
  unfold cmpL lab
  simp only
  have c1 := fun W => compare_any W n1 p1 n2 p2
  have c2 := fun W => cmpU W s1 s2
  have c3 := fun W => cmpI W q1 q2
  have c4 := fun W B h0 h1 h2 => or_any W B (cmpV n1 p1 n2 p2) (sgn s1 s2) (sgn q1 q2) h0 h1 h2
  unfold vid at c1
  generalize cmpV n1 p1 n2 p2 = d1 at *
  generalize sgn s1 s2 = d2 at *
  generalize sgn q1 q2 = d3 at *
  generalize (if d1 ≠ 0 then d1 else if d2 ≠ 0 then d2 else d3) = d4 at *
  have b1 := (bx_new w n1 p1 s1 q1 39).up ((Up.refl _).alloc (.cells #[.int .u64 (n2 : Nat), .int .i64 p2, .int .u64 (s2 : Nat), .int .i64 q2] 39))
  have b2 := bx_new (w.alloc (.cells #[.int .u64 (n1 : Nat), .int .i64 p1, .int .u64 (s1 : Nat), .int .i64 q1] 39)) n2 p2 s2 q2 39
  have at0 : Bx w.heap.size n1 p1 s1 q1 _ ∧ Bx (w.heap.size + 1) n2 p2 s2 q2 _ := ⟨b1, by simpa using b2⟩
  have bl0 : Up w ((w.alloc (.cells #[.int .u64 (n1 : Nat), .int .i64 p1, .int .u64 (s1 : Nat), .int .i64 q1] 39)).alloc (.cells #[.int .u64 (n2 : Nat), .int .i64 p2, .int .u64 (s2 : Nat), .int .i64 q2] 39)).drew := (((Up.refl _).alloc _).alloc _).drew
  clear b1 b2
  go_enter Tryz.func170, Tryz.ntmps170
  go_wp2_with fail
  refine wp_region_noPanic ?_
  refine wp_region_held_drew (S := fun wx => Bx w.heap.size n1 p1 s1 q1 wx ∧ Bx (w.heap.size + 1) n2 p2 s2 q2 wx) (by kernel_rfl) at0 (fun hHeld => ?_)
  refine take_first 0 (v := ?_) rfl (by kernel_rfl) (by kernel_rfl) (by kernel_rfl) (fun _ _ _ h => h) (Or.inl ⟨by rfl, by intro wx hSw; obtain ⟨⟨hSw1, hSw2, hSw3, hSw4⟩, hSw5, hSw6, hSw7, hSw8⟩ := hSw; go_simp; try with_reducible rfl⟩) (by assumption) ?_
  (try simp only [Act.put, List.setIfInBounds_toArray, List.set_cons_zero, List.set_cons_succ])
  refine take_first 1 (v := ?_) rfl (by kernel_rfl) (by kernel_rfl) (by kernel_rfl) (fun _ _ _ h => h) (Or.inl ⟨by rfl, by intro wx hSw; obtain ⟨⟨hSw1, hSw2, hSw3, hSw4⟩, hSw5, hSw6, hSw7, hSw8⟩ := hSw; go_simp; try with_reducible rfl⟩) (by assumption) ?_
  (try simp only [Act.put, List.setIfInBounds_toArray, List.set_cons_zero, List.set_cons_succ])
  refine take_first 2 (v := ?_) rfl (by kernel_rfl) (by kernel_rfl) (by kernel_rfl) (fun _ _ _ h => h) (Or.inl ⟨by rfl, by intro wx hSw; obtain ⟨⟨hSw1, hSw2, hSw3, hSw4⟩, hSw5, hSw6, hSw7, hSw8⟩ := hSw; go_simp; try with_reducible rfl⟩) (by assumption) ?_
  (try simp only [Act.put, List.setIfInBounds_toArray, List.set_cons_zero, List.set_cons_succ])
  refine take_first 3 (v := ?_) rfl (by kernel_rfl) (by kernel_rfl) (by kernel_rfl) (fun _ _ _ h => h) (Or.inl ⟨by rfl, by intro wx hSw; obtain ⟨⟨hSw1, hSw2, hSw3, hSw4⟩, hSw5, hSw6, hSw7, hSw8⟩ := hSw; go_simp; try with_reducible rfl⟩) (by assumption) ?_
  (try simp only [Act.put, List.setIfInBounds_toArray, List.set_cons_zero, List.set_cons_succ])
  refine take_first 5 (v := ?_) rfl (by kernel_rfl) (by kernel_rfl) (by kernel_rfl) (fun _ _ _ h => h) (Or.inl ⟨by rfl, by intro wx hSw; obtain ⟨⟨hSw1, hSw2, hSw3, hSw4⟩, hSw5, hSw6, hSw7, hSw8⟩ := hSw; go_simp; try with_reducible rfl⟩) (by assumption) ?_
  (try simp only [Act.put, List.setIfInBounds_toArray, List.set_cons_zero, List.set_cons_succ])
  refine take_first 6 (v := ?_) rfl (by kernel_rfl) (by kernel_rfl) (by kernel_rfl) (fun _ _ _ h => h) (Or.inl ⟨by rfl, by intro wx hSw; obtain ⟨⟨hSw1, hSw2, hSw3, hSw4⟩, hSw5, hSw6, hSw7, hSw8⟩ := hSw; go_simp; try with_reducible rfl⟩) (by assumption) ?_
  (try simp only [Act.put, List.setIfInBounds_toArray, List.set_cons_zero, List.set_cons_succ])
  refine take_first 7 (v := ?_) rfl (by kernel_rfl) (by kernel_rfl) (by kernel_rfl) (fun _ _ _ h => h) (Or.inl ⟨by rfl, by intro wx hSw; obtain ⟨⟨hSw1, hSw2, hSw3, hSw4⟩, hSw5, hSw6, hSw7, hSw8⟩ := hSw; go_simp; try with_reducible rfl⟩) (by assumption) ?_
  (try simp only [Act.put, List.setIfInBounds_toArray, List.set_cons_zero, List.set_cons_succ])
  refine take_first 8 (v := ?_) rfl (by kernel_rfl) (by kernel_rfl) (by kernel_rfl) (fun _ _ _ h => h) (Or.inl ⟨by rfl, by intro wx hSw; obtain ⟨⟨hSw1, hSw2, hSw3, hSw4⟩, hSw5, hSw6, hSw7, hSw8⟩ := hSw; go_simp; try with_reducible rfl⟩) (by assumption) ?_
  (try simp only [Act.put, List.setIfInBounds_toArray, List.set_cons_zero, List.set_cons_succ])
  refine take_first 10 (v := ?_) rfl (by kernel_rfl) (by kernel_rfl) (by kernel_rfl) (fun _ _ _ h => h) (Or.inl ⟨by rfl, by intro wx hSw; obtain ⟨⟨hSw1, hSw2, hSw3, hSw4⟩, hSw5, hSw6, hSw7, hSw8⟩ := hSw; go_simp; try with_reducible rfl⟩) (by assumption) ?_
  (try simp only [Act.put, List.setIfInBounds_toArray, List.set_cons_zero, List.set_cons_succ])
  refine take_first 11 (v := ?_) rfl (by kernel_rfl) (by kernel_rfl) (by kernel_rfl) (fun _ _ _ h => h) (Or.inl ⟨by rfl, by intro wx hSw; obtain ⟨⟨hSw1, hSw2, hSw3, hSw4⟩, hSw5, hSw6, hSw7, hSw8⟩ := hSw; go_simp; try with_reducible rfl⟩) (by assumption) ?_
  (try simp only [Act.put, List.setIfInBounds_toArray, List.set_cons_zero, List.set_cons_succ])
  refine take_first 12 (v := ?_) rfl (by kernel_rfl) (by kernel_rfl) (by kernel_rfl) (fun _ _ _ h => h) (Or.inl ⟨by rfl, by intro wx hSw; obtain ⟨⟨hSw1, hSw2, hSw3, hSw4⟩, hSw5, hSw6, hSw7, hSw8⟩ := hSw; go_simp; try with_reducible rfl⟩) (by assumption) ?_
  (try simp only [Act.put, List.setIfInBounds_toArray, List.set_cons_zero, List.set_cons_succ])
  refine take_first 13 (v := ?_) rfl (by kernel_rfl) (by kernel_rfl) (by kernel_rfl) (fun _ _ _ h => h) (Or.inl ⟨by rfl, by intro wx hSw; obtain ⟨⟨hSw1, hSw2, hSw3, hSw4⟩, hSw5, hSw6, hSw7, hSw8⟩ := hSw; go_simp; try with_reducible rfl⟩) (by assumption) ?_
  (try simp only [Act.put, List.setIfInBounds_toArray, List.set_cons_zero, List.set_cons_succ])
  refine comes_up 4 rfl (by kernel_rfl) (fun K hK => ?_)
  go_simp
  refine (c1 _).mono ?_
  rintro e w1 ⟨rfl, hb1⟩
  have at1 : Bx w.heap.size n1 p1 s1 q1 w1 ∧ Bx (w.heap.size + 1) n2 p2 s2 q2 w1 := ⟨Bx.up (hHeld.1) hb1, Bx.up (hHeld.2) hb1⟩
  have bl1 := bl0.trans hb1
  clear at0 bl0 hb1 hHeld
  go_wp2_with fail
  refine hK.out _ _ at1 (fun hHeld => ?_)
  clear hK K
  (try simp only [Act.put, List.setIfInBounds_toArray, List.set_cons_zero, List.set_cons_succ])
  refine comes_up 9 rfl (by kernel_rfl) (fun K hK => ?_)
  go_simp
  refine (c2 _).mono ?_
  rintro e w2 ⟨rfl, rfl⟩
  go_wp2_with fail
  refine hK.out _ _ at1 (fun hHeld => ?_)
  clear hK K
  (try simp only [Act.put, List.setIfInBounds_toArray, List.set_cons_zero, List.set_cons_succ])
  refine comes_up 14 rfl (by kernel_rfl) (fun K hK => ?_)
  go_simp
  refine (c3 _).mono ?_
  rintro e w2 ⟨rfl, rfl⟩
  go_wp2_with fail
  refine hK.out _ _ at1 (fun hHeld => ?_)
  clear hK K
  (try simp only [Act.put, List.setIfInBounds_toArray, List.set_cons_zero, List.set_cons_succ])
  refine comes_up 15 rfl (by kernel_rfl) (fun K hK => ?_)
  go_simp
  have up3 : Up w1 (w1.alloc (.cells #[.int .i64 d1, .int .i64 d2, .int .i64 d3] 3)) := (Up.refl _).alloc _
  have at3 : Bx w.heap.size n1 p1 s1 q1 (w1.alloc (.cells #[.int .i64 d1, .int .i64 d2, .int .i64 d3] 3)) ∧ Bx (w.heap.size + 1) n2 p2 s2 q2 (w1.alloc (.cells #[.int .i64 d1, .int .i64 d2, .int .i64 d3] 3)) := ⟨Bx.up (at1.1) up3, Bx.up (at1.2) up3⟩
  refine hK.out _ _ at3 (fun hHeld => ?_)
  clear hK K
  (try simp only [Act.put, List.setIfInBounds_toArray, List.set_cons_zero, List.set_cons_succ])
  refine comes_up 16 rfl (by kernel_rfl) (fun K hK => ?_)
  go_simp
  refine (c4 _ _ (cell_box w1 _ 3 0 _ rfl) (cell_box w1 _ 3 1 _ rfl) (cell_box w1 _ 3 2 _ rfl)).mono ?_
  rintro e w4 ⟨rfl, rfl⟩
  go_wp2_with fail
  refine hK.out _ _ at3 (fun hHeld => ?_)
  clear hK K
  (try simp only [Act.put, List.setIfInBounds_toArray, List.set_cons_zero, List.set_cons_succ])
  refine take_first 17 (v := ?_) rfl (by kernel_rfl) (by kernel_rfl) (by kernel_rfl) (fun _ _ _ h => h) (Or.inl ⟨by rfl, by intro wx hSw; obtain ⟨⟨hSw1, hSw2, hSw3, hSw4⟩, hSw5, hSw6, hSw7, hSw8⟩ := hSw; go_simp; try with_reducible rfl⟩) (by assumption) ?_
  (try simp only [Act.put, List.setIfInBounds_toArray, List.set_cons_zero, List.set_cons_succ])
  refine wpAnyH_done (by kernel_rfl) ?_ _
  refine NoPanic.normal ?_
  go_wp2
  go_ret
  exact ⟨rfl, bl1.alloc _⟩
end Go.Proofs.YtlaihgdfedalmaaGreat
namespace Go.Proofs.YtlaihgdfedalmaaGreat
open Go.RowKit Go.Sort
set_option linter.unusedVariables false

/-- Is a label right? -/
def formL (x : Lb) : Bool := formV x.1 x.2.1 && decide (0 < x.1) && decide (0 < x.2.2.1) && decide (0 ≤ x.2.2.2) && decide (x.2.2.2 ≤ 15)
set_option maxRecDepth 10000 in
set_option maxHeartbeats 1000000 in
theorem formL_any (w : World) (x : Lb) : Calls Tryz.prog 122 #[lab x] w fun e w' => e = .returned (.bool (formL x)) ∧ Up w w' := by
  obtain ⟨n, p, s, q⟩ := x
  unfold formL lab
  simp only
  have c1 := fun W => form_any W n p
  unfold vid at c1
  have up0 : Up w (w.alloc (.cells #[.int .u64 (n : Nat), .int .i64 p, .int .u64 (s : Nat), .int .i64 q] 39)) := (Up.refl _).alloc _
  have bx0 := bx_new w n p s q 39
  cases hf : formV n p with
  | false =>
    rw [hf] at c1
    simp only [Bool.false_and]
    go_enter Tryz.func122, Tryz.ntmps122
    go_wp2_with fail
    refine (c1 _).mono ?_
    rintro e w1 ⟨rfl, hb⟩
    have up1 := up0.trans hb
    obtain ⟨d0, d1, d2, d3⟩ := bx0.up hb
    clear hb c1 bx0 up0
    go_wp2
    go_ret
    exact ⟨rfl, up1⟩
  | true =>
    rw [hf] at c1
    simp only [Bool.true_and]
    by_cases hn : 0 < n
    · have hnI : (0 : Int) < (n : Int) := by omega
      by_cases hs : 0 < s
      · have hsI : (0 : Int) < (s : Int) := by omega
        by_cases hq : 0 ≤ q
        · have hqI : 0 ≤ q := by omega
          go_enter Tryz.func122, Tryz.ntmps122
          go_wp2_with fail
          refine (c1 _).mono ?_
          rintro e w1 ⟨rfl, hb⟩
          have up1 := up0.trans hb
          obtain ⟨d0, d1, d2, d3⟩ := bx0.up hb
          clear hb c1 bx0 up0
          go_wp2
          go_ret
          exact ⟨ret_bool (by simp [*] <;> omega), up1⟩
        · have hqI : ¬ (0 ≤ q) := by omega
          go_enter Tryz.func122, Tryz.ntmps122
          go_wp2_with fail
          refine (c1 _).mono ?_
          rintro e w1 ⟨rfl, hb⟩
          have up1 := up0.trans hb
          obtain ⟨d0, d1, d2, d3⟩ := bx0.up hb
          clear hb c1 bx0 up0
          go_wp2
          go_ret
          exact ⟨ret_bool (by simp [*] <;> omega), up1⟩
      · have hsI : ¬ ((0 : Int) < (s : Int)) := by omega
        go_enter Tryz.func122, Tryz.ntmps122
        go_wp2_with fail
        refine (c1 _).mono ?_
        rintro e w1 ⟨rfl, hb⟩
        have up1 := up0.trans hb
        obtain ⟨d0, d1, d2, d3⟩ := bx0.up hb
        clear hb c1 bx0 up0
        go_wp2
        go_ret
        exact ⟨ret_bool (by simp [*] <;> omega), up1⟩
    · have hnI : ¬ ((0 : Int) < (n : Int)) := by omega
      go_enter Tryz.func122, Tryz.ntmps122
      go_wp2_with fail
      refine (c1 _).mono ?_
      rintro e w1 ⟨rfl, hb⟩
      have up1 := up0.trans hb
      obtain ⟨d0, d1, d2, d3⟩ := bx0.up hb
      clear hb c1 bx0 up0
      go_wp2
      go_ret
      exact ⟨ret_bool (by simp [*] <;> omega), up1⟩
end Go.Proofs.YtlaihgdfedalmaaGreat
namespace Go.Proofs.YtlaihgdfedalmaaGreat
open Go.RowKit Go.Sort
set_option linter.unusedVariables false

def cellsL (x : Lb) : List Value := [.int .u64 (x.1 : Nat), .int .i64 x.2.1, .int .u64 (x.2.2.1 : Nat), .int .i64 x.2.2.2]
def flat (ls : List Lb) : List Value := ls.flatMap cellsL
theorem flat_len (ls : List Lb) : (flat ls).length = ls.length * 4 := by
  induction ls with
  | nil => rfl
  | cons a r ih => simp [flat, cellsL] at ih ⊢; omega
theorem flat_cons (x : Lb) (ls : List Lb) : flat (x :: ls) = cellsL x ++ flat ls := by simp [flat]
theorem flat_app (a b : List Lb) : flat (a ++ b) = flat a ++ flat b := by simp [flat]
theorem flat_one {ls : List Lb} {u : Value} (h : u ∈ flat ls) : u.oneCell' = true := by
  obtain ⟨x, _, hx⟩ := List.mem_flatMap.1 h
  simp [cellsL] at hx
  rcases hx with rfl | rfl | rfl | rfl <;> rfl
theorem flat_get : ∀ (ls : List Lb) (j : Nat) (x : Lb) (i : Nat), ls[j]? = some x → i < 4 → (flat ls)[4 * j + i]? = (cellsL x)[i]?
  | [], j, x, i, h, hi => by simp at h
  | a :: r, 0, x, i, h, hi => by
    simp at h; subst h
    rw [flat_cons, List.getElem?_append_left (by simp [cellsL]; omega)]; simp
  | a :: r, j + 1, x, i, h, hi => by
    rw [flat_cons, List.getElem?_append_right (by simp [cellsL]; omega), show 4 * (j + 1) + i - (cellsL a).length = 4 * j + i by simp [cellsL]; omega]
    exact flat_get r j x i (by simpa using h) hi
/-- A list of labels that lies in memory. -/
def LR (w : World) (ao : Option Addr) (n : Nat) (ls : List Lb) : Prop :=
  ls.length = n ∧ n ≤ 9223372036854775807 ∧ (0 < n → ∃ b off, ao = some ⟨b, off, none⟩ ∧ ∀ j x, ls[j]? = some x →
    w.cell? ⟨b, off + j * 4, none⟩ = some (.int .u64 (x.1 : Nat)) ∧ w.cell? ⟨b, off + j * 4 + 1, none⟩ = some (.int .i64 x.2.1) ∧ w.cell? ⟨b, off + j * 4 + 2, none⟩ = some (.int .u64 (x.2.2.1 : Nat)) ∧ w.cell? ⟨b, off + j * 4 + 3, none⟩ = some (.int .i64 x.2.2.2))
theorem LR.of_cells {w w' : World} {ao : Option Addr} {n : Nat} {ls : List Lb} (h : LR w ao n ls) (hc : ∀ ad v, ao.map (·.block) = some ad.block → w.cell? ad = some v → w'.cell? ad = some v) : LR w' ao n ls := by
  refine ⟨h.1, h.2.1, fun hn => ?_⟩
  obtain ⟨b, off, e, hh⟩ := h.2.2 hn
  refine ⟨b, off, e, fun j x hj => ?_⟩
  obtain ⟨h1, h2, h3, h4⟩ := hh j x hj
  subst e
  exact ⟨hc _ _ rfl h1, hc _ _ rfl h2, hc _ _ rfl h3, hc _ _ rfl h4⟩
theorem LR.up {w w' : World} {ao : Option Addr} {n : Nat} {ls : List Lb} (h : LR w ao n ls) (u : Below w.heap.size w w') : LR w' ao n ls :=
  h.of_cells (fun ad v _ hc => (u.cell (World.block_lt_of_cell? w _ hc)).trans hc)
/-- A row of one's own is one. -/
theorem LR.own {w : World} {B n : Nat} {v : Value} {ls : List Lb} (h : w.ownsRow B 39 4 v n (flat ls)) : ∃ ao cap, v = .slice ao n cap ∧ LR w ao n ls := by
  have hl : ls.length = n := by have := h.1; rw [flat_len] at this; omega
  rcases h.2 with ⟨rfl, rfl⟩ | ⟨g, cap, cur, rfl, hg, hh, hnc, hcm, hcs, htk⟩
  · exact ⟨_, _, rfl, hl, by omega, fun h => by omega⟩
  · refine ⟨_, _, rfl, hl, by unfold maxLen at hcm; omega, fun hn => ⟨g, 0, rfl, fun j x hj => ?_⟩⟩
    have hcell : ∀ i, i < 4 → w.cell? ⟨g, 0 + j * 4 + i, none⟩ = (cellsL x)[i]? := fun i hi => by
      have e := flat_get ls j x i hj hi
      have hlt : i < (cellsL x).length := by simpa [cellsL] using hi
      rw [List.getElem?_eq_getElem hlt] at e ⊢
      have := h.cells (g := g) rfl (4 * j + i) _ e
      rw [Addr.add_lit] at this
      rw [show 0 + j * 4 + i = 0 + (4 * j + i) by omega]
      exact this
    exact ⟨hcell 0 (by omega), hcell 1 (by omega), hcell 2 (by omega), hcell 3 (by omega)⟩


theorem vid_equalIn (d : Nat) (n1 : Nat) (p1 : Int) (n2 : Nat) (p2 : Int) (w : World) : Sem.run Tryz.prog (Op.equalIn (d + 2) 33 (.agg #[.int .u64 (n1 : Nat), .int .i64 p1]) (.agg #[.int .u64 (n2 : Nat), .int .i64 p2])) w = .ok (decide (n1 = n2) && decide (p1 = p2)) w := by
  have u3 := Tryz.underlying3
  have a3 := Tryz.isAgg3
  have z3 := Tryz.sizeOf3
  have u22 := Tryz.underlying31
  have a22 := Tryz.isAgg31
  have z22 := Tryz.sizeOf31
  rw [run_equalIn_agg w (d + 1) 33 _ _ (by kernel_rfl) (by kernel_rfl)]
  simp only [Program.fieldsOf, Tryz.underlying33]
  go_simp
  by_cases h1 : n1 = n2
  · subst h1
    by_cases h2 : p1 = p2 <;> simp [h2]
  · have : ¬ ((n1 : Int) = n2) := by omega
    simp [h1, this]
theorem lab_equalIn (d : Nat) (n1 : Nat) (p1 : Int) (s1 : Nat) (q1 : Int) (n2 : Nat) (p2 : Int) (s2 : Nat) (q2 : Int) (w : World) : Sem.run Tryz.prog (Op.equalIn (d + 3) 39 (.agg #[.int .u64 (n1 : Nat), .int .i64 p1, .int .u64 (s1 : Nat), .int .i64 q1]) (.agg #[.int .u64 (n2 : Nat), .int .i64 p2, .int .u64 (s2 : Nat), .int .i64 q2])) w
    = .ok (decide (((n1, p1, s1, q1) : Lb) = (n2, p2, s2, q2))) w := by
  have u3 := Tryz.underlying3
  have a3 := Tryz.isAgg3
  have z3 := Tryz.sizeOf3
  have u22 := Tryz.underlying31
  have a22 := Tryz.isAgg31
  have z22 := Tryz.sizeOf31
  have a24 := Tryz.isAgg33
  have z24 := Tryz.sizeOf33
  have hv := fun W => vid_equalIn d n1 p1 n2 p2 W
  rw [run_equalIn_agg w (d + 2) 39 _ _ (by kernel_rfl) (by kernel_rfl)]
  simp only [Program.fieldsOf, Tryz.underlying39]
  go_simp
  by_cases h1 : n1 = n2
  · by_cases h2 : p1 = p2
    · by_cases h3 : s1 = s2
      · subst h3
        by_cases h4 : q1 = q2 <;> simp [h1, h2, h4]
      · have : ¬ ((s1 : Int) = s2) := by omega
        simp [h1, h2, h3, this]
    · simp [h1, h2]
  · simp [h1]
theorem lab_equal (x y : Lb) (w : World) : Sem.run Tryz.prog (Op.equalIn 10000 39 (.agg #[.int .u64 (x.1 : Nat), .int .i64 x.2.1, .int .u64 (x.2.2.1 : Nat), .int .i64 x.2.2.2]) (.agg #[.int .u64 (y.1 : Nat), .int .i64 y.2.1, .int .u64 (y.2.2.1 : Nat), .int .i64 y.2.2.2])) w
    = .ok (decide (x = y)) w := lab_equalIn 9997 x.1 x.2.1 x.2.2.1 x.2.2.2 y.1 y.2.1 y.2.2.1 y.2.2.2 w
theorem Bx.lb {B : Nat} {x : Lb} {w : World} (h : Bx B x.1 x.2.1 x.2.2.1 x.2.2.2 w) : w.cell? ⟨B, 0, none⟩ = some (.int .u64 (x.1 : Nat)) ∧ w.cell? ⟨B, 1, none⟩ = some (.int .i64 x.2.1) ∧ w.cell? ⟨B, 2, none⟩ = some (.int .u64 (x.2.2.1 : Nat)) ∧ w.cell? ⟨B, 3, none⟩ = some (.int .i64 x.2.2.2) := h

end Go.Proofs.YtlaihgdfedalmaaGreat
namespace Go.Proofs.YtlaihgdfedalmaaGreat
open Go.RowKit Go.Sort
set_option linter.unusedVariables false

set_option maxRecDepth 10000 in
set_option maxHeartbeats 1000000 in
theorem same_any (w : World) (ao : Option Addr) (n cap : Nat) (ls : List Lb) (h : LR w ao n ls) (bo : Option Addr) (m cbp : Nat) (ms : List Lb) (g : LR w bo m ms) :
    Calls Tryz.prog 81 #[.slice ao n cap, .slice bo m cbp] w fun e w' => e = .returned (.bool (decide (ls = ms))) ∧ Up w w' := by
  have hl := h.1
  have hmax := h.2.1
  have hm := g.1
  generalize hdd : decide (ls = ms) = r
  have HD : Hid (decide (ls = ms) = r) := hdd
  clear hdd
  by_cases hnm : n = m
  · subst hnm
    go_enter Tryz.func81, Tryz.ntmps81
    go_wp2_with fail
    go_loopw [5] (fun iv wr => ∃ k : Nat, k ≤ n ∧ iv = .int .i64 k ∧ ls.take k = ms.take k ∧ LR wr ao n ls ∧ LR wr bo n ms ∧ Up w wr) (fun iv _ => n - (intOf iv).toNat)
    case atStart => exact ⟨0, by omega, rfl, by simp, h, g, Up.refl _⟩
    case round =>
      obtain ⟨k, hk, rfl, hno, hr, hs, hu⟩ := hrel
      have HNO : Hid (ls.take k = ms.take k) := hno
      clear hno h g
      by_cases hlt : k < n
      · have hltI : (k : Int) < (n : Int) := by omega
        obtain ⟨x, hx⟩ : ∃ y, ls[k]? = some y := ⟨ls[k]'(by omega), List.getElem?_eq_getElem (by omega)⟩
        obtain ⟨y, hy⟩ : ∃ y, ms[k]? = some y := ⟨ms[k]'(by omega), List.getElem?_eq_getElem (by omega)⟩
        have HX : Hid (ls[k]? = some x) := hx
        have HY : Hid (ms[k]? = some y) := hy
        obtain ⟨b, off, hao, hc⟩ := hr.2.2 (by omega)
        obtain ⟨c0, c1, c2, c3⟩ := hc k x hx
        obtain ⟨b', off', hbo, hd⟩ := hs.2.2 (by omega)
        obtain ⟨d0, d1, d2, d3⟩ := hd k y hy
        have heq := fun W => lab_equal x y W
        have HR := hr
        have HS := hs
        subst hao
        subst hbo
        clear hc hd hx hy hr hs
        have hk0 : ¬ ((k : Int) < 0) := by omega
        cases he : decide (x = y) with
        | true =>
          rw [he] at heq
          have hno' : Hid (ls.take (k + 1) = ms.take (k + 1)) := by
            have e : x = y := by simpa using he
            show ls.take (k + 1) = ms.take (k + 1)
            rw [List.take_add_one, List.take_add_one, HNO.out, HX.out, HY.out, e]
          clear he HNO
          go_wp2_with fail
          go_quiet (fail)
          go_wp2
          go_roundw
          case rel => first | exact ⟨k + 1, by omega, by go_num, hno'.out, HR, HS, hu.drewN _⟩ | ((repeat apply Exists.intro); exact ⟨⟨k + 1, by omega, by go_num, hno'.out, HR, HS, hu.drewN _⟩, rfl⟩)
          case measure => simp [intOf]; omega
        | false =>
          rw [he] at heq
          have hrt : Hid (false = r) := by
            show false = r
            rw [← HD.out]
            have hne : x ≠ y := by simpa using he
            symm
            simp only [decide_eq_false_iff_not]
            intro e
            subst e
            have := HX.out.symm.trans HY.out
            simp at this
            exact hne this
          clear he HNO
          go_wp2_with fail
          go_quiet (fail)
          go_wp2
          go_ret
          exact ⟨ret_bool hrt.out, hu.drewN _⟩
      · obtain rfl : k = n := by omega
        have hrt : Hid (true = r) := by
          show true = r
          rw [← HD.out]
          symm
          have e := HNO.out
          rw [List.take_of_length_le (by omega), List.take_of_length_le (by omega)] at e
          simpa using e
        clear HNO hr hs
        go_wp2
        go_ret
        exact ⟨ret_bool hrt.out, hu⟩
  · have hrt : Hid (false = r) := by
      show false = r
      rw [← HD.out]
      symm
      simp only [decide_eq_false_iff_not]
      intro e
      subst e
      exact hnm (by omega)
    have hne : ((n : Int) != (m : Int)) = true := by simp; omega
    clear h g hl hm
    go_enter Tryz.func81, Tryz.ntmps81
    go_wp2
    go_ret
    exact ⟨ret_bool hrt.out, Up.refl _⟩
end Go.Proofs.YtlaihgdfedalmaaGreat
namespace Go.Proofs.YtlaihgdfedalmaaGreat
open Go.RowKit Go.Sort
set_option linter.unusedVariables false

def In (a : Int) : Prop := -9223372036854775808 ≤ a ∧ a ≤ 9223372036854775807
/-- The numbers of a label are numbers of their kinds. -/
def OkL (x : Lb) : Prop := x.1 < 18446744073709551616 ∧ In x.2.1 ∧ x.2.2.1 < 18446744073709551616 ∧ In x.2.2.2
theorem wf_i64 {a : Int} (h : In a) : (Lit.int .i64 a).wf = true := by
  unfold In at h
  simp [Lit.wf, IntKind.min, IntKind.max, IntKind.bits, IntKind.signed]
  omega
theorem wf_u64 {a : Nat} (h : a < 18446744073709551616) : (Lit.int .u64 (a : Int)).wf = true := by
  simp [Lit.wf, IntKind.min, IntKind.max, IntKind.bits, IntKind.signed]
  omega

theorem laidOut : laidOutB Tryz.prog = true := by kernel_rfl
theorem cells26 : Tryz.prog.cellsOf 39 = 4 := by kernel_rfl
theorem cells24 : Tryz.prog.cellsOf 33 = 2 := by kernel_rfl
theorem cells22 : Tryz.prog.cellsOf 31 = 1 := by kernel_rfl
theorem cells3 : Tryz.prog.cellsOf 3 = 1 := by kernel_rfl
end Go.Proofs.YtlaihgdfedalmaaGreat
namespace Go.Proofs.YtlaihgdfedalmaaGreat
open Go.RowKit Go.Sort
set_option linter.unusedVariables false


end Go.Proofs.YtlaihgdfedalmaaGreat
namespace Go.Proofs.YtlaihgdfedalmaaGreat
open Go.RowKit Go.Sort
set_option linter.unusedVariables false

end Go.Proofs.YtlaihgdfedalmaaGreat
namespace Go.Proofs.YtlaihgdfedalmaaGreat
open Go.RowKit Go.Sort
set_option linter.unusedVariables false

theorem gr_refl (w : World) (r : Option Nat) : w.grownBy w r := ⟨rfl, rfl, rfl, Nat.le_refl _, fun _ _ _ => rfl⟩
theorem gr_trans {a b c : World} {r : Option Nat} (h : a.grownBy b r) (k : b.grownBy c r) : a.grownBy c r :=
  ⟨k.os.trans h.os, k.tape.trans h.tape, k.output.trans h.output, Nat.le_trans h.size k.size, fun i hi hne => (k.block i (Nat.lt_of_lt_of_le hi h.size) hne).trans (h.block i hi hne)⟩
theorem gr_below {a b : World} (h : Below a.heap.size a b) (r : Option Nat) : a.grownBy b r := ⟨h.os, h.tape, h.output, h.size, fun i hi _ => h.block i hi⟩
theorem gr_setRow (w : World) (g : Nat) (cs : Array Value) : w.grownBy (w.setRow g cs) (some g) := ⟨rfl, rfl, rfl, by simp, fun i hi hne => setRow_other _ _ _ _ (fun e => hne (by rw [e]))⟩

/-- Block g has these labels, and behind them what is left of its room. -/
def Blk (w : World) (g cap : Nat) (cur : List Lb) : Prop := ∃ rest : List Value, w.heap[g]? = some (.cells (flat cur ++ rest).toArray 39 (0, 0)) ∧ (flat cur ++ rest).length = cap * 4
theorem Blk.of_block {w w' : World} {g cap : Nat} {cur : List Lb} (h : Blk w g cap cur) (e : w'.heap[g]? = w.heap[g]?) : Blk w' g cap cur := by
  obtain ⟨r, h1, h2⟩ := h
  exact ⟨r, by rw [e]; exact h1, h2⟩
theorem Blk.lt {w : World} {g cap : Nat} {cur : List Lb} (h : Blk w g cap cur) : g < w.heap.size := by
  obtain ⟨r, h1, _⟩ := h
  exact (Array.getElem?_eq_some_iff.1 h1).1
theorem Blk.up {w w' : World} {g cap : Nat} {cur : List Lb} (h : Blk w g cap cur) (u : Below w.heap.size w w') : Blk w' g cap cur := h.of_block (u.block g h.lt)
theorem Blk.len {w : World} {g cap : Nat} {cur : List Lb} (h : Blk w g cap cur) : cur.length ≤ cap := by
  obtain ⟨r, _, h2⟩ := h
  rw [List.length_append, flat_len] at h2
  omega
theorem Blk.ofOwn {w : World} {B n g cap : Nat} {ls : List Lb} (h : w.ownsRow B 39 4 (.slice (some ⟨g, 0, none⟩) n cap) n (flat ls)) : Blk w g cap ls ∧ B ≤ g ∧ n ≤ cap ∧ cap ≤ maxLen := by
  rcases h.2 with ⟨h0, _⟩ | ⟨g', cap', cur, h0, a, b, c, d, e, f⟩
  · cases h0
  · simp only [Value.slice.injEq, Option.some.injEq, Addr.mk.injEq] at h0
    obtain ⟨⟨rfl, _, _⟩, _, rfl⟩ := h0
    refine ⟨⟨cur.toList.drop (n * 4), ?_, ?_⟩, a, c, d⟩
    · rw [b, ← f, List.take_append_drop]
    · rw [← f, List.take_append_drop]; simpa using e
theorem Blk.own {w : World} {B g cap : Nat} {cur : List Lb} (h : Blk w g cap cur) (hB : B ≤ g) (hc : cap ≤ maxLen) (i : Nat) (hi : i ≤ cur.length) : w.ownsRow B 39 4 (.slice (some ⟨g, 0, none⟩) i cap) i (flat (cur.take i)) := by
  have hl := h.len
  obtain ⟨r, h1, h2⟩ := h
  refine ⟨by rw [flat_len, List.length_take]; omega, .inr ⟨g, cap, _, rfl, hB, h1, by omega, hc, by simpa using h2, ?_⟩⟩
  have e : flat cur = flat (cur.take i) ++ flat (cur.drop i) := by rw [← flat_app, List.take_append_drop]
  simp only [e, List.append_assoc]
  rw [List.take_append_of_le_length (by rw [flat_len, List.length_take]; omega), List.take_of_length_le (by rw [flat_len, List.length_take]; omega)]
theorem Blk.cell {w : World} {g cap : Nat} {cur : List Lb} (h : Blk w g cap cur) {j : Nat} {x : Lb} (hj : cur[j]? = some x) :
    w.cell? ⟨g, j * 4, none⟩ = some (.int .u64 (x.1 : Nat)) ∧ w.cell? ⟨g, j * 4 + 1, none⟩ = some (.int .i64 x.2.1) ∧ w.cell? ⟨g, j * 4 + 2, none⟩ = some (.int .u64 (x.2.2.1 : Nat)) ∧ w.cell? ⟨g, j * 4 + 3, none⟩ = some (.int .i64 x.2.2.2) := by
  obtain ⟨r, h1, h2⟩ := h
  have hjl : j < cur.length := (List.getElem?_eq_some_iff.1 hj).1
  have key : ∀ i, i < 4 → w.cell? ⟨g, j * 4 + i, none⟩ = (cellsL x)[i]? := fun i hi => by
    unfold World.cell?
    rw [h1]
    simp only [List.getElem?_toArray]
    rw [List.getElem?_append_left (by rw [flat_len]; omega), show j * 4 + i = 4 * j + i by omega]
    exact flat_get cur j x i hj hi
  exact ⟨key 0 (by omega), key 1 (by omega), key 2 (by omega), key 3 (by omega)⟩
theorem flat_set (ls : List Lb) (i : Nat) (x : Lb) (hi : i < ls.length) : flat (ls.set i x) = (flat ls).take (i * 4) ++ cellsL x ++ (flat ls).drop (i * 4 + 4) := by
  obtain ⟨a, y, b, rfl, rfl⟩ : ∃ a y b, ls = a ++ y :: b ∧ i = a.length := ⟨ls.take i, ls[i], ls.drop (i + 1), by simp, by rw [List.length_take]; omega⟩
  have l1 := flat_len a
  have e : (a ++ y :: b).set a.length x = a ++ x :: b := by simp
  rw [e, flat_app, flat_cons, flat_app, flat_cons]
  rw [List.take_append_of_le_length (by omega), List.take_of_length_le (by omega), List.drop_append, List.drop_of_length_le (by omega), show a.length * 4 + 4 - (flat a).length = (cellsL y).length by simp [cellsL]; omega]
  simp
theorem Blk.set {w : World} {g cap : Nat} {cur : List Lb} (h : Blk w g cap cur) {i : Nat} (hi : i < cur.length) (x : Lb) :
    ∃ w', Sem.run Tryz.prog (storeCells ⟨g, i * 4, none⟩ [.int .u64 (x.1 : Nat), .int .i64 x.2.1, .int .u64 (x.2.2.1 : Nat), .int .i64 x.2.2.2] 0) w = .ok () w' ∧ Blk w' g cap (cur.set i x) ∧ w.grownBy w' (some g) := by
  obtain ⟨r, h1, h2⟩ := h
  have hl := flat_len cur
  have hrun := run_storeCells_at (P := Tryz.prog) g (i * 4) 39 (cellsL x) 0 _ w h1 (by simp [cellsL]; omega) (by simp [cellsL, Value.oneCell'])
  refine ⟨_, hrun, ⟨r, ?_, ?_⟩, gr_setRow _ _ _⟩
  · rw [setRow_heap _ _ _ _ _ _ h1]
    congr 3
    rw [flat_set _ _ _ hi]
    have a1 : (flat cur ++ r).take (i * 4 + 0) = (flat cur).take (i * 4) := List.take_append_of_le_length (by omega)
    have a2 : (flat cur ++ r).drop (i * 4 + 0 + (cellsL x).length) = (flat cur).drop (i * 4 + 4) ++ r := by
      rw [show i * 4 + 0 + (cellsL x).length = i * 4 + 4 by simp [cellsL], List.drop_append_of_le_length (by omega)]
    rw [a1, a2]
    simp
  · rw [← h2, List.length_append, List.length_append, flat_len, flat_len, List.length_set]
theorem und32 : Tryz.prog.underlying 43 = some (.slice 39) := by kernel_rfl
theorem zeroL (n : Nat) : (Builtin.zeroCells (Value.agg #[.int .u64 0, .int .i64 0, .int .u64 0, .int .i64 0]).cells n).toList.length = n * 4 := by
  simp [Builtin.zeroCells, Value.cells]
/-- What stands from i on is cleared. -/
theorem Blk.clear {w : World} {g cap : Nat} {cur : List Lb} (h : Blk w g cap cur) {i n : Nat} (hi : i ≤ cur.length) (hn : n = cur.length - i) (c : Nat) (ty : TypeId) :
    ∃ w', Sem.run Tryz.prog (Builtin.clear_ #[43] ty #[.slice (some ⟨g, i * 4, none⟩) n c]) w = .ok (.tuple #[]) w' ∧ Blk w' g cap (cur.take i) ∧ w.grownBy w' (some g) := by
  by_cases h0 : n = 0
  · subst h0
    refine ⟨w, ?_, ?_, gr_refl _ _⟩
    · simp [Builtin.clear_, run_underlying und32]
    · rw [List.take_of_length_le (by omega)]; exact h
  · obtain ⟨m, rfl⟩ : ∃ m, n = m + 1 := ⟨n - 1, by omega⟩
    obtain ⟨r, h1, h2⟩ := h
    have hl := flat_len cur
    have hzl := zeroL (m + 1)
    have hone : ∀ v ∈ (Builtin.zeroCells (Value.agg #[.int .u64 0, .int .i64 0, .int .u64 0, .int .i64 0]).cells (m + 1)).toList, v.oneCell' = true := by
      intro v hv
      simp only [Builtin.zeroCells, Value.cells, Array.toList_map, List.mem_map] at hv
      obtain ⟨k, _, rfl⟩ := hv
      have hk : k % 4 < 4 := Nat.mod_lt _ (by omega)
      have : k % 4 = 0 ∨ k % 4 = 1 ∨ k % 4 = 2 ∨ k % 4 = 3 := by omega
      rcases this with e | e | e | e <;> simp [e, Value.oneCell']
    have hrun := run_storeCells_at (P := Tryz.prog) g (i * 4) 39 _ 0 _ w h1 (by rw [hzl]; simp; omega) hone
    have hcl : ∀ w', Sem.run Tryz.prog (storeCells ⟨g, i * 4, none⟩ (Builtin.zeroCells (Value.agg #[.int .u64 0, .int .i64 0, .int .u64 0, .int .i64 0]).cells (m + 1)).toList 0) w = .ok () w' → Sem.run Tryz.prog (Builtin.clear_ #[43] ty #[.slice (some ⟨g, i * 4, none⟩) (m + 1) c]) w = .ok (.tuple #[]) w' := fun w' hw => by
      simp [Builtin.clear_, run_underlying und32, hw]
    refine ⟨_, hcl _ hrun, ⟨(Builtin.zeroCells (Value.agg #[.int .u64 0, .int .i64 0, .int .u64 0, .int .i64 0]).cells (m + 1)).toList ++ r, ?_, ?_⟩, gr_setRow _ _ _⟩
    · rw [setRow_heap _ _ _ _ _ _ h1]
      congr 3
      generalize (Builtin.zeroCells (Value.agg #[.int .u64 0, .int .i64 0, .int .u64 0, .int .i64 0]).cells (m + 1)).toList = zs at *
      have e : flat cur = flat (cur.take i) ++ flat (cur.drop i) := by rw [← flat_app, List.take_append_drop]
      have l1 : (flat (cur.take i)).length = i * 4 := by rw [flat_len, List.length_take]; omega
      have l2 : (flat (cur.drop i)).length = (m + 1) * 4 := by rw [flat_len, List.length_drop]; omega
      have a1 : (flat cur ++ r).take (i * 4 + 0) = flat (cur.take i) := by
        rw [e, List.append_assoc, List.take_append_of_le_length (by omega), List.take_of_length_le (by omega)]
      have a2 : (flat cur ++ r).drop (i * 4 + 0 + zs.length) = r := by
        rw [List.drop_append, List.drop_of_length_le (by omega), show i * 4 + 0 + zs.length - (flat cur).length = 0 by omega]; simp
      rw [a1, a2]
      simp
    · rw [← h2, List.length_append, List.length_append, List.length_append, flat_len, flat_len, hzl, List.length_take]
      omega
end Go.Proofs.YtlaihgdfedalmaaGreat
namespace Go.Proofs.YtlaihgdfedalmaaGreat
open Go.RowKit Go.Sort
set_option linter.unusedVariables false

def out (S ls : List Lb) : List Lb := ls.filter (fun x => !decide (x ∈ S))
theorem out_none {S ls : List Lb} (h : ∀ x ∈ ls, x ∉ S) : out S ls = ls := by
  unfold out
  rw [List.filter_eq_self]
  intro x hx
  simpa using h x hx
theorem out_step {S ls : List Lb} {j : Nat} {x : Lb} (h : ls[j]? = some x) : out S (ls.take (j + 1)) = out S (ls.take j) ++ (if decide (x ∈ S) then [] else [x]) := by
  unfold out
  rw [List.take_add_one, h, List.filter_append]
  by_cases hx : x ∈ S <;> simp [hx]
theorem out_le (S ls : List Lb) : (out S ls).length ≤ ls.length := List.length_filter_le _ _

/-- A store of a thing of several cells, by its run. -/
theorem wpList_store_cells {P : Program} {ops : Array Oper} {rest : List Oper} {o : Oper} {a : Act} {w : World} {Q : Exit → Act → World → Prop} (hgd : o.guard = none) (ty : TypeId) (x y : Operand) (ho : o.op = .store ty x y)
    (ad : Addr) (cells : Array Value) (hx : a.eval x = .pointer (some ad)) (hy : a.eval y = .agg cells) (hi : (P.info? ty).map (·.size) = some cells.size)
    (w' : World) (hrun : (storeCells ad cells.toList 0).run P w = .ok () w') (h : wpList P ops Q rest (a.put o.dst undef) w') : wpList P ops Q (o :: rest) a w := by
  have hsv : (storeVar ty ad (.agg cells)).run P w = .ok () w' := by
    cases hq : P.info? ty with
    | none => simp [hq] at hi
    | some i =>
      have hs : cells.size = i.size := by simp [hq] at hi; omega
      simp [storeVar, sizeOf, typeInfo, hq, Value.cells, hs, hrun]
  refine wpList_plain hgd fun K hK => ?_
  unfold Oper.wp execOp
  simp only [ho, hx, hy, Instr.storeAt, Instr.sureAddr, Sem.run_bind, Sem.run_pure, Result.andThen_ok, hsv]
  exact hK _ _ h
theorem info26 : (Tryz.prog.info? 39).map (·.size) = some 4 := by kernel_rfl

end Go.Proofs.YtlaihgdfedalmaaGreat

/-
  Plain mathematics for the code layer: CRC-32 bit by bit over numbers, and numbers as bytes of seven bits each, written and read. No program is named here.
  Contracts of the leaves of package code: full, Sum, number: what each call answers, for every slice of bytes.
  Contracts of what writes numbers as bytes: Uint of package code, Uint of the document's answer: each answers the bytes that came, and the number's bytes behind them, in new memory.
  Contracts of the reader of package code: NewReader, Bad, Left, fail, Uint, Int, Bytes: what each call answers, and what the reader holds behind it.
  Contracts of the reader of package code, more: NewReader, Int, Bytes.
  Plain mathematics of reading numbers: the bytes that Uint writes are those that are read, and no others.
  Contract of the document's answer for numbers: Uint of package folkmootref02 answers the number's bytes, in new memory.
  The document's examples hold: 'awake' of the statements' package answers true, and leaves what was there as it was.
  Strings of bytes in the walk, and a reader in a world that has grown.
  Two laws on regions that draw their order, over the kit's own: the operation is handed over as it is written in the list.
  One law more on regions that draw their order: what is held may be said more of, from some operation on.
  Contracts of the reader of the document's answer: Uint: what it answers, and where it stands behind it.
  Contracts of the reader of the document's answer, more: Int, Bytes, Left; and how it keeps step with the reader of package code.
  Contracts: Bytes of package code, and Bytes of the document's answer: how many bytes there are, and the bytes, behind what came, in new memory.
-/
namespace Go.Proofs.YtlaihgdfedalmaaGreat.Cd
set_option linter.unusedVariables false

theorem u8_lt (x : UInt8) : x.toNat < 256 := x.toNat_lt
/-! ### Numbers as bytes -/
def encF : Nat → Nat → List UInt8
  | 0, n => [UInt8.ofNat n]
  | f + 1, n => if n < 128 then [UInt8.ofNat n] else UInt8.ofNat (n % 128 + 128) :: encF f (n / 128)
def enc (n : Nat) : List UInt8 := encF 9 n

theorem encF_small (f n : Nat) (h : n < 128) : encF f n = [UInt8.ofNat n] := by cases f <;> simp [encF, h]
theorem encF_big (f n : Nat) (h : 128 ≤ n) : encF (f + 1) n = UInt8.ofNat (n % 128 + 128) :: encF f (n / 128) := by
  rw [encF, if_neg (by omega)]
theorem encF_length : ∀ (f n : Nat), (encF f n).length ≤ f + 1
  | 0, _ => by simp [encF]
  | f + 1, n => by
    rw [encF]
    split
    · simp
    · have := encF_length f (n / 128); simp; omega
theorem encF_ne (f n : Nat) : encF f n ≠ [] := by
  cases f with
  | zero => simp [encF]
  | succ f => rw [encF]; split <;> simp
theorem enc_length (n : Nat) : (enc n).length ≤ 10 := encF_length 9 n
theorem enc_pos (n : Nat) : 1 ≤ (enc n).length := by
  have := encF_ne 9 n
  unfold enc
  cases h : encF 9 n with
  | nil => exact absurd h this
  | cons a t => simp

/-- What reading comes to: from place i on, with what has been read so far. -/
def rdF : Nat → Nat → List UInt8 → Option (Nat × Nat)
  | _, _, [] => none
  | i, acc, x :: t =>
    if i = 9 ∧ 1 < x.toNat then none
    else if 128 ≤ x.toNat then rdF (i + 1) (acc + x.toNat % 128 * 128 ^ i) t
    else if x.toNat = 0 ∧ 0 < i then none
    else some (acc + x.toNat % 128 * 128 ^ i, i + 1)
def rd (xs : List UInt8) : Option (Nat × Nat) := rdF 0 0 xs

theorem ofNat_toNat (n : Nat) (h : n < 256) : (UInt8.ofNat n).toNat = n := by simp; omega

/-- What was written is read, whatever follows. -/
theorem rdF_encF : ∀ (f i acc n : Nat) (t : List UInt8), f + i = 9 → n < 2 * 128 ^ f → (0 < i → 0 < n) → rdF i acc (encF f n ++ t) = some (acc + n * 128 ^ i, i + (encF f n).length)
  | 0, i, acc, n, t, hf, hn, h0 => by
    simp at hn
    have hi : i = 9 := by omega
    have h1 := ofNat_toNat n (by omega)
    simp only [encF, List.cons_append, List.nil_append, rdF, h1]
    rw [if_neg (by omega), if_neg (by omega), if_neg (by intro h; have := h0 h.2; omega)]
    simp [Nat.mod_eq_of_lt (show n < 128 by omega)]
  | f + 1, i, acc, n, t, hf, hn, h0 => by
    by_cases h : n < 128
    · have h1 := ofNat_toNat n (by omega)
      rw [encF_small _ _ h]
      simp only [List.cons_append, List.nil_append, rdF, h1]
      rw [if_neg (by omega), if_neg (by omega), if_neg (by intro h; have := h0 h.2; omega)]
      simp [Nat.mod_eq_of_lt h]
    · have h1 := ofNat_toNat (n % 128 + 128) (by omega)
      rw [encF_big _ _ (by omega)]
      simp only [List.cons_append, rdF, h1]
      rw [if_neg (by omega), if_pos (by omega)]
      have hd : n / 128 < 2 * 128 ^ f := by
        rw [Nat.pow_succ] at hn
        omega
      rw [rdF_encF f (i + 1) _ (n / 128) t (by omega) hd (by omega)]
      have e : (n % 128 + 128) % 128 = n % 128 := by omega
      rw [e]
      have e2 : n % 128 * 128 ^ i + n / 128 * 128 ^ (i + 1) = n * 128 ^ i := by
        rw [Nat.pow_succ, ← Nat.mul_assoc, Nat.mul_right_comm, ← Nat.add_mul]
        congr 1
        omega
      simp only [List.length_cons, Option.some.injEq, Prod.mk.injEq]
      constructor <;> omega
theorem rd_enc (n : Nat) (t : List UInt8) (h : n < 18446744073709551616) : rd (enc n ++ t) = some (n, (enc n).length) := by
  have := rdF_encF 9 0 0 n t (by omega) (by omega) (by omega)
  simpa [rd, enc] using this

theorem rdF_size : ∀ (xs : List UInt8) (i acc n s : Nat), rdF i acc xs = some (n, s) → i < s ∧ s ≤ i + xs.length
  | [], i, acc, n, s, h => by simp [rdF] at h
  | x :: t, i, acc, n, s, h => by
    rw [rdF] at h
    split at h
    · cases h
    · split at h
      · have := rdF_size t _ _ _ _ h
        simp
        omega
      · split at h
        · cases h
        · simp at h
          simp
          omega
theorem rd_size {xs : List UInt8} {n s : Nat} (h : rd xs = some (n, s)) : 0 < s ∧ s ≤ xs.length := by
  have := rdF_size xs 0 0 n s h
  omega
theorem pow_le9 {i : Nat} (h : i ≤ 9) : (128 : Nat) ^ i ≤ 9223372036854775808 := by
  have : (128 : Nat) ^ i ≤ 128 ^ 9 := Nat.pow_le_pow_right (by omega) h
  simpa using this
theorem rdF_lt : ∀ (xs : List UInt8) (i acc n s : Nat), i ≤ 9 → acc < 128 ^ i → rdF i acc xs = some (n, s) → n < 18446744073709551616
  | [], i, acc, n, s, _, _, h => by simp [rdF] at h
  | x :: t, i, acc, n, s, hi, ha, h => by
    rw [rdF] at h
    have hm : x.toNat % 128 ≤ 127 := by omega
    split at h
    · cases h
    · split at h
      · by_cases h9 : i = 9
        · omega
        · refine rdF_lt t (i + 1) _ n s (by omega) ?_ h
          have := Nat.mul_le_mul_right (128 ^ i) hm
          rw [Nat.pow_succ]
          omega
      · split at h
        · cases h
        · simp at h
          obtain ⟨rfl, _⟩ := h
          by_cases h9 : i = 9
          · subst h9
            have : x.toNat % 128 ≤ 1 := by omega
            have := Nat.mul_le_mul_right (128 ^ 9) this
            simp at this ha ⊢
            omega
          · have h8 : (128 : Nat) ^ (i + 1) ≤ 9223372036854775808 := pow_le9 (by omega)
            have := Nat.mul_le_mul_right (128 ^ i) hm
            rw [Nat.pow_succ] at h8
            omega
theorem rd_lt {xs : List UInt8} {n s : Nat} (h : rd xs = some (n, s)) : n < 18446744073709551616 := rdF_lt xs 0 0 n s (by omega) (by omega) h

/-- The walk's word for 'n |= uint64(b%128) << (7*i)'. -/
theorem walk_or (i acc d : Nat) (hi : i ≤ 9) (ha : acc < 128 ^ i) (hd : d < 128) (h9 : i = 9 → d ≤ 1) : bits .or .u64 (acc : Int) ((d * 128 ^ i : Nat) : Int) = ((acc + d * 128 ^ i : Nat) : Int) := by
  have hp := pow_le9 hi
  have hb : d * 128 ^ i < 18446744073709551616 := by
    by_cases e : i = 9
    · subst e
      have := Nat.mul_le_mul_right (128 ^ 9) (h9 rfl)
      simp at this ⊢
      omega
    · have h8 : (128 : Nat) ^ (i + 1) ≤ 9223372036854775808 := pow_le9 (by omega)
      have := Nat.mul_le_mul_right (128 ^ i) (show d ≤ 127 by omega)
      rw [Nat.pow_succ] at h8
      omega
  rw [u64_or_nat _ _ (by omega) hb]
  have e : (128 : Nat) ^ i = 2 ^ (7 * i) := by rw [Nat.pow_mul]
  rw [e] at ha ⊢
  have := Nat.two_pow_add_eq_or_of_lt ha d
  rw [Nat.or_comm, Nat.mul_comm d, ← this, Nat.add_comm]

end Go.Proofs.YtlaihgdfedalmaaGreat.Cd
namespace Go.Proofs.YtlaihgdfedalmaaGreat.Cd
open Go.RowKit
set_option linter.unusedVariables false

/-- A slice of bytes that is there: its length, its room, its bytes. -/
def Row (w : World) (ao : Option Addr) (n cap : Nat) (xs : List UInt8) : Prop :=
  xs.length = n ∧ n ≤ cap ∧ cap ≤ maxLen ∧ (ao = none → n = 0 ∧ cap = 0) ∧ ∀ a, ao = some a → ∀ i, i < n → w.cell? (a.add i) = some (.int .u8 ((xs.getD i 0).toNat : Int))

theorem Row.open {w : World} {ao : Option Addr} {n cap : Nat} {xs : List UInt8} (h : Row w ao n cap xs) (hn : 0 < n) :
    ∃ b off, ao = some ⟨b, off, none⟩ ∧ ∀ i, i < n → w.cell? ⟨b, off + i, none⟩ = some (.int .u8 ((xs.getD i 0).toNat : Int)) := by
  obtain ⟨h1, h2, h3, h4, h5⟩ := h
  cases ao with
  | none => have := (h4 rfl).1; omega
  | some a =>
    obtain ⟨b, off, spot⟩ := a
    have hc := h5 _ rfl 0 hn
    have hs : spot = none := by simpa [Addr.add] using World.cell?_spot hc
    subst hs
    exact ⟨b, off, rfl, fun i hi => by rw [← Addr.add_lit]; exact h5 _ rfl i hi⟩

set_option maxHeartbeats 400000 in
theorem full_any (w : World) (ao : Option Addr) (n cap : Nat) (h : n ≤ cap) (hm : cap ≤ maxLen) : Calls Tryz.prog 152 #[.slice ao n cap] w fun e w' => e = .returned (.slice ao n n) ∧ w = w' := by
  unfold maxLen at hm
  go_enter Tryz.func152, Tryz.ntmps152
  go_wp2
  go_ret
  exact ⟨rfl, rfl⟩

theorem ret_int {k : IntKind} {a b : Int} (h : a = b) : Ending.returned (.int k a) = .returned (.int k b) := by rw [h]

theorem rdF_end {i acc : Nat} {xs : List UInt8} (h : xs.length ≤ i) : rdF i acc (xs.drop i) = none := by
  rw [List.drop_of_length_le h]; rfl
theorem drop_cons {xs : List UInt8} {k : Nat} (h : k < xs.length) : xs.drop k = xs.getD k 0 :: xs.drop (k + 1) := by
  rw [List.drop_eq_getElem_cons h]
  simp [List.getD, List.getElem?_eq_getElem h]

theorem shift_lt {k d : Nat} (hk : k ≤ 9) (hd : d < 128) (h9 : k = 9 → d ≤ 1) : d * 128 ^ k < 18446744073709551616 := by
  by_cases e : k = 9
  · subst e
    have := Nat.mul_le_mul_right (128 ^ 9) (h9 rfl)
    simp at this ⊢
    omega
  · have h8 : (128 : Nat) ^ (k + 1) ≤ 9223372036854775808 := pow_le9 (by omega)
    have := Nat.mul_le_mul_right (128 ^ k) (show d ≤ 127 by omega)
    rw [Nat.pow_succ] at h8
    omega
theorem shift_or {k d acc : Nat} (hk : k ≤ 9) (ha : acc < 128 ^ k) (hd : d < 128) (h9 : k = 9 → d ≤ 1) : bits .or .u64 (acc : Int) (IntKind.u64.wrap ((d : Int) * 2 ^ (7 * k))) = ((acc + d * 128 ^ k : Nat) : Int) := by
  have h2 : (2 : Int) ^ (7 * k) = ((128 ^ k : Nat) : Int) := by
    rw [show (128 : Nat) = 2 ^ 7 from rfl, ← Nat.pow_mul]
    simp
  have h3 := shift_lt hk hd h9
  have h4 : IntKind.u64.wrap ((d : Int) * 2 ^ (7 * k)) = ((d * 128 ^ k : Nat) : Int) := by
    rw [IntKind.wrap_u64, h2, ← Int.natCast_mul]
    omega
  rw [h4]
  exact walk_or k acc d hk ha hd h9

def rdNum (r : Option (Nat × Nat)) : Nat := match r with | some (n, _) => n | none => 0
def rdSize (r : Option (Nat × Nat)) : Nat := match r with | some (_, s) => s | none => 0

set_option maxRecDepth 10000 in
set_option maxHeartbeats 1000000 in
theorem number_any (w : World) (ao : Option Addr) (n cap : Nat) (xs : List UInt8) (h : Row w ao n cap xs) :
    Calls Tryz.prog 173 #[.slice ao n cap] w fun e w' => e = .returned (.tuple #[.int .u64 (rdNum (rd xs) : Nat), .int .i64 (rdSize (rd xs) : Nat)]) ∧ w = w' := by
  have hop := h.open
  obtain ⟨hlen, hle, hm, _, _⟩ := h
  unfold maxLen at hm
  go_enter Tryz.func173, Tryz.ntmps173
  go_wp2
  go_loop [2, 8] (fun s i => ∃ k acc : Nat, k ≤ n ∧ k ≤ 9 ∧ acc < 128 ^ k ∧ i = .int .i64 k ∧ s = .int .u64 (acc : Nat) ∧ rdF k acc (xs.drop k) = rd xs) (fun _ i => n - (intOf i).toNat)
  case atStart => exact ⟨0, 0, by omega, by omega, by omega, rfl, rfl, rfl⟩
  case round =>
    obtain ⟨k, acc, hk, hk9, hacc, rfl, rfl, hrd⟩ := hrel
    have HR : Hid (rdF k acc (xs.drop k) = rd xs) := hrd
    clear hrd
    by_cases hlt : k < n
    · obtain ⟨b, off, rfl, hcell⟩ := hop (by omega)
      have hck := hcell k hlt
      have hd := drop_cons (show k < xs.length by omega)
      obtain ⟨x, hx⟩ : ∃ x, x = xs.getD k 0 := ⟨_, rfl⟩
      rw [← hx] at hck hd
      rw [hd] at HR
      have hxl := u8_lt x
      clear hx hcell hop hd
      have HA : Hid (acc < 128 ^ k) := hacc
      clear hacc
      by_cases h9 : k = 9 ∧ 1 < x.toNat
      · obtain ⟨rfl, h1⟩ := h9
        have hrd : rd xs = none := by rw [← HR.out, rdF, if_pos ⟨rfl, h1⟩]
        go_wp2
        go_ret2
        exact ⟨by simp [rdNum, rdSize], rfl⟩
      · obtain ⟨d, hd⟩ : ∃ d : Nat, d = x.toNat % 128 := ⟨_, rfl⟩
        have hd1 : d < 128 := by omega
        have hd9 : k = 9 → d ≤ 1 := by omega
        have hdx : (x.toNat : Int) % 128 = (d : Int) := by omega
        have hor := shift_or hk9 HA.out hd1 hd9
        have HS : Hid (acc + d * 128 ^ k < 128 ^ (k + 1)) := by
          have := Nat.mul_le_mul_right (128 ^ k) (show d ≤ 127 by omega)
          have := HA.out
          show acc + d * 128 ^ k < 128 ^ (k + 1)
          rw [Nat.pow_succ]
          omega
        have HO : Hid (bits .or .u64 (acc : Int) (IntKind.u64.wrap ((d : Int) * 2 ^ (7 * k))) = ((acc + d * 128 ^ k : Nat) : Int)) := hor
        have HD : Hid (d = x.toNat % 128) := hd
        clear HA hd9 hor hd
        by_cases h128 : 128 ≤ x.toNat
        · have h99 : ((k : Int) == 9) = false := by simp; omega
          have hd8 : Hid (rdF (k + 1) (acc + d * 128 ^ k) (xs.drop (k + 1)) = rd xs) := by
            have := HR.out
            rw [rdF, if_neg h9, if_pos h128, ← HD.out] at this
            exact this
          go_wp2
          go_round
          case rel => exact ⟨k + 1, _, by omega, by omega, HS.out, by go_num, by rw [HO.out], hd8.out⟩
          case measure => simp [intOf]; omega
        · by_cases h0 : x.toNat = 0 ∧ 0 < k
          · have hrd : rd xs = none := by
              have := HR.out
              rw [rdF, if_neg h9, if_neg h128, if_pos h0] at this
              exact this.symm
            have HN : Hid (rd xs = none) := hrd
            clear hrd
            have h00 : ((x.toNat : Int) == 0) = true := by simp [h0.1]
            have h0k : (0 : Int) < k := by omega
            have hx1 : ¬ (1 : Int) < x.toNat := by omega
            clear h0
            by_cases e9 : k = 9
            · have h99 : ((k : Int) == 9) = true := by simp; omega
              clear e9 h9
              go_wp2
              go_ret2
              exact ⟨by simp [HN.out, rdNum, rdSize], rfl⟩
            · have h99 : ((k : Int) == 9) = false := by simp; omega
              go_wp2
              go_ret2
              exact ⟨by simp [HN.out, rdNum, rdSize], rfl⟩
          · have hrd : rd xs = some (acc + d * 128 ^ k, k + 1) := by
              have := HR.out
              rw [rdF, if_neg h9, if_neg h128, if_neg h0, ← HD.out] at this
              exact this.symm
            have HN : Hid (rd xs = some (acc + d * 128 ^ k, k + 1)) := hrd
            clear hrd
            by_cases e9 : k = 9
            · have h99 : ((k : Int) == 9) = true := by simp; omega
              have hx1 : ¬ (1 : Int) < x.toNat := by omega
              have h00 : ((x.toNat : Int) == 0) = false := by simp; omega
              clear e9 h9 h0
              go_wp2
              go_ret2
              exact ⟨by rw [HN.out]; simp only [rdNum, rdSize]; rw [← HO.out]; rfl, rfl⟩
            · have h99 : ((k : Int) == 9) = false := by simp; omega
              by_cases e0 : x.toNat = 0
              · have h00 : ((x.toNat : Int) == 0) = true := by simp [e0]
                have hk0 : ¬ (0 : Int) < k := by omega
                clear e0 h0
                go_wp2
                go_ret2
                exact ⟨by rw [HN.out]; simp only [rdNum, rdSize]; rw [← HO.out]; rfl, rfl⟩
              · have h00 : ((x.toNat : Int) == 0) = false := by simp; omega
                go_wp2
                go_ret2
                exact ⟨by rw [HN.out]; simp only [rdNum, rdSize]; rw [← HO.out]; rfl, rfl⟩
    · go_wp2
      go_ret2
      have hrd : rd xs = none := by rw [← HR.out, rdF_end (by omega)]
      exact ⟨by simp [hrd, rdNum, rdSize], rfl⟩

end Go.Proofs.YtlaihgdfedalmaaGreat.Cd
namespace Go.Proofs.YtlaihgdfedalmaaGreat.Cd
open Go.RowKit
set_option linter.unusedVariables false

def by8 (x : UInt8) : Value := .int .u8 (x.toNat : Int)
theorem by8_one (ys : List UInt8) : ∀ u ∈ ys.map by8, u.oneCell' = true := by
  intro u hu
  simp only [List.mem_map] at hu
  obtain ⟨y, _, rfl⟩ := hu
  rfl
theorem Tryz.info5 : (Tryz.prog.info? 5).map (fun i => (i.zero, i.size, i.bytes)) = some (some (.int .u8 0), 1, 1) := by kernel_rfl

theorem Row.below {B : Nat} {w w' : World} {ao : Option Addr} {n cap : Nat} {xs : List UInt8} (h : Row w ao n cap xs) (hb : Below B w w') (hB : w.heap.size ≤ B) : Row w' ao n cap xs := by
  obtain ⟨h1, h2, h3, h4, h5⟩ := h
  refine ⟨h1, h2, h3, h4, fun a ha i hi => ?_⟩
  have hc := h5 a ha i hi
  have := World.block_lt_of_cell? w _ hc
  rw [hb.cell (by omega)]
  exact hc
theorem Row.olds {w : World} {ao : Option Addr} {n cap : Nat} {xs : List UInt8} (h : Row w ao n cap xs) : ∀ b, ao = some b → ∀ (j : Nat) u, (xs.map by8)[j]? = some u → w.cell? (b.add j) = some u := by
  intro b hb j u hu
  have hj : j < xs.length := by
    rcases Nat.lt_or_ge j xs.length with h | h
    · exact h
    · simp [List.getElem?_eq_none (show (xs.map by8).length ≤ j by simpa using h)] at hu
  rw [h.2.2.2.2 b hb j (by have := h.1; omega)]
  simp [List.getElem?_eq_getElem hj] at hu
  simp [by8, List.getElem?_eq_getElem hj] at hu ⊢
  exact hu

theorem or_128 (m : Nat) : bits .or .u8 ((m : Int) % 256) 128 = (((UInt8.ofNat (m % 128 + 128)).toNat : Nat) : Int) := by
  rw [ofNat_toNat _ (by omega)]
  have h := u8_or_nat (m % 256) 128 (by omega) (by omega)
  rw [show ((m : Int) % 256) = ((m % 256 : Nat) : Int) by omega]
  rw [show (128 : Int) = ((128 : Nat) : Int) from rfl, h]
  have h2 : m % 256 ||| 128 = m % 128 + 128 := by
    have e : m % 256 = 2 ^ 7 * (m / 128 % 2) + m % 128 := by omega
    have l := Nat.two_pow_add_eq_or_of_lt (show m % 128 < 2 ^ 7 by omega) (m / 128 % 2)
    have l1 := Nat.two_pow_add_eq_or_of_lt (show m % 128 < 2 ^ 7 by omega) 1
    rw [e, l]
    have hm : m / 128 % 2 = 0 ∨ m / 128 % 2 = 1 := by omega
    rcases hm with h0 | h0
    · rw [h0]
      simp only [Nat.mul_zero, Nat.zero_or]
      rw [show m % 128 + 128 = 2 ^ 7 * 1 + m % 128 by omega, l1, Nat.or_comm]
    · rw [h0, Nat.or_assoc, Nat.or_comm (m % 128) 128, ← Nat.or_assoc]
      rw [show m % 128 + 128 = 2 ^ 7 * 1 + m % 128 by omega, l1]
      rfl
  rw [h2]

theorem owns_mono {w : World} {B B' : Nat} {e : TypeId} {size : Nat} {v : Value} {n : Nat} {xs : List Value} (h : w.ownsRow B e size v n xs) (hB : B' ≤ B) : w.ownsRow B' e size v n xs := by
  refine ⟨h.1, ?_⟩
  rcases h.2 with hn | ⟨g, cap, cur, hv, hb, r⟩
  · exact .inl hn
  · exact .inr ⟨g, cap, cur, hv, by omega, r⟩
theorem arg_step {w wr w1 : World} {o : Obj} {n : Nat} {xs : List UInt8} {y : UInt8} {v' : Value} (hbel : Below w.heap.size w wr)
    (hown : w1.ownsRow (wr.heap.size + 1) 5 1 v' (n + 1) (xs.map by8 ++ [by8 y])) (hgrow : (wr.alloc o).grownBy w1 none) :
    w1.ownsRow w.heap.size 5 1 v' (n + [y].length) ((xs ++ [y]).map by8) ∧ Below w.heap.size w w1 := by
  have hs := hbel.size
  refine ⟨by simpa using owns_mono hown (by omega), (hbel.alloc hs o).grown hgrow (by simp; omega) (by simp)⟩
theorem own_step {w wr w1 : World} {o : Obj} {L : Nat} {zs : List UInt8} {y : UInt8} {v v' : Value} (hbel : Below w.heap.size w wr) (h0 : wr.ownsRow w.heap.size 5 1 v L (zs.map by8))
    (hown : w1.ownsRow w.heap.size 5 1 v' (L + 1) (zs.map by8 ++ [by8 y])) (hgrow : (wr.alloc o).grownBy w1 v.ownBlock) :
    w1.ownsRow w.heap.size 5 1 v' (L + 1) ((zs ++ [y]).map by8) ∧ Below w.heap.size w w1 := by
  have hs := hbel.size
  refine ⟨by simpa using hown, (hbel.alloc hs o).grown hgrow (by simp; omega) (fun k hk => (h0.lt k hk).1)⟩

/-- What the walk holds in its slots: as it came, or a row of the call's own. -/
def UintAt (w wr : World) (ao : Option Addr) (n : Nat) (xs acc : List UInt8) (v : Value) : Prop :=
  Below w.heap.size w wr ∧ ((v = .slice ao n n ∧ acc = []) ∨ (wr.ownsRow w.heap.size 5 1 v (n + acc.length) ((xs ++ acc).map by8)))

set_option maxRecDepth 10000 in
set_option maxHeartbeats 1000000 in
theorem uint_any (w : World) (ao : Option Addr) (n cap : Nat) (xs : List UInt8) (h : Row w ao n cap xs) (N : Nat) (hN : N < 18446744073709551616) (hr : n + 10 ≤ 140737488355328) :
    Calls Tryz.prog 119 #[.slice ao n cap, .int .u64 (N : Nat)] w fun e w' => ∃ v, e = .returned v ∧ w'.ownsRow w.heap.size 5 1 v (n + (enc N).length) ((xs ++ enc N).map by8) ∧ Below w.heap.size w w' := by
  have hrow : Row w ao n n xs := ⟨h.1, Nat.le_refl _, by have := h.2.1; have := h.2.2.1; omega, fun e => ⟨(h.2.2.2.1 e).1, (h.2.2.2.1 e).1⟩, h.2.2.2.2⟩
  obtain ⟨hlen, hle, hm, _, _⟩ := h
  obtain ⟨i0, hi, hz0, hz1, hz2⟩ := info_parts Tryz.info5
  go_enter Tryz.func119, Tryz.ntmps119
  go_wp2_with (first | (go_at_call 152; refine (full_any _ _ _ _ hle hm).mono ?_; rintro e w' ⟨rfl, rfl⟩))
  go_loopw [0, 1] (fun v m wr => ∃ (k c : Nat) (acc : List UInt8), k ≤ 9 ∧ c < 2 * 128 ^ (9 - k) ∧ m = .int .u64 (c : Nat) ∧ acc.length = k ∧ acc ++ encF (9 - k) c = enc N ∧ UintAt w wr ao n xs acc v) (fun _ m _ => (intOf m).toNat)
  case atStart => exact ⟨0, N, [], by omega, by omega, rfl, rfl, by simp [enc], Below.refl _ _, .inl ⟨rfl, rfl⟩⟩
  case round => 
    obtain ⟨k, c, acc, hk, hc, rfl, hacc, henc, hbel, hv⟩ := hrel
    have HE : Hid (acc ++ encF (9 - k) c = enc N) := henc
    have HC : Hid (c < 2 * 128 ^ (9 - k)) := hc
    have HL : Hid (acc.length = k) := hacc
    have hsz := hbel.size
    have hkb : acc.length ≤ 9 := by omega
    clear henc hc hacc
    by_cases hlt : c < 128
    · have HEN : Hid (enc N = acc ++ [UInt8.ofNat c]) := by have := HE.out; rw [encF_small _ _ hlt] at this; exact this.symm
      obtain ⟨y, hy⟩ : ∃ y, y = UInt8.ofNat c := ⟨_, rfl⟩
      have hy8 : Hid (by8 y = .int .u8 (c : Int)) := by show by8 y = _; rw [hy, by8, ofNat_toNat _ (by omega)]
      rw [← hy] at HEN
      clear hy
      rcases hv with ⟨rfl, rfl⟩ | hown
      · go_wp2_with (first | (at_builtin; refine wpList_append_grows _ rfl _ _ 37 rfl 5 i0 (.int .u8 0) 1 1 Tryz.underlying37 hi hz0 hz1 hz2 rfl (by decide) ao n n (xs.map by8) rfl ?c0 ?c1 ?c2 ⟨wr.heap.size, 0, none⟩ 1 1 [by8 y] rfl rfl ?c3 ?c4 ?c5 ?c6 ?c7 ?_))
        case c0 => exact hrow.2.2.2.1
        case c1 => simp [hlen]
        case c2 => exact ((hrow.below hbel (Nat.le_refl _)).below ((Below.refl _ _).alloc (Nat.le_refl _) _) (Nat.le_refl _)).olds
        case c3 => rw [hy8.out]; exact cell_one_new _ _ _
        case c4 => exact by8_one [y]
        case c5 => omega
        case c6 => unfold maxLen; omega
        case c7 => omega
        · intro v' w1 hown1 hgrow1
          have R := arg_step hbel hown1 hgrow1
          clear hown1 hgrow1
          go_wp2
          go_ret
          exact ⟨v', rfl, by rw [HEN.out]; exact R.1, R.2⟩
      · go_wp2_with (first | (at_builtin; refine wpList_append_own _ rfl _ _ 37 rfl w.heap.size 5 i0 (.int .u8 0) 1 1 Tryz.underlying37 hi hz0 hz1 hz2 rfl (by decide) u0 _ _ rfl (hown.alloc _) ⟨wr.heap.size, 0, none⟩ 1 1 [by8 y] rfl rfl ?d3 ?d4 ?d6 ?d7 ?d8 ?_))
        case d3 => rw [hy8.out]; exact cell_one_new _ _ _
        case d4 => exact by8_one [y]
        case d6 => unfold maxLen; omega
        case d7 => omega
        case d8 => simp; omega
        · intro v' w1 hown1 hgrow1 _
          have R := own_step (y := y) hbel hown (by simpa using hown1) hgrow1
          clear hown1 hgrow1
          go_wp2
          go_ret
          exact ⟨v', rfl, by rw [HEN.out]; simpa [Nat.add_assoc] using R.1, R.2⟩
    · obtain ⟨y, hy⟩ : ∃ y, y = UInt8.ofNat (c % 128 + 128) := ⟨_, rfl⟩
      have hk9 : k < 9 := by
        rcases Nat.lt_or_ge k 9 with h | h
        · exact h
        · have := HC.out
          have e : k = 9 := by omega
          subst e
          simp at this
          omega
      obtain ⟨j, hj⟩ : ∃ j, 9 - k = j + 1 := ⟨8 - k, by omega⟩
      have HEN : Hid ((acc ++ [y]) ++ encF (9 - (k + 1)) (c / 128) = enc N) := by
        have := HE.out
        rw [hj, encF_big _ _ (by omega), ← hy] at this
        show (acc ++ [y]) ++ encF (9 - (k + 1)) (c / 128) = enc N
        rw [show 9 - (k + 1) = j by omega, List.append_assoc]
        exact this
      have HCN : Hid (c / 128 < 2 * 128 ^ (9 - (k + 1))) := by
        have := HC.out
        rw [hj, Nat.pow_succ] at this
        show c / 128 < 2 * 128 ^ (9 - (k + 1))
        rw [show 9 - (k + 1) = j by omega]
        omega
      have hyv : bits .or .u8 ((c : Int) % 256) 128 = (y.toNat : Int) := by rw [hy]; exact or_128 c
      have HLN : Hid ((acc ++ [y]).length = k + 1) := by have := HL.out; show (acc ++ [y]).length = k + 1; simp [this]
      have hcd : ((c / 128 : Nat) : Int) = (c : Int) / 128 := by omega
      have HCD : Hid (((c / 128 : Nat) : Int) = (c : Int) / 128) := hcd
      clear hy hj hcd
      rcases hv with ⟨rfl, rfl⟩ | hown
      · go_wp2_with (first | (at_builtin; refine wpList_append_grows _ rfl _ _ 37 rfl 5 i0 (.int .u8 0) 1 1 Tryz.underlying37 hi hz0 hz1 hz2 rfl (by decide) ao n n (xs.map by8) rfl ?e0 ?e1 ?e2 ⟨wr.heap.size, 0, none⟩ 1 1 [by8 y] rfl rfl ?e3 ?e4 ?e5 ?e6 ?e7 ?_))
        case e0 => exact hrow.2.2.2.1
        case e1 => simp [hlen]
        case e2 => exact ((hrow.below hbel (Nat.le_refl _)).below ((Below.refl _ _).alloc (Nat.le_refl _) _) (Nat.le_refl _)).olds
        case e3 => exact cell_one_new _ _ _
        case e4 => exact by8_one [y]
        case e5 => omega
        case e6 => unfold maxLen; omega
        case e7 => omega
        · intro v' w1 hown1 hgrow1
          have R := arg_step hbel hown1 hgrow1
          clear hown1 hgrow1
          go_wp2
          go_roundw
          case rel => exact ⟨k + 1, c / 128, [y], by omega, HCN.out, by rw [HCD.out], HLN.out, HEN.out, R.2, .inr R.1⟩
          case measure => simp [intOf]; omega
      · go_wp2_with (first | (at_builtin; refine wpList_append_own _ rfl _ _ 37 rfl w.heap.size 5 i0 (.int .u8 0) 1 1 Tryz.underlying37 hi hz0 hz1 hz2 rfl (by decide) u0 _ _ rfl (hown.alloc _) ⟨wr.heap.size, 0, none⟩ 1 1 [by8 y] rfl rfl ?f3 ?f4 ?f6 ?f7 ?f8 ?_))
        case f3 => exact cell_one_new _ _ _
        case f4 => exact by8_one [y]
        case f6 => unfold maxLen; omega
        case f7 => omega
        case f8 => simp; omega
        · intro v' w1 hown1 hgrow1 _
          have R := own_step (y := y) hbel hown (by simpa using hown1) hgrow1
          clear hown1 hgrow1
          go_wp2
          go_roundw
          case rel => exact ⟨k + 1, c / 128, acc ++ [y], by omega, HCN.out, by rw [HCD.out], HLN.out, HEN.out, R.2, .inr (by simpa [Nat.add_assoc] using R.1)⟩
          case measure => simp [intOf]; omega

end Go.Proofs.YtlaihgdfedalmaaGreat.Cd
namespace Go.Proofs.YtlaihgdfedalmaaGreat.Cd
open Go.RowKit
set_option linter.unusedVariables false

set_option maxHeartbeats 400000 in
theorem bad_any (w : World) (r : Nat) (b : Bool) (h : w.cell? ⟨r, 1, none⟩ = some (.bool b)) : Calls Tryz.prog 127 #[.pointer (some ⟨r, 0, none⟩)] w fun e w' => e = .returned (.bool b) ∧ w = w' := by
  go_enter Tryz.func127, Tryz.ntmps127
  go_wp2
  go_ret
  exact ⟨rfl, rfl⟩

/-- The world behind a fault. -/
def failed (w : World) (r : Nat) : World := (w.setCell ⟨r, 0, none⟩ (.slice none 0 0)).setCell ⟨r, 1, none⟩ (.bool true)
set_option maxHeartbeats 400000 in
theorem fail_any (w : World) (r : Nat) (c0 c1 : Value) (h0 : w.cell? ⟨r, 0, none⟩ = some c0) (h1 : w.cell? ⟨r, 1, none⟩ = some c1) (f0 : w.frozen? ⟨r, 0, none⟩ = false) (f1 : w.frozen? ⟨r, 1, none⟩ = false) :
    Calls Tryz.prog 154 #[.pointer (some ⟨r, 0, none⟩)] w fun e w' => e = .returned (.tuple #[]) ∧ failed w r = w' := by
  go_enter Tryz.func154, Tryz.ntmps154
  go_wp2
  go_end0
  exact ⟨rfl, rfl⟩
set_option maxHeartbeats 400000 in
theorem left_bad (w : World) (r : Nat) (h : w.cell? ⟨r, 1, none⟩ = some (.bool true)) : Calls Tryz.prog 128 #[.pointer (some ⟨r, 0, none⟩)] w fun e w' => e = .returned (.int .i64 0) ∧ w = w' := by
  go_enter Tryz.func128, Tryz.ntmps128
  go_wp2_with (first | (go_at_call 127; refine (bad_any _ _ true h).mono ?_; rintro e w' ⟨rfl, rfl⟩))
  go_ret
  exact ⟨rfl, rfl⟩
set_option maxHeartbeats 400000 in
theorem left_good (w : World) (r : Nat) (ao : Option Addr) (n cap : Nat) (h : w.cell? ⟨r, 1, none⟩ = some (.bool false)) (h0 : w.cell? ⟨r, 0, none⟩ = some (.slice ao n cap)) :
    Calls Tryz.prog 128 #[.pointer (some ⟨r, 0, none⟩)] w fun e w' => e = .returned (.int .i64 n) ∧ w = w' := by
  go_enter Tryz.func128, Tryz.ntmps128
  go_wp2_with (first | (go_at_call 127; refine (bad_any _ _ false h).mono ?_; rintro e w' ⟨rfl, rfl⟩))
  go_ret
  exact ⟨rfl, rfl⟩
set_option maxHeartbeats 400000 in
theorem ruint_bad (w : World) (r : Nat) (h : w.cell? ⟨r, 1, none⟩ = some (.bool true)) : Calls Tryz.prog 153 #[.pointer (some ⟨r, 0, none⟩)] w fun e w' => e = .returned (.int .u64 0) ∧ w = w' := by
  go_enter Tryz.func153, Tryz.ntmps153
  go_wp2_with (first | (go_at_call 127; refine (bad_any _ _ true h).mono ?_; rintro e w' ⟨rfl, rfl⟩))
  go_ret
  exact ⟨rfl, rfl⟩
set_option maxHeartbeats 400000 in
theorem ruint_none (w : World) (r : Nat) (ao : Option Addr) (n cap : Nat) (xs : List UInt8) (h : w.cell? ⟨r, 1, none⟩ = some (.bool false)) (h0 : w.cell? ⟨r, 0, none⟩ = some (.slice ao n cap))
    (f0 : w.frozen? ⟨r, 0, none⟩ = false) (f1 : w.frozen? ⟨r, 1, none⟩ = false) (hrow : Row w ao n cap xs) (hrd : rd xs = none) :
    Calls Tryz.prog 153 #[.pointer (some ⟨r, 0, none⟩)] w fun e w' => e = .returned (.int .u64 0) ∧ failed w r = w' := by
  have hnum := number_any w ao n cap xs hrow
  simp only [hrd, rdNum, rdSize] at hnum
  go_enter Tryz.func153, Tryz.ntmps153
  go_wp2_with (first | (go_at_call 127; refine (bad_any _ _ false h).mono ?_; rintro e w' ⟨rfl, rfl⟩) | (go_at_call 173; refine hnum.mono ?_; rintro e w' ⟨rfl, rfl⟩) | (go_at_call 154; refine (fail_any _ _ _ _ h0 h f0 f1).mono ?_; rintro e w' ⟨rfl, rfl⟩))
  go_ret
  exact ⟨rfl, rfl⟩
set_option maxHeartbeats 400000 in
theorem ruint_some (w : World) (r : Nat) (ao : Option Addr) (n cap : Nat) (xs : List UInt8) (h : w.cell? ⟨r, 1, none⟩ = some (.bool false)) (h0 : w.cell? ⟨r, 0, none⟩ = some (.slice ao n cap))
    (f0 : w.frozen? ⟨r, 0, none⟩ = false) (f1 : w.frozen? ⟨r, 1, none⟩ = false) (hrow : Row w ao n cap xs) (N s : Nat) (hrd : rd xs = some (N, s)) :
    Calls Tryz.prog 153 #[.pointer (some ⟨r, 0, none⟩)] w fun e w' => e = .returned (.int .u64 N) ∧ ∃ ao' cap', w.setCell ⟨r, 0, none⟩ (.slice ao' (n - s) cap') = w' ∧ Row w ao' (n - s) cap' (xs.drop s) ∧ ∀ a', ao' = some a' → ∃ a, ao = some a ∧ a'.block = a.block := by
  have hnum := number_any w ao n cap xs hrow
  simp only [hrd, rdNum, rdSize] at hnum
  have hsz := rd_size hrd
  have hlen := hrow.1
  have hle := hrow.2.1
  have hm := hrow.2.2.1
  unfold maxLen at hm
  have hs0 : ((s : Int) == 0) = false := by simp; omega
  have hsn : s ≤ n := by omega
  have HR : Hid (Row w ao n cap xs) := hrow
  obtain ⟨b, off, rfl, _⟩ := hrow.open (by omega)
  clear hrd hrow
  by_cases hcs : cap = s
  · subst hcs
    go_enter Tryz.func153, Tryz.ntmps153
    go_wp2_with (first | (go_at_call 127; refine (bad_any _ _ false h).mono ?_; rintro e w' ⟨rfl, rfl⟩) | (go_at_call 173; refine hnum.mono ?_; rintro e w' ⟨rfl, rfl⟩))
    go_ret
    have hn0 : n - cap = 0 := by omega
    rw [hn0]
    refine ⟨rfl, _, _, rfl, ?_, fun a' e => by cases e; exact ⟨_, rfl, rfl⟩⟩
    exact ⟨by simp; omega, Nat.le_refl _, by omega, fun e => (by cases e), fun a _ i hi => absurd hi (by omega)⟩
  · have hlt : s < cap := by omega
    go_enter Tryz.func153, Tryz.ntmps153
    go_wp2_with (first | (go_at_call 127; refine (bad_any _ _ false h).mono ?_; rintro e w' ⟨rfl, rfl⟩) | (go_at_call 173; refine hnum.mono ?_; rintro e w' ⟨rfl, rfl⟩))
    go_ret
    refine ⟨rfl, _, _, rfl, ?_, fun a' e => by cases e; exact ⟨_, rfl, rfl⟩⟩
    obtain ⟨g1, g2, g3, g4, g5⟩ := HR.out
    refine ⟨by simp; omega, by omega, by unfold maxLen at g3 ⊢; omega, fun e => (by cases e), fun a ha i hi => ?_⟩
    cases ha
    have := g5 _ rfl (s + i) (by omega)
    rw [Addr.add_lit] at this ⊢
    rw [show off + s + i = off + (s + i) by omega, this]
    simp [List.getElem?_drop]

/-- What a reader holds: behind a fault nothing; else what is left. -/
def Rd (w : World) (r : Nat) : Option (List UInt8) → Prop
  | none => w.heap[r]? = some (.cells #[.slice none 0 0, .bool true] 199 (0, 0))
  | some xs => ∃ ao n cap, w.heap[r]? = some (.cells #[.slice ao n cap, .bool false] 199 (0, 0)) ∧ Row w ao n cap xs ∧ ∀ a, ao = some a → a.block < r

def rUint : Option (List UInt8) → Nat × Option (List UInt8)
  | none => (0, none)
  | some xs => match rd xs with | none => (0, none) | some (n, s) => (n, some (xs.drop s))
def rInt (st : Option (List UInt8)) (most : Int) : Nat × Option (List UInt8) :=
  match (rUint st).2 with
  | none => (0, none)
  | some ys => if most < 0 ∨ most < ((rUint st).1 : Int) then (0, none) else ((rUint st).1, some ys)
def rBytes (st : Option (List UInt8)) (most : Int) : List UInt8 × Option (List UInt8) :=
  match (rInt st most).2 with
  | none => ([], none)
  | some ys => if ys.length < (rInt st most).1 then ([], none) else (ys.take (rInt st most).1, some (ys.drop (rInt st most).1))
def rLeft : Option (List UInt8) → Nat
  | none => 0
  | some xs => xs.length

theorem Row.kept {w w' : World} {ao : Option Addr} {n cap r : Nat} {xs : List UInt8} {s : Option Addr} {m c : Nat} {b : Bool} (h : Row w ao n cap xs) (hr : w.heap[r]? = some (.cells #[.slice s m c, .bool b] 199 (0, 0)))
    (hg : w.grownBy w' (some r)) : Row w' ao n cap xs := by
  obtain ⟨h1, h2, h3, h4, h5⟩ := h
  refine ⟨h1, h2, h3, h4, fun a ha i hi => ?_⟩
  have hc := h5 a ha i hi
  have hne : (a.add i).block ≠ r := by
    intro he
    generalize a.add i = p at *
    obtain ⟨pb, po, ps⟩ := p
    have hs : ps = none := World.cell?_spot hc
    subst hs
    simp only at he
    subst he
    rw [cell_of_row w _ po _ 199 (0, 0) hr] at hc
    match po, hc with
    | 0, hc => simp at hc
    | 1, hc => simp at hc
    | k + 2, hc => simp at hc
  exact hg.cell hc (by simpa using hne)

theorem set_grown {w : World} {r i : Nat} (v : Value) : w.grownBy (w.setCell ⟨r, i, none⟩ v) (some r) :=
  ⟨rfl, rfl, rfl, by simp [World.setCell], fun k hk hne => heap_setCell_other _ _ _ _ (by simpa using hne)⟩
theorem grown_trans {a b c : World} {r : Option Nat} (h : a.grownBy b r) (k : b.grownBy c r) : a.grownBy c r :=
  ⟨k.os.trans h.os, k.tape.trans h.tape, k.output.trans h.output, Nat.le_trans h.size k.size, fun i hi hne => (k.block i (Nat.lt_of_lt_of_le hi h.size) hne).trans (h.block i hi hne)⟩
theorem grown_refl (a : World) (r : Option Nat) : a.grownBy a r := ⟨rfl, rfl, rfl, Nat.le_refl _, fun _ _ _ => rfl⟩

theorem failed_rd {w : World} {r : Nat} {s : Option Addr} {m c : Nat} {b : Bool} (hr : w.heap[r]? = some (.cells #[.slice s m c, .bool b] 199 (0, 0))) : Rd (failed w r) r none ∧ w.grownBy (failed w r) (some r) := by
  constructor
  · have h1 := heap_setCell_same w r 0 _ 199 (.slice none 0 0) hr
    have h2 := heap_setCell_same _ r 1 _ 199 (.bool true) h1
    show (failed w r).heap[r]? = _
    unfold failed
    rw [h2]
    rfl
  · exact grown_trans (set_grown _) (set_grown _)

theorem rd_cell0 {w : World} {r : Nat} {c0 c1 : Value} (hr : w.heap[r]? = some (.cells #[c0, c1] 199 (0, 0))) : w.cell? ⟨r, 0, none⟩ = some c0 ∧ w.cell? ⟨r, 1, none⟩ = some c1 ∧ w.frozen? ⟨r, 0, none⟩ = false ∧ w.frozen? ⟨r, 1, none⟩ = false := by
  refine ⟨by rw [cell_of_row w r 0 _ 199 (0, 0) hr]; rfl, by rw [cell_of_row w r 1 _ 199 (0, 0) hr]; rfl, frozen_of_row w r 0 _ 199 hr, frozen_of_row w r 1 _ 199 hr⟩

theorem Rd.bad {w : World} {r : Nat} {st : Option (List UInt8)} (h : Rd w r st) : w.cell? ⟨r, 1, none⟩ = some (.bool st.isNone) := by
  cases st with
  | none => exact (rd_cell0 h).2.1
  | some xs => obtain ⟨ao, n, cap, hr, _⟩ := h; exact (rd_cell0 hr).2.1

theorem bad_rd (w : World) (r : Nat) (st : Option (List UInt8)) (h : Rd w r st) : Calls Tryz.prog 127 #[.pointer (some ⟨r, 0, none⟩)] w fun e w' => e = .returned (.bool st.isNone) ∧ w = w' := bad_any w r _ h.bad
theorem left_rd (w : World) (r : Nat) (st : Option (List UInt8)) (h : Rd w r st) : Calls Tryz.prog 128 #[.pointer (some ⟨r, 0, none⟩)] w fun e w' => e = .returned (.int .i64 (rLeft st : Nat)) ∧ w = w' := by
  cases st with
  | none => exact left_bad w r h.bad
  | some xs =>
    obtain ⟨ao, n, cap, hr, hrow, hbl⟩ := h
    have := left_good w r ao n cap (rd_cell0 hr).2.1 (rd_cell0 hr).1
    rw [← hrow.1] at this
    rw [← hrow.1] at *
    exact this
theorem uint_rd (w : World) (r : Nat) (st : Option (List UInt8)) (h : Rd w r st) :
    Calls Tryz.prog 153 #[.pointer (some ⟨r, 0, none⟩)] w fun e w' => e = .returned (.int .u64 ((rUint st).1 : Nat)) ∧ Rd w' r (rUint st).2 ∧ w.grownBy w' (some r) := by
  cases st with
  | none =>
    refine (ruint_bad w r h.bad).mono ?_
    rintro e w' ⟨rfl, rfl⟩
    exact ⟨rfl, h, grown_refl _ _⟩
  | some xs =>
    obtain ⟨ao, n, cap, hr, hrow, hbl⟩ := h
    obtain ⟨c0, c1, f0, f1⟩ := rd_cell0 hr
    cases hrd : rd xs with
    | none =>
      refine (ruint_none w r ao n cap xs c1 c0 f0 f1 hrow hrd).mono ?_
      rintro e w' ⟨rfl, rfl⟩
      have e1 : rUint (some xs) = (0, none) := by simp only [rUint, hrd]
      rw [e1]
      exact ⟨rfl, failed_rd hr⟩
    | some p =>
      obtain ⟨N, s⟩ := p
      refine (ruint_some w r ao n cap xs c1 c0 f0 f1 hrow N s hrd).mono ?_
      rintro e w' ⟨rfl, ao', cap', rfl, hrow', hbl'⟩
      have e1 : rUint (some xs) = (N, some (xs.drop s)) := by simp only [rUint, hrd]
      rw [e1]
      refine ⟨rfl, ⟨ao', _, cap', ?_, hrow'.kept hr (set_grown _), fun a' e => by obtain ⟨a, ha, hb⟩ := hbl' a' e; rw [hb]; exact hbl a ha⟩, set_grown _⟩
      rw [heap_setCell_same w r 0 _ 199 _ hr]
      rfl

end Go.Proofs.YtlaihgdfedalmaaGreat.Cd
namespace Go.Proofs.YtlaihgdfedalmaaGreat.Cd
open Go.RowKit
set_option linter.unusedVariables false

theorem owns_row {w : World} {B : Nat} {v : Value} {n : Nat} {xs : List UInt8} (h : w.ownsRow B 5 1 v n (xs.map by8)) : ∃ ao cap, v = .slice ao n cap ∧ Row w ao n cap xs ∧ ∀ a, ao = some a → B ≤ a.block := by
  have hl : xs.length = n := by simpa using h.1
  rcases h.2 with ⟨rfl, rfl⟩ | ⟨g, cap, cur, rfl, hb, hg, hn, hc, hs, ht⟩
  · exact ⟨none, 0, rfl, ⟨hl, Nat.le_refl _, by unfold maxLen; omega, fun _ => ⟨rfl, rfl⟩, fun a ha => (by cases ha)⟩, fun a ha => (by cases ha)⟩
  · refine ⟨_, cap, rfl, ⟨hl, hn, hc, fun e => (by cases e), fun a ha i hi => ?_⟩, fun a ha => (by cases ha; exact hb)⟩
    cases ha
    have := World.ownsRow.cells h (g := g) rfl i (by8 (xs.getD i 0)) (by simp [List.getElem?_eq_getElem (show i < xs.length by omega)])
    exact this

theorem owns_lt {w : World} {B n cap : Nat} {ao : Option Addr} {xs : List Value} (h : w.ownsRow B 5 1 (.slice ao n cap) n xs) : ∀ a, ao = some a → a.block < w.heap.size := by
  intro a ha
  rcases h.2 with ⟨h0, _⟩ | ⟨g, cap', cur, h0, hb, hg, _⟩
  · cases h0; cases ha
  · subst ha
    simp only [Value.slice.injEq, Option.some.injEq] at h0
    rw [h0.1]
    exact (Array.getElem?_eq_some_iff.1 hg).1
theorem reader_at {w w1 : World} {B : Nat} {v : Value} {n : Nat} {xs : List UInt8} (hb : Below B w w1) (hs : w.heap.size ≤ w1.heap.size) (hB : B ≤ w1.heap.size) (hown : w1.ownsRow B 5 1 v n (xs.map by8)) :
    Rd (w1.alloc (.cells #[v, .bool false] 199)) w1.heap.size (some xs) ∧ Below B w (w1.alloc (.cells #[v, .bool false] 199)) := by
  obtain ⟨ao, cap, rfl, hrow, _⟩ := owns_row hown
  exact ⟨⟨ao, n, cap, heap_alloc_new _ _, hrow.below ((Below.refl _ _).alloc (Nat.le_refl _) _) (Nat.le_refl _), owns_lt hown⟩, hb.alloc hB _⟩

set_option maxHeartbeats 400000 in
theorem newReader_any (w : World) (ao : Option Addr) (n cap : Nat) (xs : List UInt8) (h : Row w ao n cap xs) (hr : n ≤ 140737488355328) :
    Calls Tryz.prog 123 #[.slice ao n cap] w fun e w' => ∃ r, e = .returned (.pointer (some ⟨r, 0, none⟩)) ∧ w.heap.size ≤ r ∧ Rd w' r (some xs) ∧ Below w.heap.size w w' := by
  obtain ⟨i0, hi, hz0, hz1, hz2⟩ := info_parts Tryz.info5
  have HR : Hid (Row w ao n cap xs) := h
  obtain ⟨hlen, hle, hm, hnone, _⟩ := h
  cases ao with
  | none =>
    obtain ⟨rfl, rfl⟩ := hnone rfl
    go_enter Tryz.func123, Tryz.ntmps123
    go_wp2
    go_ret
    have hx : xs = [] := List.eq_nil_of_length_eq_zero hlen
    subst hx
    exact ⟨_, rfl, Nat.le_refl _, reader_at (Below.refl _ _) (Nat.le_refl _) (Nat.le_refl _) (World.ownsRow_nil _ _ _ _)⟩
  | some a =>
    go_enter Tryz.func123, Tryz.ntmps123
    go_wp2_with (first | (at_builtin; refine wpList_append_own _ rfl _ _ 37 rfl w.heap.size 5 i0 (.int .u8 0) 1 1 Tryz.underlying37 hi hz0 hz1 hz2 rfl (by decide) (.slice none 0 0) 0 [] rfl (World.ownsRow_nil _ _ _ _) a n cap (xs.map by8) rfl ?f2 ?f3 ?f4 ?f6 ?f7 ?f8 ?_))
    case f2 => simp [hlen]
    case f3 => exact HR.out.olds a rfl
    case f4 => exact by8_one xs
    case f6 => unfold maxLen; omega
    case f7 => omega
    case f8 => omega
    · intro v' w1 hown1 hgrow1 _
      have hb : Below w.heap.size w w1 := (Below.refl _ _).grown hgrow1 (Nat.le_refl _) (fun k hk => by simp [Value.ownBlock] at hk)
      have hs := hb.size
      have R := reader_at hb hs hs hown1
      obtain ⟨ao', cap', hv, _, _⟩ := owns_row hown1
      rw [hv] at R ⊢
      clear hown1 hgrow1 hv
      go_wp2
      go_ret
      exact ⟨_, rfl, hs, R⟩

theorem fail_rd (w : World) (r : Nat) (ys : List UInt8) (h : Rd w r (some ys)) : Calls Tryz.prog 154 #[.pointer (some ⟨r, 0, none⟩)] w fun e w' => e = .returned (.tuple #[]) ∧ Rd w' r none ∧ w.grownBy w' (some r) := by
  obtain ⟨ao, n, cap, hr, hrow, hbl⟩ := h
  obtain ⟨c0, c1, f0, f1⟩ := rd_cell0 hr
  refine (fail_any w r _ _ c0 c1 f0 f1).mono ?_
  rintro e w' ⟨rfl, rfl⟩
  exact ⟨rfl, failed_rd hr⟩

theorem rUint_lt (st : Option (List UInt8)) : (rUint st).1 < 18446744073709551616 := by
  cases st with
  | none => simp [rUint]
  | some xs =>
    cases hrd : rd xs with
    | none => simp [rUint, hrd]
    | some p => obtain ⟨n, s⟩ := p; simpa [rUint, hrd] using rd_lt hrd

set_option maxHeartbeats 1000000 in
theorem int_rd (w : World) (r : Nat) (st : Option (List UInt8)) (h : Rd w r st) (m : Int) (hm1 : -9223372036854775808 ≤ m) (hm2 : m ≤ 9223372036854775807) :
    Calls Tryz.prog 124 #[.pointer (some ⟨r, 0, none⟩), .int .i64 m] w fun e w' => e = .returned (.int .i64 ((rInt st m).1 : Nat)) ∧ Rd w' r (rInt st m).2 ∧ w.grownBy w' (some r) := by
  have hu := uint_rd w r st h
  have hlt := rUint_lt st
  generalize hN : (rUint st).1 = N at *
  cases hst : (rUint st).2 with
  | none =>
    rw [hst] at hu
    have e1 : rInt st m = (0, none) := by simp [rInt, hst]
    rw [e1]
    clear e1 hst hN
    go_enter Tryz.func124, Tryz.ntmps124
    go_wp2_with (first | (go_at_call 153; refine hu.mono ?_; rintro e w' ⟨rfl, hrd, hg⟩) | (go_at_call 127; refine (bad_rd _ _ _ hrd).mono ?_; rintro e w' ⟨rfl, rfl⟩))
    go_ret
    exact ⟨rfl, hrd, hg⟩
  | some ys =>
    rw [hst] at hu
    by_cases hb : m < 0 ∨ m < (N : Int)
    · have e1 : rInt st m = (0, none) := by simp only [rInt, hst, hN]; rw [if_pos hb]
      rw [e1]
      clear e1 hst hN
      by_cases hm0 : m < 0
      · go_enter Tryz.func124, Tryz.ntmps124
        go_wp2_with (first | (go_at_call 153; refine hu.mono ?_; rintro e w' ⟨rfl, hrd, hg⟩) | (go_at_call 127; refine (bad_rd _ _ _ hrd).mono ?_; rintro e w' ⟨rfl, rfl⟩) | (go_at_call 154; refine (fail_rd _ _ _ hrd).mono ?_; rintro e w'' ⟨rfl, hrd2, hg2⟩))
        go_ret
        exact ⟨rfl, hrd2, grown_trans hg hg2⟩
      · have hm3 : m < (N : Int) := by omega
        have hm4 : 0 ≤ m := by omega
        go_enter Tryz.func124, Tryz.ntmps124
        go_wp2_with (first | (go_at_call 153; refine hu.mono ?_; rintro e w' ⟨rfl, hrd, hg⟩) | (go_at_call 127; refine (bad_rd _ _ _ hrd).mono ?_; rintro e w' ⟨rfl, rfl⟩) | (go_at_call 154; refine (fail_rd _ _ _ hrd).mono ?_; rintro e w'' ⟨rfl, hrd2, hg2⟩))
        go_ret
        exact ⟨rfl, hrd2, grown_trans hg hg2⟩
    · have e1 : rInt st m = (N, some ys) := by simp only [rInt, hst, hN]; rw [if_neg hb]
      rw [e1]
      clear e1 hst hN
      have hm0 : 0 ≤ m := by omega
      have hNm : (N : Int) ≤ m := by omega
      go_enter Tryz.func124, Tryz.ntmps124
      go_wp2_with (first | (go_at_call 153; refine hu.mono ?_; rintro e w' ⟨rfl, hrd, hg⟩) | (go_at_call 127; refine (bad_rd _ _ _ hrd).mono ?_; rintro e w' ⟨rfl, rfl⟩))
      go_ret
      exact ⟨rfl, hrd, hg⟩

theorem rInt_le (st : Option (List UInt8)) (m : Int) (ys : List UInt8) (h : (rInt st m).2 = some ys) : 0 ≤ m ∧ ((rInt st m).1 : Int) ≤ m := by
  unfold rInt at h ⊢
  cases hst : (rUint st).2 with
  | none => simp [hst] at h
  | some zs =>
    simp only [hst] at h ⊢
    split at h
    · simp at h
    · rename_i hn
      rw [if_neg hn]
      simp only
      omega

theorem rUint_len (st : Option (List UInt8)) (ys : List UInt8) (h : (rUint st).2 = some ys) : ∃ xs, st = some xs ∧ ys.length ≤ xs.length := by
  cases st with
  | none => simp [rUint] at h
  | some xs =>
    refine ⟨xs, rfl, ?_⟩
    unfold rUint at h
    cases hrd : rd xs with
    | none => simp [hrd] at h
    | some p => obtain ⟨n, s⟩ := p; simp [hrd] at h; subst h; simp
theorem rInt_len (st : Option (List UInt8)) (m : Int) (ys : List UInt8) (h : (rInt st m).2 = some ys) : ∃ xs, st = some xs ∧ ys.length ≤ xs.length := by
  unfold rInt at h
  cases hst : (rUint st).2 with
  | none => simp [hst] at h
  | some zs =>
    simp only [hst] at h
    split at h
    · simp at h
    · simp at h; subst h; exact rUint_len st _ hst
theorem Row.take {w : World} {ao : Option Addr} {n cap : Nat} {xs : List UInt8} (h : Row w ao n cap xs) (k : Nat) (hk : k ≤ n) : Row w ao k k (xs.take k) := by
  obtain ⟨h1, h2, h3, h4, h5⟩ := h
  refine ⟨by simp; omega, Nat.le_refl _, by omega, fun e => by have := (h4 e).1; omega, fun a ha i hi => ?_⟩
  rw [h5 a ha i (by omega)]
  simp [hi]

theorem row_empty {w : World} (a : Addr) {n : Nat} {xs : List UInt8} (h : xs.length = n) (hn : n = 0) : Row w (some a) n 0 xs := by
  subst hn
  exact ⟨h, Nat.le_refl _, by unfold maxLen; omega, fun e => (by cases e), fun a _ i hi => absurd hi (by omega)⟩
theorem Row.drop_at {w : World} {b off n cap : Nat} {xs : List UInt8} (h : Row w (some ⟨b, off, none⟩) n cap xs) (s : Nat) (hs : s ≤ n) : Row w (some ⟨b, off + s, none⟩) (n - s) (cap - s) (xs.drop s) := by
  obtain ⟨g1, g2, g3, g4, g5⟩ := h
  refine ⟨by simp; omega, by omega, by unfold maxLen at g3 ⊢; omega, fun e => (by cases e), fun a ha i hi => ?_⟩
  cases ha
  have := g5 _ rfl (s + i) (by omega)
  rw [Addr.add_lit] at this ⊢
  rw [show off + s + i = off + (s + i) by omega, this]
  simp [List.getElem?_drop]

theorem grown_none {a b : World} (r : Option Nat) (h : a.grownBy b none) : a.grownBy b r := ⟨h.os, h.tape, h.output, h.size, fun k hk _ => h.block k hk (by simp)⟩
theorem bytes_step {w w' w1 : World} {r n cap N : Nat} {ao : Option Addr} {ys : List UInt8} (hr : w'.heap[r]? = some (.cells #[.slice ao n cap, .bool false] 199 (0, 0))) (hrow : Row w' ao n cap ys) (hN : N ≤ n) (hg : w.grownBy w' (some r))
    {ao2 : Option Addr} {cap2 : Nat} (hbl2 : ∀ a, ao2 = some a → a.block < r) (hrow2 : Row w' ao2 (n - N) cap2 (ys.drop N)) {v' : Value} (hown1 : w1.ownsRow w.heap.size 5 1 v' N ((ys.take N).map by8))
    (hgrow1 : (w'.setCell ⟨r, 0, none⟩ (.slice ao2 (n - N) cap2)).grownBy w1 none) :
    w1.ownsRow w.heap.size 5 1 v' (ys.take N).length ((ys.take N).map by8) ∧ Rd w1 r (some (ys.drop N)) ∧ w.grownBy w1 (some r) := by
  have hs := heap_setCell_same w' r 0 _ 199 (.slice ao2 (n - N) cap2) hr
  have hlt : r < (w'.setCell ⟨r, 0, none⟩ (.slice ao2 (n - N) cap2)).heap.size := (Array.getElem?_eq_some_iff.1 hs).1
  refine ⟨?_, ⟨ao2, n - N, cap2, ?_, ?_, hbl2⟩, grown_trans hg (grown_trans (set_grown _) (grown_none _ hgrow1))⟩
  · rw [show (ys.take N).length = N by have := hrow.1; simp; omega]
    exact hown1
  · rw [hgrow1.block r hlt (by simp), hs]
    rfl
  · exact hrow2.kept hr (grown_trans (set_grown _) (grown_none _ hgrow1))

set_option maxHeartbeats 1000000 in
set_option maxRecDepth 10000 in
theorem bytes_rd (w : World) (r : Nat) (st : Option (List UInt8)) (h : Rd w r st) (m : Int) (hm1 : -9223372036854775808 ≤ m) (hm2 : m ≤ 9223372036854775807) (hl : ∀ xs, st = some xs → xs.length ≤ 140737488355328) :
    Calls Tryz.prog 156 #[.pointer (some ⟨r, 0, none⟩), .int .i64 m] w fun e w' => ∃ v, e = .returned v ∧ w'.ownsRow w.heap.size 5 1 v (rBytes st m).1.length ((rBytes st m).1.map by8) ∧ Rd w' r (rBytes st m).2 ∧ w.grownBy w' (some r) := by
  have hi := int_rd w r st h m hm1 hm2
  have hil := rInt_le st m
  generalize hN : (rInt st m).1 = N at *
  cases hst : (rInt st m).2 with
  | none =>
    rw [hst] at hi
    have e1 : rBytes st m = ([], none) := by simp [rBytes, hst]
    rw [e1]
    clear e1 hst hN hil
    go_enter Tryz.func156, Tryz.ntmps156
    go_wp2_with (first | (go_at_call 124; refine hi.mono ?_; rintro e w' ⟨rfl, hrd, hg⟩) | (go_at_call 127; refine (bad_rd _ _ _ hrd).mono ?_; rintro e w' ⟨rfl, rfl⟩))
    go_ret
    exact ⟨_, rfl, World.ownsRow_nil _ _ _ _, hrd, hg⟩
  | some ys =>
    rw [hst] at hi
    have hNm := hil ys hst
    have hyl : ys.length ≤ 140737488355328 := by obtain ⟨xs, e, h1⟩ := rInt_len st m ys hst; have := hl xs e; omega
    by_cases hb : ys.length < N
    · have e1 : rBytes st m = ([], none) := by simp only [rBytes, hst, hN]; rw [if_pos hb]
      rw [e1]
      clear e1 hst hN hil
      go_enter Tryz.func156, Tryz.ntmps156
      go_wp2_with (first | (go_at_call 124; refine hi.mono ?_; rintro e w' ⟨rfl, hrd, hg⟩) | (go_at_call 127; refine (bad_rd _ _ _ hrd).mono ?_; rintro e w' ⟨rfl, rfl⟩; obtain ⟨ao, n, cap, hr, hrow, hbl⟩ := id hrd; obtain ⟨c0, c1, f0, f1⟩ := rd_cell0 hr; have hyn := hrow.1; have hcm := hrow.2.1; have hcx := hrow.2.2.1) | (go_at_call 154; refine (fail_rd _ _ _ hrd).mono ?_; rintro e w'' ⟨rfl, hrd2, hg2⟩))
      go_ret
      exact ⟨_, rfl, World.ownsRow_nil _ _ _ _, hrd2, grown_trans hg hg2⟩
    · have e1 : rBytes st m = (ys.take N, some (ys.drop N)) := by simp only [rBytes, hst, hN]; rw [if_neg hb]
      rw [e1]
      clear e1 hst hN hil
      obtain ⟨i0, hi0, hz0, hz1, hz2⟩ := info_parts Tryz.info5
      go_enter Tryz.func156, Tryz.ntmps156
      go_wp2_with (first | (go_at_call 124; refine hi.mono ?_; rintro e w' ⟨rfl, hrd, hg⟩))
      obtain ⟨ao, n, cap, hr, hrow, hbl⟩ := id hrd
      obtain ⟨c0, c1, f0, f1⟩ := rd_cell0 hr
      have hyn := hrow.1
      have hcm := hrow.2.1
      have hcx := hrow.2.2.1
      unfold maxLen at hcx
      have hgs := hg.size
      cases ao with
      | none =>
        obtain ⟨rfl, rfl⟩ := hrow.2.2.2.1 rfl
        have hN0 : N = 0 := by omega
        subst hN0
        go_wp2_with (first | (go_at_call 127; refine (bad_rd _ _ _ hrd).mono ?_; rintro e w' ⟨rfl, rfl⟩))
        go_ret
        refine ⟨_, rfl, World.ownsRow_nil _ _ _ _, ⟨none, 0, 0, ?_, by simpa using hrow.kept hr (set_grown _), fun a e => by cases e⟩, grown_trans hg (set_grown _)⟩
        rw [heap_setCell_same w' r 0 _ 199 _ hr]
        rfl
      | some a =>
        by_cases hn0 : n = 0
        · subst hn0
          have hN0 : N = 0 := by omega
          subst hN0
          go_wp2_with (first | (go_at_call 127; refine (bad_rd _ _ _ hrd).mono ?_; rintro e w' ⟨rfl, rfl⟩) | (at_builtin; refine wpList_append_own _ rfl _ _ 37 rfl w.heap.size 5 i0 (.int .u8 0) 1 1 Tryz.underlying37 hi0 hz0 hz1 hz2 rfl (by decide) (.slice none 0 0) 0 [] rfl (World.ownsRow_nil _ _ _ _) a 0 0 ((ys.take 0).map by8) rfl ?a2 ?a3 ?a4 ?a6 ?a7 ?a8 ?_))
          case a2 => first | (simp; done) | (simp; omega)
          case a3 => exact ((hrow.take 0 (by omega)).kept hr (set_grown _)).olds _ rfl
          case a4 => exact by8_one _
          case a6 => unfold maxLen; omega
          case a7 => omega
          case a8 => simp; omega
          · intro v' w1 hown1 hgrow1 _
            have R := bytes_step (hbl2 := fun a' e => by cases e; have hb9 := hbl _ rfl; exact hb9) (N := 0) hr hrow (by omega) hg (ao2 := some a) (cap2 := cap) (by simpa using hrow) (by simpa using hown1) hgrow1
            clear hown1 hgrow1
            go_wp2
            go_ret
            exact ⟨_, rfl, R⟩
        · obtain ⟨b, off, hab, _⟩ := hrow.open (by omega)
          cases hab
          by_cases hN0 : N = 0
          · subst hN0
            go_wp2_with (first | (go_at_call 127; refine (bad_rd _ _ _ hrd).mono ?_; rintro e w' ⟨rfl, rfl⟩) | (at_builtin; refine wpList_append_own _ rfl _ _ 37 rfl w.heap.size 5 i0 (.int .u8 0) 1 1 Tryz.underlying37 hi0 hz0 hz1 hz2 rfl (by decide) (.slice none 0 0) 0 [] rfl (World.ownsRow_nil _ _ _ _) ⟨b, off, none⟩ 0 0 ((ys.take 0).map by8) rfl ?b2 ?b3 ?b4 ?b6 ?b7 ?b8 ?_))
            case b2 => first | (simp; done) | (simp; omega)
            case b3 => exact ((hrow.take 0 (by omega)).kept hr (set_grown _)).olds _ rfl
            case b4 => exact by8_one _
            case b6 => unfold maxLen; omega
            case b7 => omega
            case b8 => simp; omega
            · intro v' w1 hown1 hgrow1 _
              have R := bytes_step (hbl2 := fun a' e => by cases e; have hb9 := hbl _ rfl; exact hb9) (N := 0) hr hrow (by omega) hg (ao2 := some ⟨b, off, none⟩) (cap2 := cap) (by simpa using hrow) (by simpa using hown1) hgrow1
              clear hown1 hgrow1
              go_wp2
              go_ret
              exact ⟨_, rfl, R⟩
          · by_cases hcN : cap = N
            · subst hcN
              go_wp2_with (first | (go_at_call 127; refine (bad_rd _ _ _ hrd).mono ?_; rintro e w' ⟨rfl, rfl⟩) | (at_builtin; refine wpList_append_own _ rfl _ _ 37 rfl w.heap.size 5 i0 (.int .u8 0) 1 1 Tryz.underlying37 hi0 hz0 hz1 hz2 rfl (by decide) (.slice none 0 0) 0 [] rfl (World.ownsRow_nil _ _ _ _) ⟨b, off, none⟩ cap cap ((ys.take cap).map by8) rfl ?c2 ?c3 ?c4 ?c6 ?c7 ?c8 ?_))
              case c2 => first | (simp; done) | (simp; omega)
              case c3 => exact ((hrow.take cap (by omega)).kept hr (set_grown _)).olds _ rfl
              case c4 => exact by8_one _
              case c6 => unfold maxLen; omega
              case c7 => omega
              case c8 => simp; omega
              · intro v' w1 hown1 hgrow1 _
                have R := bytes_step (hbl2 := fun a' e => by cases e; have hb9 := hbl _ rfl; exact hb9) (N := cap) hr hrow (by omega) hg (ao2 := some ⟨b, off, none⟩) (cap2 := 0) (row_empty _ (by simp; omega) (by omega)) (by simpa using hown1) (by rw [show n - cap = 0 by omega]; exact hgrow1)
                clear hown1 hgrow1
                go_wp2
                go_ret
                exact ⟨_, rfl, R⟩
            · have hNc : N < cap := by omega
              go_wp2_with (first | (go_at_call 127; refine (bad_rd _ _ _ hrd).mono ?_; rintro e w' ⟨rfl, rfl⟩) | (at_builtin; refine wpList_append_own _ rfl _ _ 37 rfl w.heap.size 5 i0 (.int .u8 0) 1 1 Tryz.underlying37 hi0 hz0 hz1 hz2 rfl (by decide) (.slice none 0 0) 0 [] rfl (World.ownsRow_nil _ _ _ _) ⟨b, off, none⟩ N N ((ys.take N).map by8) rfl ?d2 ?d3 ?d4 ?d6 ?d7 ?d8 ?_))
              case d2 => first | (simp; done) | (simp; omega)
              case d3 => exact ((hrow.take N (by omega)).kept hr (set_grown _)).olds _ rfl
              case d4 => exact by8_one _
              case d6 => unfold maxLen; omega
              case d7 => omega
              case d8 => simp; omega
              · intro v' w1 hown1 hgrow1 _
                have R := bytes_step (hbl2 := fun a' e => by cases e; have hb9 := hbl _ rfl; exact hb9) (N := N) hr hrow (by omega) hg (hrow.drop_at N (by omega)) (by simpa using hown1) hgrow1
                clear hown1 hgrow1
                go_wp2
                go_ret
                exact ⟨_, rfl, R⟩

end Go.Proofs.YtlaihgdfedalmaaGreat.Cd
namespace Go.Proofs.YtlaihgdfedalmaaGreat.Cd
set_option linter.unusedVariables false

/-- The number that bytes hold, seven bits each. -/
def val : List UInt8 → Nat
  | [] => 0
  | y :: t => y.toNat % 128 + 128 * val t
end Go.Proofs.YtlaihgdfedalmaaGreat.Cd
namespace Go.Proofs.YtlaihgdfedalmaaGreat.Cd
open Go.RowKit
set_option linter.unusedVariables false

end Go.Proofs.YtlaihgdfedalmaaGreat.Cd
namespace Go.Proofs.YtlaihgdfedalmaaGreat.Cd
open Go.RowKit
set_option linter.unusedVariables false

def str (xs : List UInt8) : ByteArray := ⟨xs.toArray⟩
theorem str_of (xs : List UInt8) : (xs.map fun x => (x.toNat : Int)).foldl (fun r n => r.push (UInt8.ofNat n.toNat)) ByteArray.empty = str xs := by
  rw [foldl_push_bytes]
  simp [str, ByteArray.empty, ByteArray.emptyWithCapacity, Function.comp_def]
  try rfl
theorem conv_row {w : World} {ao : Option Addr} {n cap : Nat} {xs : List UInt8} (h : Row w ao n cap xs) : (convert 37 9 (.slice ao n cap)).run Tryz.prog w = .ok (.string (str xs)) w := by
  cases ao with
  | none =>
    have hx : xs = [] := List.eq_nil_of_length_eq_zero (by have := h.1; have := (h.2.2.2.1 rfl).1; omega)
    subst hx
    exact run_convert_bytes_nil w 37 5 Tryz.underlying37 Tryz.underlying5 _ _ 9 Tryz.underlying9
  | some a =>
    have hl : (loadCells a n).run Tryz.prog w = .ok (((xs.map fun x => (x.toNat : Int))).map (Value.int .u8)).toArray w := by
      have := run_loadCells_list (P := Tryz.prog) w a ((xs.map fun x => (x.toNat : Int)).map (Value.int .u8)) (fun j v hj => h.olds a rfl j v (by simpa [by8, Function.comp_def] using hj))
      simpa [h.1] using this
    rw [run_convert_bytes_string w 37 9 5 _ n cap Tryz.underlying37 Tryz.underlying5 Tryz.underlying9, run_bytesToString w a n cap _ hl, str_of]

end Go.Proofs.YtlaihgdfedalmaaGreat.Cd
namespace Go.Proofs.YtlaihgdfedalmaaGreat.Cd
open Go.RowKit
theorem rd_below {w w' : World} {r : Nat} {st : Option (List UInt8)} (h : Rd w r st) (hb : Below w.heap.size w w') : Rd w' r st := by
  cases st with
  | none =>
    show w'.heap[r]? = _
    rw [hb.block r (Array.getElem?_eq_some_iff.1 h).1]
    exact h
  | some xs =>
    obtain ⟨ao, n, cap, hr, hrow, hbl⟩ := h
    exact ⟨ao, n, cap, by rw [hb.block r (Array.getElem?_eq_some_iff.1 hr).1]; exact hr, hrow.below hb (Nat.le_refl _), hbl⟩
theorem Rd.lt {w : World} {r : Nat} {st : Option (List UInt8)} (h : Rd w r st) : r < w.heap.size := by
  cases st with
  | none => exact (Array.getElem?_eq_some_iff.1 h).1
  | some xs => obtain ⟨ao, n, cap, hr, _⟩ := h; exact (Array.getElem?_eq_some_iff.1 hr).1
theorem str_beq (a b : List UInt8) : ((str a).toList == (str b).toList) = decide (a = b) := by
  have h : ∀ l, (str l).toList = l := fun l => ByteArray.toList_mk l
  rw [h, h, Bool.eq_iff_iff]
  simp
end Go.Proofs.YtlaihgdfedalmaaGreat.Cd
namespace Go.Proofs.YtlaihgdfedalmaaGreat.Cd
theorem take_first {P : Program} {md : Region.Mode} {l : List Oper} {Q : Exit → Act → World → Prop} {S : World → Prop} (i : Nat) {oi : Oper} {v : Value} {fuel : Nat} {listed : Array Bool} {a : Act} {w : World} (hi : l[i]? = some oi)
    (hs : Region.noSelect l.toArray = true) (hf : Region.free md l.toArray listed i = true) (hr : (Region.ready md l.toArray listed).contains i = true)
    (hQ : ∀ c a w, Q (.panic c) (a.put oi.dst v) w → Q (.panic c) a w) (hy : YieldsIf P l.toArray S oi v a) (hS : S w)
    (h : wpAnyH P md l.toArray Q S fuel (listed.setIfInBounds i true) (a.put oi.dst v) w) : wpAnyH P md l.toArray Q S (fuel + 1) listed a w :=
  wpAnyH_take (by simpa using hi) hs hf hr hQ hy hS h
theorem comes_up {P : Program} {md : Region.Mode} {l : List Oper} {Q : Exit → Act → World → Prop} {S : World → Prop} (i : Nat) {o : Oper} {fuel : Nat} {listed : Array Bool} {a : Act} {w : World} (hi : l[i]? = some o) (hr : Region.ready md l.toArray listed = [i])
    (h : ∀ K' : Act → World → Prop, Shut (∀ a w, S w → (S w → wpAnyH P md l.toArray Q S fuel (listed.setIfInBounds i true) a w) → K' a w) → if Region.wanted o (yielded l.toArray a.tmps) = true then Oper.wp P o a w K' Q else K' (a.put o.dst undef) w) :
    wpAnyH P md l.toArray Q S (fuel + 1) listed a w :=
  wpAnyH_ready (rs := [i]) hr (by simp) (AllReadyH.cons (by simpa using hi) h AllReadyH.nil)
end Go.Proofs.YtlaihgdfedalmaaGreat.Cd
namespace Go.Proofs.YtlaihgdfedalmaaGreat.Cd
end Go.Proofs.YtlaihgdfedalmaaGreat.Cd
namespace Go.Proofs.YtlaihgdfedalmaaGreat.Cd
open Go.RowKit
set_option linter.unusedVariables false
set_option linter.unusedSimpArgs false

/-- Where the document's reader stands; none: behind a fault. -/
def atOf : Option Nat → Int
  | none => -1
  | some k => k
/-- The document's reader over bytes that came. -/
def RR (w : World) (m : Nat) (ao : Option Addr) (n cap : Nat) (o : Option Nat) : Prop :=
  w.heap[m]? = some (.cells #[.slice ao n cap, .int .i64 (atOf o)] 182 (0, 0))
theorem RR.cells {w : World} {m : Nat} {ao : Option Addr} {n cap : Nat} {o : Option Nat} (h : RR w m ao n cap o) :
    w.cell? ⟨m, 0, none⟩ = some (.slice ao n cap) ∧ w.cell? ⟨m, 1, none⟩ = some (.int .i64 (atOf o)) ∧ w.frozen? ⟨m, 0, none⟩ = false ∧ w.frozen? ⟨m, 1, none⟩ = false :=
  ⟨by rw [cell_of_row w m 0 _ 182 (0, 0) h]; rfl, by rw [cell_of_row w m 1 _ 182 (0, 0) h]; rfl, frozen_of_row w m 0 _ 182 h, frozen_of_row w m 1 _ 182 h⟩
theorem RR.set {w : World} {m : Nat} {ao : Option Addr} {n cap : Nat} {o : Option Nat} (h : RR w m ao n cap o) (o' : Option Nat) : RR (w.setCell ⟨m, 1, none⟩ (.int .i64 (atOf o'))) m ao n cap o' := by
  unfold RR
  rw [heap_setCell_same w m 1 _ 182 _ h]
  rfl
theorem RR.below {w w' : World} {m : Nat} {ao : Option Addr} {n cap : Nat} {o : Option Nat} (h : RR w m ao n cap o) (hb : Below w.heap.size w w') : RR w' m ao n cap o := by
  unfold RR
  rw [hb.block m (Array.getElem?_eq_some_iff.1 h).1]
  exact h
theorem RR.lt {w : World} {m : Nat} {ao : Option Addr} {n cap : Nat} {o : Option Nat} (h : RR w m ao n cap o) : m < w.heap.size := (Array.getElem?_eq_some_iff.1 h).1
/-- The bytes stay while the document's reader's object is written. -/
theorem row_RR {w w' : World} {m : Nat} {ao bo : Option Addr} {n cap n' cap' : Nat} {o : Option Nat} {xs : List UInt8} (h : Row w bo n' cap' xs) (hr : RR w m ao n cap o) (hg : w.grownBy w' (some m)) : Row w' bo n' cap' xs := by
  obtain ⟨h1, h2, h3, h4, h5⟩ := h
  refine ⟨h1, h2, h3, h4, fun a ha i hi => ?_⟩
  have hc := h5 a ha i hi
  have hne : (a.add i).block ≠ m := by
    intro he
    generalize a.add i = p at *
    obtain ⟨pb, po, ps⟩ := p
    have hs : ps = none := World.cell?_spot hc
    subst hs
    simp only at he
    subst he
    rw [cell_of_row w _ po _ 182 (0, 0) hr] at hc
    match po, hc with
    | 0, hc => simp at hc
    | 1, hc => simp at hc
    | k + 2, hc => simp at hc
  exact hg.cell hc (by simpa using hne)

theorem grown_of_below {w w' : World} (h : Below w.heap.size w w') (r : Option Nat) : w.grownBy w' r := ⟨h.os, h.tape, h.output, h.size, fun k hk _ => h.block k hk⟩
end Go.Proofs.YtlaihgdfedalmaaGreat.Cd
namespace Go.Proofs.YtlaihgdfedalmaaGreat.Cd
open Go.RowKit
set_option linter.unusedVariables false
set_option linter.unusedSimpArgs false

/-- The two readers stand at one place: what is left is what lies behind the place. -/
def same (xs : List UInt8) (o : Option Nat) (st : Option (List UInt8)) : Prop :=
  match o, st with
  | none, none => True
  | some k, some ys => k ≤ xs.length ∧ ys = xs.drop k
  | _, _ => False

end Go.Proofs.YtlaihgdfedalmaaGreat.Cd
namespace Go.Proofs.YtlaihgdfedalmaaGreat.Cd
open Go.RowKit
set_option linter.unusedVariables false

theorem cat_step {w wr w1 : World} {B L : Nat} {zs ys : List UInt8} {v v' : Value} (hbel : Below B w wr) (hB : B ≤ wr.heap.size) (h0 : wr.ownsRow B 5 1 v L (zs.map by8))
    (hown : w1.ownsRow B 5 1 v' (L + ys.length) (zs.map by8 ++ ys.map by8)) (hgrow : wr.grownBy w1 v.ownBlock) :
    w1.ownsRow B 5 1 v' (L + ys.length) ((zs ++ ys).map by8) ∧ Below B w w1 :=
  ⟨by simpa using hown, hbel.grown hgrow hB (fun k hk => (h0.lt k hk).1)⟩

set_option maxHeartbeats 400000 in
theorem bytes_any (w : World) (ao : Option Addr) (n cap : Nat) (xs : List UInt8) (h : Row w ao n cap xs) (bo : Option Addr) (m bcap : Nat) (ys : List UInt8) (hy : Row w bo m bcap ys) (hr : n + 10 ≤ 140737488355328) (hm : m ≤ 2000000) :
    Calls Tryz.prog 120 #[.slice ao n cap, .slice bo m bcap] w fun e w' => ∃ v, e = .returned v ∧ w'.ownsRow w.heap.size 5 1 v (n + (enc m).length + ys.length) ((xs ++ enc m ++ ys).map by8) ∧ Below w.heap.size w w' := by
  obtain ⟨i0, hi, hz0, hz1, hz2⟩ := info_parts Tryz.info5
  have hel := enc_length m
  have hyl := hy.1
  go_enter Tryz.func120, Tryz.ntmps120
  go_wp2_with fail
  refine (uint_any _ _ _ _ _ h m (by omega) hr).mono ?_
  rintro e w1 ⟨v, rfl, hown, hb⟩
  have hs := hb.size
  have hy1 := hy.below hb (Nat.le_refl _)
  cases bo with
  | none =>
    obtain ⟨rfl, rfl⟩ := hy.2.2.2.1 rfl
    have hy0 : ys = [] := List.eq_nil_of_length_eq_zero hyl
    subst hy0
    go_wp2_with (first | (at_builtin; refine wpList_append_own_none rfl _ _ 37 rfl w.heap.size 5 i0 1 Tryz.underlying37 hi v _ _ rfl hown rfl ?_))
    go_ret
    exact ⟨v, rfl, by simpa using hown, hb⟩
  | some b =>
    go_wp2_with (first | (at_builtin; refine wpList_append_own_wide _ rfl _ _ 37 rfl w.heap.size 5 i0 (.int .u8 0) 1 1 Tryz.underlying37 hi hz0 hz1 hz2 rfl (by decide) v _ _ rfl hown b m bcap (ys.map by8) rfl ?f2 ?f3 ?f4 ?f6 ?f7 ?f8 ?_))
    case f2 => simp [hyl]
    case f3 => exact hy1.olds b rfl
    case f4 => exact by8_one ys
    case f6 => unfold maxLen; omega
    case f7 => omega
    case f8 => omega
    · intro v' w2 hown2 hgrow2 _
      have R := cat_step (ys := ys) hb hs hown (by rw [hyl]; simpa using hown2) hgrow2
      clear hown2 hgrow2
      go_wp2
      go_ret
      exact ⟨v', rfl, R⟩

end Go.Proofs.YtlaihgdfedalmaaGreat.Cd

/-
  Entries: a label and a message; which of them are right.
-/
namespace Go.Proofs.YtlaihgdfedalmaaGreat
open Go.RowKit
set_option linter.unusedVariables false

theorem tq {P : Program} {md : Region.Mode} {l : List Oper} {Q : Exit → Act → World → Prop} {S : World → Prop} (i : Nat) {oi : Oper} {v : Value} {fuel : Nat} {listed : Array Bool} {a a' : Act} {w : World}
    (h : wpAnyH P md l.toArray Q S fuel (listed.setIfInBounds i true) a' w) (hi : l[i]? = some oi := by rfl) (hy : ∀ w, S w → (execOp a.eval oi).run P w = .ok (.value v) w := by intro wx hSw; (try dsimp only at hSw); (repeat (have hSx := hSw.1; replace hSw := hSw.2)); go_simp; try with_reducible rfl) (hw : Region.wanted oi (yielded l.toArray a.tmps) = true := by rfl) (hs : Region.noSelect l.toArray = true := by kernel_rfl) (hf : Region.free md l.toArray listed i = true := by kernel_rfl) (hr : (Region.ready md l.toArray listed).contains i = true := by kernel_rfl)
    (hQ : ∀ c a w, Q (.panic c) (a.put oi.dst v) w → Q (.panic c) a w := by exact fun _ _ _ h => h) (hS : S w := by assumption) (ha : a.put oi.dst v = a' := by (try simp only [Act.put, List.setIfInBounds_toArray, List.set_cons_zero, List.set_cons_succ]) <;> rfl) : wpAnyH P md l.toArray Q S (fuel + 1) listed a w :=
  take_first i hi hs hf hr hQ (.inl ⟨hw, hy⟩) hS (ha ▸ h)
theorem tqS {P : Program} {md : Region.Mode} {l : List Oper} {Q : Exit → Act → World → Prop} {S : World → Prop} (i : Nat) {oi : Oper} {fuel : Nat} {listed : Array Bool} {a a' : Act} {w : World}
    (h : wpAnyH P md l.toArray Q S fuel (listed.setIfInBounds i true) a' w) (hi : l[i]? = some oi := by rfl) (hw : Region.wanted oi (yielded l.toArray a.tmps) = false := by rfl) (hs : Region.noSelect l.toArray = true := by kernel_rfl) (hf : Region.free md l.toArray listed i = true := by kernel_rfl) (hr : (Region.ready md l.toArray listed).contains i = true := by kernel_rfl)
    (hQ : ∀ c a w, Q (.panic c) (a.put oi.dst undef) w → Q (.panic c) a w := by exact fun _ _ _ h => h) (hS : S w := by assumption) (ha : a.put oi.dst undef = a' := by (try simp only [Act.put, List.setIfInBounds_toArray, List.set_cons_zero, List.set_cons_succ]) <;> rfl) : wpAnyH P md l.toArray Q S (fuel + 1) listed a w :=
  take_first i hi hs hf hr hQ (.inr ⟨hw, rfl⟩) hS (ha ▸ h)

/-- An entry as a value: the label, and where its message lies. -/
def ent (x : Lb) (s : Value) : Value := .agg #[.int .u64 (x.1 : Nat), .int .i64 x.2.1, .int .u64 (x.2.2.1 : Nat), .int .i64 x.2.2.2, s]
/-- An entry in a block of its own. -/
def Ex (B : Nat) (x : Lb) (s : Value) (w : World) : Prop :=
  w.cell? ⟨B, 0, none⟩ = some (.int .u64 (x.1 : Nat)) ∧ w.cell? ⟨B, 1, none⟩ = some (.int .i64 x.2.1) ∧ w.cell? ⟨B, 2, none⟩ = some (.int .u64 (x.2.2.1 : Nat)) ∧ w.cell? ⟨B, 3, none⟩ = some (.int .i64 x.2.2.2) ∧ w.cell? ⟨B, 4, none⟩ = some s
theorem ex_new (w : World) (x : Lb) (s : Value) (t : TypeId) : Ex w.heap.size x s (w.alloc (.cells #[.int .u64 (x.1 : Nat), .int .i64 x.2.1, .int .u64 (x.2.2.1 : Nat), .int .i64 x.2.2.2, s] t)) :=
  ⟨cell_box w _ t 0 _ rfl, cell_box w _ t 1 _ rfl, cell_box w _ t 2 _ rfl, cell_box w _ t 3 _ rfl, cell_box w _ t 4 _ rfl⟩
theorem bl_cell {w w' : World} (u : Below w.heap.size w w') {a : Addr} {v : Value} (h : w.cell? a = some v) : w'.cell? a = some v := (u.cell (World.block_lt_of_cell? w _ h)).trans h
theorem Ex.bl {B : Nat} {x : Lb} {s : Value} {w w' : World} (h : Ex B x s w) (u : Below w.heap.size w w') : Ex B x s w' :=
  ⟨bl_cell u h.1, bl_cell u h.2.1, bl_cell u h.2.2.1, bl_cell u h.2.2.2.1, bl_cell u h.2.2.2.2⟩
theorem Ex.lt {B : Nat} {x : Lb} {s : Value} {w : World} (h : Ex B x s w) : B < w.heap.size := World.block_lt_of_cell? w _ h.1
def formE (x : Lb) (n : Nat) : Bool := formL x && decide (n ≤ 64)
set_option maxRecDepth 10000 in
set_option maxHeartbeats 1000000 in
theorem formE_any (w : World) (x : Lb) (ao : Option Addr) (n cap : Nat) : Calls Tryz.prog 97 #[ent x (.slice ao n cap)] w fun e w' => e = .returned (.bool (formE x n)) ∧ Up w w' := by
  have c1 := fun W => formL_any W x
  have up0 : Up w (w.alloc (.cells #[.int .u64 (x.1 : Nat), .int .i64 x.2.1, .int .u64 (x.2.2.1 : Nat), .int .i64 x.2.2.2, .slice ao n cap] 41)) := (Up.refl _).alloc _
  have ex0 := ex_new w x (.slice ao n cap) 41
  unfold formE
  obtain ⟨a, b, c, d⟩ := x
  unfold lab at c1
  unfold ent
  simp only at c1 up0 ex0 ⊢
  cases hf : formL (a, b, c, d) with
  | false =>
    rw [hf] at c1
    simp only [Bool.false_and]
    obtain ⟨x0, x1, x2, x3, x4⟩ := ex0
    go_enter Tryz.func97, Tryz.ntmps97
    go_wp2_with fail
    refine (c1 _).mono ?_
    rintro e w1 ⟨rfl, hb⟩
    have up1 := up0.trans hb
    clear hb c1 up0 x0 x1 x2 x3 x4
    go_wp2
    go_ret
    exact ⟨rfl, up1⟩
  | true =>
    rw [hf] at c1
    simp only [Bool.true_and]
    obtain ⟨x0, x1, x2, x3, x4⟩ := id ex0
    go_enter Tryz.func97, Tryz.ntmps97
    go_wp2_with fail
    refine (c1 _).mono ?_
    rintro e w1 ⟨rfl, hb⟩
    have up1 := up0.trans hb
    obtain ⟨y0, y1, y2, y3, y4⟩ := ex0.bl hb.bl
    clear hb c1 up0 x0 x1 x2 x3 x4 ex0
    go_wp2
    go_ret
    exact ⟨ret_bool (by simp [*] <;> omega), up1⟩
end Go.Proofs.YtlaihgdfedalmaaGreat

/-
  Sets of nodes (package ident), and the document's.
-/
namespace Go.Proofs.YtlaihgdfedalmaaGreat
open Go.RowKit
set_option linter.unusedVariables false

/-- How many of the first f bits are 1. -/
def cntF : Nat → Nat → Nat
  | 0, _ => 0
  | f + 1, n => n % 2 + cntF f (n / 2)

theorem cntF_add : ∀ a b n, cntF (a + b) n = cntF a n + cntF b (n / 2 ^ a)
  | 0, b, n => by simp [cntF]
  | a + 1, b, n => by
    rw [Nat.add_right_comm, cntF, cntF, cntF_add a b (n / 2), Nat.div_div_eq_div_mul, Nat.pow_succ, Nat.mul_comm 2]
    omega
theorem cntF_mod : ∀ a n, cntF a (n % 2 ^ a) = cntF a n
  | 0, n => rfl
  | a + 1, n => by
    have h1 : n % 2 ^ (a + 1) % 2 = n % 2 := by rw [Nat.pow_succ, Nat.mul_comm]; exact Nat.mod_mul_right_mod n 2 (2 ^ a)
    have h2 : n % 2 ^ (a + 1) / 2 = n / 2 % 2 ^ a := by rw [Nat.pow_succ, Nat.mul_comm]; exact Nat.mod_mul_right_div_self n 2 (2 ^ a)
    rw [cntF, cntF, h1, h2, cntF_mod a (n / 2)]
theorem cntF_split (n : Nat) : cntF 16 n = cntF 8 (n / 256) + cntF 8 (n % 256) := by
  have h1 : cntF 16 n = cntF 8 n + cntF 8 (n / 256) := cntF_add 8 8 n
  have h2 : cntF 8 (n % 256) = cntF 8 n := cntF_mod 8 n
  omega
theorem cntF_le : ∀ f n, cntF f n ≤ f
  | 0, n => Nat.le_refl _
  | f + 1, n => by have := cntF_le f (n / 2); rw [cntF]; omega
/-- The nodes of a set below k, rising. -/
def nodes (s : Nat) (k : Nat) : List Nat := (List.range k).filter (fun i => s.testBit i)
/-- How many bits each byte has. -/
def tab : ByteArray := ⟨((List.range 256).map (fun k => UInt8.ofNat (cntF 8 k))).toArray⟩
theorem tab_all : ∀ i : Fin 256, (tab.data[i.val]?).map UInt8.toNat = some (cntF 8 i.val) := by decide +kernel
theorem tab_at {T : ByteArray} (hT : T = tab) {i : Nat} (h : i < T.size) (k : Nat) (e : i = k) (hk : k < 256) : T[i].toNat = cntF 8 k := by
  subst hT
  subst e
  have ha := tab_all ⟨i, hk⟩
  have hs : i < tab.data.size := h
  simp only [Array.getElem?_eq_getElem hs, Option.map_some, Option.some.injEq] at ha
  exact ha

set_option maxRecDepth 10000 in
theorem ones_any (w : World) (s : Nat) (hs : s < 65536) : Calls Tryz.prog 145 #[.int .u16 (s : Nat)] w fun e w' => e = .returned (.int .i64 (cntF 16 s : Nat)) ∧ ∃ q, w' = w.drewN q := by
  have ha : bits .and .u16 (s : Int) 255 = ((s % 256 : Nat) : Int) := by
    have := u16_and_nat s 255 hs (by omega)
    rw [show s &&& 255 = s % 256 by exact Nat.and_two_pow_sub_one_eq_mod s 8] at this
    exact this
  have hl1 := cntF_le 8 (s / 256)
  have hl2 := cntF_le 8 (s % 256)
  have HS : Hid (cntF 16 s = cntF 8 (s / 256) + cntF 8 (s % 256)) := cntF_split s
  go_enter Tryz.func145, Tryz.ntmps145
  go_wp2_with fail
  refine wp_region_noPanic ?_
  refine wp_region_held_drew (S := fun wx => True) (by kernel_rfl) trivial (fun hHeld => ?_)
  refine take_first 0 (v := ?_) rfl (by kernel_rfl) (by kernel_rfl) (by kernel_rfl) (fun _ _ _ h => h) (Or.inl ⟨by rfl, by intro wx hSw; go_simp; try with_reducible rfl⟩) trivial ?_
  (try simp only [Act.put, List.setIfInBounds_toArray, List.set_cons_zero, List.set_cons_succ])
  refine take_first 1 (v := .int .u16 ((s / 256 : Nat) : Int)) rfl (by kernel_rfl) (by kernel_rfl) (by kernel_rfl) (fun _ _ _ h => h) (Or.inl ⟨by rfl, by intro wx hSw; go_simp⟩) trivial ?_
  (try simp only [Act.put, List.setIfInBounds_toArray, List.set_cons_zero, List.set_cons_succ])
  refine take_first 2 (v := .int .u8 ((cntF 8 (s / 256) : Nat) : Int)) rfl (by kernel_rfl) (by kernel_rfl) (by kernel_rfl) (fun _ _ _ h => h) (Or.inl ⟨by rfl, by
    intro wx hSw
    go_simp
    rw [dif_pos (by omega), Result.andThen_ok, tab_at (by kernel_rfl) _ (s / 256) (by omega) (by omega)]⟩) trivial ?_
  (try simp only [Act.put, List.setIfInBounds_toArray, List.set_cons_zero, List.set_cons_succ])
  refine take_first 3 (v := ?_) rfl (by kernel_rfl) (by kernel_rfl) (by kernel_rfl) (fun _ _ _ h => h) (Or.inl ⟨by rfl, by intro wx hSw; go_simp; try with_reducible rfl⟩) trivial ?_
  (try simp only [Act.put, List.setIfInBounds_toArray, List.set_cons_zero, List.set_cons_succ])
  refine take_first 4 (v := .int .u16 ((s % 256 : Nat) : Int)) rfl (by kernel_rfl) (by kernel_rfl) (by kernel_rfl) (fun _ _ _ h => h) (Or.inl ⟨by rfl, by intro wx hSw; go_simp⟩) trivial ?_
  (try simp only [Act.put, List.setIfInBounds_toArray, List.set_cons_zero, List.set_cons_succ])
  refine take_first 5 (v := .int .u8 ((cntF 8 (s % 256) : Nat) : Int)) rfl (by kernel_rfl) (by kernel_rfl) (by kernel_rfl) (fun _ _ _ h => h) (Or.inl ⟨by rfl, by
    intro wx hSw
    go_simp
    rw [dif_pos (by omega), Result.andThen_ok, tab_at (by kernel_rfl) _ (s % 256) (by omega) (by omega)]⟩) trivial ?_
  (try simp only [Act.put, List.setIfInBounds_toArray, List.set_cons_zero, List.set_cons_succ])
  generalize cntF 8 (s / 256) = c1 at *
  generalize cntF 8 (s % 256) = c2 at *
  refine take_first 6 (v := .int .u8 ((c1 : Int) + c2)) rfl (by kernel_rfl) (by kernel_rfl) (by kernel_rfl) (fun _ _ _ h => h) (Or.inl ⟨by rfl, by intro wx hSw; go_simp; exact IntWalk.u8_in _ (by omega)⟩) trivial ?_
  (try simp only [Act.put, List.setIfInBounds_toArray, List.set_cons_zero, List.set_cons_succ])
  refine take_first 7 (v := .int .i64 ((c1 : Int) + c2)) rfl (by kernel_rfl) (by kernel_rfl) (by kernel_rfl) (fun _ _ _ h => h) (Or.inl ⟨by rfl, by intro wx hSw; go_simp; exact IntWalk.i64_in _ (by omega)⟩) trivial ?_
  (try simp only [Act.put, List.setIfInBounds_toArray, List.set_cons_zero, List.set_cons_succ])
  refine take_first 8 (v := ?_) rfl (by kernel_rfl) (by kernel_rfl) (by kernel_rfl) (fun _ _ _ h => h) (Or.inl ⟨by rfl, by intro wx hSw; go_simp; try with_reducible rfl⟩) trivial ?_
  (try simp only [Act.put, List.setIfInBounds_toArray, List.set_cons_zero, List.set_cons_succ])
  refine wpAnyH_done (by kernel_rfl) ?_ _
  refine NoPanic.normal ?_
  go_wp2
  go_ret
  exact ⟨ret_int (by rw [HS.out]; rfl), 1, rfl⟩

theorem count_any (w : World) (s : Nat) (hs : s < 65536) : Calls Tryz.prog 112 #[.int .u16 (s : Nat)] w fun e w' => e = .returned (.int .i64 (cntF 16 s : Nat)) ∧ ∃ q, w' = w.drewN q := by
  go_enter Tryz.func112, Tryz.ntmps112
  go_wp2_with fail
  refine (ones_any w s hs).mono ?_
  rintro e w1 ⟨rfl, q, rfl⟩
  go_wp2
  go_ret
  exact ⟨rfl, q, rfl⟩

/-- The set of one node. -/
def onlyN (i : Int) : Nat := if 0 ≤ i ∧ i < 16 then 2 ^ i.toNat else 0
theorem onlyN_lt (i : Int) : onlyN i < 65536 := by
  unfold onlyN
  split
  · have h := Nat.pow_le_pow_right (show 0 < 2 by omega) (show i.toNat ≤ 15 by omega)
    omega
  · omega

theorem wrap_pow (n : Nat) (h : n < 16) : IntKind.u16.wrap ((2 : Int) ^ n) = ((2 ^ n : Nat) : Int) := by
  have h2 := Nat.pow_le_pow_right (show 0 < 2 by omega) (show n ≤ 15 by omega)
  have e : ((2 ^ n : Nat) : Int) = (2 : Int) ^ n := by simp
  rw [← e]
  have hp : ∀ m : Nat, m ≤ 2 ^ 15 → IntKind.u16.wrap (m : Int) = m := fun m hm => IntWalk.u16_in _ (by omega)
  exact hp _ h2

set_option maxRecDepth 10000 in
theorem only_any (w : World) (i : Int) : Calls Tryz.prog 91 #[.int .i64 i] w fun e w' => e = .returned (.int .u16 (onlyN i : Nat)) ∧ w = w' := by
  by_cases h0 : i < 0
  · have HO : Hid (onlyN i = 0) := by unfold Hid onlyN; rw [if_neg (by omega)]
    go_enter Tryz.func91, Tryz.ntmps91
    go_wp2
    go_ret
    exact ⟨ret_int (by rw [HO.out]; rfl), rfl⟩
  · by_cases h1 : i < 16
    · have HO : Hid (onlyN i = 2 ^ i.toNat) := by unfold Hid onlyN; rw [if_pos (by omega)]
      have h2 := Nat.pow_le_pow_right (show 0 < 2 by omega) (show i.toNat ≤ 15 by omega)
      obtain ⟨n, rfl⟩ : ∃ n : Nat, i = n := ⟨i.toNat, by omega⟩
      rw [Int.toNat_natCast] at HO h2
      go_enter Tryz.func91, Tryz.ntmps91
      go_wp2
      go_ret
      exact ⟨ret_int (by rw [HO.out]; exact wrap_pow n (by omega)), rfl⟩
    · have HO : Hid (onlyN i = 0) := by unfold Hid onlyN; rw [if_neg (by omega)]
      go_enter Tryz.func91, Tryz.ntmps91
      go_wp2
      go_ret
      exact ⟨ret_int (by rw [HO.out]; rfl), rfl⟩

theorem and_pow (s k : Nat) : s &&& 2 ^ k = if s.testBit k then 2 ^ k else 0 := by
  apply Nat.eq_of_testBit_eq
  intro j
  rw [Nat.testBit_and, Nat.testBit_two_pow]
  by_cases h : k = j
  · subst h
    cases hb : s.testBit k <;> simp [Nat.testBit_two_pow_self]
  · have h1 : decide (k = j) = false := by simpa using h
    rw [h1, Bool.and_false]
    split
    · rw [Nat.testBit_two_pow, h1]
    · simp

/-- Is a node in a set? -/
def hasN (s : Nat) (i : Int) : Bool := decide (0 ≤ i) && decide (i < 16) && s.testBit i.toNat
theorem has_num (s : Nat) (hs : s < 65536) (i : Int) : (bits .and .u16 (s : Int) (onlyN i : Nat) != 0) = hasN s i := by
  rw [u16_and_nat s (onlyN i) hs (onlyN_lt i)]
  unfold hasN onlyN
  by_cases h : 0 ≤ i ∧ i < 16
  · rw [if_pos h]
    simp only [h.1, h.2, decide_true, Bool.true_and]
    rw [and_pow]
    have h2 := Nat.two_pow_pos i.toNat
    generalize 2 ^ i.toNat = m at *
    cases s.testBit i.toNat
    · simp
    · simp; omega
  · rw [if_neg h]
    by_cases h0 : 0 ≤ i
    · simp [h0, show ¬ i < 16 by omega]
    · simp [h0]

theorem has_any (w : World) (s : Nat) (hs : s < 65536) (i : Int) : Calls Tryz.prog 51 #[.int .u16 (s : Nat), .int .i64 i] w fun e w' => e = .returned (.bool (hasN s i)) ∧ w = w' := by
  have HH : Hid ((bits .and .u16 (s : Int) (onlyN i : Nat) != 0) = hasN s i) := has_num s hs i
  have ho := only_any w i
  generalize onlyN i = o at *
  go_enter Tryz.func51, Tryz.ntmps51
  go_wp2_with fail
  refine ho.mono ?_
  rintro e w1 ⟨rfl, rfl⟩
  go_wp2
  go_ret
  exact ⟨ret_bool (by rw [← HH.out]), rfl⟩

def withN (s : Nat) (i : Int) : Nat := s ||| onlyN i
theorem with_any (w : World) (s : Nat) (hs : s < 65536) (i : Int) : Calls Tryz.prog 108 #[.int .u16 (s : Nat), .int .i64 i] w fun e w' => e = .returned (.int .u16 (withN s i : Nat)) ∧ w = w' := by
  have ho := only_any w i
  have e := u16_or_nat s (onlyN i) hs (onlyN_lt i)
  unfold withN
  generalize onlyN i = o at *
  generalize s ||| o = r at *
  go_enter Tryz.func108, Tryz.ntmps108
  go_wp2_with fail
  refine ho.mono ?_
  rintro e w1 ⟨rfl, rfl⟩
  go_wp2
  go_ret
  exact ⟨rfl, rfl⟩
end Go.Proofs.YtlaihgdfedalmaaGreat

/-
  A set of labels: a map from labels to nothing.
  What package label's among tells: whether a label is one of a list.
  slices.IndexFunc and slices.DeleteFunc of labels, at what among tells.
  slices.DeleteFunc of labels, at what among tells: those that are not in the set.
  slices.SortFunc of Go's library, at this program: its functions are those of the library's contract.
  slices.SortFunc of labels by label.Compare: the same labels, none ahead of a lesser one.
  slices.Compact of labels: of neighbours that are one, one.
  Sort and Twice of package label.
  slices.Grow and slices.Concat of labels.
  Behind of package label.
-/
namespace Go.Proofs.YtlaihgdfedalmaaGreat.Q
open Go.RowKit Go.Sort
open Go.Maps (Keyed has size Tidy IsMap)
set_option linter.unusedVariables false

theorem row26 : (39 : TypeId) < Tryz.prog.types.size := of_decide_eq_true (by kernel_rfl)
theorem wide26 : (match Tryz.prog.underlying 39 with | some (.array _ _) | some (.struct _) => true | _ => false) = true := by kernel_rfl
theorem kta26 : Tryz.prog.keyTypeAt 3 39 = true := by kernel_rfl
set_option maxRecDepth 100000 in
theorem law26 : WideMaps.KeyLaw Tryz.prog 39 := deep_law_laid laidOut (m := 3) (by omega) row26 kta26 wide26
theorem keyed26 : Keyed Tryz.prog 39 := Keyed.of_law law26
theorem und83 : Tryz.prog.underlying 96 = some (.map 39 139) := by kernel_rfl
theorem zero84 (w : World) : (zeroValue 139).run Tryz.prog w = .ok (.agg #[]) w := by kernel_rfl
theorem kt26 : Tryz.prog.keyType 39 = true := by kernel_rfl
theorem tsz : Tryz.prog.types.size + 1 = 258 + 3 := by kernel_rfl

theorem lits22 (d : Nat) {n : Nat} (h : n < 18446744073709551616) : Tryz.prog.keyLits (d + 1) 31 [.int .u64 (n : Nat)] = some [.int .u64 (n : Nat)] := by
  unfold Program.keyLits; rw [Tryz.underlying31]; simp [wf_u64 h]
theorem lits3 (d : Nat) {p : Int} (h : In p) : Tryz.prog.keyLits (d + 1) 3 [.int .i64 p] = some [.int .i64 p] := by
  unfold Program.keyLits; rw [Tryz.underlying3]; simp [wf_i64 h]
theorem lits24 (d : Nat) {n : Nat} {p : Int} (hn : n < 18446744073709551616) (hp : In p) : Tryz.prog.keyLits (d + 2) 33 [.int .u64 (n : Nat), .int .i64 p] = some [.int .u64 (n : Nat), .int .i64 p] := by
  have h1 := lits22 d hn
  have h2 := lits3 d hp
  unfold Program.keyLits
  rw [Tryz.underlying33]
  simp [cells24, cells22, cells3, h1, h2]
theorem lits26 (d : Nat) {x : Lb} (h : OkL x) : Tryz.prog.keyLits (d + 3) 39 [.int .u64 (x.1 : Nat), .int .i64 x.2.1, .int .u64 (x.2.2.1 : Nat), .int .i64 x.2.2.2] = some [.int .u64 (x.1 : Nat), .int .i64 x.2.1, .int .u64 (x.2.2.1 : Nat), .int .i64 x.2.2.2] := by
  have h1 := lits24 d h.1 h.2.1
  have h2 := lits22 (d + 1) h.2.2.1
  have h3 := lits3 (d + 1) h.2.2.2
  unfold Program.keyLits
  rw [Tryz.underlying39]
  simp [cells26, cells24, cells22, cells3, h1, h2, h3]
theorem key26 {x : Lb} (h : OkL x) : ∃ k, keyOf Tryz.prog 39 (lab x) = some k := by
  unfold keyOf lab
  rw [Tryz.underlying39]
  simp only [kt26, Value.formed, Tryz.underlying39, cells26, Value.cells, tsz]
  simp [lits26 258 h]

/-- Block b is a set of labels. -/
def SetIs (w : World) (b n : Nat) (ls : List Lb) : Prop :=
  ∃ D : DataW Unit, w.ownsMap Tryz.prog 39 unitElem b n D ∧ ∀ x k, OkL x → keyOf Tryz.prog 39 (lab x) = some k → has D k = decide (x ∈ ls)
theorem SetIs.lt {w : World} {b n : Nat} {ls : List Lb} (h : SetIs w b n ls) : b < w.heap.size := by
  obtain ⟨D, h, _⟩ := h; exact h.lt
theorem SetIs.of_block {w w' : World} {b n : Nat} {ls : List Lb} (h : SetIs w b n ls) (hb : w'.heap[b]? = w.heap[b]?) : SetIs w' b n ls := by
  obtain ⟨D, ⟨es, clock, hb', r⟩, h2⟩ := h
  exact ⟨D, ⟨es, clock, by rw [hb]; exact hb', r⟩, h2⟩
theorem set_made (w : World) : SetIs (w.alloc (.map #[] 0)) w.heap.size 0 [] := ⟨.map [], World.ownsMap_made w Tryz.prog 39 unitElem, fun x k hx hk => by simp [has]⟩
theorem SetIs.look {w : World} {b n : Nat} {ls : List Lb} (h : SetIs w b n ls) {x : Lb} (hx : OkL x) :
    (Instr.lookup 96 (.map (some b)) (lab x) true).run Tryz.prog w = .ok (.tuple #[.agg #[], .bool (decide (x ∈ ls))]) w := by
  obtain ⟨D, ho, hD⟩ := h
  obtain ⟨k, hk⟩ := key26 hx
  obtain ⟨v, ps, hrun, hv⟩ := ho.look_ok keyed26 und83 (zero84 w) unitElem_mk hk
  rw [hrun, (unitElem_inv hv).1, hD x k hx hk]
theorem lab_inj {x y : Lb} (h : lab x = lab y) : x = y := by
  unfold lab at h
  simp at h
  obtain ⟨a1, a2, a3, a4⟩ := h
  exact Prod.ext (by omega) (Prod.ext a2 (Prod.ext (by omega) a4))
theorem SetIs.store {w : World} {b n : Nat} {ls : List Lb} (h : SetIs w b n ls) (hn : n < maxLen) {x : Lb} (hx : OkL x) :
    ∃ w', (Instr.mapUpdate 96 (.map (some b)) (lab x) (.agg #[])).run Tryz.prog w = .ok () w' ∧ SetIs w' b (n + 1) (x :: ls) ∧ w.grownBy w' (some b) := by
  obtain ⟨D, ho, hD⟩ := h
  obtain ⟨k, hk⟩ := key26 hx
  obtain ⟨w', hrun, ho', hg⟩ := ho.update keyed26 und83 hn hk unitElem_mk
  refine ⟨w', hrun, ⟨_, ho', fun y ky hy hky => ?_⟩, hg⟩
  by_cases e : y = x
  · subst e
    obtain rfl : k = ky := by rw [hk] at hky; exact Option.some.inj hky
    rw [Maps.has_put_same ho.isMap (keyed26.key hk)]
    simp
  · have hne : ky ≠ k := fun he => e (lab_inj (keyed26.inj (he ▸ hky) hk))
    rw [Maps.has_put_other hne, hD y ky hy hky]
    simp [e]
end Go.Proofs.YtlaihgdfedalmaaGreat.Q
namespace Go.Proofs.YtlaihgdfedalmaaGreat.Q
open Go.RowKit Go.Sort
set_option linter.unusedVariables false

theorem run_makeMap_hint (n : Int) (w : World) : (Instr.makeMap 96 (some (.int .i64 n))).run Tryz.prog w = .ok (.map (some w.heap.size)) (w.alloc (.map #[] 0)) := by
  unfold Instr.makeMap
  simp [go_sem, asInt, newObj]
  rfl

set_option maxRecDepth 10000 in
set_option maxHeartbeats 1000000 in
theorem among_any (w : World) (ao : Option Addr) (n cap : Nat) (ls : List Lb) (h : LR w ao n ls) (hok : ∀ x ∈ ls, OkL x) (hn : n < 4294967296) :
    Calls Tryz.prog 166 #[.slice ao n cap] w fun e w' => ∃ B m k ls', e = .returned (.func (.func 177) #[] #[.pointer (some ⟨B, 0, none⟩)]) ∧ w.heap.size ≤ B ∧ w.heap.size ≤ m ∧ w'.cell? ⟨B, 0, none⟩ = some (.map (some m)) ∧ SetIs w' m k ls' ∧ (∀ x, x ∈ ls' ↔ x ∈ ls) ∧ Below w.heap.size w w' := by
  have hl := h.1
  have hmm := fun W => run_makeMap_hint (n : Int) W
  go_enter Tryz.func166, Tryz.ntmps166
  go_wp2_with fail
  go_loopw [11] (fun iv wr => ∃ k : Nat, k ≤ n ∧ iv = .int .i64 k ∧ wr.cell? ⟨w.heap.size + 1, 0, none⟩ = some (.map (some w.heap.size)) ∧ (∃ ls', SetIs wr w.heap.size k ls' ∧ ∀ x, x ∈ ls' ↔ x ∈ ls.take k) ∧ Below w.heap.size w wr) (fun iv _ => n - (intOf iv).toNat)
  case atStart =>
    refine ⟨0, by omega, rfl, ?_, ⟨[], ?_, by simp⟩, bl2 _ _ _⟩
    · simp
    · exact (set_made w).of_block (Below.heap_alloc _ _ _ (by simp))
  case round =>
    obtain ⟨k, hk, rfl, hB, ⟨ls', hS, hmem⟩, hb⟩ := hrel
    by_cases hlt : k < n
    · have hltI : (k : Int) < (n : Int) := by omega
      obtain ⟨y, hy⟩ : ∃ y, ls[k]? = some y := ⟨ls[k]'(by omega), List.getElem?_eq_getElem (by omega)⟩
      obtain ⟨b, off, hao, hc⟩ := (h.up hb).2.2 (by omega)
      obtain ⟨c0, c1, c2, c3⟩ := hc k y hy
      have hyok := hok y (List.mem_of_getElem? hy)
      have hS1 : SetIs (wr.alloc (.cells #[.int .u64 (y.1 : Nat), .int .i64 y.2.1, .int .u64 (y.2.2.1 : Nat), .int .i64 y.2.2.2] 39)) w.heap.size k ls' := hS.of_block (Below.heap_alloc _ _ _ hS.lt)
      obtain ⟨w2, hrun, hS2, hg2⟩ := hS1.store (by unfold maxLen; omega) hyok
      unfold lab at hrun
      have hBlt := World.block_lt_of_cell? wr _ hB
      have hB2 : w2.cell? ⟨w.heap.size + 1, 0, none⟩ = some (.map (some w.heap.size)) := hg2.cell ((((Below.refl _ wr).alloc (Nat.le_refl _) _).cell hBlt).trans hB) (by simp)
      have hb2 : Below w.heap.size w w2 := bl_grown (hb.alloc hb.size _) (by have := hb.size; simp; omega) hg2 (fun j hj => by cases hj; exact Nat.le_refl _)
      have HM : Hid (∀ x, x ∈ y :: ls' ↔ x ∈ ls.take (k + 1)) := by
        intro x
        rw [List.take_add_one, hy]
        simp [hmem x, or_comm]
      have d0 : (wr.alloc (.cells #[.int .u64 (y.1 : Nat), .int .i64 y.2.1, .int .u64 (y.2.2.1 : Nat), .int .i64 y.2.2.2] 39)).cell? ⟨w.heap.size + 1, 0, none⟩ = some (.map (some w.heap.size)) := (((Below.refl _ wr).alloc (Nat.le_refl _) _).cell hBlt).trans hB
      subst hao
      clear hc hy hS hmem hS1 hg2 hyok hb hB h hok hmm
      have hk0 : ¬ ((k : Int) < 0) := by omega
      go_wp2
      go_roundw
      case rel => first | exact ⟨k + 1, by omega, by go_num, hB2, ⟨_, hS2, HM.out⟩, hb2⟩ | ((repeat apply Exists.intro); exact ⟨⟨k + 1, by omega, by go_num, hB2, ⟨_, hS2, HM.out⟩, hb2⟩, rfl⟩)
      case measure => simp [intOf]; omega
    · obtain rfl : k = n := by omega
      rw [List.take_of_length_le (by omega)] at hmem
      clear h hok hmm
      go_wp2
      go_ret
      exact ⟨_, _, _, _, rfl, by omega, Nat.le_refl _, hB, hS, hmem, hb⟩

set_option maxRecDepth 10000 in
/-- What is asked of the set: is a label in it? -/
theorem closure_any (w : World) (B m k : Nat) (ls : List Lb) (hB : w.cell? ⟨B, 0, none⟩ = some (.map (some m))) (hS : SetIs w m k ls) (x : Lb) (hx : OkL x) :
    Calls Tryz.prog 177 #[lab x, .pointer (some ⟨B, 0, none⟩)] w fun e w' => e = .returned (.bool (decide (x ∈ ls))) ∧ Up w w' := by
  have hlk : (Instr.lookup 96 (.map (some m)) (lab x) true).run Tryz.prog (w.alloc (.cells #[.int .u64 (x.1 : Nat), .int .i64 x.2.1, .int .u64 (x.2.2.1 : Nat), .int .i64 x.2.2.2] 39)) = _ := (hS.of_block (Below.heap_alloc _ _ _ hS.lt)).look hx
  have d0 : (w.alloc (.cells #[.int .u64 (x.1 : Nat), .int .i64 x.2.1, .int .u64 (x.2.2.1 : Nat), .int .i64 x.2.2.2] 39)).cell? ⟨B, 0, none⟩ = some (.map (some m)) := (((Below.refl _ w).alloc (Nat.le_refl _) _).cell (World.block_lt_of_cell? w _ hB)).trans hB
  unfold lab at *
  generalize decide (x ∈ ls) = r at *
  clear hS hB
  go_enter Tryz.func177, Tryz.ntmps177
  go_wp2
  go_ret
  exact ⟨rfl, ((Up.refl _).alloc _).alloc _⟩
end Go.Proofs.YtlaihgdfedalmaaGreat.Q
namespace Go.Proofs.YtlaihgdfedalmaaGreat.Q
open Go.RowKit Go.Sort
set_option linter.unusedVariables false

set_option maxRecDepth 10000 in
set_option maxHeartbeats 1000000 in
theorem indexFunc_any (w : World) (ao : Option Addr) (n cap : Nat) (ls : List Lb) (h : LR w ao n ls) (hok : ∀ x ∈ ls, OkL x) (B m k0 : Nat) (S : List Lb) (hB : w.cell? ⟨B, 0, none⟩ = some (.map (some m))) (hS : SetIs w m k0 S) :
    Calls Tryz.prog 172 #[.slice ao n cap, .func (.func 177) #[] #[.pointer (some ⟨B, 0, none⟩)]] w fun e w' => ((e = .returned (.int .i64 (-1)) ∧ ∀ x ∈ ls, x ∉ S) ∨ ∃ i y, i < n ∧ e = .returned (.int .i64 (i : Nat)) ∧ (∀ x ∈ ls.take i, x ∉ S) ∧ ls[i]? = some y ∧ y ∈ S) ∧ Up w w' := by
  have hl := h.1
  have hmax := h.2.1
  go_enter Tryz.func172, Tryz.ntmps172
  go_wp2_with fail
  go_loopw [5, 8] (fun _ iv wr => ∃ k : Nat, k ≤ n ∧ iv = .int .i64 k ∧ (∀ x ∈ ls.take k, x ∉ S) ∧ Up w wr) (fun _ iv _ => n - (intOf iv).toNat)
  case atStart => exact ⟨0, by omega, rfl, by simp, Up.refl _⟩
  case round =>
    obtain ⟨k, hk, rfl, hno, hu⟩ := hrel
    have HN : Hid (∀ x ∈ ls.take k, x ∉ S) := hno
    clear hno
    by_cases hlt : k < n
    · have hltI : (k : Int) < (n : Int) := by omega
      obtain ⟨y, hy⟩ : ∃ y, ls[k]? = some y := ⟨ls[k]'(by omega), List.getElem?_eq_getElem (by omega)⟩
      obtain ⟨b, off, hao, hc⟩ := (h.up hu.bl).2.2 (by omega)
      obtain ⟨c0, c1, c2, c3⟩ := hc k y hy
      have HY : Hid (ls[k]? = some y) := hy
      have hcl := closure_any wr B m k0 S (hu.cell hB) (hS.of_block (hu.bl.block m hS.lt)) y (hok y (List.mem_of_getElem? hy))
      unfold lab at hcl
      subst hao
      clear hc hy h hok hS hB
      have hk0 : ¬ ((k : Int) < 0) := by omega
      cases hd : decide (y ∈ S) with
      | true =>
        rw [hd] at hcl
        have hin : y ∈ S := by simpa using hd
        clear hd
        go_wp2_with fail
        refine hcl.mono ?_
        rintro e w1 ⟨rfl, hb1⟩
        have hu1 := hu.trans hb1
        clear hcl c0 c1 c2 c3 hb1
        go_wp2
        go_ret
        exact ⟨Or.inr ⟨k, y, hlt, rfl, HN.out, HY.out, hin⟩, hu1⟩
      | false =>
        rw [hd] at hcl
        have hin : y ∉ S := by simpa using hd
        have HN' : Hid (∀ x ∈ ls.take (k + 1), x ∉ S) := by
          intro x hx
          rw [List.take_add_one, HY.out] at hx
          simp at hx
          rcases hx with hx | rfl
          · exact HN.out x hx
          · exact hin
        clear hd
        go_wp2_with fail
        refine hcl.mono ?_
        rintro e w1 ⟨rfl, hb1⟩
        have hu1 := hu.trans hb1
        clear hcl c0 c1 c2 c3 hb1
        go_wp2
        go_roundw
        case rel => first | exact ⟨k + 1, by omega, by go_num, HN'.out, hu1⟩ | ((repeat apply Exists.intro); exact ⟨⟨k + 1, by omega, by go_num, HN'.out, hu1⟩, rfl⟩)
        case measure => simp [intOf]; omega
    · obtain rfl : k = n := by omega
      clear h hok hS hB
      go_wp2
      go_ret
      refine ⟨Or.inl ⟨rfl, ?_⟩, hu⟩
      have := HN.out
      rwa [List.take_of_length_le (by omega)] at this
end Go.Proofs.YtlaihgdfedalmaaGreat.Q
namespace Go.Proofs.YtlaihgdfedalmaaGreat.Q
open Go.RowKit Go.Sort
set_option linter.unusedVariables false

set_option maxRecDepth 10000 in
set_option maxHeartbeats 2000000 in
theorem deleteFunc_some (w : World) (g n cap base : Nat) (ls : List Lb) (hown : w.ownsRow base 39 4 (.slice (some ⟨g, 0, none⟩) n cap) n (flat ls)) (hok : ∀ x ∈ ls, OkL x) (B m k0 : Nat) (S : List Lb) (hB : w.cell? ⟨B, 0, none⟩ = some (.map (some m))) (hS : SetIs w m k0 S) (hgB : g ≠ B) (hgm : g ≠ m) :
    Calls Tryz.prog 164 #[.slice (some ⟨g, 0, none⟩) n cap, .func (.func 177) #[] #[.pointer (some ⟨B, 0, none⟩)]] w fun e w' => ∃ v', e = .returned v' ∧ w'.ownsRow base 39 4 v' (out S ls).length (flat (out S ls)) ∧ w.grownBy w' (some g) := by
  obtain ⟨ao, cap', hv, hLR⟩ := LR.own hown
  simp only [Value.slice.injEq] at hv
  obtain ⟨rfl, _, rfl⟩ := hv
  have hl := hLR.1
  have hmax := hLR.2.1
  obtain ⟨hblk, hbg, hnc, hcm⟩ := Blk.ofOwn hown
  have hix := indexFunc_any w (some ⟨g, 0, none⟩) n cap ls hLR hok B m k0 S hB hS
  have HOWN : Hid (w.ownsRow base 39 4 (.slice (some ⟨g, 0, none⟩) n cap) n (flat ls)) := hown
  have HBLK : Hid (Blk w g cap ls) := hblk
  clear hown hblk hLR
  have hwide : cap ≤ 9223372036854775807 := by unfold maxLen at hcm; omega
  go_enter Tryz.func164, Tryz.ntmps164
  go_wp2_with fail
  refine hix.mono ?_
  rintro e w1 ⟨⟨rfl, hno⟩ | ⟨i0, y0, hi0, rfl, hno, hy0, hin0⟩, hu1⟩
  · have HE : Hid (w1.ownsRow base 39 4 (.slice (some ⟨g, 0, none⟩) n cap) (out S ls).length (flat (out S ls)) ∧ w.grownBy w1 (some g)) := by
      refine ⟨?_, gr_below hu1.bl _⟩
      rw [out_none hno, hl]
      exact (HBLK.out.up hu1.bl).own hbg hcm n (by omega) |> fun h => by rwa [List.take_of_length_le (by omega)] at h
    clear hix hno hS hB
    go_wp2
    go_ret
    exact ⟨_, rfl, HE.out⟩
  · have H0 : Hid (ls.take i0 = out S (ls.take (i0 + 1))) := by
      show _ = _
      rw [out_step hy0, out_none hno]
      simp [hin0]
    have hnm1 : ((i0 : Int) == -1) = false := by simp
    clear hno hix hin0 hy0
    have hb1 := HBLK.out.up hu1.bl
    go_wp2_with fail
    go_loopw [5, 6, 7] (fun iv jv _ wr => ∃ (i j : Nat) (cur : List Lb), iv = .int .i64 i ∧ jv = .int .i64 j ∧ i < j ∧ j ≤ n ∧ Blk wr g cap cur ∧ cur.length = n ∧ cur.take i = out S (ls.take j) ∧ cur.drop j = ls.drop j ∧ w.grownBy wr (some g)) (fun _ jv _ _ => n - (intOf jv).toNat)
    case atStart => exact ⟨i0, i0 + 1, ls, rfl, by go_num, by omega, by omega, hb1, hl, H0.out, rfl, gr_below hu1.bl _⟩
    case round =>
      obtain ⟨i, j, cur, rfl, rfl, hij, hj, hblk, hcl, htk, hdr, hgr⟩ := hrel
      have HTK : Hid (cur.take i = out S (ls.take j)) := htk
      have HDR : Hid (cur.drop j = ls.drop j) := hdr
      clear htk hdr
      by_cases hlt : j < n
      · have hltI : (j : Int) < (n : Int) := by omega
        obtain ⟨x, hx⟩ : ∃ y, ls[j]? = some y := ⟨ls[j]'(by omega), List.getElem?_eq_getElem (by omega)⟩
        have hx' : cur[j]? = some x := by
          have h1 : (cur.drop j)[0]? = (ls.drop j)[0]? := by rw [HDR.out]
          simpa [hx] using h1
        obtain ⟨c0, c1, c2, c3⟩ := hblk.cell hx'
        have HX : Hid (ls[j]? = some x) := hx
        have hBr := hgr.cell hB (by simp; omega)
        have hSr : SetIs wr m k0 S := hS.of_block (hgr.block m hS.lt (by simp; omega))
        have ua : Up wr (wr.alloc (.cells #[.int .u64 (x.1 : Nat), .int .i64 x.2.1, .int .u64 (x.2.2.1 : Nat), .int .i64 x.2.2.2] 39)) := (Up.refl _).alloc _
        have hclo := closure_any (wr.alloc (.cells #[.int .u64 (x.1 : Nat), .int .i64 x.2.1, .int .u64 (x.2.2.1 : Nat), .int .i64 x.2.2.2] 39)) B m k0 S (ua.cell hBr) (hSr.of_block (ua.bl.block m hSr.lt)) x (hok x (List.mem_of_getElem? hx))
        unfold lab at hclo
        have HDR' : Hid (cur.drop (j + 1) = ls.drop (j + 1)) := by
          show _ = _
          rw [← List.drop_drop, ← List.drop_drop, HDR.out]
        have HST : Hid (out S (ls.take (j + 1)) = out S (ls.take j) ++ (if decide (x ∈ S) then [] else [x])) := out_step hx
        clear hx hx' hSr hBr
        have hj0 : ¬ ((j : Int) < 0) := by omega
        have hi0' : ¬ ((i : Int) < 0) := by omega
        have hin' : (i : Int) < (n : Int) := by omega
        cases hd : decide (x ∈ S) with
        | true =>
          rw [hd] at hclo HST
          clear hd
          go_wp2_with fail
          refine hclo.mono ?_
          rintro e w2 ⟨rfl, hu2⟩
          have hu3 := ua.trans hu2
          have hb3 := hblk.up hu3.bl
          have hg3 := gr_trans hgr (gr_below hu3.bl _)
          have HT : Hid (cur.take i = out S (ls.take (j + 1))) := by
            show _ = _
            rw [HST.out, HTK.out]; simp
          clear hclo ua c0 c1 c2 c3 hu2 hu3 hblk hgr HST HTK
          go_wp2
          go_roundw
          case rel => first | exact ⟨i, j + 1, cur, rfl, by go_num, by omega, by omega, hb3, hcl, HT.out, HDR'.out, hg3⟩ | ((repeat apply Exists.intro); exact ⟨⟨i, j + 1, cur, rfl, by go_num, by omega, by omega, hb3, hcl, HT.out, HDR'.out, hg3⟩, rfl⟩)
          case measure => simp [intOf]; omega
        | false =>
          rw [hd] at hclo HST
          clear hd
          go_wp2_with fail
          refine hclo.mono ?_
          rintro e w2 ⟨rfl, hu2⟩
          have hu3 := ua.trans hu2
          have hb3 := hblk.up hu3.bl
          have hg3 := gr_trans hgr (gr_below hu3.bl _)
          obtain ⟨w4, hst, hb4, hg4⟩ := hb3.set (i := i) (by omega) x
          have hg5 := gr_trans hg3 hg4
          have hbx := (bx_new wr x.1 x.2.1 x.2.2.1 x.2.2.2 39).up hu2
          obtain ⟨d0, d1, d2, d3⟩ := hbx
          have HT : Hid ((cur.set i x).take (i + 1) = out S (ls.take (j + 1))) := by
            show _ = _
            rw [HST.out, ← HTK.out, List.take_add_one]
            have : (cur.set i x)[i]? = some x := by rw [List.getElem?_set_self (by omega)]
            rw [this, List.take_set_of_le (Nat.le_refl _)]
            simp
          have HD2 : Hid ((cur.set i x).drop (j + 1) = ls.drop (j + 1)) := by
            show _ = _
            rw [List.drop_set_of_lt (by omega)]
            exact HDR'.out
          have hcl2 : (cur.set i x).length = n := by simpa using hcl
          clear hclo ua c0 c1 c2 c3 hu2 hu3 hblk hgr HST HTK hb3 hg3 hg4 HDR'
          go_wp2_with (first | (refine wpList_store_cells rfl 39 (.tmp 33) (.tmp 32) rfl ⟨g, i * 4, none⟩ #[.int .u64 (x.1 : Nat), .int .i64 x.2.1, .int .u64 (x.2.2.1 : Nat), .int .i64 x.2.2.2] rfl rfl info26 w4 hst ?_))
          go_roundw
          case rel => first | exact ⟨i + 1, j + 1, cur.set i x, by go_num, by go_num, by omega, by omega, hb4, hcl2, HT.out, HD2.out, hg5⟩ | ((repeat apply Exists.intro); exact ⟨⟨i + 1, j + 1, cur.set i x, by go_num, by go_num, by omega, by omega, hb4, hcl2, HT.out, HD2.out, hg5⟩, rfl⟩)
          case measure => simp [intOf]; omega
      · obtain rfl : j = n := by omega
        have e : cur.take i = out S ls := by have := HTK.out; rwa [List.take_of_length_le (l := ls) (by omega)] at this
        obtain ⟨w4, hst, hb4, hg4⟩ := hblk.clear (i := i) (n := j - i) (by omega) (by omega) (cap - i) 0
        have hi0' : ¬ ((i : Int) < 0) := by omega
        have hlen : (out S ls).length = i := by rw [← e, List.length_take]; omega
        have HE : Hid (w4.ownsRow base 39 4 (.slice (some ⟨g, 0, none⟩) i cap) (out S ls).length (flat (out S ls)) ∧ w.grownBy w4 (some g)) := by
          refine ⟨?_, gr_trans hgr hg4⟩
          have := hb4.own hbg hcm i (by rw [List.length_take]; omega)
          rw [e, List.take_of_length_le (by omega)] at this
          rw [hlen]; exact this
        clear hblk hgr hg4 hb4 hS hB hok HTK HDR hlen
        go_wp2
        go_ret
        exact ⟨_, rfl, HE.out⟩
end Go.Proofs.YtlaihgdfedalmaaGreat.Q
namespace Go.Proofs.YtlaihgdfedalmaaGreat.Q
open Go.Shelf
def sortL_ren : Go.Shelf.Ren := ⟨fun | 6 => 175 | 15 => 183 | 14 => 182 | 28 => 193 | 29 => 194 | 20 => 185 | 21 => 186 | 22 => 187 | 23 => 188 | 24 => 189 | 25 => 190 | 26 => 191 | 27 => 192 | 46 => 196 | 47 => 197 | 48 => 198 | 49 => 199 | 50 => 200 | 57 => 201 | n => n, fun | 22 => 43 | 24 => 39 | 25 => 213 | 3 => 3 | 39 => 197 | 0 => 0 | 53 => 236 | 55 => 31 | 4 => 4 | 46 => 229 | 45 => 228 | 50 => 233 | 5 => 5 | 9 => 9 | 66 => 237 | 70 => 240 | 76 => 242 | 77 => 243 | n => n, fun | n => n⟩
theorem sortL : Go.Proofs.SlLaysF0.n6 Tryz.prog sortL_ren := {
  mixed := by kernel_rfl
  f6 := ⟨Tryz.f175.name, by decide, Tryz.func175.trans (congrArg some (by kernel_rfl))⟩
  f14 := ⟨Tryz.f182.name, by decide, Tryz.func182.trans (congrArg some (by kernel_rfl))⟩
  f15 := Tryz.func183.trans (congrArg some (by kernel_rfl))
  f20 := ⟨Tryz.f185.name, by decide, Tryz.func185.trans (congrArg some (by kernel_rfl))⟩
  f21 := ⟨Tryz.f186.name, by decide, Tryz.func186.trans (congrArg some (by kernel_rfl))⟩
  f22 := ⟨Tryz.f187.name, by decide, Tryz.func187.trans (congrArg some (by kernel_rfl))⟩
  f23 := ⟨Tryz.f188.name, by decide, Tryz.func188.trans (congrArg some (by kernel_rfl))⟩
  f24 := ⟨Tryz.f189.name, by decide, Tryz.func189.trans (congrArg some (by kernel_rfl))⟩
  f25 := ⟨Tryz.f190.name, by decide, Tryz.func190.trans (congrArg some (by kernel_rfl))⟩
  f26 := ⟨Tryz.f191.name, by decide, Tryz.func191.trans (congrArg some (by kernel_rfl))⟩
  f27 := ⟨Tryz.f192.name, by decide, Tryz.func192.trans (congrArg some (by kernel_rfl))⟩
  f28 := Tryz.func193.trans (congrArg some (by kernel_rfl))
  f29 := Tryz.func194.trans (congrArg some (by kernel_rfl))
  f46 := ⟨Tryz.f196.name, by decide, Tryz.func196.trans (congrArg some (by kernel_rfl))⟩
  f47 := Tryz.func197.trans (congrArg some (by kernel_rfl))
  f48 := Tryz.func198.trans (congrArg some (by kernel_rfl))
  f49 := ⟨Tryz.f199.name, by decide, Tryz.func199.trans (congrArg some (by kernel_rfl))⟩
  f50 := ⟨Tryz.f200.name, by decide, Tryz.func200.trans (congrArg some (by kernel_rfl))⟩
  f57 := ⟨Tryz.f201.name, by decide, Tryz.func201.trans (congrArg some (by kernel_rfl))⟩
  t0 := Tryz.underlying0
  a0 := Tryz.isAgg0
  z0 := Tryz.sizeOf0
  v0 := Tryz.zeroValue0
  t3 := Tryz.underlying3
  a3 := Tryz.isAgg3
  z3 := Tryz.sizeOf3
  v3 := Tryz.zeroValue3
  t4 := Tryz.underlying4
  a4 := Tryz.isAgg4
  z4 := Tryz.sizeOf4
  v4 := Tryz.zeroValue4
  t5 := Tryz.underlying5
  a5 := Tryz.isAgg5
  z5 := Tryz.sizeOf5
  v5 := Tryz.zeroValue5
  t9 := Tryz.underlying9
  a9 := Tryz.isAgg9
  z9 := Tryz.sizeOf9
  v9 := Tryz.zeroValue9
  t22 := Tryz.underlying43
  a22 := Tryz.isAgg43
  z22 := Tryz.sizeOf43
  v22 := Tryz.zeroValue43
  t25 := Tryz.underlying213
  a25 := Tryz.isAgg213
  z25 := Tryz.sizeOf213
  v25 := Tryz.zeroValue213
  t39 := Tryz.underlying197
  a39 := Tryz.isAgg197
  z39 := Tryz.sizeOf197
  v39 := Tryz.zeroValue197
  t45 := Tryz.underlying228
  a45 := Tryz.isAgg228
  z45 := Tryz.sizeOf228
  v45 := Tryz.zeroValue228
  t46 := Tryz.underlying229
  a46 := Tryz.isAgg229
  z46 := Tryz.sizeOf229
  v46 := Tryz.zeroValue229
  t50 := Tryz.underlying233
  a50 := Tryz.isAgg233
  z50 := Tryz.sizeOf233
  v50 := Tryz.zeroValue233
  t53 := Tryz.underlying236
  a53 := Tryz.isAgg236
  z53 := Tryz.sizeOf236
  v53 := Tryz.zeroValue236
  t55 := Tryz.underlying31
  a55 := Tryz.isAgg31
  z55 := Tryz.sizeOf31
  v55 := Tryz.zeroValue31
  t66 := Tryz.underlying237
  a66 := Tryz.isAgg237
  z66 := Tryz.sizeOf237
  v66 := Tryz.zeroValue237
  t70 := Tryz.underlying240
  a70 := Tryz.isAgg240
  z70 := Tryz.sizeOf240
  v70 := Tryz.zeroValue240
  t76 := Tryz.underlying242
  a76 := Tryz.isAgg242
  z76 := Tryz.sizeOf242
  v76 := Tryz.zeroValue242
  t77 := Tryz.underlying243
  a77 := Tryz.isAgg243
  z77 := Tryz.sizeOf243
  v77 := Tryz.zeroValue243 }
end Go.Proofs.YtlaihgdfedalmaaGreat.Q
namespace Go.Proofs.YtlaihgdfedalmaaGreat.Q
open Go.RowKit Go.Shelf Go.Lib Go.Sort
set_option linter.unusedVariables false

/-- Is a label less than another one? -/
def ltL (x y : Lb) : Prop := x.1 < y.1 ∨ x.1 = y.1 ∧ (x.2.1 < y.2.1 ∨ x.2.1 = y.2.1 ∧ (x.2.2.1 < y.2.2.1 ∨ x.2.2.1 = y.2.2.1 ∧ x.2.2.2 < y.2.2.2))
theorem cmpL_lt (x y : Lb) : cmpL x y < 0 ↔ ltL x y := by
  obtain ⟨n1, p1, s1, q1⟩ := x
  obtain ⟨n2, p2, s2, q2⟩ := y
  unfold cmpL cmpV sgn ltL
  simp only
  repeat' split
  all_goals omega
theorem ltL_irr (x : Lb) : ¬ ltL x x := by unfold ltL; omega
theorem ltL_trans {x y z : Lb} (h : ltL x y) (k : ltL y z) : ltL x z := by unfold ltL at *; omega
theorem ltL_ntrans {x y z : Lb} (h : ¬ ltL x y) (k : ¬ ltL y z) : ¬ ltL x z := by unfold ltL at *; omega
theorem ltL_tri {x y : Lb} (h : ¬ ltL x y) (k : ¬ ltL y x) : x = y := by
  obtain ⟨n1, p1, s1, q1⟩ := x
  obtain ⟨n2, p2, s2, q2⟩ := y
  unfold ltL at *
  simp only [Prod.mk.injEq] at *
  omega
theorem ltC (x y : Lb) : ltOf cmpL x y = true ↔ ltL x y := by unfold ltOf; rw [← cmpL_lt]; simp
theorem ltC' (x y : Lb) : ltOf cmpL x y = false ↔ ¬ ltL x y := by rw [← ltC]; simp
theorem swoL : SWO (ltOf cmpL) where
  irrefl x := (ltC' _ _).2 (ltL_irr x)
  trans x y z h1 h2 := (ltC _ _).2 (ltL_trans ((ltC _ _).1 h1) ((ltC _ _).1 h2))
  ntrans x y z h1 h2 := (ltC' _ _).2 (ltL_ntrans ((ltC' _ _).1 h1) ((ltC' _ _).1 h2))

theorem flatK_flat (d : Array Lb) : flatK cellsL 4 d = (flat d.toList).toArray := by
  refine ext_get! (by simp [flat_len]) fun t ht => ?_
  have ht' : t < d.size * 4 := by simpa using ht
  rw [get_flatK _ _ _ t ht']
  have hd : t / 4 < d.size := by omega
  have hg := flat_get d.toList (t / 4) d[t / 4] (t % 4) (by simp [hd]) (by omega)
  rw [show 4 * (t / 4) + t % 4 = t by omega] at hg
  rw [getElem!_pos d _ hd]
  have hlt : t % 4 < (cellsL d[t / 4]).length := by simp [cellsL]; omega
  rw [List.getElem?_eq_getElem hlt] at hg
  rw [getElem!_pos (cellsL d[t / 4]) _ hlt]
  obtain ⟨h1, h2⟩ := List.getElem?_eq_some_iff.1 hg
  have h3 : t < (flat d.toList).toArray.size := by simpa using h1
  rw [getElem!_pos _ t h3]
  simpa using h2.symm
theorem put_flat (d : Array Lb) (ls : List Lb) (r : List Value) (h : d.size = ls.length) : putCells id 0 (flat d.toList).toArray (flat ls ++ r).toArray = (flat d.toList ++ r).toArray := by
  have e3 : (flat d.toList).length = (flat ls).length := by rw [flat_len, flat_len, Array.length_toList, h]
  apply Array.ext_getElem?
  intro i
  unfold putCells
  rw [Array.getElem?_mapIdx]
  simp only [List.getElem?_toArray, List.size_toArray, Nat.zero_le, true_and, Nat.zero_add, Nat.sub_zero, id]
  by_cases hi : i < (flat d.toList).length
  · rw [List.getElem?_append_left hi, List.getElem?_eq_getElem (by rw [List.length_append]; omega), Option.map_some, if_pos hi, List.getElem?_eq_getElem hi]
    have h3 : i < (flat d.toList).toArray.size := by simpa using hi
    rw [getElem!_pos _ i h3]
    simp
  · rw [List.getElem?_append_right (by omega), List.getElem?_append_right (by omega), show (flat ls).length = (flat d.toList).length by omega]
    cases r[i - (flat d.toList).length]? with
    | none => rfl
    | some u => simp only [Option.map_some, if_neg hi]

theorem cmpLays12 (blk off size : Nat) (w : World) : CmpLays Tryz.prog 170 #[] cellsL 4 cmpL blk off size w :=
  fun _ _ _ _ x y => (compareL_any _ x y).mono fun e w' ⟨he, hu⟩ => ⟨he, hu.grow⟩

set_option maxRecDepth 10000 in
set_option maxHeartbeats 1000000 in
theorem sortF_blk (w : World) (g cap n : Nat) (ls : List Lb) (hb : Blk w g cap ls) (hn : ls.length = n) (hlen : n < 4611686018427387904) :
    Calls Tryz.prog 175 #[.slice (some ⟨g, 0, none⟩) n cap, .func (.func 170) #[] #[]] w fun e w' => e = .returned (.tuple #[]) ∧ ∃ ls', ls'.Perm ls ∧ ls'.Pairwise (fun x y => ¬ ltL y x) ∧ Blk w' g cap ls' ∧ w.grownBy w' (some g) := by
  have hglt := hb.lt
  obtain ⟨r, h1, h2⟩ := hb
  have hH : HoldsK cellsL 4 w g 0 ls.toArray := by
    intro j hj
    rw [flatK_flat] at hj ⊢
    have hj' : j < (flat ls).length := by simpa using hj
    refine ⟨?_, by simp [World.frozen?, h1]⟩
    rw [getElem!_pos _ j hj]
    unfold World.cell?
    rw [h1]
    simp only [List.getElem?_toArray, Nat.zero_add]
    rw [List.getElem?_append_left hj', List.getElem?_eq_getElem hj']
    simp
  have eg : ∀ args w, (callFunc 170 args).run Tryz.prog w = .ok (.enter 170 args) w := enters_of Tryz.func170 (by kernel_rfl) rfl
  have hS := AnyQ.slices_SortFunc sortL 4 Tryz.isAgg39 Tryz.sizeOf39 cellsL (fun _ => rfl) (fun x v hv => by simp [cellsL] at hv; rcases hv with rfl | rfl | rfl | rfl <;> rfl) cmpL swoL 170 #[] g 0 cap ls.toArray w eg (cmpLays12 g 0 _ w) hH hglt (by simpa [hn] using hlen)
  have hsz : ls.toArray.size = n := by simpa using hn
  rw [hsz] at hS
  change Calls Tryz.prog 175 _ _ _ at hS
  refine hS.mono ?_
  rintro e w' ⟨rfl, d', q, os, hperm, hsort, rfl⟩
  have hd's : d'.size = n := by rw [hperm.1]; exact hsz
  have hP : d'.toList.Perm ls := by
    have := hperm.2.2
    rw [show d'.extract 0 n = d' by rw [← hd's]; simp, show ls.toArray.extract 0 n = ls.toArray by rw [← hsz]; simp] at this
    simpa using this
  refine ⟨rfl, d'.toList, hP, ?_, ⟨r, ?_, ?_⟩, ?_⟩
  · rw [List.pairwise_iff_getElem]
    intro a b ha hb hab
    have ha' : a < d'.size := by simpa using ha
    have hb' : b < d'.size := by simpa using hb
    have := hsort a b (Nat.zero_le _) hab (by omega)
    rw [getElem!_pos _ a ha', getElem!_pos _ b hb'] at this
    simpa using (ltC' _ _).1 this
  · unfold sortWorldK
    rw [heap_grow_old _ _ (by simpa [putRowK, putRow, mapBlock, Sort.ahead] using hglt)]
    unfold putRowK putRow
    rw [flatK_flat]
    simp only [mapBlock, Sort.ahead, Array.getElem?_modify, h1, if_true, Option.map_some, onCells]
    rw [put_flat d' ls r (by omega)]
  · rw [← h2, List.length_append, List.length_append, flat_len, flat_len, Array.length_toList]; omega
  · refine ⟨rfl, rfl, rfl, by simp [sortWorldK, putRowK, putRow, mapBlock, Sort.ahead, Sort.grow], fun k hk hne => ?_⟩
    unfold sortWorldK
    rw [heap_grow_old _ _ (by simpa [putRowK, putRow, mapBlock, Sort.ahead] using hk)]
    have hkg : ¬ g = k := fun e => hne (by rw [e])
    simp [putRowK, putRow, mapBlock, Sort.ahead, Array.getElem?_modify, hkg]

theorem sortF_none (w : World) (a : Option Addr) (cap : Nat) (fv : Value) : Calls Tryz.prog 175 #[.slice a 0 cap, fv] w fun e w' => e = .returned (.tuple #[]) ∧ w = w' := by
  have hS := AnyF.slices_SortFunc_none (P := Tryz.prog) (ρ := sortL_ren) { sortL with } a cap fv w
  change Calls Tryz.prog 175 _ _ _ at hS
  exact hS.mono fun _ _ h => ⟨h.1, h.2.symm⟩
end Go.Proofs.YtlaihgdfedalmaaGreat.Q
namespace Go.Proofs.YtlaihgdfedalmaaGreat.Q
open Go.RowKit Go.Sort
set_option linter.unusedVariables false

/-- Of the first k those that are not what stands ahead of them. -/
def keep (ls : List Lb) : Nat → List Lb
  | 0 => []
  | k + 1 => keep ls k ++ (match ls[k]? with | some x => if 0 < k ∧ ls[k - 1]? = some x then [] else [x] | none => [])
theorem keep_next {ls : List Lb} {m : Nat} {x y : Lb} (hx : ls[m + 1]? = some x) (hy : ls[m]? = some y) (h : x ≠ y) : keep ls (m + 2) = keep ls (m + 1) ++ [x] := by
  rw [keep, hx]
  simp only [Nat.add_sub_cancel, hy, Option.some.injEq]
  rw [if_neg (fun e => h e.2.symm)]
theorem keep_same {ls : List Lb} {m : Nat} {x : Lb} (hx : ls[m + 1]? = some x) (hy : ls[m]? = some x) : keep ls (m + 2) = keep ls (m + 1) := by
  rw [keep, hx]
  simp only [Nat.add_sub_cancel, hy]
  rw [if_pos ⟨by omega, trivial⟩]
  simp
theorem keep_one {ls : List Lb} {x : Lb} (hx : ls[0]? = some x) : keep ls 1 = [x] := by
  rw [keep, hx, keep]
  simp
/-- Of labels of which none is ahead of a lesser one: each once, rising. -/
theorem keep_asc {ls : List Lb} (h : ls.Pairwise (fun x y => ¬ ltL y x)) : ∀ k, k ≤ ls.length → (keep ls k).Pairwise ltL ∧ (∀ x, x ∈ keep ls k ↔ x ∈ ls.take k) ∧ (∀ m y, k = m + 1 → ls[m]? = some y → ∀ x ∈ keep ls k, ¬ ltL y x)
  | 0, _ => ⟨by simp [keep], by simp [keep], fun m y e => by omega⟩
  | k + 1, hk => by
    obtain ⟨h1, h2, h3⟩ := keep_asc h k (by omega)
    have hp := List.pairwise_iff_getElem.1 h
    obtain ⟨x, hx⟩ : ∃ x, ls[k]? = some x := ⟨ls[k]'(by omega), List.getElem?_eq_getElem (by omega)⟩
    have ht : ∀ y, y ∈ ls.take (k + 1) ↔ y ∈ ls.take k ∨ y = x := fun y => by rw [List.take_add_one, hx]; simp
    have hge : ∀ y ∈ ls.take k, ¬ ltL x y := fun y hy => by
      obtain ⟨j, hj, rfl⟩ := List.mem_iff_getElem.1 hy
      rw [List.length_take] at hj
      have hxk : ls[k]'(by omega) = x := (List.getElem?_eq_some_iff.1 hx).2
      have := hp j k (by omega) (by omega) (by omega)
      rw [hxk] at this
      simpa using this
    have fin : ∀ y, y ∈ keep ls k → ¬ ltL x y := fun y hy => hge y ((h2 y).1 hy)
    cases k with
    | zero =>
      rw [keep_one hx]
      refine ⟨by simp, fun y => by rw [ht]; simp, fun m y e hy z hz => ?_⟩
      obtain rfl : m = 0 := by omega
      rw [hx] at hy
      cases hy
      simp at hz
      subst hz
      exact ltL_irr _
    | succ m =>
      obtain ⟨y, hy⟩ : ∃ y, ls[m]? = some y := ⟨ls[m]'(by omega), List.getElem?_eq_getElem (by omega)⟩
      have hyin : y ∈ ls.take (m + 1) := by rw [List.take_add_one, hy]; simp
      by_cases e : x = y
      · subst e
        rw [keep_same hx hy]
        refine ⟨h1, fun z => ?_, fun m' y' e' hy' z hz => ?_⟩
        · rw [ht, h2 z]
          exact ⟨Or.inl, fun h => h.elim id (fun e => e ▸ hyin)⟩
        · obtain rfl : m' = m + 1 := by omega
          rw [hx] at hy'
          cases hy'
          exact fin z hz
      · rw [keep_next hx hy e]
        refine ⟨?_, fun z => ?_, fun m' y' e' hy' z hz => ?_⟩
        · rw [List.pairwise_append]
          refine ⟨h1, by simp, fun a ha b hb => ?_⟩
          simp at hb
          subst hb
          have ha3 : ¬ ltL y a := h3 m y rfl hy a ha
          have hyx : ltL y b := by
            have hnx : ¬ ltL b y := hge y hyin
            exact Classical.byContradiction fun hn => e (ltL_tri hnx hn)
          exact Classical.byContradiction fun hn => by
            have := ltL_ntrans ha3 hn
            exact this hyx
        · rw [ht, List.mem_append, h2 z]; simp
        · obtain rfl : m' = m + 1 := by omega
          rw [hx] at hy'
          cases hy'
          rw [List.mem_append] at hz
          rcases hz with hz | hz
          · exact fin z hz
          · simp at hz; subst hz; exact ltL_irr _

set_option maxRecDepth 10000 in
set_option maxHeartbeats 2000000 in
theorem compact_some (w : World) (g n cap base : Nat) (ls : List Lb) (hblk : Blk w g cap ls) (hl : ls.length = n) (hbg : base ≤ g) (hcm : cap ≤ maxLen) :
    Calls Tryz.prog 176 #[.slice (some ⟨g, 0, none⟩) n cap] w fun e w' => ∃ v', e = .returned v' ∧ w'.ownsRow base 39 4 v' (keep ls n).length (flat (keep ls n)) ∧ w.grownBy w' (some g) := by
  have hnc : n ≤ cap := by have := hblk.len; omega
  have hwide : cap ≤ 9223372036854775807 := by unfold maxLen at hcm; omega
  have HOWN : Hid (∀ w', Blk w' g cap ls → w'.ownsRow base 39 4 (.slice (some ⟨g, 0, none⟩) n cap) n (flat ls)) := fun w' hb => by
    have := hb.own hbg hcm n (by omega)
    rwa [List.take_of_length_le (by omega)] at this
  by_cases h2 : n < 2
  · have HE : Hid (w.ownsRow base 39 4 (.slice (some ⟨g, 0, none⟩) n cap) (keep ls n).length (flat (keep ls n)) ∧ w.grownBy w (some g)) := by
      have e : keep ls n = ls := by
        match n, ls, hl, h2 with
        | 0, [], _, _ => rfl
        | 1, [x], _, _ => exact keep_one rfl
      rw [e, hl]
      exact ⟨HOWN.out w hblk, gr_refl _ _⟩
    have h2I : (n : Int) < 2 := by omega
    clear hblk HOWN
    go_enter Tryz.func176, Tryz.ntmps176
    go_wp2
    go_ret
    exact ⟨_, rfl, HE.out⟩
  · have h2I : ¬ ((n : Int) < 2) := by omega
    have H1 : Hid (keep ls 1 = ls.take 1) := by
      have hx : ls[0]? = some (ls[0]'(by omega)) := List.getElem?_eq_getElem (by omega)
      show _ = _
      rw [keep_one hx, List.take_add_one, hx]; simp
    go_enter Tryz.func176, Tryz.ntmps176
    go_wp2_with fail
    go_loopw [3] (fun iv wr => ∃ m : Nat, m + 1 ≤ n ∧ iv = .int .i64 ((m : Int) + 1) ∧ keep ls (m + 1) = ls.take (m + 1) ∧ Up w wr) (fun iv _ => n - (intOf iv).toNat)
    case atStart => exact ⟨0, by omega, rfl, H1.out, Up.refl _⟩
    case round =>
      obtain ⟨m, hm, rfl, hkp, hu⟩ := hrel
      have HK : Hid (keep ls (m + 1) = ls.take (m + 1)) := hkp
      clear hkp
      have hb := hblk.up hu.bl
      by_cases hlt : m + 1 < n
      · have hltI : (m : Int) + 1 < (n : Int) := by omega
        obtain ⟨x, hx⟩ : ∃ y, ls[m + 1]? = some y := ⟨ls[m + 1]'(by omega), List.getElem?_eq_getElem (by omega)⟩
        obtain ⟨y, hy⟩ : ∃ y, ls[m]? = some y := ⟨ls[m]'(by omega), List.getElem?_eq_getElem (by omega)⟩
        obtain ⟨c0, c1, c2, c3⟩ := hb.cell hx
        obtain ⟨d0, d1, d2, d3⟩ := hb.cell hy
        have heq := fun W => lab_equal x y W
        have HX : Hid (ls[m + 1]? = some x) := hx
        have HY : Hid (ls[m]? = some y) := hy
        clear hx hy
        have hm0 : ¬ ((m : Int) + 1 < 0) := by omega
        have hm1 : ¬ ((m : Int) < 0) := by omega
        have hm2 : (m : Int) < (n : Int) := by omega
        cases he : decide (x = y) with
        | false =>
          rw [he] at heq
          have HK' : Hid (keep ls (m + 1 + 1) = ls.take (m + 1 + 1)) := by
            show _ = _
            rw [keep_next HX.out HY.out (by simpa using he), HK.out, show ls.take (m + 1 + 1) = ls.take (m + 1) ++ ls[m + 1]?.toList from List.take_add_one, HX.out]; rfl
          clear he HK
          go_wp2_with fail
          go_quiet (fail)
          go_wp2
          go_roundw
          case rel => first | exact ⟨m + 1, by omega, by go_num, HK'.out, hu.drewN _⟩ | ((repeat apply Exists.intro); exact ⟨⟨m + 1, by omega, by go_num, HK'.out, hu.drewN _⟩, rfl⟩)
          case measure => simp [intOf]; omega
        | true =>
          rw [he] at heq
          have HK' : Hid (ls.take (m + 1) = keep ls (m + 1 + 1)) := by
            have e : x = y := by simpa using he
            subst e
            show _ = _
            rw [keep_same HX.out HY.out, HK.out]
          clear he HK
          go_wp2_with fail
          go_quiet (fail)
          go_wp2_with fail
          go_loopw [3, 5] (fun kv iv wr => ∃ (k t : Nat) (cur : List Lb), kv = .int .i64 (k : Nat) ∧ iv = .int .i64 ((t : Int) + 1) ∧ k ≤ m + 1 + t ∧ m + 1 + t + 1 ≤ n ∧ Blk wr g cap cur ∧ cur.length = n ∧ cur.take k = keep ls (m + 1 + t + 1) ∧ cur.drop (m + 1 + t) = ls.drop (m + 1 + t) ∧ w.grownBy wr (some g)) (fun _ iv _ => n - (intOf iv).toNat)
          case atStart => exact ⟨m + 1, 0, ls, by go_num, rfl, by omega, by omega, hb, hl, HK'.out, rfl, gr_below (hu.drewN _).bl _⟩
          case round =>
            clear c0 c1 c2 c3 d0 d1 d2 d3 heq HX HY HK' hb
            obtain ⟨k, t, cur, rfl, rfl, hkt, ht, hb, hcl, htk, hdr, hgr⟩ := hrel
            have HTK : Hid (cur.take k = keep ls (m + 1 + t + 1)) := htk
            have HDR : Hid (cur.drop (m + 1 + t) = ls.drop (m + 1 + t)) := hdr
            clear htk hdr
            by_cases hlt2 : m + 1 + t + 1 < n
            · obtain ⟨x, hx⟩ : ∃ y, ls[m + 1 + t + 1]? = some y := ⟨ls[m + 1 + t + 1]'(by omega), List.getElem?_eq_getElem (by omega)⟩
              obtain ⟨y, hy⟩ : ∃ y, ls[m + 1 + t]? = some y := ⟨ls[m + 1 + t]'(by omega), List.getElem?_eq_getElem (by omega)⟩
              have hx' : cur[m + 1 + t + 1]? = some x := by
                have h1 : (cur.drop (m + 1 + t))[1]? = (ls.drop (m + 1 + t))[1]? := by rw [HDR.out]
                simpa [hx] using h1
              have hy' : cur[m + 1 + t]? = some y := by
                have h1 : (cur.drop (m + 1 + t))[0]? = (ls.drop (m + 1 + t))[0]? := by rw [HDR.out]
                simpa [hy] using h1
              obtain ⟨c0, c1, c2, c3⟩ := hb.cell hx'
              obtain ⟨d0, d1, d2, d3⟩ := hb.cell hy'
              rw [show (m + 1 + t + 1) * 4 = (m + 1) * 4 + (t + 1) * 4 by omega] at c0 c1 c2 c3
              rw [show (m + 1 + t) * 4 = (m + 1) * 4 + t * 4 by omega] at d0 d1 d2 d3
              have heq := fun W => lab_equal x y W
              have HX : Hid (ls[m + 1 + t + 1]? = some x) := hx
              have HY : Hid (ls[m + 1 + t]? = some y) := hy
              clear hx hy hx' hy'
              have e1 : (t : Int) + 1 < ((n - (m + 1) : Nat) : Int) := by omega
              have e2 : (t : Int) < ((n - (m + 1) : Nat) : Int) := by omega
              have e3 : ¬ ((t : Int) + 1 < 0) := by omega
              have e4 : ¬ ((t : Int) < 0) := by omega
              have e5 : ¬ ((k : Int) < 0) := by omega
              have e6 : (k : Int) < (n : Int) := by omega
              have HD1 : Hid (cur.drop (m + 1 + (t + 1)) = ls.drop (m + 1 + (t + 1))) := by
                show _ = _
                have h1 : (cur.drop (m + 1 + t)).drop 1 = (ls.drop (m + 1 + t)).drop 1 := by rw [HDR.out]
                rw [List.drop_drop, List.drop_drop] at h1
                exact h1
              cases he : decide (x = y) with
              | true =>
                rw [he] at heq
                have HT : Hid (cur.take k = keep ls (m + 1 + (t + 1) + 1)) := by
                  have e : x = y := by simpa using he
                  subst e
                  show _ = _
                  rw [show m + 1 + (t + 1) + 1 = m + 1 + t + 2 by omega, keep_same HX.out HY.out]
                  exact HTK.out
                clear he HTK
                go_wp2_with fail
                go_quiet (fail)
                go_wp2
                go_roundw
                case rel => first | exact ⟨k, t + 1, cur, by go_num, by go_num, by omega, by omega, hb, hcl, HT.out, HD1.out, gr_trans hgr (gr_below ((Up.refl _).drewN _).bl _)⟩ | ((repeat apply Exists.intro); exact ⟨⟨k, t + 1, cur, by go_num, by go_num, by omega, by omega, hb, hcl, HT.out, HD1.out, gr_trans hgr (gr_below ((Up.refl _).drewN _).bl _)⟩, rfl⟩)
                case measure => simp [intOf]; omega
              | false =>
                rw [he] at heq
                have HT : Hid ((cur.set k x).take (k + 1) = keep ls (m + 1 + (t + 1) + 1)) := by
                  show _ = _
                  rw [show m + 1 + (t + 1) + 1 = m + 1 + t + 2 by omega, keep_next HX.out HY.out (by simpa using he), ← HTK.out, List.take_add_one]
                  have : (cur.set k x)[k]? = some x := by rw [List.getElem?_set_self (by omega)]
                  rw [this, List.take_set_of_le (Nat.le_refl _)]
                  rfl
                have HD2 : Hid ((cur.set k x).drop (m + 1 + (t + 1)) = ls.drop (m + 1 + (t + 1))) := by
                  show _ = _
                  rw [List.drop_set_of_lt (by omega)]
                  exact HD1.out
                have hcl2 : (cur.set k x).length = n := by simpa using hcl
                have hset := fun q => (show Blk (wr.drewN q) g cap cur from hb).set (i := k) (by omega) x
                clear he HTK HD1
                go_wp2_with fail
                go_quiet (fail)
                obtain ⟨w4, hst, hb4, hg4⟩ := hset nq
                have hg5 : w.grownBy w4 (some g) := gr_trans hgr (gr_trans (gr_below ((Up.refl _).drewN nq).bl _) hg4)
                clear hset hg4
                go_wp2_with (first | (refine wpList_store_cells rfl 39 (.tmp 51) (.tmp 50) rfl ⟨g, k * 4, none⟩ #[.int .u64 (x.1 : Nat), .int .i64 x.2.1, .int .u64 (x.2.2.1 : Nat), .int .i64 x.2.2.2] rfl rfl info26 w4 hst ?_))
                go_roundw
                case rel => first | exact ⟨k + 1, t + 1, cur.set k x, by go_num, by go_num, by omega, by omega, hb4, hcl2, HT.out, HD2.out, hg5⟩ | ((repeat apply Exists.intro); exact ⟨⟨k + 1, t + 1, cur.set k x, by go_num, by go_num, by omega, by omega, hb4, hcl2, HT.out, HD2.out, hg5⟩, rfl⟩)
                case measure => simp [intOf]; omega
            · have ent : m + 1 + t + 1 = n := by omega
              have e1 : ¬ ((t : Int) + 1 < ((n - (m + 1) : Nat) : Int)) := by omega
              have e : cur.take k = keep ls n := by rw [← ent]; exact HTK.out
              obtain ⟨w4, hst, hb4, hg4⟩ := hb.clear (i := k) (n := n - k) (by omega) (by omega) (cap - k) 0
              have hk0 : ¬ ((k : Int) < 0) := by omega
              have hlen : (keep ls n).length = k := by rw [← e, List.length_take]; omega
              have HE : Hid (w4.ownsRow base 39 4 (.slice (some ⟨g, 0, none⟩) k cap) (keep ls n).length (flat (keep ls n)) ∧ w.grownBy w4 (some g)) := by
                refine ⟨?_, gr_trans hgr hg4⟩
                have := hb4.own hbg hcm k (by rw [List.length_take]; omega)
                rw [e, List.take_of_length_le (by omega)] at this
                rw [hlen]; exact this
              have hkn : k < n := by omega
              clear hb hgr hg4 hb4 HTK HDR hlen e HOWN hblk hu ent
              go_wp2
              go_ret
              exact ⟨_, rfl, HE.out⟩
      · have em : m + 1 = n := by omega
        have HE : Hid (wr.ownsRow base 39 4 (.slice (some ⟨g, 0, none⟩) n cap) (keep ls n).length (flat (keep ls n)) ∧ w.grownBy wr (some g)) := by
          have e : keep ls n = ls := by rw [← em, HK.out, List.take_of_length_le (by omega)]
          rw [e, hl]
          exact ⟨HOWN.out wr hb, gr_below hu.bl _⟩
        have hltI : ¬ ((m : Int) + 1 < (n : Int)) := by omega
        clear hb HK HOWN hblk em hu
        go_wp2
        go_ret
        exact ⟨_, rfl, HE.out⟩
end Go.Proofs.YtlaihgdfedalmaaGreat.Q
namespace Go.Proofs.YtlaihgdfedalmaaGreat.Q
open Go.RowKit Go.Sort
set_option linter.unusedVariables false

theorem asc_nodup {a : List Lb} (h : a.Pairwise ltL) : a.Nodup := h.imp (fun {x y} hxy e => by subst e; exact ltL_irr _ hxy)
theorem nodup_len : ∀ {a b : List Lb}, a.Nodup → (∀ x ∈ a, x ∈ b) → a.length ≤ b.length
  | [], b, _, _ => by simp
  | x :: a, b, h, hs => by
    obtain ⟨h1, h2⟩ := List.nodup_cons.1 h
    have hxb := hs x (by simp)
    have := nodup_len (b := b.erase x) h2 (fun y hy => (List.mem_erase_of_ne (fun (e : y = x) => h1 (e ▸ hy))).2 (hs y (by simp [hy])))
    rw [List.length_erase_of_mem hxb] at this
    have : 0 < b.length := List.length_pos_of_mem hxb
    simp
    omega
theorem not_nodup : ∀ {b : List Lb}, ¬ b.Nodup → ∃ l1 x l2, b = l1 ++ x :: l2 ∧ x ∈ l2
  | [], h => absurd List.nodup_nil h
  | y :: b, h => by
    by_cases hy : y ∈ b
    · exact ⟨[], y, b, rfl, hy⟩
    · obtain ⟨l1, x, l2, e, hx⟩ := not_nodup (b := b) (fun hb => h (List.nodup_cons.2 ⟨hy, hb⟩))
      exact ⟨y :: l1, x, l2, by rw [e]; rfl, hx⟩
theorem twice_iff {a b : List Lb} (ha : a.Pairwise ltL) (h : ∀ x, x ∈ a ↔ x ∈ b) : a.length < b.length ↔ ¬ b.Nodup := by
  constructor
  · intro hl hb
    have := nodup_len hb (fun x hx => (h x).2 hx)
    omega
  · intro hb
    obtain ⟨l1, x, l2, e, hx⟩ := not_nodup hb
    have := nodup_len (b := l1 ++ l2) (asc_nodup ha) (fun y hy => by
      have := (h y).1 hy
      rw [e] at this
      simp at this ⊢
      rcases this with h | h | h
      · exact Or.inl h
      · subst h; exact Or.inr hx
      · exact Or.inr h)
    rw [e]
    simp at this ⊢
    omega

theorem infoL : (Tryz.prog.info? 39).map (fun i => (i.zero, i.size, i.bytes)) = some (some (.agg #[.int .u64 0, .int .i64 0, .int .u64 0, .int .i64 0]), 4, 32) := by kernel_rfl
theorem _root_.Go.Proofs.YtlaihgdfedalmaaGreat.LR.cells {w : World} {a : Addr} {n : Nat} {ls : List Lb} (h : LR w (some a) n ls) : ∀ j u, (flat ls)[j]? = some u → w.cell? (a.add j) = some u := by
  intro j u hj
  obtain ⟨hl, _, hc⟩ := h
  have hjl : j < ls.length * 4 := by
    have := (List.getElem?_eq_some_iff.1 hj).1
    rwa [flat_len] at this
  obtain ⟨b, off, e, hcell⟩ := hc (by omega)
  cases e
  rw [Addr.add_lit]
  obtain ⟨x, hx⟩ : ∃ x, ls[j / 4]? = some x := ⟨ls[j / 4]'(by omega), List.getElem?_eq_getElem (by omega)⟩
  have hf := flat_get ls (j / 4) x (j % 4) hx (by omega)
  rw [show 4 * (j / 4) + j % 4 = j by omega, hj] at hf
  obtain ⟨c0, c1, c2, c3⟩ := hcell _ x hx
  have hm : j % 4 = 0 ∨ j % 4 = 1 ∨ j % 4 = 2 ∨ j % 4 = 3 := by omega
  rcases hm with e | e | e | e
  · rw [e] at hf; simp [cellsL] at hf; rw [hf, show off + j = off + j / 4 * 4 by omega]; exact c0
  · rw [e] at hf; simp [cellsL] at hf; rw [hf, show off + j = off + j / 4 * 4 + 1 by omega]; exact c1
  · rw [e] at hf; simp [cellsL] at hf; rw [hf, show off + j = off + j / 4 * 4 + 2 by omega]; exact c2
  · rw [e] at hf; simp [cellsL] at hf; rw [hf, show off + j = off + j / 4 * 4 + 3 by omega]; exact c3

set_option maxRecDepth 10000 in
set_option maxHeartbeats 1000000 in
theorem clone_any (w : World) (ao : Option Addr) (n cap : Nat) (ls : List Lb) (h : LR w ao n ls) (hn : n ≤ 5000) (hz : ao = none → n = 0) :
    Calls Tryz.prog 111 #[.slice ao n cap] w fun e w' => ∃ v, e = .returned v ∧ w'.ownsRow w.heap.size 39 4 v n (flat ls) ∧ Below w.heap.size w w' := by
  obtain ⟨i0, hi0, hz0, hz1, hz2⟩ := info_parts infoL
  have q32 := fun (w : World) (a : Option Addr) (n c n' c' : Nat) => Lib.run_eql_slice_nil (P := Tryz.prog) w 43 39 a n c n' c' und32
  have hl := h.1
  cases ao with
  | none =>
    obtain rfl := hz rfl
    obtain rfl : ls = [] := List.length_eq_zero_iff.1 hl
    go_enter Tryz.func111, Tryz.ntmps111
    go_wp2
    go_ret
    exact ⟨_, rfl, ⟨rfl, .inl ⟨rfl, rfl⟩⟩, Below.refl _ _⟩
  | some ad =>
    have hA : Hid (∀ j u, (flat ls)[j]? = some u → w.cell? (ad.add j) = some u) := h.cells
    have HF : Hid ((flat ls).length = n * 4) := by show _ = _; rw [flat_len, hl]
    clear h hz
    go_enter Tryz.func111, Tryz.ntmps111
    go_wp2_with (at_builtin; refine wpList_append_own_at _ rfl _ _ 43 rfl w.heap.size 39 i0 (.agg #[.int .u64 0, .int .i64 0, .int .u64 0, .int .i64 0]) 4 32 und32 hi0 hz0 hz1 hz2 rfl (by decide) _ 0 [] rfl ?d1 ad n cap (flat ls) rfl ?d2 ?d3 ?d4 ?d6 ?d7 ?d8 ?_)
    case d1 => exact World.ownsRow_made w #[] 0 (Nat.le_refl _) (Nat.zero_le _) (by simp)
    case d2 => exact HF.out
    case d3 => exact fun j u hj => ((bl1 w _).cell (World.block_lt_of_cell? w _ (hA.out j u hj))).trans (hA.out j u hj)
    case d4 => exact fun u hu => flat_one hu
    case d6 => unfold maxLen; omega
    case d7 => omega
    case d8 => simp
    intro v' w1 hown hgrow hnil hat
    have HE : Hid (w1.ownsRow w.heap.size 39 4 v' n (flat ls) ∧ Below w.heap.size w w1) := ⟨by simpa using hown, bl_grown (bl1 w _) (by simp) hgrow (by intro k hk; simp [Value.ownBlock] at hk; omega)⟩
    clear hown hgrow hnil hat
    go_wp2
    go_ret
    exact ⟨v', rfl, HE.out⟩

theorem compact_none (w : World) : Calls Tryz.prog 176 #[.slice none 0 0] w fun e w' => e = .returned (.slice none 0 0) ∧ w = w' := by
  go_enter Tryz.func176, Tryz.ntmps176
  go_wp2
  go_ret
  exact ⟨rfl, rfl⟩

set_option maxRecDepth 10000 in
set_option maxHeartbeats 1000000 in
theorem sort_any (w : World) (ao : Option Addr) (n cap : Nat) (ls : List Lb) (h : LR w ao n ls) (hn : n ≤ 5000) (hz : ao = none → n = 0) :
    Calls Tryz.prog 165 #[.slice ao n cap] w fun e w' => ∃ v rs, e = .returned v ∧ rs.Pairwise ltL ∧ (∀ x, x ∈ rs ↔ x ∈ ls) ∧ w'.ownsRow w.heap.size 39 4 v rs.length (flat rs) ∧ Below w.heap.size w w' := by
  have hl := h.1
  have hcl := clone_any w ao n cap ls h hn hz
  clear h hz
  go_enter Tryz.func165, Tryz.ntmps165
  go_wp2_with fail
  refine hcl.mono ?_
  rintro e w1 ⟨v, rfl, hown, hb1⟩
  clear hcl
  rcases hown.2 with ⟨rfl, rfl⟩ | ⟨g, cp, cur, rfl, _⟩
  · obtain rfl : ls = [] := List.length_eq_zero_iff.1 hl
    clear hown
    go_wp2_with fail
    refine (sortF_none _ _ _ _).mono ?_
    rintro e w2 ⟨rfl, rfl⟩
    go_wp2_with fail
    refine (compact_none _).mono ?_
    rintro e w2 ⟨rfl, rfl⟩
    go_wp2
    go_ret
    exact ⟨_, [], rfl, by simp, by simp, ⟨rfl, .inl ⟨rfl, rfl⟩⟩, hb1⟩
  · obtain ⟨hblk, hbg, hnc, hcm⟩ := Blk.ofOwn hown
    have hsort := sortF_blk w1 g cp n ls hblk hl (by omega)
    clear hown hblk
    go_wp2_with fail
    refine hsort.mono ?_
    rintro e w2 ⟨rfl, ls', hperm, hasc, hblk2, hg2⟩
    have hl2 : ls'.length = n := by rw [hperm.length_eq]; exact hl
    have hcp := compact_some w2 g n cp w.heap.size ls' hblk2 hl2 hbg hcm
    have HP : Hid ((keep ls' n).Pairwise ltL ∧ ∀ x, x ∈ keep ls' n ↔ x ∈ ls) := by
      obtain ⟨a1, a2, _⟩ := keep_asc hasc n (by omega)
      refine ⟨a1, fun x => ?_⟩
      rw [a2 x, List.take_of_length_le (by omega)]
      exact hperm.mem_iff
    have hb2 : Below w.heap.size w w2 := bl_grown hb1 hb1.size hg2 (fun k hk => by cases hk; exact hbg)
    clear hperm hasc hblk2 hg2 hsort
    go_wp2_with fail
    refine hcp.mono ?_
    rintro e w3 ⟨v3, rfl, hown3, hg3⟩
    have hb3 : Below w.heap.size w w3 := bl_grown hb2 hb2.size hg3 (fun k hk => by cases hk; exact hbg)
    have HE : Hid (w3.ownsRow w.heap.size 39 4 v3 (keep ls' n).length (flat (keep ls' n)) ∧ Below w.heap.size w w3) := ⟨hown3, hb3⟩
    clear hown3 hg3 hb3 hcp hb2 hb1
    go_wp2
    go_ret
    exact ⟨v3, _, rfl, HP.out.1, HP.out.2, HE.out⟩

end Go.Proofs.YtlaihgdfedalmaaGreat.Q
namespace Go.Proofs.YtlaihgdfedalmaaGreat.Q
open Go.RowKit Go.Sort
set_option linter.unusedVariables false

theorem run_append_zeros (n : Nat) (h0 : 0 < n) (hn : n ≤ 100000) (ty : TypeId) (w : World) : ∃ cap cur, Sem.run Tryz.prog (Builtin.append_ #[43, 3] ty #[.slice none 0 0, .int .i64 (n : Nat)]) w = .ok (.slice (some ⟨w.heap.size, 0, none⟩) n cap) (w.drew.alloc (.cells cur 39)) ∧ cur.size = cap * 4 ∧ n ≤ cap ∧ cap ≤ maxLen := by
  obtain ⟨i, hi, hz, hz1, hz2⟩ := info_parts infoL
  have hn0 : n ≠ 0 := by omega
  have h63' : ¬ (9223372036854775807 < (n : Int)) := by omega
  have h48' : ¬ (281474976710656 < Builtin.nextslicecap n 0 * i.bytes) := by rw [nextslicecap_zero h0, hz2]; omega
  have hw : IntKind.i64.wrap (n : Int) = n := by simp [IntKind.wrap, IntKind.bits, IntKind.signed]; omega
  have hneg : ¬ ((n : Int) < 0) := by omega
  have hbig : ¬ (281474976710656 < (n : Int) * (i.bytes : Int)) := by rw [hz2]; omega
  have ha : ∀ W, Sem.run Tryz.prog (asIntOf (.int .i64 (n : Nat))) W = .ok (.i64, (n : Int)) W := fun _ => rfl
  refine ⟨grownCap w n 0 39, Builtin.zeroCells (Value.agg #[.int .u64 0, .int .i64 0, .int .u64 0, .int .i64 0]).cells n ++ Builtin.zeroCells (Value.agg #[.int .u64 0, .int .i64 0, .int .u64 0, .int .i64 0]).cells (grownCap w n 0 39 - n), ?_, ?_, grownCap_ge _ _ _ _, grownCap_le_maxLen _ _ _ _ (by unfold maxLen; omega)⟩
  · simp [Builtin.append_, run_underlying und32, run_underlying Tryz.underlying3, sizeOf, typeInfo, zeroValue, hi, hz, hz1, asInt, ha, hw, hneg, hbig, hn0, h63', h48', Question.forced, run_firstCells_none, newRow, grownCap]
    intro h4
    omega
  · have := grownCap_ge w n 0 39
    rw [Array.size_append, size_zeroCells, size_zeroCells]
    simp [Value.cells]
    omega

/-- An append by its run. -/
theorem wpList_append_run {P : Program} {w : World} {ops : Array Oper} {rest : List Oper} {o : Oper} {a : Act} {Q : Exit → Act → World → Prop} (hgd : o.guard = none) (s x : Operand) (t u : TypeId)
    (ho : o.op = .call { callee := .builtin .append, args := #[s, x], argTypes := #[t, u] }) (v y v' : Value) (w' : World) (hs : a.eval s = v) (hx : a.eval x = y) (hrun : (Builtin.append_ #[t, u] o.type #[v, y]).run P w = .ok v' w')
    (h : wpList P ops Q rest (a.put o.dst v') w') : wpList P ops Q (o :: rest) a w := by
  refine wpList_plain hgd fun K hK => ?_
  unfold Oper.wp execOp
  simp only [ho, resolve, invoke, builtin, Sem.run_bind, Sem.run_pure, Result.andThen_ok, List.map_toArray, List.map_cons, List.map_nil, hs, hx, hrun]
  exact hK _ _ h
set_option maxRecDepth 10000 in
set_option maxHeartbeats 1000000 in
theorem grow_any (w : World) (n : Nat) (hn : n ≤ 100000) : Calls Tryz.prog 178 #[.slice none 0 0, .int .i64 (n : Nat)] w fun e w' => ∃ v, e = .returned v ∧ w'.ownsRow w.heap.size 39 4 v 0 [] ∧ Below w.heap.size w w' := by
  by_cases h0 : n = 0
  · subst h0
    go_enter Tryz.func178, Tryz.ntmps178
    go_wp2
    go_ret
    exact ⟨_, rfl, World.ownsRow_nil _ _ _ _, Below.refl _ _⟩
  · have h0I : (0 : Int) < (n : Int) := by omega
    have hneg : ¬ ((n : Int) < 0) := by omega
    obtain ⟨cap, cur, hrun, hcs, hnc, hcm⟩ := run_append_zeros n (by omega) hn 43 w
    have HE : Hid ((w.drew.alloc (.cells cur 39)).ownsRow w.heap.size 39 4 (.slice (some ⟨w.heap.size, 0, none⟩) 0 cap) 0 [] ∧ Below w.heap.size w (w.drew.alloc (.cells cur 39))) :=
      ⟨World.ownsRow_made w.drew cur cap (Nat.le_refl _) hcm hcs, (Below.refl _ w).drew.alloc (Nat.le_refl _) _⟩
    clear hcs
    go_enter Tryz.func178, Tryz.ntmps178
    go_wp2_with (at_builtin; refine wpList_append_run rfl _ _ 43 3 rfl _ _ _ _ rfl rfl hrun ?_)
    go_ret
    exact ⟨_, rfl, HE.out⟩

/-- Any labels behind a row of one's own. -/
theorem wpList_append_LR {w : World} {ops : Array Oper} {rest : List Oper} {o : Oper} {a : Act} {Q : Exit → Act → World → Prop} (hgd : o.guard = none) (s x : Operand)
    (ho : o.op = .call { callee := .builtin .append, args := #[s, x], argTypes := #[43, 43] }) (base : Nat)
    (v : Value) (n : Nat) (xs : List Lb) (hs : a.eval s = v) (hown : w.ownsRow base 39 4 v n (flat xs))
    (bo : Option Addr) (m c : Nat) (ms : List Lb) (hx : a.eval x = .slice bo m c) (hu : LR w bo m ms) (hz : bo = none → m = 0 ∧ c = 0)
    (hnm : n + m ≤ 1000000) (hbase : base ≤ w.heap.size)
    (h : ∀ v' w', w'.ownsRow base 39 4 v' (n + m) (flat (xs ++ ms)) → w.grownBy w' v.ownBlock → wpList Tryz.prog ops Q rest (a.put o.dst v') w') :
    wpList Tryz.prog ops Q (o :: rest) a w := by
  obtain ⟨i0, hi0, hz0, hz1, hz2⟩ := info_parts infoL
  cases bo with
  | none =>
    obtain ⟨rfl, rfl⟩ := hz rfl
    obtain rfl : ms = [] := List.length_eq_zero_iff.1 hu.1
    refine wpList_append_own_none hgd s x 43 ho base 39 i0 4 und32 hi0 v n (flat xs) hs hown hx ?_
    exact h v w (by simpa using hown) ⟨rfl, rfl, rfl, Nat.le_refl _, fun _ _ _ => rfl⟩
  | some ad =>
    refine wpList_append_own_at _ hgd s x 43 ho base 39 i0 (.agg #[.int .u64 0, .int .i64 0, .int .u64 0, .int .i64 0]) 4 32 und32 hi0 hz0 hz1 hz2 rfl (by decide) v n (flat xs) hs hown ad m c (flat ms) hx (by rw [flat_len, hu.1]) hu.cells (fun u hu' => flat_one hu') (by unfold maxLen; omega) (by omega) hbase (fun v' w' a b _ _ => h v' w' (by rw [flat_app]; exact a) b)

set_option maxRecDepth 10000 in
set_option maxHeartbeats 2000000 in
theorem concat_any (w : World) (B : Nat) (ao : Option Addr) (n cap : Nat) (ls : List Lb) (hA : LR w ao n ls) (hz : ao = none → n = 0 ∧ cap = 0) (bo : Option Addr) (m cbp : Nat) (ms : List Lb) (hM : LR w bo m ms) (hzm : bo = none → m = 0 ∧ cbp = 0) (hn : n + m ≤ 10000)
    (h0 : w.cell? ⟨B, 0, none⟩ = some (.slice ao n cap)) (h1 : w.cell? ⟨B, 1, none⟩ = some (.slice bo m cbp)) :
    Calls Tryz.prog 167 #[.slice (some ⟨B, 0, none⟩) 2 2] w fun e w' => ∃ v, e = .returned v ∧ w'.ownsRow w.heap.size 39 4 v (n + m) (flat (ls ++ ms)) ∧ Below w.heap.size w w' := by
  have hgr := fun W => grow_any W (n + m) (by omega)
  have hneg : ¬ ((n : Int) < 0) := by omega
  have hneg2 : ¬ ((n : Int) + (m : Int) < 0) := by omega
  have hcast : ((n + m : Nat) : Int) = (n : Int) + (m : Int) := by omega
  rw [hcast] at hgr
  clear hcast
  have HA : Hid (LR w ao n ls) := hA
  have HM : Hid (LR w bo m ms) := hM
  clear hA hM
  go_enter Tryz.func167, Tryz.ntmps167
  go_wp2
  refine wp_loop_rounds 3 ?_
  rw [rounds_succ]
  go_wp2
  rw [rounds_succ]
  go_wp2
  rw [rounds_succ]
  go_wp2_with fail
  refine (hgr _).mono ?_
  rintro e w1 ⟨v, rfl, hown, hb1⟩
  have c0 := (hb1.cell (World.block_lt_of_cell? w _ h0)).trans h0
  have c1 := (hb1.cell (World.block_lt_of_cell? w _ h1)).trans h1
  have hA1 := HA.out.up hb1
  have hs1 := hb1.size
  clear hgr
  go_wp2
  refine wp_loop_rounds 3 ?_
  rw [rounds_succ]
  go_wp2_with (at_builtin; refine wpList_append_LR rfl _ _ rfl w.heap.size _ 0 [] rfl ?d1 ao n cap ls rfl ?d2 hz ?d3 ?d4 ?_)
  case d1 => exact hown
  case d2 => exact hA1
  case d3 => omega
  case d4 => exact hs1
  intro v2 w2 hown2 hg2
  have hne : ∀ k, v.ownBlock = some k → w.heap.size ≤ k := fun k hk => (hown.lt k hk).1
  have hb2 : Below w.heap.size w w2 := bl_grown hb1 hs1 hg2 hne
  have d0 := (hb2.cell (World.block_lt_of_cell? w _ h0)).trans h0
  have d1 := (hb2.cell (World.block_lt_of_cell? w _ h1)).trans h1
  have hM2 := HM.out.up hb2
  have hs2 := hb2.size
  clear hown hg2 hne hA1 c0 c1 hb1 hs1
  go_wp2
  rw [rounds_succ]
  go_wp2_with (at_builtin; refine wpList_append_LR rfl _ _ rfl w.heap.size _ n ls rfl ?d1 bo m cbp ms rfl ?d2 hzm ?d3 ?d4 ?_)
  case d1 => exact hown2
  case d2 => exact hM2
  case d3 => omega
  case d4 => exact hs2
  intro v3 w3 hown3 hg3
  have hne : ∀ k, v2.ownBlock = some k → w.heap.size ≤ k := fun k hk => (hown2.lt k hk).1
  have hb3 : Below w.heap.size w w3 := bl_grown hb2 hs2 hg3 hne
  have HE : Hid (w3.ownsRow w.heap.size 39 4 v3 (n + m) (flat (ls ++ ms)) ∧ Below w.heap.size w w3) := ⟨hown3, hb3⟩
  clear hown2 hown3 hg3 hne hM2 d0 d1 hb2 hs2 hb3
  go_wp2
  rw [rounds_succ]
  go_wp2
  go_ret
  exact ⟨v3, rfl, HE.out⟩
end Go.Proofs.YtlaihgdfedalmaaGreat.Q
namespace Go.Proofs.YtlaihgdfedalmaaGreat.Q
open Go.RowKit Go.Sort
set_option linter.unusedVariables false

theorem out_congr {S T : List Lb} (h : ∀ x, x ∈ S ↔ x ∈ T) (ls : List Lb) : out S ls = out T ls := by
  unfold out
  apply List.filter_congr
  intro x _
  simp [h x]

set_option maxRecDepth 10000 in
theorem deleteFunc_none (w : World) (B m k0 : Nat) (S : List Lb) (hB : w.cell? ⟨B, 0, none⟩ = some (.map (some m))) (hS : SetIs w m k0 S) :
    Calls Tryz.prog 164 #[.slice none 0 0, .func (.func 177) #[] #[.pointer (some ⟨B, 0, none⟩)]] w fun e w' => e = .returned (.slice none 0 0) ∧ Below w.heap.size w w' := by
  have hix := indexFunc_any w none 0 0 [] ⟨rfl, by omega, fun h => by omega⟩ (by simp) B m k0 S hB hS
  go_enter Tryz.func164, Tryz.ntmps164
  go_wp2_with fail
  refine hix.mono ?_
  rintro e w1 ⟨⟨rfl, hno⟩ | ⟨i0, y0, hi0, _⟩, hu1⟩
  · clear hix hno hS hB
    go_wp2
    go_ret
    exact ⟨rfl, hu1.bl⟩
  · omega

theorem deleteFunc_any (w : World) (v : Value) (n base : Nat) (ls : List Lb) (hown : w.ownsRow base 39 4 v n (flat ls)) (hok : ∀ x ∈ ls, OkL x) (B m k0 : Nat) (S : List Lb) (hB : w.cell? ⟨B, 0, none⟩ = some (.map (some m))) (hS : SetIs w m k0 S) (hne : ∀ g, v.ownBlock = some g → g ≠ B ∧ g ≠ m) :
    Calls Tryz.prog 164 #[v, .func (.func 177) #[] #[.pointer (some ⟨B, 0, none⟩)]] w fun e w' => ∃ v', e = .returned v' ∧ w'.ownsRow base 39 4 v' (out S ls).length (flat (out S ls)) ∧ w.grownBy w' v.ownBlock := by
  rcases hown.2 with ⟨rfl, rfl⟩ | ⟨g, cap, cur, rfl, _⟩
  · have hl := hown.1
    rw [flat_len] at hl
    obtain rfl : ls = [] := List.length_eq_zero_iff.1 (by omega)
    refine (deleteFunc_none w B m k0 S hB hS).mono ?_
    rintro e w' ⟨rfl, hb⟩
    exact ⟨_, rfl, World.ownsRow_nil _ _ _ _, gr_below hb _⟩
  · obtain ⟨h1, h2⟩ := hne g rfl
    exact deleteFunc_some w g n cap base ls hown hok B m k0 S hB hS h1 h2

set_option maxRecDepth 10000 in
set_option maxHeartbeats 1000000 in
theorem behind_any (w : World) (ao : Option Addr) (n cap : Nat) (ls : List Lb) (hA : LR w ao n ls) (hz : ao = none → n = 0 ∧ cap = 0) (hokA : ∀ x ∈ ls, OkL x) (bo : Option Addr) (m cbp : Nat) (ms : List Lb) (hM : LR w bo m ms) (hzm : bo = none → m = 0 ∧ cbp = 0) (hokM : ∀ x ∈ ms, OkL x) (hn : n ≤ 5000) (hm : m ≤ 5000) :
    Calls Tryz.prog 138 #[.slice ao n cap, .slice bo m cbp] w fun e w' => ∃ v rs, e = .returned v ∧ rs.Pairwise ltL ∧ (∀ x, x ∈ rs ↔ x ∈ ms) ∧ w'.ownsRow w.heap.size 39 4 v (n + (out ls rs).length) (flat (ls ++ out ls rs)) ∧ Below w.heap.size w w' := by
  have hso := sort_any w bo m cbp ms hM hm (fun e => (hzm e).1)
  have HA : Hid (LR w ao n ls) := hA
  have hln := hA.1
  have hlm := hM.1
  clear hA hM
  go_enter Tryz.func138, Tryz.ntmps138
  go_wp2_with fail
  refine hso.mono ?_
  rintro e w1 ⟨v1, rs, rfl, hasc, hmem, hown1, hb1⟩
  have hA1 := HA.out.up hb1
  have ham := among_any w1 ao n cap ls hA1 hokA (by omega)
  have hrl : rs.length ≤ m := by
    have := nodup_len (asc_nodup hasc) (fun x hx => (hmem x).1 hx)
    omega
  have HR : Hid (rs.Pairwise ltL ∧ ∀ x, x ∈ rs ↔ x ∈ ms) := ⟨hasc, hmem⟩
  have hokR : ∀ x ∈ rs, OkL x := fun x hx => hokM x ((hmem x).1 hx)
  clear hso hA1 hasc hmem
  go_wp2_with fail
  refine ham.mono ?_
  rintro e w2 ⟨B, mb, k0, S, rfl, hB1, hm1, hB, hS, hSl, hb2⟩
  have hb12 := bl_step hb1 hb2
  have hlt1 : ∀ g, v1.ownBlock = some g → g < w1.heap.size := fun g hg => (hown1.lt g hg).2
  have hown2 : w2.ownsRow w.heap.size 39 4 v1 rs.length (flat rs) := by
    refine hown1.kept (gr_below hb2 none) ?_
    cases v1.ownBlock with
    | none => exact Or.inl rfl
    | some g => exact Or.inr (by simp)
  have hdl := deleteFunc_any w2 v1 rs.length w.heap.size rs hown2 hokR B mb k0 S hB hS (fun g hg => ⟨by have := hlt1 g hg; omega, by have := hlt1 g hg; omega⟩)
  have hlt2 : ∀ g, v1.ownBlock = some g → w.heap.size ≤ g := fun g hg => (hown1.lt g hg).1
  rw [out_congr hSl] at hdl
  clear ham hown1 hown2 hB hS hSl hb1 hb2 hlt1 hB1 hm1
  go_wp2_with fail
  refine hdl.mono ?_
  rintro e w3 ⟨v3, rfl, hown3, hg3⟩
  have hb3 : Below w.heap.size w w3 := bl_grown hb12 hb12.size hg3 hlt2
  obtain ⟨ao3, cp3, rfl, hLR3⟩ := LR.own hown3
  have hz3 : ao3 = none → (out ls rs).length = 0 ∧ cp3 = 0 := by
    rintro rfl
    rcases hown3.2 with ⟨h0, h1⟩ | ⟨g, cap', cur, h0, _⟩
    · simp only [Value.slice.injEq] at h0; exact ⟨h1, h0.2.2⟩
    · simp at h0
  have hol := out_le ls rs
  have hA3 := HA.out.up hb3
  have ub : Below w3.heap.size w3 (w3.alloc (.cells #[.slice ao n cap, .slice ao3 (out ls rs).length cp3] 43)) := bl1 _ _
  have hct := concat_any (w3.alloc (.cells #[.slice ao n cap, .slice ao3 (out ls rs).length cp3] 43)) w3.heap.size ao n cap ls (hA3.up ub) hz ao3 (out ls rs).length cp3 (out ls rs) (hLR3.up ub) hz3 (by omega) (cell_box w3 _ 43 0 _ rfl) (cell_box w3 _ 43 1 _ rfl)
  have hb4 := bl_step hb3 ub
  clear hdl hown3 hg3 hLR3 hA3 ub hb12 hlt2
  go_wp2_with fail
  refine hct.mono ?_
  rintro e w5 ⟨v5, rfl, hown5, hb5⟩
  have HE : Hid (w5.ownsRow w.heap.size 39 4 v5 (n + (out ls rs).length) (flat (ls ++ out ls rs)) ∧ Below w.heap.size w w5) := by
    refine ⟨⟨hown5.1, ?_⟩, bl_step hb4 hb5⟩
    rcases hown5.2 with h0 | ⟨g, cap', cur, h0, h1, h2⟩
    · exact Or.inl h0
    · exact Or.inr ⟨g, cap', cur, h0, Nat.le_trans hb4.size h1, h2⟩
  clear hct hown5 hb5 hb4 hb3
  go_wp2
  go_ret
  exact ⟨v5, rs, rfl, HR.out.1, HR.out.2, HE.out⟩
end Go.Proofs.YtlaihgdfedalmaaGreat.Q

/-
  Rows of things of one's own, from any place on; append.
-/
namespace Go.Proofs.YtlaihgdfedalmaaGreat
open Go.RowKit
set_option linter.unusedVariables false

theorem add_flat (b off j : Nat) : (⟨b, off, none⟩ : Addr).add j = ⟨b, off + j, none⟩ := by unfold Addr.add; split <;> simp_all

/-- So many things of sz cells each in a row, of one's own. -/
def Rw (w : World) (e : TypeId) (sz : Nat) (v : Value) (n : Nat) (cs : List Value) : Prop :=
  cs.length = n * sz ∧ (∀ x ∈ cs, x.oneCell' = true) ∧ ∃ ao cap, v = .slice ao n cap ∧ cap ≤ maxLen ∧ ((ao = none ∧ n = 0 ∧ cap = 0) ∨ ∃ b off N f, ao = some ⟨b, off, none⟩ ∧ w.rowIs b e N f ∧ off + cap * sz ≤ N ∧ n ≤ cap ∧ ∀ j x, cs[j]? = some x → f (off + j) = x)
section
variable {w w' : World} {e : TypeId} {sz n : Nat} {v : Value} {cs : List Value}
theorem Rw.lt (h : Rw w e sz v n cs) : ∀ b, v.ownBlock = some b → b < w.heap.size := by
  intro b hb
  obtain ⟨_, _, ao, cap, rfl, _, ⟨rfl, _⟩ | ⟨b', off, N, f, rfl, hr, _⟩⟩ := h
  · cases hb
  · obtain rfl : b' = b := by simpa [Value.ownBlock] using hb
    exact hr.lt
theorem Rw.frame (h : Rw w e sz v n cs) (hb : ∀ b, v.ownBlock = some b → w'.heap[b]? = w.heap[b]?) : Rw w' e sz v n cs := by
  obtain ⟨h0, h1, ao, cap, rfl, hm, h2 | ⟨b', off, N, f, rfl, hr, h2⟩⟩ := h
  · exact ⟨h0, h1, ao, cap, rfl, hm, .inl h2⟩
  · exact ⟨h0, h1, _, cap, rfl, hm, .inr ⟨b', off, N, f, rfl, hr.of_block (hb b' rfl), h2⟩⟩
theorem Rw.shape (h : Rw w e sz v n cs) : ∃ ao cap, v = .slice ao n cap ∧ n ≤ cap ∧ cap ≤ maxLen := by
  obtain ⟨h0, h1, ao, cap, rfl, hm, ⟨_, rfl, rfl⟩ | ⟨b', off, N, f, rfl, hr, h2, h3, _⟩⟩ := h
  · exact ⟨ao, _, rfl, Nat.le_refl _, hm⟩
  · exact ⟨_, cap, rfl, h3, hm⟩
theorem rw_nil (w : World) (e : TypeId) (sz : Nat) : Rw w e sz (.slice none 0 0) 0 [] := ⟨by simp, by simp, none, 0, rfl, Nat.zero_le _, .inl ⟨rfl, rfl, rfl⟩⟩
theorem Rw.cell {ao : Option Addr} {L cap : Nat} (h : Rw w e sz (.slice ao L cap) n cs) {j : Nat} {x : Value} (hj : cs[j]? = some x) : L = n ∧ ∃ b off, ao = some ⟨b, off, none⟩ ∧ b < w.heap.size ∧ w.cell? ⟨b, off + j, none⟩ = some x := by
  obtain ⟨h0, h1, ao', cap', hv, hm, ⟨rfl, rfl, rfl⟩ | ⟨b, off, N, f, rfl, hr, h2, h3, h4⟩⟩ := h
  · rw [Nat.zero_mul] at h0
    rw [List.length_eq_zero_iff.1 h0] at hj
    simp at hj
  · obtain ⟨rfl, rfl, rfl⟩ : ao = some ⟨b, off, none⟩ ∧ L = n ∧ cap = cap' := by simpa using hv
    have hjl := (List.getElem?_eq_some_iff.1 hj).1
    have : L * sz ≤ cap * sz := Nat.mul_le_mul_right _ h3
    exact ⟨rfl, b, off, rfl, hr.lt, by rw [hr.cell (by omega), h4 j x hj]⟩
end

theorem rw_of_own {w : World} {B : Nat} {e : TypeId} {sz n : Nat} {v : Value} {cs : List Value} (h1 : ∀ x ∈ cs, x.oneCell' = true) (h : w.ownsRow B e sz v n cs) : Rw w e sz v n cs ∧ ∀ b, v.ownBlock = some b → B ≤ b := by
  obtain ⟨hl, h⟩ := h
  rcases h with ⟨rfl, rfl⟩ | ⟨g, cap, cur, rfl, hb, hg, h2, h3, h4, h5⟩
  · exact ⟨⟨hl, h1, none, 0, rfl, Nat.zero_le _, .inl ⟨rfl, rfl, rfl⟩⟩, fun b hb => by cases hb⟩
  · refine ⟨⟨hl, h1, _, cap, rfl, h3, .inr ⟨g, 0, cur.size, fun j => (cur[j]?).getD (.string ⟨#[]⟩), rfl, ⟨cur, hg, rfl, fun i hi => by simp [Array.getElem?_eq_getElem hi]⟩, by omega, h2, fun j x hj => ?_⟩⟩, fun b hb' => ?_⟩
    · have hjl := (List.getElem?_eq_some_iff.1 hj).1
      rw [← h5, List.getElem?_take, if_pos (by omega)] at hj
      rw [Nat.zero_add]
      show (cur[j]?).getD (.string ⟨#[]⟩) = x
      rw [← Array.getElem?_toList, hj]
      rfl
    · have : g = b := by simpa [Value.ownBlock] using hb'
      omega

theorem row_setCells {b : Nat} {t : TypeId} {n : Nat} : ∀ (vs : List Value) (o : Nat) (w : World) (f : Nat → Value), w.rowIs b t n f → ∃ g, (w.setCells b o vs).rowIs b t n g ∧ (∀ j, j < o → g j = f j) ∧ ∀ j x, vs[j]? = some x → g (o + j) = x
  | [], o, w, f, h => ⟨f, h, fun _ _ => rfl, fun j x hj => by simp at hj⟩
  | v :: r, o, w, f, h => by
    obtain ⟨g, h1, h2, h3⟩ := row_setCells r (o + 1) _ _ (h.set o v)
    refine ⟨g, h1, fun j hj => by rw [h2 j (by omega), if_neg (by omega)], fun j x hj => ?_⟩
    cases j with
    | zero => rw [Nat.add_zero, h2 o (by omega), if_pos rfl]; simpa using hj
    | succ j => rw [show o + (j + 1) = o + 1 + j by omega]; exact h3 j x (by simpa using hj)
theorem size_setCells (b : Nat) : ∀ (vs : List Value) (o : Nat) (w : World), (w.setCells b o vs).heap.size = w.heap.size ∧ (w.setCells b o vs).os = w.os ∧ (w.setCells b o vs).tape = w.tape ∧ (w.setCells b o vs).output = w.output ∧ ∀ k, k ≠ b → (w.setCells b o vs).heap[k]? = w.heap[k]?
  | [], o, w => ⟨rfl, rfl, rfl, rfl, fun _ _ => rfl⟩
  | v :: r, o, w => by
    obtain ⟨h1, h2, h3, h4, h5⟩ := size_setCells b r (o + 1) (w.setCell ⟨b, o, none⟩ v)
    exact ⟨h1.trans (by simp [World.setCell]), h2, h3, h4, fun k hk => (h5 k hk).trans (Below.heap_setCell _ _ _ _ hk)⟩

/-- append of one thing. -/
theorem rw_append {w : World} {t e : TypeId} {z : Value} {sz bytes : Nat} (ht : Tryz.prog.underlying t = some (.slice e)) (hinfo : (Tryz.prog.info? e).map (fun i => (i.zero, i.size, i.bytes)) = some (some z, sz, bytes)) (hzs : z.cells.size = sz) (h0 : 0 < sz) (hby : bytes ≤ 100)
    {v : Value} {n : Nat} {cs : List Value} (h : Rw w e sz v n cs) (hn : n ≤ 5000) (ad : Addr) (c : Nat) (news : List Value) (hnl : news.length = sz) (hcell : ∀ j u, news[j]? = some u → w.cell? (ad.add j) = some u) (hone : ∀ u ∈ news, u.oneCell' = true) (ty : TypeId) :
    ∃ v' w', (Builtin.append_ #[t, t] ty #[v, .slice (some ad) 1 c]).run Tryz.prog w = .ok v' w' ∧ Rw w' e sz v' (n + 1) (cs ++ news) ∧ w.grownBy w' v.ownBlock ∧ ∀ b, v'.ownBlock = some b → v.ownBlock = some b ∨ w.heap.size ≤ b := by
  obtain ⟨i, hi, hz0, hz1, hz2⟩ := info_parts hinfo
  obtain ⟨hl, h1, ao, cap, rfl, hm, hcase⟩ := h
  have hb1 : n + 1 ≤ maxLen := by unfold maxLen; omega
  have hb2 : (n + 1) * bytes ≤ 140737488355328 := by
    have : (n + 1) * bytes ≤ 5001 * 100 := Nat.mul_le_mul (by omega) hby
    omega
  have hone2 : ∀ x ∈ cs ++ news, x.oneCell' = true := fun x hx => (List.mem_append.1 hx).elim (h1 x) (hone x)
  rcases hcase with ⟨rfl, rfl, rfl⟩ | ⟨b, off, N, f, rfl, hr, hN, hnc, hf⟩
  · obtain rfl : cs = [] := List.length_eq_zero_iff.1 (by simpa using hl)
    obtain ⟨v', w', r1, r2, r3, _⟩ := run_append_own (P := Tryz.prog) w w.heap.size t ty e i z sz bytes ht hi hz0 hz1 hz2 hzs h0 (.slice none 0 0) 0 [] (World.ownsRow_nil w _ e sz) ad 1 c news (by omega) hcell hone hb1 hb2 (Nat.le_refl _)
    obtain ⟨q1, q2⟩ := rw_of_own (by simpa using hone2) r2
    exact ⟨v', w', r1, by simpa using q1, r3, fun b hb => .inr (q2 b hb)⟩
  · by_cases hroom : n + 1 ≤ cap
    · have hcs : (n + 1) * sz ≤ cap * sz := Nat.mul_le_mul_right _ hroom
      rw [Nat.add_mul, Nat.one_mul] at hcs
      have hrun := run_append_room_cells (P := Tryz.prog) w t ty e i ht hi b off n cap ad 1 c news (by rw [hz1]; omega) hcell hone hroom (fun j hj => by rw [hz1, hr.cell (by omega)]; rfl) (fun j hj => hr.frozen _)
      rw [hz1] at hrun
      obtain ⟨g, g1, g2, g3⟩ := row_setCells news (off + n * sz) w f hr
      obtain ⟨s1, s2, s3, s4, s5⟩ := size_setCells b news (off + n * sz) w
      refine ⟨_, _, hrun, ⟨by rw [List.length_append, hl, hnl, Nat.add_mul, Nat.one_mul], hone2, _, cap, rfl, hm, .inr ⟨b, off, N, g, rfl, g1, hN, hroom, fun j x hj => ?_⟩⟩, ⟨s2, s3, s4, by omega, fun k hk hne => s5 k (fun e => hne (by rw [e]; rfl))⟩, fun b' hb' => .inl hb'⟩
      by_cases hjl : j < cs.length
      · rw [List.getElem?_append_left hjl] at hj
        rw [g2 _ (by omega)]
        exact hf j x hj
      · rw [List.getElem?_append_right (by omega)] at hj
        have := g3 _ x hj
        rwa [show off + n * sz + (j - cs.length) = off + j by omega] at this
    · obtain ⟨v', w', r1, r2, r3⟩ := run_append_arg_grows (P := Tryz.prog) w t ty e i z sz bytes ht hi hz0 hz1 hz2 hzs h0 ⟨b, off, none⟩ n cap cs hl (fun j u hj => by
        have hjl := (List.getElem?_eq_some_iff.1 hj).1
        have : n * sz ≤ cap * sz := Nat.mul_le_mul_right _ hnc
        rw [add_flat, hr.cell (by omega), hf j u hj]) ad 1 c news (by omega) hcell (by omega) hb1 hb2
      obtain ⟨q1, q2⟩ := rw_of_own hone2 r2
      exact ⟨v', w', r1, q1, ⟨r3.os, r3.tape, r3.output, r3.size, fun k hk _ => r3.block k hk (by simp)⟩, fun b hb => .inr (q2 b hb)⟩

end Go.Proofs.YtlaihgdfedalmaaGreat

/-
  Package total's store: a map from labels to messages; what is asked of it, and what is put.
-/
namespace Go.Proofs.YtlaihgdfedalmaaGreat
open Go.RowKit Go.Sort
open Go.Maps (Keyed has size Tidy IsMap)
set_option linter.unusedVariables false

/-- How a message's slice reads: as itself. -/
def vE : Value → Option (DataW Value × List MemPlace)
  | .slice ao n cap => some (.held (.slice ao n cap), [])
  | _ => none
theorem und95 : Tryz.prog.underlying 95 = some (.map 39 37) := by kernel_rfl
theorem zero37 (w : World) : (zeroValue 37).run Tryz.prog w = .ok (.slice none 0 0) w := by kernel_rfl
abbrev Sv := Option Addr × Nat × Nat
def sv (s : Sv) : Value := .slice s.1 s.2.1 s.2.2
theorem vE_sv (s : Sv) : vE (sv s) = some (.held (sv s), []) := rfl
/-- Block b is a map from labels to slices. -/
def StoIs (w : World) (b n : Nat) (m : Lb → Option Sv) : Prop :=
  ∃ D : DataW Value, w.ownsMap Tryz.prog 39 vE b n D ∧ ∀ x k, OkL x → keyOf Tryz.prog 39 (lab x) = some k → has D k = (m x).isSome ∧ D.atKey k (.held (sv (none, 0, 0))) = .held (sv ((m x).getD (none, 0, 0)))
theorem StoIs.lt {w : World} {b n : Nat} {m : Lb → Option Sv} (h : StoIs w b n m) : b < w.heap.size := by
  obtain ⟨D, h, _⟩ := h; exact h.lt
theorem StoIs.of_block {w w' : World} {b n : Nat} {m : Lb → Option Sv} (h : StoIs w b n m) (hb : w'.heap[b]? = w.heap[b]?) : StoIs w' b n m := by
  obtain ⟨D, ⟨es, clock, hb', r⟩, h2⟩ := h
  exact ⟨D, ⟨es, clock, by rw [hb]; exact hb', r⟩, h2⟩
theorem sto_made (w : World) : StoIs (w.alloc (.map #[] 0)) w.heap.size 0 (fun _ => none) :=
  ⟨.map [], World.ownsMap_made w Tryz.prog 39 vE, fun x k hx hk => ⟨by simp [has], by simp [DataW.atKey]⟩⟩
theorem StoIs.look {w : World} {b n : Nat} {m : Lb → Option Sv} (h : StoIs w b n m) {x : Lb} (hx : OkL x) :
    (Instr.lookup 95 (.map (some b)) (lab x) true).run Tryz.prog w = .ok (.tuple #[sv ((m x).getD (none, 0, 0)), .bool (m x).isSome]) w := by
  obtain ⟨D, ho, hD⟩ := h
  obtain ⟨k, hk⟩ := Q.key26 hx
  obtain ⟨v, ps, hrun, hv⟩ := ho.look_ok Q.keyed26 und95 (zero37 w) (vE_sv (none, 0, 0)) hk
  obtain ⟨h1, h2⟩ := hD x k hx hk
  rw [hrun, h1]
  rw [h2] at hv
  cases v <;> simp [vE] at hv
  simp [hv]
theorem StoIs.store {w : World} {b n : Nat} {m : Lb → Option Sv} (h : StoIs w b n m) (hn : n < maxLen) {x : Lb} (hx : OkL x) (s : Sv) :
    ∃ w', (Instr.mapUpdate 95 (.map (some b)) (lab x) (sv s)).run Tryz.prog w = .ok () w' ∧ StoIs w' b (n + 1) (fun y => if y = x then some s else m y) ∧ w.grownBy w' (some b) := by
  obtain ⟨D, ho, hD⟩ := h
  obtain ⟨k, hk⟩ := Q.key26 hx
  obtain ⟨w', hrun, ho', hg⟩ := ho.update Q.keyed26 und95 hn hk (vE_sv s)
  refine ⟨w', hrun, ⟨_, ho', fun y ky hy hky => ?_⟩, hg⟩
  by_cases e : y = x
  · subst e
    obtain rfl : k = ky := by rw [hk] at hky; exact Option.some.inj hky
    rw [Maps.has_put_same ho.isMap (Q.keyed26.key hk), Maps.atKey_put_same ho.isMap (Q.keyed26.key hk)]
    simp
  · have hne : ky ≠ k := fun he => e (Q.lab_inj (Q.keyed26.inj (he ▸ hky) hk))
    rw [Maps.has_put_other hne, Maps.atKey_put_other hne]
    simp [e, hD y ky hy hky]
theorem StoIs.mono {w : World} {b n n' : Nat} {m : Lb → Option Sv} (h : StoIs w b n m) (hn : n ≤ n') : StoIs w b n' m := by
  obtain ⟨D, ho, hD⟩ := h
  exact ⟨D, ho.mono hn, hD⟩
theorem int_inv {d : Nat} {t : TypeId} {q : IntKind} {l : List Value} {r : List Lit} (hu : Tryz.prog.underlying t = some (.int q)) (h : Tryz.prog.keyLits (d + 1) t l = some r) : ∃ n, l = [.int q n] ∧ (Lit.int q n).wf = true := by
  unfold Program.keyLits at h
  rw [hu] at h
  rcases l with _ | ⟨a, _ | ⟨b, l⟩⟩
  · simp at h
  · cases a <;> simp at h
    rename_i q' n
    obtain ⟨⟨rfl, hw⟩, _⟩ := h
    exact ⟨n, rfl, hw⟩
  · cases a <;> simp at h
theorem wf_u64_inv {n : Int} (h : (Lit.int .u64 n).wf = true) : ∃ k : Nat, n = (k : Int) ∧ k < 18446744073709551616 := by
  have h1 : IntKind.min .u64 = 0 := by decide
  have h2 : IntKind.max .u64 = 18446744073709551615 := by decide
  simp only [Lit.wf, h1, h2, Bool.and_eq_true, decide_eq_true_eq] at h
  exact ⟨n.toNat, by omega, by omega⟩
theorem wf_i64_inv {n : Int} (h : (Lit.int .i64 n).wf = true) : In n := by
  have h1 : IntKind.min .i64 = -9223372036854775808 := by decide
  have h2 : IntKind.max .i64 = 9223372036854775807 := by decide
  simp only [Lit.wf, h1, h2, Bool.and_eq_true, decide_eq_true_eq] at h
  exact ⟨by omega, by omega⟩
set_option maxRecDepth 100000 in
theorem vid_inv {d : Nat} {l : List Value} {r : List Lit} (h : Tryz.prog.keyLits (d + 2) 33 l = some r) : ∃ (n : Nat) (p : Int), l = [.int .u64 (n : Nat), .int .i64 p] ∧ n < 18446744073709551616 ∧ In p := by
  unfold Program.keyLits at h
  rw [Tryz.underlying33] at h
  simp [cells24, cells22, cells3] at h
  obtain ⟨hl, h⟩ := h
  obtain ⟨a, b, rfl⟩ : ∃ a b, l = [a, b] := by
    match l, hl with
    | [a, b], _ => exact ⟨a, b, rfl⟩
  simp at h
  cases ha : Tryz.prog.keyLits (d + 1) 31 [a] with
  | none => rw [ha] at h; simp at h
  | some r1 =>
    cases hb : Tryz.prog.keyLits (d + 1) 3 [b] with
    | none => rw [ha, hb] at h; simp at h
    | some r2 =>
      obtain ⟨n, h1, h2⟩ := int_inv Tryz.underlying31 ha
      obtain ⟨p, h3, h4⟩ := int_inv Tryz.underlying3 hb
      obtain ⟨k, rfl, hk⟩ := wf_u64_inv h2
      simp at h1 h3
      exact ⟨k, p, by rw [h1, h3], hk, wf_i64_inv h4⟩
set_option maxRecDepth 100000 in
/-- Every key is a label's. -/
theorem key_inv {key : Value} {kl : Lit} (h : keyOf Tryz.prog 39 key = some kl) : ∃ x : { x : Lb // OkL x }, key = lab x.1 := by
  unfold keyOf at h
  rw [Tryz.underlying39] at h
  simp only [Q.kt26, Q.tsz] at h
  simp at h
  obtain ⟨hf, r, h, _⟩ := h
  have hl : key.cells.toList.length = 4 ∧ key = .agg key.cells := by
    cases key <;> simp [Value.formed, Tryz.underlying39, cells26, Value.cells] at hf ⊢
    exact hf
  rw [hl.2]
  obtain ⟨hl, _⟩ := hl
  generalize hL : key.cells.toList = l at *
  have hk : key.cells = l.toArray := by rw [← hL]
  rw [hk]
  unfold Program.keyLits at h
  rw [Tryz.underlying39] at h
  simp [cells26, cells24, cells22, cells3] at h
  obtain ⟨a, b, c, d, rfl⟩ : ∃ a b c d, l = [a, b, c, d] := by
    match l, hl with
    | [a, b, c, d], _ => exact ⟨a, b, c, d, rfl⟩
  simp at h
  cases ha : Tryz.prog.keyLits 260 33 [a, b] with
  | none => rw [ha] at h; simp at h
  | some r1 =>
    cases hb : Tryz.prog.keyLits 260 31 [c] with
    | none => rw [ha, hb] at h; simp at h
    | some r2 =>
      cases hc : Tryz.prog.keyLits 260 3 [d] with
      | none => rw [ha, hb, hc] at h; simp at h
      | some r3 =>
        obtain ⟨n, p, h1, h2, h3⟩ := vid_inv (d := 258) ha
        obtain ⟨s, h4, h5⟩ := int_inv (d := 259) Tryz.underlying31 hb
        obtain ⟨q, h6, h7⟩ := int_inv (d := 259) Tryz.underlying3 hc
        obtain ⟨k, rfl, hk⟩ := wf_u64_inv h5
        simp at h1 h4 h6
        refine ⟨⟨(n, p, k, q), h2, h3, hk, wf_i64_inv h7⟩, ?_⟩
        rw [h1.1, h1.2, h4, h6]
        rfl

/-- One more, if there is none of its label. -/
def putM (m : Lb → Option Sv) (x : Lb) (s : Sv) : Lb → Option Sv := fun y => if y = x ∧ (m x).isNone then some s else m y
set_option maxRecDepth 10000 in
theorem put_any (w : World) (b n : Nat) (m : Lb → Option Sv) (h : StoIs w b n m) (hn : n < maxLen) (x : Lb) (hx : OkL x) (s : Sv) :
    Calls Tryz.prog 59 #[.map (some b), ent x (sv s)] w fun e w' => e = .returned (.tuple #[]) ∧ StoIs w' b (n + 1) (putM m x s) ∧ w.grownBy w' (some b) := by
  have hS : StoIs (w.alloc (.cells #[.int .u64 (x.1 : Nat), .int .i64 x.2.1, .int .u64 (x.2.2.1 : Nat), .int .i64 x.2.2.2, sv s] 41)) b n m := h.of_block (Below.heap_alloc _ _ _ h.lt)
  have hlk := hS.look hx
  have hg0 : w.grownBy (w.alloc (.cells #[.int .u64 (x.1 : Nat), .int .i64 x.2.1, .int .u64 (x.2.2.1 : Nat), .int .i64 x.2.2.2, sv s] 41)) (some b) := World.grownBy_alloc w _ _
  cases hm : m x with
  | some u =>
    have hM : putM m x s = m := by funext y; unfold putM; simp [hm]
    rw [hM]
    rw [hm] at hlk
    have hfin := hS.mono (Nat.le_succ n)
    unfold lab sv at hlk
    unfold ent sv at *
    clear h hM hm hn hx hS
    go_enter Tryz.func59, Tryz.ntmps59
    go_wp2
    go_end0
    exact ⟨rfl, hfin, hg0⟩
  | none =>
    have hM : putM m x s = fun y => if y = x then some s else m y := by funext y; unfold putM; simp [hm]
    rw [hM]
    rw [hm] at hlk
    obtain ⟨w2, hrun, hS2, hg2⟩ := hS.store hn hx s
    have hg := hg0.trans hg2
    unfold lab sv at hlk hrun
    unfold ent sv at *
    clear h hM hm hn hx hS hg0 hg2
    go_enter Tryz.func59, Tryz.ntmps59
    go_wp2
    go_end0
    exact ⟨rfl, hS2, hg⟩
end Go.Proofs.YtlaihgdfedalmaaGreat
