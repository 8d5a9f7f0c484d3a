/-
  What the texts of package label lean on: steps of a drawn region, and worlds that have grown.
  Views' numbers: which of two is greater, and which are right (package ident), and the document's answers.
  Labels: which of two is greater, and which are right; the document's answers.
  Labels: which are right, and which of two is less: the document's answers.
  Rows of labels in memory; which of two labels are one; the document's In and Same.
  The document's Same: are two lists of labels one?
  A set of labels: a map from labels to nothing.
  What package label's among tells: whether a label is one of a list.
  slices.IndexFunc and slices.DeleteFunc of labels, at what among tells.
  A block of labels that is written to.
  slices.DeleteFunc of labels, at what among tells: those that are not in the set.
-/
import Derived.Test.YtlaihgdfedalmaaGreatProg
import Derived.WalkKit
import Derived.WalkSpells
import Derived.WalkLawsBesides
import Derived.Outline
import Derived.BigQuiet
import Derived.Below
import Derived.OwnWalk
import Derived.Deep.QuietTactic
import Derived.Deep.RegionHeld3
import Derived.Laws.AppendOwn
import Derived.Laws.OwnMore
import Derived.Laws.StructEq
import Derived.Maps.AppendAt
import Derived.Sort.Grow
import Derived.Laws.CopyRow
import Derived.Lib.SliceRun
namespace Go.Proofs.YtlaihgdfedalmaaGreat
open Go.RowKit Go.Sort
set_option linter.unusedVariables false

theorem ret_int {k : IntKind} {a b : Int} (h : a = b) : Ending.returned (.int k a) = .returned (.int k b) := by rw [h]
theorem ret_bool {a b : Bool} (h : a = b) : Ending.returned (.bool a) = .returned (.bool b) := by rw [h]
theorem take_first {P : Program} {md : Region.Mode} {l : List Oper} {Q : Exit → Act → World → Prop} {S : World → Prop} (i : Nat) {oi : Oper} {v : Value} {fuel : Nat} {listed : Array Bool} {a : Act} {w : World} (hi : l[i]? = some oi)
    (hs : Region.noSelect l.toArray = true) (hf : Region.free md l.toArray listed i = true) (hr : (Region.ready md l.toArray listed).contains i = true)
    (hQ : ∀ c a w, Q (.panic c) (a.put oi.dst v) w → Q (.panic c) a w) (hy : YieldsIf P l.toArray S oi v a) (hS : S w)
    (h : wpAnyH P md l.toArray Q S fuel (listed.setIfInBounds i true) (a.put oi.dst v) w) : wpAnyH P md l.toArray Q S (fuel + 1) listed a w :=
  wpAnyH_take (by simpa using hi) hs hf hr hQ hy hS h
theorem comes_up {P : Program} {md : Region.Mode} {l : List Oper} {Q : Exit → Act → World → Prop} {S : World → Prop} (i : Nat) {o : Oper} {fuel : Nat} {listed : Array Bool} {a : Act} {w : World} (hi : l[i]? = some o) (hr : Region.ready md l.toArray listed = [i])
    (h : ∀ K' : Act → World → Prop, Shut (∀ a w, S w → (S w → wpAnyH P md l.toArray Q S fuel (listed.setIfInBounds i true) a w) → K' a w) → if Region.wanted o (yielded l.toArray a.tmps) = true then Oper.wp P o a w K' Q else K' (a.put o.dst undef) w) :
    wpAnyH P md l.toArray Q S (fuel + 1) listed a w :=
  wpAnyH_ready (rs := [i]) hr (by simp) (AllReadyH.cons (by simpa using hi) h AllReadyH.nil)
theorem comes_up2 {P : Program} {md : Region.Mode} {l : List Oper} {Q : Exit → Act → World → Prop} {S : World → Prop} (i j : Nat) {o o' : Oper} {fuel : Nat} {listed : Array Bool} {a : Act} {w : World} (hi : l[i]? = some o) (hj : l[j]? = some o') (hr : Region.ready md l.toArray listed = [i, j])
    (h : ∀ K' : Act → World → Prop, Shut (∀ a w, S w → (S w → wpAnyH P md l.toArray Q S fuel (listed.setIfInBounds i true) a w) → K' a w) → if Region.wanted o (yielded l.toArray a.tmps) = true then Oper.wp P o a w K' Q else K' (a.put o.dst undef) w)
    (h' : ∀ K' : Act → World → Prop, Shut (∀ a w, S w → (S w → wpAnyH P md l.toArray Q S fuel (listed.setIfInBounds j true) a w) → K' a w) → if Region.wanted o' (yielded l.toArray a.tmps) = true then Oper.wp P o' a w K' Q else K' (a.put o'.dst undef) w) :
    wpAnyH P md l.toArray Q S (fuel + 1) listed a w :=
  wpAnyH_ready (rs := [i, j]) hr (by simp) (AllReadyH.cons (by simpa using hi) h (AllReadyH.cons (by simpa using hj) h' AllReadyH.nil))
theorem step_append_run {P : Program} {ops : Array Oper} {o : Oper} {a : Act} {w : World} {K : Act → World → Prop} {Q : Exit → Act → World → Prop} {E : Prop}
    (hg : o.guard = none) (s x : Operand) (t : TypeId) (hop : o.op = Op.call { callee := Callee.builtin Builtin.append, args := #[s, x], argTypes := #[t, t] })
    (v y v' : Value) (w' : World) (hs : a.eval s = v) (hx : a.eval x = y) (hrun : (Builtin.append_ #[t, t] o.type #[v, y]).run P w = .ok v' w')
    (hK : K (a.put o.dst v') w') : if Region.wanted o (yielded ops a.tmps) = true then Oper.wp P o a w K Q else E := by
  have hw : Region.wanted o (yielded ops a.tmps) = true := by simp [Region.wanted, hg]
  rw [if_pos hw]
  unfold Oper.wp
  simp [execOp, hop, resolve, invoke, builtin, hs, hx, hrun, Result.andThen]
  exact hK
theorem info_parts {e : TypeId} {z : Value} {s b : Nat} (h : (Tryz.prog.info? e).map (fun i => (i.zero, i.size, i.bytes)) = some (some z, s, b)) : ∃ i, Tryz.prog.info? e = some i ∧ i.zero = some z ∧ i.size = s ∧ i.bytes = b := by
  obtain ⟨i, hi, hz⟩ := Option.map_eq_some_iff.1 h
  simp only [Prod.mk.injEq] at hz
  exact ⟨i, hi, hz.1, hz.2.1, hz.2.2⟩

theorem bl_drewN {B : Nat} {w w' : World} (h : Below B w w') (q : Nat) : Below B w (w'.drewN q) := ⟨h.os, h.tape, h.output, h.size, h.block⟩
theorem bl_grown {B : Nat} {w a b : World} {row : Option Nat} (h : Below B w a) (hB : B ≤ a.heap.size) (g : a.grownBy b row) (hr : ∀ k, row = some k → B ≤ k) : Below B w b :=
  ⟨g.os.trans h.os, g.tape.trans h.tape, g.output.trans h.output, Nat.le_trans h.size g.size, fun k hk => (g.block k (by omega) (fun e => by have := hr k e.symm; omega)).trans (h.block k hk)⟩
theorem bl_step {w a b : World} (h : Below w.heap.size w a) (k : Below a.heap.size a b) : Below w.heap.size w b := h.trans (k.mono h.size)
theorem bl2 (w : World) (o1 o2 : Obj) : Below w.heap.size w ((w.alloc o1).alloc o2) := ((Below.refl _ _).alloc (Nat.le_refl _) _).alloc (by simp) _
theorem bl1 (w : World) (o1 : Obj) : Below w.heap.size w (w.alloc o1) := (Below.refl _ _).alloc (Nat.le_refl _) _

/-- Nothing of old has turned, and no draw was taken back. -/
structure Up (w w' : World) : Prop where
  bl : Below w.heap.size w w'
  dr : w.drawn ≤ w'.drawn
theorem Up.refl (w : World) : Up w w := ⟨Below.refl _ _, Nat.le_refl _⟩
theorem Up.trans {a b c : World} (h : Up a b) (k : Up b c) : Up a c := ⟨bl_step h.bl k.bl, Nat.le_trans h.dr k.dr⟩
theorem Up.alloc {a b : World} (h : Up a b) (o : Obj) : Up a (b.alloc o) := ⟨h.bl.alloc h.bl.size o, h.dr⟩
theorem Up.drewN {a b : World} (h : Up a b) (n : Nat) : Up a (b.drewN n) := ⟨bl_drewN h.bl n, Nat.le_trans h.dr (Nat.le_add_right _ _)⟩
theorem Up.drew {a b : World} (h : Up a b) : Up a b.drew := ⟨h.bl.drew, Nat.le_trans h.dr (Nat.le_add_right _ _)⟩
theorem Up.cell {a b : World} (h : Up a b) {ad : Addr} {v : Value} (hc : a.cell? ad = some v) : b.cell? ad = some v := (h.bl.cell (World.block_lt_of_cell? a _ hc)).trans hc
theorem Up.grow {w w' : World} (h : Up w w') : ∃ q os, w' = grow (w.drewN q) os := by
  refine ⟨w'.drawn - w.drawn, w'.heap.extract w.heap.size w'.heap.size, ?_⟩
  obtain ⟨hb, hd⟩ := h
  have he : w'.heap = w.heap ++ w'.heap.extract w.heap.size w'.heap.size := by
    apply Array.ext_getElem?
    intro i
    rw [Array.getElem?_append]
    split
    · rename_i hi; exact hb.block i hi
    · rename_i hi
      rw [Array.getElem?_extract]
      have hs := hb.size
      by_cases h2 : i < w'.heap.size
      · rw [if_pos (by simp; omega), show w.heap.size + (i - w.heap.size) = i by omega]
      · rw [if_neg (by simp; omega), Array.getElem?_eq_none (by omega)]
  have e1 := hb.os
  have e2 := hb.tape
  have e3 := hb.output
  cases w'
  cases w
  simp only [Sort.grow, World.drewN] at *
  simp only [World.mk.injEq]
  exact ⟨he, e2, by omega, e1, e3⟩
theorem cell_box (w : World) (c : Array Value) (t : TypeId) (j : Nat) (v : Value) (hj : c[j]? = some v) : (w.alloc (.cells c t)).cell? ⟨w.heap.size, j, none⟩ = some v := by
  have hb : (w.alloc (.cells c t)).heap[w.heap.size]? = some (.cells c t (0, 0)) := heap_alloc_new _ _
  unfold World.cell?; rw [hb]; simpa using hj
end Go.Proofs.YtlaihgdfedalmaaGreat
namespace Go.Proofs.YtlaihgdfedalmaaGreat
open Go.RowKit
set_option linter.unusedVariables false

/-- Which of two numbers is greater. -/
def sgn (x y : Int) : Int := if x < y then -1 else if y < x then 1 else 0
/-- Which of two views' numbers is greater. -/
def cmpV (n1 : Nat) (p1 : Int) (n2 : Nat) (p2 : Int) : Int := if n1 < n2 then -1 else if n2 < n1 then 1 else sgn p1 p2
def vid (n : Nat) (p : Int) : Value := .agg #[.int .u64 (n : Nat), .int .i64 p]

theorem nanU (w : World) (x : Int) : Calls Tryz.prog 146 #[.int .u64 x] w fun e w' => e = .returned (.bool false) ∧ w = w' := by
  go_enter Tryz.func146, Tryz.ntmps146
  go_wp2
  go_ret
  exact ⟨ret_bool (by simp), rfl⟩
theorem nanI (w : World) (x : Int) : Calls Tryz.prog 147 #[.int .i64 x] w fun e w' => e = .returned (.bool false) ∧ w = w' := by
  go_enter Tryz.func147, Tryz.ntmps147
  go_wp2
  go_ret
  exact ⟨ret_bool (by simp), rfl⟩
theorem cmpU (w : World) (x y : Int) : Calls Tryz.prog 114 #[.int .u64 x, .int .u64 y] w fun e w' => e = .returned (.int .i64 (sgn x y)) ∧ w = w' := by
  unfold sgn
  by_cases h1 : x < y
  · rw [if_pos h1]
    go_enter Tryz.func114, Tryz.ntmps114
    go_wp2_with (first | (go_at_call 146; refine (nanU _ _).mono ?_; rintro e w' ⟨rfl, rfl⟩))
    go_ret
    exact ⟨rfl, rfl⟩
  · rw [if_neg h1]
    by_cases h2 : y < x
    · rw [if_pos h2]
      go_enter Tryz.func114, Tryz.ntmps114
      go_wp2_with (first | (go_at_call 146; refine (nanU _ _).mono ?_; rintro e w' ⟨rfl, rfl⟩))
      go_ret
      exact ⟨rfl, rfl⟩
    · rw [if_neg h2]
      go_enter Tryz.func114, Tryz.ntmps114
      go_wp2_with (first | (go_at_call 146; refine (nanU _ _).mono ?_; rintro e w' ⟨rfl, rfl⟩))
      go_ret
      exact ⟨rfl, rfl⟩
theorem cmpI (w : World) (x y : Int) : Calls Tryz.prog 115 #[.int .i64 x, .int .i64 y] w fun e w' => e = .returned (.int .i64 (sgn x y)) ∧ w = w' := by
  unfold sgn
  by_cases h1 : x < y
  · rw [if_pos h1]
    go_enter Tryz.func115, Tryz.ntmps115
    go_wp2_with (first | (go_at_call 147; refine (nanI _ _).mono ?_; rintro e w' ⟨rfl, rfl⟩))
    go_ret
    exact ⟨rfl, rfl⟩
  · rw [if_neg h1]
    by_cases h2 : y < x
    · rw [if_pos h2]
      go_enter Tryz.func115, Tryz.ntmps115
      go_wp2_with (first | (go_at_call 147; refine (nanI _ _).mono ?_; rintro e w' ⟨rfl, rfl⟩))
      go_ret
      exact ⟨rfl, rfl⟩
    · rw [if_neg h2]
      go_enter Tryz.func115, Tryz.ntmps115
      go_wp2_with (first | (go_at_call 147; refine (nanI _ _).mono ?_; rintro e w' ⟨rfl, rfl⟩))
      go_ret
      exact ⟨rfl, rfl⟩


theorem compare_any (w : World) (n1 : Nat) (p1 : Int) (n2 : Nat) (p2 : Int) : Calls Tryz.prog 90 #[vid n1 p1, vid n2 p2] w fun e w' => e = .returned (.int .i64 (cmpV n1 p1 n2 p2)) ∧ Up w w' := by
  have h1 := fun W => cmpU W n1 n2
  have h2 := fun W => cmpI W p1 p2
  have hs : sgn (n1 : Int) (n2 : Int) = if n1 < n2 then -1 else if n2 < n1 then 1 else 0 := by
    unfold sgn; by_cases a : n1 < n2
    · rw [if_pos a, if_pos (by omega)]
    · rw [if_neg a, if_neg (by omega)]
      by_cases b : n2 < n1
      · rw [if_pos b, if_pos (by omega)]
      · rw [if_neg b, if_neg (by omega)]
  rw [hs] at h1
  clear hs
  unfold cmpV vid
  generalize sgn p1 p2 = c2 at *
  by_cases a : n1 < n2
  · simp only [if_pos a] at h1 ⊢
    clear a
    go_enter Tryz.func90, Tryz.ntmps90
    go_wp2_with fail
    refine (h1 _).mono ?_
    rintro e w' ⟨rfl, rfl⟩
    go_wp2
    go_ret
    exact ⟨rfl, ((Up.refl _).alloc _).alloc _⟩
  · simp only [if_neg a] at h1 ⊢
    by_cases b : n2 < n1
    · simp only [if_pos b] at h1 ⊢
      clear a b
      go_enter Tryz.func90, Tryz.ntmps90
      go_wp2_with fail
      refine (h1 _).mono ?_
      rintro e w' ⟨rfl, rfl⟩
      go_wp2
      go_ret
      exact ⟨rfl, ((Up.refl _).alloc _).alloc _⟩
    · simp only [if_neg b] at h1 ⊢
      clear a b
      go_enter Tryz.func90, Tryz.ntmps90
      go_wp2_with fail
      refine (h1 _).mono ?_
      rintro e w' ⟨rfl, rfl⟩
      go_wp2_with fail
      refine (h2 _).mono ?_
      rintro e w' ⟨rfl, rfl⟩
      go_wp2
      go_ret
      exact ⟨rfl, ((Up.refl _).alloc _).alloc _⟩

/-- Is a view's number right? -/
def formV (n : Nat) (p : Int) : Bool := decide (0 ≤ p) && decide (p ≤ if n = 0 then 0 else 15)
theorem great_any (w : World) (n : Nat) : Calls Tryz.prog 151 #[.int .u64 (n : Nat)] w fun e w' => e = .returned (.int .i64 (if n = 0 then 0 else 15)) ∧ w = w' := by
  by_cases h0 : n = 0
  · subst h0
    go_enter Tryz.func151, Tryz.ntmps151
    go_wp2
    go_ret
    exact ⟨rfl, rfl⟩
  · rw [if_neg h0]
    have hI : ((n : Int) == 0) = false := by simp; omega
    go_enter Tryz.func151, Tryz.ntmps151
    go_wp2
    go_ret
    exact ⟨rfl, rfl⟩

set_option maxRecDepth 10000 in
theorem form_any (w : World) (n : Nat) (p : Int) : Calls Tryz.prog 118 #[vid n p] w fun e w' => e = .returned (.bool (formV n p)) ∧ Up w w' := by
  have hg := fun W => great_any W n
  unfold formV vid
  generalize (if n = 0 then (0 : Int) else 15) = g at *
  by_cases h1 : 0 ≤ p
  · have hd : decide (0 ≤ p) = true := by simpa using h1
    rw [hd]
    have hgs := fun W => (hg W).mono (fun e w' ⟨a, b⟩ => (⟨a, b.symm⟩ : e = _ ∧ w' = W))
    go_enter Tryz.func118, Tryz.ntmps118
    go_wp2_with fail
    go_quiet (first | (go_at_call 151; refine Calls.quiet_of_same (hgs _)))
    go_wp2
    go_ret
    exact ⟨ret_bool (by simp), ((Up.refl _).alloc _).drewN _⟩
  · have hd : decide (0 ≤ p) = false := by simpa using h1
    rw [hd]
    have hgs := fun W => (hg W).mono (fun e w' ⟨a, b⟩ => (⟨a, b.symm⟩ : e = _ ∧ w' = W))
    go_enter Tryz.func118, Tryz.ntmps118
    go_wp2_with fail
    go_quiet (first | (go_at_call 151; refine Calls.quiet_of_same (hgs _)))
    go_wp2
    go_ret
    exact ⟨ret_bool (by simp), ((Up.refl _).alloc _).drewN _⟩

end Go.Proofs.YtlaihgdfedalmaaGreat
namespace Go.Proofs.YtlaihgdfedalmaaGreat
open Go.RowKit Go.Sort
set_option linter.unusedVariables false

/-- A label: its view's number, its own, and whose it is. -/
abbrev Lb := Nat × Int × Nat × Int
def lab (x : Lb) : Value := .agg #[.int .u64 (x.1 : Nat), .int .i64 x.2.1, .int .u64 (x.2.2.1 : Nat), .int .i64 x.2.2.2]
/-- Which of two labels is greater. -/
def cmpL (x y : Lb) : Int := if cmpV x.1 x.2.1 y.1 y.2.1 ≠ 0 then cmpV x.1 x.2.1 y.1 y.2.1 else if sgn x.2.2.1 y.2.2.1 ≠ 0 then sgn x.2.2.1 y.2.2.1 else sgn x.2.2.2 y.2.2.2

set_option maxRecDepth 10000 in
theorem or_any (w : World) (B : Nat) (c0 c1 c2 : Int) (h0 : w.cell? ⟨B, 0, none⟩ = some (.int .i64 c0)) (h1 : w.cell? ⟨B, 1, none⟩ = some (.int .i64 c1)) (h2 : w.cell? ⟨B, 2, none⟩ = some (.int .i64 c2)) :
    Calls Tryz.prog 181 #[.slice (some ⟨B, 0, none⟩) 3 3] w fun e w' => e = .returned (.int .i64 (if c0 ≠ 0 then c0 else if c1 ≠ 0 then c1 else c2)) ∧ w = w' := by
  by_cases a0 : c0 = 0
  · subst a0
    simp only [ne_eq, not_true_eq_false, if_false]
    by_cases a1 : c1 = 0
    · subst a1
      simp only [not_true_eq_false, if_false]
      by_cases a2 : c2 = 0
      · subst a2
        go_enter Tryz.func181, Tryz.ntmps181
        go_wp2
        refine wp_loop_rounds 4 ?_
        rw [rounds_succ]
        go_wp2
        rw [rounds_succ]
        go_wp2
        rw [rounds_succ]
        go_wp2
        rw [rounds_succ]
        go_wp2
        go_ret
        exact ⟨rfl, rfl⟩
      · have a2' : (c2 != 0) = true := by simpa using a2
        go_enter Tryz.func181, Tryz.ntmps181
        go_wp2
        refine wp_loop_rounds 3 ?_
        rw [rounds_succ]
        go_wp2
        rw [rounds_succ]
        go_wp2
        rw [rounds_succ]
        go_wp2
        go_ret
        exact ⟨rfl, rfl⟩
    · have a1' : (c1 != 0) = true := by simpa using a1
      rw [if_pos a1]
      go_enter Tryz.func181, Tryz.ntmps181
      go_wp2
      refine wp_loop_rounds 2 ?_
      rw [rounds_succ]
      go_wp2
      rw [rounds_succ]
      go_wp2
      go_ret
      exact ⟨rfl, rfl⟩
  · have a0' : (c0 != 0) = true := by simpa using a0
    rw [if_pos a0]
    go_enter Tryz.func181, Tryz.ntmps181
    go_wp2
    refine wp_loop_rounds 1 ?_
    rw [rounds_succ]
    go_wp2
    go_ret
    exact ⟨rfl, rfl⟩

/-- A label in a block. -/
def Bx (B : Nat) (n : Nat) (p : Int) (s : Nat) (q : Int) (wx : World) : Prop :=
  wx.cell? ⟨B, 0, none⟩ = some (.int .u64 (n : Nat)) ∧ wx.cell? ⟨B, 1, none⟩ = some (.int .i64 p) ∧ wx.cell? ⟨B, 2, none⟩ = some (.int .u64 (s : Nat)) ∧ wx.cell? ⟨B, 3, none⟩ = some (.int .i64 q)
theorem Bx.up {B n s : Nat} {p q : Int} {w w' : World} (h : Bx B n p s q w) (hb : Up w w') : Bx B n p s q w' := ⟨hb.cell h.1, hb.cell h.2.1, hb.cell h.2.2.1, hb.cell h.2.2.2⟩
theorem bx_new (w : World) (n : Nat) (p : Int) (s : Nat) (q : Int) (t : TypeId) : Bx w.heap.size n p s q (w.alloc (.cells #[.int .u64 (n : Nat), .int .i64 p, .int .u64 (s : Nat), .int .i64 q] t)) :=
  ⟨cell_box w _ t 0 _ rfl, cell_box w _ t 1 _ rfl, cell_box w _ t 2 _ rfl, cell_box w _ t 3 _ rfl⟩

set_option maxRecDepth 10000 in
set_option maxHeartbeats 2000000 in
theorem compareL_any (w : World) (x y : Lb) : Calls Tryz.prog 170 #[lab x, lab y] w fun e w' => e = .returned (.int .i64 (cmpL x y)) ∧ Up w w' := by
  obtain ⟨n1, p1, s1, q1⟩ := x
  obtain ⟨n2, p2, s2, q2⟩ := y
  unfold cmpL lab
  simp only
  have c1 := fun W => compare_any W n1 p1 n2 p2
  have c2 := fun W => cmpU W s1 s2
  have c3 := fun W => cmpI W q1 q2
  have c4 := fun W B h0 h1 h2 => or_any W B (cmpV n1 p1 n2 p2) (sgn s1 s2) (sgn q1 q2) h0 h1 h2
  unfold vid at c1
  generalize cmpV n1 p1 n2 p2 = d1 at *
  generalize sgn s1 s2 = d2 at *
  generalize sgn q1 q2 = d3 at *
  generalize (if d1 ≠ 0 then d1 else if d2 ≠ 0 then d2 else d3) = d4 at *
  have b1 := (bx_new w n1 p1 s1 q1 39).up ((Up.refl _).alloc (.cells #[.int .u64 (n2 : Nat), .int .i64 p2, .int .u64 (s2 : Nat), .int .i64 q2] 39))
  have b2 := bx_new (w.alloc (.cells #[.int .u64 (n1 : Nat), .int .i64 p1, .int .u64 (s1 : Nat), .int .i64 q1] 39)) n2 p2 s2 q2 39
  have at0 : Bx w.heap.size n1 p1 s1 q1 _ ∧ Bx (w.heap.size + 1) n2 p2 s2 q2 _ := ⟨b1, by simpa using b2⟩
  have bl0 : Up w ((w.alloc (.cells #[.int .u64 (n1 : Nat), .int .i64 p1, .int .u64 (s1 : Nat), .int .i64 q1] 39)).alloc (.cells #[.int .u64 (n2 : Nat), .int .i64 p2, .int .u64 (s2 : Nat), .int .i64 q2] 39)).drew := (((Up.refl _).alloc _).alloc _).drew
  clear b1 b2
  go_enter Tryz.func170, Tryz.ntmps170
  go_wp2_with fail
  refine wp_region_noPanic ?_
  refine wp_region_held_drew (S := fun wx => Bx w.heap.size n1 p1 s1 q1 wx ∧ Bx (w.heap.size + 1) n2 p2 s2 q2 wx) (by kernel_rfl) at0 (fun hHeld => ?_)
  refine take_first 0 (v := ?_) rfl (by kernel_rfl) (by kernel_rfl) (by kernel_rfl) (fun _ _ _ h => h) (Or.inl ⟨by rfl, by intro wx hSw; obtain ⟨⟨hSw1, hSw2, hSw3, hSw4⟩, hSw5, hSw6, hSw7, hSw8⟩ := hSw; go_simp; try with_reducible rfl⟩) (by assumption) ?_
  (try simp only [Act.put, List.setIfInBounds_toArray, List.set_cons_zero, List.set_cons_succ])
  refine take_first 1 (v := ?_) rfl (by kernel_rfl) (by kernel_rfl) (by kernel_rfl) (fun _ _ _ h => h) (Or.inl ⟨by rfl, by intro wx hSw; obtain ⟨⟨hSw1, hSw2, hSw3, hSw4⟩, hSw5, hSw6, hSw7, hSw8⟩ := hSw; go_simp; try with_reducible rfl⟩) (by assumption) ?_
  (try simp only [Act.put, List.setIfInBounds_toArray, List.set_cons_zero, List.set_cons_succ])
  refine take_first 2 (v := ?_) rfl (by kernel_rfl) (by kernel_rfl) (by kernel_rfl) (fun _ _ _ h => h) (Or.inl ⟨by rfl, by intro wx hSw; obtain ⟨⟨hSw1, hSw2, hSw3, hSw4⟩, hSw5, hSw6, hSw7, hSw8⟩ := hSw; go_simp; try with_reducible rfl⟩) (by assumption) ?_
  (try simp only [Act.put, List.setIfInBounds_toArray, List.set_cons_zero, List.set_cons_succ])
  refine take_first 3 (v := ?_) rfl (by kernel_rfl) (by kernel_rfl) (by kernel_rfl) (fun _ _ _ h => h) (Or.inl ⟨by rfl, by intro wx hSw; obtain ⟨⟨hSw1, hSw2, hSw3, hSw4⟩, hSw5, hSw6, hSw7, hSw8⟩ := hSw; go_simp; try with_reducible rfl⟩) (by assumption) ?_
  (try simp only [Act.put, List.setIfInBounds_toArray, List.set_cons_zero, List.set_cons_succ])
  refine take_first 5 (v := ?_) rfl (by kernel_rfl) (by kernel_rfl) (by kernel_rfl) (fun _ _ _ h => h) (Or.inl ⟨by rfl, by intro wx hSw; obtain ⟨⟨hSw1, hSw2, hSw3, hSw4⟩, hSw5, hSw6, hSw7, hSw8⟩ := hSw; go_simp; try with_reducible rfl⟩) (by assumption) ?_
  (try simp only [Act.put, List.setIfInBounds_toArray, List.set_cons_zero, List.set_cons_succ])
  refine take_first 6 (v := ?_) rfl (by kernel_rfl) (by kernel_rfl) (by kernel_rfl) (fun _ _ _ h => h) (Or.inl ⟨by rfl, by intro wx hSw; obtain ⟨⟨hSw1, hSw2, hSw3, hSw4⟩, hSw5, hSw6, hSw7, hSw8⟩ := hSw; go_simp; try with_reducible rfl⟩) (by assumption) ?_
  (try simp only [Act.put, List.setIfInBounds_toArray, List.set_cons_zero, List.set_cons_succ])
  refine take_first 7 (v := ?_) rfl (by kernel_rfl) (by kernel_rfl) (by kernel_rfl) (fun _ _ _ h => h) (Or.inl ⟨by rfl, by intro wx hSw; obtain ⟨⟨hSw1, hSw2, hSw3, hSw4⟩, hSw5, hSw6, hSw7, hSw8⟩ := hSw; go_simp; try with_reducible rfl⟩) (by assumption) ?_
  (try simp only [Act.put, List.setIfInBounds_toArray, List.set_cons_zero, List.set_cons_succ])
  refine take_first 8 (v := ?_) rfl (by kernel_rfl) (by kernel_rfl) (by kernel_rfl) (fun _ _ _ h => h) (Or.inl ⟨by rfl, by intro wx hSw; obtain ⟨⟨hSw1, hSw2, hSw3, hSw4⟩, hSw5, hSw6, hSw7, hSw8⟩ := hSw; go_simp; try with_reducible rfl⟩) (by assumption) ?_
  (try simp only [Act.put, List.setIfInBounds_toArray, List.set_cons_zero, List.set_cons_succ])
  refine take_first 10 (v := ?_) rfl (by kernel_rfl) (by kernel_rfl) (by kernel_rfl) (fun _ _ _ h => h) (Or.inl ⟨by rfl, by intro wx hSw; obtain ⟨⟨hSw1, hSw2, hSw3, hSw4⟩, hSw5, hSw6, hSw7, hSw8⟩ := hSw; go_simp; try with_reducible rfl⟩) (by assumption) ?_
  (try simp only [Act.put, List.setIfInBounds_toArray, List.set_cons_zero, List.set_cons_succ])
  refine take_first 11 (v := ?_) rfl (by kernel_rfl) (by kernel_rfl) (by kernel_rfl) (fun _ _ _ h => h) (Or.inl ⟨by rfl, by intro wx hSw; obtain ⟨⟨hSw1, hSw2, hSw3, hSw4⟩, hSw5, hSw6, hSw7, hSw8⟩ := hSw; go_simp; try with_reducible rfl⟩) (by assumption) ?_
  (try simp only [Act.put, List.setIfInBounds_toArray, List.set_cons_zero, List.set_cons_succ])
  refine take_first 12 (v := ?_) rfl (by kernel_rfl) (by kernel_rfl) (by kernel_rfl) (fun _ _ _ h => h) (Or.inl ⟨by rfl, by intro wx hSw; obtain ⟨⟨hSw1, hSw2, hSw3, hSw4⟩, hSw5, hSw6, hSw7, hSw8⟩ := hSw; go_simp; try with_reducible rfl⟩) (by assumption) ?_
  (try simp only [Act.put, List.setIfInBounds_toArray, List.set_cons_zero, List.set_cons_succ])
  refine take_first 13 (v := ?_) rfl (by kernel_rfl) (by kernel_rfl) (by kernel_rfl) (fun _ _ _ h => h) (Or.inl ⟨by rfl, by intro wx hSw; obtain ⟨⟨hSw1, hSw2, hSw3, hSw4⟩, hSw5, hSw6, hSw7, hSw8⟩ := hSw; go_simp; try with_reducible rfl⟩) (by assumption) ?_
  (try simp only [Act.put, List.setIfInBounds_toArray, List.set_cons_zero, List.set_cons_succ])
  refine comes_up 4 rfl (by kernel_rfl) (fun K hK => ?_)
  go_simp
  refine (c1 _).mono ?_
  rintro e w1 ⟨rfl, hb1⟩
  have at1 : Bx w.heap.size n1 p1 s1 q1 w1 ∧ Bx (w.heap.size + 1) n2 p2 s2 q2 w1 := ⟨Bx.up (hHeld.1) hb1, Bx.up (hHeld.2) hb1⟩
  have bl1 := bl0.trans hb1
  clear at0 bl0 hb1 hHeld
  go_wp2_with fail
  refine hK.out _ _ at1 (fun hHeld => ?_)
  clear hK K
  (try simp only [Act.put, List.setIfInBounds_toArray, List.set_cons_zero, List.set_cons_succ])
  refine comes_up 9 rfl (by kernel_rfl) (fun K hK => ?_)
  go_simp
  refine (c2 _).mono ?_
  rintro e w2 ⟨rfl, rfl⟩
  go_wp2_with fail
  refine hK.out _ _ at1 (fun hHeld => ?_)
  clear hK K
  (try simp only [Act.put, List.setIfInBounds_toArray, List.set_cons_zero, List.set_cons_succ])
  refine comes_up 14 rfl (by kernel_rfl) (fun K hK => ?_)
  go_simp
  refine (c3 _).mono ?_
  rintro e w2 ⟨rfl, rfl⟩
  go_wp2_with fail
  refine hK.out _ _ at1 (fun hHeld => ?_)
  clear hK K
  (try simp only [Act.put, List.setIfInBounds_toArray, List.set_cons_zero, List.set_cons_succ])
  refine comes_up 15 rfl (by kernel_rfl) (fun K hK => ?_)
  go_simp
  have up3 : Up w1 (w1.alloc (.cells #[.int .i64 d1, .int .i64 d2, .int .i64 d3] 3)) := (Up.refl _).alloc _
  have at3 : Bx w.heap.size n1 p1 s1 q1 (w1.alloc (.cells #[.int .i64 d1, .int .i64 d2, .int .i64 d3] 3)) ∧ Bx (w.heap.size + 1) n2 p2 s2 q2 (w1.alloc (.cells #[.int .i64 d1, .int .i64 d2, .int .i64 d3] 3)) := ⟨Bx.up (at1.1) up3, Bx.up (at1.2) up3⟩
  refine hK.out _ _ at3 (fun hHeld => ?_)
  clear hK K
  (try simp only [Act.put, List.setIfInBounds_toArray, List.set_cons_zero, List.set_cons_succ])
  refine comes_up 16 rfl (by kernel_rfl) (fun K hK => ?_)
  go_simp
  refine (c4 _ _ (cell_box w1 _ 3 0 _ rfl) (cell_box w1 _ 3 1 _ rfl) (cell_box w1 _ 3 2 _ rfl)).mono ?_
  rintro e w4 ⟨rfl, rfl⟩
  go_wp2_with fail
  refine hK.out _ _ at3 (fun hHeld => ?_)
  clear hK K
  (try simp only [Act.put, List.setIfInBounds_toArray, List.set_cons_zero, List.set_cons_succ])
  refine take_first 17 (v := ?_) rfl (by kernel_rfl) (by kernel_rfl) (by kernel_rfl) (fun _ _ _ h => h) (Or.inl ⟨by rfl, by intro wx hSw; obtain ⟨⟨hSw1, hSw2, hSw3, hSw4⟩, hSw5, hSw6, hSw7, hSw8⟩ := hSw; go_simp; try with_reducible rfl⟩) (by assumption) ?_
  (try simp only [Act.put, List.setIfInBounds_toArray, List.set_cons_zero, List.set_cons_succ])
  refine wpAnyH_done (by kernel_rfl) ?_ _
  refine NoPanic.normal ?_
  go_wp2
  go_ret
  exact ⟨rfl, bl1.alloc _⟩
end Go.Proofs.YtlaihgdfedalmaaGreat
namespace Go.Proofs.YtlaihgdfedalmaaGreat
open Go.RowKit Go.Sort
set_option linter.unusedVariables false

/-- Is a label right? -/
def formL (x : Lb) : Bool := formV x.1 x.2.1 && decide (0 < x.1) && decide (0 < x.2.2.1) && decide (0 ≤ x.2.2.2) && decide (x.2.2.2 ≤ 15)
set_option maxRecDepth 10000 in
set_option maxHeartbeats 1000000 in
theorem formL_any (w : World) (x : Lb) : Calls Tryz.prog 122 #[lab x] w fun e w' => e = .returned (.bool (formL x)) ∧ Up w w' := by
  obtain ⟨n, p, s, q⟩ := x
  unfold formL lab
  simp only
  have c1 := fun W => form_any W n p
  unfold vid at c1
  have up0 : Up w (w.alloc (.cells #[.int .u64 (n : Nat), .int .i64 p, .int .u64 (s : Nat), .int .i64 q] 39)) := (Up.refl _).alloc _
  have bx0 := bx_new w n p s q 39
  cases hf : formV n p with
  | false =>
    rw [hf] at c1
    simp only [Bool.false_and]
    go_enter Tryz.func122, Tryz.ntmps122
    go_wp2_with fail
    refine (c1 _).mono ?_
    rintro e w1 ⟨rfl, hb⟩
    have up1 := up0.trans hb
    obtain ⟨d0, d1, d2, d3⟩ := bx0.up hb
    clear hb c1 bx0 up0
    go_wp2
    go_ret
    exact ⟨rfl, up1⟩
  | true =>
    rw [hf] at c1
    simp only [Bool.true_and]
    by_cases hn : 0 < n
    · have hnI : (0 : Int) < (n : Int) := by omega
      by_cases hs : 0 < s
      · have hsI : (0 : Int) < (s : Int) := by omega
        by_cases hq : 0 ≤ q
        · have hqI : 0 ≤ q := by omega
          go_enter Tryz.func122, Tryz.ntmps122
          go_wp2_with fail
          refine (c1 _).mono ?_
          rintro e w1 ⟨rfl, hb⟩
          have up1 := up0.trans hb
          obtain ⟨d0, d1, d2, d3⟩ := bx0.up hb
          clear hb c1 bx0 up0
          go_wp2
          go_ret
          exact ⟨ret_bool (by simp [*] <;> omega), up1⟩
        · have hqI : ¬ (0 ≤ q) := by omega
          go_enter Tryz.func122, Tryz.ntmps122
          go_wp2_with fail
          refine (c1 _).mono ?_
          rintro e w1 ⟨rfl, hb⟩
          have up1 := up0.trans hb
          obtain ⟨d0, d1, d2, d3⟩ := bx0.up hb
          clear hb c1 bx0 up0
          go_wp2
          go_ret
          exact ⟨ret_bool (by simp [*] <;> omega), up1⟩
      · have hsI : ¬ ((0 : Int) < (s : Int)) := by omega
        go_enter Tryz.func122, Tryz.ntmps122
        go_wp2_with fail
        refine (c1 _).mono ?_
        rintro e w1 ⟨rfl, hb⟩
        have up1 := up0.trans hb
        obtain ⟨d0, d1, d2, d3⟩ := bx0.up hb
        clear hb c1 bx0 up0
        go_wp2
        go_ret
        exact ⟨ret_bool (by simp [*] <;> omega), up1⟩
    · have hnI : ¬ ((0 : Int) < (n : Int)) := by omega
      go_enter Tryz.func122, Tryz.ntmps122
      go_wp2_with fail
      refine (c1 _).mono ?_
      rintro e w1 ⟨rfl, hb⟩
      have up1 := up0.trans hb
      obtain ⟨d0, d1, d2, d3⟩ := bx0.up hb
      clear hb c1 bx0 up0
      go_wp2
      go_ret
      exact ⟨ret_bool (by simp [*] <;> omega), up1⟩
end Go.Proofs.YtlaihgdfedalmaaGreat
namespace Go.Proofs.YtlaihgdfedalmaaGreat
open Go.RowKit Go.Sort
set_option linter.unusedVariables false

def cellsL (x : Lb) : List Value := [.int .u64 (x.1 : Nat), .int .i64 x.2.1, .int .u64 (x.2.2.1 : Nat), .int .i64 x.2.2.2]
def flat (ls : List Lb) : List Value := ls.flatMap cellsL
theorem flat_len (ls : List Lb) : (flat ls).length = ls.length * 4 := by
  induction ls with
  | nil => rfl
  | cons a r ih => simp [flat, cellsL] at ih ⊢; omega
theorem flat_cons (x : Lb) (ls : List Lb) : flat (x :: ls) = cellsL x ++ flat ls := by simp [flat]
theorem flat_app (a b : List Lb) : flat (a ++ b) = flat a ++ flat b := by simp [flat]
theorem flat_one {ls : List Lb} {u : Value} (h : u ∈ flat ls) : u.oneCell' = true := by
  obtain ⟨x, _, hx⟩ := List.mem_flatMap.1 h
  simp [cellsL] at hx
  rcases hx with rfl | rfl | rfl | rfl <;> rfl
theorem flat_get : ∀ (ls : List Lb) (j : Nat) (x : Lb) (i : Nat), ls[j]? = some x → i < 4 → (flat ls)[4 * j + i]? = (cellsL x)[i]?
  | [], j, x, i, h, hi => by simp at h
  | a :: r, 0, x, i, h, hi => by
    simp at h; subst h
    rw [flat_cons, List.getElem?_append_left (by simp [cellsL]; omega)]; simp
  | a :: r, j + 1, x, i, h, hi => by
    rw [flat_cons, List.getElem?_append_right (by simp [cellsL]; omega), show 4 * (j + 1) + i - (cellsL a).length = 4 * j + i by simp [cellsL]; omega]
    exact flat_get r j x i (by simpa using h) hi
/-- A list of labels that lies in memory. -/
def LR (w : World) (ao : Option Addr) (n : Nat) (ls : List Lb) : Prop :=
  ls.length = n ∧ n ≤ 9223372036854775807 ∧ (0 < n → ∃ b off, ao = some ⟨b, off, none⟩ ∧ ∀ j x, ls[j]? = some x →
    w.cell? ⟨b, off + j * 4, none⟩ = some (.int .u64 (x.1 : Nat)) ∧ w.cell? ⟨b, off + j * 4 + 1, none⟩ = some (.int .i64 x.2.1) ∧ w.cell? ⟨b, off + j * 4 + 2, none⟩ = some (.int .u64 (x.2.2.1 : Nat)) ∧ w.cell? ⟨b, off + j * 4 + 3, none⟩ = some (.int .i64 x.2.2.2))
theorem LR.of_cells {w w' : World} {ao : Option Addr} {n : Nat} {ls : List Lb} (h : LR w ao n ls) (hc : ∀ ad v, ao.map (·.block) = some ad.block → w.cell? ad = some v → w'.cell? ad = some v) : LR w' ao n ls := by
  refine ⟨h.1, h.2.1, fun hn => ?_⟩
  obtain ⟨b, off, e, hh⟩ := h.2.2 hn
  refine ⟨b, off, e, fun j x hj => ?_⟩
  obtain ⟨h1, h2, h3, h4⟩ := hh j x hj
  subst e
  exact ⟨hc _ _ rfl h1, hc _ _ rfl h2, hc _ _ rfl h3, hc _ _ rfl h4⟩
theorem LR.up {w w' : World} {ao : Option Addr} {n : Nat} {ls : List Lb} (h : LR w ao n ls) (u : Below w.heap.size w w') : LR w' ao n ls :=
  h.of_cells (fun ad v _ hc => (u.cell (World.block_lt_of_cell? w _ hc)).trans hc)
/-- A row of one's own is one. -/
theorem LR.own {w : World} {B n : Nat} {v : Value} {ls : List Lb} (h : w.ownsRow B 39 4 v n (flat ls)) : ∃ ao cap, v = .slice ao n cap ∧ LR w ao n ls := by
  have hl : ls.length = n := by have := h.1; rw [flat_len] at this; omega
  rcases h.2 with ⟨rfl, rfl⟩ | ⟨g, cap, cur, rfl, hg, hh, hnc, hcm, hcs, htk⟩
  · exact ⟨_, _, rfl, hl, by omega, fun h => by omega⟩
  · refine ⟨_, _, rfl, hl, by unfold maxLen at hcm; omega, fun hn => ⟨g, 0, rfl, fun j x hj => ?_⟩⟩
    have hcell : ∀ i, i < 4 → w.cell? ⟨g, 0 + j * 4 + i, none⟩ = (cellsL x)[i]? := fun i hi => by
      have e := flat_get ls j x i hj hi
      have hlt : i < (cellsL x).length := by simpa [cellsL] using hi
      rw [List.getElem?_eq_getElem hlt] at e ⊢
      have := h.cells (g := g) rfl (4 * j + i) _ e
      rw [Addr.add_lit] at this
      rw [show 0 + j * 4 + i = 0 + (4 * j + i) by omega]
      exact this
    exact ⟨hcell 0 (by omega), hcell 1 (by omega), hcell 2 (by omega), hcell 3 (by omega)⟩


theorem vid_equalIn (d : Nat) (n1 : Nat) (p1 : Int) (n2 : Nat) (p2 : Int) (w : World) : Sem.run Tryz.prog (Op.equalIn (d + 2) 33 (.agg #[.int .u64 (n1 : Nat), .int .i64 p1]) (.agg #[.int .u64 (n2 : Nat), .int .i64 p2])) w = .ok (decide (n1 = n2) && decide (p1 = p2)) w := by
  have u3 := Tryz.underlying3
  have a3 := Tryz.isAgg3
  have z3 := Tryz.sizeOf3
  have u22 := Tryz.underlying31
  have a22 := Tryz.isAgg31
  have z22 := Tryz.sizeOf31
  rw [run_equalIn_agg w (d + 1) 33 _ _ (by kernel_rfl) (by kernel_rfl)]
  simp only [Program.fieldsOf, Tryz.underlying33]
  go_simp
  by_cases h1 : n1 = n2
  · subst h1
    by_cases h2 : p1 = p2 <;> simp [h2]
  · have : ¬ ((n1 : Int) = n2) := by omega
    simp [h1, this]
theorem lab_equalIn (d : Nat) (n1 : Nat) (p1 : Int) (s1 : Nat) (q1 : Int) (n2 : Nat) (p2 : Int) (s2 : Nat) (q2 : Int) (w : World) : Sem.run Tryz.prog (Op.equalIn (d + 3) 39 (.agg #[.int .u64 (n1 : Nat), .int .i64 p1, .int .u64 (s1 : Nat), .int .i64 q1]) (.agg #[.int .u64 (n2 : Nat), .int .i64 p2, .int .u64 (s2 : Nat), .int .i64 q2])) w
    = .ok (decide (((n1, p1, s1, q1) : Lb) = (n2, p2, s2, q2))) w := by
  have u3 := Tryz.underlying3
  have a3 := Tryz.isAgg3
  have z3 := Tryz.sizeOf3
  have u22 := Tryz.underlying31
  have a22 := Tryz.isAgg31
  have z22 := Tryz.sizeOf31
  have a24 := Tryz.isAgg33
  have z24 := Tryz.sizeOf33
  have hv := fun W => vid_equalIn d n1 p1 n2 p2 W
  rw [run_equalIn_agg w (d + 2) 39 _ _ (by kernel_rfl) (by kernel_rfl)]
  simp only [Program.fieldsOf, Tryz.underlying39]
  go_simp
  by_cases h1 : n1 = n2
  · by_cases h2 : p1 = p2
    · by_cases h3 : s1 = s2
      · subst h3
        by_cases h4 : q1 = q2 <;> simp [h1, h2, h4]
      · have : ¬ ((s1 : Int) = s2) := by omega
        simp [h1, h2, h3, this]
    · simp [h1, h2]
  · simp [h1]
theorem lab_equal (x y : Lb) (w : World) : Sem.run Tryz.prog (Op.equalIn 10000 39 (.agg #[.int .u64 (x.1 : Nat), .int .i64 x.2.1, .int .u64 (x.2.2.1 : Nat), .int .i64 x.2.2.2]) (.agg #[.int .u64 (y.1 : Nat), .int .i64 y.2.1, .int .u64 (y.2.2.1 : Nat), .int .i64 y.2.2.2])) w
    = .ok (decide (x = y)) w := lab_equalIn 9997 x.1 x.2.1 x.2.2.1 x.2.2.2 y.1 y.2.1 y.2.2.1 y.2.2.2 w
theorem Bx.lb {B : Nat} {x : Lb} {w : World} (h : Bx B x.1 x.2.1 x.2.2.1 x.2.2.2 w) : w.cell? ⟨B, 0, none⟩ = some (.int .u64 (x.1 : Nat)) ∧ w.cell? ⟨B, 1, none⟩ = some (.int .i64 x.2.1) ∧ w.cell? ⟨B, 2, none⟩ = some (.int .u64 (x.2.2.1 : Nat)) ∧ w.cell? ⟨B, 3, none⟩ = some (.int .i64 x.2.2.2) := h

end Go.Proofs.YtlaihgdfedalmaaGreat
namespace Go.Proofs.YtlaihgdfedalmaaGreat
open Go.RowKit Go.Sort
set_option linter.unusedVariables false

set_option maxRecDepth 10000 in
set_option maxHeartbeats 1000000 in
theorem same_any (w : World) (ao : Option Addr) (n cap : Nat) (ls : List Lb) (h : LR w ao n ls) (bo : Option Addr) (m cbp : Nat) (ms : List Lb) (g : LR w bo m ms) :
    Calls Tryz.prog 81 #[.slice ao n cap, .slice bo m cbp] w fun e w' => e = .returned (.bool (decide (ls = ms))) ∧ Up w w' := by
  have hl := h.1
  have hmax := h.2.1
  have hm := g.1
  generalize hdd : decide (ls = ms) = r
  have HD : Hid (decide (ls = ms) = r) := hdd
  clear hdd
  by_cases hnm : n = m
  · subst hnm
    go_enter Tryz.func81, Tryz.ntmps81
    go_wp2_with fail
    go_loopw [5] (fun iv wr => ∃ k : Nat, k ≤ n ∧ iv = .int .i64 k ∧ ls.take k = ms.take k ∧ LR wr ao n ls ∧ LR wr bo n ms ∧ Up w wr) (fun iv _ => n - (intOf iv).toNat)
    case atStart => exact ⟨0, by omega, rfl, by simp, h, g, Up.refl _⟩
    case round =>
      obtain ⟨k, hk, rfl, hno, hr, hs, hu⟩ := hrel
      have HNO : Hid (ls.take k = ms.take k) := hno
      clear hno h g
      by_cases hlt : k < n
      · have hltI : (k : Int) < (n : Int) := by omega
        obtain ⟨x, hx⟩ : ∃ y, ls[k]? = some y := ⟨ls[k]'(by omega), List.getElem?_eq_getElem (by omega)⟩
        obtain ⟨y, hy⟩ : ∃ y, ms[k]? = some y := ⟨ms[k]'(by omega), List.getElem?_eq_getElem (by omega)⟩
        have HX : Hid (ls[k]? = some x) := hx
        have HY : Hid (ms[k]? = some y) := hy
        obtain ⟨b, off, hao, hc⟩ := hr.2.2 (by omega)
        obtain ⟨c0, c1, c2, c3⟩ := hc k x hx
        obtain ⟨b', off', hbo, hd⟩ := hs.2.2 (by omega)
        obtain ⟨d0, d1, d2, d3⟩ := hd k y hy
        have heq := fun W => lab_equal x y W
        have HR := hr
        have HS := hs
        subst hao
        subst hbo
        clear hc hd hx hy hr hs
        have hk0 : ¬ ((k : Int) < 0) := by omega
        cases he : decide (x = y) with
        | true =>
          rw [he] at heq
          have hno' : Hid (ls.take (k + 1) = ms.take (k + 1)) := by
            have e : x = y := by simpa using he
            show ls.take (k + 1) = ms.take (k + 1)
            rw [List.take_add_one, List.take_add_one, HNO.out, HX.out, HY.out, e]
          clear he HNO
          go_wp2_with fail
          go_quiet (fail)
          go_wp2
          go_roundw
          case rel => first | exact ⟨k + 1, by omega, by go_num, hno'.out, HR, HS, hu.drewN _⟩ | ((repeat apply Exists.intro); exact ⟨⟨k + 1, by omega, by go_num, hno'.out, HR, HS, hu.drewN _⟩, rfl⟩)
          case measure => simp [intOf]; omega
        | false =>
          rw [he] at heq
          have hrt : Hid (false = r) := by
            show false = r
            rw [← HD.out]
            have hne : x ≠ y := by simpa using he
            symm
            simp only [decide_eq_false_iff_not]
            intro e
            subst e
            have := HX.out.symm.trans HY.out
            simp at this
            exact hne this
          clear he HNO
          go_wp2_with fail
          go_quiet (fail)
          go_wp2
          go_ret
          exact ⟨ret_bool hrt.out, hu.drewN _⟩
      · obtain rfl : k = n := by omega
        have hrt : Hid (true = r) := by
          show true = r
          rw [← HD.out]
          symm
          have e := HNO.out
          rw [List.take_of_length_le (by omega), List.take_of_length_le (by omega)] at e
          simpa using e
        clear HNO hr hs
        go_wp2
        go_ret
        exact ⟨ret_bool hrt.out, hu⟩
  · have hrt : Hid (false = r) := by
      show false = r
      rw [← HD.out]
      symm
      simp only [decide_eq_false_iff_not]
      intro e
      subst e
      exact hnm (by omega)
    have hne : ((n : Int) != (m : Int)) = true := by simp; omega
    clear h g hl hm
    go_enter Tryz.func81, Tryz.ntmps81
    go_wp2
    go_ret
    exact ⟨ret_bool hrt.out, Up.refl _⟩
end Go.Proofs.YtlaihgdfedalmaaGreat
namespace Go.Proofs.YtlaihgdfedalmaaGreat
open Go.RowKit Go.Sort
set_option linter.unusedVariables false

def In (a : Int) : Prop := -9223372036854775808 ≤ a ∧ a ≤ 9223372036854775807
/-- The numbers of a label are numbers of their kinds. -/
def OkL (x : Lb) : Prop := x.1 < 18446744073709551616 ∧ In x.2.1 ∧ x.2.2.1 < 18446744073709551616 ∧ In x.2.2.2
theorem wf_i64 {a : Int} (h : In a) : (Lit.int .i64 a).wf = true := by
  unfold In at h
  simp [Lit.wf, IntKind.min, IntKind.max, IntKind.bits, IntKind.signed]
  omega
theorem wf_u64 {a : Nat} (h : a < 18446744073709551616) : (Lit.int .u64 (a : Int)).wf = true := by
  simp [Lit.wf, IntKind.min, IntKind.max, IntKind.bits, IntKind.signed]
  omega

theorem laidOut : laidOutB Tryz.prog = true := by kernel_rfl
theorem cells26 : Tryz.prog.cellsOf 39 = 4 := by kernel_rfl
theorem cells24 : Tryz.prog.cellsOf 33 = 2 := by kernel_rfl
theorem cells22 : Tryz.prog.cellsOf 31 = 1 := by kernel_rfl
theorem cells3 : Tryz.prog.cellsOf 3 = 1 := by kernel_rfl
end Go.Proofs.YtlaihgdfedalmaaGreat
namespace Go.Proofs.YtlaihgdfedalmaaGreat
open Go.RowKit Go.Sort
set_option linter.unusedVariables false


end Go.Proofs.YtlaihgdfedalmaaGreat
namespace Go.Proofs.YtlaihgdfedalmaaGreat
open Go.RowKit Go.Sort
set_option linter.unusedVariables false

end Go.Proofs.YtlaihgdfedalmaaGreat
namespace Go.Proofs.YtlaihgdfedalmaaGreat
open Go.RowKit Go.Sort
set_option linter.unusedVariables false

theorem gr_refl (w : World) (r : Option Nat) : w.grownBy w r := ⟨rfl, rfl, rfl, Nat.le_refl _, fun _ _ _ => rfl⟩
theorem gr_trans {a b c : World} {r : Option Nat} (h : a.grownBy b r) (k : b.grownBy c r) : a.grownBy c r :=
  ⟨k.os.trans h.os, k.tape.trans h.tape, k.output.trans h.output, Nat.le_trans h.size k.size, fun i hi hne => (k.block i (Nat.lt_of_lt_of_le hi h.size) hne).trans (h.block i hi hne)⟩
theorem gr_below {a b : World} (h : Below a.heap.size a b) (r : Option Nat) : a.grownBy b r := ⟨h.os, h.tape, h.output, h.size, fun i hi _ => h.block i hi⟩
theorem gr_setRow (w : World) (g : Nat) (cs : Array Value) : w.grownBy (w.setRow g cs) (some g) := ⟨rfl, rfl, rfl, by simp, fun i hi hne => setRow_other _ _ _ _ (fun e => hne (by rw [e]))⟩

/-- Block g has these labels, and behind them what is left of its room. -/
def Blk (w : World) (g cap : Nat) (cur : List Lb) : Prop := ∃ rest : List Value, w.heap[g]? = some (.cells (flat cur ++ rest).toArray 39 (0, 0)) ∧ (flat cur ++ rest).length = cap * 4
theorem Blk.of_block {w w' : World} {g cap : Nat} {cur : List Lb} (h : Blk w g cap cur) (e : w'.heap[g]? = w.heap[g]?) : Blk w' g cap cur := by
  obtain ⟨r, h1, h2⟩ := h
  exact ⟨r, by rw [e]; exact h1, h2⟩
theorem Blk.lt {w : World} {g cap : Nat} {cur : List Lb} (h : Blk w g cap cur) : g < w.heap.size := by
  obtain ⟨r, h1, _⟩ := h
  exact (Array.getElem?_eq_some_iff.1 h1).1
theorem Blk.up {w w' : World} {g cap : Nat} {cur : List Lb} (h : Blk w g cap cur) (u : Below w.heap.size w w') : Blk w' g cap cur := h.of_block (u.block g h.lt)
theorem Blk.len {w : World} {g cap : Nat} {cur : List Lb} (h : Blk w g cap cur) : cur.length ≤ cap := by
  obtain ⟨r, _, h2⟩ := h
  rw [List.length_append, flat_len] at h2
  omega
theorem Blk.ofOwn {w : World} {B n g cap : Nat} {ls : List Lb} (h : w.ownsRow B 39 4 (.slice (some ⟨g, 0, none⟩) n cap) n (flat ls)) : Blk w g cap ls ∧ B ≤ g ∧ n ≤ cap ∧ cap ≤ maxLen := by
  rcases h.2 with ⟨h0, _⟩ | ⟨g', cap', cur, h0, a, b, c, d, e, f⟩
  · cases h0
  · simp only [Value.slice.injEq, Option.some.injEq, Addr.mk.injEq] at h0
    obtain ⟨⟨rfl, _, _⟩, _, rfl⟩ := h0
    refine ⟨⟨cur.toList.drop (n * 4), ?_, ?_⟩, a, c, d⟩
    · rw [b, ← f, List.take_append_drop]
    · rw [← f, List.take_append_drop]; simpa using e
theorem Blk.own {w : World} {B g cap : Nat} {cur : List Lb} (h : Blk w g cap cur) (hB : B ≤ g) (hc : cap ≤ maxLen) (i : Nat) (hi : i ≤ cur.length) : w.ownsRow B 39 4 (.slice (some ⟨g, 0, none⟩) i cap) i (flat (cur.take i)) := by
  have hl := h.len
  obtain ⟨r, h1, h2⟩ := h
  refine ⟨by rw [flat_len, List.length_take]; omega, .inr ⟨g, cap, _, rfl, hB, h1, by omega, hc, by simpa using h2, ?_⟩⟩
  have e : flat cur = flat (cur.take i) ++ flat (cur.drop i) := by rw [← flat_app, List.take_append_drop]
  simp only [e, List.append_assoc]
  rw [List.take_append_of_le_length (by rw [flat_len, List.length_take]; omega), List.take_of_length_le (by rw [flat_len, List.length_take]; omega)]
theorem Blk.cell {w : World} {g cap : Nat} {cur : List Lb} (h : Blk w g cap cur) {j : Nat} {x : Lb} (hj : cur[j]? = some x) :
    w.cell? ⟨g, j * 4, none⟩ = some (.int .u64 (x.1 : Nat)) ∧ w.cell? ⟨g, j * 4 + 1, none⟩ = some (.int .i64 x.2.1) ∧ w.cell? ⟨g, j * 4 + 2, none⟩ = some (.int .u64 (x.2.2.1 : Nat)) ∧ w.cell? ⟨g, j * 4 + 3, none⟩ = some (.int .i64 x.2.2.2) := by
  obtain ⟨r, h1, h2⟩ := h
  have hjl : j < cur.length := (List.getElem?_eq_some_iff.1 hj).1
  have key : ∀ i, i < 4 → w.cell? ⟨g, j * 4 + i, none⟩ = (cellsL x)[i]? := fun i hi => by
    unfold World.cell?
    rw [h1]
    simp only [List.getElem?_toArray]
    rw [List.getElem?_append_left (by rw [flat_len]; omega), show j * 4 + i = 4 * j + i by omega]
    exact flat_get cur j x i hj hi
  exact ⟨key 0 (by omega), key 1 (by omega), key 2 (by omega), key 3 (by omega)⟩
theorem flat_set (ls : List Lb) (i : Nat) (x : Lb) (hi : i < ls.length) : flat (ls.set i x) = (flat ls).take (i * 4) ++ cellsL x ++ (flat ls).drop (i * 4 + 4) := by
  obtain ⟨a, y, b, rfl, rfl⟩ : ∃ a y b, ls = a ++ y :: b ∧ i = a.length := ⟨ls.take i, ls[i], ls.drop (i + 1), by simp, by rw [List.length_take]; omega⟩
  have l1 := flat_len a
  have e : (a ++ y :: b).set a.length x = a ++ x :: b := by simp
  rw [e, flat_app, flat_cons, flat_app, flat_cons]
  rw [List.take_append_of_le_length (by omega), List.take_of_length_le (by omega), List.drop_append, List.drop_of_length_le (by omega), show a.length * 4 + 4 - (flat a).length = (cellsL y).length by simp [cellsL]; omega]
  simp
theorem Blk.set {w : World} {g cap : Nat} {cur : List Lb} (h : Blk w g cap cur) {i : Nat} (hi : i < cur.length) (x : Lb) :
    ∃ w', Sem.run Tryz.prog (storeCells ⟨g, i * 4, none⟩ [.int .u64 (x.1 : Nat), .int .i64 x.2.1, .int .u64 (x.2.2.1 : Nat), .int .i64 x.2.2.2] 0) w = .ok () w' ∧ Blk w' g cap (cur.set i x) ∧ w.grownBy w' (some g) := by
  obtain ⟨r, h1, h2⟩ := h
  have hl := flat_len cur
  have hrun := run_storeCells_at (P := Tryz.prog) g (i * 4) 39 (cellsL x) 0 _ w h1 (by simp [cellsL]; omega) (by simp [cellsL, Value.oneCell'])
  refine ⟨_, hrun, ⟨r, ?_, ?_⟩, gr_setRow _ _ _⟩
  · rw [setRow_heap _ _ _ _ _ _ h1]
    congr 3
    rw [flat_set _ _ _ hi]
    have a1 : (flat cur ++ r).take (i * 4 + 0) = (flat cur).take (i * 4) := List.take_append_of_le_length (by omega)
    have a2 : (flat cur ++ r).drop (i * 4 + 0 + (cellsL x).length) = (flat cur).drop (i * 4 + 4) ++ r := by
      rw [show i * 4 + 0 + (cellsL x).length = i * 4 + 4 by simp [cellsL], List.drop_append_of_le_length (by omega)]
    rw [a1, a2]
    simp
  · rw [← h2, List.length_append, List.length_append, flat_len, flat_len, List.length_set]
theorem und32 : Tryz.prog.underlying 43 = some (.slice 39) := by kernel_rfl
theorem zeroL (n : Nat) : (Builtin.zeroCells (Value.agg #[.int .u64 0, .int .i64 0, .int .u64 0, .int .i64 0]).cells n).toList.length = n * 4 := by
  simp [Builtin.zeroCells, Value.cells]
/-- What stands from i on is cleared. -/
theorem Blk.clear {w : World} {g cap : Nat} {cur : List Lb} (h : Blk w g cap cur) {i n : Nat} (hi : i ≤ cur.length) (hn : n = cur.length - i) (c : Nat) (ty : TypeId) :
    ∃ w', Sem.run Tryz.prog (Builtin.clear_ #[43] ty #[.slice (some ⟨g, i * 4, none⟩) n c]) w = .ok (.tuple #[]) w' ∧ Blk w' g cap (cur.take i) ∧ w.grownBy w' (some g) := by
  by_cases h0 : n = 0
  · subst h0
    refine ⟨w, ?_, ?_, gr_refl _ _⟩
    · simp [Builtin.clear_, run_underlying und32]
    · rw [List.take_of_length_le (by omega)]; exact h
  · obtain ⟨m, rfl⟩ : ∃ m, n = m + 1 := ⟨n - 1, by omega⟩
    obtain ⟨r, h1, h2⟩ := h
    have hl := flat_len cur
    have hzl := zeroL (m + 1)
    have hone : ∀ v ∈ (Builtin.zeroCells (Value.agg #[.int .u64 0, .int .i64 0, .int .u64 0, .int .i64 0]).cells (m + 1)).toList, v.oneCell' = true := by
      intro v hv
      simp only [Builtin.zeroCells, Value.cells, Array.toList_map, List.mem_map] at hv
      obtain ⟨k, _, rfl⟩ := hv
      have hk : k % 4 < 4 := Nat.mod_lt _ (by omega)
      have : k % 4 = 0 ∨ k % 4 = 1 ∨ k % 4 = 2 ∨ k % 4 = 3 := by omega
      rcases this with e | e | e | e <;> simp [e, Value.oneCell']
    have hrun := run_storeCells_at (P := Tryz.prog) g (i * 4) 39 _ 0 _ w h1 (by rw [hzl]; simp; omega) hone
    have hcl : ∀ w', Sem.run Tryz.prog (storeCells ⟨g, i * 4, none⟩ (Builtin.zeroCells (Value.agg #[.int .u64 0, .int .i64 0, .int .u64 0, .int .i64 0]).cells (m + 1)).toList 0) w = .ok () w' → Sem.run Tryz.prog (Builtin.clear_ #[43] ty #[.slice (some ⟨g, i * 4, none⟩) (m + 1) c]) w = .ok (.tuple #[]) w' := fun w' hw => by
      simp [Builtin.clear_, run_underlying und32, hw]
    refine ⟨_, hcl _ hrun, ⟨(Builtin.zeroCells (Value.agg #[.int .u64 0, .int .i64 0, .int .u64 0, .int .i64 0]).cells (m + 1)).toList ++ r, ?_, ?_⟩, gr_setRow _ _ _⟩
    · rw [setRow_heap _ _ _ _ _ _ h1]
      congr 3
      generalize (Builtin.zeroCells (Value.agg #[.int .u64 0, .int .i64 0, .int .u64 0, .int .i64 0]).cells (m + 1)).toList = zs at *
      have e : flat cur = flat (cur.take i) ++ flat (cur.drop i) := by rw [← flat_app, List.take_append_drop]
      have l1 : (flat (cur.take i)).length = i * 4 := by rw [flat_len, List.length_take]; omega
      have l2 : (flat (cur.drop i)).length = (m + 1) * 4 := by rw [flat_len, List.length_drop]; omega
      have a1 : (flat cur ++ r).take (i * 4 + 0) = flat (cur.take i) := by
        rw [e, List.append_assoc, List.take_append_of_le_length (by omega), List.take_of_length_le (by omega)]
      have a2 : (flat cur ++ r).drop (i * 4 + 0 + zs.length) = r := by
        rw [List.drop_append, List.drop_of_length_le (by omega), show i * 4 + 0 + zs.length - (flat cur).length = 0 by omega]; simp
      rw [a1, a2]
      simp
    · rw [← h2, List.length_append, List.length_append, List.length_append, flat_len, flat_len, hzl, List.length_take]
      omega
end Go.Proofs.YtlaihgdfedalmaaGreat
namespace Go.Proofs.YtlaihgdfedalmaaGreat
open Go.RowKit Go.Sort
set_option linter.unusedVariables false

def out (S ls : List Lb) : List Lb := ls.filter (fun x => !decide (x ∈ S))
theorem out_none {S ls : List Lb} (h : ∀ x ∈ ls, x ∉ S) : out S ls = ls := by
  unfold out
  rw [List.filter_eq_self]
  intro x hx
  simpa using h x hx
theorem out_step {S ls : List Lb} {j : Nat} {x : Lb} (h : ls[j]? = some x) : out S (ls.take (j + 1)) = out S (ls.take j) ++ (if decide (x ∈ S) then [] else [x]) := by
  unfold out
  rw [List.take_add_one, h, List.filter_append]
  by_cases hx : x ∈ S <;> simp [hx]
theorem out_le (S ls : List Lb) : (out S ls).length ≤ ls.length := List.length_filter_le _ _

/-- A store of a thing of several cells, by its run. -/
theorem wpList_store_cells {P : Program} {ops : Array Oper} {rest : List Oper} {o : Oper} {a : Act} {w : World} {Q : Exit → Act → World → Prop} (hgd : o.guard = none) (ty : TypeId) (x y : Operand) (ho : o.op = .store ty x y)
    (ad : Addr) (cells : Array Value) (hx : a.eval x = .pointer (some ad)) (hy : a.eval y = .agg cells) (hi : (P.info? ty).map (·.size) = some cells.size)
    (w' : World) (hrun : (storeCells ad cells.toList 0).run P w = .ok () w') (h : wpList P ops Q rest (a.put o.dst undef) w') : wpList P ops Q (o :: rest) a w := by
  have hsv : (storeVar ty ad (.agg cells)).run P w = .ok () w' := by
    cases hq : P.info? ty with
    | none => simp [hq] at hi
    | some i =>
      have hs : cells.size = i.size := by simp [hq] at hi; omega
      simp [storeVar, sizeOf, typeInfo, hq, Value.cells, hs, hrun]
  refine wpList_plain hgd fun K hK => ?_
  unfold Oper.wp execOp
  simp only [ho, hx, hy, Instr.storeAt, Instr.sureAddr, Sem.run_bind, Sem.run_pure, Result.andThen_ok, hsv]
  exact hK _ _ h
theorem info26 : (Tryz.prog.info? 39).map (·.size) = some 4 := by kernel_rfl

end Go.Proofs.YtlaihgdfedalmaaGreat
