/-
  The document's net as it lies in memory; who hears whom there: node, Hear, Set.
-/
import Derived.Test.YtagabmhgcmnldaaNTake2
namespace Go.Proofs.Ytagabmhgcmnldaa
open Go.RowKit
set_option linter.unusedVariables false
set_option linter.unusedSimpArgs false

/-- A packet of the document's list. -/
structure Mx where
  f : Int
  t : Int
  ao : Option Addr
  n : Nat
  cap : Nat
def Mx.v (x : Mx) : Value := .slice x.ao x.n x.cap
def cellsM (x : Mx) : List Value := [.int .i64 x.f, .int .i64 x.t, .slice x.ao x.n x.cap]
def flatM (ls : List Mx) : List Value := ls.flatMap cellsM
theorem flatM_len (ls : List Mx) : (flatM ls).length = ls.length * 3 := by
  induction ls with
  | nil => rfl
  | cons a r ih => simp [flatM, cellsM] at ih ⊢; omega
theorem flatM_cons (x : Mx) (ls : List Mx) : flatM (x :: ls) = cellsM x ++ flatM ls := by simp [flatM]
theorem flatM_app (a b : List Mx) : flatM (a ++ b) = flatM a ++ flatM b := by simp [flatM]
theorem flatM_one {ls : List Mx} {u : Value} (h : u ∈ flatM ls) : u.oneCell' = true := by
  obtain ⟨x, _, hx⟩ := List.mem_flatMap.1 h
  simp [cellsM] at hx
  rcases hx with rfl | rfl | rfl <;> rfl
theorem flatM_get : ∀ (ls : List Mx) (j : Nat) (x : Mx) (i : Nat), ls[j]? = some x → i < 3 → (flatM ls)[3 * j + i]? = (cellsM x)[i]?
  | [], j, x, i, h, hi => by simp at h
  | a :: r, 0, x, i, h, hi => by
    simp at h; subst h
    rw [flatM_cons, List.getElem?_append_left (by simp [cellsM]; omega)]; simp
  | a :: r, j + 1, x, i, h, hi => by
    rw [flatM_cons, List.getElem?_append_right (by simp [cellsM]; omega), show 3 * (j + 1) + i - (cellsM a).length = 3 * j + i by simp [cellsM]; omega]
    exact flatM_get r j x i (by simpa using h) hi
structure MPk (w : World) (x : Mx) (a : Pa) : Prop where
  f : x.f = a.f
  t : x.t = a.t
  n : x.n = a.xs.length
  own : w.ownsRow 0 5 1 x.v x.n (a.told.map by8)
  small : a.xs.length ≤ 140737488351232
  k2 : a.ts.length ≤ 2
theorem MPk.of {w w' : World} {x : Mx} {a : Pa} (h : MPk w x a) (e : ∀ b, x.v.ownBlock = some b → w'.heap[b]? = w.heap[b]?) : MPk w' x a := { h with own := row_block h.own e }
/-- How many bits of each were turned. -/
def turnsOf (A : List Pa) : List Value := A.map (fun a => .int .i64 (a.ts.length : Nat))
theorem turnsOf_len (A : List Pa) : (turnsOf A).length = A.length := by simp [turnsOf]
def mcell (N : Nat) (lv bv : Value) (D : Nat → Bool) (lost : Nat) (j : Nat) : Value := if j = 0 then .int .i64 (N : Nat) else if j = 1 then lv else if j = 2 then bv else if j < 259 then .bool (D (j - 3)) else .int .i64 (lost : Nat)
structure MIs (w : World) (p N : Nat) (lv bv : Value) (D : Nat → Bool) (lost : Nat) (L : List Mx) (A : List Pa) : Prop where
  obj : w.rowIs p 34 260 (mcell N lv bv D lost)
  lrow : w.ownsRow 0 49 3 lv L.length (flatM L)
  brow : w.ownsRow 0 3 1 bv A.length (turnsOf A)
  len : A.length = L.length
  pk : ∀ (j : Nat) x a, L[j]? = some x → A[j]? = some a → MPk w x a
  lp : lv.ownBlock ≠ some p
  bp : bv.ownBlock ≠ some p
  lb : ∀ b, lv.ownBlock = some b → bv.ownBlock ≠ some b
  xp : ∀ x ∈ L, ∀ b, x.v.ownBlock = some b → b ≠ p ∧ lv.ownBlock ≠ some b ∧ bv.ownBlock ≠ some b
  xx : ∀ (i j : Nat) x y, L[i]? = some x → L[j]? = some y → i ≠ j → ∀ b, x.v.ownBlock = some b → y.v.ownBlock ≠ some b
  n1 : 1 ≤ N
  n16 : N ≤ 16
  most : L.length ≤ 80
  lost' : lost ≤ 1000000
  frm : ∀ a ∈ A, (0 ≤ a.f ∧ a.f < N) ∧ (0 ≤ a.t ∧ a.t < N)
def Fm (p : Nat) (lv bv : Value) (L : List Mx) (b : Nat) : Prop := b = p ∨ lv.ownBlock = some b ∨ bv.ownBlock = some b ∨ ∃ x ∈ L, x.v.ownBlock = some b
section
variable {w w' : World} {p N : Nat} {lv bv : Value} {D : Nat → Bool} {lost : Nat} {L : List Mx} {A : List Pa}
theorem MIs.get (h : MIs w p N lv bv D lost L A) {x : Mx} (hx : x ∈ L) : ∃ a, a ∈ A ∧ MPk w x a := by
  obtain ⟨j, hj⟩ := List.getElem?_of_mem hx
  have hl := (List.getElem?_eq_some_iff.1 hj).1
  have ha : A[j]? = some (A[j]'(by rw [h.len]; exact hl)) := List.getElem?_eq_getElem _
  exact ⟨_, List.mem_of_getElem? ha, h.pk j x _ hj ha⟩
theorem MIs.lt (h : MIs w p N lv bv D lost L A) : ∀ b, Fm p lv bv L b → b < w.heap.size := by
  rintro b (rfl | hb | hb | ⟨x, hx, hb⟩)
  · exact h.obj.lt
  · exact (h.lrow.lt b hb).2
  · exact (h.brow.lt b hb).2
  · obtain ⟨a, _, ha⟩ := h.get hx
    exact (ha.own.lt b hb).2
theorem MIs.frame (h : MIs w p N lv bv D lost L A) (hb : ∀ b, Fm p lv bv L b → w'.heap[b]? = w.heap[b]?) : MIs w' p N lv bv D lost L A :=
  { h with
    obj := h.obj.of_block (hb p (.inl rfl))
    lrow := row_block h.lrow (fun b hbb => hb b (.inr (.inl hbb)))
    brow := row_block h.brow (fun b hbb => hb b (.inr (.inr (.inl hbb))))
    pk := fun j x a hx ha => (h.pk j x a hx ha).of (fun b hbb => hb b (.inr (.inr (.inr ⟨x, List.mem_of_getElem? hx, hbb⟩)))) }
theorem MIs.up (h : MIs w p N lv bv D lost L A) (u : Below w.heap.size w w') : MIs w' p N lv bv D lost L A := h.frame (fun b hb => u.block b (h.lt b hb))
theorem MIs.c0 (h : MIs w p N lv bv D lost L A) : w.cell? ⟨p, 0, none⟩ = some (.int .i64 (N : Nat)) := h.obj.cell (i := 0) (by omega)
theorem MIs.c1 (h : MIs w p N lv bv D lost L A) : w.cell? ⟨p, 1, none⟩ = some lv := h.obj.cell (i := 1) (by omega)
theorem MIs.c2 (h : MIs w p N lv bv D lost L A) : w.cell? ⟨p, 2, none⟩ = some bv := h.obj.cell (i := 2) (by omega)
theorem MIs.cD (h : MIs w p N lv bv D lost L A) (a b : Nat) (ha : a < 16) (hb : b < 16) : w.cell? ⟨p, 3 + a * 16 + b, none⟩ = some (.bool (D (a * 16 + b))) := by
  rw [h.obj.cell (i := 3 + a * 16 + b) (by omega)]
  unfold mcell
  rw [if_neg (by omega), if_neg (by omega), if_neg (by omega), if_pos (by omega), show 3 + a * 16 + b - 3 = a * 16 + b by omega]
theorem MIs.cL (h : MIs w p N lv bv D lost L A) : w.cell? ⟨p, 259, none⟩ = some (.int .i64 (lost : Nat)) := h.obj.cell (i := 259) (by omega)
theorem MIs.free (h : MIs w p N lv bv D lost L A) (o : Nat) : w.frozen? ⟨p, o, none⟩ = false := h.obj.frozen o
theorem lrow_shape {w : World} {lv : Value} {L : List Mx} (h : w.ownsRow 0 49 3 lv L.length (flatM L)) : ∃ a c, lv = .slice a L.length c ∧ L.length ≤ c ∧ c ≤ 9223372036854775807 := by
  rcases h.2 with ⟨rfl, h0⟩ | ⟨g, cap, cur, rfl, _, _, h1, h2, _⟩
  · exact ⟨none, 0, by rw [h0], by omega, by omega⟩
  · exact ⟨_, cap, rfl, h1, by unfold maxLen at h2; omega⟩
theorem refNode_any (h : MIs w p N lv bv D lost L A) (i : Int) : Calls Try.prog 39 #[.pointer (some ⟨p, 0, none⟩), .int .i64 i] w fun e w' => e = .returned (.bool (isNode N i)) ∧ w = w' := by
  have c0 := h.c0
  have h16 := h.n16
  clear h
  by_cases h0 : 0 ≤ i
  · by_cases h1 : i < N
    · have HE : Hid (isNode N i = true) := by unfold Hid isNode; simp; omega
      go_enter Try.func39, Try.ntmps39
      go_wp2
      go_ret
      exact ⟨ret_bool HE.out.symm, rfl⟩
    · have HE : Hid (isNode N i = false) := by unfold Hid isNode; simp; omega
      go_enter Try.func39, Try.ntmps39
      go_wp2
      go_ret
      exact ⟨ret_bool HE.out.symm, rfl⟩
  · have HE : Hid (isNode N i = false) := by unfold Hid isNode; simp; omega
    go_enter Try.func39, Try.ntmps39
    go_wp2
    go_ret
    exact ⟨ret_bool HE.out.symm, rfl⟩
/-- Whom a node hears, by the document. -/
def rhears (N : Nat) (D : Nat → Bool) (a b : Int) : Bool := isNode N a && isNode N b && !D (a.toNat * 16 + b.toNat)
theorem refHear_any (h : MIs w p N lv bv D lost L A) (a b : Int) : Calls Try.prog 17 #[.pointer (some ⟨p, 0, none⟩), .int .i64 a, .int .i64 b] w fun e w' => e = .returned (.bool (rhears N D a b)) ∧ w = w' := by
  have na := refNode_any h a
  have nb := refNode_any h b
  have h16 := h.n16
  by_cases h1 : 0 ≤ a ∧ a < N
  · have e1 : isNode N a = true := by unfold isNode; simpa using h1
    by_cases h2 : 0 ≤ b ∧ b < N
    · have e2 : isNode N b = true := by unfold isNode; simpa using h2
      obtain ⟨x, rfl⟩ : ∃ x : Nat, a = x := ⟨a.toNat, by omega⟩
      obtain ⟨y, rfl⟩ : ∃ y : Nat, b = y := ⟨b.toNat, by omega⟩
      have cD := h.cD x y (by omega) (by omega)
      have hx16 : (x : Int) < 16 := by omega
      have hy16 : (y : Int) < 16 := by omega
      have HE : Hid (rhears N D (x : Int) (y : Int) = !D (x * 16 + y)) := by unfold Hid rhears; rw [e1, e2]; simp
      rw [e1] at na
      rw [e2] at nb
      clear h e1 e2
      generalize D (x * 16 + y) = r at *
      go_enter Try.func17, Try.ntmps17
      go_wp2_with fail
      refine na.mono ?_
      rintro e w1 ⟨rfl, rfl⟩
      go_wp2_with fail
      refine nb.mono ?_
      rintro e w1 ⟨rfl, rfl⟩
      go_wp2
      go_ret
      exact ⟨ret_bool HE.out.symm, rfl⟩
    · have e2 : isNode N b = false := by unfold isNode; simpa using h2
      have HE : Hid (rhears N D a b = false) := by unfold Hid rhears; rw [e2]; simp
      rw [e1] at na
      rw [e2] at nb
      clear h e1 e2
      go_enter Try.func17, Try.ntmps17
      go_wp2_with fail
      refine na.mono ?_
      rintro e w1 ⟨rfl, rfl⟩
      go_wp2_with fail
      refine nb.mono ?_
      rintro e w1 ⟨rfl, rfl⟩
      go_wp2
      go_ret
      exact ⟨ret_bool HE.out.symm, rfl⟩
  · have e1 : isNode N a = false := by unfold isNode; simpa using h1
    have HE : Hid (rhears N D a b = false) := by unfold Hid rhears; rw [e1]; simp
    rw [e1] at na
    clear h e1
    go_enter Try.func17, Try.ntmps17
    go_wp2_with fail
    refine na.mono ?_
    rintro e w1 ⟨rfl, rfl⟩
    go_wp2
    go_ret
    exact ⟨ret_bool HE.out.symm, rfl⟩
def putB (f : Nat → Bool) (k : Nat) (v : Bool) : Nat → Bool := fun j => if j = k then v else f j
theorem MIs.setObj {lost' : Nat} {D' : Nat → Bool} (h : MIs w p N lv bv D lost L A) (j : Nat) (v : Value) (hr : (w.setCell ⟨p, j, none⟩ v).rowIs p 34 260 (mcell N lv bv D' lost')) (hl : lost' ≤ 1000000) : MIs (w.setCell ⟨p, j, none⟩ v) p N lv bv D' lost' L A :=
  { h with
    obj := hr
    lrow := row_block h.lrow (fun b hb => set_block_other (fun e => h.lp (by rw [hb, e])))
    brow := row_block h.brow (fun b hb => set_block_other (fun e => h.bp (by rw [hb, e])))
    pk := fun i x a hx ha => (h.pk i x a hx ha).of (fun b hb => set_block_other (h.xp x (List.mem_of_getElem? hx) b hb).1)
    lost' := hl }
theorem mcell_D {N : Nat} {lv bv : Value} {D : Nat → Bool} {lost k : Nat} {v : Bool} (hk : k < 256) (j : Nat) (hj : j < 260) : (if j = 3 + k then Value.bool v else mcell N lv bv D lost j) = mcell N lv bv (putB D k v) lost j := by
  unfold mcell
  by_cases h0 : j = 0
  · rw [if_neg (by omega), if_pos h0, if_pos h0]
  · by_cases h1 : j = 1
    · rw [if_neg (by omega), if_neg h0, if_neg h0, if_pos h1, if_pos h1]
    · by_cases h2 : j = 2
      · rw [if_neg (by omega), if_neg h0, if_neg h0, if_neg h1, if_neg h1, if_pos h2, if_pos h2]
      · by_cases h3 : j < 259
        · rw [if_neg h0, if_neg h1, if_neg h2, if_pos h3, if_neg h0, if_neg h1, if_neg h2, if_pos h3]
          unfold putB
          by_cases h4 : j = 3 + k
          · rw [if_pos h4, if_pos (by omega)]
          · rw [if_neg h4, if_neg (by omega)]
        · rw [if_neg (by omega), if_neg h0, if_neg h1, if_neg h2, if_neg h3, if_neg h0, if_neg h1, if_neg h2, if_neg h3]
theorem mcell_lost {N : Nat} {lv bv : Value} {D : Nat → Bool} {lost m : Nat} (j : Nat) (hj : j < 260) : (if j = 259 then Value.int .i64 (m : Nat) else mcell N lv bv D lost j) = mcell N lv bv D m j := by
  unfold mcell
  by_cases h0 : j = 0
  · rw [if_neg (by omega), if_pos h0, if_pos h0]
  · by_cases h1 : j = 1
    · rw [if_neg (by omega), if_neg h0, if_neg h0, if_pos h1, if_pos h1]
    · by_cases h2 : j = 2
      · rw [if_neg (by omega), if_neg h0, if_neg h0, if_neg h1, if_neg h1, if_pos h2, if_pos h2]
      · by_cases h3 : j < 259
        · rw [if_neg (by omega), if_neg h0, if_neg h1, if_neg h2, if_pos h3, if_neg h0, if_neg h1, if_neg h2, if_pos h3]
        · rw [if_pos (by omega), if_neg h0, if_neg h1, if_neg h2, if_neg h3]
theorem MIs.setD (h : MIs w p N lv bv D lost L A) (k : Nat) (hk : k < 256) (v : Bool) : MIs (w.setCell ⟨p, 3 + k, none⟩ (.bool v)) p N lv bv (putB D k v) lost L A :=
  h.setObj _ _ ((h.obj.set (3 + k) _).congr (fun i hi => mcell_D hk i hi)) h.lost'
theorem MIs.setLost (h : MIs w p N lv bv D lost L A) (m : Nat) (hm : m ≤ 1000000) : MIs (w.setCell ⟨p, 259, none⟩ (.int .i64 (m : Nat))) p N lv bv D m L A :=
  h.setObj _ _ ((h.obj.set 259 _).congr (fun i hi => mcell_lost i hi)) hm
theorem refSet_err (h : MIs w p N lv bv D lost L A) (a b : Int) (v : Bool) (hn : ¬ ((0 ≤ a ∧ a < N) ∧ (0 ≤ b ∧ b < N) ∧ a ≠ b)) : Calls Try.prog 36 #[.pointer (some ⟨p, 0, none⟩), .int .i64 a, .int .i64 b, .bool v] w fun e w' => e = .returned (.int .i64 1) ∧ w = w' := by
  have na := refNode_any h a
  have nb := refNode_any h b
  clear h
  by_cases h1 : 0 ≤ a ∧ a < N
  · have e1 : isNode N a = true := by unfold isNode; simpa using h1
    rw [e1] at na
    clear e1
    by_cases h2 : 0 ≤ b ∧ b < N
    · have e2 : isNode N b = true := by unfold isNode; simpa using h2
      rw [e2] at nb
      clear e2
      obtain rfl : a = b := by
        by_cases e : a = b
        · exact e
        · exact absurd ⟨h1, h2, e⟩ hn
      clear hn
      go_enter Try.func36, Try.ntmps36
      go_wp2_with fail
      refine na.mono ?_
      rintro e w1 ⟨rfl, rfl⟩
      go_wp2_with fail
      refine nb.mono ?_
      rintro e w1 ⟨rfl, rfl⟩
      go_wp2
      go_ret
      exact ⟨rfl, rfl⟩
    · have e2 : isNode N b = false := by unfold isNode; simpa using h2
      rw [e2] at nb
      clear e2 hn
      go_enter Try.func36, Try.ntmps36
      go_wp2_with fail
      refine na.mono ?_
      rintro e w1 ⟨rfl, rfl⟩
      go_wp2_with fail
      refine nb.mono ?_
      rintro e w1 ⟨rfl, rfl⟩
      go_wp2
      go_ret
      exact ⟨rfl, rfl⟩
  · have e1 : isNode N a = false := by unfold isNode; simpa using h1
    rw [e1] at na
    clear e1 hn
    go_enter Try.func36, Try.ntmps36
    go_wp2_with fail
    refine na.mono ?_
    rintro e w1 ⟨rfl, rfl⟩
    go_wp2
    go_ret
    exact ⟨rfl, rfl⟩
theorem refSet_is (h : MIs w p N lv bv D lost L A) (a b : Nat) (v : Bool) (ha : a < N) (hb : b < N) (hab : a ≠ b) : Calls Try.prog 36 #[.pointer (some ⟨p, 0, none⟩), .int .i64 (a : Nat), .int .i64 (b : Nat), .bool v] w fun e w' => e = .returned (.int .i64 0) ∧ MIs w' p N lv bv (putB (putB D (a * 16 + b) v) (b * 16 + a) v) lost L A ∧ Turned (fun b => b = p) w w' := by
  have na := refNode_any h (a : Int)
  have nb := refNode_any h (b : Int)
  rw [show isNode N (a : Int) = true by unfold isNode; simp; omega] at na
  rw [show isNode N (b : Int) = true by unfold isNode; simp; omega] at nb
  have h16 := h.n16
  have ha16 : (a : Int) < 16 := by omega
  have hb16 : (b : Int) < 16 := by omega
  have hne : ((a : Int) == (b : Int)) = false := by
    have : ¬ ((a : Int) = b) := by omega
    simpa using this
  have ca := h.cD a b (by omega) (by omega)
  have cb := h.cD b a (by omega) (by omega)
  have fr := fun o => h.free o
  have hk1 : a * 16 + b < 256 := by omega
  have hk2 : b * 16 + a < 256 := by omega
  have HE : Hid (MIs ((w.setCell ⟨p, 3 + a * 16 + b, none⟩ (.bool v)).setCell ⟨p, 3 + b * 16 + a, none⟩ (.bool v)) p N lv bv (putB (putB D (a * 16 + b) v) (b * 16 + a) v) lost L A ∧ Turned (fun b => b = p) w ((w.setCell ⟨p, 3 + a * 16 + b, none⟩ (.bool v)).setCell ⟨p, 3 + b * 16 + a, none⟩ (.bool v))) := by
    rw [show 3 + a * 16 + b = 3 + (a * 16 + b) by omega, show 3 + b * 16 + a = 3 + (b * 16 + a) by omega]
    exact ⟨(h.setD _ hk1 v).setD _ hk2 v, ((Turned.refl (fun b => b = p) w).setCell (p := ⟨p, 3 + (a * 16 + b), none⟩) (.inl rfl) _).setCell (p := ⟨p, 3 + (b * 16 + a), none⟩) (.inl rfl) _⟩
  have hno : ¬ (p = p ∧ 3 + b * 16 + a = 3 + a * 16 + b) := by omega
  have cb2 : (w.setCell ⟨p, 3 + a * 16 + b, none⟩ (.bool v)).cell? ⟨p, 3 + b * 16 + a, none⟩ = some (.bool (D (b * 16 + a))) := by rw [set_cell_other hno]; exact cb
  clear h hno
  go_enter Try.func36, Try.ntmps36
  go_wp2_with fail
  refine na.mono ?_
  rintro e w1 ⟨rfl, rfl⟩
  go_wp2_with fail
  refine nb.mono ?_
  rintro e w1 ⟨rfl, rfl⟩
  go_wp2
  go_ret
  exact ⟨rfl, HE.out⟩
end
end Go.Proofs.Ytagabmhgcmnldaa
