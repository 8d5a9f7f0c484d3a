/-
  A summary out of bytes.
-/
import Derived.Test.YtlaihgdfedalmaaGreatEList2
import Derived.Test.YtlaihgdfedalmaaGreatMix3
import Derived.Test.YtlaihgdfedalmaaGreatEDec1
namespace Go.Proofs.YtlaihgdfedalmaaGreat
open Go.RowKit
set_option linter.unusedVariables false
set_option linter.unusedSimpArgs false

def mx : Int := 9223372036854775807
/-- A summary's parts as they are read. -/
structure DS where
  es : List (Lb × List UInt8)
  ls : List Lb
  nx : Nat
  hn : Nat
  hp : Nat
def dE (st : Option (List UInt8)) := decN decE (Cd.rInt st mx).1 (Cd.rInt st mx).2
def dL (st : Option (List UInt8)) := decN decL (Cd.rInt st mx).1 (Cd.rInt st mx).2
def decS (st : Option (List UInt8)) : DS × Option (List UInt8) :=
  (⟨(dE st).1, (dL (dE st).2).1, (Cd.rInt (dL (dE st).2).2 mx).1, (decV (Cd.rInt (dL (dE st).2).2 mx).2).1.1, (decV (Cd.rInt (dL (dE st).2).2 mx).2).1.2⟩, (decV (Cd.rInt (dL (dE st).2).2 mx).2).2)
theorem decN_len {α : Type} (f : Option (List UInt8) → α × Option (List UInt8)) (hf : ∀ st ys, (f st).2 = some ys → ∃ xs, st = some xs ∧ ys.length < xs.length) : ∀ (k : Nat) (st : Option (List UInt8)) (ys : List UInt8), (decN f k st).2 = some ys → ∃ xs, st = some xs ∧ ys.length ≤ xs.length
  | 0, st, ys, h => ⟨ys, h, Nat.le_refl _⟩
  | k + 1, st, ys, h => by
    unfold decN at h
    split at h
    · rename_i a zs h1 h2
      cases h
      obtain ⟨us, h3, h4⟩ := decN_len f hf k _ _ h2
      obtain ⟨xs, h5, h6⟩ := hf _ _ h3
      exact ⟨xs, h5, by omega⟩
    · cases h
theorem dE_len (st : Option (List UInt8)) (ys : List UInt8) (h : (dE st).2 = some ys) : ∃ xs, st = some xs ∧ ys.length ≤ xs.length := by
  obtain ⟨us, h1, h2⟩ := decN_len decE decE_less _ _ _ h
  obtain ⟨xs, h3, h4⟩ := Cd.rInt_len _ _ _ h1
  exact ⟨xs, h3, by omega⟩
theorem noByte_sum (a : Option Addr) (n c : Nat) (b : Option Addr) (m d : Nat) (x y z : Int) : noByte #[.slice a n c, .slice b m d, .int .i64 x, .int .u64 y, .int .i64 z] := by
  intro v hv k
  simp at hv
  rcases hv with rfl | rfl | rfl | rfl | rfl <;> simp
theorem er_row {p : Nat → Prop} {w : World} {ao : Option Addr} {n : Nat} {es : List (Lb × List UInt8)} (h : ER p w ao n es) {g : Nat} (cs : Array Value) (hg : ¬ p g) : ER p (w.setRow g cs) ao n es :=
  h.kp (fun ad v hp hv => (cell_setRow_other _ _ _ _ (fun e => hg (by rw [← e]; exact hp))).trans hv)
theorem er_gr {p : Nat → Prop} {w w' : World} {ao : Option Addr} {n : Nat} {es : List (Lb × List UInt8)} {r : Nat} (h : ER p w ao n es) (g : w.grownBy w' (some r)) (hg : ¬ p r) : ER p w' ao n es :=
  h.kp (fun ad v hp hv => (World.cell?_of_block (a := ad) (g.block _ (World.block_lt_of_cell? w _ hv) (fun e => hg (by cases e; exact hp)))).trans hv)
theorem gr_setRowE (w : World) (g : Nat) (cs : Array Value) : w.grownBy (w.setRow g cs) (some g) := ⟨rfl, rfl, rfl, by simp, fun k hk hne => setRow_other _ _ _ _ (by simpa using hne)⟩
theorem EO.nz {B : Nat} {w : World} {v : Value} {es : List (Lb × List UInt8)} (h : EO B w v es) (ao : Option Addr) (n cap : Nat) (hv : v = .slice ao n cap) (e : ao = none) : n = 0 ∧ cap = 0 := by
  obtain ⟨_, _, ho, _⟩ := h
  rcases id ho.2 with ⟨hn, h3⟩ | ⟨g, cap', cur, hs, _⟩
  · rw [hn] at hv
    simp only [Value.slice.injEq] at hv
    omega
  · rw [hs] at hv
    simp only [Value.slice.injEq] at hv
    rw [e] at hv
    cases hv.1
/-- What readSummary holds of memory. -/
structure Rs (w W : World) (r b : Nat) (c : Array Value) (st : Option (List UInt8)) (ao : Option Addr) (n : Nat) (es : List (Lb × List UInt8)) : Prop where
  rd : Cd.Rd W r st
  ans : W.heap[w.heap.size]? = some (.cells #[.slice none 0 0, .slice none 0 0, .int .i64 0, .int .u64 0, .int .i64 0] 45 (0, 0))
  got : W.heap[b]? = some (.cells c 45 (0, 0))
  gr : w.grownBy W (some r)
  rl : r < w.heap.size
  bl : w.heap.size < b
  er : ER (fun k => w.heap.size < k ∧ k < b) W ao n es
variable {w W W' : World} {r b n : Nat} {c : Array Value} {st st' : Option (List UInt8)} {ao : Option Addr} {es : List (Lb × List UInt8)}
theorem Rs.step (h : Rs w W r b c st ao n es) (hr : Cd.Rd W' r st') (g : W.grownBy W' (some r)) : Rs w W' r b c st' ao n es :=
  have key : ∀ k o, W.heap[k]? = some o → k ≠ r → W'.heap[k]? = some o := fun k o hk hne => (g.block k (Array.getElem?_eq_some_iff.1 hk).1 (by simpa using hne)).trans hk
  { rd := hr, ans := key _ _ h.ans (by have := h.rl; omega), got := key _ _ h.got (by have := h.rl; have := h.bl; omega), gr := Cd.grown_trans h.gr g, rl := h.rl, bl := h.bl, er := er_gr h.er g (fun e => by have := h.rl; omega) }
theorem Rs.set (h : Rs w W r b c st ao n es) (hn : noByte c) (cs : Array Value) : Rs w (W.setRow b cs) r b cs st ao n es :=
  have h1 := h.rl
  have h2 := h.bl
  { rd := rd_setRow h.rd (by omega) h.got hn, ans := (setRow_other _ _ _ _ (by omega)).trans h.ans, got := setRow_heap _ _ _ _ _ _ h.got, gr := gr_row h.gr (by omega) _, rl := h1, bl := h2, er := er_row h.er cs (fun e => by omega) }

set_option maxRecDepth 20000 in
set_option maxHeartbeats 2000000 in
theorem readSummary_rd (w : World) (r : Nat) (st : Option (List UInt8)) (h : Cd.Rd w r st) (hl : ∀ xs, st = some xs → xs.length ≤ 1000000) :
    Calls Tryz.prog 126 #[.pointer (some ⟨r, 0, none⟩)] w fun e w' => ∃ ao ac bo bc, e = .returned (sumv (.slice ao (decS st).1.es.length ac) (.slice bo (decS st).1.ls.length bc) (decS st).1.nx (decS st).1.hn (decS st).1.hp) ∧ ER (fun k => w.heap.size < k) w' ao (decS st).1.es.length (decS st).1.es ∧ LR w' bo (decS st).1.ls.length (decS st).1.ls ∧ ((ao = none → (decS st).1.es.length = 0 ∧ ac = 0) ∧ (bo = none → (decS st).1.ls.length = 0 ∧ bc = 0)) ∧ (decS st).1.ls.length ≤ bc ∧ (∀ a, bo = some a → w.heap.size < a.block) ∧ Cd.Rd w' r (decS st).2 ∧ w.grownBy w' (some r) := by
  have hrl := h.lt
  have h1 := rd_alloc h (.cells #[.slice none 0 0, .slice none 0 0, .int .i64 0, .int .u64 0, .int .i64 0] 45)
  have hE := readEs_rd _ r st h1 hl
  have hL := fun W (hW : Cd.Rd W r (dE st).2) => readLs_rd W r (dE st).2 hW (fun xs hx => by
    obtain ⟨us, h2, h3⟩ := dE_len _ _ hx
    have := hl us h2
    omega)
  have hI := fun W (hW : Cd.Rd W r (dL (dE st).2).2) => Cd.int_rd W r (dL (dE st).2).2 hW 9223372036854775807 (by omega) (by omega)
  have hV := fun W (hW : Cd.Rd W r (Cd.rInt (dL (dE st).2).2 mx).2) => decode_rd W r (Cd.rInt (dL (dE st).2).2 mx).2 hW
  have HDS : Hid (decS st = (⟨(dE st).1, (dL (dE st).2).1, (Cd.rInt (dL (dE st).2).2 mx).1, (decV (Cd.rInt (dL (dE st).2).2 mx).2).1.1, (decV (Cd.rInt (dL (dE st).2).2 mx).2).1.2⟩, (decV (Cd.rInt (dL (dE st).2).2 mx).2).2)) := rfl
  generalize decS st = S at *
  have hE' : Calls Tryz.prog 157 #[.pointer (some ⟨r, 0, none⟩), .func (.func 125) #[] #[]] (w.alloc (.cells #[.slice none 0 0, .slice none 0 0, .int .i64 0, .int .u64 0, .int .i64 0] 45)) (fun e w' => ∃ v, e = .returned v ∧ EO (w.heap.size + 1) w' v (dE st).1 ∧ Cd.Rd w' r (dE st).2 ∧ (w.alloc (.cells #[.slice none 0 0, .slice none 0 0, .int .i64 0, .int .u64 0, .int .i64 0] 45)).grownBy w' (some r)) := by
    refine hE.mono ?_
    rintro e w' ⟨v, q1, q2, q3, q4⟩
    exact ⟨v, q1, by simpa [dE, mx] using q2, q3, q4⟩
  have hL' : ∀ W, Cd.Rd W r (dE st).2 → Calls Tryz.prog 158 #[.pointer (some ⟨r, 0, none⟩), .func (.func 155) #[] #[]] W (fun e w' => ∃ v, e = .returned v ∧ w'.ownsRow W.heap.size 39 4 v (dL (dE st).2).1.length (flat (dL (dE st).2).1) ∧ Cd.Rd w' r (dL (dE st).2).2 ∧ W.grownBy w' (some r)) := hL
  clear hE hL
  generalize dE st = DE at *
  obtain ⟨es, st1⟩ := DE
  simp only at hE' hL' hI hV HDS
  generalize dL st1 = DL at *
  obtain ⟨ls, st2⟩ := DL
  simp only at hL' hI hV HDS
  have hI' : ∀ W, Cd.Rd W r st2 → Calls Tryz.prog 124 #[.pointer (some ⟨r, 0, none⟩), .int .i64 9223372036854775807] W (fun e w' => e = .returned (.int .i64 ((Cd.rInt st2 mx).1 : Nat)) ∧ Cd.Rd w' r (Cd.rInt st2 mx).2 ∧ W.grownBy w' (some r)) := hI
  clear hI
  generalize Cd.rInt st2 mx = RI at *
  obtain ⟨nx, st3⟩ := RI
  simp only at hI' hV HDS
  generalize decV st3 = DV at *
  obtain ⟨⟨hn, hp⟩, st4⟩ := DV
  simp only at hV HDS
  unfold vid at hV
  clear hl h
  go_enter Tryz.func126, Tryz.ntmps126
  go_wp2_with fail
  refine hE'.mono ?_
  rintro e w1 ⟨v, rfl, hEO, hr1, hg1⟩
  have hEO2 := EO.nz hEO
  obtain ⟨ao, ac, rfl, hz, hc, hER⟩ := hEO.er
  have HZ0 : Hid (ao = none → es.length = 0 ∧ ac = 0) := fun e => hEO2 ao es.length ac rfl e
  have hans1 : w1.heap[w.heap.size]? = some (.cells #[.slice none 0 0, .slice none 0 0, .int .i64 0, .int .u64 0, .int .i64 0] 45 (0, 0)) := (hg1.block w.heap.size (by simp) (by simp; omega)).trans (heap_alloc_new _ _)
  have hs1 : w.heap.size < w1.heap.size := (Array.getElem?_eq_some_iff.1 hans1).1
  have R1 : Rs w (w1.alloc (.cells #[.slice ao es.length ac, .slice none 0 0, .int .i64 0, .int .u64 0, .int .i64 0] 45)) r w1.heap.size #[.slice ao es.length ac, .slice none 0 0, .int .i64 0, .int .u64 0, .int .i64 0] st1 ao es.length es :=
    { rd := rd_alloc hr1 _, ans := (Below.heap_alloc _ _ _ hs1).trans hans1, got := heap_alloc_new _ _, gr := Cd.grown_trans (grown_alloc hg1) (gr_of (bl1 _ _) _), rl := hrl, bl := hs1,
      er := ((hER.here).mono (fun k hk => ⟨by have := hk.1; omega, hk.2⟩)).bl (bl1 _ _) }
  have hL1 := hL' _ R1.rd
  have hsW1 : (w1.alloc (.cells #[.slice ao es.length ac, .slice none 0 0, .int .i64 0, .int .u64 0, .int .i64 0] 45)).heap.size = w1.heap.size + 1 := by simp
  rw [hsW1] at hL1
  clear hE' hL' hEO hEO2 hER hg1 hr1 h1 hans1
  go_wp2_with fail
  refine hL1.mono ?_
  rintro e w2 ⟨u, rfl, hu2, hr2, hg2⟩
  obtain ⟨bo, bc, hbv⟩ := rowL_shape hu2
  subst hbv
  have R2 := R1.step hr2 hg2
  have R3 := R2.set (noByte_sum _ _ _ _ _ _ _ _ _) #[.slice ao es.length ac, .slice bo ls.length bc, .int .i64 0, .int .u64 0, .int .i64 0]
  have hu3 := ownL_gr hu2 (gr_setRowE w2 w1.heap.size #[.slice ao es.length ac, .slice bo ls.length bc, .int .i64 0, .int .u64 0, .int .i64 0]) (fun k hk => by cases hk; omega)
  have e3 := setCell_eq_setRow w2 w1.heap.size 1 _ 45 (0, 0) (.slice bo ls.length bc) R2.got
  have f1 := cell_of_row w2 w1.heap.size 1 _ 45 (0, 0) R2.got
  have f2 := frozen_of_row w2 w1.heap.size 1 _ 45 R2.got
  simp at e3 f1
  obtain ⟨W3, hW3⟩ : ∃ W, Hid (w2.setRow w1.heap.size #[.slice ao es.length ac, .slice bo ls.length bc, .int .i64 0, .int .u64 0, .int .i64 0] = W) := ⟨_, rfl⟩
  rw [hW3.out] at R3 hu3 e3
  have hI3 := hI' W3 R3.rd
  clear hL1 R1 R2 hr2 hg2 hu2 hI'
  go_wp2_with fail
  refine hI3.mono ?_
  rintro e w4 ⟨rfl, hr4, hg4⟩
  have R4 := R3.step hr4 hg4
  have hu4 := ownL_gr hu3 hg4 (fun k hk => by cases hk; omega)
  have R5 := R4.set (noByte_sum _ _ _ _ _ _ _ _ _) #[.slice ao es.length ac, .slice bo ls.length bc, .int .i64 (nx : Nat), .int .u64 0, .int .i64 0]
  have hu5 := ownL_gr hu4 (gr_setRowE w4 w1.heap.size #[.slice ao es.length ac, .slice bo ls.length bc, .int .i64 (nx : Nat), .int .u64 0, .int .i64 0]) (fun k hk => by cases hk; omega)
  have e5 := setCell_eq_setRow w4 w1.heap.size 2 _ 45 (0, 0) (.int .i64 (nx : Nat)) R4.got
  have f3 := cell_of_row w4 w1.heap.size 2 _ 45 (0, 0) R4.got
  have f4 := frozen_of_row w4 w1.heap.size 2 _ 45 R4.got
  simp at e5 f3
  obtain ⟨W5, hW5⟩ : ∃ W, Hid (w4.setRow w1.heap.size #[.slice ao es.length ac, .slice bo ls.length bc, .int .i64 (nx : Nat), .int .u64 0, .int .i64 0] = W) := ⟨_, rfl⟩
  rw [hW5.out] at R5 hu5 e5
  have hV5 := hV W5 R5.rd
  clear hI3 R3 R4 hr4 hg4 hu3 hu4 hV e3 f1 f2
  go_wp2_with fail
  refine hV5.mono ?_
  rintro e w6 ⟨rfl, hr6, hg6⟩
  have R6 := R5.step hr6 hg6
  have hu6 := ownL_gr hu5 hg6 (fun k hk => by cases hk; omega)
  have R7 := R6.set (noByte_sum _ _ _ _ _ _ _ _ _) #[.slice ao es.length ac, .slice bo ls.length bc, .int .i64 (nx : Nat), .int .u64 (hn : Nat), .int .i64 0]
  have R8 := R7.set (noByte_sum _ _ _ _ _ _ _ _ _) #[.slice ao es.length ac, .slice bo ls.length bc, .int .i64 (nx : Nat), .int .u64 (hn : Nat), .int .i64 (hp : Nat)]
  have hu7 := ownL_gr hu6 (gr_setRowE w6 w1.heap.size #[.slice ao es.length ac, .slice bo ls.length bc, .int .i64 (nx : Nat), .int .u64 (hn : Nat), .int .i64 0]) (fun k hk => by cases hk; omega)
  have hu8 := ownL_gr hu7 (gr_setRowE _ w1.heap.size #[.slice ao es.length ac, .slice bo ls.length bc, .int .i64 (nx : Nat), .int .u64 (hn : Nat), .int .i64 (hp : Nat)]) (fun k hk => by cases hk; omega)
  have e7 := setCell_eq_setRow w6 w1.heap.size 3 _ 45 (0, 0) (.int .u64 (hn : Nat)) R6.got
  have e8 := setCell_eq_setRow _ w1.heap.size 4 _ 45 (0, 0) (.int .i64 (hp : Nat)) R7.got
  have f5 := cell_of_row w6 w1.heap.size 3 _ 45 (0, 0) R6.got
  have f6 := frozen_of_row w6 w1.heap.size 3 _ 45 R6.got
  have f7 := cell_of_row _ w1.heap.size 4 _ 45 (0, 0) R7.got
  have f8 := frozen_of_row _ w1.heap.size 4 _ 45 R7.got
  have f9 := cell_of_row w6 w1.heap.size 4 _ 45 (0, 0) R6.got
  have f10 := frozen_of_row w6 w1.heap.size 4 _ 45 R6.got
  have hans8 := R8.ans
  have kk := fun j => cell_of_row _ w1.heap.size j _ 45 (0, 0) R8.got
  have k0 := kk 0
  have k1 := kk 1
  have k2 := kk 2
  have k3 := kk 3
  have k4 := kk 4
  simp at e7 e8 f5 f7 f9
  simp only [List.getElem?_toArray, List.getElem?_cons_zero, List.getElem?_cons_succ] at k0 k1 k2 k3 k4
  rw [setRow_setRow] at e8 k0 k1 k2 k3 k4 hans8 R8 hu8
  obtain ⟨W8, hW8⟩ : ∃ W, Hid (w6.setRow w1.heap.size #[.slice ao es.length ac, .slice bo ls.length bc, .int .i64 (nx : Nat), .int .u64 (hn : Nat), .int .i64 (hp : Nat)] = W) := ⟨_, rfl⟩
  rw [hW8.out] at e8 k0 k1 k2 k3 k4 hans8 R8 hu8
  have hrl8 := R8.rl
  have hbl8 := R8.bl
  have HFIN : Hid (∃ ao' ac' bo' bc', Ending.returned (.agg #[.slice ao es.length ac, .slice bo ls.length bc, .int .i64 (nx : Nat), .int .u64 (hn : Nat), .int .i64 (hp : Nat)]) = .returned (sumv (.slice ao' S.1.es.length ac') (.slice bo' S.1.ls.length bc') S.1.nx S.1.hn S.1.hp) ∧ ER (fun k => w.heap.size < k) (W8.setRow w.heap.size #[.slice ao es.length ac, .slice bo ls.length bc, .int .i64 (nx : Nat), .int .u64 (hn : Nat), .int .i64 (hp : Nat)]) ao' S.1.es.length S.1.es ∧ LR (W8.setRow w.heap.size #[.slice ao es.length ac, .slice bo ls.length bc, .int .i64 (nx : Nat), .int .u64 (hn : Nat), .int .i64 (hp : Nat)]) bo' S.1.ls.length S.1.ls ∧ ((ao' = none → S.1.es.length = 0 ∧ ac' = 0) ∧ (bo' = none → S.1.ls.length = 0 ∧ bc' = 0)) ∧ S.1.ls.length ≤ bc' ∧ (∀ a, bo' = some a → w.heap.size < a.block) ∧ Cd.Rd (W8.setRow w.heap.size #[.slice ao es.length ac, .slice bo ls.length bc, .int .i64 (nx : Nat), .int .u64 (hn : Nat), .int .i64 (hp : Nat)]) r S.2 ∧ w.grownBy (W8.setRow w.heap.size #[.slice ao es.length ac, .slice bo ls.length bc, .int .i64 (nx : Nat), .int .u64 (hn : Nat), .int .i64 (hp : Nat)]) (some r)) := by
    rw [HDS.out]
    have hu9 := ownL_gr hu8 (gr_setRowE W8 w.heap.size #[.slice ao es.length ac, .slice bo ls.length bc, .int .i64 (nx : Nat), .int .u64 (hn : Nat), .int .i64 (hp : Nat)]) (fun k hk => by cases hk; omega)
    obtain ⟨bo2, bc2, hv2, hLR⟩ := LR.own hu9
    simp only [Value.slice.injEq] at hv2
    obtain ⟨rfl, _, rfl⟩ := hv2
    refine ⟨ao, ac, bo, bc, rfl, (er_row R8.er _ (fun e => by omega)).mono (fun k hk => hk.1), hLR, ?_, ?_, ?_, rd_setRow R8.rd (by omega) R8.ans (noByte_sum _ _ _ _ _ _ _ _ _), gr_row R8.gr (Nat.le_refl _) _⟩
    · refine ⟨HZ0.out, fun e => ?_⟩
      rcases hu9.2 with ⟨h1, h0⟩ | ⟨g, cap, cur, h1, _⟩
      · simp only [Value.slice.injEq] at h1
        exact ⟨h0, h1.2.2⟩
      · rw [e] at h1; cases h1
    · rcases hu9.2 with ⟨h1, h0⟩ | ⟨g, cap, cur, h1, _, _, h2, _⟩
      · show ls.length ≤ bc
        omega
      · cases h1
        exact h2
    · intro a e
      rcases hu9.2 with ⟨h1, h0⟩ | ⟨g, cap, cur, h1, h2, _⟩
      · rw [e] at h1; cases h1
      · rw [e] at h1
        cases h1
        show w.heap.size < g
        omega
  have cR := fun j => cell_setRow_same W8 w.heap.size j _ #[.slice ao es.length ac, .slice bo ls.length bc, .int .i64 (nx : Nat), .int .u64 (hn : Nat), .int .i64 (hp : Nat)] _ _ hans8
  have c0 := cR 0
  have c1 := cR 1
  have c2 := cR 2
  have c3 := cR 3
  have c4 := cR 4
  simp only [List.getElem?_toArray, List.getElem?_cons_zero, List.getElem?_cons_succ] at c0 c1 c2 c3 c4
  clear hV5 R5 R6 R7 R8 hr6 hg6 hu5 hu6 hu7 hu8 e5 f3 f4 cR kk HDS
  go_wp2_with (first | (refine wpList_store_row rfl 45 (.tmp 2) (.tmp 19) rfl w.heap.size #[.slice ao es.length ac, .slice bo ls.length bc, .int .i64 (nx : Nat), .int .u64 (hn : Nat), .int .i64 (hp : Nat)] rfl rfl 45 _ hans8 infoS38 rfl (by simp [Value.oneCell']) ?_))
  refine bodyPost_ret (v := .agg #[.slice ao es.length ac, .slice bo ls.length bc, .int .i64 (nx : Nat), .int .u64 (hn : Nat), .int .i64 (hp : Nat)]) ?_ rfl HFIN.out
  simp [results, Tryz.results126, go_sem, c0, c1, c2, c3, c4]
end Go.Proofs.YtlaihgdfedalmaaGreat
