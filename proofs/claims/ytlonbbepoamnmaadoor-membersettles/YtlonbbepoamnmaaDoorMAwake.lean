/-
  A node that has no view (New); the document's example (awake).
-/
import Derived.Test.YtlonbbepoamnmaaDoorMIn6
namespace Go.Proofs.YtlonbbepoamnmaaDoor
open Go.RowKit
set_option linter.unusedVariables false

def tzC : Array Value := Array.ofFn (n := 64) fun j => tcell ((0, 0), (0, 0)) (j.val % 4)
def nC (s self : Nat) : Array Value := #[.int .u16 (s : Nat), .int .i64 (self : Nat), .int .u64 0, .int .i64 0, .int .u16 0, .int .u64 0, .int .i64 0, .int .u64 0, .pointer none] ++ tzC
set_option maxRecDepth 100000 in
theorem zero95 (w : World) : (zeroValue 95).run Tryd.prog w = .ok (.agg (nC 0 0)) w := by kernel_rfl
theorem nC_set (self : Nat) : (nC 0 0).setIfInBounds 1 (.int .i64 (self : Nat)) = nC 0 self := by kernel_rfl
theorem nC_0 (s self : Nat) : (nC s self)[0]? = some (.int .u16 (s : Nat)) := by unfold nC; rw [Array.getElem?_append_left (by simp)]; rfl
theorem nC_get (s n self j : Nat) (h0 : 0 < j) (hj : j < 73) : (nC s self)[j]? = some (mcell (newM n self) none j) := by
  match j, h0, hj with
  | 1, _, _ => unfold nC; rw [Array.getElem?_append_left (by simp)]; rfl
  | 2, _, _ => unfold nC; rw [Array.getElem?_append_left (by simp)]; rfl
  | 3, _, _ => unfold nC; rw [Array.getElem?_append_left (by simp)]; rfl
  | 4, _, _ => unfold nC; rw [Array.getElem?_append_left (by simp)]; rfl
  | 5, _, _ => unfold nC; rw [Array.getElem?_append_left (by simp)]; rfl
  | 6, _, _ => unfold nC; rw [Array.getElem?_append_left (by simp)]; rfl
  | 7, _, _ => unfold nC; rw [Array.getElem?_append_left (by simp)]; rfl
  | 8, _, _ => unfold nC; rw [Array.getElem?_append_left (by simp)]; rfl
  | j + 9, _, hj =>
    unfold nC
    rw [Array.getElem?_append_right (by simp)]
    simp only [List.size_toArray, List.length_cons, List.length_nil, Nat.reduceAdd, Nat.add_sub_cancel]
    unfold tzC
    rw [Array.getElem?_ofFn]
    rw [dif_pos (by omega)]
    rfl

theorem new_err (w : World) (n self : Int) (h : ¬ (1 ≤ n ∧ n ≤ 16 ∧ 0 ≤ self ∧ self < n)) : Calls Tryd.prog 12 #[.int .i64 n, .int .i64 self] w fun e w' => e = .returned (.tuple #[.pointer none, .int .i64 1]) ∧ w = w' := by
  by_cases h1 : n < 1
  · clear h
    go_enter Tryd.func12, Tryd.ntmps12
    go_wp2
    go_ret2
    exact ⟨rfl, rfl⟩
  · by_cases h2 : 16 < n
    · clear h
      go_enter Tryd.func12, Tryd.ntmps12
      go_wp2
      go_ret2
      exact ⟨rfl, rfl⟩
    · by_cases h3 : self < 0
      · clear h
        go_enter Tryd.func12, Tryd.ntmps12
        go_wp2
        go_ret2
        exact ⟨rfl, rfl⟩
      · have h4 : n ≤ self := by omega
        clear h
        go_enter Tryd.func12, Tryd.ntmps12
        go_wp2
        go_ret2
        exact ⟨rfl, rfl⟩

structure Nw (w : World) (q n sf k : Nat) (wr : World) : Prop where
  b : Below w.heap.size w wr
  hq : w.heap.size = q
  sz : wr.heap.size = w.heap.size + 1
  c0 : wr.cell? ⟨q, 0, none⟩ = some (.int .u16 ((2 ^ k - 1 : Nat) : Int))
  cs : ∀ j, 0 < j → j < 73 → wr.cell? ⟨q, j, none⟩ = some (mcell (newM n sf) none j)
  fr : ∀ j, wr.frozen? ⟨q, j, none⟩ = false
theorem nw_begin (w : World) (n self : Nat) : Nw w w.heap.size n self 0 (w.alloc (.cells (nC 0 self) 95)) := by
  have hb : (w.alloc (.cells (nC 0 self) 95)).heap[w.heap.size]? = some (.cells (nC 0 self) 95 (0, 0)) := heap_alloc_new _ _
  exact {
    b := bl1 _ _
    hq := rfl
    sz := by simp
    c0 := by rw [cell_of_row _ _ _ _ 95 (0, 0) hb, nC_0]
    cs := fun j h0 hj => by rw [cell_of_row _ _ _ _ 95 (0, 0) hb]; exact nC_get _ _ _ _ h0 hj
    fr := fun j => by unfold World.frozen?; rw [hb]; simp }
theorem Nw.next {w wr : World} {q n self k : Nat} (h : Nw w q n self k wr) : Nw w q n self (k + 1) (wr.setCell ⟨q, 0, none⟩ (.int .u16 ((2 ^ (k + 1) - 1 : Nat) : Int))) where
  b := h.b.setCell (by have := h.hq; show w.heap.size ≤ q; omega) _
  hq := h.hq
  sz := by rw [World.size_setCell]; exact h.sz
  c0 := set_cell h.c0
  cs := fun j h0 hj => by rw [set_other (by omega)]; exact h.cs j h0 hj
  fr := fun j => by rw [World.frozen?_setCell]; exact h.fr j
theorem Nw.drew {w wr : World} {q n self k : Nat} (h : Nw w q n self k wr) : Nw w q n self k wr.drew := ⟨h.b.drew, h.hq, h.sz, h.c0, h.cs, h.fr⟩
theorem withN_next' : ∀ k : Fin 16, withN (2 ^ k.val - 1) (k.val : Int) = 2 ^ (k.val + 1) - 1 := by decide
theorem withN_next (k : Nat) (hk : k < 16) : withN (2 ^ k - 1) (k : Int) = 2 ^ (k + 1) - 1 := withN_next' ⟨k, hk⟩
theorem Nw.mb {w wr : World} {q n self : Nat} (h : Nw w q n self n wr) (Z : Nat → Prop) (hz : ∀ b, Z b → b < w.heap.size) (tab : Tab w) (hn : n ≤ 16) (hs : self < n) : Mb wr (fun b => b = q) Z q (newM n self) none where
  cell := fun k hk => by
    rcases Nat.eq_zero_or_pos k with rfl | h0
    · exact h.c0
    · exact h.cs k h0 hk
  fr := h.fr
  fq := rfl
  lt := fun b hb => by have := h.hq; have := h.sz; omega
  f0 := fun b hb => by have := h.hq; have := tab.lt; omega
  zf := fun b hb e => by have := h.hq; have := hz b hb; omega
  zl := fun b hb => by have := h.sz; have := hz b hb; omega
  tab := tab.below h.b tab.lt
  n16 := hn
  sn := hs
  own := trivial

set_option maxRecDepth 20000 in
set_option maxHeartbeats 1000000 in
theorem new_any (w : World) (n self : Nat) (h1 : 1 ≤ n) (h16 : n ≤ 16) (hs : self < n) : Calls Tryd.prog 12 #[.int .i64 (n : Nat), .int .i64 (self : Nat)] w fun e w' => ∃ q, e = .returned (.tuple #[.pointer (some ⟨q, 0, none⟩), .int .i64 0]) ∧ Nw w q n self n w' := by
  have g0 : ¬ ((n : Int) < 1) := by omega
  have g1 : ¬ ((16 : Int) < (n : Int)) := by omega
  have g2 : ¬ ((self : Int) < 0) := by omega
  have g3 : ¬ ((n : Int) ≤ (self : Int)) := by omega
  have hz := zero95
  have hsz : (nC 0 0).size = 73 := by kernel_rfl
  have hne : nC 0 0 ≠ #[] := by intro e; rw [e] at hsz; simp at hsz
  have hlt : ¬ (nC 0 0).size < 2 := by omega
  have HC : Hid ((nC 0 0).setIfInBounds 1 (.int .i64 (self : Nat)) = nC 0 self) := nC_set self
  have HN : Hid (Nw w w.heap.size n self 0 (w.alloc (.cells (nC 0 self) 95))) := nw_begin w n self
  generalize nC 0 0 = zC at *
  obtain ⟨q, hq⟩ : ∃ q, w.heap.size = q := ⟨_, rfl⟩
  go_enter Tryd.func12, Tryd.ntmps12
  go_wp2_with fail
  rw [HC.out]
  obtain ⟨wa, hwa⟩ : ∃ wa, w.alloc (.cells (nC 0 self) 95) = wa := ⟨_, rfl⟩
  rw [hwa] at HN ⊢
  rw [hq] at HN
  (try rw [hq])
  clear HC hz hne hlt hsz hwa
  clear zC
  go_loopw [7, 27] (fun lv iv wr => ∃ (k : Nat) (v : Value), k ≤ n ∧ iv = .int .i64 (k : Nat) ∧ lv = v ∧ Hid (Nw w q n self k wr)) (fun _ iv _ => n - (intOf iv).toNat)
  case atStart => exact ⟨0, _, by omega, rfl, rfl, HN⟩
  case round =>
    obtain ⟨k, v, hk, rfl, hlv, hw⟩ := hrel
    replace hlv := hlv.symm
    subst hlv
    by_cases hlt : k < n
    · have hltI : (k : Int) < (n : Int) := by omega
      have hpow : 2 ^ k ≤ 65536 := Nat.pow_le_pow_right (j := 16) (by omega) (by omega)
      have hwi := fun W => with_any W (2 ^ k - 1) (by omega) (k : Int)
      rw [withN_next k (by omega)] at hwi
      have c0 := hw.out.c0
      have f0 := hw.out.fr 0
      have hS : wr.drew.cell? ⟨q, 0, none⟩ = some (.int .u16 ((2 ^ k - 1 : Nat) : Int)) := c0
      have HX : Hid (Nw w q n self (k + 1) (wr.setCell ⟨q, 0, none⟩ (.int .u16 ((2 ^ (k + 1) - 1 : Nat) : Int)))) := hw.out.next
      generalize 2 ^ k - 1 = s1 at *
      generalize 2 ^ (k + 1) - 1 = s2 at *
      clear hpow
      go_wp2_with fail
      refine (hwi _).mono ?_
      rintro e w0 ⟨rfl, rfl⟩
      go_wp2
      go_roundw
      case rel => exact ⟨k + 1, _, by omega, by go_num, rfl, HX⟩
      case measure => simp [intOf]; omega
    · have hge : ¬ ((k : Int) < (n : Int)) := by omega
      have e : k = n := by omega
      subst e
      go_wp2
      go_ret2
      exact ⟨_, rfl, hw.out⟩
end Go.Proofs.YtlonbbepoamnmaaDoor
namespace Go.Proofs.YtlonbbepoamnmaaDoor
open Go.RowKit
set_option linter.unusedVariables false

theorem below_sp {B : Nat} {w w1 w2 : World} {F Z F' Z' : Nat → Prop} (h : Below B w w1) (hB : B ≤ w1.heap.size) (s : Sp w1 F Z w2 F' Z') (hF : ∀ b, F b → B ≤ b) : Below B w w2 ∧ B ≤ w2.heap.size ∧ ∀ b, F' b → B ≤ b :=
  ⟨⟨s.turned.os.trans h.os, s.turned.tape.trans h.tape, s.turned.output.trans h.output, Nat.le_trans h.size s.turned.size, fun k hk => (s.turned.block k (by omega) (fun hf => by have := hF k hf; omega)).trans (h.block k hk)⟩,
   Nat.le_trans hB s.turned.size, fun b hb => (s.foot b hb).elim (hF b) (fun hle => by omega)⟩
theorem Up.below {B : Nat} {w w1 w2 : World} (h : Below B w w1) (hB : B ≤ w1.heap.size) (u : Below w1.heap.size w1 w2) : Below B w w2 :=
  ⟨u.os.trans h.os, u.tape.trans h.tape, u.output.trans h.output, Nat.le_trans h.size u.size, fun k hk => (u.block k (by omega)).trans (h.block k hk)⟩
/-- One frame that is to be sent, read. -/
theorem outs_read {w : World} {Z : Nat → Prop} {v : Value} {t : Nat} {G : PF} (h : OutsIs w Z v [(t, G)]) : ∃ g cap a, v = .slice (some ⟨g, 0, none⟩) 1 cap ∧ Z g ∧ ∀ j u, (ocells t G a)[j]? = some u → w.cell? ⟨g, j, none⟩ = some u := by
  obtain ⟨L, h1, h2, h3, h4⟩ := h
  match L, h1 with
  | [], h1 => cases h1
  | [(t', G', a)], h1 =>
    have e : t' = t ∧ G' = G := by simpa [plainO] using h1
    obtain ⟨rfl, rfl⟩ := e
    have h2' := h2
    obtain ⟨_, ⟨rfl, h0⟩ | ⟨g, cap, cur, rfl, hg, hh, _⟩⟩ := h2
    · simp at h0
    · refine ⟨g, cap, a, rfl, h3 g rfl, fun j u hj => ?_⟩
      have := h2'.cells (g := g) rfl j u (by rw [flatO_one]; exact hj)
      by_cases hj0 : j = 0
      · subst hj0; simpa [Addr.add] using this
      · simpa [Addr.add, hj0] using this
  | _ :: _ :: _, h1 => simp [plainO] at h1

def zd : Sd := (0, 0, 0, [])
def awF : PF := { zeroF with kind := 3, frm := 1, idN := 1, idP := 0, st := [zd] }
def awM : Mm := ((newM 2 0).tick 3 zd).m
theorem aw_outs : ∃ G, ((newM 2 0).tick 3 zd).outs = [(1, G)] ∧ G.kind = 2 ∧ G.idN = 1 ∧ G.idP = 0 := ⟨_, rfl, rfl, rfl, rfl⟩
theorem aw_inst : ((newM 2 0).tick 3 zd).inst = none := rfl
theorem aw_err2 : (awM.inn awF zd).err = 0 := rfl
theorem aw_inst2 : ∃ I, (awM.inn awF zd).inst = some I ∧ I.set = 3 := ⟨_, rfl, rfl⟩
theorem aw_outs2 : ∃ G, (awM.inn awF zd).outs = [(1, G)] ∧ G.kind = 5 := ⟨_, rfl, rfl⟩
theorem aw_opn : (awM.inn awF zd).m.opn = true := rfl

set_option maxRecDepth 20000 in
set_option maxHeartbeats 2000000 in
theorem awake_any (w : World) (tab : Tab w) : Calls Tryd.prog 11 #[] w fun e w' => e = .returned (.bool true) ∧ Below w.heap.size w w' := by
  have vq := fun W => vid_equal 1 0 1 0 W
  simp only [and_self, decide_true, Int.natCast_one] at vq
  go_enter Tryd.func11, Tryd.ntmps11
  go_wp2_with fail
  refine (new_any w 2 0 (by omega) (by omega) (by omega)).mono ?_
  rintro e w1 ⟨q, rfl, hN⟩
  have h1 := hN.mb (fun _ => False) (fun b hb => hb.elim) tab (by omega) (by omega)
  have ht := tick_any h1 3 (by omega) (0, 0, 0, none, 0, 0) zd (Si.nil _ _ _ _ _ _)
  unfold sta at ht
  have HB1 : Hid (Below w.heap.size w w1 ∧ w.heap.size ≤ w1.heap.size ∧ ∀ b, b = q → w.heap.size ≤ b) := ⟨hN.b, by have := hN.sz; omega, fun b hb => by have := hN.hq; omega⟩
  clear hN h1
  go_wp2_with fail
  refine ht.mono ?_
  rintro e w2 ⟨v, iv, rfl, F2, Z2, o2, sp2, h2, ho2, hi2⟩
  clear ht
  obtain ⟨G, eG, gk, gn, gp⟩ := aw_outs
  rw [eG] at ho2
  rw [aw_inst] at hi2
  obtain ⟨g, cap, a, rfl, hz, hc⟩ := outs_read ho2
  have hiv : iv = .pointer none := hi2
  subst hiv
  have HB2 : Hid (Below w.heap.size w w2 ∧ w.heap.size ≤ w2.heap.size ∧ ∀ b, F2 b → w.heap.size ≤ b) := below_sp HB1.out.1 HB1.out.2.1 sp2 HB1.out.2.2
  have c1 : w2.cell? ⟨g, 1, none⟩ = some (.int .u8 2) := by rw [hc 1 (.int .u8 (G.kind : Nat)) rfl, gk]; rfl
  have c3 : w2.cell? ⟨g, 3, none⟩ = some (.int .u64 1) := by rw [hc 3 (.int .u64 (G.idN : Nat)) rfl, gn]; rfl
  have c4 : w2.cell? ⟨g, 4, none⟩ = some (.int .i64 0) := by rw [hc 4 (.int .i64 G.idP) rfl, gp]
  obtain ⟨w3, hw3⟩ : ∃ w3, w2.alloc (.cells #[.int .u64 0, .int .i64 0, .int .i64 0, .slice none 0 0] 45) = w3 := ⟨_, rfl⟩
  have b3 : Below w2.heap.size w2 w3 := by rw [← hw3]; exact bl1 _ _
  have h3 := h2.up b3
  have hh3 : w3.heap[w2.heap.size]? = some (.cells #[.int .u64 0, .int .i64 0, .int .i64 0, .slice none 0 0] 45 (0, 0)) := by rw [← hw3]; exact heap_alloc_new _ _
  have hss : Ss (nz Z2 w2 w3) w3 (some ⟨w2.heap.size, 0, none⟩) 1 [zd] := ss_one (x := (0, 0, 0, none, 0, 0)) hh3 (.inr ⟨Nat.le_refl _, by rw [← hw3]; simp⟩) (Si.nil _ _ _ _ _ _)
  have hin := in_any h3 awF ⟨some ⟨w2.heap.size, 0, none⟩, 1, none, 0, none, 0⟩ hss (by simp [awF]) (by decide) (0, 0, 0, none, 0, 0) zd (Si.nil _ _ _ _ _ _)
  have HB3 : Hid (Below w.heap.size w w3 ∧ w.heap.size ≤ w3.heap.size ∧ ∀ b, F2 b → w.heap.size ≤ b) := ⟨Up.below HB2.out.1 HB2.out.2.1 b3, Nat.le_trans HB2.out.2.1 b3.size, HB2.out.2.2⟩
  have HW : Hid (w2.alloc (.cells #[.int .u64 0, .int .i64 0, .int .i64 0, .slice none 0 0] 45) = w3) := hw3
  unfold fval fcells sta awF zeroF at hin
  clear hc ho2 eG gk gn gp hi2 sp2 HB1 HB2 h2 h3 hh3 hss hw3 b3 hz
  go_wp2_with fail
  rw [HW.out]
  refine hin.mono ?_
  rintro e w4 ⟨v4, iv4, rfl, F4, Z4, o4, sp4, h4, ho4, hi4⟩
  obtain ⟨G4, eG4, gk4⟩ := aw_outs2
  obtain ⟨I, eI, gI⟩ := aw_inst2
  have ho4' : OutsIs w4 Z4 v4 [(1, G4)] := by rw [← eG4]; exact ho4
  have hi4' : InstIs w4 Z4 iv4 (some I) := by rw [← eI]; exact hi4
  obtain ⟨g4, cap4, a4, rfl, hz4, hc4⟩ := outs_read ho4'
  obtain ⟨ib, rfl, hib⟩ := hi4'
  obtain ⟨ao, cp, hcell, _⟩ := hib.cell
  have d2 : w4.cell? ⟨ib, 2, none⟩ = some (.int .u16 3) := by rw [heap_cell (j := 2) (v := .int .u16 (I.set : Nat)) hcell rfl, gI]; rfl
  have e1 : w4.cell? ⟨g4, 1, none⟩ = some (.int .u8 5) := by rw [hc4 1 (.int .u8 (G4.kind : Nat)) rfl, gk4]; rfl
  have HB4 : Hid (Below w.heap.size w w4 ∧ w.heap.size ≤ w4.heap.size ∧ ∀ b, F4 b → w.heap.size ≤ b) := below_sp HB3.out.1 HB3.out.2.1 sp4 HB3.out.2.2
  have hop := open_any h4
  have eo : (Mm.inn ((newM 2 0).tick 3 zd).m { kind := 3, frm := 1, idN := 1, idP := 0, set := 0, curN := 0, curP := 0, promN := 0, promP := 0, st := [zd], base := 0, ms := [], it := [], ack := 0, safe := 0 } zd).m.opn = true := aw_opn
  rw [eo] at hop
  have ee : (Mm.inn ((newM 2 0).tick 3 zd).m { kind := 3, frm := 1, idN := 1, idP := 0, set := 0, curN := 0, curP := 0, promN := 0, promP := 0, st := [zd], base := 0, ms := [], it := [], ack := 0, safe := 0 } zd).err = 0 := rfl
  rw [ee]
  clear hin ho4 hi4 ho4' hc4 hcell hib h4 sp4 eG4 gk4 eI gI c1 c3 c4 HB3 HW
  go_wp2_with fail
  refine hop.mono ?_
  rintro e w5 ⟨rfl, u5⟩
  go_wp2
  go_ret
  exact ⟨rfl, Up.below HB4.out.1 HB4.out.2.1 u5.bl⟩
end Go.Proofs.YtlonbbepoamnmaaDoor
