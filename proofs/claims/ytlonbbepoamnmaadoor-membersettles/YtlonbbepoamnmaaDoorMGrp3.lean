/-
  Nodes without views (begin); what a node sends, and the view that it has installed (post).
-/
import Derived.Test.YtlonbbepoamnmaaDoorMGrp2
import Derived.Test.YtlonbbepoamnmaaDoorMAwake
namespace Go.Proofs.YtlonbbepoamnmaaDoor
open Go.RowKit
set_option linter.unusedVariables false

theorem From.one {w : World} {b : Nat} {cs : Array Value} {t : TypeId} {fr : Nat × Nat} {news : List Value} (h : w.heap[b]? = some (.cells cs t fr)) (hn : cs.toList = news) (c : Nat) {m : Nat} : From w (.slice (some ⟨b, 0, none⟩) m c) m news := by
  refine .inr ⟨_, c, rfl, fun j x hj => ?_⟩
  subst hn
  have : w.cell? ⟨b, j, none⟩ = some x := by rw [cell_of_row _ _ _ _ t fr h]; simpa using hj
  by_cases h0 : j = 0
  · subst h0; simpa [Addr.add] using this
  · simpa [Addr.add, h0] using this
theorem own_slice {w : World} {e sz n : Nat} {v : Value} {xs : List Value} (h : w.ownsRow 1 e sz v n xs) : ∃ ao cap, v = .slice ao n cap ∧ n ≤ cap ∧ cap ≤ maxLen ∧ (0 < n → ∃ g, ao = some ⟨g, 0, none⟩) := by
  rcases h.2 with ⟨rfl, rfl⟩ | ⟨g, cap, cur, rfl, _, _, h1, h2, _⟩
  · exact ⟨none, 0, rfl, Nat.le_refl _, Nat.zero_le _, fun h => by omega⟩
  · exact ⟨_, cap, rfl, h1, h2, fun _ => ⟨g, rfl⟩⟩

/-- A group behind its beginning. -/
def BagSz (l : List (Nat × PF)) : Prop := ∀ x ∈ l, x.2.st.length ≤ 16 ∧ x.2.set < 65536
def GrpOk (W0 : World) (B : Nat → Prop) (n gq : Nat) (g : Gp) (w : World) : Prop := BagSz g.bag ∧ ∃ col A, Gs W0 B w col n n n gq A g
def GrpAt (W0 : World) (B : Nat → Prop) (n k gq : Nat) (w : World) : Prop := ∃ col A, Gs W0 B w col n k k gq A (begG n)
def BegPost (W0 : World) (B : Nat → Prop) (n : Nat) (e : Ending) (w' : World) : Prop := ∃ gq, e = .returned (.pointer (some ⟨gq, 0, none⟩)) ∧ GrpOk W0 B n gq (begG n) w'

theorem beg_new (w : World) {W0 : World} {B : Nat → Prop} (bel : Kept B W0 w) (hB : ∀ b, B b → b < w.heap.size) (hB1 : B 0) (tab : Tab w) (n : Nat) (h6 : n ≤ 6) : GrpAt W0 B n 0 w.heap.size (w.alloc (.cells #[.int .i64 (n : Nat), .slice none 0 0, .slice none 0 0, .slice none 0 0] 75)) := by
  have hb : (w.alloc (.cells #[.int .i64 (n : Nat), .slice none 0 0, .slice none 0 0, .slice none 0 0] 75)).heap[w.heap.size]? = some (.cells #[.int .i64 (n : Nat), .slice none 0 0, .slice none 0 0, .slice none 0 0] 75 (0, 0)) := heap_alloc_new _ _
  have c : ∀ j v, (#[Value.int .i64 (n : Nat), .slice none 0 0, .slice none 0 0, .slice none 0 0] : Array Value)[j]? = some v → (w.alloc (.cells #[.int .i64 (n : Nat), .slice none 0 0, .slice none 0 0, .slice none 0 0] 75)).cell? ⟨w.heap.size, j, none⟩ = some v := fun j v hj => by rw [cell_of_row _ _ _ _ 75 (0, 0) hb]; exact hj
  refine ⟨fun b => if b = w.heap.size then 1 else 0, ⟨.slice none 0 0, .slice none 0 0, .slice none 0 0, [], fun _ => 0, fun _ => none⟩, ?_⟩
  exact {
    bel := ⟨bel.os, bel.tape, bel.output, Nat.le_trans bel.size (bl1 w _).size, fun b hb => ((bl1 w _).block b (hB b hb)).trans (bel.block b hb)⟩
    hB := fun b hb => Nat.lt_of_lt_of_le (hB b hb) (bl1 w _).size
    hB1 := hB1
    tab := tab.below (bl1 w _) tab.lt
    lo := fun b hb => by
      have : b = w.heap.size := by
        by_cases e : b = w.heap.size
        · exact e
        · rw [if_neg e] at hb; exact absurd rfl hb
      subst this
      exact ⟨fun h => absurd (hB _ h) (Nat.lt_irrefl _), by simp⟩
    n6 := h6
    kl6 := Nat.zero_le _
    kv6 := Nat.zero_le _
    cg := if_pos rfl
    fz := fun k => by unfold World.frozen?; rw [hb]; simp
    c0 := c 0 _ rfl
    c1 := c 1 _ rfl
    c2 := c 2 _ rfl
    c3 := c 3 _ rfl
    l := ⟨World.ownsRow_nil _ _ _ _, fun b hb => by cases hb⟩
    bag := ⟨[], rfl, World.ownsRow_nil _ _ _ _, (fun b hb => by cases hb), (fun x hx => by cases hx)⟩
    vs := ⟨World.ownsRow_nil _ _ _ _, (fun b hb => by cases hb), (fun i x hx => by simp at hx)⟩
    mb := fun i hi => absurd hi (Nat.not_lt_zero _) }

set_option maxRecDepth 20000 in
set_option maxHeartbeats 2000000 in
theorem begin_any (w : World) {W0 : World} {B : Nat → Prop} (bel : Kept B W0 w) (hB : ∀ b, B b → b < w.heap.size) (hB1 : B 0) (tab : Tab w) (n : Nat) (h1 : 1 ≤ n) (h6 : n ≤ 6) : Calls Tryd.prog 24 #[.int .i64 (n : Nat)] w fun e w' => BegPost W0 B n e w' := by
  have HN : Hid (GrpAt W0 B n 0 w.heap.size (w.alloc (.cells #[.int .i64 (n : Nat), .slice none 0 0, .slice none 0 0, .slice none 0 0] 75))) := beg_new w bel hB hB1 tab n h6
  obtain ⟨gq, hq⟩ : ∃ q, w.heap.size = q := ⟨_, rfl⟩
  obtain ⟨wa, hwa⟩ : ∃ wa, w.alloc (.cells #[.int .i64 (n : Nat), .slice none 0 0, .slice none 0 0, .slice none 0 0] 75) = wa := ⟨_, rfl⟩
  have HW : Hid (w.heap.size = gq ∧ w.alloc (.cells #[.int .i64 (n : Nat), .slice none 0 0, .slice none 0 0, .slice none 0 0] 75) = wa) := ⟨hq, hwa⟩
  rw [hwa, hq] at HN
  clear hwa hq bel hB hB1 tab
  go_enter Tryd.func24, Tryd.ntmps24
  go_wp2_with fail
  rw [HW.out.2, HW.out.1]
  go_loopw [4, 5, 6] (fun iv mv ev wr => ∃ (k : Nat) (a b : Value), k ≤ n ∧ iv = .int .i64 (k : Nat) ∧ mv = a ∧ ev = b ∧ Hid (GrpAt W0 B n k gq wr)) (fun iv _ _ _ => n - (intOf iv).toNat)
  case atStart => exact ⟨0, _, _, by omega, rfl, rfl, rfl, HN⟩
  case round =>
    obtain ⟨k, a, b, hk, rfl, ha, hb, hw⟩ := hrel
    replace ha := ha.symm
    replace hb := hb.symm
    subst ha hb
    by_cases hlt : k < n
    · have hltI : (k : Int) < (n : Int) := by omega
      have hnew := new_any wr n k h1 (by omega) hlt
      go_wp2_with fail
      refine hnew.mono ?_
      rintro e w1 ⟨q, rfl, hN⟩
      obtain ⟨col, A, hG⟩ := hw.out
      have hm := hN.mb (fun b => col b = 5) (fun b hb => (hG.lo b (by rw [hb]; decide)).2) hG.tab (by omega) hlt
      have hG1 := hG.up hN.b
      obtain ⟨w2, hw2⟩ : ∃ w2, w1.alloc (.cells #[.pointer (some ⟨q, 0, none⟩)] 24) = w2 := ⟨_, rfl⟩
      have b2 : Below w1.heap.size w1 w2 := by rw [← hw2]; exact bl1 _ _
      have hG2 := hG1.up b2
      have hh2 : w2.heap[w1.heap.size]? = some (.cells #[.pointer (some ⟨q, 0, none⟩)] 24 (0, 0)) := by rw [← hw2]; exact heap_alloc_new _ _
      obtain ⟨v3, w3, hrun3, hrow3, hgr3, hat3⟩ := row_append und72 info24 rfl (by decide) (by decide) hG2.l.1 (From.one hh2 rfl 1 (m := 1)) rfl (fun x hx => by rw [List.mem_singleton] at hx; subst hx; rfl) (by omega) (hG2.hB 0 hG2.hB1) 72
      obtain ⟨ao3, cap3, rfl, _⟩ := own_slice hrow3
      have hm2 := hm.still b2
      obtain ⟨col4, hG4⟩ := hG.addL hlt (wN := w2) (bl_step hN.b b2) (by have := hN.hq; omega) hm2 hgr3 hrow3 (fun b hb => by
        rcases hat3 with e | e
        · exact .inl (by rw [← e]; exact hb)
        · exact .inr (by rw [e] at hb; have : w2.heap.size = b := by simpa using hb
                         omega))
      have hG3c : w3.heap[gq]? = w2.heap[gq]? := hgr3.block gq (hG2.lo gq (by rw [hG2.cg]; decide)).2 (fun e => by have := hG2.l.2 gq e.symm; rw [hG2.cg] at this; omega)
      have f3 : w3.frozen? ⟨gq, 1, none⟩ = false := by rw [frozen_block hG3c]; exact hG2.fz 1
      have e1 : w3.cell? ⟨gq, 1, none⟩ = some A.lv := by rw [cell_block hG3c]; exact hG2.c1
      have e3 : w3.cell? ⟨gq, 3, none⟩ = some A.vv := by rw [cell_block hG3c]; exact hG2.c3
      have e3' : (w3.setCell ⟨gq, 1, none⟩ (.slice ao3 (k + 1) cap3)).cell? ⟨gq, 3, none⟩ = some A.vv := by rw [set_other (by decide)]; exact e3
      have d1 : w1.cell? ⟨gq, 1, none⟩ = some A.lv := hG1.c1
      obtain ⟨w4, hw4⟩ : ∃ w4, w3.setCell ⟨gq, 1, none⟩ (.slice ao3 (k + 1) cap3) = w4 := ⟨_, rfl⟩
      rw [hw4] at hG4
      obtain ⟨w5, hw5⟩ : ∃ w5, w4.alloc (.cells #[.slice none 0 0] 71) = w5 := ⟨_, rfl⟩
      have b5 : Below w4.heap.size w4 w5 := by rw [← hw5]; exact bl1 _ _
      have hG5 := hG4.up b5
      have hh5 : w5.heap[w4.heap.size]? = some (.cells #[.slice none 0 0] 71 (0, 0)) := by rw [← hw5]; exact heap_alloc_new _ _
      obtain ⟨v6, w6, hrun6, hrow6, hgr6, hat6⟩ := row_append und73 info71 rfl (by decide) (by decide) hG5.vs.1 (From.one hh5 rfl 1 (m := 1)) rfl (fun x hx => by rw [List.mem_singleton] at hx; subst hx; rfl) (by omega) (hG5.hB 0 hG5.hB1) 73
      obtain ⟨ao6, cap6, rfl, _⟩ := own_slice hrow6
      obtain ⟨col7, hG7⟩ := hG5.addV hlt rfl hgr6 hrow6 (fun b hb => by
        rcases hat6 with e | e
        · exact .inl (by rw [← e]; exact hb)
        · exact .inr (by rw [e] at hb; have : w5.heap.size = b := by simpa using hb
                         omega))
      have hG6c : w6.heap[gq]? = w5.heap[gq]? := hgr6.block gq (hG5.lo gq (by rw [hG5.cg]; decide)).2 (fun e => by have := hG5.vs.2.1 gq e.symm; rw [hG5.cg] at this; omega)
      have f6 : w6.frozen? ⟨gq, 3, none⟩ = false := by rw [frozen_block hG6c]; exact hG5.fz 3
      have e6 : w6.cell? ⟨gq, 3, none⟩ = some A.vv := by rw [cell_block hG6c]; exact hG5.c3
      have d4 : w4.cell? ⟨gq, 3, none⟩ = some A.vv := hG4.c3
      have HE : Hid (GrpAt W0 B n (k + 1) gq (w6.setCell ⟨gq, 3, none⟩ (.slice ao6 (k + 1) cap6))) := ⟨col7, _, hG7⟩
      have HW4 : Hid (w3.setCell ⟨gq, 1, none⟩ (.slice ao3 (k + 1) cap3) = w4) := hw4
      have HR3 : Hid ((Builtin.append_ #[72, 72] 72 #[A.lv, .slice (some ⟨w1.heap.size, 0, none⟩) 1 1]).run Tryd.prog (w1.alloc (.cells #[.pointer (some ⟨q, 0, none⟩)] 24)) = .ok (.slice ao3 (k + 1) cap3) w3) := by rw [hw2]; exact hrun3
      have HR6 : Hid ((Builtin.append_ #[73, 73] 73 #[A.vv, .slice (some ⟨w3.heap.size, 0, none⟩) 1 1]).run Tryd.prog ((w3.setCell ⟨gq, 1, none⟩ (.slice ao3 (k + 1) cap3)).alloc (.cells #[.slice none 0 0] 71)) = .ok (.slice ao6 (k + 1) cap6) w6) := by
        have es : w3.heap.size = w4.heap.size := by rw [← hw4, World.size_setCell]
        rw [hw4, hw5, es]; exact hrun6
      clear hrun3 hrun6 hrow3 hrow6 hgr3 hgr6 hat3 hat6 hG hG1 hG2 hG4 hG5 hG7 hG3c hG6c hm hm2 hN hw hnew hh2 hh5 b2 b5 hw2 hw4 hw5
      go_wp2_with (first | (at_builtin; refine wpList_append_run rfl _ _ 72 72 rfl A.lv (.slice (some ⟨w1.heap.size, 0, none⟩) 1 1) (.slice ao3 (k + 1) cap3) w3 rfl rfl HR3.out ?_) | (at_builtin; refine wpList_append_run rfl _ _ 73 73 rfl A.vv (.slice (some ⟨w3.heap.size, 0, none⟩) 1 1) (.slice ao6 (k + 1) cap6) w6 rfl rfl HR6.out ?_))
      go_roundw
      case rel => exact ⟨k + 1, _, _, by omega, by go_num, rfl, rfl, HE⟩
      case measure => simp [intOf]; omega
    · obtain rfl : k = n := by omega
      have hltI : ¬ ((k : Int) < (k : Int)) := by omega
      go_wp2
      go_ret
      exact ⟨gq, rfl, (fun x hx => by cases hx), hw.out⟩
end Go.Proofs.YtlonbbepoamnmaaDoor
