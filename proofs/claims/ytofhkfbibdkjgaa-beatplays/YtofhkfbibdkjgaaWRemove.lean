/-
  The wheel's call remove: a timer stands no more in its slot nor in the map; the last one of the slot takes its place.
-/
import Derived.Test.YtofhkfbibdkjgaaWPut
namespace Go.Proofs.Ytofhkfbibdkjgaa
open Go.RowKit
set_option linter.unusedVariables false

/-- A cell of a row is written. -/
theorem row_set {w : World} {base e g n cap : Nat} {xs : List Value} (h : w.ownsRow base e 1 (.slice (some ⟨g, 0, none⟩) n cap) n xs) {j : Nat} (u : Value) :
    (w.setCell ⟨g, j, none⟩ u).ownsRow base e 1 (.slice (some ⟨g, 0, none⟩) n cap) n (xs.set j u) := by
  obtain ⟨h1, h2⟩ := h
  refine ⟨by simpa using h1, ?_⟩
  rcases h2 with ⟨h2, _⟩ | ⟨g', cap', cur, h2, hb, hg, hn, hc, hs, ht⟩
  · cases h2
  · simp only [Value.slice.injEq, Option.some.injEq, Addr.mk.injEq] at h2
    obtain ⟨⟨rfl, _, _⟩, _, rfl⟩ := h2
    refine .inr ⟨g, cap, cur.setIfInBounds j u, rfl, hb, ?_, hn, hc, by simpa using hs, ?_⟩
    · simp [World.setCell, Array.getElem?_modify, hg]
    · simp [← ht, List.take_set]
theorem row_cut {w : World} {base e g n cap : Nat} {xs : List Value} (h : w.ownsRow base e 1 (.slice (some ⟨g, 0, none⟩) n cap) n xs) {k : Nat} (hk : k ≤ n) :
    w.ownsRow base e 1 (.slice (some ⟨g, 0, none⟩) k cap) k (xs.take k) := by
  obtain ⟨h1, h2⟩ := h
  refine ⟨by simp; omega, ?_⟩
  rcases h2 with ⟨h2, _⟩ | ⟨g', cap', cur, h2, hb, hg, hn, hc, hs, ht⟩
  · cases h2
  · simp only [Value.slice.injEq, Option.some.injEq, Addr.mk.injEq] at h2
    obtain ⟨⟨rfl, _, _⟩, _, rfl⟩ := h2
    refine .inr ⟨g, cap, cur, rfl, hb, hg, by omega, hc, hs, ?_⟩
    rw [← ht, List.take_take]
    congr 1
    omega
theorem frozen_row {w : World} {g : Nat} {cur : Array Value} {e : TypeId} (h : w.heap[g]? = some (.cells cur e (0, 0))) (j : Nat) : w.frozen? ⟨g, j, none⟩ = false := by
  simp [World.frozen?, h]

theorem box33 (w : World) (a b c a' b' c' : Value) (t : TypeId) (q : Nat) :
    let W := ((w.alloc (.cells #[a, b, c] t)).drewN q).alloc (.cells #[a', b', c'] t)
    W.cell? ⟨w.heap.size, 2, none⟩ = some c ∧ W.cell? ⟨w.heap.size + 1, 0, none⟩ = some a' ∧ W.cell? ⟨w.heap.size + 1, 1, none⟩ = some b' ∧ W.cell? ⟨w.heap.size + 1, 2, none⟩ = some c' ∧ W.heap.size = w.heap.size + 2 := by
  intro W
  have hs : ((w.alloc (.cells #[a, b, c] t)).drewN q).heap.size = w.heap.size + 1 := by
    show (w.alloc (.cells #[a, b, c] t)).heap.size = _
    simp
  have e : W.cell? ⟨w.heap.size, 2, none⟩ = (w.alloc (.cells #[a, b, c] t)).cell? ⟨w.heap.size, 2, none⟩ := cell_block (Below.heap_alloc _ _ _ (by omega))
  have c1 : ∀ j, W.cell? ⟨w.heap.size + 1, j, none⟩ = #[a', b', c'][j]? := fun j => by
    have hh : W.heap[w.heap.size + 1]? = some (.cells #[a', b', c'] t (0, 0)) := by rw [← hs]; exact heap_alloc_new _ _
    exact cell_of_row _ _ _ _ t (0, 0) hh
  refine ⟨?_, ?_, ?_, ?_, ?_⟩
  · rw [e, cell_of_row _ _ _ _ t (0, 0) (heap_alloc_new w _)]; rfl
  · rw [c1]; rfl
  · rw [c1]; rfl
  · rw [c1]; rfl
  · show (World.alloc _ _).heap.size = _
    rw [World.size_alloc, hs]

/-- A slot without the one at a place: the last one stands there. -/
def lose (xs : List Int) (j : Nat) : List Int := (xs.set j (xs.getD (xs.length - 1) 0)).take (xs.length - 1)

set_option maxRecDepth 100000 in
set_option maxHeartbeats 1000000 in
theorem remove_any (w : World) (p m : Nat) (V : Nat → Value) (now arms n : Nat) (T : Int → Option Tm) (S : Nat → List Int) (h : Rep w p m V now arms n T S) (hnow : now < 18446744073709551616)
    (i : Int) (hi : In i) (t : Tm) (hd : t.due < 18446744073709551616) (hpl : t.place < (S (slotOf now t.due)).length) (hn : n < 1099511627776) (hl : ∀ k, k < 256 → (S k).length < 1099511627776)
    (last : Int) (hlast : (S (slotOf now t.due)).getD ((S (slotOf now t.due)).length - 1) 0 = last) (hli : In last) (mt : Tm) (hmt : (T last).getD ⟨0, 0, 0⟩ = mt) :
    Calls Try.prog 24 #[.pointer (some ⟨p, 0, none⟩), .int .i64 i, t.val] w fun e w' => e = .returned (.tuple #[]) ∧ ∃ V', Rep w' p m V' now arms (cntDown (upd T last (some ⟨mt.due, mt.armed, t.place⟩)) i (cntUp T last n))
      (upd (upd T last (some ⟨mt.due, mt.armed, t.place⟩)) i none) (put S (slotOf now t.due) (lose (S (slotOf now t.due)) t.place)) ∧ Goes p m V w V' w' := by
  obtain ⟨td, ta, tp⟩ := t
  obtain ⟨md, ma, mp⟩ := mt
  simp only [Tm.val] at *
  have hk := slotOf_lt now td
  have hs := fun W (hc : W.cell? ⟨p, 0, none⟩ = some (.int .u64 (now : Nat))) => slot_any W p now td hc hnow hd
  generalize slotOf now td = k at *
  have hrow := h.rows k hk
  obtain ⟨L, HLn⟩ : ∃ L, Hid ((S k).length = L + 1) := ⟨(S k).length - 1, by unfold Hid; omega⟩
  have HLn' := HLn.out
  rw [HLn'] at hrow hpl hlast
  have hlk := hl k hk
  rw [HLn'] at hlk
  have hck := h.cs k hk
  obtain ⟨g, cap, cur, hv, hbg, hg, hcap, hmax, hcs, htk⟩ : ∃ g cap cur, V k = .slice (some ⟨g, 0, none⟩) (L + 1) cap ∧ 0 ≤ g ∧ w.heap[g]? = some (.cells cur 3 (0, 0)) ∧ (L + 1) ≤ cap ∧ cap ≤ maxLen ∧ cur.size = cap * 1 ∧ cur.toList.take ((L + 1) * 1) = (S k).map (Value.int .i64) := by
    rcases hrow.2 with ⟨_, h0⟩ | h0
    · omega
    · exact h0
  rw [hv] at hck
  have HV : Hid (V k = .slice (some ⟨g, 0, none⟩) (L + 1) cap) := hv
  have hgc : ∀ j, j < L + 1 → w.cell? ⟨g, j, none⟩ = some (.int .i64 ((S k).getD j 0)) := by
    intro j hj
    have := (h.rows k hk).cells (g := g) (by rw [hv]; rfl) j (.int .i64 ((S k).getD j 0)) (by simp [List.getElem?_eq_getElem (show j < (S k).length by omega)])
    rwa [Addr.add_lit, Nat.zero_add] at this
  have hgL := hgc L (by omega)
  rw [show L + 1 - 1 = L by omega] at hlast
  rw [hlast] at hgL
  have hgp := h.apart k hk g (by rw [hv]; rfl)
  have hc0 := h.c0
  have hc2 := h.c2
  have hplt := h.plt
  have hmlt := h.map.lt
  have hglt : g < w.heap.size := (Array.getElem?_eq_some_iff.1 hg).1
  have hlt := h.foot_lt
  have HGC : Hid (∀ j, j < L + 1 → w.cell? ⟨g, j, none⟩ = some (.int .i64 ((S k).getD j 0))) := hgc
  have hgt := hgc tp hpl
  obtain ⟨old, hold⟩ : ∃ old, (S k).getD tp 0 = old := ⟨_, rfl⟩
  rw [hold] at hgt
  have HLS : Hid ((S k).getD L 0 = last) := hlast
  clear hgc hold hlast
  have hlook : ∀ W, W.heap[m]? = w.heap[m]? → (Instr.lookup 56 (.map (some m)) (.int .i64 last) false).run Try.prog W = .ok (.agg #[.int .u64 (md : Nat), .int .u64 (ma : Nat), .int .i64 (mp : Nat)]) W := by
    intro W hW
    have := (h.map.of_block hW).look hli
    rw [hmt] at this
    exact this
  have hlook1 : ∀ (o : Obj) (q : Nat), (Instr.lookup 56 (.map (some m)) (.int .i64 last) false).run Try.prog ((w.alloc o).drewN q) = .ok (.agg #[.int .u64 (md : Nat), .int .u64 (ma : Nat), .int .i64 (mp : Nat)]) ((w.alloc o).drewN q) := fun o q => hlook _ (Below.heap_alloc w o m hmlt)
  clear HLn' hl hv
  unfold maxLen at hmax
  have hcapl : (L : Int) + 1 ≤ 9223372036854775807 := by omega
  go_enter Try.func24, Try.ntmps24
  go_wp2_with (first | (go_at_call 31; refine (hs _ ?c).mono ?_; rotate_left; rintro e w' ⟨rfl, q, rfl⟩))
  case c => exact (h.alloc _).c0
  have hrepW : Rep (((w.alloc (Obj.cells #[Value.int IntKind.u64 ↑td, Value.int IntKind.u64 ↑ta, Value.int IntKind.i64 ↑tp] 62)).drewN q).alloc (Obj.cells #[Value.int IntKind.u64 ↑md, Value.int IntKind.u64 ↑ma, Value.int IntKind.i64 ↑tp] 62)) p m V now arms n T S := ((h.alloc _).drewN q).alloc _
  have hgoW : Goes p m V w V (((w.alloc (Obj.cells #[Value.int IntKind.u64 ↑td, Value.int IntKind.u64 ↑ta, Value.int IntKind.i64 ↑tp] 62)).drewN q).alloc (Obj.cells #[Value.int IntKind.u64 ↑md, Value.int IntKind.u64 ↑ma, Value.int IntKind.i64 ↑tp] 62)) := ⟨(((Turned.refl _ w).alloc _).drewN q).alloc _, fun _ hb => .inl hb⟩
  obtain ⟨hA2, hB0, hB1, hB2, hszW⟩ := box33 w (Value.int IntKind.u64 ↑td) (Value.int IntKind.u64 ↑ta) (Value.int IntKind.i64 ↑tp) (Value.int IntKind.u64 ↑md) (Value.int IntKind.u64 ↑ma) (Value.int IntKind.i64 ↑tp) 62 q
  have hgW := hgoW.turned
  generalize ((w.alloc (Obj.cells #[Value.int IntKind.u64 ↑td, Value.int IntKind.u64 ↑ta, Value.int IntKind.i64 ↑tp] 62)).drewN q).alloc (Obj.cells #[Value.int IntKind.u64 ↑md, Value.int IntKind.u64 ↑ma, Value.int IntKind.i64 ↑tp] 62) = W at *
  obtain ⟨f, hf⟩ := hrepW.map.stores (by unfold maxLen; omega) hli ⟨md, ma, tp⟩
  have hf1 : (Instr.mapUpdate 56 (.map (some m)) (.int .i64 last) (Tm.val ⟨md, ma, tp⟩)).run Try.prog W.drew = .ok () (f 1) := (hf 1).1
  have hrep6 := (hrepW.drewN 1).setMap (hf 1).2.2 (hf 1).2.1
  have hgo6 : Goes p m V w V (f 1) := hgoW.trans (Goes.trans (w' := W.drewN 1) ⟨(Turned.refl _ _).drewN 1, fun _ hb => .inl hb⟩ (Goes.setMap (hrepW.drewN 1) (hf 1).2.2))
  have hmt6 := (hf 1).2.2
  generalize f 1 = W6 at *
  clear hf
  have hWc2 := hrepW.c2
  have hrow6 := hrep6.rows k hk
  rw [HV.out, HLn.out] at hrow6
  have h6k := hrep6.cs k hk
  rw [HV.out] at h6k
  have h6f := hrep6.fr (3 + k)
  have h6A : W6.cell? ⟨w.heap.size, 2, none⟩ = some (.int .i64 (tp : Nat)) := hmt6.grown.cell (w := W.drewN 1) hA2 (by simp; omega)
  obtain ⟨cur6, h6g⟩ : ∃ cur6, W6.heap[g]? = some (.cells cur6 3 (0, 0)) := by
    rcases hrow6.2 with ⟨h0, _⟩ | ⟨g', cap', cur', h0, _, h1, _⟩
    · cases h0
    · simp only [Value.slice.injEq, Option.some.injEq, Addr.mk.injEq] at h0
      obtain ⟨⟨rfl, _, _⟩, _, rfl⟩ := h0
      exact ⟨_, h1⟩
  have h6fr := frozen_row h6g tp
  have h6c : W6.cell? ⟨g, tp, none⟩ = some (.int .i64 old) := by
    have := hrow6.cells (g := g) rfl tp (.int .i64 old) (by
      have := HGC.out tp hpl
      rw [hgt] at this
      simp only [Option.some.injEq, Value.int.injEq, true_and] at this
      rw [List.getElem?_map, List.getElem?_eq_getElem (show tp < (S k).length by rw [HLn.out]; exact hpl)]
      simp [this, List.getElem?_eq_getElem (show tp < (S k).length by rw [HLn.out]; exact hpl)])
    rwa [Addr.add_lit, Nat.zero_add] at this
  have hgrow7 : (W6.drewN 1).grownBy ((W6.drewN 1).setCell ⟨g, tp, none⟩ (.int .i64 last)) (V k).ownBlock := by
    rw [HV.out]
    exact ⟨rfl, rfl, rfl, by simp [World.setCell], fun b hb hne => Below.heap_setCell _ _ _ _ (by intro e; exact hne (by rw [e]; rfl))⟩
  have hrow7 : ((W6.drewN 1).setCell ⟨g, tp, none⟩ (.int .i64 last)).ownsRow 0 3 1 (.slice (some ⟨g, 0, none⟩) L cap) (lose (S k) tp).length ((lose (S k) tp).map (Value.int .i64)) := by
    have h1 := row_cut (row_set (w := W6.drewN 1) (j := tp) hrow6 (.int .i64 last)) (show L ≤ L + 1 by omega)
    have e1 : (lose (S k) tp).length = L := by simp [lose, HLn.out]
    have e2 : (lose (S k) tp).map (Value.int .i64) = ((((S k).map (Value.int .i64)).set tp (.int .i64 last)).take L) := by
      unfold lose
      rw [HLn.out, show L + 1 - 1 = L by omega, HLS.out, List.map_take, List.map_set]
    rw [e1, e2]
    exact h1
  obtain ⟨hrep8, hgo8⟩ := (hrep6.drewN 1).setSlot hk hgrow7 hrow7 (by
    intro b hb
    rw [HV.out]
    exact .inl hb)
  obtain ⟨W9, hdel, hm9, ht9⟩ := hrep8.map.drop hi 0
  have hrep9 := hrep8.setMap ht9 hm9
  have hgo9 : Goes p m V w (put V k (.slice (some ⟨g, 0, none⟩) L cap)) W9 := (hgo6.trans (Goes.trans (w' := W6.drewN 1) ⟨(Turned.refl _ _).drewN 1, fun _ hb => .inl hb⟩ hgo8)).trans (Goes.setMap hrep8 ht9)
  have h8c2 := hrep8.c2
  have HE : Hid (Rep W9 p m (put V k (.slice (some ⟨g, 0, none⟩) L cap)) now arms (cntDown (upd T last (some ⟨md, ma, tp⟩)) i (cntUp T last n)) (upd (upd T last (some ⟨md, ma, tp⟩)) i none) (put S k (lose (S k) tp)) ∧ Goes p m V w (put V k (.slice (some ⟨g, 0, none⟩) L cap)) W9) := ⟨hrep9, hgo9⟩
  have h7k : (W6.setCell ⟨g, tp, none⟩ (.int .i64 last)).drew.cell? ⟨p, 3 + k, none⟩ = some (.slice (some ⟨g, 0, none⟩) (L + 1) cap) := by
    show (W6.setCell ⟨g, tp, none⟩ (.int .i64 last)).cell? _ = _
    rw [set_cell_other (by omega)]; exact h6k
  have h7f : (W6.setCell ⟨g, tp, none⟩ (.int .i64 last)).drew.frozen? ⟨p, 3 + k, none⟩ = false := by
    show (W6.setCell ⟨g, tp, none⟩ (.int .i64 last)).frozen? _ = _
    rw [frozen_block (set_block_other (by omega))]; exact h6f
  change (Builtin.delete_ #[56, 3] 0 #[.map (some m), .int .i64 i]).run Try.prog ((W6.setCell ⟨g, tp, none⟩ (.int .i64 last)).drew.setCell ⟨p, 3 + k, none⟩ (.slice (some ⟨g, 0, none⟩) L cap)) = _ at hdel
  change ((W6.setCell ⟨g, tp, none⟩ (.int .i64 last)).drew.setCell ⟨p, 3 + k, none⟩ (.slice (some ⟨g, 0, none⟩) L cap)).cell? _ = _ at h8c2
  simp only [Tm.val] at hf1
  clear hrep9 hgo9 hrep8 hgo8 hm9 ht9 hgrow7 hrow7 hrow6 hgo6 hrep6 hmt6 hrepW hgoW hgW HGC HLS hlook hlook1 hs hrow h6g hcs htk hg
  go_region
  go_wp2
  clear hf1 hWc2 hA2 hB0 hB1 hB2 hgt hgL hc0 hc2 hck
  go_region
  generalize (W6.setCell ⟨g, tp, none⟩ (.int .i64 last)).drew = W7 at *
  clear h6k h6f h6fr h6c
  go_wp2
  go_end0
  exact ⟨rfl, _, HE.out.1, HE.out.2⟩

end Go.Proofs.Ytofhkfbibdkjgaa
