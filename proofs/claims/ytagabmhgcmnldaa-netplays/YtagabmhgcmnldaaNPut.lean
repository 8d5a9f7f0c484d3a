/-
  Put and Double of a net.
-/
import Derived.Test.YtagabmhgcmnldaaNTurn
import Derived.Test.YtagabmhgcmnldaaNHold
namespace Go.Proofs.Ytagabmhgcmnldaa
open Go.RowKit
set_option linter.unusedVariables false
set_option linter.unusedSimpArgs false

theorem info79z : (Try.prog.info? 79).map (fun i => (i.zero, i.size, i.bytes)) = some (some (.agg #[.int .i64 0, .int .i64 0, .slice none 0 0, .int .i64 0, .int .i64 0, .int .i64 0]), 6, 64) := by kernel_rfl
theorem und63 : Try.prog.underlying 63 = some (.slice 79) := by kernel_rfl
theorem bag_append {w : World} {sv : Value} {L : List Px} (h : w.ownsRow 0 79 6 sv L.length (flat L)) (hm : L.length < 4096) (x : Px) (b : Nat) (hx : At w b 0 x) (ty : TypeId) :
    ∃ v' w', (Builtin.append_ #[63, 63] ty #[sv, .slice (some ⟨b, 0, none⟩) 1 1]).run Try.prog w = .ok v' w' ∧ w'.ownsRow 0 79 6 v' (L ++ [x]).length (flat (L ++ [x])) ∧ w.grownBy w' sv.ownBlock ∧ (v'.ownBlock = sv.ownBlock ∨ v'.ownBlock = some w.heap.size) := by
  obtain ⟨i0, hi0, hz0, hz1, hz2⟩ := info_parts info79z
  obtain ⟨v', w', h1, h2, h3, h4, h5⟩ := run_append_own_at (P := Try.prog) w 0 63 ty 79 i0 _ 6 64 und63 hi0 hz0 hz1 hz2 rfl (by omega) sv L.length (flat L) h ⟨b, 0, none⟩ 1 1 (cellsP x) (by simp [cellsP]) (fun j u hj => by rw [Addr.add_lit]; exact hx j u hj) (fun u hu => flat_one (ls := [x]) (by simpa [flat] using hu)) (by unfold maxLen; omega) (by omega) (Nat.zero_le _)
  refine ⟨v', w', h1, ?_, h3, h5⟩
  rw [flat_app, List.length_append]
  simpa [flat] using h2
theorem ncell_bag {N : Nat} {H : Nat → Nat} {sv v : Value} {lost : Nat} (j : Nat) (hj : j < 19) : (if j = 17 then v else ncell N H sv lost j) = ncell N H v lost j := by
  unfold ncell
  by_cases h0 : j = 0
  · rw [if_neg (by omega), if_pos h0, if_pos h0]
  · by_cases h1 : j < 17
    · rw [if_neg (by omega), if_neg h0, if_neg h0, if_pos h1, if_pos h1]
    · by_cases h2 : j = 17
      · rw [if_pos h2, if_neg h0, if_neg h1, if_pos h2]
      · rw [if_neg h2, if_neg h0, if_neg h0, if_neg h1, if_neg h1, if_neg h2, if_neg h2]
section
variable {w : World} {p N : Nat} {H : Nat → Nat} {sv : Value} {lost : Nat} {L : List Px} {A : List Pa}
theorem NetIs.up {w' : World} (h : NetIs w p N H sv lost L A) (u : Below w.heap.size w w') : NetIs w' p N H sv lost L A := h.frame (fun b hb => u.block b (h.lt b hb))
/-- One more packet in the bag. -/
theorem NetIs.more {w3 w4 : World} {v' : Value} {x : Px} {a : Pa} (h : NetIs w p N H sv lost L A) (hm : L.length < 4096) (u : Below w.heap.size w w3) (hg : w3.grownBy w4 sv.ownBlock) (hr : w4.ownsRow 0 79 6 v' (L ++ [x]).length (flat (L ++ [x])))
    (hvp : ∀ b, v'.ownBlock = some b → sv.ownBlock = some b ∨ w3.heap.size ≤ b) (hx : PIs w3 x a) (hxp : x.g ≠ p) (hxs : sv.ownBlock ≠ some x.g) (hxn : Ft p sv L x.g ∨ w.heap.size ≤ x.g) :
    NetIs (w4.setCell ⟨p, 17, none⟩ v') p N H v' lost (L ++ [x]) (A ++ [a]) ∧ Goes (Ft p sv L) w (Ft p v' (L ++ [x])) (w4.setCell ⟨p, 17, none⟩ v') := by
  have h3 := h.up u
  have hp3 : p < w3.heap.size := h3.obj.lt
  have hxl : x.g < w3.heap.size := hx.by'.lt
  have hold : ∀ b, b < w3.heap.size → sv.ownBlock ≠ some b → w4.heap[b]? = w3.heap[b]? := fun b hb hn => hg.block b hb (fun e => hn e.symm)
  have hbp : v'.ownBlock ≠ some p := fun e => (hvp p e).elim h.bp (fun hle => by omega)
  have hyg : ∀ y ∈ L ++ [x], y.g ≠ p ∧ sv.ownBlock ≠ some y.g ∧ y.g < w3.heap.size := fun y hy => by
    rcases List.mem_append.1 hy with hy | hy
    · obtain ⟨d, _, hd⟩ := h3.get hy
      exact ⟨(h.xp y hy).1, (h.xp y hy).2, hd.by'.lt⟩
    · rw [List.mem_singleton.1 hy]; exact ⟨hxp, hxs, hxl⟩
  have hblk : ∀ y ∈ L ++ [x], (w4.setCell ⟨p, 17, none⟩ v').heap[y.g]? = w3.heap[y.g]? := fun y hy => (set_block_other (hyg y hy).1).trans (hold _ (hyg y hy).2.2 (hyg y hy).2.1)
  constructor
  · refine { h with
      obj := ((h3.obj.of_block (hold p hp3 h.bp)).set 17 v').congr (fun i hi => ncell_bag i hi)
      bag := row_block hr (fun b hb => set_block_other (fun e => hbp (by rw [hb, e])))
      len := by rw [List.length_append, List.length_append, h.len]; rfl
      pk := ?_
      bp := hbp
      xp := ?_
      most := by rw [List.length_append, List.length_singleton]; omega }
    · intro j y d hy hd
      by_cases hj : j < L.length
      · have hy' : L[j]? = some y := by rwa [List.getElem?_append_left hj] at hy
        rw [List.getElem?_append_left (by rw [h.len]; exact hj)] at hd
        exact (h3.pk j y d hy' hd).of (hblk y (List.mem_of_getElem? hy))
      · have hjl : j < (L ++ [x]).length := (List.getElem?_eq_some_iff.1 hy).1
        rw [List.length_append, List.length_singleton] at hjl
        obtain rfl : j = L.length := by omega
        have hm := List.mem_of_getElem? hy
        rw [List.getElem?_append_right (Nat.le_refl _)] at hy
        rw [List.getElem?_append_right (by rw [h.len]; exact Nat.le_refl _), h.len] at hd
        simp at hy hd
        subst hy hd
        exact hx.of (hblk _ hm)
    · intro y hy
      refine ⟨(hyg y hy).1, fun e => ?_⟩
      rcases hvp _ e with h1 | h1
      · exact (hyg y hy).2.1 h1
      · have := (hyg y hy).2.2; omega
  · have hF : ∀ k, sv.ownBlock = some k → Ft p sv L k := fun k hk => .inr (.inl hk)
    constructor
    · exact ((tu_below u _).trans (tu_grown hg hF) (fun i hi => .inl hi)).setCell (.inl (.inl rfl)) v'
    · have hsz := u.size
      rintro b (rfl | hb | ⟨y, hy, rfl⟩)
      · exact .inl (.inl rfl)
      · exact (hvp b hb).elim (fun h1 => .inl (.inr (.inl h1))) (fun h1 => .inr (by omega))
      · rcases List.mem_append.1 hy with hy | hy
        · exact .inl (.inr (.inr ⟨y, hy, rfl⟩))
        · rw [List.mem_singleton.1 hy]; exact hxn
end

theorem put_nil (w : World) (v : Value) : Calls Try.prog 22 #[.pointer none, .agg #[.int .i64 0, .int .i64 0, v]] w fun e w' => e = .returned (.int .i64 6) ∧ Below w.heap.size w w' := by
  go_enter Try.func22, Try.ntmps22
  go_wp2
  go_ret
  exact ⟨rfl, bl1 _ _⟩

section
variable {w : World} {p N : Nat} {H : Nat → Nat} {sv : Value} {lost : Nat} {L : List Px} {A : List Pa}
theorem put_arg (h : NetIs w p N H sv lost L A) (f t : Int) (v : Value) (hn : ¬ ((0 ≤ f ∧ f < N) ∧ (0 ≤ t ∧ t < N))) :
    Calls Try.prog 22 #[.pointer (some ⟨p, 0, none⟩), pkt f t v] w fun e w' => e = .returned (.int .i64 1) ∧ Below w.heap.size w w' := by
  unfold pkt
  have nf := node_any (h.up (bl1 w (.cells #[.int .i64 f, .int .i64 t, v] 49))) f
  have nt := node_any (h.up (bl1 w (.cells #[.int .i64 f, .int .i64 t, v] 49))) t
  clear h
  by_cases h1 : 0 ≤ f ∧ f < N
  · have e1 : isNode N f = true := by unfold isNode; simpa using h1
    have e2 : isNode N t = false := by
      have : ¬ (0 ≤ t ∧ t < (N : Int)) := fun h2 => hn ⟨h1, h2⟩
      unfold isNode; simpa using this
    rw [e1] at nf
    rw [e2] at nt
    clear e1 e2 h1 hn
    go_enter Try.func22, Try.ntmps22
    go_wp2_with fail
    refine nf.mono ?_
    rintro e w1 ⟨rfl, rfl⟩
    go_wp2_with fail
    refine nt.mono ?_
    rintro e w1 ⟨rfl, rfl⟩
    go_wp2
    go_ret
    exact ⟨rfl, bl1 _ _⟩
  · have e1 : isNode N f = false := by unfold isNode; simpa using h1
    rw [e1] at nf
    clear e1 h1 hn
    go_enter Try.func22, Try.ntmps22
    go_wp2_with fail
    refine nf.mono ?_
    rintro e w1 ⟨rfl, rfl⟩
    go_wp2
    go_ret
    exact ⟨rfl, bl1 _ _⟩
theorem put_full (h : NetIs w p N H sv lost L A) (f t : Nat) (v : Value) (hf : f < N) (ht : t < N) (hA : A.length = 4096) (hl : lost < 1000000) :
    Calls Try.prog 22 #[.pointer (some ⟨p, 0, none⟩), pkt (f : Nat) (t : Nat) v] w fun e w' => e = .returned (.int .i64 7) ∧ NetIs w' p N H sv (lost + 1) L A ∧ Turned (Ft p sv L) w w' := by
  unfold pkt
  obtain ⟨o, ho⟩ : ∃ o, o = Obj.cells #[.int .i64 (f : Nat), .int .i64 (t : Nat), v] 49 := ⟨_, rfl⟩
  have h1 := h.up (bl1 w o)
  have nf := node_any h1 (f : Int)
  have nt := node_any h1 (t : Int)
  rw [show isNode N (f : Int) = true by unfold isNode; simp; omega] at nf
  rw [show isNode N (t : Int) = true by unfold isNode; simp; omega] at nt
  have hfu := full_is h1
  rw [show decide (A.length = 4096) = true by simpa using hA] at hfu
  have cL := h1.cL
  have fr := h1.free 18
  have HE : Hid (NetIs ((w.alloc o).setCell ⟨p, 18, none⟩ (.int .i64 ((lost + 1 : Nat) : Int))) p N H sv (lost + 1) L A ∧ Turned (Ft p sv L) w ((w.alloc o).setCell ⟨p, 18, none⟩ (.int .i64 ((lost + 1 : Nat) : Int)))) :=
    ⟨h1.setLost (lost + 1) (by omega), ((Turned.refl _ w).alloc o).setCell (.inl (.inl rfl)) _⟩
  clear h h1
  subst ho
  go_enter Try.func22, Try.ntmps22
  go_wp2_with fail
  refine nf.mono ?_
  rintro e w1 ⟨rfl, rfl⟩
  go_wp2_with fail
  refine nt.mono ?_
  rintro e w1 ⟨rfl, rfl⟩
  go_wp2_with fail
  refine hfu.mono ?_
  rintro e w1 ⟨rfl, rfl⟩
  go_wp2
  go_ret
  exact ⟨rfl, HE.out⟩

set_option maxRecDepth 10000 in
set_option maxHeartbeats 2000000 in
theorem put_is (h : NetIs w p N H sv lost L A) (f t : Nat) (hf : f < N) (ht : t < N) (ao : Option Addr) (n cap : Nat) (xs : List UInt8) (hx : Row w ao n cap xs) (hn : n ≤ 140737488355328) (hA : A.length < 4096) :
    Calls Try.prog 22 #[.pointer (some ⟨p, 0, none⟩), pkt (f : Nat) (t : Nat) (.slice ao n cap)] w fun e w' => e = .returned (.int .i64 0) ∧ ∃ sv' L', NetIs w' p N H sv' lost L' (A ++ [⟨f, t, xs, []⟩]) ∧ Goes (Ft p sv L) w (Ft p sv' L') w' := by
  unfold pkt
  obtain ⟨o, ho⟩ : ∃ o, o = Obj.cells #[.int .i64 (f : Nat), .int .i64 (t : Nat), .slice ao n cap] 49 := ⟨_, rfl⟩
  have h1 := h.up (bl1 w o)
  have nf := node_any h1 (f : Int)
  have nt := node_any h1 (t : Int)
  rw [show isNode N (f : Int) = true by unfold isNode; simp; omega] at nf
  rw [show isNode N (t : Int) = true by unfold isNode; simp; omega] at nt
  have hfu := full_is h1
  rw [show decide (A.length = 4096) = false by simp; omega] at hfu
  have hk := keep_any (w.alloc o).drew (f : Int) (t : Int) ao n cap xs (hx.below ((bl1 w o).drew) (Nat.le_refl _)) hn
  unfold pkt pxv at hk
  have hLm : L.length < 4096 := by rw [← h.len]; exact hA
  have cB := h1.cB
  have hc0 : (w.alloc o).cell? ⟨w.heap.size, 0, none⟩ = some (.int .i64 (f : Nat)) := by rw [ho]; exact cell_box w _ 49 0 _ rfl
  have hc1 : (w.alloc o).cell? ⟨w.heap.size, 1, none⟩ = some (.int .i64 (t : Nat)) := by rw [ho]; exact cell_box w _ 49 1 _ rfl
  have hc2 : (w.alloc o).cell? ⟨w.heap.size, 2, none⟩ = some (.slice ao n cap) := by rw [ho]; exact cell_box w _ 49 2 _ rfl
  have hpl : p < w.heap.size := h.obj.lt
  have HN : Hid (NetIs w p N H sv lost L A) := h
  have HX : Hid (xs.length = n) := hx.1
  have hfr := h1.free 17
  clear h h1 hx
  subst ho
  go_enter Try.func22, Try.ntmps22
  go_wp2_with fail
  refine nf.mono ?_
  rintro e w1 ⟨rfl, rfl⟩
  go_wp2_with fail
  refine nt.mono ?_
  rintro e w1 ⟨rfl, rfl⟩
  go_wp2_with fail
  refine hfu.mono ?_
  rintro e w1 ⟨rfl, rfl⟩
  go_wp2_with fail
  obtain ⟨w0, hw0⟩ : ∃ w0, w0 = w.alloc (.cells #[.int .i64 (f : Nat), .int .i64 (t : Nat), .slice ao n cap] 49) := ⟨_, rfl⟩
  have hb0 : Below w.heap.size w w0 := by rw [hw0]; exact bl1 _ _
  have hs0 : w0.heap.size = w.heap.size + 1 := by rw [hw0]; simp
  rw [← hw0] at hk cB hc0 hc1 hc2 hfr ⊢
  clear hw0 nf nt hfu
  refine wp_region_noPanic ?_
  refine beginE (fun wx => wx.cell? ⟨w.heap.size, 0, none⟩ = some (.int .i64 (f : Nat)) ∧ wx.cell? ⟨w.heap.size, 1, none⟩ = some (.int .i64 (t : Nat)) ∧ wx.cell? ⟨w.heap.size, 2, none⟩ = some (.slice ao n cap) ∧ wx.cell? ⟨p, 17, none⟩ = some sv) 11 (by kernel_rfl) ⟨hc0, hc1, hc2, cB⟩ (fun hHeld => ?_)
  refine takeE 0 (v := ?_) rfl (by kernel_rfl) (by kernel_rfl) (by kernel_rfl) (by kernel_rfl) (by kernel_rfl) (fun _ _ _ h => h) (Or.inl ⟨by rfl, by intro wx hSw; (try dsimp only at hSw); obtain ⟨hSw1, hSw2, hSw3, hSw4⟩ := hSw; go_simp; try with_reducible rfl⟩) (by assumption) ?_
  (try simp only [Act.put, List.setIfInBounds_toArray, List.set_cons_zero, List.set_cons_succ])
  refine takeE 1 (v := ?_) rfl (by kernel_rfl) (by kernel_rfl) (by kernel_rfl) (by kernel_rfl) (by kernel_rfl) (fun _ _ _ h => h) (Or.inl ⟨by rfl, by intro wx hSw; (try dsimp only at hSw); obtain ⟨hSw1, hSw2, hSw3, hSw4⟩ := hSw; go_simp; try with_reducible rfl⟩) (by assumption) ?_
  (try simp only [Act.put, List.setIfInBounds_toArray, List.set_cons_zero, List.set_cons_succ])
  refine takeE 2 (v := ?_) rfl (by kernel_rfl) (by kernel_rfl) (by kernel_rfl) (by kernel_rfl) (by kernel_rfl) (fun _ _ _ h => h) (Or.inl ⟨by rfl, by intro wx hSw; (try dsimp only at hSw); obtain ⟨hSw1, hSw2, hSw3, hSw4⟩ := hSw; go_simp; try with_reducible rfl⟩) (by assumption) ?_
  (try simp only [Act.put, List.setIfInBounds_toArray, List.set_cons_zero, List.set_cons_succ])
  refine takeE 3 (v := ?_) rfl (by kernel_rfl) (by kernel_rfl) (by kernel_rfl) (by kernel_rfl) (by kernel_rfl) (fun _ _ _ h => h) (Or.inl ⟨by rfl, by intro wx hSw; (try dsimp only at hSw); obtain ⟨hSw1, hSw2, hSw3, hSw4⟩ := hSw; go_simp; try with_reducible rfl⟩) (by assumption) ?_
  (try simp only [Act.put, List.setIfInBounds_toArray, List.set_cons_zero, List.set_cons_succ])
  refine takeE 4 (v := ?_) rfl (by kernel_rfl) (by kernel_rfl) (by kernel_rfl) (by kernel_rfl) (by kernel_rfl) (fun _ _ _ h => h) (Or.inl ⟨by rfl, by intro wx hSw; (try dsimp only at hSw); obtain ⟨hSw1, hSw2, hSw3, hSw4⟩ := hSw; go_simp; try with_reducible rfl⟩) (by assumption) ?_
  (try simp only [Act.put, List.setIfInBounds_toArray, List.set_cons_zero, List.set_cons_succ])
  refine takeE 5 (v := ?_) rfl (by kernel_rfl) (by kernel_rfl) (by kernel_rfl) (by kernel_rfl) (by kernel_rfl) (fun _ _ _ h => h) (Or.inl ⟨by rfl, by intro wx hSw; (try dsimp only at hSw); obtain ⟨hSw1, hSw2, hSw3, hSw4⟩ := hSw; go_simp; try with_reducible rfl⟩) (by assumption) ?_
  (try simp only [Act.put, List.setIfInBounds_toArray, List.set_cons_zero, List.set_cons_succ])
  refine upE 6 rfl (by kernel_rfl) (fun K hK => ?_)
  go_simp
  refine hk.mono ?_
  rintro e w2 ⟨g, rfl, hg, hby, hb2⟩
  have hb2' : Below w0.heap.size w0 w2 := ⟨hb2.os, hb2.tape, hb2.output, hb2.size, hb2.block⟩
  have hg' : w.heap.size + 1 ≤ g := by
    have : w0.drew.heap.size = w0.heap.size := rfl
    omega
  obtain ⟨x, hxx⟩ : ∃ x : Px, x = ⟨f, t, g, n, 0, 0, 0⟩ := ⟨_, rfl⟩
  obtain ⟨o3, ho3⟩ : ∃ o3, o3 = Obj.cells #[.int .i64 (f : Nat), .int .i64 (t : Nat), .slice (some ⟨g, 0, none⟩) n n, .int .i64 0, .int .i64 0, .int .i64 0] 79 := ⟨_, rfl⟩
  have hbw2 : Below w.heap.size w w2 := hb0.trans (hb2'.mono (by omega))
  have hb3 : Below w.heap.size w (w2.alloc o3) := hbw2.alloc hbw2.size o3
  have hat : At (w2.alloc o3) w2.heap.size 0 x := by
    intro i v hi
    rw [ho3, Nat.zero_add]
    refine cell_box w2 _ 79 i v ?_
    rw [hxx] at hi
    simpa [cellsP] using hi
  have hgl := hby.lt
  have hpi : PIs (w2.alloc o3) x ⟨f, t, xs, []⟩ := by
    rw [hxx]
    exact { f := rfl, t := rfl, by' := hby.of (Below.heap_alloc _ _ _ hgl), n := HX.out.symm, k := rfl, k2 := by simp, t0 := fun b hb => by simp at hb, t1 := fun b hb => by simp at hb, lt := fun b hb => by simp at hb, small := by show xs.length ≤ _; rw [HX.out]; exact hn }
  obtain ⟨v', w4, hrun, hown, hgr, hato⟩ := bag_append (HN.out.up hb3).bag hLm x w2.heap.size hat 63
  have HE : Hid (∃ sv' L', NetIs (w4.setCell ⟨p, 17, none⟩ v') p N H sv' lost L' (A ++ [⟨f, t, xs, []⟩]) ∧ Goes (Ft p sv L) w (Ft p sv' L') (w4.setCell ⟨p, 17, none⟩ v')) :=
    ⟨v', L ++ [x], HN.out.more hLm hb3 hgr hown (fun b hb => hato.elim (fun e => .inl (by rw [← e]; exact hb)) (fun e => by rw [e] at hb; cases hb; exact .inr (Nat.le_refl _))) hpi (by rw [hxx]; show g ≠ p; omega) (fun e => by
      have := (HN.out.bag.lt _ e).2
      rw [hxx] at this
      have : g < w.heap.size := this
      omega) (.inr (by rw [hxx]; show _ ≤ g; omega))⟩
  have hp4 : w4.cell? ⟨p, 17, none⟩ = some sv ∧ w4.frozen? ⟨p, 17, none⟩ = false := by
    have hn := (HN.out.up hb3)
    have e : w4.heap[p]? = (w2.alloc o3).heap[p]? := hgr.block p hn.obj.lt (fun e => HN.out.bp e.symm)
    exact ⟨(cell_block e).trans hn.cB, (frozen_block e).trans (hn.free 17)⟩
  have hbox : ∀ (W : World) (u : Below w0.heap.size w0 W), W.cell? ⟨w.heap.size, 0, none⟩ = some (.int .i64 (f : Nat)) ∧ W.cell? ⟨w.heap.size, 1, none⟩ = some (.int .i64 (t : Nat)) ∧ W.cell? ⟨w.heap.size, 2, none⟩ = some (.slice ao n cap) ∧ W.cell? ⟨p, 17, none⟩ = some sv := fun W u =>
    ⟨(u.cell (show w.heap.size < _ by omega)).trans hc0, (u.cell (show w.heap.size < _ by omega)).trans hc1, (u.cell (show w.heap.size < _ by omega)).trans hc2, (u.cell (show p < _ by omega)).trans cB⟩
  have hb03 : Below w0.heap.size w0 (w2.alloc o3) := hb2'.alloc hb2'.size o3
  have hbox4 : w4.cell? ⟨w.heap.size, 0, none⟩ = some (.int .i64 (f : Nat)) ∧ w4.cell? ⟨w.heap.size, 1, none⟩ = some (.int .i64 (t : Nat)) ∧ w4.cell? ⟨w.heap.size, 2, none⟩ = some (.slice ao n cap) ∧ w4.cell? ⟨p, 17, none⟩ = some sv := by
    have e : w4.heap[w.heap.size]? = (w2.alloc o3).heap[w.heap.size]? := hgr.block _ (by have := hb03.size; omega) (fun e => by have := (HN.out.bag.lt _ e.symm).2; omega)
    obtain ⟨k1, k2, k3, k4⟩ := hbox _ hb03
    exact ⟨(cell_block e).trans k1, (cell_block e).trans k2, (cell_block e).trans k3, hp4.1⟩
  have hs2 := hb2'.size
  have hbx2 := hbox w2 hb2'
  have hbx3 := hbox (w2.alloc o3) hb03
  have HRUN : Hid ((Builtin.append_ #[63, 63] 63 #[sv, .slice (some ⟨w2.heap.size, 0, none⟩) 1 1]).run Try.prog (w2.alloc o3) = .ok v' w4) := hrun
  rw [ho3] at hbx3 HRUN
  obtain ⟨va, vc, hvv, _, _⟩ := bag_shape hown
  obtain ⟨nn, hnn⟩ : ∃ nn, (L ++ [x]).length = nn := ⟨_, rfl⟩
  rw [hnn] at hvv
  subst hvv
  clear hnn hrun hown hgr hato hpi hat hby hb2 hb2' hb3 hbw2 hbox hb03 HN hxx ho3
  go_wp2_with fail
  refine hK.out _ _ hbx2 (fun hHeld => ?_)
  clear hK K
  (try simp only [Act.put, List.setIfInBounds_toArray, List.set_cons_zero, List.set_cons_succ])
  refine upE 7 rfl (by kernel_rfl) (fun K hK => ?_)
  go_simp
  refine hK.out _ _ hbx3 (fun hHeld => ?_)
  clear hK K
  (try simp only [Act.put, List.setIfInBounds_toArray, List.set_cons_zero, List.set_cons_succ])
  refine upE 8 rfl (by kernel_rfl) (fun K hK => ?_)
  refine step_append_run rfl (.tmp 32) (.tmp 35) 63 rfl sv (.slice (some ⟨w2.heap.size, 0, none⟩) 1 1) (.slice va nn vc) w4 rfl rfl HRUN.out ?_
  refine hK.out _ _ hbox4 (fun hHeld => ?_)
  clear hK K
  (try simp only [Act.put, List.setIfInBounds_toArray, List.set_cons_zero, List.set_cons_succ])
  obtain ⟨hp5, hp6⟩ := hp4
  refine pureE 9 (v := ?_) rfl (by kernel_rfl) (by kernel_rfl) (by kernel_rfl) (by kernel_rfl) (fun _ _ _ h => h) (Or.inl ⟨by rfl, by intro wx hSw; (try dsimp only at hSw); go_simp; try with_reducible rfl⟩) (by assumption) ?_
  (try simp only [Act.put, List.setIfInBounds_toArray, List.set_cons_zero, List.set_cons_succ])
  refine pureE 10 (v := ?_) rfl (by kernel_rfl) (by kernel_rfl) (by kernel_rfl) (by kernel_rfl) (fun _ _ _ h => h) (Or.inl ⟨by rfl, by intro wx hSw; (try dsimp only at hSw); go_simp; try with_reducible rfl⟩) (by assumption) ?_
  (try simp only [Act.put, List.setIfInBounds_toArray, List.set_cons_zero, List.set_cons_succ])
  refine lastE 11 rfl (by kernel_rfl) (by kernel_rfl) (fun K hK => ?_)
  go_simp
  refine hK.out _ _ ?_
  clear hK K
  (try simp only [Act.put, List.setIfInBounds_toArray, List.set_cons_zero, List.set_cons_succ])
  refine doneE (by kernel_rfl) ?_ _
  refine NoPanic.normal ?_
  go_wp2
  go_ret
  exact ⟨rfl, HE.out⟩
end
end Go.Proofs.Ytagabmhgcmnldaa
