/-
  Take and Turn of the document's net, and Same of two packets.
-/
import Derived.Test.YtagabmhgcmnldaaMTake
namespace Go.Proofs.Ytagabmhgcmnldaa
open Go.RowKit
set_option linter.unusedVariables false
set_option linter.unusedSimpArgs false

theorem same_true (w : World) (f t : Int) (ao : Option Addr) (n cap : Nat) (bo : Option Addr) (m bc : Nat) (xs : List UInt8) (h1 : Row w ao n cap xs) (h2 : Row w bo m bc xs) :
    Calls Try.prog 32 #[.agg #[.int .i64 f, .int .i64 t, .slice ao n cap], .agg #[.int .i64 f, .int .i64 t, .slice bo m bc]] w fun e w' => e = .returned (.bool true) ∧ Below w.heap.size w w' := by
  have b := bl2 w (.cells #[.int .i64 f, .int .i64 t, .slice ao n cap] 49) (.cells #[.int .i64 f, .int .i64 t, .slice bo m bc] 49)
  have c1 := conv_row (h1.below b (Nat.le_refl _))
  have c2 := conv_row (h2.below b (Nat.le_refl _))
  have hbe : ((str xs).toList == (str xs).toList) = true := by simp
  have HT : Hid (Below w.heap.size w ((w.alloc (.cells #[.int .i64 f, .int .i64 t, .slice ao n cap] 49)).alloc (.cells #[.int .i64 f, .int .i64 t, .slice bo m bc] 49))) := b
  clear h1 h2 b
  go_enter Try.func32, Try.ntmps32
  go_wp2
  go_ret
  exact ⟨rfl, HT.out⟩

/-- What the document's Take answers. -/
def TakeR (N : Nat) (D : Nat → Bool) (a : Pa) (e : Ending) (w' : World) : Prop := if rhears N D a.f a.t then ∃ ao n cap, e = .returned (.tuple #[.agg #[.int .i64 a.f, .int .i64 a.t, .slice ao n cap], .int .i64 0]) ∧ Row w' ao n cap a.told else e = .returned (.tuple #[noPkt, .int .i64 10])
def lostR (N : Nat) (D : Nat → Bool) (a : Pa) (lost : Nat) : Nat := if rhears N D a.f a.t then lost else lost + 1
theorem TakeR.yes {N : Nat} {D : Nat → Bool} {a : Pa} {e : Ending} {w' : World} (h : rhears N D a.f a.t = true) (k : ∃ ao n cap, e = .returned (.tuple #[.agg #[.int .i64 a.f, .int .i64 a.t, .slice ao n cap], .int .i64 0]) ∧ Row w' ao n cap a.told) : TakeR N D a e w' := by
  unfold TakeR; rw [if_pos h]; exact k
theorem TakeR.no {N : Nat} {D : Nat → Bool} {a : Pa} {e : Ending} {w' : World} (h : rhears N D a.f a.t = false) (k : e = .returned (.tuple #[noPkt, .int .i64 10])) : TakeR N D a e w' := by
  unfold TakeR; rw [if_neg (by rw [h]; simp)]; exact k
section
variable {w : World} {p N : Nat} {lv bv : Value} {D : Nat → Bool} {lost : Nat} {L : List Mx} {A : List Pa}
theorem refTake_none (h : MIs w p N lv bv D lost L A) (i : Int) (hi : ¬ (0 ≤ i ∧ i < A.length)) : Calls Try.prog 31 #[.pointer (some ⟨p, 0, none⟩), .int .i64 i] w fun e w' => e = .returned (.tuple #[noPkt, .int .i64 1]) ∧ Below w.heap.size w w' := by
  unfold noPkt
  have hz := zero_block w
  obtain ⟨la, lc, hlv, h1, h2⟩ := lrow_shape h.lrow
  have c1 := (h.up (bl1 w (.cells #[.int .i64 0, .int .i64 0, .slice none 0 0] 49))).c1
  rw [hlv] at c1
  have hm := h.most
  rw [h.len] at hi
  have HE : Hid ((w.alloc (.cells #[.int .i64 0, .int .i64 0, .slice none 0 0] 49)).heap[w.heap.size]? = some (.cells #[.int .i64 0, .int .i64 0, .slice none 0 0] 49 (0, 0))) := hz
  clear h hz hlv
  generalize L.length = n at *
  by_cases h0 : i < 0
  · go_enter Try.func31, Try.ntmps31
    go_wp2
    refine bodyPost_ret (results_cell2 Try.results31 rfl rfl (load49 HE.out rfl)) rfl ?_
    exact ⟨rfl, bl1 _ _⟩
  · have h3 : (n : Int) ≤ i := by omega
    clear hi
    go_enter Try.func31, Try.ntmps31
    go_wp2
    refine bodyPost_ret (results_cell2 Try.results31 rfl rfl (load49 HE.out rfl)) rfl ?_
    exact ⟨rfl, bl1 _ _⟩

set_option maxRecDepth 10000 in
set_option maxHeartbeats 1000000 in
theorem refTake_is (h : MIs w p N lv bv D lost L A) (i : Nat) (a : Pa) (hi : A[i]? = some a) (hl : lost < 1000000) : Calls Try.prog 31 #[.pointer (some ⟨p, 0, none⟩), .int .i64 (i : Nat)] w fun e w' => TakeR N D a e w' ∧ ∃ lv' bv' L', MIs w' p N lv' bv' D (lostR N D a lost) L' (A.eraseIdx i) ∧ Goes (Fm p lv bv L) w (Fm p lv' bv' L') w' := by
  have hil := (List.getElem?_eq_some_iff.1 hi).1
  have hlen := h.len
  obtain ⟨x, hx⟩ : ∃ x, L[i]? = some x := ⟨_, List.getElem?_eq_getElem (by omega)⟩
  obtain ⟨gl, cl, hlv, hl1, hl2⟩ := lrow_some h.lrow (by omega)
  have hpi := h.pk i x a hx hi
  have hfr := h.frm a (List.mem_of_getElem? hi)
  have h16 := h.n16
  obtain ⟨f, hf⟩ : ∃ f : Nat, a.f = f := ⟨a.f.toNat, by omega⟩
  obtain ⟨t, ht⟩ : ∃ t : Nat, a.t = t := ⟨a.t.toNat, by omega⟩
  obtain ⟨o, ho⟩ : ∃ o, o = Obj.cells #[.int .i64 0, .int .i64 0, .slice none 0 0] 49 := ⟨_, rfl⟩
  obtain ⟨o2, ho2⟩ : ∃ o, o = Obj.cells #[.int .i64 (f : Nat), .int .i64 (t : Nat), .slice x.ao x.n x.cap] 49 := ⟨_, rfl⟩
  have h1 := h.up (bl1 w o)
  have h2 := h.up (bl2 w o o2)
  have hlr := h1.lrow
  rw [hlv] at hlr
  obtain ⟨d0, d1, d2⟩ := lrow_at hlr hx
  rw [hpi.f, hf] at d0
  rw [hpi.t, ht] at d1
  have c1 := h1.c1
  rw [hlv] at c1
  have hout := refout_is h2 i (by omega)
  have hrh : rhears N D a.f a.t = !D (f * 16 + t) := by
    rw [hf, ht]
    unfold rhears
    rw [show isNode N (f : Int) = true by unfold isNode; simp; omega, show isNode N (t : Int) = true by unfold isNode; simp; omega]
    simp
  have hs2 : ((w.alloc o).alloc o2).heap.size = w.heap.size + 2 := by simp
  have hpl := h.obj.lt
  have hz : ((w.alloc o).alloc o2).heap[w.heap.size]? = some (.cells #[.int .i64 0, .int .i64 0, .slice none 0 0] 49 (0, 0)) := by rw [Below.heap_alloc _ _ _ (by simp), heap_alloc_new, ho]
  have hz2 : ((w.alloc o).alloc o2).heap[w.heap.size + 1]? = some (.cells #[.int .i64 (f : Nat), .int .i64 (t : Nat), .slice x.ao x.n x.cap] 49 (0, 0)) := by
    have := heap_alloc_new (w.alloc o) o2
    rw [ho2] at this ⊢
    simpa using this
  have hrow : Row w x.ao x.n x.cap a.told := own_rowv hpi.own
  have HXB : Hid (∀ b, x.v.ownBlock = some b → b < w.heap.size ∧ b ≠ p) := fun b hb => ⟨(hpi.own.lt b hb).2, (h.xp x (List.mem_of_getElem? hx) b hb).1⟩
  have HOWN : Hid (w.ownsRow 0 5 1 x.v x.n (a.told.map by8)) := hpi.own
  have HFL : Hid (∀ b, Fm p lv bv L b → b < w.heap.size) := h.lt
  have hiI : (i : Int) < (L.length : Int) := by omega
  have hmost := h.most
  have hf16 : (f : Int) < 16 := by omega
  have ht16 : (t : Int) < 16 := by omega
  have hxv : x.v = .slice x.ao x.n x.cap := rfl
  have HRH : Hid (rhears N D a.f a.t = !D (f * 16 + t)) := hrh
  have HF : Hid (a.f = f) := hf
  have HT : Hid (a.t = t) := ht
  clear hrh hf ht
  clear h h1 h2 hlr hx hi hpi hfr hlen hil hlv hrow
  generalize L.length = n at *
  subst ho
  go_enter Try.func31, Try.ntmps31
  go_wp2_with fail
  rw [← ho2]
  clear ho2
  refine hout.mono ?_
  rintro e w3 ⟨rfl, lv', bv', L', k1, k2, k3, k4⟩
  have hz3 : w3.heap[w.heap.size]? = some (.cells #[.int .i64 0, .int .i64 0, .slice none 0 0] 49 (0, 0)) := (k4 _ (by omega) (by omega)).trans hz
  have hz4 : w3.heap[w.heap.size + 1]? = some (.cells #[.int .i64 (f : Nat), .int .i64 (t : Nat), .slice x.ao x.n x.cap] 49 (0, 0)) := (k4 _ (by omega) (by omega)).trans hz2
  have g0 : w3.cell? ⟨w.heap.size + 1, 0, none⟩ = some (.int .i64 (f : Nat)) := by rw [cell_of_row _ _ _ _ _ _ hz4]; rfl
  have g1 : w3.cell? ⟨w.heap.size + 1, 1, none⟩ = some (.int .i64 (t : Nat)) := by rw [cell_of_row _ _ _ _ _ _ hz4]; rfl
  have g2 : w3.cell? ⟨w.heap.size + 1, 2, none⟩ = some (.slice x.ao x.n x.cap) := by rw [cell_of_row _ _ _ _ _ _ hz4]; rfl
  have z0 : w3.cell? ⟨w.heap.size, 0, none⟩ = some (.int .i64 0) := by rw [cell_of_row _ _ _ _ _ _ hz3]; rfl
  have z1 : w3.cell? ⟨w.heap.size, 1, none⟩ = some (.int .i64 0) := by rw [cell_of_row _ _ _ _ _ _ hz3]; rfl
  have z2 : w3.cell? ⟨w.heap.size, 2, none⟩ = some (.slice none 0 0) := by rw [cell_of_row _ _ _ _ _ _ hz3]; rfl
  have fz : ∀ j, w3.frozen? ⟨w.heap.size, j, none⟩ = false := fun j => frozen_of_row _ _ _ _ _ hz3
  have cD := k1.cD f t (by omega) (by omega)
  have cL := k1.cL
  have fL := k1.free 259
  have hnF : ∀ b, Fm p lv' bv' L' b → b ≠ w.heap.size := fun b hb e => by
    rcases k3.foot b hb with h1 | h1
    · have := HFL.out b h1; omega
    · omega
  have hG3 : Goes (Fm p lv bv L) w (Fm p lv' bv' L') w3 := (goes_below (F := Fm p lv bv L) (bl2 w _ o2)).trans k3
  have hpne : p ≠ w.heap.size := by omega
  have hown3 : w3.ownsRow 0 5 1 x.v x.n (a.told.map by8) := row_block HOWN.out (fun b hb => (k4 b (by have := (HXB.out b hb).1; omega) (HXB.out b hb).2).trans ((bl2 w _ o2).block b (HXB.out b hb).1))
  cases hD : D (f * 16 + t) with
  | true =>
    have HRF : Hid (rhears N D a.f a.t = false) := by show _ = _; rw [HRH.out, hD]; rfl
    rw [hD] at cD
    have HE : Hid ((((((w3.setCell ⟨p, 259, none⟩ (.int .i64 ((lost + 1 : Nat) : Int))).setCell ⟨w.heap.size, 0, none⟩ (.int .i64 0)).setCell ⟨w.heap.size, 1, none⟩ (.int .i64 0)).setCell ⟨w.heap.size, 2, none⟩ (.slice none 0 0))).drew.heap[w.heap.size]? = some (.cells #[.int .i64 0, .int .i64 0, .slice none 0 0] 49 (0, 0)) ∧ ∃ lv' bv' L', MIs ((((w3.setCell ⟨p, 259, none⟩ (.int .i64 ((lost + 1 : Nat) : Int))).setCell ⟨w.heap.size, 0, none⟩ (.int .i64 0)).setCell ⟨w.heap.size, 1, none⟩ (.int .i64 0)).setCell ⟨w.heap.size, 2, none⟩ (.slice none 0 0)).drew p N lv' bv' D (lostR N D a lost) L' (A.eraseIdx i) ∧ Goes (Fm p lv bv L) w (Fm p lv' bv' L') ((((w3.setCell ⟨p, 259, none⟩ (.int .i64 ((lost + 1 : Nat) : Int))).setCell ⟨w.heap.size, 0, none⟩ (.int .i64 0)).setCell ⟨w.heap.size, 1, none⟩ (.int .i64 0)).setCell ⟨w.heap.size, 2, none⟩ (.slice none 0 0)).drew) := by
      rw [show lostR N D a lost = lost + 1 by unfold lostR; rw [HRF.out]; rfl]
      exact ⟨heap_set3 ((set_block_other (by omega)).trans hz3) _ _ _, lv', bv', L', (k1.setLost (lost + 1) (by omega)).frame (fun b hb => ((set_block_other (hnF b hb)).trans (set_block_other (hnF b hb))).trans (set_block_other (hnF b hb))), ⟨((((hG3.turned.setCell (.inl (.inl rfl)) _).setCell (.inr (Nat.le_refl _)) _).setCell (.inr (Nat.le_refl _)) _).setCell (.inr (Nat.le_refl _)) _).drew, hG3.foot⟩⟩
    clear k1 k2 k3 k4 hz hz2 hz3 hz4 hout HXB HOWN HFL hG3 hnF hown3 hD d0 d1 d2 c1
    go_wp2_with fail
    go_region
    go_wp2
    refine bodyPost_ret (results_cell2 Try.results31 rfl rfl (load49 HE.out.1 rfl)) rfl ?_
    exact ⟨TakeR.no HRF.out rfl, HE.out.2⟩
  | false =>
    have HRT : Hid (rhears N D a.f a.t = true) := by show _ = _; rw [HRH.out, hD]; rfl
    rw [hD] at cD
    have HE : Hid (((((w3.setCell ⟨w.heap.size, 0, none⟩ (.int .i64 (f : Nat))).setCell ⟨w.heap.size, 1, none⟩ (.int .i64 (t : Nat))).setCell ⟨w.heap.size, 2, none⟩ (.slice x.ao x.n x.cap))).drew.heap[w.heap.size]? = some (.cells #[.int .i64 (f : Nat), .int .i64 (t : Nat), .slice x.ao x.n x.cap] 49 (0, 0)) ∧ Row (((w3.setCell ⟨w.heap.size, 0, none⟩ (.int .i64 (f : Nat))).setCell ⟨w.heap.size, 1, none⟩ (.int .i64 (t : Nat))).setCell ⟨w.heap.size, 2, none⟩ (.slice x.ao x.n x.cap)).drew x.ao x.n x.cap a.told ∧ ∃ lv' bv' L', MIs (((w3.setCell ⟨w.heap.size, 0, none⟩ (.int .i64 (f : Nat))).setCell ⟨w.heap.size, 1, none⟩ (.int .i64 (t : Nat))).setCell ⟨w.heap.size, 2, none⟩ (.slice x.ao x.n x.cap)).drew p N lv' bv' D (lostR N D a lost) L' (A.eraseIdx i) ∧ Goes (Fm p lv bv L) w (Fm p lv' bv' L') (((w3.setCell ⟨w.heap.size, 0, none⟩ (.int .i64 (f : Nat))).setCell ⟨w.heap.size, 1, none⟩ (.int .i64 (t : Nat))).setCell ⟨w.heap.size, 2, none⟩ (.slice x.ao x.n x.cap)).drew) := by
      rw [show lostR N D a lost = lost by unfold lostR; rw [HRT.out]; rfl]
      refine ⟨heap_set3 hz3 _ _ _, own_rowv (row_block hown3 (fun b hb => ?_)), lv', bv', L', k1.frame (fun b hb => ((set_block_other (hnF b hb)).trans (set_block_other (hnF b hb))).trans (set_block_other (hnF b hb))), ⟨(((hG3.turned.setCell (.inr (Nat.le_refl _)) _).setCell (.inr (Nat.le_refl _)) _).setCell (.inr (Nat.le_refl _)) _).drew, hG3.foot⟩⟩
      have hbl := (HXB.out b hb).1
      exact ((set_block_other (by omega)).trans (set_block_other (by omega))).trans (set_block_other (by omega))
    clear k1 k2 k3 k4 hz hz2 hz3 hz4 hout HXB HOWN HFL hG3 hnF hown3 hD d0 d1 d2 c1
    go_wp2_with fail
    go_region
    go_wp2
    refine bodyPost_ret (results_cell2 Try.results31 rfl rfl (load49 HE.out.1 rfl)) rfl ?_
    exact ⟨TakeR.yes HRT.out ⟨x.ao, x.n, x.cap, by rw [HF.out, HT.out]; rfl, HE.out.2.1⟩, HE.out.2.2⟩
end
end Go.Proofs.Ytagabmhgcmnldaa
