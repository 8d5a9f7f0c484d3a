/-
  Put, Take, Drop, Double and Same of the document's net.
-/
import Derived.Test.YtagabmhgcmnldaaMOut
import Derived.Test.YtagabmhgcmnldaaNHold2
namespace Go.Proofs.Ytagabmhgcmnldaa
open Go.RowKit
set_option linter.unusedVariables false
set_option linter.unusedSimpArgs false

section
variable {w : World} {p N : Nat} {lv bv : Value} {D : Nat → Bool} {lost : Nat} {L : List Mx} {A : List Pa}
theorem refPut_arg (h : MIs w p N lv bv D lost L A) (f t : Int) (v : Value) (hn : ¬ ((0 ≤ f ∧ f < N) ∧ (0 ≤ t ∧ t < N))) :
    Calls Try.prog 30 #[.pointer (some ⟨p, 0, none⟩), .agg #[.int .i64 f, .int .i64 t, v]] w fun e w' => e = .returned (.int .i64 1) ∧ Below w.heap.size w w' := by
  have hp := refput_arg (h.up (bl1 w (.cells #[.int .i64 f, .int .i64 t, v] 49))) f t 0 v hn
  clear h
  go_enter Try.func30, Try.ntmps30
  go_wp2_with fail
  refine hp.mono ?_
  rintro e w1 ⟨rfl, b1⟩
  have b2 := bl_step (bl1 _ _) b1
  clear b1 hp
  go_wp2
  go_ret
  exact ⟨rfl, b2⟩
theorem refPut_is (h : MIs w p N lv bv D lost L A) (f t : Nat) (hf : f < N) (ht : t < N) (ao : Option Addr) (n cap : Nat) (xs : List UInt8) (hx : Row w ao n cap xs) (hn : n ≤ 140737488351232) (hA : L.length < 80) :
    Calls Try.prog 30 #[.pointer (some ⟨p, 0, none⟩), .agg #[.int .i64 (f : Nat), .int .i64 (t : Nat), .slice ao n cap]] w fun e w' => e = .returned (.int .i64 0) ∧ ∃ lv' bv' L', MIs w' p N lv' bv' D lost L' (A ++ [⟨f, t, xs, []⟩]) ∧ Goes (Fm p lv bv L) w (Fm p lv' bv' L') w' := by
  obtain ⟨o, ho⟩ : ∃ o, o = Obj.cells #[.int .i64 (f : Nat), .int .i64 (t : Nat), .slice ao n cap] 49 := ⟨_, rfl⟩
  have hb := bl1 w o
  have hp : Calls Try.prog 51 #[.pointer (some ⟨p, 0, none⟩), .agg #[.int .i64 (f : Nat), .int .i64 (t : Nat), .slice ao n cap], .int .i64 0] (w.alloc o) _ := refput_is (h.up hb) f t hf ht ao n cap ⟨f, t, xs, []⟩ rfl rfl (hx.below hb (Nat.le_refl _)) hn (by simp) hA
  rw [ho] at hp
  clear h hx
  go_enter Try.func30, Try.ntmps30
  go_wp2_with fail
  refine hp.mono ?_
  rw [← ho]
  rintro e w1 ⟨rfl, lv', bv', L', k1, k2⟩
  have HE : Hid (∃ lv' bv' L', MIs w1 p N lv' bv' D lost L' (A ++ [⟨f, t, xs, []⟩]) ∧ Goes (Fm p lv bv L) w (Fm p lv' bv' L') w1) := ⟨lv', bv', L', k1, (goes_below (F := Fm p lv bv L) hb).trans k2⟩
  clear k1 k2 hp
  go_wp2
  go_ret
  exact ⟨rfl, HE.out⟩
theorem refDrop_none (h : MIs w p N lv bv D lost L A) (i : Int) (hi : ¬ (0 ≤ i ∧ i < A.length)) : Calls Try.prog 33 #[.pointer (some ⟨p, 0, none⟩), .int .i64 i] w fun e w' => e = .returned (.int .i64 1) ∧ w = w' := by
  obtain ⟨la, lc, rfl, h1, h2⟩ := lrow_shape h.lrow
  have c1 := h.c1
  have hm := h.most
  rw [h.len] at hi
  clear h
  generalize L.length = n at *
  by_cases h0 : i < 0
  · go_enter Try.func33, Try.ntmps33
    go_wp2
    go_ret
    exact ⟨rfl, rfl⟩
  · have h3 : (n : Int) ≤ i := by omega
    clear hi
    go_enter Try.func33, Try.ntmps33
    go_wp2
    go_ret
    exact ⟨rfl, rfl⟩
theorem refDrop_is (h : MIs w p N lv bv D lost L A) (i : Nat) (hi : i < L.length) (hl : lost < 1000000) : Calls Try.prog 33 #[.pointer (some ⟨p, 0, none⟩), .int .i64 (i : Nat)] w fun e w' => e = .returned (.int .i64 0) ∧ ∃ lv' bv' L', MIs w' p N lv' bv' D (lost + 1) L' (A.eraseIdx i) ∧ Goes (Fm p lv bv L) w (Fm p lv' bv' L') w' := by
  have hout := refout_is h i hi
  obtain ⟨la, lc, hlv, h1, h2⟩ := lrow_shape h.lrow
  have c1 := h.c1
  rw [hlv] at c1
  have hm := h.most
  have hiI : (i : Int) < (L.length : Int) := by omega
  clear h hlv
  generalize hn : L.length = n at *
  go_enter Try.func33, Try.ntmps33
  go_wp2_with fail
  refine hout.mono ?_
  rintro e w1 ⟨rfl, lv', bv', L', k1, k2, k3, k4⟩
  have cL := k1.cL
  have fr := k1.free 259
  have HE : Hid (∃ lv' bv' L', MIs (w1.setCell ⟨p, 259, none⟩ (.int .i64 ((lost + 1 : Nat) : Int))) p N lv' bv' D (lost + 1) L' (A.eraseIdx i) ∧ Goes (Fm p lv bv L) w (Fm p lv' bv' L') (w1.setCell ⟨p, 259, none⟩ (.int .i64 ((lost + 1 : Nat) : Int)))) := ⟨lv', bv', L', k1.setLost (lost + 1) (by omega), ⟨k3.turned.setCell (.inl (.inl rfl)) _, k3.foot⟩⟩
  clear k1 k2 k3 k4 hout
  go_wp2
  go_ret
  exact ⟨rfl, HE.out⟩
theorem refDouble_none (h : MIs w p N lv bv D lost L A) (i : Int) (hi : ¬ (0 ≤ i ∧ i < A.length)) : Calls Try.prog 34 #[.pointer (some ⟨p, 0, none⟩), .int .i64 i] w fun e w' => e = .returned (.int .i64 1) ∧ w = w' := by
  obtain ⟨la, lc, rfl, h1, h2⟩ := lrow_shape h.lrow
  have c1 := h.c1
  have hm := h.most
  rw [h.len] at hi
  clear h
  generalize L.length = n at *
  by_cases h0 : i < 0
  · go_enter Try.func34, Try.ntmps34
    go_wp2
    go_ret
    exact ⟨rfl, rfl⟩
  · have h3 : (n : Int) ≤ i := by omega
    clear hi
    go_enter Try.func34, Try.ntmps34
    go_wp2
    go_ret
    exact ⟨rfl, rfl⟩
theorem lrow_at {g c : Nat} (h : w.ownsRow 0 49 3 (.slice (some ⟨g, 0, none⟩) L.length c) L.length (flatM L)) {j : Nat} {x : Mx} (hj : L[j]? = some x) : w.cell? ⟨g, j * 3, none⟩ = some (.int .i64 x.f) ∧ w.cell? ⟨g, j * 3 + 1, none⟩ = some (.int .i64 x.t) ∧ w.cell? ⟨g, j * 3 + 2, none⟩ = some (.slice x.ao x.n x.cap) := by
  have hjl := (List.getElem?_eq_some_iff.1 hj).1
  have key : ∀ i, i < 3 → w.cell? ⟨g, j * 3 + i, none⟩ = (cellsM x)[i]? := fun i hi => by
    rw [h.cellAt _ (by omega), show j * 3 + i = 3 * j + i by omega]
    exact flatM_get L j x i hj hi
  exact ⟨key 0 (by omega), key 1 (by omega), key 2 (by omega)⟩
theorem lrow_some (h : w.ownsRow 0 49 3 lv L.length (flatM L)) (h0 : 0 < L.length) : ∃ g c, lv = .slice (some ⟨g, 0, none⟩) L.length c ∧ L.length ≤ c ∧ c ≤ 9223372036854775807 := by
  rcases h.2 with ⟨_, h1⟩ | ⟨g, cap, cur, rfl, _, _, h1, h2, _⟩
  · omega
  · exact ⟨g, cap, rfl, h1, by unfold maxLen at h2; omega⟩
theorem brow_some {bv : Value} {A : List Pa} (h : w.ownsRow 0 3 1 bv A.length (turnsOf A)) (h0 : 0 < A.length) : ∃ g c, bv = .slice (some ⟨g, 0, none⟩) A.length c ∧ A.length ≤ c ∧ c ≤ 9223372036854775807 := by
  rcases h.2 with ⟨_, h1⟩ | ⟨g, cap, cur, rfl, _, _, h1, h2, _⟩
  · omega
  · exact ⟨g, cap, rfl, h1, by unfold maxLen at h2; omega⟩
theorem brow_at {g c : Nat} {A : List Pa} (h : w.ownsRow 0 3 1 (.slice (some ⟨g, 0, none⟩) A.length c) A.length (turnsOf A)) {j : Nat} {a : Pa} (hj : A[j]? = some a) : w.cell? ⟨g, j, none⟩ = some (.int .i64 (a.ts.length : Nat)) := by
  have hjl := (List.getElem?_eq_some_iff.1 hj).1
  rw [h.cellAt _ (by omega)]
  simp [turnsOf, hj]

set_option maxRecDepth 10000 in
set_option maxHeartbeats 1000000 in
theorem refDouble_is (h : MIs w p N lv bv D lost L A) (i : Nat) (a : Pa) (hi : A[i]? = some a) (hA : L.length < 80) : Calls Try.prog 34 #[.pointer (some ⟨p, 0, none⟩), .int .i64 (i : Nat)] w fun e w' => e = .returned (.int .i64 0) ∧ ∃ lv' bv' L', MIs w' p N lv' bv' D lost L' (A ++ [a]) ∧ Goes (Fm p lv bv L) w (Fm p lv' bv' L') w' := by
  have hil := (List.getElem?_eq_some_iff.1 hi).1
  have hlen := h.len
  obtain ⟨x, hx⟩ : ∃ x, L[i]? = some x := ⟨_, List.getElem?_eq_getElem (by omega)⟩
  obtain ⟨gl, cl, rfl, hl1, hl2⟩ := lrow_some h.lrow (by omega)
  obtain ⟨gb, cb, rfl, hb1, hb2⟩ := brow_some h.brow (by omega)
  have hpi := h.pk i x a hx hi
  have hfr := h.frm a (List.mem_of_getElem? hi)
  obtain ⟨d0, d1, d2⟩ := lrow_at h.lrow hx
  have e0 := brow_at h.brow hi
  have c1 := h.c1
  have c2 := h.c2
  obtain ⟨f, hf⟩ : ∃ f : Nat, a.f = f := ⟨a.f.toNat, by omega⟩
  obtain ⟨t, ht⟩ : ∃ t : Nat, a.t = t := ⟨a.t.toNat, by omega⟩
  have hrow : Row w x.ao x.n x.cap a.told := own_rowv hpi.own
  have hput : ∀ W, Below w.heap.size w W → Calls Try.prog 51 #[.pointer (some ⟨p, 0, none⟩), .agg #[.int .i64 (f : Nat), .int .i64 (t : Nat), .slice x.ao x.n x.cap], .int .i64 (a.ts.length : Nat)] W _ := fun W u => refput_is (h.up u) f t (by omega) (by omega) x.ao x.n x.cap a hf ht (hrow.below u (Nat.le_refl _)) (by rw [hpi.n]; exact hpi.small) hpi.k2 hA
  rw [hpi.f, hf] at d0
  rw [hpi.t, ht] at d1
  have hmost := h.most
  have hiI : (i : Int) < (L.length : Int) := by omega
  have hiA : (i : Int) < (A.length : Int) := by omega
  clear h hx hi hpi hrow hfr hf ht hlen hil hA
  obtain ⟨nA, HNA⟩ : ∃ nA, Hid (A.length = nA) := ⟨_, Eq.refl _⟩
  rw [HNA.out] at hb1 c2 hiA hput ⊢
  generalize L.length = n at *
  generalize a.ts.length = ka at *
  go_enter Try.func34, Try.ntmps34
  go_wp2_with fail
  refine wp_region_noPanic ?_
  refine beginE (fun wx => wx = w.drew) 15 (by kernel_rfl) rfl (fun hHeld => ?_)
  refine takeT 0 (v := ?_) rfl (by kernel_rfl) (by kernel_rfl) (by kernel_rfl) (by kernel_rfl) (by kernel_rfl) (by kernel_rfl) (by kernel_rfl) (fun _ _ _ h => h) (Or.inl ⟨by rfl, by intro wx hSw; (try dsimp only at hSw); obtain ⟨rfl⟩ := hSw; go_simp; try with_reducible rfl⟩) (by assumption) ?_
  (try simp only [Act.put, List.setIfInBounds_toArray, List.set_cons_zero, List.set_cons_succ])
  refine takeT 1 (v := ?_) rfl (by kernel_rfl) (by kernel_rfl) (by kernel_rfl) (by kernel_rfl) (by kernel_rfl) (by kernel_rfl) (by kernel_rfl) (fun _ _ _ h => h) (Or.inl ⟨by rfl, by intro wx hSw; (try dsimp only at hSw); obtain ⟨rfl⟩ := hSw; go_simp; try with_reducible rfl⟩) (by assumption) ?_
  (try simp only [Act.put, List.setIfInBounds_toArray, List.set_cons_zero, List.set_cons_succ])
  refine takeT 2 (v := ?_) rfl (by kernel_rfl) (by kernel_rfl) (by kernel_rfl) (by kernel_rfl) (by kernel_rfl) (by kernel_rfl) (by kernel_rfl) (fun _ _ _ h => h) (Or.inl ⟨by rfl, by intro wx hSw; (try dsimp only at hSw); obtain ⟨rfl⟩ := hSw; go_simp; try with_reducible rfl⟩) (by assumption) ?_
  (try simp only [Act.put, List.setIfInBounds_toArray, List.set_cons_zero, List.set_cons_succ])
  refine takeT 3 (v := ?_) rfl (by kernel_rfl) (by kernel_rfl) (by kernel_rfl) (by kernel_rfl) (by kernel_rfl) (by kernel_rfl) (by kernel_rfl) (fun _ _ _ h => h) (Or.inl ⟨by rfl, by intro wx hSw; (try dsimp only at hSw); obtain ⟨rfl⟩ := hSw; go_simp; try with_reducible rfl⟩) (by assumption) ?_
  (try simp only [Act.put, List.setIfInBounds_toArray, List.set_cons_zero, List.set_cons_succ])
  refine takeT 4 (v := ?_) rfl (by kernel_rfl) (by kernel_rfl) (by kernel_rfl) (by kernel_rfl) (by kernel_rfl) (by kernel_rfl) (by kernel_rfl) (fun _ _ _ h => h) (Or.inl ⟨by rfl, by intro wx hSw; (try dsimp only at hSw); obtain ⟨rfl⟩ := hSw; go_simp; try with_reducible rfl⟩) (by assumption) ?_
  (try simp only [Act.put, List.setIfInBounds_toArray, List.set_cons_zero, List.set_cons_succ])
  refine takeT 5 (v := ?_) rfl (by kernel_rfl) (by kernel_rfl) (by kernel_rfl) (by kernel_rfl) (by kernel_rfl) (by kernel_rfl) (by kernel_rfl) (fun _ _ _ h => h) (Or.inl ⟨by rfl, by intro wx hSw; (try dsimp only at hSw); obtain ⟨rfl⟩ := hSw; go_simp; try with_reducible rfl⟩) (by assumption) ?_
  (try simp only [Act.put, List.setIfInBounds_toArray, List.set_cons_zero, List.set_cons_succ])
  refine takeT 6 (v := ?_) rfl (by kernel_rfl) (by kernel_rfl) (by kernel_rfl) (by kernel_rfl) (by kernel_rfl) (by kernel_rfl) (by kernel_rfl) (fun _ _ _ h => h) (Or.inl ⟨by rfl, by intro wx hSw; (try dsimp only at hSw); obtain ⟨rfl⟩ := hSw; go_simp; try with_reducible rfl⟩) (by assumption) ?_
  (try simp only [Act.put, List.setIfInBounds_toArray, List.set_cons_zero, List.set_cons_succ])
  refine takeT 7 (v := ?_) rfl (by kernel_rfl) (by kernel_rfl) (by kernel_rfl) (by kernel_rfl) (by kernel_rfl) (by kernel_rfl) (by kernel_rfl) (fun _ _ _ h => h) (Or.inl ⟨by rfl, by intro wx hSw; (try dsimp only at hSw); obtain ⟨rfl⟩ := hSw; go_simp; try with_reducible rfl⟩) (by assumption) ?_
  (try simp only [Act.put, List.setIfInBounds_toArray, List.set_cons_zero, List.set_cons_succ])
  refine takeT 8 (v := ?_) rfl (by kernel_rfl) (by kernel_rfl) (by kernel_rfl) (by kernel_rfl) (by kernel_rfl) (by kernel_rfl) (by kernel_rfl) (fun _ _ _ h => h) (Or.inl ⟨by rfl, by intro wx hSw; (try dsimp only at hSw); obtain ⟨rfl⟩ := hSw; go_simp; try with_reducible rfl⟩) (by assumption) ?_
  (try simp only [Act.put, List.setIfInBounds_toArray, List.set_cons_zero, List.set_cons_succ])
  refine takeT 9 (v := ?_) rfl (by kernel_rfl) (by kernel_rfl) (by kernel_rfl) (by kernel_rfl) (by kernel_rfl) (by kernel_rfl) (by kernel_rfl) (fun _ _ _ h => h) (Or.inl ⟨by rfl, by intro wx hSw; (try dsimp only at hSw); obtain ⟨rfl⟩ := hSw; go_simp; try with_reducible rfl⟩) (by assumption) ?_
  (try simp only [Act.put, List.setIfInBounds_toArray, List.set_cons_zero, List.set_cons_succ])
  refine takeT 10 (v := ?_) rfl (by kernel_rfl) (by kernel_rfl) (by kernel_rfl) (by kernel_rfl) (by kernel_rfl) (by kernel_rfl) (by kernel_rfl) (fun _ _ _ h => h) (Or.inl ⟨by rfl, by intro wx hSw; (try dsimp only at hSw); obtain ⟨rfl⟩ := hSw; go_simp; try with_reducible rfl⟩) (by assumption) ?_
  (try simp only [Act.put, List.setIfInBounds_toArray, List.set_cons_zero, List.set_cons_succ])
  refine takeT 11 (v := ?_) rfl (by kernel_rfl) (by kernel_rfl) (by kernel_rfl) (by kernel_rfl) (by kernel_rfl) (by kernel_rfl) (by kernel_rfl) (fun _ _ _ h => h) (Or.inl ⟨by rfl, by intro wx hSw; (try dsimp only at hSw); obtain ⟨rfl⟩ := hSw; go_simp; try with_reducible rfl⟩) (by assumption) ?_
  (try simp only [Act.put, List.setIfInBounds_toArray, List.set_cons_zero, List.set_cons_succ])
  refine takeT 12 (v := ?_) rfl (by kernel_rfl) (by kernel_rfl) (by kernel_rfl) (by kernel_rfl) (by kernel_rfl) (by kernel_rfl) (by kernel_rfl) (fun _ _ _ h => h) (Or.inl ⟨by rfl, by intro wx hSw; (try dsimp only at hSw); obtain ⟨rfl⟩ := hSw; go_simp; try with_reducible rfl⟩) (by assumption) ?_
  (try simp only [Act.put, List.setIfInBounds_toArray, List.set_cons_zero, List.set_cons_succ])
  refine takeT 13 (v := ?_) rfl (by kernel_rfl) (by kernel_rfl) (by kernel_rfl) (by kernel_rfl) (by kernel_rfl) (by kernel_rfl) (by kernel_rfl) (fun _ _ _ h => h) (Or.inl ⟨by rfl, by intro wx hSw; (try dsimp only at hSw); obtain ⟨rfl⟩ := hSw; go_simp; try with_reducible rfl⟩) (by assumption) ?_
  (try simp only [Act.put, List.setIfInBounds_toArray, List.set_cons_zero, List.set_cons_succ])
  refine takeT 14 (v := ?_) rfl (by kernel_rfl) (by kernel_rfl) (by kernel_rfl) (by kernel_rfl) (by kernel_rfl) (by kernel_rfl) (by kernel_rfl) (fun _ _ _ h => h) (Or.inl ⟨by rfl, by intro wx hSw; (try dsimp only at hSw); obtain ⟨rfl⟩ := hSw; go_simp; try with_reducible rfl⟩) (by assumption) ?_
  (try simp only [Act.put, List.setIfInBounds_toArray, List.set_cons_zero, List.set_cons_succ])
  refine lastE 15 rfl (by kernel_rfl) (by kernel_rfl) (fun K hK => ?_)
  go_simp
  refine (hput _ (Below.refl _ _).drew).mono ?_
  rintro e w1 ⟨rfl, lv', bv', L', k1, k2⟩
  have HE : Hid (∃ lv' bv' L', MIs w1 p N lv' bv' D lost L' (A ++ [a]) ∧ Goes (Fm p (.slice (some ⟨gl, 0, none⟩) n cl) (.slice (some ⟨gb, 0, none⟩) nA cb) L) w (Fm p lv' bv' L') w1) := ⟨lv', bv', L', k1, ⟨⟨k2.turned.os, k2.turned.tape, k2.turned.output, k2.turned.size, k2.turned.block⟩, k2.foot⟩⟩
  clear k1 k2 hput hHeld
  go_wp2_with fail
  refine hK.out _ _ ?_
  clear hK K
  (try simp only [Act.put, List.setIfInBounds_toArray, List.set_cons_zero, List.set_cons_succ])
  refine afterE 16 rfl (by kernel_rfl) (by kernel_rfl) (fun K hK => ?_)
  go_simp
  refine hK.out _ _ ?_
  clear hK K
  (try simp only [Act.put, List.setIfInBounds_toArray, List.set_cons_zero, List.set_cons_succ])
  refine doneE (by kernel_rfl) ?_ _
  refine NoPanic.normal ?_
  go_wp2
  go_ret
  exact ⟨rfl, HE.out⟩
end
end Go.Proofs.Ytagabmhgcmnldaa
