/-
  One step of a script on both nets: Peek; and any step.
-/
import Derived.Test.YtagabmhgcmnldaaMDo2
namespace Go.Proofs.Ytagabmhgcmnldaa
open Go.RowKit
set_option linter.unusedVariables false
set_option linter.unusedSimpArgs false

section
variable {w w0 w2 : World} {G : Nat → Prop} {p m N lost : Nat} {A : List Pa}
theorem Bth.next (h : Bth w G p m N lost A) {w' : World} (u : Below w.heap.size w w') : Nxt w G p m N lost A w' := ⟨G, lost, A, h.up u, by omega, by omega, goes_below u⟩
set_option maxRecDepth 10000 in
theorem do_peek_none (h : Bth w G p m N lost A) (k : Nat) (hk : k < 256) (hk2 : (k : Int) % 11 = 10) (I J : Int) (hIR : I ≤ 9223372036854775807) (v : Value) (hi : ¬ (0 ≤ I ∧ I < A.length)) : Calls Try.prog 13 #[.pointer (some ⟨p, 0, none⟩), .pointer (some ⟨m, 0, none⟩), actv k I J v] w fun e w' => e = .returned (.bool true) ∧ Nxt w G p m N lost A w' := by
  have u : Below w.heap.size w (w.alloc (acto k I J v)) := bl1 w _
  have HF : Hid (∀ W, Below w.heap.size w W → Nxt w G p m N lost A W) := fun W hW => h.next hW
  obtain ⟨⟨F, H, D, lv, bv, L, ⟨⟨sv, Lp, np, hsub⟩, nlt⟩, km, r, hd, hF, hM⟩, hlt⟩ := h
  have hpk := peek_none (w := w.alloc (acto k I J v)) (np.frame (fun b hb => u.block b (nlt b (hsub b hb)))) I hi
  obtain ⟨la, lc, hlv, h1, h2⟩ := lrow_shape km.lrow
  have hlen := km.len
  have hms := km.obj.lt
  have c1 := km.c1
  rw [hlv] at c1
  have hmost := km.most
  rw [hlen] at hi
  obtain ⟨e0, e1, e2, e3⟩ := act_cells (w := w) (W := w.alloc (acto k I J v)) (k := k) (I := I) (J := J) (v := v) rfl
  have hsz : w.heap.size < (w.alloc (acto k I J v)).heap.size := by simp
  unfold noPkt at hpk
  clear np hsub nlt r hd hF hM hlt km hlv hlen
  generalize L.length = nL at *
  unfold actv
  unfold acto at *
  go_enter Try.func13, Try.ntmps13
  go_wp2_with fail
  refine hpk.mono ?_
  rintro e w1 ⟨rfl, t1⟩
  have u1 := bl1 w1 (.cells #[.int .i64 0, .int .i64 0, .slice none 0 0] 49)
  have hs1 : w.heap.size < w1.heap.size := by have := t1.size; omega
  have g1 := (u1.cell (p := ⟨w.heap.size, 1, none⟩) hs1).trans ((t1.cell (by exact hsz)).trans e1)
  have g2 := (u1.cell (p := ⟨m, 1, none⟩) (by show m < _; omega)).trans ((t1.cell (by show m < _; omega)).trans ((u.cell (p := ⟨m, 1, none⟩) hms).trans c1))
  obtain ⟨b0, b1, b2⟩ := box49 w1 (.int .i64 0) (.int .i64 0) (.slice none 0 0)
  have hU : Below w.heap.size w (w1.alloc (.cells #[.int .i64 0, .int .i64 0, .slice none 0 0] 49)).drew := ((u.trans (t1.mono (by omega))).alloc (by omega) _).drew
  have hsame := same_true (w1.alloc (.cells #[.int .i64 0, .int .i64 0, .slice none 0 0] 49)).drew 0 0 none 0 0 none 0 0 [] (rowz _) (rowz _)
  clear c1 e0 e1 e2 e3 hpk u1 t1
  by_cases h0 : I < 0
  · go_wp2_with fail
    go_region
    go_wp2_with fail
    refine hsame.mono ?_
    rintro e w3 ⟨rfl, u3⟩
    have HE := HF.out w3 (hU.trans (u3.mono (by have := hU.size; omega)))
    clear hsame u3 hU HF
    go_wp2
    go_ret
    exact ⟨rfl, HE⟩
  · obtain ⟨i, rfl⟩ : ∃ i : Nat, I = i := ⟨I.toNat, by omega⟩
    have h3 : (nL : Int) ≤ (i : Int) := by omega
    clear hi h0
    go_wp2_with fail
    refine wp_region_noPanic ?_
    refine wp_region_held_drew (S := fun wx => wx.cell? ⟨w.heap.size, 1, none⟩ = some (.int .i64 (i : Nat)) ∧ wx.cell? ⟨m, 1, none⟩ = some (.slice la nL lc)) (by kernel_rfl) ⟨g1, g2⟩ (fun hHeld => ?_)
    refine take_first 0 (v := ?_) rfl (by kernel_rfl) (by kernel_rfl) (by kernel_rfl) (fun _ _ _ h => h) (Or.inl ⟨by rfl, by intro wx hSw; (try dsimp only at hSw); obtain ⟨s1, s2⟩ := hSw; go_simp; try with_reducible rfl⟩) (by assumption) ?_
    (try simp only [Act.put, List.setIfInBounds_toArray, List.set_cons_zero, List.set_cons_succ])
    refine take_first 1 (v := ?_) rfl (by kernel_rfl) (by kernel_rfl) (by kernel_rfl) (fun _ _ _ h => h) (Or.inl ⟨by rfl, by intro wx hSw; (try dsimp only at hSw); obtain ⟨s1, s2⟩ := hSw; go_simp; try with_reducible rfl⟩) (by assumption) ?_
    (try simp only [Act.put, List.setIfInBounds_toArray, List.set_cons_zero, List.set_cons_succ])
    refine take_first 2 (v := ?_) rfl (by kernel_rfl) (by kernel_rfl) (by kernel_rfl) (fun _ _ _ h => h) (Or.inl ⟨by rfl, by intro wx hSw; (try dsimp only at hSw); obtain ⟨s1, s2⟩ := hSw; go_simp; try with_reducible rfl⟩) (by assumption) ?_
    (try simp only [Act.put, List.setIfInBounds_toArray, List.set_cons_zero, List.set_cons_succ])
    refine take_first 3 (v := ?_) rfl (by kernel_rfl) (by kernel_rfl) (by kernel_rfl) (fun _ _ _ h => h) (Or.inl ⟨by rfl, by intro wx hSw; (try dsimp only at hSw); obtain ⟨s1, s2⟩ := hSw; go_simp; try with_reducible rfl⟩) (by assumption) ?_
    (try simp only [Act.put, List.setIfInBounds_toArray, List.set_cons_zero, List.set_cons_succ])
    refine take_first 4 (v := ?_) rfl (by kernel_rfl) (by kernel_rfl) (by kernel_rfl) (fun _ _ _ h => h) (Or.inl ⟨by rfl, by intro wx hSw; (try dsimp only at hSw); obtain ⟨s1, s2⟩ := hSw; go_simp; try with_reducible rfl⟩) (by assumption) ?_
    (try simp only [Act.put, List.setIfInBounds_toArray, List.set_cons_zero, List.set_cons_succ])
    refine take_first 5 (v := ?_) rfl (by kernel_rfl) (by kernel_rfl) (by kernel_rfl) (fun _ _ _ h => h) (Or.inl ⟨by rfl, by intro wx hSw; (try dsimp only at hSw); obtain ⟨s1, s2⟩ := hSw; go_simp; try with_reducible rfl⟩) (by assumption) ?_
    (try simp only [Act.put, List.setIfInBounds_toArray, List.set_cons_zero, List.set_cons_succ])
    refine take_first 6 (v := ?_) rfl (by kernel_rfl) (by kernel_rfl) (by kernel_rfl) (fun _ _ _ h => h) (Or.inl ⟨by rfl, by intro wx hSw; (try dsimp only at hSw); obtain ⟨s1, s2⟩ := hSw; go_simp; try with_reducible rfl⟩) (by assumption) ?_
    (try simp only [Act.put, List.setIfInBounds_toArray, List.set_cons_zero, List.set_cons_succ])
    refine take_first 7 (v := ?_) rfl (by kernel_rfl) (by kernel_rfl) (by kernel_rfl) (fun _ _ _ h => h) (Or.inl ⟨by rfl, by intro wx hSw; (try dsimp only at hSw); obtain ⟨s1, s2⟩ := hSw; go_simp; try with_reducible rfl⟩) (by assumption) ?_
    (try simp only [Act.put, List.setIfInBounds_toArray, List.set_cons_zero, List.set_cons_succ])
    refine take_first 8 (v := ?_) rfl (by kernel_rfl) (by kernel_rfl) (by kernel_rfl) (fun _ _ _ h => h) (Or.inl ⟨by rfl, by intro wx hSw; (try dsimp only at hSw); obtain ⟨s1, s2⟩ := hSw; go_simp; try with_reducible rfl⟩) (by assumption) ?_
    (try simp only [Act.put, List.setIfInBounds_toArray, List.set_cons_zero, List.set_cons_succ])
    refine take_first 9 (v := ?_) rfl (by kernel_rfl) (by kernel_rfl) (by kernel_rfl) (fun _ _ _ h => h) (Or.inl ⟨by rfl, by intro wx hSw; (try dsimp only at hSw); obtain ⟨s1, s2⟩ := hSw; go_simp; try with_reducible rfl⟩) (by assumption) ?_
    (try simp only [Act.put, List.setIfInBounds_toArray, List.set_cons_zero, List.set_cons_succ])
    refine take_first 10 (v := ?_) rfl (by kernel_rfl) (by kernel_rfl) (by kernel_rfl) (fun _ _ _ h => h) (Or.inl ⟨by rfl, by intro wx hSw; (try dsimp only at hSw); obtain ⟨s1, s2⟩ := hSw; go_simp; try with_reducible rfl⟩) (by assumption) ?_
    (try simp only [Act.put, List.setIfInBounds_toArray, List.set_cons_zero, List.set_cons_succ])
    refine take_first 11 (v := ?_) rfl (by kernel_rfl) (by kernel_rfl) (by kernel_rfl) (fun _ _ _ h => h) (Or.inl ⟨by rfl, by intro wx hSw; (try dsimp only at hSw); obtain ⟨s1, s2⟩ := hSw; go_simp; try with_reducible rfl⟩) (by assumption) ?_
    (try simp only [Act.put, List.setIfInBounds_toArray, List.set_cons_zero, List.set_cons_succ])
    refine take_first 12 (v := ?_) rfl (by kernel_rfl) (by kernel_rfl) (by kernel_rfl) (fun _ _ _ h => h) (Or.inl ⟨by rfl, by intro wx hSw; (try dsimp only at hSw); obtain ⟨s1, s2⟩ := hSw; go_simp; try with_reducible rfl⟩) (by assumption) ?_
    (try simp only [Act.put, List.setIfInBounds_toArray, List.set_cons_zero, List.set_cons_succ])
    refine wpAnyH_done (by kernel_rfl) ?_ _
    refine NoPanic.normal ?_
    go_wp2_with fail
    refine hsame.mono ?_
    rintro e w3 ⟨rfl, u3⟩
    have HE := HF.out w3 (hU.trans (u3.mono (by have := hU.size; omega)))
    clear hsame u3 hU HF
    go_wp2
    go_ret
    exact ⟨rfl, HE⟩
set_option maxRecDepth 10000 in
theorem do_peek (h : Bth w G p m N lost A) (k : Nat) (hk : k < 256) (hk2 : (k : Int) % 11 = 10) (i : Nat) (J : Int) (v : Value) (a : Pa) (hi : A[i]? = some a) : Calls Try.prog 13 #[.pointer (some ⟨p, 0, none⟩), .pointer (some ⟨m, 0, none⟩), actv k (i : Nat) J v] w fun e w' => e = .returned (.bool true) ∧ Nxt w G p m N lost A w' := by
  have u : Below w.heap.size w (w.alloc (acto k (i : Nat) J v)) := bl1 w _
  have HF : Hid (∀ W, Below w.heap.size w W → Nxt w G p m N lost A W) := fun W hW => h.next hW
  obtain ⟨⟨F, H, D, lv, bv, L, nt, km, r, hd, hF, hM⟩, hlt⟩ := h
  have hil := (List.getElem?_eq_some_iff.1 hi).1
  have hlen := km.len
  have hpk := peek_any (nt.up u) i a hi
  obtain ⟨x, hx⟩ : ∃ x, L[i]? = some x := ⟨_, List.getElem?_eq_getElem (by omega)⟩
  have hpi := km.pk i x a hx hi
  obtain ⟨gl, cl, hlv, hl1, hl2⟩ := lrow_some km.lrow (by omega)
  have hlr := km.lrow
  rw [hlv] at hlr
  obtain ⟨d0, d1, d2⟩ := lrow_at hlr hx
  have hgl : gl < w.heap.size := km.lt gl (.inr (.inl (by rw [hlv]; rfl)))
  have hms := km.obj.lt
  have c1 := km.c1
  rw [hlv] at c1
  have hmost := km.most
  have hiI : (i : Int) < (L.length : Int) := by omega
  obtain ⟨e0, e1, e2, e3⟩ := act_cells (w := w) (W := w.alloc (acto k (i : Nat) J v)) (k := k) (I := (i : Nat)) (J := J) (v := v) rfl
  have hsz : w.heap.size < (w.alloc (acto k (i : Nat) J v)).heap.size := by simp
  have hrx : Row w x.ao x.n x.cap a.told := own_rowv hpi.own
  have hsm := hpi.small
  have hton := a.told_len
  rw [hpi.f] at d0
  rw [hpi.t] at d1
  unfold pkt at hpk
  clear nt r hd hF hM hlt km hlv hlen hlr hpi hx hi hil
  generalize L.length = nL at *
  obtain ⟨f, HFF⟩ : ∃ f, Hid (a.f = f) := ⟨_, Eq.refl _⟩
  obtain ⟨t, HTT⟩ : ∃ t, Hid (a.t = t) := ⟨_, Eq.refl _⟩
  rw [HFF.out] at d0 hpk
  rw [HTT.out] at d1 hpk
  generalize a.xs.length = na at *
  generalize a.told = xs at *
  unfold actv
  unfold acto at *
  go_enter Try.func13, Try.ntmps13
  go_wp2_with fail
  refine hpk.mono ?_
  rintro e w1 ⟨b, rfl, hb, hby, t1⟩
  have u1 := bl1 w1 (.cells #[.int .i64 f, .int .i64 t, .slice (some ⟨b, 0, none⟩) na na] 49)
  have hs1 : w.heap.size < w1.heap.size := by have := t1.size; omega
  have uu : Below w.heap.size w w1 := u.trans (t1.mono (by omega))
  have hU : Below w.heap.size w (w1.alloc (.cells #[.int .i64 f, .int .i64 t, .slice (some ⟨b, 0, none⟩) na na] 49)) := uu.alloc (by omega) _
  have g1 := (u1.cell (p := ⟨w.heap.size, 1, none⟩) hs1).trans ((t1.cell (by exact hsz)).trans e1)
  have g2 := (hU.cell (p := ⟨m, 1, none⟩) hms).trans c1
  have q0 := (hU.cell (p := ⟨gl, i * 3, none⟩) hgl).trans d0
  have q1 := (hU.cell (p := ⟨gl, i * 3 + 1, none⟩) hgl).trans d1
  have q2 := (hU.cell (p := ⟨gl, i * 3 + 2, none⟩) hgl).trans d2
  obtain ⟨b0, b1, b2⟩ := box49 w1 (.int .i64 f) (.int .i64 t) (.slice (some ⟨b, 0, none⟩) na na)
  have hr1 : Row w1 (some ⟨b, 0, none⟩) na na xs := by
    have := hby.row (by rw [hton]; unfold maxLen; omega)
    rwa [hton] at this
  have hsame : ∀ q, Calls Try.prog 32 _ ((w1.alloc (.cells #[.int .i64 f, .int .i64 t, .slice (some ⟨b, 0, none⟩) na na] 49)).drewN q) _ := fun q => same_true _ f t (some ⟨b, 0, none⟩) na na x.ao x.n x.cap xs (hr1.below (bl_drewN u1 q) (Nat.le_refl _)) (hrx.below (bl_drewN hU q) (Nat.le_refl _))
  have HS1 : Hid (∀ W, Below (w1.heap.size + 1) (w1.alloc (.cells #[.int .i64 f, .int .i64 t, .slice (some ⟨b, 0, none⟩) na na] 49)) W → W.cell? ⟨w1.heap.size, 0, none⟩ = some (.int .i64 f) ∧ W.cell? ⟨w1.heap.size, 1, none⟩ = some (.int .i64 t) ∧ W.cell? ⟨w1.heap.size, 2, none⟩ = some (.slice (some ⟨b, 0, none⟩) na na) ∧ W.cell? ⟨w.heap.size, 1, none⟩ = some (.int .i64 (i : Nat)) ∧ W.cell? ⟨m, 1, none⟩ = some (.slice (some ⟨gl, 0, none⟩) nL cl) ∧ W.cell? ⟨gl, i * 3, none⟩ = some (.int .i64 f) ∧ W.cell? ⟨gl, i * 3 + 1, none⟩ = some (.int .i64 t) ∧ W.cell? ⟨gl, i * 3 + 2, none⟩ = some (.slice x.ao x.n x.cap)) := fun W hW =>
    ⟨(hW.cell (Nat.lt_succ_self _)).trans b0, (hW.cell (Nat.lt_succ_self _)).trans b1, (hW.cell (Nat.lt_succ_self _)).trans b2, (hW.cell (p := ⟨w.heap.size, 1, none⟩) (by show w.heap.size < _; omega)).trans g1, (hW.cell (p := ⟨m, 1, none⟩) (by show m < _; omega)).trans g2, (hW.cell (p := ⟨gl, i * 3, none⟩) (by show gl < _; omega)).trans q0, (hW.cell (p := ⟨gl, i * 3 + 1, none⟩) (by show gl < _; omega)).trans q1, (hW.cell (p := ⟨gl, i * 3 + 2, none⟩) (by show gl < _; omega)).trans q2⟩
  have hS0 := HS1.out _ (Below.refl _ _)
  clear c1 e0 e1 e2 e3 hpk u1 t1 d0 d1 d2 hby hr1 hrx q0 q1 q2 b0 b1 b2 uu
  go_wp2_with fail
  refine wp_region_noPanic ?_
  refine wp_region_held_drew (S := fun wx => wx.cell? ⟨w.heap.size, 1, none⟩ = some (.int .i64 (i : Nat)) ∧ wx.cell? ⟨m, 1, none⟩ = some (.slice (some ⟨gl, 0, none⟩) nL cl)) (by kernel_rfl) ⟨g1, g2⟩ (fun hHeld => ?_)
  refine take_first 0 (v := ?_) rfl (by kernel_rfl) (by kernel_rfl) (by kernel_rfl) (fun _ _ _ h => h) (Or.inl ⟨by rfl, by intro wx hSw; (try dsimp only at hSw); obtain ⟨s1, s2⟩ := hSw; go_simp; try with_reducible rfl⟩) (by assumption) ?_
  (try simp only [Act.put, List.setIfInBounds_toArray, List.set_cons_zero, List.set_cons_succ])
  refine take_first 1 (v := ?_) rfl (by kernel_rfl) (by kernel_rfl) (by kernel_rfl) (fun _ _ _ h => h) (Or.inl ⟨by rfl, by intro wx hSw; (try dsimp only at hSw); obtain ⟨s1, s2⟩ := hSw; go_simp; try with_reducible rfl⟩) (by assumption) ?_
  (try simp only [Act.put, List.setIfInBounds_toArray, List.set_cons_zero, List.set_cons_succ])
  refine take_first 2 (v := ?_) rfl (by kernel_rfl) (by kernel_rfl) (by kernel_rfl) (fun _ _ _ h => h) (Or.inl ⟨by rfl, by intro wx hSw; (try dsimp only at hSw); obtain ⟨s1, s2⟩ := hSw; go_simp; try with_reducible rfl⟩) (by assumption) ?_
  (try simp only [Act.put, List.setIfInBounds_toArray, List.set_cons_zero, List.set_cons_succ])
  refine take_first 3 (v := ?_) rfl (by kernel_rfl) (by kernel_rfl) (by kernel_rfl) (fun _ _ _ h => h) (Or.inl ⟨by rfl, by intro wx hSw; (try dsimp only at hSw); obtain ⟨s1, s2⟩ := hSw; go_simp; try with_reducible rfl⟩) (by assumption) ?_
  (try simp only [Act.put, List.setIfInBounds_toArray, List.set_cons_zero, List.set_cons_succ])
  refine take_first 4 (v := ?_) rfl (by kernel_rfl) (by kernel_rfl) (by kernel_rfl) (fun _ _ _ h => h) (Or.inl ⟨by rfl, by intro wx hSw; (try dsimp only at hSw); obtain ⟨s1, s2⟩ := hSw; go_simp; try with_reducible rfl⟩) (by assumption) ?_
  (try simp only [Act.put, List.setIfInBounds_toArray, List.set_cons_zero, List.set_cons_succ])
  refine take_first 5 (v := ?_) rfl (by kernel_rfl) (by kernel_rfl) (by kernel_rfl) (fun _ _ _ h => h) (Or.inl ⟨by rfl, by intro wx hSw; (try dsimp only at hSw); obtain ⟨s1, s2⟩ := hSw; go_simp; try with_reducible rfl⟩) (by assumption) ?_
  (try simp only [Act.put, List.setIfInBounds_toArray, List.set_cons_zero, List.set_cons_succ])
  refine take_first 6 (v := ?_) rfl (by kernel_rfl) (by kernel_rfl) (by kernel_rfl) (fun _ _ _ h => h) (Or.inl ⟨by rfl, by intro wx hSw; (try dsimp only at hSw); obtain ⟨s1, s2⟩ := hSw; go_simp; try with_reducible rfl⟩) (by assumption) ?_
  (try simp only [Act.put, List.setIfInBounds_toArray, List.set_cons_zero, List.set_cons_succ])
  refine take_first 7 (v := ?_) rfl (by kernel_rfl) (by kernel_rfl) (by kernel_rfl) (fun _ _ _ h => h) (Or.inl ⟨by rfl, by intro wx hSw; (try dsimp only at hSw); obtain ⟨s1, s2⟩ := hSw; go_simp; try with_reducible rfl⟩) (by assumption) ?_
  (try simp only [Act.put, List.setIfInBounds_toArray, List.set_cons_zero, List.set_cons_succ])
  refine take_first 8 (v := ?_) rfl (by kernel_rfl) (by kernel_rfl) (by kernel_rfl) (fun _ _ _ h => h) (Or.inl ⟨by rfl, by intro wx hSw; (try dsimp only at hSw); obtain ⟨s1, s2⟩ := hSw; go_simp; try with_reducible rfl⟩) (by assumption) ?_
  (try simp only [Act.put, List.setIfInBounds_toArray, List.set_cons_zero, List.set_cons_succ])
  refine take_first 9 (v := ?_) rfl (by kernel_rfl) (by kernel_rfl) (by kernel_rfl) (fun _ _ _ h => h) (Or.inl ⟨by rfl, by intro wx hSw; (try dsimp only at hSw); obtain ⟨s1, s2⟩ := hSw; go_simp; try with_reducible rfl⟩) (by assumption) ?_
  (try simp only [Act.put, List.setIfInBounds_toArray, List.set_cons_zero, List.set_cons_succ])
  refine take_first 10 (v := ?_) rfl (by kernel_rfl) (by kernel_rfl) (by kernel_rfl) (fun _ _ _ h => h) (Or.inl ⟨by rfl, by intro wx hSw; (try dsimp only at hSw); obtain ⟨s1, s2⟩ := hSw; go_simp; try with_reducible rfl⟩) (by assumption) ?_
  (try simp only [Act.put, List.setIfInBounds_toArray, List.set_cons_zero, List.set_cons_succ])
  refine take_first 11 (v := ?_) rfl (by kernel_rfl) (by kernel_rfl) (by kernel_rfl) (fun _ _ _ h => h) (Or.inl ⟨by rfl, by intro wx hSw; (try dsimp only at hSw); obtain ⟨s1, s2⟩ := hSw; go_simp; try with_reducible rfl⟩) (by assumption) ?_
  (try simp only [Act.put, List.setIfInBounds_toArray, List.set_cons_zero, List.set_cons_succ])
  refine take_first 12 (v := ?_) rfl (by kernel_rfl) (by kernel_rfl) (by kernel_rfl) (fun _ _ _ h => h) (Or.inl ⟨by rfl, by intro wx hSw; (try dsimp only at hSw); obtain ⟨s1, s2⟩ := hSw; go_simp; try with_reducible rfl⟩) (by assumption) ?_
  (try simp only [Act.put, List.setIfInBounds_toArray, List.set_cons_zero, List.set_cons_succ])
  refine wpAnyH_done (by kernel_rfl) ?_ _
  refine NoPanic.normal ?_
  clear hHeld
  go_wp2_with fail
  refine wp_region_noPanic ?_
  refine wp_region_held_drew (S := fun W => W.cell? ⟨w1.heap.size, 0, none⟩ = some (.int .i64 f) ∧ W.cell? ⟨w1.heap.size, 1, none⟩ = some (.int .i64 t) ∧ W.cell? ⟨w1.heap.size, 2, none⟩ = some (.slice (some ⟨b, 0, none⟩) na na) ∧ W.cell? ⟨w.heap.size, 1, none⟩ = some (.int .i64 (i : Nat)) ∧ W.cell? ⟨m, 1, none⟩ = some (.slice (some ⟨gl, 0, none⟩) nL cl) ∧ W.cell? ⟨gl, i * 3, none⟩ = some (.int .i64 f) ∧ W.cell? ⟨gl, i * 3 + 1, none⟩ = some (.int .i64 t) ∧ W.cell? ⟨gl, i * 3 + 2, none⟩ = some (.slice x.ao x.n x.cap)) (by kernel_rfl) hS0 (fun hHeld => ?_)
  refine take_first 0 (v := ?_) rfl (by kernel_rfl) (by kernel_rfl) (by kernel_rfl) (fun _ _ _ h => h) (Or.inl ⟨by rfl, by intro wx hSw; (try dsimp only at hSw); obtain ⟨s1, s2, s3, s4, s5, s6, s7, s8⟩ := hSw; go_simp; try with_reducible rfl⟩) (by assumption) ?_
  (try simp only [Act.put, List.setIfInBounds_toArray, List.set_cons_zero, List.set_cons_succ])
  refine take_first 1 (v := ?_) rfl (by kernel_rfl) (by kernel_rfl) (by kernel_rfl) (fun _ _ _ h => h) (Or.inl ⟨by rfl, by intro wx hSw; (try dsimp only at hSw); obtain ⟨s1, s2, s3, s4, s5, s6, s7, s8⟩ := hSw; go_simp; try with_reducible rfl⟩) (by assumption) ?_
  (try simp only [Act.put, List.setIfInBounds_toArray, List.set_cons_zero, List.set_cons_succ])
  refine take_first 2 (v := ?_) rfl (by kernel_rfl) (by kernel_rfl) (by kernel_rfl) (fun _ _ _ h => h) (Or.inl ⟨by rfl, by intro wx hSw; (try dsimp only at hSw); obtain ⟨s1, s2, s3, s4, s5, s6, s7, s8⟩ := hSw; go_simp; try with_reducible rfl⟩) (by assumption) ?_
  (try simp only [Act.put, List.setIfInBounds_toArray, List.set_cons_zero, List.set_cons_succ])
  refine take_first 3 (v := ?_) rfl (by kernel_rfl) (by kernel_rfl) (by kernel_rfl) (fun _ _ _ h => h) (Or.inl ⟨by rfl, by intro wx hSw; (try dsimp only at hSw); obtain ⟨s1, s2, s3, s4, s5, s6, s7, s8⟩ := hSw; go_simp; try with_reducible rfl⟩) (by assumption) ?_
  (try simp only [Act.put, List.setIfInBounds_toArray, List.set_cons_zero, List.set_cons_succ])
  refine take_first 4 (v := ?_) rfl (by kernel_rfl) (by kernel_rfl) (by kernel_rfl) (fun _ _ _ h => h) (Or.inl ⟨by rfl, by intro wx hSw; (try dsimp only at hSw); obtain ⟨s1, s2, s3, s4, s5, s6, s7, s8⟩ := hSw; go_simp; try with_reducible rfl⟩) (by assumption) ?_
  (try simp only [Act.put, List.setIfInBounds_toArray, List.set_cons_zero, List.set_cons_succ])
  refine take_first 5 (v := ?_) rfl (by kernel_rfl) (by kernel_rfl) (by kernel_rfl) (fun _ _ _ h => h) (Or.inl ⟨by rfl, by intro wx hSw; (try dsimp only at hSw); obtain ⟨s1, s2, s3, s4, s5, s6, s7, s8⟩ := hSw; go_simp; try with_reducible rfl⟩) (by assumption) ?_
  (try simp only [Act.put, List.setIfInBounds_toArray, List.set_cons_zero, List.set_cons_succ])
  refine take_first 6 (v := ?_) rfl (by kernel_rfl) (by kernel_rfl) (by kernel_rfl) (fun _ _ _ h => h) (Or.inl ⟨by rfl, by intro wx hSw; (try dsimp only at hSw); obtain ⟨s1, s2, s3, s4, s5, s6, s7, s8⟩ := hSw; go_simp; try with_reducible rfl⟩) (by assumption) ?_
  (try simp only [Act.put, List.setIfInBounds_toArray, List.set_cons_zero, List.set_cons_succ])
  refine take_first 7 (v := ?_) rfl (by kernel_rfl) (by kernel_rfl) (by kernel_rfl) (fun _ _ _ h => h) (Or.inl ⟨by rfl, by intro wx hSw; (try dsimp only at hSw); obtain ⟨s1, s2, s3, s4, s5, s6, s7, s8⟩ := hSw; go_simp; try with_reducible rfl⟩) (by assumption) ?_
  (try simp only [Act.put, List.setIfInBounds_toArray, List.set_cons_zero, List.set_cons_succ])
  refine take_first 8 (v := ?_) rfl (by kernel_rfl) (by kernel_rfl) (by kernel_rfl) (fun _ _ _ h => h) (Or.inl ⟨by rfl, by intro wx hSw; (try dsimp only at hSw); obtain ⟨s1, s2, s3, s4, s5, s6, s7, s8⟩ := hSw; go_simp; try with_reducible rfl⟩) (by assumption) ?_
  (try simp only [Act.put, List.setIfInBounds_toArray, List.set_cons_zero, List.set_cons_succ])
  refine take_first 9 (v := ?_) rfl (by kernel_rfl) (by kernel_rfl) (by kernel_rfl) (fun _ _ _ h => h) (Or.inl ⟨by rfl, by intro wx hSw; (try dsimp only at hSw); obtain ⟨s1, s2, s3, s4, s5, s6, s7, s8⟩ := hSw; go_simp; try with_reducible rfl⟩) (by assumption) ?_
  (try simp only [Act.put, List.setIfInBounds_toArray, List.set_cons_zero, List.set_cons_succ])
  refine take_first 10 (v := ?_) rfl (by kernel_rfl) (by kernel_rfl) (by kernel_rfl) (fun _ _ _ h => h) (Or.inl ⟨by rfl, by intro wx hSw; (try dsimp only at hSw); obtain ⟨s1, s2, s3, s4, s5, s6, s7, s8⟩ := hSw; go_simp; try with_reducible rfl⟩) (by assumption) ?_
  (try simp only [Act.put, List.setIfInBounds_toArray, List.set_cons_zero, List.set_cons_succ])
  refine take_first 11 (v := ?_) rfl (by kernel_rfl) (by kernel_rfl) (by kernel_rfl) (fun _ _ _ h => h) (Or.inl ⟨by rfl, by intro wx hSw; (try dsimp only at hSw); obtain ⟨s1, s2, s3, s4, s5, s6, s7, s8⟩ := hSw; go_simp; try with_reducible rfl⟩) (by assumption) ?_
  (try simp only [Act.put, List.setIfInBounds_toArray, List.set_cons_zero, List.set_cons_succ])
  refine comes_up 12 rfl (by kernel_rfl) (fun K hK => ?_)
  go_simp
  refine (hsame 2).mono ?_
  rintro e w3 ⟨rfl, u3⟩
  have hS3 := HS1.out w3 ((bl_drewN (Below.refl _ _) 2).trans (u3.mono (by simp)))
  have HE := HF.out w3 ((bl_drewN hU 2).trans (u3.mono (by have := hU.size; simp at this ⊢; omega)))
  clear hsame u3 hU HF HS1 hS0
  go_wp2_with fail
  refine hK.out _ _ hS3 (fun hHeld => ?_)
  clear hK K
  (try simp only [Act.put, List.setIfInBounds_toArray, List.set_cons_zero, List.set_cons_succ])
  refine take_first 13 (v := ?_) rfl (by kernel_rfl) (by kernel_rfl) (by kernel_rfl) (fun _ _ _ h => h) (Or.inl ⟨by rfl, by intro wx hSw; (try dsimp only at hSw); go_simp; try with_reducible rfl⟩) (by assumption) ?_
  (try simp only [Act.put, List.setIfInBounds_toArray, List.set_cons_zero, List.set_cons_succ])
  refine take_first 14 (v := ?_) rfl (by kernel_rfl) (by kernel_rfl) (by kernel_rfl) (fun _ _ _ h => h) (Or.inl ⟨by rfl, by intro wx hSw; (try dsimp only at hSw); go_simp; try with_reducible rfl⟩) (by assumption) ?_
  (try simp only [Act.put, List.setIfInBounds_toArray, List.set_cons_zero, List.set_cons_succ])
  refine wpAnyH_done (by kernel_rfl) ?_ _
  refine NoPanic.normal ?_
  go_wp2
  go_ret
  exact ⟨rfl, HE⟩

/-- Any step of a script. -/
theorem do_any (h : Bth w G p m N lost A) (k : Nat) (hk : k < 256) (I J : Int) (hI : I ≤ 9223372036854775807) (hJ : J ≤ 9223372036854775807) (ao : Option Addr) (n cap : Nat) (xs : List UInt8) (hx : Row w ao n cap xs) (hn : n ≤ 140737488351232) (hG : ∀ a, ao = some a → 0 < n → ¬ G a.block) (hA : A.length < 80) (hl : lost < 1000000) : Calls Try.prog 13 #[.pointer (some ⟨p, 0, none⟩), .pointer (some ⟨m, 0, none⟩), actv k I J (.slice ao n cap)] w fun e w' => e = .returned (.bool true) ∧ Nxt w G p m N lost A w' := by
  have hc : k % 11 = 0 ∨ k % 11 = 1 ∨ k % 11 = 2 ∨ k % 11 = 3 ∨ k % 11 = 4 ∨ k % 11 = 5 ∨ k % 11 = 6 ∨ k % 11 = 7 ∨ k % 11 = 8 ∨ k % 11 = 9 ∨ k % 11 = 10 := by omega
  rcases hc with e | e | e | e | e | e | e | e | e | e | e
  · exact do_put0 h k hk (by omega) I J ao n cap xs hx hn hG hA
  · exact do_put1 h k hk (by omega) I J ao n cap xs hx hn hG hA
  · exact do_put2 h k hk (by omega) I J ao n cap xs hx hn hG hA
  · exact do_take3 h k hk (by omega) I J _ hl
  · exact do_take4 h k hk (by omega) I J _ hl
  · exact do_drop h k hk (by omega) I J _ hl
  · exact do_double h k hk (by omega) I J _ hA
  · exact do_turn h k hk (by omega) I J _ hJ
  · exact do_cut h k hk (by omega) I J _ trivial
  · exact do_join h k hk (by omega) I J _ trivial
  · by_cases hi : 0 ≤ I ∧ I < A.length
    · obtain ⟨j, rfl⟩ : ∃ j : Nat, I = j := ⟨I.toNat, by omega⟩
      exact do_peek h k hk (by omega) j J _ _ (List.getElem?_eq_getElem (show j < A.length by omega))
    · exact do_peek_none h k hk (by omega) I J hI _ hi
end
end Go.Proofs.Ytagabmhgcmnldaa
