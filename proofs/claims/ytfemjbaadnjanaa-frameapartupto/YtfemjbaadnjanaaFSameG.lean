/-
  The document's Same, of two frames that are one but for their lists.
-/
import Derived.Test.YtfemjbaadnjanaaFSameS
import Derived.Test.YtfemjbaadnjanaaFRefG0
namespace Go.Proofs.Ytfemjbaadnjanaa
open Go.RowKit
set_option linter.unusedVariables false
set_option linter.unusedSimpArgs false

/-- Two messages, and the two frames' lists. -/
def TwoN (B1 B2 : Nat) (a1 a2 : Option Addr) (n c1 c2 : Nat) (b1 o1 b2 o2 : Nat) (x y : Option Addr × Nat × Nat) (s t : ByteArray) (wx : World) : Prop :=
  (wx.cell? ⟨B1, 11, none⟩ = some (.slice a1 n c1) ∧ wx.cell? ⟨b1, o1, none⟩ = some (.slice x.1 x.2.1 x.2.2) ∧ (convert 33 9 (.slice x.1 x.2.1 x.2.2)).run Try.prog wx = .ok (.string s) wx) ∧
  (wx.cell? ⟨B2, 11, none⟩ = some (.slice a2 n c2) ∧ wx.cell? ⟨b2, o2, none⟩ = some (.slice y.1 y.2.1 y.2.2) ∧ (convert 33 9 (.slice y.1 y.2.1 y.2.2)).run Try.prog wx = .ok (.string t) wx)
/-- F with other lists. -/
def alt (F : PF) (S : List Sd) (M : List (List UInt8)) (I : List Di) : PF := { F with st := S, ms := M, it := I }

set_option maxRecDepth 20000 in
set_option maxHeartbeats 4000000 in
theorem sameF_lists (p q : Nat → Prop) (w : World) (F : PF) (S : List Sd) (M : List (List UInt8)) (I : List Di) (hM : M.length = F.ms.length) (a b : Fa) (h : FIn p w F a) (h' : FIn q w (alt F S M I) b) :
    Calls Try.prog 16 #[fval F a, fval (alt F S M I) b] w fun e w' => e = .returned (.bool (eqB F.ms M && (eqB F.st S && decide (F.it = I)))) ∧ Up w w' := by
  obtain ⟨r1, H1⟩ : ∃ r, Hid (eqB F.ms M = r) := ⟨_, rfl⟩
  obtain ⟨r2, H2⟩ : ∃ r, Hid (eqB F.st S = r) := ⟨_, rfl⟩
  obtain ⟨r3, H3⟩ : ∃ r, Hid (decide (F.it = I) = r) := ⟨_, rfl⟩
  rw [H1.out, H2.out, H3.out]
  obtain ⟨w0, hw0, hu0, hb0⟩ := boxed w F a
  obtain ⟨w1, hw1, hu1, hb1⟩ := boxed w0 (alt F S M I) b
  have hs0 : w0.heap.size = w.heap.size + 1 := by rw [← hw0]; simp
  rw [hs0] at hb1
  have HB : Hid (∀ W, Up w1 W → Bf w.heap.size F a W ∧ Bf (w.heap.size + 1) (alt F S M I) b W) := fun W u => ⟨(hb0.up hu1.bl).up u.bl, hb1.up u.bl⟩
  have hu01 := hu0.trans hu1
  have HF : Hid (∀ W, Up w1 W → FIn p W F a ∧ FIn q W (alt F S M I) b) := fun W u => ⟨h.up (hu01.trans u).bl, h'.up (hu01.trans u).bl⟩
  have q1 := fun W => vid_equal F.idN F.idP F.idN F.idP W
  have q2 := fun W => vid_equal F.curN F.curP F.curN F.curP W
  have q3 := fun W => vid_equal F.promN F.promP F.promN F.promP W
  simp only [and_self, decide_true] at q1 q2 q3
  obtain ⟨d0, d1, d2, d3, d4, d5, d6, d7, d8, d9, d10, d11, d12, d13, d14⟩ := (HB.out w1 (Up.refl _)).1
  obtain ⟨e0, e1, e2, e3, e4, e5, e6, e7, e8, e9, e10, e11, e12, e13, e14⟩ := (HB.out w1 (Up.refl _)).2
  have HLM : Hid (F.ms.length ≤ 5864062014805) := h.ms.choose_spec.1.2.1
  obtain ⟨mn, hmn⟩ : ∃ mn, F.ms.length = mn := ⟨_, rfl⟩
  obtain ⟨sn, hsn⟩ : ∃ sn, F.st.length = sn := ⟨_, rfl⟩
  obtain ⟨inn, hinn⟩ : ∃ inn, F.it.length = inn := ⟨_, rfl⟩
  obtain ⟨sm, hsm⟩ : ∃ sm, S.length = sm := ⟨_, rfl⟩
  obtain ⟨im, him⟩ : ∃ im, I.length = im := ⟨_, rfl⟩
  rw [hmn] at hM
  have HLN : Hid (F.st.length = sn ∧ F.ms.length = mn ∧ F.it.length = inn ∧ S.length = sm ∧ M.length = mn ∧ I.length = im) := ⟨hsn, hmn, hinn, hsm, hM, him⟩
  have hmmax : mn ≤ 9223372036854775807 := by have := HLM.out; omega
  have s0 : (alt F S M I).st = S := rfl
  unfold fval fcells at *
  simp only [alt] at hw1 e0 e1 e2 e3 e4 e5 e6 e7 e8 e9 e10 e11 e12 e13 e14 ⊢
  simp only [hsn, hmn, hinn, hsm, hM, him] at hw0 hw1 d9 d11 d12 e9 e11 e12 ⊢
  clear h h' hb0 hb1 hsn hmn hinn HLM hsm hM him s0
  go_enter Try.func16, Try.ntmps16
  go_wp2_with fail
  (try simp only [hw0, hw1])
  clear d0 d1 d2 d3 d4 d5 d6 d7 d8 d9 d10 d11 d12 d13 d14 e0 e1 e2 e3 e4 e5 e6 e7 e8 e9 e10 e11 e12 e13 e14 q1 q2 q3
  go_loopw [5] (fun iv wr => ∃ k : Nat, k ≤ mn ∧ iv = .int .i64 k ∧ Up w1 wr ∧ F.ms.take k = M.take k) (fun iv _ => mn - (intOf iv).toNat)
  case atStart => exact ⟨0, by omega, rfl, Up.refl _, rfl⟩
  case round =>
    obtain ⟨k, hk, rfl, hu, htk⟩ := hrel
    have HTK : Hid (F.ms.take k = M.take k) := htk
    clear htk
    have d11 : wr.cell? ⟨w.heap.size, 11, none⟩ = some (.slice a.mo mn a.mc) := by have := (HB.out wr hu).1.c11; rw [HLN.out.2.1] at this; exact this
    by_cases hlt : k < mn
    · have hltI : (k : Int) < (mn : Int) := by omega
      have two : ∃ b1 o1 b2 o2 x y d e, F.ms[k]? = some d ∧ M[k]? = some e ∧ a.mo = some ⟨b1, o1, none⟩ ∧ b.mo = some ⟨b2, o2, none⟩ ∧ TwoN w.heap.size (w.heap.size + 1) a.mo b.mo mn a.mc b.mc b1 (o1 + k) b2 (o2 + k) x y (str d) (str e) wr.drew := by
        have hud : Up w1 wr.drew := hu.drew
        obtain ⟨xs, hI, hdl, hit⟩ := (HF.out wr.drew hud).1.ms
        obtain ⟨ys, hJ, hel, hjt⟩ := (HF.out wr.drew hud).2.ms
        have hxl := hI.1
        have hyl := hJ.1
        have hml := HLN.out.2.1
        have hml2 : (alt F S M I).ms.length = mn := HLN.out.2.2.2.2.1
        have hml3 : M.length = mn := HLN.out.2.2.2.2.1
        obtain ⟨x, hx⟩ : ∃ x, xs[k]? = some x := ⟨xs[k]'(by omega), List.getElem?_eq_getElem (by omega)⟩
        obtain ⟨y, hy⟩ : ∃ y, ys[k]? = some y := ⟨ys[k]'(by omega), List.getElem?_eq_getElem (by omega)⟩
        obtain ⟨d, hdk⟩ : ∃ d, F.ms[k]? = some d := ⟨F.ms[k]'(by omega), List.getElem?_eq_getElem (by omega)⟩
        obtain ⟨e, hek⟩ : ∃ e, M[k]? = some e := ⟨M[k]'(by omega), List.getElem?_eq_getElem (by omega)⟩
        obtain ⟨b1, o1, e1, _, hc1⟩ := hI.2.2.2 (by omega)
        obtain ⟨b2, o2, e2, _, hc2⟩ := hJ.2.2.2 (by omega)
        have c1 := (HB.out wr.drew hud).1.c11
        have c2 := (HB.out wr.drew hud).2.c11
        rw [hml] at c1
        rw [hml2] at c2
        exact ⟨b1, o1, b2, o2, x, y, d, e, hdk, hek, e1, e2, ⟨c1, hc1 k x hx, conv_rw (hit k x d hx hdk).1⟩, c2, hc2 k y hy, conv_rw (hjt k y e hy hek).1⟩
      obtain ⟨b1, o1, b2, o2, x, y, d, e, hdk, hek, e1, e2, two⟩ := two
      rw [e1] at d11
      rw [e1, e2] at two
      clear e1 e2
      have hk0 : ¬ ((k : Int) < 0) := by omega
      by_cases hs : d = e
      · subst hs
        have HTN : Hid (F.ms.take (k + 1) = M.take (k + 1)) := take_eq HTK.out hdk hek
        generalize str d = s at two
        clear hdk hek HTK
        go_wp2_with fail
        refine wp_region_noPanic ?_
        refine wp_region_held_drew (S := fun wx => TwoN w.heap.size (w.heap.size + 1) (some ⟨b1, o1, none⟩) (some ⟨b2, o2, none⟩) mn a.mc b.mc b1 (o1 + k) b2 (o2 + k) x y s s wx) (by kernel_rfl) two (fun hHeld => ?_)
        refine take_first 0 (v := ?_) rfl (by kernel_rfl) (by kernel_rfl) (by kernel_rfl) (fun _ _ _ h => h) (Or.inl ⟨by rfl, by intro wx hSw; (try dsimp only at hSw); obtain ⟨⟨hSw1, hSw2, hSw3⟩, hSw4, hSw5, hSw6⟩ := hSw; go_simp; try with_reducible rfl⟩) (by assumption) ?_
        (try simp only [Act.put, List.setIfInBounds_toArray, List.set_cons_zero, List.set_cons_succ])
        refine take_first 1 (v := ?_) rfl (by kernel_rfl) (by kernel_rfl) (by kernel_rfl) (fun _ _ _ h => h) (Or.inl ⟨by rfl, by intro wx hSw; (try dsimp only at hSw); obtain ⟨⟨hSw1, hSw2, hSw3⟩, hSw4, hSw5, hSw6⟩ := hSw; go_simp; try with_reducible rfl⟩) (by assumption) ?_
        (try simp only [Act.put, List.setIfInBounds_toArray, List.set_cons_zero, List.set_cons_succ])
        refine take_first 2 (v := ?_) rfl (by kernel_rfl) (by kernel_rfl) (by kernel_rfl) (fun _ _ _ h => h) (Or.inl ⟨by rfl, by intro wx hSw; (try dsimp only at hSw); obtain ⟨⟨hSw1, hSw2, hSw3⟩, hSw4, hSw5, hSw6⟩ := hSw; go_simp; try with_reducible rfl⟩) (by assumption) ?_
        (try simp only [Act.put, List.setIfInBounds_toArray, List.set_cons_zero, List.set_cons_succ])
        refine take_first 3 (v := ?_) rfl (by kernel_rfl) (by kernel_rfl) (by kernel_rfl) (fun _ _ _ h => h) (Or.inl ⟨by rfl, by intro wx hSw; (try dsimp only at hSw); obtain ⟨⟨hSw1, hSw2, hSw3⟩, hSw4, hSw5, hSw6⟩ := hSw; go_simp; try with_reducible rfl⟩) (by assumption) ?_
        (try simp only [Act.put, List.setIfInBounds_toArray, List.set_cons_zero, List.set_cons_succ])
        refine take_first 4 (v := ?_) rfl (by kernel_rfl) (by kernel_rfl) (by kernel_rfl) (fun _ _ _ h => h) (Or.inl ⟨by rfl, by intro wx hSw; (try dsimp only at hSw); obtain ⟨⟨hSw1, hSw2, hSw3⟩, hSw4, hSw5, hSw6⟩ := hSw; go_simp; try with_reducible rfl⟩) (by assumption) ?_
        (try simp only [Act.put, List.setIfInBounds_toArray, List.set_cons_zero, List.set_cons_succ])
        refine take_first 5 (v := ?_) rfl (by kernel_rfl) (by kernel_rfl) (by kernel_rfl) (fun _ _ _ h => h) (Or.inl ⟨by rfl, by intro wx hSw; (try dsimp only at hSw); obtain ⟨⟨hSw1, hSw2, hSw3⟩, hSw4, hSw5, hSw6⟩ := hSw; go_simp; try with_reducible rfl⟩) (by assumption) ?_
        (try simp only [Act.put, List.setIfInBounds_toArray, List.set_cons_zero, List.set_cons_succ])
        refine take_first 6 (v := ?_) rfl (by kernel_rfl) (by kernel_rfl) (by kernel_rfl) (fun _ _ _ h => h) (Or.inl ⟨by rfl, by intro wx hSw; (try dsimp only at hSw); obtain ⟨⟨hSw1, hSw2, hSw3⟩, hSw4, hSw5, hSw6⟩ := hSw; go_simp; try with_reducible rfl⟩) (by assumption) ?_
        (try simp only [Act.put, List.setIfInBounds_toArray, List.set_cons_zero, List.set_cons_succ])
        refine take_first 7 (v := ?_) rfl (by kernel_rfl) (by kernel_rfl) (by kernel_rfl) (fun _ _ _ h => h) (Or.inl ⟨by rfl, by intro wx hSw; (try dsimp only at hSw); obtain ⟨⟨hSw1, hSw2, hSw3⟩, hSw4, hSw5, hSw6⟩ := hSw; go_simp; try with_reducible rfl⟩) (by assumption) ?_
        (try simp only [Act.put, List.setIfInBounds_toArray, List.set_cons_zero, List.set_cons_succ])
        refine take_first 8 (v := ?_) rfl (by kernel_rfl) (by kernel_rfl) (by kernel_rfl) (fun _ _ _ h => h) (Or.inl ⟨by rfl, by intro wx hSw; (try dsimp only at hSw); obtain ⟨⟨hSw1, hSw2, hSw3⟩, hSw4, hSw5, hSw6⟩ := hSw; go_simp; try with_reducible rfl⟩) (by assumption) ?_
        (try simp only [Act.put, List.setIfInBounds_toArray, List.set_cons_zero, List.set_cons_succ])
        refine take_first 9 (v := ?_) rfl (by kernel_rfl) (by kernel_rfl) (by kernel_rfl) (fun _ _ _ h => h) (Or.inl ⟨by rfl, by intro wx hSw; (try dsimp only at hSw); obtain ⟨⟨hSw1, hSw2, hSw3⟩, hSw4, hSw5, hSw6⟩ := hSw; go_simp; try with_reducible rfl⟩) (by assumption) ?_
        (try simp only [Act.put, List.setIfInBounds_toArray, List.set_cons_zero, List.set_cons_succ])
        refine take_first 10 (v := ?_) rfl (by kernel_rfl) (by kernel_rfl) (by kernel_rfl) (fun _ _ _ h => h) (Or.inl ⟨by rfl, by intro wx hSw; (try dsimp only at hSw); obtain ⟨⟨hSw1, hSw2, hSw3⟩, hSw4, hSw5, hSw6⟩ := hSw; go_simp; try with_reducible rfl⟩) (by assumption) ?_
        (try simp only [Act.put, List.setIfInBounds_toArray, List.set_cons_zero, List.set_cons_succ])
        refine take_first 11 (v := ?_) rfl (by kernel_rfl) (by kernel_rfl) (by kernel_rfl) (fun _ _ _ h => h) (Or.inl ⟨by rfl, by intro wx hSw; (try dsimp only at hSw); obtain ⟨⟨hSw1, hSw2, hSw3⟩, hSw4, hSw5, hSw6⟩ := hSw; go_simp; try with_reducible rfl⟩) (by assumption) ?_
        (try simp only [Act.put, List.setIfInBounds_toArray, List.set_cons_zero, List.set_cons_succ])
        refine take_first 12 (v := ?_) rfl (by kernel_rfl) (by kernel_rfl) (by kernel_rfl) (fun _ _ _ h => h) (Or.inl ⟨by rfl, by intro wx hSw; (try dsimp only at hSw); obtain ⟨⟨hSw1, hSw2, hSw3⟩, hSw4, hSw5, hSw6⟩ := hSw; go_simp; try with_reducible rfl⟩) (by assumption) ?_
        (try simp only [Act.put, List.setIfInBounds_toArray, List.set_cons_zero, List.set_cons_succ])
        refine wpAnyH_done (by kernel_rfl) ?_ _
        refine NoPanic.normal ?_
        clear two hHeld
        go_wp2
        go_roundw
        case rel => first | exact ⟨k + 1, by omega, by go_num, hu.drew, HTN.out⟩ | ((repeat apply Exists.intro); exact ⟨⟨k + 1, by omega, by go_num, hu.drew, HTN.out⟩, rfl⟩)
        case measure => simp [intOf]; omega
      · obtain rfl : r1 = false := by
          rw [← H1.out]
          refine eqB_false (fun heq => hs ?_)
          rw [heq, hek] at hdk
          exact (Option.some.inj hdk).symm
        have hss := str_ne hs
        have hut := hu01.trans hu.drew
        generalize str d = s at two hss
        generalize str e = t at two hss
        clear hdk hek HTK hs H1
        go_wp2_with fail
        refine wp_region_noPanic ?_
        refine wp_region_held_drew (S := fun wx => TwoN w.heap.size (w.heap.size + 1) (some ⟨b1, o1, none⟩) (some ⟨b2, o2, none⟩) mn a.mc b.mc b1 (o1 + k) b2 (o2 + k) x y s t wx) (by kernel_rfl) two (fun hHeld => ?_)
        refine take_first 0 (v := ?_) rfl (by kernel_rfl) (by kernel_rfl) (by kernel_rfl) (fun _ _ _ h => h) (Or.inl ⟨by rfl, by intro wx hSw; (try dsimp only at hSw); obtain ⟨⟨hSw1, hSw2, hSw3⟩, hSw4, hSw5, hSw6⟩ := hSw; go_simp; try with_reducible rfl⟩) (by assumption) ?_
        (try simp only [Act.put, List.setIfInBounds_toArray, List.set_cons_zero, List.set_cons_succ])
        refine take_first 1 (v := ?_) rfl (by kernel_rfl) (by kernel_rfl) (by kernel_rfl) (fun _ _ _ h => h) (Or.inl ⟨by rfl, by intro wx hSw; (try dsimp only at hSw); obtain ⟨⟨hSw1, hSw2, hSw3⟩, hSw4, hSw5, hSw6⟩ := hSw; go_simp; try with_reducible rfl⟩) (by assumption) ?_
        (try simp only [Act.put, List.setIfInBounds_toArray, List.set_cons_zero, List.set_cons_succ])
        refine take_first 2 (v := ?_) rfl (by kernel_rfl) (by kernel_rfl) (by kernel_rfl) (fun _ _ _ h => h) (Or.inl ⟨by rfl, by intro wx hSw; (try dsimp only at hSw); obtain ⟨⟨hSw1, hSw2, hSw3⟩, hSw4, hSw5, hSw6⟩ := hSw; go_simp; try with_reducible rfl⟩) (by assumption) ?_
        (try simp only [Act.put, List.setIfInBounds_toArray, List.set_cons_zero, List.set_cons_succ])
        refine take_first 3 (v := ?_) rfl (by kernel_rfl) (by kernel_rfl) (by kernel_rfl) (fun _ _ _ h => h) (Or.inl ⟨by rfl, by intro wx hSw; (try dsimp only at hSw); obtain ⟨⟨hSw1, hSw2, hSw3⟩, hSw4, hSw5, hSw6⟩ := hSw; go_simp; try with_reducible rfl⟩) (by assumption) ?_
        (try simp only [Act.put, List.setIfInBounds_toArray, List.set_cons_zero, List.set_cons_succ])
        refine take_first 4 (v := ?_) rfl (by kernel_rfl) (by kernel_rfl) (by kernel_rfl) (fun _ _ _ h => h) (Or.inl ⟨by rfl, by intro wx hSw; (try dsimp only at hSw); obtain ⟨⟨hSw1, hSw2, hSw3⟩, hSw4, hSw5, hSw6⟩ := hSw; go_simp; try with_reducible rfl⟩) (by assumption) ?_
        (try simp only [Act.put, List.setIfInBounds_toArray, List.set_cons_zero, List.set_cons_succ])
        refine take_first 5 (v := ?_) rfl (by kernel_rfl) (by kernel_rfl) (by kernel_rfl) (fun _ _ _ h => h) (Or.inl ⟨by rfl, by intro wx hSw; (try dsimp only at hSw); obtain ⟨⟨hSw1, hSw2, hSw3⟩, hSw4, hSw5, hSw6⟩ := hSw; go_simp; try with_reducible rfl⟩) (by assumption) ?_
        (try simp only [Act.put, List.setIfInBounds_toArray, List.set_cons_zero, List.set_cons_succ])
        refine take_first 6 (v := ?_) rfl (by kernel_rfl) (by kernel_rfl) (by kernel_rfl) (fun _ _ _ h => h) (Or.inl ⟨by rfl, by intro wx hSw; (try dsimp only at hSw); obtain ⟨⟨hSw1, hSw2, hSw3⟩, hSw4, hSw5, hSw6⟩ := hSw; go_simp; try with_reducible rfl⟩) (by assumption) ?_
        (try simp only [Act.put, List.setIfInBounds_toArray, List.set_cons_zero, List.set_cons_succ])
        refine take_first 7 (v := ?_) rfl (by kernel_rfl) (by kernel_rfl) (by kernel_rfl) (fun _ _ _ h => h) (Or.inl ⟨by rfl, by intro wx hSw; (try dsimp only at hSw); obtain ⟨⟨hSw1, hSw2, hSw3⟩, hSw4, hSw5, hSw6⟩ := hSw; go_simp; try with_reducible rfl⟩) (by assumption) ?_
        (try simp only [Act.put, List.setIfInBounds_toArray, List.set_cons_zero, List.set_cons_succ])
        refine take_first 8 (v := ?_) rfl (by kernel_rfl) (by kernel_rfl) (by kernel_rfl) (fun _ _ _ h => h) (Or.inl ⟨by rfl, by intro wx hSw; (try dsimp only at hSw); obtain ⟨⟨hSw1, hSw2, hSw3⟩, hSw4, hSw5, hSw6⟩ := hSw; go_simp; try with_reducible rfl⟩) (by assumption) ?_
        (try simp only [Act.put, List.setIfInBounds_toArray, List.set_cons_zero, List.set_cons_succ])
        refine take_first 9 (v := ?_) rfl (by kernel_rfl) (by kernel_rfl) (by kernel_rfl) (fun _ _ _ h => h) (Or.inl ⟨by rfl, by intro wx hSw; (try dsimp only at hSw); obtain ⟨⟨hSw1, hSw2, hSw3⟩, hSw4, hSw5, hSw6⟩ := hSw; go_simp; try with_reducible rfl⟩) (by assumption) ?_
        (try simp only [Act.put, List.setIfInBounds_toArray, List.set_cons_zero, List.set_cons_succ])
        refine take_first 10 (v := ?_) rfl (by kernel_rfl) (by kernel_rfl) (by kernel_rfl) (fun _ _ _ h => h) (Or.inl ⟨by rfl, by intro wx hSw; (try dsimp only at hSw); obtain ⟨⟨hSw1, hSw2, hSw3⟩, hSw4, hSw5, hSw6⟩ := hSw; go_simp; try with_reducible rfl⟩) (by assumption) ?_
        (try simp only [Act.put, List.setIfInBounds_toArray, List.set_cons_zero, List.set_cons_succ])
        refine take_first 11 (v := ?_) rfl (by kernel_rfl) (by kernel_rfl) (by kernel_rfl) (fun _ _ _ h => h) (Or.inl ⟨by rfl, by intro wx hSw; (try dsimp only at hSw); obtain ⟨⟨hSw1, hSw2, hSw3⟩, hSw4, hSw5, hSw6⟩ := hSw; go_simp; try with_reducible rfl⟩) (by assumption) ?_
        (try simp only [Act.put, List.setIfInBounds_toArray, List.set_cons_zero, List.set_cons_succ])
        refine take_first 12 (v := ?_) rfl (by kernel_rfl) (by kernel_rfl) (by kernel_rfl) (fun _ _ _ h => h) (Or.inl ⟨by rfl, by intro wx hSw; (try dsimp only at hSw); obtain ⟨⟨hSw1, hSw2, hSw3⟩, hSw4, hSw5, hSw6⟩ := hSw; go_simp; try with_reducible rfl⟩) (by assumption) ?_
        (try simp only [Act.put, List.setIfInBounds_toArray, List.set_cons_zero, List.set_cons_succ])
        refine wpAnyH_done (by kernel_rfl) ?_ _
        refine NoPanic.normal ?_
        clear two hHeld
        go_wp2
        go_ret
        exact ⟨rfl, hut⟩
    · obtain rfl : k = mn := by omega
      obtain rfl : r1 = true := by
        rw [← H1.out]
        have := HTK.out
        rw [List.take_of_length_le (by have := HLN.out; omega), List.take_of_length_le (by have := HLN.out; omega)] at this
        exact eqB_true this
      have d9 : wr.cell? ⟨w.heap.size, 9, none⟩ = some (.slice a.so sn a.sc) := by have := (HB.out wr hu).1.c9; rw [HLN.out.1] at this; exact this
      have e9 : wr.cell? ⟨w.heap.size + 1, 9, none⟩ = some (.slice b.so sm b.sc) := by have := (HB.out wr hu).2.c9; rw [show (alt F S M I).st.length = sm from HLN.out.2.2.2.1] at this; exact this
      have f1 := states_same p q wr a.so b.so sn sm a.sc b.sc F.st S (by have := (HF.out wr hu).1.st; rw [HLN.out.1] at this; exact this) (by have := (HF.out wr hu).2.st; rw [show (alt F S M I).st.length = sm from HLN.out.2.2.2.1] at this; exact this)
      rw [H2.out] at f1
      go_wp2_with fail
      refine f1.mono ?_
      rintro e w2 ⟨rfl, hu2⟩
      have hu02 := hu.trans hu2
      have d12 : w2.cell? ⟨w.heap.size, 12, none⟩ = some (.slice a.io inn a.ic) := by have := (HB.out w2 hu02).1.c12; rw [HLN.out.2.2.1] at this; exact this
      have e12 : w2.cell? ⟨w.heap.size + 1, 12, none⟩ = some (.slice b.io im b.ic) := by have := (HB.out w2 hu02).2.c12; rw [show (alt F S M I).it.length = im from HLN.out.2.2.2.2.2] at this; exact this
      have f2 := items_same p q w2 a.io b.io inn im a.ic b.ic F.it I (by have := (HF.out w2 hu02).1.it; rw [HLN.out.2.2.1] at this; exact this) (by have := (HF.out w2 hu02).2.it; rw [show (alt F S M I).it.length = im from HLN.out.2.2.2.2.2] at this; exact this)
      rw [H3.out] at f2
      have hu020 := hu01.trans hu02
      clear f1 hu2 d9 e9 d11
      cases r2 with
      | false =>
        clear f2
        go_wp2
        go_ret
        exact ⟨rfl, hu020⟩
      | true =>
        go_wp2_with fail
        refine f2.mono ?_
        rintro e w3 ⟨rfl, hu3⟩
        have hu03 := hu01.trans (hu02.trans hu3)
        clear f2 d12 e12 hu3
        go_wp2
        go_ret
        exact ⟨ret_bool (by simp), hu03⟩
end Go.Proofs.Ytfemjbaadnjanaa
