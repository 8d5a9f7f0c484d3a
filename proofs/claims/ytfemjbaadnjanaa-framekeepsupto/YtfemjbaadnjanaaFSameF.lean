/-
  The document's Same, of two frames that say the same.
-/
import Derived.Test.YtfemjbaadnjanaaFSame
import Derived.Test.YtfemjbaadnjanaaFRefG0
namespace Go.Proofs.Ytfemjbaadnjanaa
open Go.RowKit
set_option linter.unusedVariables false
set_option linter.unusedSimpArgs false

/-- Two messages that say the same, and the two frames' lists. -/
def TwoM (B1 B2 : Nat) (a1 a2 : Option Addr) (n c1 c2 : Nat) (b1 o1 b2 o2 : Nat) (x y : Option Addr × Nat × Nat) (s : ByteArray) (wx : World) : Prop :=
  (wx.cell? ⟨B1, 11, none⟩ = some (.slice a1 n c1) ∧ wx.cell? ⟨b1, o1, none⟩ = some (.slice x.1 x.2.1 x.2.2) ∧ (convert 33 9 (.slice x.1 x.2.1 x.2.2)).run Try.prog wx = .ok (.string s) wx) ∧
  (wx.cell? ⟨B2, 11, none⟩ = some (.slice a2 n c2) ∧ wx.cell? ⟨b2, o2, none⟩ = some (.slice y.1 y.2.1 y.2.2) ∧ (convert 33 9 (.slice y.1 y.2.1 y.2.2)).run Try.prog wx = .ok (.string s) wx)

set_option maxRecDepth 20000 in
set_option maxHeartbeats 4000000 in
theorem sameF_true (p q : Nat → Prop) (w : World) (F : PF) (a b : Fa) (h : FIn p w F a) (h' : FIn q w F b) :
    Calls Try.prog 16 #[fval F a, fval F b] w fun e w' => e = .returned (.bool true) ∧ Up w w' := by
  obtain ⟨w0, hw0, hu0, hb0⟩ := boxed w F a
  obtain ⟨w1, hw1, hu1, hb1⟩ := boxed w0 F b
  have hs0 : w0.heap.size = w.heap.size + 1 := by rw [← hw0]; simp
  rw [hs0] at hb1
  have HB : Hid (∀ W, Up w1 W → Bf w.heap.size F a W ∧ Bf (w.heap.size + 1) F b W) := fun W u => ⟨(hb0.up hu1.bl).up u.bl, hb1.up u.bl⟩
  have hu01 := hu0.trans hu1
  have HF : Hid (∀ W, Up w1 W → FIn p W F a ∧ FIn q W F b) := fun W u => ⟨h.up (hu01.trans u).bl, h'.up (hu01.trans u).bl⟩
  have q1 := fun W => vid_equal F.idN F.idP F.idN F.idP W
  have q2 := fun W => vid_equal F.curN F.curP F.curN F.curP W
  have q3 := fun W => vid_equal F.promN F.promP F.promN F.promP W
  simp only [and_self, decide_true] at q1 q2 q3
  obtain ⟨d0, d1, d2, d3, d4, d5, d6, d7, d8, d9, d10, d11, d12, d13, d14⟩ := (HB.out w1 (Up.refl _)).1
  obtain ⟨e0, e1, e2, e3, e4, e5, e6, e7, e8, e9, e10, e11, e12, e13, e14⟩ := (HB.out w1 (Up.refl _)).2
  have HLM : Hid (F.ms.length ≤ 5864062014805) := h.ms.choose_spec.1.2.1
  obtain ⟨mn, hmn⟩ : ∃ mn, F.ms.length = mn := ⟨_, rfl⟩
  obtain ⟨sn, hsn⟩ : ∃ sn, F.st.length = sn := ⟨_, rfl⟩
  obtain ⟨inn, hinn⟩ : ∃ inn, F.it.length = inn := ⟨_, rfl⟩
  have HLN : Hid (F.st.length = sn ∧ F.ms.length = mn ∧ F.it.length = inn) := ⟨hsn, hmn, hinn⟩
  have hmmax : mn ≤ 9223372036854775807 := by have := HLM.out; omega
  unfold fval fcells at *
  simp only [hsn, hmn, hinn] at hw0 hw1 d9 d11 d12 e9 e11 e12 ⊢
  clear h h' hb0 hb1 hsn hmn hinn HLM
  go_enter Try.func16, Try.ntmps16
  go_wp2_with fail
  (try simp only [hw0, hw1])
  clear d0 d1 d2 d3 d4 d5 d6 d7 d8 d9 d10 d11 d12 d13 d14 e0 e1 e2 e3 e4 e5 e6 e7 e8 e9 e10 e11 e12 e13 e14 q1 q2 q3
  go_loopw [5] (fun iv wr => ∃ k : Nat, k ≤ mn ∧ iv = .int .i64 k ∧ Up w1 wr) (fun iv _ => mn - (intOf iv).toNat)
  case atStart => exact ⟨0, by omega, rfl, Up.refl _⟩
  case round =>
    obtain ⟨k, hk, rfl, hu⟩ := hrel
    have d11 : wr.cell? ⟨w.heap.size, 11, none⟩ = some (.slice a.mo mn a.mc) := by have := (HB.out wr hu).1.c11; rw [HLN.out.2.1] at this; exact this
    by_cases hlt : k < mn
    · have hltI : (k : Int) < (mn : Int) := by omega
      have two : ∃ b1 o1 b2 o2 x y s, a.mo = some ⟨b1, o1, none⟩ ∧ b.mo = some ⟨b2, o2, none⟩ ∧ TwoM w.heap.size (w.heap.size + 1) a.mo b.mo mn a.mc b.mc b1 (o1 + k) b2 (o2 + k) x y s wr.drew := by
        have hud : Up w1 wr.drew := hu.drew
        obtain ⟨xs, hI, hdl, hit⟩ := (HF.out wr.drew hud).1.ms
        obtain ⟨ys, hJ, _, hjt⟩ := (HF.out wr.drew hud).2.ms
        have hxl := hI.1
        have hyl := hJ.1
        have hml := HLN.out.2.1
        obtain ⟨x, hx⟩ : ∃ x, xs[k]? = some x := ⟨xs[k]'(by omega), List.getElem?_eq_getElem (by omega)⟩
        obtain ⟨y, hy⟩ : ∃ y, ys[k]? = some y := ⟨ys[k]'(by omega), List.getElem?_eq_getElem (by omega)⟩
        obtain ⟨d, hdk⟩ : ∃ d, F.ms[k]? = some d := ⟨F.ms[k]'(by omega), List.getElem?_eq_getElem (by omega)⟩
        obtain ⟨b1, o1, e1, _, hc1⟩ := hI.2.2.2 (by omega)
        obtain ⟨b2, o2, e2, _, hc2⟩ := hJ.2.2.2 (by omega)
        have c1 := (HB.out wr.drew hud).1.c11
        have c2 := (HB.out wr.drew hud).2.c11
        rw [hml] at c1 c2
        exact ⟨b1, o1, b2, o2, x, y, str d, e1, e2, ⟨c1, hc1 k x hx, conv_rw (hit k x d hx hdk).1⟩, c2, hc2 k y hy, conv_rw (hjt k y d hy hdk).1⟩
      obtain ⟨b1, o1, b2, o2, x, y, s, e1, e2, two⟩ := two
      rw [e1] at d11
      rw [e1, e2] at two
      clear e1 e2
      have hk0 : ¬ ((k : Int) < 0) := by omega
      go_wp2_with fail
      refine wp_region_noPanic ?_
      refine wp_region_held_drew (S := fun wx => TwoM w.heap.size (w.heap.size + 1) (some ⟨b1, o1, none⟩) (some ⟨b2, o2, none⟩) mn a.mc b.mc b1 (o1 + k) b2 (o2 + k) x y s wx) (by kernel_rfl) two (fun hHeld => ?_)
      refine take_first 0 (v := ?_) rfl (by kernel_rfl) (by kernel_rfl) (by kernel_rfl) (fun _ _ _ h => h) (Or.inl ⟨by rfl, by intro wx hSw; (try dsimp only at hSw); obtain ⟨⟨hSw1, hSw2, hSw3⟩, hSw4, hSw5, hSw6⟩ := hSw; go_simp; try with_reducible rfl⟩) (by assumption) ?_
      (try simp only [Act.put, List.setIfInBounds_toArray, List.set_cons_zero, List.set_cons_succ])
      refine take_first 1 (v := ?_) rfl (by kernel_rfl) (by kernel_rfl) (by kernel_rfl) (fun _ _ _ h => h) (Or.inl ⟨by rfl, by intro wx hSw; (try dsimp only at hSw); obtain ⟨⟨hSw1, hSw2, hSw3⟩, hSw4, hSw5, hSw6⟩ := hSw; go_simp; try with_reducible rfl⟩) (by assumption) ?_
      (try simp only [Act.put, List.setIfInBounds_toArray, List.set_cons_zero, List.set_cons_succ])
      refine take_first 2 (v := ?_) rfl (by kernel_rfl) (by kernel_rfl) (by kernel_rfl) (fun _ _ _ h => h) (Or.inl ⟨by rfl, by intro wx hSw; (try dsimp only at hSw); obtain ⟨⟨hSw1, hSw2, hSw3⟩, hSw4, hSw5, hSw6⟩ := hSw; go_simp; try with_reducible rfl⟩) (by assumption) ?_
      (try simp only [Act.put, List.setIfInBounds_toArray, List.set_cons_zero, List.set_cons_succ])
      refine take_first 3 (v := ?_) rfl (by kernel_rfl) (by kernel_rfl) (by kernel_rfl) (fun _ _ _ h => h) (Or.inl ⟨by rfl, by intro wx hSw; (try dsimp only at hSw); obtain ⟨⟨hSw1, hSw2, hSw3⟩, hSw4, hSw5, hSw6⟩ := hSw; go_simp; try with_reducible rfl⟩) (by assumption) ?_
      (try simp only [Act.put, List.setIfInBounds_toArray, List.set_cons_zero, List.set_cons_succ])
      refine take_first 4 (v := ?_) rfl (by kernel_rfl) (by kernel_rfl) (by kernel_rfl) (fun _ _ _ h => h) (Or.inl ⟨by rfl, by intro wx hSw; (try dsimp only at hSw); obtain ⟨⟨hSw1, hSw2, hSw3⟩, hSw4, hSw5, hSw6⟩ := hSw; go_simp; try with_reducible rfl⟩) (by assumption) ?_
      (try simp only [Act.put, List.setIfInBounds_toArray, List.set_cons_zero, List.set_cons_succ])
      refine take_first 5 (v := ?_) rfl (by kernel_rfl) (by kernel_rfl) (by kernel_rfl) (fun _ _ _ h => h) (Or.inl ⟨by rfl, by intro wx hSw; (try dsimp only at hSw); obtain ⟨⟨hSw1, hSw2, hSw3⟩, hSw4, hSw5, hSw6⟩ := hSw; go_simp; try with_reducible rfl⟩) (by assumption) ?_
      (try simp only [Act.put, List.setIfInBounds_toArray, List.set_cons_zero, List.set_cons_succ])
      refine take_first 6 (v := ?_) rfl (by kernel_rfl) (by kernel_rfl) (by kernel_rfl) (fun _ _ _ h => h) (Or.inl ⟨by rfl, by intro wx hSw; (try dsimp only at hSw); obtain ⟨⟨hSw1, hSw2, hSw3⟩, hSw4, hSw5, hSw6⟩ := hSw; go_simp; try with_reducible rfl⟩) (by assumption) ?_
      (try simp only [Act.put, List.setIfInBounds_toArray, List.set_cons_zero, List.set_cons_succ])
      refine take_first 7 (v := ?_) rfl (by kernel_rfl) (by kernel_rfl) (by kernel_rfl) (fun _ _ _ h => h) (Or.inl ⟨by rfl, by intro wx hSw; (try dsimp only at hSw); obtain ⟨⟨hSw1, hSw2, hSw3⟩, hSw4, hSw5, hSw6⟩ := hSw; go_simp; try with_reducible rfl⟩) (by assumption) ?_
      (try simp only [Act.put, List.setIfInBounds_toArray, List.set_cons_zero, List.set_cons_succ])
      refine take_first 8 (v := ?_) rfl (by kernel_rfl) (by kernel_rfl) (by kernel_rfl) (fun _ _ _ h => h) (Or.inl ⟨by rfl, by intro wx hSw; (try dsimp only at hSw); obtain ⟨⟨hSw1, hSw2, hSw3⟩, hSw4, hSw5, hSw6⟩ := hSw; go_simp; try with_reducible rfl⟩) (by assumption) ?_
      (try simp only [Act.put, List.setIfInBounds_toArray, List.set_cons_zero, List.set_cons_succ])
      refine take_first 9 (v := ?_) rfl (by kernel_rfl) (by kernel_rfl) (by kernel_rfl) (fun _ _ _ h => h) (Or.inl ⟨by rfl, by intro wx hSw; (try dsimp only at hSw); obtain ⟨⟨hSw1, hSw2, hSw3⟩, hSw4, hSw5, hSw6⟩ := hSw; go_simp; try with_reducible rfl⟩) (by assumption) ?_
      (try simp only [Act.put, List.setIfInBounds_toArray, List.set_cons_zero, List.set_cons_succ])
      refine take_first 10 (v := ?_) rfl (by kernel_rfl) (by kernel_rfl) (by kernel_rfl) (fun _ _ _ h => h) (Or.inl ⟨by rfl, by intro wx hSw; (try dsimp only at hSw); obtain ⟨⟨hSw1, hSw2, hSw3⟩, hSw4, hSw5, hSw6⟩ := hSw; go_simp; try with_reducible rfl⟩) (by assumption) ?_
      (try simp only [Act.put, List.setIfInBounds_toArray, List.set_cons_zero, List.set_cons_succ])
      refine take_first 11 (v := ?_) rfl (by kernel_rfl) (by kernel_rfl) (by kernel_rfl) (fun _ _ _ h => h) (Or.inl ⟨by rfl, by intro wx hSw; (try dsimp only at hSw); obtain ⟨⟨hSw1, hSw2, hSw3⟩, hSw4, hSw5, hSw6⟩ := hSw; go_simp; try with_reducible rfl⟩) (by assumption) ?_
      (try simp only [Act.put, List.setIfInBounds_toArray, List.set_cons_zero, List.set_cons_succ])
      refine take_first 12 (v := ?_) rfl (by kernel_rfl) (by kernel_rfl) (by kernel_rfl) (fun _ _ _ h => h) (Or.inl ⟨by rfl, by intro wx hSw; (try dsimp only at hSw); obtain ⟨⟨hSw1, hSw2, hSw3⟩, hSw4, hSw5, hSw6⟩ := hSw; go_simp; try with_reducible rfl⟩) (by assumption) ?_
      (try simp only [Act.put, List.setIfInBounds_toArray, List.set_cons_zero, List.set_cons_succ])
      refine wpAnyH_done (by kernel_rfl) ?_ _
      refine NoPanic.normal ?_
      clear two hHeld
      go_wp2
      go_roundw
      case rel => first | exact ⟨k + 1, by omega, by go_num, hu.drew⟩ | ((repeat apply Exists.intro); exact ⟨⟨k + 1, by omega, by go_num, hu.drew⟩, rfl⟩)
      case measure => simp [intOf]; omega
    · obtain rfl : k = mn := by omega
      have d9 : wr.cell? ⟨w.heap.size, 9, none⟩ = some (.slice a.so sn a.sc) := by have := (HB.out wr hu).1.c9; rw [HLN.out.1] at this; exact this
      have e9 : wr.cell? ⟨w.heap.size + 1, 9, none⟩ = some (.slice b.so sn b.sc) := by have := (HB.out wr hu).2.c9; rw [HLN.out.1] at this; exact this
      have f1 := same_true p q wr a.so b.so sn a.sc b.sc F.st (by have := (HF.out wr hu).1.st; rw [HLN.out.1] at this; exact this) (by have := (HF.out wr hu).2.st; rw [HLN.out.1] at this; exact this)
      go_wp2_with fail
      refine f1.mono ?_
      rintro e w2 ⟨rfl, hu2⟩
      have hu02 := hu.trans hu2
      have d12 : w2.cell? ⟨w.heap.size, 12, none⟩ = some (.slice a.io inn a.ic) := by have := (HB.out w2 hu02).1.c12; rw [HLN.out.2.2] at this; exact this
      have e12 : w2.cell? ⟨w.heap.size + 1, 12, none⟩ = some (.slice b.io inn b.ic) := by have := (HB.out w2 hu02).2.c12; rw [HLN.out.2.2] at this; exact this
      have f2 := items_true p q w2 a.io b.io inn a.ic b.ic F.it (by have := (HF.out w2 hu02).1.it; rw [HLN.out.2.2] at this; exact this) (by have := (HF.out w2 hu02).2.it; rw [HLN.out.2.2] at this; exact this)
      clear f1 hu2 d9 e9 d11
      go_wp2_with fail
      refine f2.mono ?_
      rintro e w3 ⟨rfl, hu3⟩
      have hu03 := hu01.trans (hu02.trans hu3)
      clear f2 d12 e12 hu3
      go_wp2
      go_ret
      exact ⟨rfl, hu03⟩
end Go.Proofs.Ytfemjbaadnjanaa
