/-
  The document's Same of states, of any two lists.
-/
import Derived.Test.YtfemjbaadnjanaaFSameI
namespace Go.Proofs.Ytfemjbaadnjanaa
open Go.RowKit Go.Sort
set_option linter.unusedVariables false
set_option linter.unusedSimpArgs false

/-- Are two things one? -/
noncomputable def eqB {α : Type} (a b : α) : Bool := @decide (a = b) (Classical.propDecidable _)
theorem eqB_true {α : Type} {a b : α} (h : a = b) : eqB a b = true := by unfold eqB; exact @decide_eq_true _ (Classical.propDecidable _) h
theorem eqB_false {α : Type} {a b : α} (h : a ≠ b) : eqB a b = false := by unfold eqB; exact @decide_eq_false _ (Classical.propDecidable _) h

/-- Two states. -/
def TwoT (b1 o1 b2 o2 : Nat) (x y : Sx) (wx : World) : Prop :=
  (wx.cell? ⟨b1, o1, none⟩ = some (.int .u64 (x.1 : Nat)) ∧ wx.cell? ⟨b1, o1 + 1, none⟩ = some (.int .i64 x.2.1) ∧ wx.cell? ⟨b1, o1 + 2, none⟩ = some (.int .i64 x.2.2.1) ∧ wx.cell? ⟨b1, o1 + 3, none⟩ = some (.slice x.2.2.2.1 x.2.2.2.2.1 x.2.2.2.2.2)) ∧
  (wx.cell? ⟨b2, o2, none⟩ = some (.int .u64 (y.1 : Nat)) ∧ wx.cell? ⟨b2, o2 + 1, none⟩ = some (.int .i64 y.2.1) ∧ wx.cell? ⟨b2, o2 + 2, none⟩ = some (.int .i64 y.2.2.1) ∧ wx.cell? ⟨b2, o2 + 3, none⟩ = some (.slice y.2.2.2.1 y.2.2.2.2.1 y.2.2.2.2.2))
theorem TwoT.up {b1 o1 b2 o2 : Nat} {x y : Sx} {w w' : World} (h : TwoT b1 o1 b2 o2 x y w) (u : Up w w') : TwoT b1 o1 b2 o2 x y w' := by
  obtain ⟨⟨h1, h2, h3, h4⟩, h5, h6, h7, h8⟩ := h
  exact ⟨⟨u.cell h1, u.cell h2, u.cell h3, u.cell h4⟩, u.cell h5, u.cell h6, u.cell h7, u.cell h8⟩

set_option maxRecDepth 10000 in
set_option maxHeartbeats 8000000 in
theorem states_same (p q : Nat → Prop) (w : World) (ao bo : Option Addr) (n m c1 c2 : Nat) (ds es : List Sd) (h : SsX p w ao n ds) (h' : SsX q w bo m es) :
    Calls Try.prog 35 #[.slice ao n c1, .slice bo m c2] w fun e w' => e = .returned (.bool (eqB ds es)) ∧ Up w w' := by
  obtain ⟨xs, hI, hd, hit⟩ := h
  obtain ⟨ys, hJ, hd', hjt⟩ := h'
  have hxl := hI.1
  have hyl := hJ.1
  have hm := hI.2.1
  obtain ⟨r, HR⟩ : ∃ r, Hid (eqB ds es = r) := ⟨_, rfl⟩
  rw [HR.out]
  by_cases hnm : n = m
  · subst hnm
    have HX : Hid (SR p w ao n xs ∧ (∀ (j : Nat) (x : Sx) (d : Sd), xs[j]? = some x → ds[j]? = some d → SiX p w x d)) := ⟨hI, hit⟩
    have HY : Hid (SR q w bo n ys ∧ (∀ (j : Nat) (x : Sx) (d : Sd), ys[j]? = some x → es[j]? = some d → SiX q w x d)) := ⟨hJ, hjt⟩
    clear hI hit hJ hjt
    go_enter Try.func35, Try.ntmps35
    go_wp2_with fail
    go_loopw [5] (fun iv wr => ∃ k : Nat, k ≤ n ∧ iv = .int .i64 k ∧ Up w wr ∧ ds.take k = es.take k) (fun iv _ => n - (intOf iv).toNat)
    case atStart => exact ⟨0, by omega, rfl, Up.refl _, rfl⟩
    case round =>
      obtain ⟨k, hk, rfl, hu, htk⟩ := hrel
      have HTK : Hid (ds.take k = es.take k) := htk
      clear htk
      by_cases hlt : k < n
      · have hltI : (k : Int) < (n : Int) := by omega
        obtain ⟨x, hx⟩ : ∃ x, xs[k]? = some x := ⟨xs[k]'(by omega), List.getElem?_eq_getElem (by omega)⟩
        obtain ⟨y, hy⟩ : ∃ y, ys[k]? = some y := ⟨ys[k]'(by omega), List.getElem?_eq_getElem (by omega)⟩
        obtain ⟨d, hdk⟩ : ∃ d, ds[k]? = some d := ⟨ds[k]'(by omega), List.getElem?_eq_getElem (by omega)⟩
        obtain ⟨e, hek⟩ : ∃ e, es[k]? = some e := ⟨es[k]'(by omega), List.getElem?_eq_getElem (by omega)⟩
        have hud : Below w.heap.size w wr.drew := hu.drew.bl
        obtain ⟨b1, o1, e1, _, hc1⟩ := (HX.out.1.keep (Kp.up hud)).2.2.2 (by omega)
        obtain ⟨b2, o2, e2, _, hc2⟩ := (HY.out.1.keep (Kp.up hud)).2.2.2 (by omega)
        obtain ⟨p1, p2, p3, i1⟩ := (HX.out.2 k x d hx hdk).keep (Kp.up hud)
        obtain ⟨q1, q2, q3, i2⟩ := (HY.out.2 k y e hy hek).keep (Kp.up hud)
        have two : TwoT b1 (o1 + k * 4) b2 (o2 + k * 4) x y wr.drew ∧ ItsX p wr.drew x.2.2.2.1 x.2.2.2.2.1 d.2.2.2 ∧ ItsX q wr.drew y.2.2.2.1 y.2.2.2.2.1 e.2.2.2 := ⟨⟨hc1 k x hx, hc2 k y hy⟩, i1, i2⟩
        have HNE : Hid (d ≠ e → r = false) := by
          intro hne
          rw [← HR.out]
          refine eqB_false (fun heq => hne ?_)
          rw [heq, hek] at hdk
          exact (Option.some.inj hdk).symm
        have HTE : Hid (d = e → ds.take (k + 1) = es.take (k + 1)) := by
          rintro rfl
          exact take_eq HTK.out hdk hek
        have HDE : Hid (x.1 = d.1 ∧ x.2.1 = d.2.1 ∧ x.2.2.1 = d.2.2.1 ∧ y.1 = e.1 ∧ y.2.1 = e.2.1 ∧ y.2.2.1 = e.2.2.1) := ⟨p1, p2, p3, q1, q2, q3⟩
        have heq := fun W => vid_equal x.1 x.2.1 y.1 y.2.1 W
        obtain ⟨D, hD⟩ : ∃ D, d.2.2.2 = D := ⟨_, rfl⟩
        obtain ⟨E, hE⟩ : ∃ E, e.2.2.2 = E := ⟨_, rfl⟩
        rw [hD, hE] at two
        have HDD : Hid (d.2.2.2 = D ∧ e.2.2.2 = E) := ⟨hD, hE⟩
        subst e1 e2
        clear hx hy hdk hek hc1 hc2 i1 i2 p1 p2 p3 q1 q2 q3 HX HY hud HTK hD hE
        have hk0 : ¬ ((k : Int) < 0) := by omega
        have hud := hu.drew
        by_cases hv : x.1 = y.1 ∧ x.2.1 = y.2.1
        · rw [decide_eq_true hv] at heq
          by_cases hf : x.2.2.1 = y.2.2.1
          · have hfe : (x.2.2.1 == y.2.2.1) = true := by simpa using hf
            have hfn : (x.2.2.1 != y.2.2.1) = false := by simpa using hf
            have HV : Hid ((x.1 = y.1 ∧ x.2.1 = y.2.1) ∧ x.2.2.1 = y.2.2.1) := ⟨hv, hf⟩
            clear hv hf
            by_cases hi : D = E
            · have hde : d = e := by
                obtain ⟨g1, g2, g3, g4, g5, g6⟩ := HDE.out
                obtain ⟨⟨v1, v2⟩, v3⟩ := HV.out
                obtain ⟨z1, z2⟩ := HDD.out
                refine Prod.ext (by omega) (Prod.ext (by omega) (Prod.ext (by omega) ?_))
                rw [z1, z2, hi]
              have HTN : Hid (ds.take (k + 1) = es.take (k + 1)) := HTE.out hde
              have hii : decide (D = E) = true := decide_eq_true hi
              clear hde HTE HNE HDE HV hi HDD
              go_wp2_with fail
              refine wp_region_noPanic ?_
              refine wp_region_held_drew (S := fun wx => TwoT b1 (o1 + k * 4) b2 (o2 + k * 4) x y wx ∧ ItsX p wx x.2.2.2.1 x.2.2.2.2.1 D ∧ ItsX q wx y.2.2.2.1 y.2.2.2.2.1 E) (by kernel_rfl) two (fun hHeld => ?_)
              refine take_first 0 (v := ?_) rfl (by kernel_rfl) (by kernel_rfl) (by kernel_rfl) (fun _ _ _ h => h) (Or.inl ⟨by rfl, by intro wx hSw; (try dsimp only at hSw); obtain ⟨⟨⟨hSw1, hSw2, hSw3, hSw4⟩, hSw5, hSw6, hSw7, hSw8⟩, hSw9⟩ := hSw; go_simp; try with_reducible rfl⟩) (by assumption) ?_
              (try simp only [Act.put, List.setIfInBounds_toArray, List.set_cons_zero, List.set_cons_succ])
              refine take_first 1 (v := ?_) rfl (by kernel_rfl) (by kernel_rfl) (by kernel_rfl) (fun _ _ _ h => h) (Or.inl ⟨by rfl, by intro wx hSw; (try dsimp only at hSw); obtain ⟨⟨⟨hSw1, hSw2, hSw3, hSw4⟩, hSw5, hSw6, hSw7, hSw8⟩, hSw9⟩ := hSw; go_simp; try with_reducible rfl⟩) (by assumption) ?_
              (try simp only [Act.put, List.setIfInBounds_toArray, List.set_cons_zero, List.set_cons_succ])
              refine take_first 2 (v := ?_) rfl (by kernel_rfl) (by kernel_rfl) (by kernel_rfl) (fun _ _ _ h => h) (Or.inl ⟨by rfl, by intro wx hSw; (try dsimp only at hSw); obtain ⟨⟨⟨hSw1, hSw2, hSw3, hSw4⟩, hSw5, hSw6, hSw7, hSw8⟩, hSw9⟩ := hSw; go_simp; try with_reducible rfl⟩) (by assumption) ?_
              (try simp only [Act.put, List.setIfInBounds_toArray, List.set_cons_zero, List.set_cons_succ])
              refine take_first 3 (v := ?_) rfl (by kernel_rfl) (by kernel_rfl) (by kernel_rfl) (fun _ _ _ h => h) (Or.inl ⟨by rfl, by intro wx hSw; (try dsimp only at hSw); obtain ⟨⟨⟨hSw1, hSw2, hSw3, hSw4⟩, hSw5, hSw6, hSw7, hSw8⟩, hSw9⟩ := hSw; go_simp; try with_reducible rfl⟩) (by assumption) ?_
              (try simp only [Act.put, List.setIfInBounds_toArray, List.set_cons_zero, List.set_cons_succ])
              refine take_first 4 (v := ?_) rfl (by kernel_rfl) (by kernel_rfl) (by kernel_rfl) (fun _ _ _ h => h) (Or.inl ⟨by rfl, by intro wx hSw; (try dsimp only at hSw); obtain ⟨⟨⟨hSw1, hSw2, hSw3, hSw4⟩, hSw5, hSw6, hSw7, hSw8⟩, hSw9⟩ := hSw; go_simp; try with_reducible rfl⟩) (by assumption) ?_
              (try simp only [Act.put, List.setIfInBounds_toArray, List.set_cons_zero, List.set_cons_succ])
              refine take_first 5 (v := ?_) rfl (by kernel_rfl) (by kernel_rfl) (by kernel_rfl) (fun _ _ _ h => h) (Or.inl ⟨by rfl, by intro wx hSw; (try dsimp only at hSw); obtain ⟨⟨⟨hSw1, hSw2, hSw3, hSw4⟩, hSw5, hSw6, hSw7, hSw8⟩, hSw9⟩ := hSw; go_simp; try with_reducible rfl⟩) (by assumption) ?_
              (try simp only [Act.put, List.setIfInBounds_toArray, List.set_cons_zero, List.set_cons_succ])
              refine take_first 6 (v := ?_) rfl (by kernel_rfl) (by kernel_rfl) (by kernel_rfl) (fun _ _ _ h => h) (Or.inl ⟨by rfl, by intro wx hSw; (try dsimp only at hSw); obtain ⟨⟨⟨hSw1, hSw2, hSw3, hSw4⟩, hSw5, hSw6, hSw7, hSw8⟩, hSw9⟩ := hSw; go_simp; try with_reducible rfl⟩) (by assumption) ?_
              (try simp only [Act.put, List.setIfInBounds_toArray, List.set_cons_zero, List.set_cons_succ])
              refine take_first 7 (v := ?_) rfl (by kernel_rfl) (by kernel_rfl) (by kernel_rfl) (fun _ _ _ h => h) (Or.inl ⟨by rfl, by intro wx hSw; (try dsimp only at hSw); obtain ⟨⟨⟨hSw1, hSw2, hSw3, hSw4⟩, hSw5, hSw6, hSw7, hSw8⟩, hSw9⟩ := hSw; go_simp; try with_reducible rfl⟩) (by assumption) ?_
              (try simp only [Act.put, List.setIfInBounds_toArray, List.set_cons_zero, List.set_cons_succ])
              refine take_first 8 (v := ?_) rfl (by kernel_rfl) (by kernel_rfl) (by kernel_rfl) (fun _ _ _ h => h) (Or.inl ⟨by rfl, by intro wx hSw; (try dsimp only at hSw); obtain ⟨⟨⟨hSw1, hSw2, hSw3, hSw4⟩, hSw5, hSw6, hSw7, hSw8⟩, hSw9⟩ := hSw; go_simp; try with_reducible rfl⟩) (by assumption) ?_
              (try simp only [Act.put, List.setIfInBounds_toArray, List.set_cons_zero, List.set_cons_succ])
              refine take_first 9 (v := ?_) rfl (by kernel_rfl) (by kernel_rfl) (by kernel_rfl) (fun _ _ _ h => h) (Or.inl ⟨by rfl, by intro wx hSw; (try dsimp only at hSw); obtain ⟨⟨⟨hSw1, hSw2, hSw3, hSw4⟩, hSw5, hSw6, hSw7, hSw8⟩, hSw9⟩ := hSw; go_simp; try with_reducible rfl⟩) (by assumption) ?_
              (try simp only [Act.put, List.setIfInBounds_toArray, List.set_cons_zero, List.set_cons_succ])
              refine take_first 10 (v := ?_) rfl (by kernel_rfl) (by kernel_rfl) (by kernel_rfl) (fun _ _ _ h => h) (Or.inl ⟨by rfl, by intro wx hSw; (try dsimp only at hSw); obtain ⟨⟨⟨hSw1, hSw2, hSw3, hSw4⟩, hSw5, hSw6, hSw7, hSw8⟩, hSw9⟩ := hSw; go_simp; try with_reducible rfl⟩) (by assumption) ?_
              (try simp only [Act.put, List.setIfInBounds_toArray, List.set_cons_zero, List.set_cons_succ])
              refine take_first 11 (v := ?_) rfl (by kernel_rfl) (by kernel_rfl) (by kernel_rfl) (fun _ _ _ h => h) (Or.inl ⟨by rfl, by intro wx hSw; (try dsimp only at hSw); obtain ⟨⟨⟨hSw1, hSw2, hSw3, hSw4⟩, hSw5, hSw6, hSw7, hSw8⟩, hSw9⟩ := hSw; go_simp; try with_reducible rfl⟩) (by assumption) ?_
              (try simp only [Act.put, List.setIfInBounds_toArray, List.set_cons_zero, List.set_cons_succ])
              refine take_first 12 (v := ?_) rfl (by kernel_rfl) (by kernel_rfl) (by kernel_rfl) (fun _ _ _ h => h) (Or.inl ⟨by rfl, by intro wx hSw; (try dsimp only at hSw); obtain ⟨⟨⟨hSw1, hSw2, hSw3, hSw4⟩, hSw5, hSw6, hSw7, hSw8⟩, hSw9⟩ := hSw; go_simp; try with_reducible rfl⟩) (by assumption) ?_
              (try simp only [Act.put, List.setIfInBounds_toArray, List.set_cons_zero, List.set_cons_succ])
              refine take_first 13 (v := ?_) rfl (by kernel_rfl) (by kernel_rfl) (by kernel_rfl) (fun _ _ _ h => h) (Or.inl ⟨by rfl, by intro wx hSw; (try dsimp only at hSw); obtain ⟨⟨⟨hSw1, hSw2, hSw3, hSw4⟩, hSw5, hSw6, hSw7, hSw8⟩, hSw9⟩ := hSw; go_simp; try with_reducible rfl⟩) (by assumption) ?_
              (try simp only [Act.put, List.setIfInBounds_toArray, List.set_cons_zero, List.set_cons_succ])
              refine take_first 14 (v := ?_) rfl (by kernel_rfl) (by kernel_rfl) (by kernel_rfl) (fun _ _ _ h => h) (Or.inl ⟨by rfl, by intro wx hSw; (try dsimp only at hSw); obtain ⟨⟨⟨hSw1, hSw2, hSw3, hSw4⟩, hSw5, hSw6, hSw7, hSw8⟩, hSw9⟩ := hSw; go_simp; try with_reducible rfl⟩) (by assumption) ?_
              (try simp only [Act.put, List.setIfInBounds_toArray, List.set_cons_zero, List.set_cons_succ])
              refine take_first 15 (v := ?_) rfl (by kernel_rfl) (by kernel_rfl) (by kernel_rfl) (fun _ _ _ h => h) (Or.inl ⟨by rfl, by intro wx hSw; (try dsimp only at hSw); obtain ⟨⟨⟨hSw1, hSw2, hSw3, hSw4⟩, hSw5, hSw6, hSw7, hSw8⟩, hSw9⟩ := hSw; go_simp; try with_reducible rfl⟩) (by assumption) ?_
              (try simp only [Act.put, List.setIfInBounds_toArray, List.set_cons_zero, List.set_cons_succ])
              refine take_first 16 (v := ?_) rfl (by kernel_rfl) (by kernel_rfl) (by kernel_rfl) (fun _ _ _ h => h) (Or.inl ⟨by rfl, by intro wx hSw; (try dsimp only at hSw); obtain ⟨⟨⟨hSw1, hSw2, hSw3, hSw4⟩, hSw5, hSw6, hSw7, hSw8⟩, hSw9⟩ := hSw; go_simp; try with_reducible rfl⟩) (by assumption) ?_
              (try simp only [Act.put, List.setIfInBounds_toArray, List.set_cons_zero, List.set_cons_succ])
              refine take_first 17 (v := ?_) rfl (by kernel_rfl) (by kernel_rfl) (by kernel_rfl) (fun _ _ _ h => h) (Or.inl ⟨by rfl, by intro wx hSw; (try dsimp only at hSw); obtain ⟨⟨⟨hSw1, hSw2, hSw3, hSw4⟩, hSw5, hSw6, hSw7, hSw8⟩, hSw9⟩ := hSw; go_simp; try with_reducible rfl⟩) (by assumption) ?_
              (try simp only [Act.put, List.setIfInBounds_toArray, List.set_cons_zero, List.set_cons_succ])
              refine take_first 18 (v := ?_) rfl (by kernel_rfl) (by kernel_rfl) (by kernel_rfl) (fun _ _ _ h => h) (Or.inl ⟨by rfl, by intro wx hSw; (try dsimp only at hSw); obtain ⟨⟨⟨hSw1, hSw2, hSw3, hSw4⟩, hSw5, hSw6, hSw7, hSw8⟩, hSw9⟩ := hSw; go_simp; try with_reducible rfl⟩) (by assumption) ?_
              (try simp only [Act.put, List.setIfInBounds_toArray, List.set_cons_zero, List.set_cons_succ])
              refine take_first 19 (v := ?_) rfl (by kernel_rfl) (by kernel_rfl) (by kernel_rfl) (fun _ _ _ h => h) (Or.inl ⟨by rfl, by intro wx hSw; (try dsimp only at hSw); obtain ⟨⟨⟨hSw1, hSw2, hSw3, hSw4⟩, hSw5, hSw6, hSw7, hSw8⟩, hSw9⟩ := hSw; go_simp; try with_reducible rfl⟩) (by assumption) ?_
              (try simp only [Act.put, List.setIfInBounds_toArray, List.set_cons_zero, List.set_cons_succ])
              refine take_first 20 (v := ?_) rfl (by kernel_rfl) (by kernel_rfl) (by kernel_rfl) (fun _ _ _ h => h) (Or.inl ⟨by rfl, by intro wx hSw; (try dsimp only at hSw); obtain ⟨⟨⟨hSw1, hSw2, hSw3, hSw4⟩, hSw5, hSw6, hSw7, hSw8⟩, hSw9⟩ := hSw; go_simp; try with_reducible rfl⟩) (by assumption) ?_
              (try simp only [Act.put, List.setIfInBounds_toArray, List.set_cons_zero, List.set_cons_succ])
              refine take_first 21 (v := ?_) rfl (by kernel_rfl) (by kernel_rfl) (by kernel_rfl) (fun _ _ _ h => h) (Or.inl ⟨by rfl, by intro wx hSw; (try dsimp only at hSw); obtain ⟨⟨⟨hSw1, hSw2, hSw3, hSw4⟩, hSw5, hSw6, hSw7, hSw8⟩, hSw9⟩ := hSw; go_simp; try with_reducible rfl⟩) (by assumption) ?_
              (try simp only [Act.put, List.setIfInBounds_toArray, List.set_cons_zero, List.set_cons_succ])
              refine take_first 22 (v := ?_) rfl (by kernel_rfl) (by kernel_rfl) (by kernel_rfl) (fun _ _ _ h => h) (Or.inl ⟨by rfl, by intro wx hSw; (try dsimp only at hSw); obtain ⟨⟨⟨hSw1, hSw2, hSw3, hSw4⟩, hSw5, hSw6, hSw7, hSw8⟩, hSw9⟩ := hSw; go_simp; try with_reducible rfl⟩) (by assumption) ?_
              (try simp only [Act.put, List.setIfInBounds_toArray, List.set_cons_zero, List.set_cons_succ])
              refine take_first 23 (v := ?_) rfl (by kernel_rfl) (by kernel_rfl) (by kernel_rfl) (fun _ _ _ h => h) (Or.inl ⟨by rfl, by intro wx hSw; (try dsimp only at hSw); obtain ⟨⟨⟨hSw1, hSw2, hSw3, hSw4⟩, hSw5, hSw6, hSw7, hSw8⟩, hSw9⟩ := hSw; go_simp; try with_reducible rfl⟩) (by assumption) ?_
              (try simp only [Act.put, List.setIfInBounds_toArray, List.set_cons_zero, List.set_cons_succ])
              refine take_first 24 (v := ?_) rfl (by kernel_rfl) (by kernel_rfl) (by kernel_rfl) (fun _ _ _ h => h) (Or.inl ⟨by rfl, by intro wx hSw; (try dsimp only at hSw); obtain ⟨⟨⟨hSw1, hSw2, hSw3, hSw4⟩, hSw5, hSw6, hSw7, hSw8⟩, hSw9⟩ := hSw; go_simp; try with_reducible rfl⟩) (by assumption) ?_
              (try simp only [Act.put, List.setIfInBounds_toArray, List.set_cons_zero, List.set_cons_succ])
              refine take_first 25 (v := ?_) rfl (by kernel_rfl) (by kernel_rfl) (by kernel_rfl) (fun _ _ _ h => h) (Or.inl ⟨by rfl, by intro wx hSw; (try dsimp only at hSw); obtain ⟨⟨⟨hSw1, hSw2, hSw3, hSw4⟩, hSw5, hSw6, hSw7, hSw8⟩, hSw9⟩ := hSw; go_simp; try with_reducible rfl⟩) (by assumption) ?_
              (try simp only [Act.put, List.setIfInBounds_toArray, List.set_cons_zero, List.set_cons_succ])
              refine take_first 26 (v := ?_) rfl (by kernel_rfl) (by kernel_rfl) (by kernel_rfl) (fun _ _ _ h => h) (Or.inl ⟨by rfl, by intro wx hSw; (try dsimp only at hSw); obtain ⟨⟨⟨hSw1, hSw2, hSw3, hSw4⟩, hSw5, hSw6, hSw7, hSw8⟩, hSw9⟩ := hSw; go_simp; try with_reducible rfl⟩) (by assumption) ?_
              (try simp only [Act.put, List.setIfInBounds_toArray, List.set_cons_zero, List.set_cons_succ])
              refine take_first 27 (v := ?_) rfl (by kernel_rfl) (by kernel_rfl) (by kernel_rfl) (fun _ _ _ h => h) (Or.inl ⟨by rfl, by intro wx hSw; (try dsimp only at hSw); obtain ⟨⟨⟨hSw1, hSw2, hSw3, hSw4⟩, hSw5, hSw6, hSw7, hSw8⟩, hSw9⟩ := hSw; go_simp; try with_reducible rfl⟩) (by assumption) ?_
              (try simp only [Act.put, List.setIfInBounds_toArray, List.set_cons_zero, List.set_cons_succ])
              refine take_first 28 (v := ?_) rfl (by kernel_rfl) (by kernel_rfl) (by kernel_rfl) (fun _ _ _ h => h) (Or.inl ⟨by rfl, by intro wx hSw; (try dsimp only at hSw); obtain ⟨⟨⟨hSw1, hSw2, hSw3, hSw4⟩, hSw5, hSw6, hSw7, hSw8⟩, hSw9⟩ := hSw; go_simp; try with_reducible rfl⟩) (by assumption) ?_
              (try simp only [Act.put, List.setIfInBounds_toArray, List.set_cons_zero, List.set_cons_succ])
              refine take_first 29 (v := ?_) rfl (by kernel_rfl) (by kernel_rfl) (by kernel_rfl) (fun _ _ _ h => h) (Or.inl ⟨by rfl, by intro wx hSw; (try dsimp only at hSw); obtain ⟨⟨⟨hSw1, hSw2, hSw3, hSw4⟩, hSw5, hSw6, hSw7, hSw8⟩, hSw9⟩ := hSw; go_simp; try with_reducible rfl⟩) (by assumption) ?_
              (try simp only [Act.put, List.setIfInBounds_toArray, List.set_cons_zero, List.set_cons_succ])
              refine take_first 30 (v := ?_) rfl (by kernel_rfl) (by kernel_rfl) (by kernel_rfl) (fun _ _ _ h => h) (Or.inl ⟨by rfl, by intro wx hSw; (try dsimp only at hSw); obtain ⟨⟨⟨hSw1, hSw2, hSw3, hSw4⟩, hSw5, hSw6, hSw7, hSw8⟩, hSw9⟩ := hSw; go_simp; try with_reducible rfl⟩) (by assumption) ?_
              (try simp only [Act.put, List.setIfInBounds_toArray, List.set_cons_zero, List.set_cons_succ])
              refine take_first 31 (v := ?_) rfl (by kernel_rfl) (by kernel_rfl) (by kernel_rfl) (fun _ _ _ h => h) (Or.inl ⟨by rfl, by intro wx hSw; (try dsimp only at hSw); obtain ⟨⟨⟨hSw1, hSw2, hSw3, hSw4⟩, hSw5, hSw6, hSw7, hSw8⟩, hSw9⟩ := hSw; go_simp; try with_reducible rfl⟩) (by assumption) ?_
              (try simp only [Act.put, List.setIfInBounds_toArray, List.set_cons_zero, List.set_cons_succ])
              refine take_first 32 (v := ?_) rfl (by kernel_rfl) (by kernel_rfl) (by kernel_rfl) (fun _ _ _ h => h) (Or.inl ⟨by rfl, by intro wx hSw; (try dsimp only at hSw); obtain ⟨⟨⟨hSw1, hSw2, hSw3, hSw4⟩, hSw5, hSw6, hSw7, hSw8⟩, hSw9⟩ := hSw; go_simp; try with_reducible rfl⟩) (by assumption) ?_
              (try simp only [Act.put, List.setIfInBounds_toArray, List.set_cons_zero, List.set_cons_succ])
              refine take_first 33 (v := ?_) rfl (by kernel_rfl) (by kernel_rfl) (by kernel_rfl) (fun _ _ _ h => h) (Or.inl ⟨by rfl, by intro wx hSw; (try dsimp only at hSw); obtain ⟨⟨⟨hSw1, hSw2, hSw3, hSw4⟩, hSw5, hSw6, hSw7, hSw8⟩, hSw9⟩ := hSw; go_simp; try with_reducible rfl⟩) (by assumption) ?_
              (try simp only [Act.put, List.setIfInBounds_toArray, List.set_cons_zero, List.set_cons_succ])
              refine take_first 34 (v := ?_) rfl (by kernel_rfl) (by kernel_rfl) (by kernel_rfl) (fun _ _ _ h => h) (Or.inl ⟨by rfl, by intro wx hSw; (try dsimp only at hSw); obtain ⟨⟨⟨hSw1, hSw2, hSw3, hSw4⟩, hSw5, hSw6, hSw7, hSw8⟩, hSw9⟩ := hSw; go_simp; try with_reducible rfl⟩) (by assumption) ?_
              (try simp only [Act.put, List.setIfInBounds_toArray, List.set_cons_zero, List.set_cons_succ])
              refine comes_up 35 rfl (by kernel_rfl) (fun K hK => ?_)
              go_simp
              refine (items_same p q _ _ _ _ _ _ _ D E hHeld.2.1 hHeld.2.2).mono ?_
              rw [hii]
              rintro e' w1 ⟨rfl, hup⟩
              have two1 : TwoT b1 (o1 + k * 4) b2 (o2 + k * 4) x y w1 ∧ ItsX p w1 x.2.2.2.1 x.2.2.2.2.1 D ∧ ItsX q w1 y.2.2.2.1 y.2.2.2.2.1 E := ⟨hHeld.1.up hup, hHeld.2.1.keep (Kp.up hup.bl), hHeld.2.2.keep (Kp.up hup.bl)⟩
              have hu1 := hud.trans hup
              clear two hHeld hup hud
              go_wp2_with fail
              refine hK.out _ _ two1 (fun hHeld => ?_)
              clear hK K
              (try simp only [Act.put, List.setIfInBounds_toArray, List.set_cons_zero, List.set_cons_succ])
              refine take_first 36 (v := ?_) rfl (by kernel_rfl) (by kernel_rfl) (by kernel_rfl) (fun _ _ _ h => h) (Or.inl ⟨by rfl, by intro wx hSw; (try dsimp only at hSw); obtain ⟨⟨⟨hSw1, hSw2, hSw3, hSw4⟩, hSw5, hSw6, hSw7, hSw8⟩, hSw9⟩ := hSw; go_simp; try with_reducible rfl⟩) (by assumption) ?_
              (try simp only [Act.put, List.setIfInBounds_toArray, List.set_cons_zero, List.set_cons_succ])
              refine take_first 37 (v := ?_) rfl (by kernel_rfl) (by kernel_rfl) (by kernel_rfl) (fun _ _ _ h => h) (Or.inl ⟨by rfl, by intro wx hSw; (try dsimp only at hSw); obtain ⟨⟨⟨hSw1, hSw2, hSw3, hSw4⟩, hSw5, hSw6, hSw7, hSw8⟩, hSw9⟩ := hSw; go_simp; try with_reducible rfl⟩) (by assumption) ?_
              (try simp only [Act.put, List.setIfInBounds_toArray, List.set_cons_zero, List.set_cons_succ])
              refine wpAnyH_done (by kernel_rfl) ?_ _
              refine NoPanic.normal ?_
              clear two1 hHeld heq
              go_wp2
              go_roundw
              case rel => first | exact ⟨k + 1, by omega, by go_num, hu1, HTN.out⟩ | ((repeat apply Exists.intro); exact ⟨⟨k + 1, by omega, by go_num, hu1, HTN.out⟩, rfl⟩)
              case measure => simp [intOf]; omega
            · obtain rfl : r = false := HNE.out (fun h => hi (by obtain ⟨z1, z2⟩ := HDD.out; rw [← z1, ← z2, h]))
              have hii : decide (D = E) = false := decide_eq_false hi
              clear HTE HNE HDE HV hi HDD HR
              go_wp2_with fail
              refine wp_region_noPanic ?_
              refine wp_region_held_drew (S := fun wx => TwoT b1 (o1 + k * 4) b2 (o2 + k * 4) x y wx ∧ ItsX p wx x.2.2.2.1 x.2.2.2.2.1 D ∧ ItsX q wx y.2.2.2.1 y.2.2.2.2.1 E) (by kernel_rfl) two (fun hHeld => ?_)
              refine take_first 0 (v := ?_) rfl (by kernel_rfl) (by kernel_rfl) (by kernel_rfl) (fun _ _ _ h => h) (Or.inl ⟨by rfl, by intro wx hSw; (try dsimp only at hSw); obtain ⟨⟨⟨hSw1, hSw2, hSw3, hSw4⟩, hSw5, hSw6, hSw7, hSw8⟩, hSw9⟩ := hSw; go_simp; try with_reducible rfl⟩) (by assumption) ?_
              (try simp only [Act.put, List.setIfInBounds_toArray, List.set_cons_zero, List.set_cons_succ])
              refine take_first 1 (v := ?_) rfl (by kernel_rfl) (by kernel_rfl) (by kernel_rfl) (fun _ _ _ h => h) (Or.inl ⟨by rfl, by intro wx hSw; (try dsimp only at hSw); obtain ⟨⟨⟨hSw1, hSw2, hSw3, hSw4⟩, hSw5, hSw6, hSw7, hSw8⟩, hSw9⟩ := hSw; go_simp; try with_reducible rfl⟩) (by assumption) ?_
              (try simp only [Act.put, List.setIfInBounds_toArray, List.set_cons_zero, List.set_cons_succ])
              refine take_first 2 (v := ?_) rfl (by kernel_rfl) (by kernel_rfl) (by kernel_rfl) (fun _ _ _ h => h) (Or.inl ⟨by rfl, by intro wx hSw; (try dsimp only at hSw); obtain ⟨⟨⟨hSw1, hSw2, hSw3, hSw4⟩, hSw5, hSw6, hSw7, hSw8⟩, hSw9⟩ := hSw; go_simp; try with_reducible rfl⟩) (by assumption) ?_
              (try simp only [Act.put, List.setIfInBounds_toArray, List.set_cons_zero, List.set_cons_succ])
              refine take_first 3 (v := ?_) rfl (by kernel_rfl) (by kernel_rfl) (by kernel_rfl) (fun _ _ _ h => h) (Or.inl ⟨by rfl, by intro wx hSw; (try dsimp only at hSw); obtain ⟨⟨⟨hSw1, hSw2, hSw3, hSw4⟩, hSw5, hSw6, hSw7, hSw8⟩, hSw9⟩ := hSw; go_simp; try with_reducible rfl⟩) (by assumption) ?_
              (try simp only [Act.put, List.setIfInBounds_toArray, List.set_cons_zero, List.set_cons_succ])
              refine take_first 4 (v := ?_) rfl (by kernel_rfl) (by kernel_rfl) (by kernel_rfl) (fun _ _ _ h => h) (Or.inl ⟨by rfl, by intro wx hSw; (try dsimp only at hSw); obtain ⟨⟨⟨hSw1, hSw2, hSw3, hSw4⟩, hSw5, hSw6, hSw7, hSw8⟩, hSw9⟩ := hSw; go_simp; try with_reducible rfl⟩) (by assumption) ?_
              (try simp only [Act.put, List.setIfInBounds_toArray, List.set_cons_zero, List.set_cons_succ])
              refine take_first 5 (v := ?_) rfl (by kernel_rfl) (by kernel_rfl) (by kernel_rfl) (fun _ _ _ h => h) (Or.inl ⟨by rfl, by intro wx hSw; (try dsimp only at hSw); obtain ⟨⟨⟨hSw1, hSw2, hSw3, hSw4⟩, hSw5, hSw6, hSw7, hSw8⟩, hSw9⟩ := hSw; go_simp; try with_reducible rfl⟩) (by assumption) ?_
              (try simp only [Act.put, List.setIfInBounds_toArray, List.set_cons_zero, List.set_cons_succ])
              refine take_first 6 (v := ?_) rfl (by kernel_rfl) (by kernel_rfl) (by kernel_rfl) (fun _ _ _ h => h) (Or.inl ⟨by rfl, by intro wx hSw; (try dsimp only at hSw); obtain ⟨⟨⟨hSw1, hSw2, hSw3, hSw4⟩, hSw5, hSw6, hSw7, hSw8⟩, hSw9⟩ := hSw; go_simp; try with_reducible rfl⟩) (by assumption) ?_
              (try simp only [Act.put, List.setIfInBounds_toArray, List.set_cons_zero, List.set_cons_succ])
              refine take_first 7 (v := ?_) rfl (by kernel_rfl) (by kernel_rfl) (by kernel_rfl) (fun _ _ _ h => h) (Or.inl ⟨by rfl, by intro wx hSw; (try dsimp only at hSw); obtain ⟨⟨⟨hSw1, hSw2, hSw3, hSw4⟩, hSw5, hSw6, hSw7, hSw8⟩, hSw9⟩ := hSw; go_simp; try with_reducible rfl⟩) (by assumption) ?_
              (try simp only [Act.put, List.setIfInBounds_toArray, List.set_cons_zero, List.set_cons_succ])
              refine take_first 8 (v := ?_) rfl (by kernel_rfl) (by kernel_rfl) (by kernel_rfl) (fun _ _ _ h => h) (Or.inl ⟨by rfl, by intro wx hSw; (try dsimp only at hSw); obtain ⟨⟨⟨hSw1, hSw2, hSw3, hSw4⟩, hSw5, hSw6, hSw7, hSw8⟩, hSw9⟩ := hSw; go_simp; try with_reducible rfl⟩) (by assumption) ?_
              (try simp only [Act.put, List.setIfInBounds_toArray, List.set_cons_zero, List.set_cons_succ])
              refine take_first 9 (v := ?_) rfl (by kernel_rfl) (by kernel_rfl) (by kernel_rfl) (fun _ _ _ h => h) (Or.inl ⟨by rfl, by intro wx hSw; (try dsimp only at hSw); obtain ⟨⟨⟨hSw1, hSw2, hSw3, hSw4⟩, hSw5, hSw6, hSw7, hSw8⟩, hSw9⟩ := hSw; go_simp; try with_reducible rfl⟩) (by assumption) ?_
              (try simp only [Act.put, List.setIfInBounds_toArray, List.set_cons_zero, List.set_cons_succ])
              refine take_first 10 (v := ?_) rfl (by kernel_rfl) (by kernel_rfl) (by kernel_rfl) (fun _ _ _ h => h) (Or.inl ⟨by rfl, by intro wx hSw; (try dsimp only at hSw); obtain ⟨⟨⟨hSw1, hSw2, hSw3, hSw4⟩, hSw5, hSw6, hSw7, hSw8⟩, hSw9⟩ := hSw; go_simp; try with_reducible rfl⟩) (by assumption) ?_
              (try simp only [Act.put, List.setIfInBounds_toArray, List.set_cons_zero, List.set_cons_succ])
              refine take_first 11 (v := ?_) rfl (by kernel_rfl) (by kernel_rfl) (by kernel_rfl) (fun _ _ _ h => h) (Or.inl ⟨by rfl, by intro wx hSw; (try dsimp only at hSw); obtain ⟨⟨⟨hSw1, hSw2, hSw3, hSw4⟩, hSw5, hSw6, hSw7, hSw8⟩, hSw9⟩ := hSw; go_simp; try with_reducible rfl⟩) (by assumption) ?_
              (try simp only [Act.put, List.setIfInBounds_toArray, List.set_cons_zero, List.set_cons_succ])
              refine take_first 12 (v := ?_) rfl (by kernel_rfl) (by kernel_rfl) (by kernel_rfl) (fun _ _ _ h => h) (Or.inl ⟨by rfl, by intro wx hSw; (try dsimp only at hSw); obtain ⟨⟨⟨hSw1, hSw2, hSw3, hSw4⟩, hSw5, hSw6, hSw7, hSw8⟩, hSw9⟩ := hSw; go_simp; try with_reducible rfl⟩) (by assumption) ?_
              (try simp only [Act.put, List.setIfInBounds_toArray, List.set_cons_zero, List.set_cons_succ])
              refine take_first 13 (v := ?_) rfl (by kernel_rfl) (by kernel_rfl) (by kernel_rfl) (fun _ _ _ h => h) (Or.inl ⟨by rfl, by intro wx hSw; (try dsimp only at hSw); obtain ⟨⟨⟨hSw1, hSw2, hSw3, hSw4⟩, hSw5, hSw6, hSw7, hSw8⟩, hSw9⟩ := hSw; go_simp; try with_reducible rfl⟩) (by assumption) ?_
              (try simp only [Act.put, List.setIfInBounds_toArray, List.set_cons_zero, List.set_cons_succ])
              refine take_first 14 (v := ?_) rfl (by kernel_rfl) (by kernel_rfl) (by kernel_rfl) (fun _ _ _ h => h) (Or.inl ⟨by rfl, by intro wx hSw; (try dsimp only at hSw); obtain ⟨⟨⟨hSw1, hSw2, hSw3, hSw4⟩, hSw5, hSw6, hSw7, hSw8⟩, hSw9⟩ := hSw; go_simp; try with_reducible rfl⟩) (by assumption) ?_
              (try simp only [Act.put, List.setIfInBounds_toArray, List.set_cons_zero, List.set_cons_succ])
              refine take_first 15 (v := ?_) rfl (by kernel_rfl) (by kernel_rfl) (by kernel_rfl) (fun _ _ _ h => h) (Or.inl ⟨by rfl, by intro wx hSw; (try dsimp only at hSw); obtain ⟨⟨⟨hSw1, hSw2, hSw3, hSw4⟩, hSw5, hSw6, hSw7, hSw8⟩, hSw9⟩ := hSw; go_simp; try with_reducible rfl⟩) (by assumption) ?_
              (try simp only [Act.put, List.setIfInBounds_toArray, List.set_cons_zero, List.set_cons_succ])
              refine take_first 16 (v := ?_) rfl (by kernel_rfl) (by kernel_rfl) (by kernel_rfl) (fun _ _ _ h => h) (Or.inl ⟨by rfl, by intro wx hSw; (try dsimp only at hSw); obtain ⟨⟨⟨hSw1, hSw2, hSw3, hSw4⟩, hSw5, hSw6, hSw7, hSw8⟩, hSw9⟩ := hSw; go_simp; try with_reducible rfl⟩) (by assumption) ?_
              (try simp only [Act.put, List.setIfInBounds_toArray, List.set_cons_zero, List.set_cons_succ])
              refine take_first 17 (v := ?_) rfl (by kernel_rfl) (by kernel_rfl) (by kernel_rfl) (fun _ _ _ h => h) (Or.inl ⟨by rfl, by intro wx hSw; (try dsimp only at hSw); obtain ⟨⟨⟨hSw1, hSw2, hSw3, hSw4⟩, hSw5, hSw6, hSw7, hSw8⟩, hSw9⟩ := hSw; go_simp; try with_reducible rfl⟩) (by assumption) ?_
              (try simp only [Act.put, List.setIfInBounds_toArray, List.set_cons_zero, List.set_cons_succ])
              refine take_first 18 (v := ?_) rfl (by kernel_rfl) (by kernel_rfl) (by kernel_rfl) (fun _ _ _ h => h) (Or.inl ⟨by rfl, by intro wx hSw; (try dsimp only at hSw); obtain ⟨⟨⟨hSw1, hSw2, hSw3, hSw4⟩, hSw5, hSw6, hSw7, hSw8⟩, hSw9⟩ := hSw; go_simp; try with_reducible rfl⟩) (by assumption) ?_
              (try simp only [Act.put, List.setIfInBounds_toArray, List.set_cons_zero, List.set_cons_succ])
              refine take_first 19 (v := ?_) rfl (by kernel_rfl) (by kernel_rfl) (by kernel_rfl) (fun _ _ _ h => h) (Or.inl ⟨by rfl, by intro wx hSw; (try dsimp only at hSw); obtain ⟨⟨⟨hSw1, hSw2, hSw3, hSw4⟩, hSw5, hSw6, hSw7, hSw8⟩, hSw9⟩ := hSw; go_simp; try with_reducible rfl⟩) (by assumption) ?_
              (try simp only [Act.put, List.setIfInBounds_toArray, List.set_cons_zero, List.set_cons_succ])
              refine take_first 20 (v := ?_) rfl (by kernel_rfl) (by kernel_rfl) (by kernel_rfl) (fun _ _ _ h => h) (Or.inl ⟨by rfl, by intro wx hSw; (try dsimp only at hSw); obtain ⟨⟨⟨hSw1, hSw2, hSw3, hSw4⟩, hSw5, hSw6, hSw7, hSw8⟩, hSw9⟩ := hSw; go_simp; try with_reducible rfl⟩) (by assumption) ?_
              (try simp only [Act.put, List.setIfInBounds_toArray, List.set_cons_zero, List.set_cons_succ])
              refine take_first 21 (v := ?_) rfl (by kernel_rfl) (by kernel_rfl) (by kernel_rfl) (fun _ _ _ h => h) (Or.inl ⟨by rfl, by intro wx hSw; (try dsimp only at hSw); obtain ⟨⟨⟨hSw1, hSw2, hSw3, hSw4⟩, hSw5, hSw6, hSw7, hSw8⟩, hSw9⟩ := hSw; go_simp; try with_reducible rfl⟩) (by assumption) ?_
              (try simp only [Act.put, List.setIfInBounds_toArray, List.set_cons_zero, List.set_cons_succ])
              refine take_first 22 (v := ?_) rfl (by kernel_rfl) (by kernel_rfl) (by kernel_rfl) (fun _ _ _ h => h) (Or.inl ⟨by rfl, by intro wx hSw; (try dsimp only at hSw); obtain ⟨⟨⟨hSw1, hSw2, hSw3, hSw4⟩, hSw5, hSw6, hSw7, hSw8⟩, hSw9⟩ := hSw; go_simp; try with_reducible rfl⟩) (by assumption) ?_
              (try simp only [Act.put, List.setIfInBounds_toArray, List.set_cons_zero, List.set_cons_succ])
              refine take_first 23 (v := ?_) rfl (by kernel_rfl) (by kernel_rfl) (by kernel_rfl) (fun _ _ _ h => h) (Or.inl ⟨by rfl, by intro wx hSw; (try dsimp only at hSw); obtain ⟨⟨⟨hSw1, hSw2, hSw3, hSw4⟩, hSw5, hSw6, hSw7, hSw8⟩, hSw9⟩ := hSw; go_simp; try with_reducible rfl⟩) (by assumption) ?_
              (try simp only [Act.put, List.setIfInBounds_toArray, List.set_cons_zero, List.set_cons_succ])
              refine take_first 24 (v := ?_) rfl (by kernel_rfl) (by kernel_rfl) (by kernel_rfl) (fun _ _ _ h => h) (Or.inl ⟨by rfl, by intro wx hSw; (try dsimp only at hSw); obtain ⟨⟨⟨hSw1, hSw2, hSw3, hSw4⟩, hSw5, hSw6, hSw7, hSw8⟩, hSw9⟩ := hSw; go_simp; try with_reducible rfl⟩) (by assumption) ?_
              (try simp only [Act.put, List.setIfInBounds_toArray, List.set_cons_zero, List.set_cons_succ])
              refine take_first 25 (v := ?_) rfl (by kernel_rfl) (by kernel_rfl) (by kernel_rfl) (fun _ _ _ h => h) (Or.inl ⟨by rfl, by intro wx hSw; (try dsimp only at hSw); obtain ⟨⟨⟨hSw1, hSw2, hSw3, hSw4⟩, hSw5, hSw6, hSw7, hSw8⟩, hSw9⟩ := hSw; go_simp; try with_reducible rfl⟩) (by assumption) ?_
              (try simp only [Act.put, List.setIfInBounds_toArray, List.set_cons_zero, List.set_cons_succ])
              refine take_first 26 (v := ?_) rfl (by kernel_rfl) (by kernel_rfl) (by kernel_rfl) (fun _ _ _ h => h) (Or.inl ⟨by rfl, by intro wx hSw; (try dsimp only at hSw); obtain ⟨⟨⟨hSw1, hSw2, hSw3, hSw4⟩, hSw5, hSw6, hSw7, hSw8⟩, hSw9⟩ := hSw; go_simp; try with_reducible rfl⟩) (by assumption) ?_
              (try simp only [Act.put, List.setIfInBounds_toArray, List.set_cons_zero, List.set_cons_succ])
              refine take_first 27 (v := ?_) rfl (by kernel_rfl) (by kernel_rfl) (by kernel_rfl) (fun _ _ _ h => h) (Or.inl ⟨by rfl, by intro wx hSw; (try dsimp only at hSw); obtain ⟨⟨⟨hSw1, hSw2, hSw3, hSw4⟩, hSw5, hSw6, hSw7, hSw8⟩, hSw9⟩ := hSw; go_simp; try with_reducible rfl⟩) (by assumption) ?_
              (try simp only [Act.put, List.setIfInBounds_toArray, List.set_cons_zero, List.set_cons_succ])
              refine take_first 28 (v := ?_) rfl (by kernel_rfl) (by kernel_rfl) (by kernel_rfl) (fun _ _ _ h => h) (Or.inl ⟨by rfl, by intro wx hSw; (try dsimp only at hSw); obtain ⟨⟨⟨hSw1, hSw2, hSw3, hSw4⟩, hSw5, hSw6, hSw7, hSw8⟩, hSw9⟩ := hSw; go_simp; try with_reducible rfl⟩) (by assumption) ?_
              (try simp only [Act.put, List.setIfInBounds_toArray, List.set_cons_zero, List.set_cons_succ])
              refine take_first 29 (v := ?_) rfl (by kernel_rfl) (by kernel_rfl) (by kernel_rfl) (fun _ _ _ h => h) (Or.inl ⟨by rfl, by intro wx hSw; (try dsimp only at hSw); obtain ⟨⟨⟨hSw1, hSw2, hSw3, hSw4⟩, hSw5, hSw6, hSw7, hSw8⟩, hSw9⟩ := hSw; go_simp; try with_reducible rfl⟩) (by assumption) ?_
              (try simp only [Act.put, List.setIfInBounds_toArray, List.set_cons_zero, List.set_cons_succ])
              refine take_first 30 (v := ?_) rfl (by kernel_rfl) (by kernel_rfl) (by kernel_rfl) (fun _ _ _ h => h) (Or.inl ⟨by rfl, by intro wx hSw; (try dsimp only at hSw); obtain ⟨⟨⟨hSw1, hSw2, hSw3, hSw4⟩, hSw5, hSw6, hSw7, hSw8⟩, hSw9⟩ := hSw; go_simp; try with_reducible rfl⟩) (by assumption) ?_
              (try simp only [Act.put, List.setIfInBounds_toArray, List.set_cons_zero, List.set_cons_succ])
              refine take_first 31 (v := ?_) rfl (by kernel_rfl) (by kernel_rfl) (by kernel_rfl) (fun _ _ _ h => h) (Or.inl ⟨by rfl, by intro wx hSw; (try dsimp only at hSw); obtain ⟨⟨⟨hSw1, hSw2, hSw3, hSw4⟩, hSw5, hSw6, hSw7, hSw8⟩, hSw9⟩ := hSw; go_simp; try with_reducible rfl⟩) (by assumption) ?_
              (try simp only [Act.put, List.setIfInBounds_toArray, List.set_cons_zero, List.set_cons_succ])
              refine take_first 32 (v := ?_) rfl (by kernel_rfl) (by kernel_rfl) (by kernel_rfl) (fun _ _ _ h => h) (Or.inl ⟨by rfl, by intro wx hSw; (try dsimp only at hSw); obtain ⟨⟨⟨hSw1, hSw2, hSw3, hSw4⟩, hSw5, hSw6, hSw7, hSw8⟩, hSw9⟩ := hSw; go_simp; try with_reducible rfl⟩) (by assumption) ?_
              (try simp only [Act.put, List.setIfInBounds_toArray, List.set_cons_zero, List.set_cons_succ])
              refine take_first 33 (v := ?_) rfl (by kernel_rfl) (by kernel_rfl) (by kernel_rfl) (fun _ _ _ h => h) (Or.inl ⟨by rfl, by intro wx hSw; (try dsimp only at hSw); obtain ⟨⟨⟨hSw1, hSw2, hSw3, hSw4⟩, hSw5, hSw6, hSw7, hSw8⟩, hSw9⟩ := hSw; go_simp; try with_reducible rfl⟩) (by assumption) ?_
              (try simp only [Act.put, List.setIfInBounds_toArray, List.set_cons_zero, List.set_cons_succ])
              refine take_first 34 (v := ?_) rfl (by kernel_rfl) (by kernel_rfl) (by kernel_rfl) (fun _ _ _ h => h) (Or.inl ⟨by rfl, by intro wx hSw; (try dsimp only at hSw); obtain ⟨⟨⟨hSw1, hSw2, hSw3, hSw4⟩, hSw5, hSw6, hSw7, hSw8⟩, hSw9⟩ := hSw; go_simp; try with_reducible rfl⟩) (by assumption) ?_
              (try simp only [Act.put, List.setIfInBounds_toArray, List.set_cons_zero, List.set_cons_succ])
              refine comes_up 35 rfl (by kernel_rfl) (fun K hK => ?_)
              go_simp
              refine (items_same p q _ _ _ _ _ _ _ D E hHeld.2.1 hHeld.2.2).mono ?_
              rw [hii]
              rintro e' w1 ⟨rfl, hup⟩
              have two1 : TwoT b1 (o1 + k * 4) b2 (o2 + k * 4) x y w1 ∧ ItsX p w1 x.2.2.2.1 x.2.2.2.2.1 D ∧ ItsX q w1 y.2.2.2.1 y.2.2.2.2.1 E := ⟨hHeld.1.up hup, hHeld.2.1.keep (Kp.up hup.bl), hHeld.2.2.keep (Kp.up hup.bl)⟩
              have hu1 := hud.trans hup
              clear two hHeld hup hud
              go_wp2_with fail
              refine hK.out _ _ two1 (fun hHeld => ?_)
              clear hK K
              (try simp only [Act.put, List.setIfInBounds_toArray, List.set_cons_zero, List.set_cons_succ])
              refine take_first 36 (v := ?_) rfl (by kernel_rfl) (by kernel_rfl) (by kernel_rfl) (fun _ _ _ h => h) (Or.inl ⟨by rfl, by intro wx hSw; (try dsimp only at hSw); obtain ⟨⟨⟨hSw1, hSw2, hSw3, hSw4⟩, hSw5, hSw6, hSw7, hSw8⟩, hSw9⟩ := hSw; go_simp; try with_reducible rfl⟩) (by assumption) ?_
              (try simp only [Act.put, List.setIfInBounds_toArray, List.set_cons_zero, List.set_cons_succ])
              refine take_first 37 (v := ?_) rfl (by kernel_rfl) (by kernel_rfl) (by kernel_rfl) (fun _ _ _ h => h) (Or.inl ⟨by rfl, by intro wx hSw; (try dsimp only at hSw); obtain ⟨⟨⟨hSw1, hSw2, hSw3, hSw4⟩, hSw5, hSw6, hSw7, hSw8⟩, hSw9⟩ := hSw; go_simp; try with_reducible rfl⟩) (by assumption) ?_
              (try simp only [Act.put, List.setIfInBounds_toArray, List.set_cons_zero, List.set_cons_succ])
              refine wpAnyH_done (by kernel_rfl) ?_ _
              refine NoPanic.normal ?_
              clear two1 hHeld heq
              go_wp2
              go_ret
              exact ⟨rfl, hu1⟩
          · obtain rfl : r = false := HNE.out (fun h => hf (by obtain ⟨g1, g2, g3, g4, g5, g6⟩ := HDE.out; rw [g3, g6, h]))
            have hfe : (x.2.2.1 == y.2.2.1) = false := by simpa using hf
            have hfn : (x.2.2.1 != y.2.2.1) = true := by simpa using hf
            clear HTE HNE HDE HDD HR hv hf
            go_wp2_with fail
            refine wp_region_noPanic ?_
            refine wp_region_held_drew (S := fun wx => TwoT b1 (o1 + k * 4) b2 (o2 + k * 4) x y wx ∧ ItsX p wx x.2.2.2.1 x.2.2.2.2.1 D ∧ ItsX q wx y.2.2.2.1 y.2.2.2.2.1 E) (by kernel_rfl) two (fun hHeld => ?_)
            refine take_first 0 (v := ?_) rfl (by kernel_rfl) (by kernel_rfl) (by kernel_rfl) (fun _ _ _ h => h) (Or.inl ⟨by rfl, by intro wx hSw; (try dsimp only at hSw); obtain ⟨⟨⟨hSw1, hSw2, hSw3, hSw4⟩, hSw5, hSw6, hSw7, hSw8⟩, hSw9⟩ := hSw; go_simp; try with_reducible rfl⟩) (by assumption) ?_
            (try simp only [Act.put, List.setIfInBounds_toArray, List.set_cons_zero, List.set_cons_succ])
            refine take_first 1 (v := ?_) rfl (by kernel_rfl) (by kernel_rfl) (by kernel_rfl) (fun _ _ _ h => h) (Or.inl ⟨by rfl, by intro wx hSw; (try dsimp only at hSw); obtain ⟨⟨⟨hSw1, hSw2, hSw3, hSw4⟩, hSw5, hSw6, hSw7, hSw8⟩, hSw9⟩ := hSw; go_simp; try with_reducible rfl⟩) (by assumption) ?_
            (try simp only [Act.put, List.setIfInBounds_toArray, List.set_cons_zero, List.set_cons_succ])
            refine take_first 2 (v := ?_) rfl (by kernel_rfl) (by kernel_rfl) (by kernel_rfl) (fun _ _ _ h => h) (Or.inl ⟨by rfl, by intro wx hSw; (try dsimp only at hSw); obtain ⟨⟨⟨hSw1, hSw2, hSw3, hSw4⟩, hSw5, hSw6, hSw7, hSw8⟩, hSw9⟩ := hSw; go_simp; try with_reducible rfl⟩) (by assumption) ?_
            (try simp only [Act.put, List.setIfInBounds_toArray, List.set_cons_zero, List.set_cons_succ])
            refine take_first 3 (v := ?_) rfl (by kernel_rfl) (by kernel_rfl) (by kernel_rfl) (fun _ _ _ h => h) (Or.inl ⟨by rfl, by intro wx hSw; (try dsimp only at hSw); obtain ⟨⟨⟨hSw1, hSw2, hSw3, hSw4⟩, hSw5, hSw6, hSw7, hSw8⟩, hSw9⟩ := hSw; go_simp; try with_reducible rfl⟩) (by assumption) ?_
            (try simp only [Act.put, List.setIfInBounds_toArray, List.set_cons_zero, List.set_cons_succ])
            refine take_first 4 (v := ?_) rfl (by kernel_rfl) (by kernel_rfl) (by kernel_rfl) (fun _ _ _ h => h) (Or.inl ⟨by rfl, by intro wx hSw; (try dsimp only at hSw); obtain ⟨⟨⟨hSw1, hSw2, hSw3, hSw4⟩, hSw5, hSw6, hSw7, hSw8⟩, hSw9⟩ := hSw; go_simp; try with_reducible rfl⟩) (by assumption) ?_
            (try simp only [Act.put, List.setIfInBounds_toArray, List.set_cons_zero, List.set_cons_succ])
            refine take_first 5 (v := ?_) rfl (by kernel_rfl) (by kernel_rfl) (by kernel_rfl) (fun _ _ _ h => h) (Or.inl ⟨by rfl, by intro wx hSw; (try dsimp only at hSw); obtain ⟨⟨⟨hSw1, hSw2, hSw3, hSw4⟩, hSw5, hSw6, hSw7, hSw8⟩, hSw9⟩ := hSw; go_simp; try with_reducible rfl⟩) (by assumption) ?_
            (try simp only [Act.put, List.setIfInBounds_toArray, List.set_cons_zero, List.set_cons_succ])
            refine take_first 6 (v := ?_) rfl (by kernel_rfl) (by kernel_rfl) (by kernel_rfl) (fun _ _ _ h => h) (Or.inl ⟨by rfl, by intro wx hSw; (try dsimp only at hSw); obtain ⟨⟨⟨hSw1, hSw2, hSw3, hSw4⟩, hSw5, hSw6, hSw7, hSw8⟩, hSw9⟩ := hSw; go_simp; try with_reducible rfl⟩) (by assumption) ?_
            (try simp only [Act.put, List.setIfInBounds_toArray, List.set_cons_zero, List.set_cons_succ])
            refine take_first 7 (v := ?_) rfl (by kernel_rfl) (by kernel_rfl) (by kernel_rfl) (fun _ _ _ h => h) (Or.inl ⟨by rfl, by intro wx hSw; (try dsimp only at hSw); obtain ⟨⟨⟨hSw1, hSw2, hSw3, hSw4⟩, hSw5, hSw6, hSw7, hSw8⟩, hSw9⟩ := hSw; go_simp; try with_reducible rfl⟩) (by assumption) ?_
            (try simp only [Act.put, List.setIfInBounds_toArray, List.set_cons_zero, List.set_cons_succ])
            refine take_first 8 (v := ?_) rfl (by kernel_rfl) (by kernel_rfl) (by kernel_rfl) (fun _ _ _ h => h) (Or.inl ⟨by rfl, by intro wx hSw; (try dsimp only at hSw); obtain ⟨⟨⟨hSw1, hSw2, hSw3, hSw4⟩, hSw5, hSw6, hSw7, hSw8⟩, hSw9⟩ := hSw; go_simp; try with_reducible rfl⟩) (by assumption) ?_
            (try simp only [Act.put, List.setIfInBounds_toArray, List.set_cons_zero, List.set_cons_succ])
            refine take_first 9 (v := ?_) rfl (by kernel_rfl) (by kernel_rfl) (by kernel_rfl) (fun _ _ _ h => h) (Or.inl ⟨by rfl, by intro wx hSw; (try dsimp only at hSw); obtain ⟨⟨⟨hSw1, hSw2, hSw3, hSw4⟩, hSw5, hSw6, hSw7, hSw8⟩, hSw9⟩ := hSw; go_simp; try with_reducible rfl⟩) (by assumption) ?_
            (try simp only [Act.put, List.setIfInBounds_toArray, List.set_cons_zero, List.set_cons_succ])
            refine take_first 10 (v := ?_) rfl (by kernel_rfl) (by kernel_rfl) (by kernel_rfl) (fun _ _ _ h => h) (Or.inl ⟨by rfl, by intro wx hSw; (try dsimp only at hSw); obtain ⟨⟨⟨hSw1, hSw2, hSw3, hSw4⟩, hSw5, hSw6, hSw7, hSw8⟩, hSw9⟩ := hSw; go_simp; try with_reducible rfl⟩) (by assumption) ?_
            (try simp only [Act.put, List.setIfInBounds_toArray, List.set_cons_zero, List.set_cons_succ])
            refine take_first 11 (v := ?_) rfl (by kernel_rfl) (by kernel_rfl) (by kernel_rfl) (fun _ _ _ h => h) (Or.inl ⟨by rfl, by intro wx hSw; (try dsimp only at hSw); obtain ⟨⟨⟨hSw1, hSw2, hSw3, hSw4⟩, hSw5, hSw6, hSw7, hSw8⟩, hSw9⟩ := hSw; go_simp; try with_reducible rfl⟩) (by assumption) ?_
            (try simp only [Act.put, List.setIfInBounds_toArray, List.set_cons_zero, List.set_cons_succ])
            refine take_first 12 (v := ?_) rfl (by kernel_rfl) (by kernel_rfl) (by kernel_rfl) (fun _ _ _ h => h) (Or.inl ⟨by rfl, by intro wx hSw; (try dsimp only at hSw); obtain ⟨⟨⟨hSw1, hSw2, hSw3, hSw4⟩, hSw5, hSw6, hSw7, hSw8⟩, hSw9⟩ := hSw; go_simp; try with_reducible rfl⟩) (by assumption) ?_
            (try simp only [Act.put, List.setIfInBounds_toArray, List.set_cons_zero, List.set_cons_succ])
            refine take_first 13 (v := ?_) rfl (by kernel_rfl) (by kernel_rfl) (by kernel_rfl) (fun _ _ _ h => h) (Or.inl ⟨by rfl, by intro wx hSw; (try dsimp only at hSw); obtain ⟨⟨⟨hSw1, hSw2, hSw3, hSw4⟩, hSw5, hSw6, hSw7, hSw8⟩, hSw9⟩ := hSw; go_simp; try with_reducible rfl⟩) (by assumption) ?_
            (try simp only [Act.put, List.setIfInBounds_toArray, List.set_cons_zero, List.set_cons_succ])
            refine take_first 14 (v := ?_) rfl (by kernel_rfl) (by kernel_rfl) (by kernel_rfl) (fun _ _ _ h => h) (Or.inl ⟨by rfl, by intro wx hSw; (try dsimp only at hSw); obtain ⟨⟨⟨hSw1, hSw2, hSw3, hSw4⟩, hSw5, hSw6, hSw7, hSw8⟩, hSw9⟩ := hSw; go_simp; try with_reducible rfl⟩) (by assumption) ?_
            (try simp only [Act.put, List.setIfInBounds_toArray, List.set_cons_zero, List.set_cons_succ])
            refine take_first 15 (v := ?_) rfl (by kernel_rfl) (by kernel_rfl) (by kernel_rfl) (fun _ _ _ h => h) (Or.inl ⟨by rfl, by intro wx hSw; (try dsimp only at hSw); obtain ⟨⟨⟨hSw1, hSw2, hSw3, hSw4⟩, hSw5, hSw6, hSw7, hSw8⟩, hSw9⟩ := hSw; go_simp; try with_reducible rfl⟩) (by assumption) ?_
            (try simp only [Act.put, List.setIfInBounds_toArray, List.set_cons_zero, List.set_cons_succ])
            refine take_first 16 (v := ?_) rfl (by kernel_rfl) (by kernel_rfl) (by kernel_rfl) (fun _ _ _ h => h) (Or.inl ⟨by rfl, by intro wx hSw; (try dsimp only at hSw); obtain ⟨⟨⟨hSw1, hSw2, hSw3, hSw4⟩, hSw5, hSw6, hSw7, hSw8⟩, hSw9⟩ := hSw; go_simp; try with_reducible rfl⟩) (by assumption) ?_
            (try simp only [Act.put, List.setIfInBounds_toArray, List.set_cons_zero, List.set_cons_succ])
            refine take_first 17 (v := ?_) rfl (by kernel_rfl) (by kernel_rfl) (by kernel_rfl) (fun _ _ _ h => h) (Or.inl ⟨by rfl, by intro wx hSw; (try dsimp only at hSw); obtain ⟨⟨⟨hSw1, hSw2, hSw3, hSw4⟩, hSw5, hSw6, hSw7, hSw8⟩, hSw9⟩ := hSw; go_simp; try with_reducible rfl⟩) (by assumption) ?_
            (try simp only [Act.put, List.setIfInBounds_toArray, List.set_cons_zero, List.set_cons_succ])
            refine take_first 18 (v := ?_) rfl (by kernel_rfl) (by kernel_rfl) (by kernel_rfl) (fun _ _ _ h => h) (Or.inl ⟨by rfl, by intro wx hSw; (try dsimp only at hSw); obtain ⟨⟨⟨hSw1, hSw2, hSw3, hSw4⟩, hSw5, hSw6, hSw7, hSw8⟩, hSw9⟩ := hSw; go_simp; try with_reducible rfl⟩) (by assumption) ?_
            (try simp only [Act.put, List.setIfInBounds_toArray, List.set_cons_zero, List.set_cons_succ])
            refine take_first 19 (v := ?_) rfl (by kernel_rfl) (by kernel_rfl) (by kernel_rfl) (fun _ _ _ h => h) (Or.inl ⟨by rfl, by intro wx hSw; (try dsimp only at hSw); obtain ⟨⟨⟨hSw1, hSw2, hSw3, hSw4⟩, hSw5, hSw6, hSw7, hSw8⟩, hSw9⟩ := hSw; go_simp; try with_reducible rfl⟩) (by assumption) ?_
            (try simp only [Act.put, List.setIfInBounds_toArray, List.set_cons_zero, List.set_cons_succ])
            refine take_first 20 (v := ?_) rfl (by kernel_rfl) (by kernel_rfl) (by kernel_rfl) (fun _ _ _ h => h) (Or.inl ⟨by rfl, by intro wx hSw; (try dsimp only at hSw); obtain ⟨⟨⟨hSw1, hSw2, hSw3, hSw4⟩, hSw5, hSw6, hSw7, hSw8⟩, hSw9⟩ := hSw; go_simp; try with_reducible rfl⟩) (by assumption) ?_
            (try simp only [Act.put, List.setIfInBounds_toArray, List.set_cons_zero, List.set_cons_succ])
            refine take_first 21 (v := ?_) rfl (by kernel_rfl) (by kernel_rfl) (by kernel_rfl) (fun _ _ _ h => h) (Or.inl ⟨by rfl, by intro wx hSw; (try dsimp only at hSw); obtain ⟨⟨⟨hSw1, hSw2, hSw3, hSw4⟩, hSw5, hSw6, hSw7, hSw8⟩, hSw9⟩ := hSw; go_simp; try with_reducible rfl⟩) (by assumption) ?_
            (try simp only [Act.put, List.setIfInBounds_toArray, List.set_cons_zero, List.set_cons_succ])
            refine take_first 22 (v := ?_) rfl (by kernel_rfl) (by kernel_rfl) (by kernel_rfl) (fun _ _ _ h => h) (Or.inl ⟨by rfl, by intro wx hSw; (try dsimp only at hSw); obtain ⟨⟨⟨hSw1, hSw2, hSw3, hSw4⟩, hSw5, hSw6, hSw7, hSw8⟩, hSw9⟩ := hSw; go_simp; try with_reducible rfl⟩) (by assumption) ?_
            (try simp only [Act.put, List.setIfInBounds_toArray, List.set_cons_zero, List.set_cons_succ])
            refine take_first 23 (v := ?_) rfl (by kernel_rfl) (by kernel_rfl) (by kernel_rfl) (fun _ _ _ h => h) (Or.inl ⟨by rfl, by intro wx hSw; (try dsimp only at hSw); obtain ⟨⟨⟨hSw1, hSw2, hSw3, hSw4⟩, hSw5, hSw6, hSw7, hSw8⟩, hSw9⟩ := hSw; go_simp; try with_reducible rfl⟩) (by assumption) ?_
            (try simp only [Act.put, List.setIfInBounds_toArray, List.set_cons_zero, List.set_cons_succ])
            refine take_first 24 (v := ?_) rfl (by kernel_rfl) (by kernel_rfl) (by kernel_rfl) (fun _ _ _ h => h) (Or.inl ⟨by rfl, by intro wx hSw; (try dsimp only at hSw); obtain ⟨⟨⟨hSw1, hSw2, hSw3, hSw4⟩, hSw5, hSw6, hSw7, hSw8⟩, hSw9⟩ := hSw; go_simp; try with_reducible rfl⟩) (by assumption) ?_
            (try simp only [Act.put, List.setIfInBounds_toArray, List.set_cons_zero, List.set_cons_succ])
            refine take_first 25 (v := undef) rfl (by kernel_rfl) (by kernel_rfl) (by kernel_rfl) (fun _ _ _ h => h) (Or.inr ⟨by rfl, rfl⟩) (by assumption) ?_
            (try simp only [Act.put, List.setIfInBounds_toArray, List.set_cons_zero, List.set_cons_succ])
            refine take_first 26 (v := undef) rfl (by kernel_rfl) (by kernel_rfl) (by kernel_rfl) (fun _ _ _ h => h) (Or.inr ⟨by rfl, rfl⟩) (by assumption) ?_
            (try simp only [Act.put, List.setIfInBounds_toArray, List.set_cons_zero, List.set_cons_succ])
            refine take_first 27 (v := undef) rfl (by kernel_rfl) (by kernel_rfl) (by kernel_rfl) (fun _ _ _ h => h) (Or.inr ⟨by rfl, rfl⟩) (by assumption) ?_
            (try simp only [Act.put, List.setIfInBounds_toArray, List.set_cons_zero, List.set_cons_succ])
            refine take_first 28 (v := undef) rfl (by kernel_rfl) (by kernel_rfl) (by kernel_rfl) (fun _ _ _ h => h) (Or.inr ⟨by rfl, rfl⟩) (by assumption) ?_
            (try simp only [Act.put, List.setIfInBounds_toArray, List.set_cons_zero, List.set_cons_succ])
            refine take_first 29 (v := undef) rfl (by kernel_rfl) (by kernel_rfl) (by kernel_rfl) (fun _ _ _ h => h) (Or.inr ⟨by rfl, rfl⟩) (by assumption) ?_
            (try simp only [Act.put, List.setIfInBounds_toArray, List.set_cons_zero, List.set_cons_succ])
            refine take_first 30 (v := undef) rfl (by kernel_rfl) (by kernel_rfl) (by kernel_rfl) (fun _ _ _ h => h) (Or.inr ⟨by rfl, rfl⟩) (by assumption) ?_
            (try simp only [Act.put, List.setIfInBounds_toArray, List.set_cons_zero, List.set_cons_succ])
            refine take_first 31 (v := undef) rfl (by kernel_rfl) (by kernel_rfl) (by kernel_rfl) (fun _ _ _ h => h) (Or.inr ⟨by rfl, rfl⟩) (by assumption) ?_
            (try simp only [Act.put, List.setIfInBounds_toArray, List.set_cons_zero, List.set_cons_succ])
            refine take_first 32 (v := undef) rfl (by kernel_rfl) (by kernel_rfl) (by kernel_rfl) (fun _ _ _ h => h) (Or.inr ⟨by rfl, rfl⟩) (by assumption) ?_
            (try simp only [Act.put, List.setIfInBounds_toArray, List.set_cons_zero, List.set_cons_succ])
            refine take_first 33 (v := undef) rfl (by kernel_rfl) (by kernel_rfl) (by kernel_rfl) (fun _ _ _ h => h) (Or.inr ⟨by rfl, rfl⟩) (by assumption) ?_
            (try simp only [Act.put, List.setIfInBounds_toArray, List.set_cons_zero, List.set_cons_succ])
            refine take_first 34 (v := undef) rfl (by kernel_rfl) (by kernel_rfl) (by kernel_rfl) (fun _ _ _ h => h) (Or.inr ⟨by rfl, rfl⟩) (by assumption) ?_
            (try simp only [Act.put, List.setIfInBounds_toArray, List.set_cons_zero, List.set_cons_succ])
            refine take_first 35 (v := undef) rfl (by kernel_rfl) (by kernel_rfl) (by kernel_rfl) (fun _ _ _ h => h) (Or.inr ⟨by rfl, rfl⟩) (by assumption) ?_
            (try simp only [Act.put, List.setIfInBounds_toArray, List.set_cons_zero, List.set_cons_succ])
            refine take_first 36 (v := undef) rfl (by kernel_rfl) (by kernel_rfl) (by kernel_rfl) (fun _ _ _ h => h) (Or.inr ⟨by rfl, rfl⟩) (by assumption) ?_
            (try simp only [Act.put, List.setIfInBounds_toArray, List.set_cons_zero, List.set_cons_succ])
            refine take_first 37 (v := ?_) rfl (by kernel_rfl) (by kernel_rfl) (by kernel_rfl) (fun _ _ _ h => h) (Or.inl ⟨by rfl, by intro wx hSw; (try dsimp only at hSw); obtain ⟨⟨⟨hSw1, hSw2, hSw3, hSw4⟩, hSw5, hSw6, hSw7, hSw8⟩, hSw9⟩ := hSw; go_simp; try with_reducible rfl⟩) (by assumption) ?_
            (try simp only [Act.put, List.setIfInBounds_toArray, List.set_cons_zero, List.set_cons_succ])
            refine wpAnyH_done (by kernel_rfl) ?_ _
            refine NoPanic.normal ?_
            clear two hHeld heq
            go_wp2
            go_ret
            exact ⟨rfl, hud⟩
        · rw [decide_eq_false hv] at heq
          obtain rfl : r = false := HNE.out (fun h => hv (by obtain ⟨g1, g2, g3, g4, g5, g6⟩ := HDE.out; rw [g1, g4, g2, g5, h]; exact ⟨rfl, rfl⟩))
          clear HTE HNE HDE HDD HR hv
          go_wp2_with fail
          refine wp_region_noPanic ?_
          refine wp_region_held_drew (S := fun wx => TwoT b1 (o1 + k * 4) b2 (o2 + k * 4) x y wx ∧ ItsX p wx x.2.2.2.1 x.2.2.2.2.1 D ∧ ItsX q wx y.2.2.2.1 y.2.2.2.2.1 E) (by kernel_rfl) two (fun hHeld => ?_)
          refine take_first 0 (v := ?_) rfl (by kernel_rfl) (by kernel_rfl) (by kernel_rfl) (fun _ _ _ h => h) (Or.inl ⟨by rfl, by intro wx hSw; (try dsimp only at hSw); obtain ⟨⟨⟨hSw1, hSw2, hSw3, hSw4⟩, hSw5, hSw6, hSw7, hSw8⟩, hSw9⟩ := hSw; go_simp; try with_reducible rfl⟩) (by assumption) ?_
          (try simp only [Act.put, List.setIfInBounds_toArray, List.set_cons_zero, List.set_cons_succ])
          refine take_first 1 (v := ?_) rfl (by kernel_rfl) (by kernel_rfl) (by kernel_rfl) (fun _ _ _ h => h) (Or.inl ⟨by rfl, by intro wx hSw; (try dsimp only at hSw); obtain ⟨⟨⟨hSw1, hSw2, hSw3, hSw4⟩, hSw5, hSw6, hSw7, hSw8⟩, hSw9⟩ := hSw; go_simp; try with_reducible rfl⟩) (by assumption) ?_
          (try simp only [Act.put, List.setIfInBounds_toArray, List.set_cons_zero, List.set_cons_succ])
          refine take_first 2 (v := ?_) rfl (by kernel_rfl) (by kernel_rfl) (by kernel_rfl) (fun _ _ _ h => h) (Or.inl ⟨by rfl, by intro wx hSw; (try dsimp only at hSw); obtain ⟨⟨⟨hSw1, hSw2, hSw3, hSw4⟩, hSw5, hSw6, hSw7, hSw8⟩, hSw9⟩ := hSw; go_simp; try with_reducible rfl⟩) (by assumption) ?_
          (try simp only [Act.put, List.setIfInBounds_toArray, List.set_cons_zero, List.set_cons_succ])
          refine take_first 3 (v := ?_) rfl (by kernel_rfl) (by kernel_rfl) (by kernel_rfl) (fun _ _ _ h => h) (Or.inl ⟨by rfl, by intro wx hSw; (try dsimp only at hSw); obtain ⟨⟨⟨hSw1, hSw2, hSw3, hSw4⟩, hSw5, hSw6, hSw7, hSw8⟩, hSw9⟩ := hSw; go_simp; try with_reducible rfl⟩) (by assumption) ?_
          (try simp only [Act.put, List.setIfInBounds_toArray, List.set_cons_zero, List.set_cons_succ])
          refine take_first 4 (v := ?_) rfl (by kernel_rfl) (by kernel_rfl) (by kernel_rfl) (fun _ _ _ h => h) (Or.inl ⟨by rfl, by intro wx hSw; (try dsimp only at hSw); obtain ⟨⟨⟨hSw1, hSw2, hSw3, hSw4⟩, hSw5, hSw6, hSw7, hSw8⟩, hSw9⟩ := hSw; go_simp; try with_reducible rfl⟩) (by assumption) ?_
          (try simp only [Act.put, List.setIfInBounds_toArray, List.set_cons_zero, List.set_cons_succ])
          refine take_first 5 (v := ?_) rfl (by kernel_rfl) (by kernel_rfl) (by kernel_rfl) (fun _ _ _ h => h) (Or.inl ⟨by rfl, by intro wx hSw; (try dsimp only at hSw); obtain ⟨⟨⟨hSw1, hSw2, hSw3, hSw4⟩, hSw5, hSw6, hSw7, hSw8⟩, hSw9⟩ := hSw; go_simp; try with_reducible rfl⟩) (by assumption) ?_
          (try simp only [Act.put, List.setIfInBounds_toArray, List.set_cons_zero, List.set_cons_succ])
          refine take_first 6 (v := ?_) rfl (by kernel_rfl) (by kernel_rfl) (by kernel_rfl) (fun _ _ _ h => h) (Or.inl ⟨by rfl, by intro wx hSw; (try dsimp only at hSw); obtain ⟨⟨⟨hSw1, hSw2, hSw3, hSw4⟩, hSw5, hSw6, hSw7, hSw8⟩, hSw9⟩ := hSw; go_simp; try with_reducible rfl⟩) (by assumption) ?_
          (try simp only [Act.put, List.setIfInBounds_toArray, List.set_cons_zero, List.set_cons_succ])
          refine take_first 7 (v := ?_) rfl (by kernel_rfl) (by kernel_rfl) (by kernel_rfl) (fun _ _ _ h => h) (Or.inl ⟨by rfl, by intro wx hSw; (try dsimp only at hSw); obtain ⟨⟨⟨hSw1, hSw2, hSw3, hSw4⟩, hSw5, hSw6, hSw7, hSw8⟩, hSw9⟩ := hSw; go_simp; try with_reducible rfl⟩) (by assumption) ?_
          (try simp only [Act.put, List.setIfInBounds_toArray, List.set_cons_zero, List.set_cons_succ])
          refine take_first 8 (v := ?_) rfl (by kernel_rfl) (by kernel_rfl) (by kernel_rfl) (fun _ _ _ h => h) (Or.inl ⟨by rfl, by intro wx hSw; (try dsimp only at hSw); obtain ⟨⟨⟨hSw1, hSw2, hSw3, hSw4⟩, hSw5, hSw6, hSw7, hSw8⟩, hSw9⟩ := hSw; go_simp; try with_reducible rfl⟩) (by assumption) ?_
          (try simp only [Act.put, List.setIfInBounds_toArray, List.set_cons_zero, List.set_cons_succ])
          refine take_first 9 (v := ?_) rfl (by kernel_rfl) (by kernel_rfl) (by kernel_rfl) (fun _ _ _ h => h) (Or.inl ⟨by rfl, by intro wx hSw; (try dsimp only at hSw); obtain ⟨⟨⟨hSw1, hSw2, hSw3, hSw4⟩, hSw5, hSw6, hSw7, hSw8⟩, hSw9⟩ := hSw; go_simp; try with_reducible rfl⟩) (by assumption) ?_
          (try simp only [Act.put, List.setIfInBounds_toArray, List.set_cons_zero, List.set_cons_succ])
          refine take_first 10 (v := ?_) rfl (by kernel_rfl) (by kernel_rfl) (by kernel_rfl) (fun _ _ _ h => h) (Or.inl ⟨by rfl, by intro wx hSw; (try dsimp only at hSw); obtain ⟨⟨⟨hSw1, hSw2, hSw3, hSw4⟩, hSw5, hSw6, hSw7, hSw8⟩, hSw9⟩ := hSw; go_simp; try with_reducible rfl⟩) (by assumption) ?_
          (try simp only [Act.put, List.setIfInBounds_toArray, List.set_cons_zero, List.set_cons_succ])
          refine take_first 11 (v := ?_) rfl (by kernel_rfl) (by kernel_rfl) (by kernel_rfl) (fun _ _ _ h => h) (Or.inl ⟨by rfl, by intro wx hSw; (try dsimp only at hSw); obtain ⟨⟨⟨hSw1, hSw2, hSw3, hSw4⟩, hSw5, hSw6, hSw7, hSw8⟩, hSw9⟩ := hSw; go_simp; try with_reducible rfl⟩) (by assumption) ?_
          (try simp only [Act.put, List.setIfInBounds_toArray, List.set_cons_zero, List.set_cons_succ])
          refine take_first 12 (v := undef) rfl (by kernel_rfl) (by kernel_rfl) (by kernel_rfl) (fun _ _ _ h => h) (Or.inr ⟨by rfl, rfl⟩) (by assumption) ?_
          (try simp only [Act.put, List.setIfInBounds_toArray, List.set_cons_zero, List.set_cons_succ])
          refine take_first 13 (v := undef) rfl (by kernel_rfl) (by kernel_rfl) (by kernel_rfl) (fun _ _ _ h => h) (Or.inr ⟨by rfl, rfl⟩) (by assumption) ?_
          (try simp only [Act.put, List.setIfInBounds_toArray, List.set_cons_zero, List.set_cons_succ])
          refine take_first 14 (v := undef) rfl (by kernel_rfl) (by kernel_rfl) (by kernel_rfl) (fun _ _ _ h => h) (Or.inr ⟨by rfl, rfl⟩) (by assumption) ?_
          (try simp only [Act.put, List.setIfInBounds_toArray, List.set_cons_zero, List.set_cons_succ])
          refine take_first 15 (v := undef) rfl (by kernel_rfl) (by kernel_rfl) (by kernel_rfl) (fun _ _ _ h => h) (Or.inr ⟨by rfl, rfl⟩) (by assumption) ?_
          (try simp only [Act.put, List.setIfInBounds_toArray, List.set_cons_zero, List.set_cons_succ])
          refine take_first 16 (v := undef) rfl (by kernel_rfl) (by kernel_rfl) (by kernel_rfl) (fun _ _ _ h => h) (Or.inr ⟨by rfl, rfl⟩) (by assumption) ?_
          (try simp only [Act.put, List.setIfInBounds_toArray, List.set_cons_zero, List.set_cons_succ])
          refine take_first 17 (v := undef) rfl (by kernel_rfl) (by kernel_rfl) (by kernel_rfl) (fun _ _ _ h => h) (Or.inr ⟨by rfl, rfl⟩) (by assumption) ?_
          (try simp only [Act.put, List.setIfInBounds_toArray, List.set_cons_zero, List.set_cons_succ])
          refine take_first 18 (v := undef) rfl (by kernel_rfl) (by kernel_rfl) (by kernel_rfl) (fun _ _ _ h => h) (Or.inr ⟨by rfl, rfl⟩) (by assumption) ?_
          (try simp only [Act.put, List.setIfInBounds_toArray, List.set_cons_zero, List.set_cons_succ])
          refine take_first 19 (v := undef) rfl (by kernel_rfl) (by kernel_rfl) (by kernel_rfl) (fun _ _ _ h => h) (Or.inr ⟨by rfl, rfl⟩) (by assumption) ?_
          (try simp only [Act.put, List.setIfInBounds_toArray, List.set_cons_zero, List.set_cons_succ])
          refine take_first 20 (v := undef) rfl (by kernel_rfl) (by kernel_rfl) (by kernel_rfl) (fun _ _ _ h => h) (Or.inr ⟨by rfl, rfl⟩) (by assumption) ?_
          (try simp only [Act.put, List.setIfInBounds_toArray, List.set_cons_zero, List.set_cons_succ])
          refine take_first 21 (v := undef) rfl (by kernel_rfl) (by kernel_rfl) (by kernel_rfl) (fun _ _ _ h => h) (Or.inr ⟨by rfl, rfl⟩) (by assumption) ?_
          (try simp only [Act.put, List.setIfInBounds_toArray, List.set_cons_zero, List.set_cons_succ])
          refine take_first 22 (v := undef) rfl (by kernel_rfl) (by kernel_rfl) (by kernel_rfl) (fun _ _ _ h => h) (Or.inr ⟨by rfl, rfl⟩) (by assumption) ?_
          (try simp only [Act.put, List.setIfInBounds_toArray, List.set_cons_zero, List.set_cons_succ])
          refine take_first 23 (v := ?_) rfl (by kernel_rfl) (by kernel_rfl) (by kernel_rfl) (fun _ _ _ h => h) (Or.inl ⟨by rfl, by intro wx hSw; (try dsimp only at hSw); obtain ⟨⟨⟨hSw1, hSw2, hSw3, hSw4⟩, hSw5, hSw6, hSw7, hSw8⟩, hSw9⟩ := hSw; go_simp; try with_reducible rfl⟩) (by assumption) ?_
          (try simp only [Act.put, List.setIfInBounds_toArray, List.set_cons_zero, List.set_cons_succ])
          refine take_first 24 (v := ?_) rfl (by kernel_rfl) (by kernel_rfl) (by kernel_rfl) (fun _ _ _ h => h) (Or.inl ⟨by rfl, by intro wx hSw; (try dsimp only at hSw); obtain ⟨⟨⟨hSw1, hSw2, hSw3, hSw4⟩, hSw5, hSw6, hSw7, hSw8⟩, hSw9⟩ := hSw; go_simp; try with_reducible rfl⟩) (by assumption) ?_
          (try simp only [Act.put, List.setIfInBounds_toArray, List.set_cons_zero, List.set_cons_succ])
          refine take_first 25 (v := undef) rfl (by kernel_rfl) (by kernel_rfl) (by kernel_rfl) (fun _ _ _ h => h) (Or.inr ⟨by rfl, rfl⟩) (by assumption) ?_
          (try simp only [Act.put, List.setIfInBounds_toArray, List.set_cons_zero, List.set_cons_succ])
          refine take_first 26 (v := undef) rfl (by kernel_rfl) (by kernel_rfl) (by kernel_rfl) (fun _ _ _ h => h) (Or.inr ⟨by rfl, rfl⟩) (by assumption) ?_
          (try simp only [Act.put, List.setIfInBounds_toArray, List.set_cons_zero, List.set_cons_succ])
          refine take_first 27 (v := undef) rfl (by kernel_rfl) (by kernel_rfl) (by kernel_rfl) (fun _ _ _ h => h) (Or.inr ⟨by rfl, rfl⟩) (by assumption) ?_
          (try simp only [Act.put, List.setIfInBounds_toArray, List.set_cons_zero, List.set_cons_succ])
          refine take_first 28 (v := undef) rfl (by kernel_rfl) (by kernel_rfl) (by kernel_rfl) (fun _ _ _ h => h) (Or.inr ⟨by rfl, rfl⟩) (by assumption) ?_
          (try simp only [Act.put, List.setIfInBounds_toArray, List.set_cons_zero, List.set_cons_succ])
          refine take_first 29 (v := undef) rfl (by kernel_rfl) (by kernel_rfl) (by kernel_rfl) (fun _ _ _ h => h) (Or.inr ⟨by rfl, rfl⟩) (by assumption) ?_
          (try simp only [Act.put, List.setIfInBounds_toArray, List.set_cons_zero, List.set_cons_succ])
          refine take_first 30 (v := undef) rfl (by kernel_rfl) (by kernel_rfl) (by kernel_rfl) (fun _ _ _ h => h) (Or.inr ⟨by rfl, rfl⟩) (by assumption) ?_
          (try simp only [Act.put, List.setIfInBounds_toArray, List.set_cons_zero, List.set_cons_succ])
          refine take_first 31 (v := undef) rfl (by kernel_rfl) (by kernel_rfl) (by kernel_rfl) (fun _ _ _ h => h) (Or.inr ⟨by rfl, rfl⟩) (by assumption) ?_
          (try simp only [Act.put, List.setIfInBounds_toArray, List.set_cons_zero, List.set_cons_succ])
          refine take_first 32 (v := undef) rfl (by kernel_rfl) (by kernel_rfl) (by kernel_rfl) (fun _ _ _ h => h) (Or.inr ⟨by rfl, rfl⟩) (by assumption) ?_
          (try simp only [Act.put, List.setIfInBounds_toArray, List.set_cons_zero, List.set_cons_succ])
          refine take_first 33 (v := undef) rfl (by kernel_rfl) (by kernel_rfl) (by kernel_rfl) (fun _ _ _ h => h) (Or.inr ⟨by rfl, rfl⟩) (by assumption) ?_
          (try simp only [Act.put, List.setIfInBounds_toArray, List.set_cons_zero, List.set_cons_succ])
          refine take_first 34 (v := undef) rfl (by kernel_rfl) (by kernel_rfl) (by kernel_rfl) (fun _ _ _ h => h) (Or.inr ⟨by rfl, rfl⟩) (by assumption) ?_
          (try simp only [Act.put, List.setIfInBounds_toArray, List.set_cons_zero, List.set_cons_succ])
          refine take_first 35 (v := undef) rfl (by kernel_rfl) (by kernel_rfl) (by kernel_rfl) (fun _ _ _ h => h) (Or.inr ⟨by rfl, rfl⟩) (by assumption) ?_
          (try simp only [Act.put, List.setIfInBounds_toArray, List.set_cons_zero, List.set_cons_succ])
          refine take_first 36 (v := undef) rfl (by kernel_rfl) (by kernel_rfl) (by kernel_rfl) (fun _ _ _ h => h) (Or.inr ⟨by rfl, rfl⟩) (by assumption) ?_
          (try simp only [Act.put, List.setIfInBounds_toArray, List.set_cons_zero, List.set_cons_succ])
          refine take_first 37 (v := ?_) rfl (by kernel_rfl) (by kernel_rfl) (by kernel_rfl) (fun _ _ _ h => h) (Or.inl ⟨by rfl, by intro wx hSw; (try dsimp only at hSw); obtain ⟨⟨⟨hSw1, hSw2, hSw3, hSw4⟩, hSw5, hSw6, hSw7, hSw8⟩, hSw9⟩ := hSw; go_simp; try with_reducible rfl⟩) (by assumption) ?_
          (try simp only [Act.put, List.setIfInBounds_toArray, List.set_cons_zero, List.set_cons_succ])
          refine wpAnyH_done (by kernel_rfl) ?_ _
          refine NoPanic.normal ?_
          clear two hHeld heq
          go_wp2
          go_ret
          exact ⟨rfl, hud⟩
      · obtain rfl : k = n := by omega
        obtain rfl : r = true := by
          rw [← HR.out]
          have := HTK.out
          rw [List.take_of_length_le (by omega), List.take_of_length_le (by omega)] at this
          exact eqB_true this
        clear HX HY
        go_wp2
        go_ret
        exact ⟨rfl, hu⟩
  · obtain rfl : r = false := by
      rw [← HR.out]
      refine eqB_false (fun heq => hnm ?_)
      rw [heq] at hd
      omega
    have hne : ((n : Int) != (m : Int)) = true := by simp; omega
    have hne2 : ((n : Int) == (m : Int)) = false := by simp; omega
    clear hI hJ hit hjt HR
    go_enter Try.func35, Try.ntmps35
    go_wp2
    go_ret
    exact ⟨rfl, Up.refl _⟩
end Go.Proofs.Ytfemjbaadnjanaa
