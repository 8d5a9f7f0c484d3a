/-
  The document's Items, of any two lists.
-/
import Derived.Test.YtfemjbaadnjanaaFSame
import Derived.Test.YtfemjbaadnjanaaCdAll
namespace Go.Proofs.Ytfemjbaadnjanaa
open Go.RowKit Go.Sort
set_option linter.unusedVariables false
set_option linter.unusedSimpArgs false

theorem str_ne {a b : List UInt8} (h : a ≠ b) : ((str a).toList == (str b).toList) = false := by
  have := Cd.str_beq a b
  rw [decide_eq_false h] at this
  exact this

/-- Two items. -/
def TwoJ (b1 o1 b2 o2 : Nat) (x y : Ix) (s t : ByteArray) (wx : World) : Prop :=
  (wx.cell? ⟨b1, o1, none⟩ = some (.int .i64 x.1) ∧ wx.cell? ⟨b1, o1 + 1, none⟩ = some (.slice x.2.1 x.2.2.1 x.2.2.2) ∧ (convert 33 9 (.slice x.2.1 x.2.2.1 x.2.2.2)).run Try.prog wx = .ok (.string s) wx) ∧
  (wx.cell? ⟨b2, o2, none⟩ = some (.int .i64 y.1) ∧ wx.cell? ⟨b2, o2 + 1, none⟩ = some (.slice y.2.1 y.2.2.1 y.2.2.2) ∧ (convert 33 9 (.slice y.2.1 y.2.2.1 y.2.2.2)).run Try.prog wx = .ok (.string t) wx)
theorem take_eq {α : Type} {l m : List α} {k : Nat} {x : α} (h : l.take k = m.take k) (hx : l[k]? = some x) (hy : m[k]? = some x) : l.take (k + 1) = m.take (k + 1) := by
  rw [List.take_add_one, List.take_add_one, h, hx, hy]

set_option maxRecDepth 10000 in
set_option maxHeartbeats 4000000 in
theorem items_same (p q : Nat → Prop) (w : World) (ao bo : Option Addr) (n m c1 c2 : Nat) (ds es : List Di) (h : ItsX p w ao n ds) (h' : ItsX q w bo m es) :
    Calls Try.prog 36 #[.slice ao n c1, .slice bo m c2] w fun e w' => e = .returned (.bool (decide (ds = es))) ∧ Up w w' := by
  obtain ⟨xs, hI, hd, hit⟩ := h
  obtain ⟨ys, hJ, hd', hjt⟩ := h'
  have hxl := hI.1
  have hyl := hJ.1
  have hm := hI.2.1
  obtain ⟨r, HR⟩ : ∃ r, Hid (decide (ds = es) = r) := ⟨_, rfl⟩
  rw [HR.out]
  by_cases hnm : n = m
  · subst hnm
    have HX : Hid (IR p w ao n xs ∧ (∀ (j : Nat) (x : Ix) (d : Di), xs[j]? = some x → ds[j]? = some d → ItX p w x d)) := ⟨hI, hit⟩
    have HY : Hid (IR q w bo n ys ∧ (∀ (j : Nat) (x : Ix) (d : Di), ys[j]? = some x → es[j]? = some d → ItX q w x d)) := ⟨hJ, hjt⟩
    clear hI hit hJ hjt
    go_enter Try.func36, Try.ntmps36
    go_wp2_with fail
    go_loopw [5] (fun iv wr => ∃ k : Nat, k ≤ n ∧ iv = .int .i64 k ∧ Up w wr ∧ ds.take k = es.take k) (fun iv _ => n - (intOf iv).toNat)
    case atStart => exact ⟨0, by omega, rfl, Up.refl _, rfl⟩
    case round =>
      obtain ⟨k, hk, rfl, hu, htk⟩ := hrel
      have HTK : Hid (ds.take k = es.take k) := htk
      clear htk
      by_cases hlt : k < n
      · have hltI : (k : Int) < (n : Int) := by omega
        obtain ⟨x, hx⟩ : ∃ x, xs[k]? = some x := ⟨xs[k]'(by omega), List.getElem?_eq_getElem (by omega)⟩
        obtain ⟨y, hy⟩ : ∃ y, ys[k]? = some y := ⟨ys[k]'(by omega), List.getElem?_eq_getElem (by omega)⟩
        obtain ⟨d, hdk⟩ : ∃ d, ds[k]? = some d := ⟨ds[k]'(by omega), List.getElem?_eq_getElem (by omega)⟩
        obtain ⟨e, hek⟩ : ∃ e, es[k]? = some e := ⟨es[k]'(by omega), List.getElem?_eq_getElem (by omega)⟩
        have hud : Below w.heap.size w wr.drew := hu.drew.bl
        obtain ⟨b1, o1, e1, _, hc1⟩ := (HX.out.1.keep (Kp.up hud)).2.2.2 (by omega)
        obtain ⟨b2, o2, e2, _, hc2⟩ := (HY.out.1.keep (Kp.up hud)).2.2.2 (by omega)
        have i1 : ItX p wr.drew x d := ⟨(HX.out.2 k x d hx hdk).1, (HX.out.2 k x d hx hdk).2.keep (Kp.up hud)⟩
        have i2 : ItX q wr.drew y e := ⟨(HY.out.2 k y e hy hek).1, (HY.out.2 k y e hy hek).2.keep (Kp.up hud)⟩
        have two : TwoJ b1 (o1 + k * 2) b2 (o2 + k * 2) x y (str d.2) (str e.2) wr.drew := ⟨⟨(hc1 k x hx).1, (hc1 k x hx).2, conv_rw i1.2.1⟩, (hc2 k y hy).1, (hc2 k y hy).2, conv_rw i2.2.1⟩
        have HNE : Hid (d ≠ e → r = false) := by
          intro hne
          rw [← HR.out]
          refine decide_eq_false (fun heq => hne ?_)
          rw [heq, hek] at hdk
          exact (Option.some.inj hdk).symm
        have HTE : Hid (d = e → ds.take (k + 1) = es.take (k + 1)) := by
          rintro rfl
          exact take_eq HTK.out hdk hek
        have HDE : Hid (x.1 = d.1 ∧ y.1 = e.1) := ⟨i1.1, i2.1⟩
        subst e1 e2
        clear hx hy hdk hek hc1 hc2 i1 i2 HX HY hud HTK
        have hk0 : ¬ ((k : Int) < 0) := by omega
        by_cases hf : x.1 = y.1
        · by_cases hs : d.2 = e.2
          · have hde : d = e := by obtain ⟨g1, g2⟩ := HDE.out; exact Prod.ext (by omega) hs
            have HTN : Hid (ds.take (k + 1) = es.take (k + 1)) := HTE.out hde
            rw [← hs] at two
            have two2 : TwoI b1 (o1 + k * 2) b2 (o2 + k * 2) x y (str d.2) wr.drew := ⟨two.1, by rw [hf]; exact two.2⟩
            generalize str d.2 = s at two2
            clear two hs hf hde HTE HNE HDE
            go_wp2_with fail
            refine wp_region_noPanic ?_
            refine wp_region_held_drew (S := fun wx => TwoI b1 (o1 + k * 2) b2 (o2 + k * 2) x y s wx) (by kernel_rfl) two2 (fun hHeld => ?_)
            refine take_first 0 (v := ?_) rfl (by kernel_rfl) (by kernel_rfl) (by kernel_rfl) (fun _ _ _ h => h) (Or.inl ⟨by rfl, by intro wx hSw; (try dsimp only at hSw); obtain ⟨⟨hSw1, hSw2, hSw3⟩, hSw4, hSw5, hSw6⟩ := hSw; go_simp; try with_reducible rfl⟩) (by assumption) ?_
            (try simp only [Act.put, List.setIfInBounds_toArray, List.set_cons_zero, List.set_cons_succ])
            refine take_first 1 (v := ?_) rfl (by kernel_rfl) (by kernel_rfl) (by kernel_rfl) (fun _ _ _ h => h) (Or.inl ⟨by rfl, by intro wx hSw; (try dsimp only at hSw); obtain ⟨⟨hSw1, hSw2, hSw3⟩, hSw4, hSw5, hSw6⟩ := hSw; go_simp; try with_reducible rfl⟩) (by assumption) ?_
            (try simp only [Act.put, List.setIfInBounds_toArray, List.set_cons_zero, List.set_cons_succ])
            refine take_first 2 (v := ?_) rfl (by kernel_rfl) (by kernel_rfl) (by kernel_rfl) (fun _ _ _ h => h) (Or.inl ⟨by rfl, by intro wx hSw; (try dsimp only at hSw); obtain ⟨⟨hSw1, hSw2, hSw3⟩, hSw4, hSw5, hSw6⟩ := hSw; go_simp; try with_reducible rfl⟩) (by assumption) ?_
            (try simp only [Act.put, List.setIfInBounds_toArray, List.set_cons_zero, List.set_cons_succ])
            refine take_first 3 (v := ?_) rfl (by kernel_rfl) (by kernel_rfl) (by kernel_rfl) (fun _ _ _ h => h) (Or.inl ⟨by rfl, by intro wx hSw; (try dsimp only at hSw); obtain ⟨⟨hSw1, hSw2, hSw3⟩, hSw4, hSw5, hSw6⟩ := hSw; go_simp; try with_reducible rfl⟩) (by assumption) ?_
            (try simp only [Act.put, List.setIfInBounds_toArray, List.set_cons_zero, List.set_cons_succ])
            refine take_first 4 (v := ?_) rfl (by kernel_rfl) (by kernel_rfl) (by kernel_rfl) (fun _ _ _ h => h) (Or.inl ⟨by rfl, by intro wx hSw; (try dsimp only at hSw); obtain ⟨⟨hSw1, hSw2, hSw3⟩, hSw4, hSw5, hSw6⟩ := hSw; go_simp; try with_reducible rfl⟩) (by assumption) ?_
            (try simp only [Act.put, List.setIfInBounds_toArray, List.set_cons_zero, List.set_cons_succ])
            refine take_first 5 (v := ?_) rfl (by kernel_rfl) (by kernel_rfl) (by kernel_rfl) (fun _ _ _ h => h) (Or.inl ⟨by rfl, by intro wx hSw; (try dsimp only at hSw); obtain ⟨⟨hSw1, hSw2, hSw3⟩, hSw4, hSw5, hSw6⟩ := hSw; go_simp; try with_reducible rfl⟩) (by assumption) ?_
            (try simp only [Act.put, List.setIfInBounds_toArray, List.set_cons_zero, List.set_cons_succ])
            refine take_first 6 (v := ?_) rfl (by kernel_rfl) (by kernel_rfl) (by kernel_rfl) (fun _ _ _ h => h) (Or.inl ⟨by rfl, by intro wx hSw; (try dsimp only at hSw); obtain ⟨⟨hSw1, hSw2, hSw3⟩, hSw4, hSw5, hSw6⟩ := hSw; go_simp; try with_reducible rfl⟩) (by assumption) ?_
            (try simp only [Act.put, List.setIfInBounds_toArray, List.set_cons_zero, List.set_cons_succ])
            refine take_first 7 (v := ?_) rfl (by kernel_rfl) (by kernel_rfl) (by kernel_rfl) (fun _ _ _ h => h) (Or.inl ⟨by rfl, by intro wx hSw; (try dsimp only at hSw); obtain ⟨⟨hSw1, hSw2, hSw3⟩, hSw4, hSw5, hSw6⟩ := hSw; go_simp; try with_reducible rfl⟩) (by assumption) ?_
            (try simp only [Act.put, List.setIfInBounds_toArray, List.set_cons_zero, List.set_cons_succ])
            refine take_first 8 (v := ?_) rfl (by kernel_rfl) (by kernel_rfl) (by kernel_rfl) (fun _ _ _ h => h) (Or.inl ⟨by rfl, by intro wx hSw; (try dsimp only at hSw); obtain ⟨⟨hSw1, hSw2, hSw3⟩, hSw4, hSw5, hSw6⟩ := hSw; go_simp; try with_reducible rfl⟩) (by assumption) ?_
            (try simp only [Act.put, List.setIfInBounds_toArray, List.set_cons_zero, List.set_cons_succ])
            refine take_first 9 (v := ?_) rfl (by kernel_rfl) (by kernel_rfl) (by kernel_rfl) (fun _ _ _ h => h) (Or.inl ⟨by rfl, by intro wx hSw; (try dsimp only at hSw); obtain ⟨⟨hSw1, hSw2, hSw3⟩, hSw4, hSw5, hSw6⟩ := hSw; go_simp; try with_reducible rfl⟩) (by assumption) ?_
            (try simp only [Act.put, List.setIfInBounds_toArray, List.set_cons_zero, List.set_cons_succ])
            refine take_first 10 (v := ?_) rfl (by kernel_rfl) (by kernel_rfl) (by kernel_rfl) (fun _ _ _ h => h) (Or.inl ⟨by rfl, by intro wx hSw; (try dsimp only at hSw); obtain ⟨⟨hSw1, hSw2, hSw3⟩, hSw4, hSw5, hSw6⟩ := hSw; go_simp; try with_reducible rfl⟩) (by assumption) ?_
            (try simp only [Act.put, List.setIfInBounds_toArray, List.set_cons_zero, List.set_cons_succ])
            refine take_first 11 (v := ?_) rfl (by kernel_rfl) (by kernel_rfl) (by kernel_rfl) (fun _ _ _ h => h) (Or.inl ⟨by rfl, by intro wx hSw; (try dsimp only at hSw); obtain ⟨⟨hSw1, hSw2, hSw3⟩, hSw4, hSw5, hSw6⟩ := hSw; go_simp; try with_reducible rfl⟩) (by assumption) ?_
            (try simp only [Act.put, List.setIfInBounds_toArray, List.set_cons_zero, List.set_cons_succ])
            refine take_first 12 (v := ?_) rfl (by kernel_rfl) (by kernel_rfl) (by kernel_rfl) (fun _ _ _ h => h) (Or.inl ⟨by rfl, by intro wx hSw; (try dsimp only at hSw); obtain ⟨⟨hSw1, hSw2, hSw3⟩, hSw4, hSw5, hSw6⟩ := hSw; go_simp; try with_reducible rfl⟩) (by assumption) ?_
            (try simp only [Act.put, List.setIfInBounds_toArray, List.set_cons_zero, List.set_cons_succ])
            refine take_first 13 (v := ?_) rfl (by kernel_rfl) (by kernel_rfl) (by kernel_rfl) (fun _ _ _ h => h) (Or.inl ⟨by rfl, by intro wx hSw; (try dsimp only at hSw); obtain ⟨⟨hSw1, hSw2, hSw3⟩, hSw4, hSw5, hSw6⟩ := hSw; go_simp; try with_reducible rfl⟩) (by assumption) ?_
            (try simp only [Act.put, List.setIfInBounds_toArray, List.set_cons_zero, List.set_cons_succ])
            refine take_first 14 (v := ?_) rfl (by kernel_rfl) (by kernel_rfl) (by kernel_rfl) (fun _ _ _ h => h) (Or.inl ⟨by rfl, by intro wx hSw; (try dsimp only at hSw); obtain ⟨⟨hSw1, hSw2, hSw3⟩, hSw4, hSw5, hSw6⟩ := hSw; go_simp; try with_reducible rfl⟩) (by assumption) ?_
            (try simp only [Act.put, List.setIfInBounds_toArray, List.set_cons_zero, List.set_cons_succ])
            refine take_first 15 (v := ?_) rfl (by kernel_rfl) (by kernel_rfl) (by kernel_rfl) (fun _ _ _ h => h) (Or.inl ⟨by rfl, by intro wx hSw; (try dsimp only at hSw); obtain ⟨⟨hSw1, hSw2, hSw3⟩, hSw4, hSw5, hSw6⟩ := hSw; go_simp; try with_reducible rfl⟩) (by assumption) ?_
            (try simp only [Act.put, List.setIfInBounds_toArray, List.set_cons_zero, List.set_cons_succ])
            refine take_first 16 (v := ?_) rfl (by kernel_rfl) (by kernel_rfl) (by kernel_rfl) (fun _ _ _ h => h) (Or.inl ⟨by rfl, by intro wx hSw; (try dsimp only at hSw); obtain ⟨⟨hSw1, hSw2, hSw3⟩, hSw4, hSw5, hSw6⟩ := hSw; go_simp; try with_reducible rfl⟩) (by assumption) ?_
            (try simp only [Act.put, List.setIfInBounds_toArray, List.set_cons_zero, List.set_cons_succ])
            refine take_first 17 (v := ?_) rfl (by kernel_rfl) (by kernel_rfl) (by kernel_rfl) (fun _ _ _ h => h) (Or.inl ⟨by rfl, by intro wx hSw; (try dsimp only at hSw); obtain ⟨⟨hSw1, hSw2, hSw3⟩, hSw4, hSw5, hSw6⟩ := hSw; go_simp; try with_reducible rfl⟩) (by assumption) ?_
            (try simp only [Act.put, List.setIfInBounds_toArray, List.set_cons_zero, List.set_cons_succ])
            refine take_first 18 (v := ?_) rfl (by kernel_rfl) (by kernel_rfl) (by kernel_rfl) (fun _ _ _ h => h) (Or.inl ⟨by rfl, by intro wx hSw; (try dsimp only at hSw); obtain ⟨⟨hSw1, hSw2, hSw3⟩, hSw4, hSw5, hSw6⟩ := hSw; go_simp; try with_reducible rfl⟩) (by assumption) ?_
            (try simp only [Act.put, List.setIfInBounds_toArray, List.set_cons_zero, List.set_cons_succ])
            refine take_first 19 (v := ?_) rfl (by kernel_rfl) (by kernel_rfl) (by kernel_rfl) (fun _ _ _ h => h) (Or.inl ⟨by rfl, by intro wx hSw; (try dsimp only at hSw); obtain ⟨⟨hSw1, hSw2, hSw3⟩, hSw4, hSw5, hSw6⟩ := hSw; go_simp; try with_reducible rfl⟩) (by assumption) ?_
            (try simp only [Act.put, List.setIfInBounds_toArray, List.set_cons_zero, List.set_cons_succ])
            refine take_first 20 (v := ?_) rfl (by kernel_rfl) (by kernel_rfl) (by kernel_rfl) (fun _ _ _ h => h) (Or.inl ⟨by rfl, by intro wx hSw; (try dsimp only at hSw); obtain ⟨⟨hSw1, hSw2, hSw3⟩, hSw4, hSw5, hSw6⟩ := hSw; go_simp; try with_reducible rfl⟩) (by assumption) ?_
            (try simp only [Act.put, List.setIfInBounds_toArray, List.set_cons_zero, List.set_cons_succ])
            refine take_first 21 (v := ?_) rfl (by kernel_rfl) (by kernel_rfl) (by kernel_rfl) (fun _ _ _ h => h) (Or.inl ⟨by rfl, by intro wx hSw; (try dsimp only at hSw); obtain ⟨⟨hSw1, hSw2, hSw3⟩, hSw4, hSw5, hSw6⟩ := hSw; go_simp; try with_reducible rfl⟩) (by assumption) ?_
            (try simp only [Act.put, List.setIfInBounds_toArray, List.set_cons_zero, List.set_cons_succ])
            refine take_first 22 (v := ?_) rfl (by kernel_rfl) (by kernel_rfl) (by kernel_rfl) (fun _ _ _ h => h) (Or.inl ⟨by rfl, by intro wx hSw; (try dsimp only at hSw); obtain ⟨⟨hSw1, hSw2, hSw3⟩, hSw4, hSw5, hSw6⟩ := hSw; go_simp; try with_reducible rfl⟩) (by assumption) ?_
            (try simp only [Act.put, List.setIfInBounds_toArray, List.set_cons_zero, List.set_cons_succ])
            refine take_first 23 (v := ?_) rfl (by kernel_rfl) (by kernel_rfl) (by kernel_rfl) (fun _ _ _ h => h) (Or.inl ⟨by rfl, by intro wx hSw; (try dsimp only at hSw); obtain ⟨⟨hSw1, hSw2, hSw3⟩, hSw4, hSw5, hSw6⟩ := hSw; go_simp; try with_reducible rfl⟩) (by assumption) ?_
            (try simp only [Act.put, List.setIfInBounds_toArray, List.set_cons_zero, List.set_cons_succ])
            refine take_first 24 (v := ?_) rfl (by kernel_rfl) (by kernel_rfl) (by kernel_rfl) (fun _ _ _ h => h) (Or.inl ⟨by rfl, by intro wx hSw; (try dsimp only at hSw); obtain ⟨⟨hSw1, hSw2, hSw3⟩, hSw4, hSw5, hSw6⟩ := hSw; go_simp; try with_reducible rfl⟩) (by assumption) ?_
            (try simp only [Act.put, List.setIfInBounds_toArray, List.set_cons_zero, List.set_cons_succ])
            refine take_first 25 (v := ?_) rfl (by kernel_rfl) (by kernel_rfl) (by kernel_rfl) (fun _ _ _ h => h) (Or.inl ⟨by rfl, by intro wx hSw; (try dsimp only at hSw); obtain ⟨⟨hSw1, hSw2, hSw3⟩, hSw4, hSw5, hSw6⟩ := hSw; go_simp; try with_reducible rfl⟩) (by assumption) ?_
            (try simp only [Act.put, List.setIfInBounds_toArray, List.set_cons_zero, List.set_cons_succ])
            refine wpAnyH_done (by kernel_rfl) ?_ _
            refine NoPanic.normal ?_
            clear two2 hHeld
            go_wp2
            go_roundw
            case rel => first | exact ⟨k + 1, by omega, by go_num, hu.drew, HTN.out⟩ | ((repeat apply Exists.intro); exact ⟨⟨k + 1, by omega, by go_num, hu.drew, HTN.out⟩, rfl⟩)
            case measure => simp [intOf]; omega
          · obtain rfl : r = false := HNE.out (fun h => hs (by rw [h]))
            have two2 : TwoJ b1 (o1 + k * 2) b2 (o2 + k * 2) x (x.1, y.2) (str d.2) (str e.2) wr.drew := ⟨two.1, by rw [hf]; exact two.2⟩
            have hss := str_ne hs
            generalize str d.2 = s at two2 hss
            generalize str e.2 = t at two2 hss
            clear two hs hf HTE HNE HDE HR
            go_wp2_with fail
            refine wp_region_noPanic ?_
            refine wp_region_held_drew (S := fun wx => TwoJ b1 (o1 + k * 2) b2 (o2 + k * 2) x (x.1, y.2) s t wx) (by kernel_rfl) two2 (fun hHeld => ?_)
            refine take_first 0 (v := ?_) rfl (by kernel_rfl) (by kernel_rfl) (by kernel_rfl) (fun _ _ _ h => h) (Or.inl ⟨by rfl, by intro wx hSw; (try dsimp only at hSw); obtain ⟨⟨hSw1, hSw2, hSw3⟩, hSw4, hSw5, hSw6⟩ := hSw; go_simp; try with_reducible rfl⟩) (by assumption) ?_
            (try simp only [Act.put, List.setIfInBounds_toArray, List.set_cons_zero, List.set_cons_succ])
            refine take_first 1 (v := ?_) rfl (by kernel_rfl) (by kernel_rfl) (by kernel_rfl) (fun _ _ _ h => h) (Or.inl ⟨by rfl, by intro wx hSw; (try dsimp only at hSw); obtain ⟨⟨hSw1, hSw2, hSw3⟩, hSw4, hSw5, hSw6⟩ := hSw; go_simp; try with_reducible rfl⟩) (by assumption) ?_
            (try simp only [Act.put, List.setIfInBounds_toArray, List.set_cons_zero, List.set_cons_succ])
            refine take_first 2 (v := ?_) rfl (by kernel_rfl) (by kernel_rfl) (by kernel_rfl) (fun _ _ _ h => h) (Or.inl ⟨by rfl, by intro wx hSw; (try dsimp only at hSw); obtain ⟨⟨hSw1, hSw2, hSw3⟩, hSw4, hSw5, hSw6⟩ := hSw; go_simp; try with_reducible rfl⟩) (by assumption) ?_
            (try simp only [Act.put, List.setIfInBounds_toArray, List.set_cons_zero, List.set_cons_succ])
            refine take_first 3 (v := ?_) rfl (by kernel_rfl) (by kernel_rfl) (by kernel_rfl) (fun _ _ _ h => h) (Or.inl ⟨by rfl, by intro wx hSw; (try dsimp only at hSw); obtain ⟨⟨hSw1, hSw2, hSw3⟩, hSw4, hSw5, hSw6⟩ := hSw; go_simp; try with_reducible rfl⟩) (by assumption) ?_
            (try simp only [Act.put, List.setIfInBounds_toArray, List.set_cons_zero, List.set_cons_succ])
            refine take_first 4 (v := ?_) rfl (by kernel_rfl) (by kernel_rfl) (by kernel_rfl) (fun _ _ _ h => h) (Or.inl ⟨by rfl, by intro wx hSw; (try dsimp only at hSw); obtain ⟨⟨hSw1, hSw2, hSw3⟩, hSw4, hSw5, hSw6⟩ := hSw; go_simp; try with_reducible rfl⟩) (by assumption) ?_
            (try simp only [Act.put, List.setIfInBounds_toArray, List.set_cons_zero, List.set_cons_succ])
            refine take_first 5 (v := ?_) rfl (by kernel_rfl) (by kernel_rfl) (by kernel_rfl) (fun _ _ _ h => h) (Or.inl ⟨by rfl, by intro wx hSw; (try dsimp only at hSw); obtain ⟨⟨hSw1, hSw2, hSw3⟩, hSw4, hSw5, hSw6⟩ := hSw; go_simp; try with_reducible rfl⟩) (by assumption) ?_
            (try simp only [Act.put, List.setIfInBounds_toArray, List.set_cons_zero, List.set_cons_succ])
            refine take_first 6 (v := ?_) rfl (by kernel_rfl) (by kernel_rfl) (by kernel_rfl) (fun _ _ _ h => h) (Or.inl ⟨by rfl, by intro wx hSw; (try dsimp only at hSw); obtain ⟨⟨hSw1, hSw2, hSw3⟩, hSw4, hSw5, hSw6⟩ := hSw; go_simp; try with_reducible rfl⟩) (by assumption) ?_
            (try simp only [Act.put, List.setIfInBounds_toArray, List.set_cons_zero, List.set_cons_succ])
            refine take_first 7 (v := ?_) rfl (by kernel_rfl) (by kernel_rfl) (by kernel_rfl) (fun _ _ _ h => h) (Or.inl ⟨by rfl, by intro wx hSw; (try dsimp only at hSw); obtain ⟨⟨hSw1, hSw2, hSw3⟩, hSw4, hSw5, hSw6⟩ := hSw; go_simp; try with_reducible rfl⟩) (by assumption) ?_
            (try simp only [Act.put, List.setIfInBounds_toArray, List.set_cons_zero, List.set_cons_succ])
            refine take_first 8 (v := ?_) rfl (by kernel_rfl) (by kernel_rfl) (by kernel_rfl) (fun _ _ _ h => h) (Or.inl ⟨by rfl, by intro wx hSw; (try dsimp only at hSw); obtain ⟨⟨hSw1, hSw2, hSw3⟩, hSw4, hSw5, hSw6⟩ := hSw; go_simp; try with_reducible rfl⟩) (by assumption) ?_
            (try simp only [Act.put, List.setIfInBounds_toArray, List.set_cons_zero, List.set_cons_succ])
            refine take_first 9 (v := ?_) rfl (by kernel_rfl) (by kernel_rfl) (by kernel_rfl) (fun _ _ _ h => h) (Or.inl ⟨by rfl, by intro wx hSw; (try dsimp only at hSw); obtain ⟨⟨hSw1, hSw2, hSw3⟩, hSw4, hSw5, hSw6⟩ := hSw; go_simp; try with_reducible rfl⟩) (by assumption) ?_
            (try simp only [Act.put, List.setIfInBounds_toArray, List.set_cons_zero, List.set_cons_succ])
            refine take_first 10 (v := ?_) rfl (by kernel_rfl) (by kernel_rfl) (by kernel_rfl) (fun _ _ _ h => h) (Or.inl ⟨by rfl, by intro wx hSw; (try dsimp only at hSw); obtain ⟨⟨hSw1, hSw2, hSw3⟩, hSw4, hSw5, hSw6⟩ := hSw; go_simp; try with_reducible rfl⟩) (by assumption) ?_
            (try simp only [Act.put, List.setIfInBounds_toArray, List.set_cons_zero, List.set_cons_succ])
            refine take_first 11 (v := ?_) rfl (by kernel_rfl) (by kernel_rfl) (by kernel_rfl) (fun _ _ _ h => h) (Or.inl ⟨by rfl, by intro wx hSw; (try dsimp only at hSw); obtain ⟨⟨hSw1, hSw2, hSw3⟩, hSw4, hSw5, hSw6⟩ := hSw; go_simp; try with_reducible rfl⟩) (by assumption) ?_
            (try simp only [Act.put, List.setIfInBounds_toArray, List.set_cons_zero, List.set_cons_succ])
            refine take_first 12 (v := ?_) rfl (by kernel_rfl) (by kernel_rfl) (by kernel_rfl) (fun _ _ _ h => h) (Or.inl ⟨by rfl, by intro wx hSw; (try dsimp only at hSw); obtain ⟨⟨hSw1, hSw2, hSw3⟩, hSw4, hSw5, hSw6⟩ := hSw; go_simp; try with_reducible rfl⟩) (by assumption) ?_
            (try simp only [Act.put, List.setIfInBounds_toArray, List.set_cons_zero, List.set_cons_succ])
            refine take_first 13 (v := ?_) rfl (by kernel_rfl) (by kernel_rfl) (by kernel_rfl) (fun _ _ _ h => h) (Or.inl ⟨by rfl, by intro wx hSw; (try dsimp only at hSw); obtain ⟨⟨hSw1, hSw2, hSw3⟩, hSw4, hSw5, hSw6⟩ := hSw; go_simp; try with_reducible rfl⟩) (by assumption) ?_
            (try simp only [Act.put, List.setIfInBounds_toArray, List.set_cons_zero, List.set_cons_succ])
            refine take_first 14 (v := ?_) rfl (by kernel_rfl) (by kernel_rfl) (by kernel_rfl) (fun _ _ _ h => h) (Or.inl ⟨by rfl, by intro wx hSw; (try dsimp only at hSw); obtain ⟨⟨hSw1, hSw2, hSw3⟩, hSw4, hSw5, hSw6⟩ := hSw; go_simp; try with_reducible rfl⟩) (by assumption) ?_
            (try simp only [Act.put, List.setIfInBounds_toArray, List.set_cons_zero, List.set_cons_succ])
            refine take_first 15 (v := ?_) rfl (by kernel_rfl) (by kernel_rfl) (by kernel_rfl) (fun _ _ _ h => h) (Or.inl ⟨by rfl, by intro wx hSw; (try dsimp only at hSw); obtain ⟨⟨hSw1, hSw2, hSw3⟩, hSw4, hSw5, hSw6⟩ := hSw; go_simp; try with_reducible rfl⟩) (by assumption) ?_
            (try simp only [Act.put, List.setIfInBounds_toArray, List.set_cons_zero, List.set_cons_succ])
            refine take_first 16 (v := ?_) rfl (by kernel_rfl) (by kernel_rfl) (by kernel_rfl) (fun _ _ _ h => h) (Or.inl ⟨by rfl, by intro wx hSw; (try dsimp only at hSw); obtain ⟨⟨hSw1, hSw2, hSw3⟩, hSw4, hSw5, hSw6⟩ := hSw; go_simp; try with_reducible rfl⟩) (by assumption) ?_
            (try simp only [Act.put, List.setIfInBounds_toArray, List.set_cons_zero, List.set_cons_succ])
            refine take_first 17 (v := ?_) rfl (by kernel_rfl) (by kernel_rfl) (by kernel_rfl) (fun _ _ _ h => h) (Or.inl ⟨by rfl, by intro wx hSw; (try dsimp only at hSw); obtain ⟨⟨hSw1, hSw2, hSw3⟩, hSw4, hSw5, hSw6⟩ := hSw; go_simp; try with_reducible rfl⟩) (by assumption) ?_
            (try simp only [Act.put, List.setIfInBounds_toArray, List.set_cons_zero, List.set_cons_succ])
            refine take_first 18 (v := ?_) rfl (by kernel_rfl) (by kernel_rfl) (by kernel_rfl) (fun _ _ _ h => h) (Or.inl ⟨by rfl, by intro wx hSw; (try dsimp only at hSw); obtain ⟨⟨hSw1, hSw2, hSw3⟩, hSw4, hSw5, hSw6⟩ := hSw; go_simp; try with_reducible rfl⟩) (by assumption) ?_
            (try simp only [Act.put, List.setIfInBounds_toArray, List.set_cons_zero, List.set_cons_succ])
            refine take_first 19 (v := ?_) rfl (by kernel_rfl) (by kernel_rfl) (by kernel_rfl) (fun _ _ _ h => h) (Or.inl ⟨by rfl, by intro wx hSw; (try dsimp only at hSw); obtain ⟨⟨hSw1, hSw2, hSw3⟩, hSw4, hSw5, hSw6⟩ := hSw; go_simp; try with_reducible rfl⟩) (by assumption) ?_
            (try simp only [Act.put, List.setIfInBounds_toArray, List.set_cons_zero, List.set_cons_succ])
            refine take_first 20 (v := ?_) rfl (by kernel_rfl) (by kernel_rfl) (by kernel_rfl) (fun _ _ _ h => h) (Or.inl ⟨by rfl, by intro wx hSw; (try dsimp only at hSw); obtain ⟨⟨hSw1, hSw2, hSw3⟩, hSw4, hSw5, hSw6⟩ := hSw; go_simp; try with_reducible rfl⟩) (by assumption) ?_
            (try simp only [Act.put, List.setIfInBounds_toArray, List.set_cons_zero, List.set_cons_succ])
            refine take_first 21 (v := ?_) rfl (by kernel_rfl) (by kernel_rfl) (by kernel_rfl) (fun _ _ _ h => h) (Or.inl ⟨by rfl, by intro wx hSw; (try dsimp only at hSw); obtain ⟨⟨hSw1, hSw2, hSw3⟩, hSw4, hSw5, hSw6⟩ := hSw; go_simp; try with_reducible rfl⟩) (by assumption) ?_
            (try simp only [Act.put, List.setIfInBounds_toArray, List.set_cons_zero, List.set_cons_succ])
            refine take_first 22 (v := ?_) rfl (by kernel_rfl) (by kernel_rfl) (by kernel_rfl) (fun _ _ _ h => h) (Or.inl ⟨by rfl, by intro wx hSw; (try dsimp only at hSw); obtain ⟨⟨hSw1, hSw2, hSw3⟩, hSw4, hSw5, hSw6⟩ := hSw; go_simp; try with_reducible rfl⟩) (by assumption) ?_
            (try simp only [Act.put, List.setIfInBounds_toArray, List.set_cons_zero, List.set_cons_succ])
            refine take_first 23 (v := ?_) rfl (by kernel_rfl) (by kernel_rfl) (by kernel_rfl) (fun _ _ _ h => h) (Or.inl ⟨by rfl, by intro wx hSw; (try dsimp only at hSw); obtain ⟨⟨hSw1, hSw2, hSw3⟩, hSw4, hSw5, hSw6⟩ := hSw; go_simp; try with_reducible rfl⟩) (by assumption) ?_
            (try simp only [Act.put, List.setIfInBounds_toArray, List.set_cons_zero, List.set_cons_succ])
            refine take_first 24 (v := ?_) rfl (by kernel_rfl) (by kernel_rfl) (by kernel_rfl) (fun _ _ _ h => h) (Or.inl ⟨by rfl, by intro wx hSw; (try dsimp only at hSw); obtain ⟨⟨hSw1, hSw2, hSw3⟩, hSw4, hSw5, hSw6⟩ := hSw; go_simp; try with_reducible rfl⟩) (by assumption) ?_
            (try simp only [Act.put, List.setIfInBounds_toArray, List.set_cons_zero, List.set_cons_succ])
            refine take_first 25 (v := ?_) rfl (by kernel_rfl) (by kernel_rfl) (by kernel_rfl) (fun _ _ _ h => h) (Or.inl ⟨by rfl, by intro wx hSw; (try dsimp only at hSw); obtain ⟨⟨hSw1, hSw2, hSw3⟩, hSw4, hSw5, hSw6⟩ := hSw; go_simp; try with_reducible rfl⟩) (by assumption) ?_
            (try simp only [Act.put, List.setIfInBounds_toArray, List.set_cons_zero, List.set_cons_succ])
            refine wpAnyH_done (by kernel_rfl) ?_ _
            refine NoPanic.normal ?_
            clear two2 hHeld
            go_wp2
            go_ret
            exact ⟨rfl, hu.drew⟩
        · obtain rfl : r = false := HNE.out (fun h => hf (by obtain ⟨g1, g2⟩ := HDE.out; rw [g1, g2, h]))
          have hfn : (x.1 != y.1) = true := by simpa using hf
          have hfe : (x.1 == y.1) = false := by simpa using hf
          generalize str d.2 = s at two
          generalize str e.2 = t at two
          clear HTE HNE HDE HR
          go_wp2_with fail
          refine wp_region_noPanic ?_
          refine wp_region_held_drew (S := fun wx => TwoJ b1 (o1 + k * 2) b2 (o2 + k * 2) x y s t wx) (by kernel_rfl) two (fun hHeld => ?_)
          refine take_first 0 (v := ?_) rfl (by kernel_rfl) (by kernel_rfl) (by kernel_rfl) (fun _ _ _ h => h) (Or.inl ⟨by rfl, by intro wx hSw; (try dsimp only at hSw); obtain ⟨⟨hSw1, hSw2, hSw3⟩, hSw4, hSw5, hSw6⟩ := hSw; go_simp; try with_reducible rfl⟩) (by assumption) ?_
          (try simp only [Act.put, List.setIfInBounds_toArray, List.set_cons_zero, List.set_cons_succ])
          refine take_first 1 (v := ?_) rfl (by kernel_rfl) (by kernel_rfl) (by kernel_rfl) (fun _ _ _ h => h) (Or.inl ⟨by rfl, by intro wx hSw; (try dsimp only at hSw); obtain ⟨⟨hSw1, hSw2, hSw3⟩, hSw4, hSw5, hSw6⟩ := hSw; go_simp; try with_reducible rfl⟩) (by assumption) ?_
          (try simp only [Act.put, List.setIfInBounds_toArray, List.set_cons_zero, List.set_cons_succ])
          refine take_first 2 (v := ?_) rfl (by kernel_rfl) (by kernel_rfl) (by kernel_rfl) (fun _ _ _ h => h) (Or.inl ⟨by rfl, by intro wx hSw; (try dsimp only at hSw); obtain ⟨⟨hSw1, hSw2, hSw3⟩, hSw4, hSw5, hSw6⟩ := hSw; go_simp; try with_reducible rfl⟩) (by assumption) ?_
          (try simp only [Act.put, List.setIfInBounds_toArray, List.set_cons_zero, List.set_cons_succ])
          refine take_first 3 (v := ?_) rfl (by kernel_rfl) (by kernel_rfl) (by kernel_rfl) (fun _ _ _ h => h) (Or.inl ⟨by rfl, by intro wx hSw; (try dsimp only at hSw); obtain ⟨⟨hSw1, hSw2, hSw3⟩, hSw4, hSw5, hSw6⟩ := hSw; go_simp; try with_reducible rfl⟩) (by assumption) ?_
          (try simp only [Act.put, List.setIfInBounds_toArray, List.set_cons_zero, List.set_cons_succ])
          refine take_first 4 (v := ?_) rfl (by kernel_rfl) (by kernel_rfl) (by kernel_rfl) (fun _ _ _ h => h) (Or.inl ⟨by rfl, by intro wx hSw; (try dsimp only at hSw); obtain ⟨⟨hSw1, hSw2, hSw3⟩, hSw4, hSw5, hSw6⟩ := hSw; go_simp; try with_reducible rfl⟩) (by assumption) ?_
          (try simp only [Act.put, List.setIfInBounds_toArray, List.set_cons_zero, List.set_cons_succ])
          refine take_first 5 (v := ?_) rfl (by kernel_rfl) (by kernel_rfl) (by kernel_rfl) (fun _ _ _ h => h) (Or.inl ⟨by rfl, by intro wx hSw; (try dsimp only at hSw); obtain ⟨⟨hSw1, hSw2, hSw3⟩, hSw4, hSw5, hSw6⟩ := hSw; go_simp; try with_reducible rfl⟩) (by assumption) ?_
          (try simp only [Act.put, List.setIfInBounds_toArray, List.set_cons_zero, List.set_cons_succ])
          refine take_first 6 (v := ?_) rfl (by kernel_rfl) (by kernel_rfl) (by kernel_rfl) (fun _ _ _ h => h) (Or.inl ⟨by rfl, by intro wx hSw; (try dsimp only at hSw); obtain ⟨⟨hSw1, hSw2, hSw3⟩, hSw4, hSw5, hSw6⟩ := hSw; go_simp; try with_reducible rfl⟩) (by assumption) ?_
          (try simp only [Act.put, List.setIfInBounds_toArray, List.set_cons_zero, List.set_cons_succ])
          refine take_first 7 (v := ?_) rfl (by kernel_rfl) (by kernel_rfl) (by kernel_rfl) (fun _ _ _ h => h) (Or.inl ⟨by rfl, by intro wx hSw; (try dsimp only at hSw); obtain ⟨⟨hSw1, hSw2, hSw3⟩, hSw4, hSw5, hSw6⟩ := hSw; go_simp; try with_reducible rfl⟩) (by assumption) ?_
          (try simp only [Act.put, List.setIfInBounds_toArray, List.set_cons_zero, List.set_cons_succ])
          refine take_first 8 (v := ?_) rfl (by kernel_rfl) (by kernel_rfl) (by kernel_rfl) (fun _ _ _ h => h) (Or.inl ⟨by rfl, by intro wx hSw; (try dsimp only at hSw); obtain ⟨⟨hSw1, hSw2, hSw3⟩, hSw4, hSw5, hSw6⟩ := hSw; go_simp; try with_reducible rfl⟩) (by assumption) ?_
          (try simp only [Act.put, List.setIfInBounds_toArray, List.set_cons_zero, List.set_cons_succ])
          refine take_first 9 (v := ?_) rfl (by kernel_rfl) (by kernel_rfl) (by kernel_rfl) (fun _ _ _ h => h) (Or.inl ⟨by rfl, by intro wx hSw; (try dsimp only at hSw); obtain ⟨⟨hSw1, hSw2, hSw3⟩, hSw4, hSw5, hSw6⟩ := hSw; go_simp; try with_reducible rfl⟩) (by assumption) ?_
          (try simp only [Act.put, List.setIfInBounds_toArray, List.set_cons_zero, List.set_cons_succ])
          refine take_first 10 (v := ?_) rfl (by kernel_rfl) (by kernel_rfl) (by kernel_rfl) (fun _ _ _ h => h) (Or.inl ⟨by rfl, by intro wx hSw; (try dsimp only at hSw); obtain ⟨⟨hSw1, hSw2, hSw3⟩, hSw4, hSw5, hSw6⟩ := hSw; go_simp; try with_reducible rfl⟩) (by assumption) ?_
          (try simp only [Act.put, List.setIfInBounds_toArray, List.set_cons_zero, List.set_cons_succ])
          refine take_first 11 (v := ?_) rfl (by kernel_rfl) (by kernel_rfl) (by kernel_rfl) (fun _ _ _ h => h) (Or.inl ⟨by rfl, by intro wx hSw; (try dsimp only at hSw); obtain ⟨⟨hSw1, hSw2, hSw3⟩, hSw4, hSw5, hSw6⟩ := hSw; go_simp; try with_reducible rfl⟩) (by assumption) ?_
          (try simp only [Act.put, List.setIfInBounds_toArray, List.set_cons_zero, List.set_cons_succ])
          refine take_first 12 (v := undef) rfl (by kernel_rfl) (by kernel_rfl) (by kernel_rfl) (fun _ _ _ h => h) (Or.inr ⟨by rfl, rfl⟩) (by assumption) ?_
          (try simp only [Act.put, List.setIfInBounds_toArray, List.set_cons_zero, List.set_cons_succ])
          refine take_first 13 (v := undef) rfl (by kernel_rfl) (by kernel_rfl) (by kernel_rfl) (fun _ _ _ h => h) (Or.inr ⟨by rfl, rfl⟩) (by assumption) ?_
          (try simp only [Act.put, List.setIfInBounds_toArray, List.set_cons_zero, List.set_cons_succ])
          refine take_first 14 (v := undef) rfl (by kernel_rfl) (by kernel_rfl) (by kernel_rfl) (fun _ _ _ h => h) (Or.inr ⟨by rfl, rfl⟩) (by assumption) ?_
          (try simp only [Act.put, List.setIfInBounds_toArray, List.set_cons_zero, List.set_cons_succ])
          refine take_first 15 (v := undef) rfl (by kernel_rfl) (by kernel_rfl) (by kernel_rfl) (fun _ _ _ h => h) (Or.inr ⟨by rfl, rfl⟩) (by assumption) ?_
          (try simp only [Act.put, List.setIfInBounds_toArray, List.set_cons_zero, List.set_cons_succ])
          refine take_first 16 (v := undef) rfl (by kernel_rfl) (by kernel_rfl) (by kernel_rfl) (fun _ _ _ h => h) (Or.inr ⟨by rfl, rfl⟩) (by assumption) ?_
          (try simp only [Act.put, List.setIfInBounds_toArray, List.set_cons_zero, List.set_cons_succ])
          refine take_first 17 (v := undef) rfl (by kernel_rfl) (by kernel_rfl) (by kernel_rfl) (fun _ _ _ h => h) (Or.inr ⟨by rfl, rfl⟩) (by assumption) ?_
          (try simp only [Act.put, List.setIfInBounds_toArray, List.set_cons_zero, List.set_cons_succ])
          refine take_first 18 (v := undef) rfl (by kernel_rfl) (by kernel_rfl) (by kernel_rfl) (fun _ _ _ h => h) (Or.inr ⟨by rfl, rfl⟩) (by assumption) ?_
          (try simp only [Act.put, List.setIfInBounds_toArray, List.set_cons_zero, List.set_cons_succ])
          refine take_first 19 (v := undef) rfl (by kernel_rfl) (by kernel_rfl) (by kernel_rfl) (fun _ _ _ h => h) (Or.inr ⟨by rfl, rfl⟩) (by assumption) ?_
          (try simp only [Act.put, List.setIfInBounds_toArray, List.set_cons_zero, List.set_cons_succ])
          refine take_first 20 (v := undef) rfl (by kernel_rfl) (by kernel_rfl) (by kernel_rfl) (fun _ _ _ h => h) (Or.inr ⟨by rfl, rfl⟩) (by assumption) ?_
          (try simp only [Act.put, List.setIfInBounds_toArray, List.set_cons_zero, List.set_cons_succ])
          refine take_first 21 (v := undef) rfl (by kernel_rfl) (by kernel_rfl) (by kernel_rfl) (fun _ _ _ h => h) (Or.inr ⟨by rfl, rfl⟩) (by assumption) ?_
          (try simp only [Act.put, List.setIfInBounds_toArray, List.set_cons_zero, List.set_cons_succ])
          refine take_first 22 (v := undef) rfl (by kernel_rfl) (by kernel_rfl) (by kernel_rfl) (fun _ _ _ h => h) (Or.inr ⟨by rfl, rfl⟩) (by assumption) ?_
          (try simp only [Act.put, List.setIfInBounds_toArray, List.set_cons_zero, List.set_cons_succ])
          refine take_first 23 (v := undef) rfl (by kernel_rfl) (by kernel_rfl) (by kernel_rfl) (fun _ _ _ h => h) (Or.inr ⟨by rfl, rfl⟩) (by assumption) ?_
          (try simp only [Act.put, List.setIfInBounds_toArray, List.set_cons_zero, List.set_cons_succ])
          refine take_first 24 (v := undef) rfl (by kernel_rfl) (by kernel_rfl) (by kernel_rfl) (fun _ _ _ h => h) (Or.inr ⟨by rfl, rfl⟩) (by assumption) ?_
          (try simp only [Act.put, List.setIfInBounds_toArray, List.set_cons_zero, List.set_cons_succ])
          refine take_first 25 (v := ?_) rfl (by kernel_rfl) (by kernel_rfl) (by kernel_rfl) (fun _ _ _ h => h) (Or.inl ⟨by rfl, by intro wx hSw; (try dsimp only at hSw); obtain ⟨⟨hSw1, hSw2, hSw3⟩, hSw4, hSw5, hSw6⟩ := hSw; go_simp; try with_reducible rfl⟩) (by assumption) ?_
          (try simp only [Act.put, List.setIfInBounds_toArray, List.set_cons_zero, List.set_cons_succ])
          refine wpAnyH_done (by kernel_rfl) ?_ _
          refine NoPanic.normal ?_
          clear two hHeld
          go_wp2
          go_ret
          exact ⟨rfl, hu.drew⟩
      · obtain rfl : k = n := by omega
        obtain rfl : r = true := by
          rw [← HR.out]
          have := HTK.out
          rw [List.take_of_length_le (by omega), List.take_of_length_le (by omega)] at this
          exact decide_eq_true this
        clear HX HY
        go_wp2
        go_ret
        exact ⟨rfl, hu⟩
  · obtain rfl : r = false := by
      rw [← HR.out]
      refine decide_eq_false (fun heq => hnm ?_)
      rw [heq] at hd
      omega
    have hne : ((n : Int) != (m : Int)) = true := by simp; omega
    have hne2 : ((n : Int) == (m : Int)) = false := by simp; omega
    clear hI hJ hit hjt HR
    go_enter Try.func36, Try.ntmps36
    go_wp2
    go_ret
    exact ⟨rfl, Up.refl _⟩
end Go.Proofs.Ytfemjbaadnjanaa
