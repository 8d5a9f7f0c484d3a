/-
  judge's copied: the same items in memory of their own.
-/
import Derived.Test.YthnbijnpbjfoaaaJItem
namespace Go.Proofs.Ythnbijnpbjfoaaa
open Go.RowKit Go.Sort
set_option linter.unusedVariables false

theorem setCell_other' {w : World} {g i : Nat} {v : Value} {ad : Addr} {u : Value} (h : ad ≠ ⟨g, i, none⟩) (hc : w.cell? ad = some u) : (w.setCell ⟨g, i, none⟩ v).cell? ad = some u := by
  rw [World.cell?_setCell_other _ _ _ _ (fun e => h e.symm)]; exact hc
theorem Kp.setCell {p : Nat → Prop} {w : World} {g i : Nat} {v : Value} (hp : ∀ b, p b → b ≠ g) : Kp p w (w.setCell ⟨g, i, none⟩ v) := fun ad u hb hc => setCell_other' (fun e => hp _ hb (by rw [e])) hc
/-- One of the items gets other bytes. -/
theorem IR.set {w : World} {g n k : Nat} {xs : List Ix} {x : Ix} (h : IR (fun b => b = g) w (some ⟨g, 0, none⟩) n xs) (hk : xs[k]? = some x) (ao : Option Addr) (l c : Nat) :
    IR (fun b => b = g) (w.setCell ⟨g, k * 2 + 1, none⟩ (.slice ao l c)) (some ⟨g, 0, none⟩) n (xs.set k (x.1, ao, l, c)) := by
  obtain ⟨h1, h2, h3, h4⟩ := h
  have hkl := (List.getElem?_eq_some_iff.1 hk).1
  refine ⟨by simpa using h1, h2, h3, fun h0 => ?_⟩
  obtain ⟨b, off, e, hp, hc⟩ := h4 h0
  cases e
  refine ⟨_, _, rfl, rfl, fun j y hj => ?_⟩
  simp only [Nat.zero_add] at hc ⊢
  by_cases e : j = k
  · subst e
    rw [List.getElem?_set_self hkl] at hj
    cases hj
    obtain ⟨c0, c1⟩ := hc j x hk
    exact ⟨setCell_other' (by simp <;> omega) c0, World.cell?_setCell_same' _ _ _ (by rw [c1]; rfl)⟩
  · rw [List.getElem?_set_ne (by omega)] at hj
    obtain ⟨c0, c1⟩ := hc j y hj
    exact ⟨setCell_other' (by simp <;> omega) c0, setCell_other' (by simp <;> omega) c1⟩

set_option maxRecDepth 10000 in
set_option maxHeartbeats 1000000 in
theorem copied_any (p : Nat → Prop) (w : World) (ao : Option Addr) (n cap : Nat) (ds : List Di) (h : Its p w ao n ds) :
    Calls Try.prog 20 #[.slice ao n cap] w fun e w' => ∃ ao' cap', e = .returned (.slice ao' n cap') ∧ Its (fun b => w.heap.size ≤ b) w' ao' n ds ∧ Below w.heap.size w w' := by
  obtain ⟨xs, hI, hd, hit⟩ := h
  have hcl := cloneI_any p w ao n cap xs hI
  have hxl := hI.1
  have hm := hI.2.1
  have HIT : Hid (∀ (j : Nat) (x : Ix) (d : Di), xs[j]? = some x → ds[j]? = some d → It p w x d) := hit
  clear hI hit
  go_enter Try.func20, Try.ntmps20
  go_wp2_with fail
  refine hcl.mono ?_
  rintro e w0 ⟨⟨v, rfl, hv⟩, hb0⟩
  clear hcl
  rcases hv with ⟨rfl, rfl⟩ | ⟨g, cap', rfl, hg, hg2, hfz, hIR⟩
  · go_wp2
    refine wp_loop_rounds 1 ?_
    rw [rounds_succ]
    go_wp2
    go_ret
    refine ⟨none, 0, rfl, ⟨[], ⟨rfl, by omega, fun _ => rfl, fun h => by omega⟩, hd, fun j x d hx => by simp at hx⟩, hb0⟩
  · have H0 : Hid (IR (fun b => b = g) w0 (some ⟨g, 0, none⟩) n xs ∧ (∀ i, w0.frozen? ⟨g, i, none⟩ = false)) := ⟨hIR, hfz⟩
    clear hIR hfz
    go_wp2_with fail
    go_loopw [4, 9] (fun _ kv wr => ∃ (k : Nat) (ys : List Ix), k ≤ n ∧ kv = .int .i64 (k : Nat) ∧ IR (fun b => b = g) wr (some ⟨g, 0, none⟩) n ys ∧ (∀ j, k ≤ j → ys[j]? = xs[j]?) ∧ (∀ (j : Nat) (y : Ix) (d : Di), j < k → ys[j]? = some y → ds[j]? = some d → It (fun b => w.heap.size ≤ b ∧ b ≠ g) wr y d) ∧ Below w.heap.size w wr ∧ g < wr.heap.size ∧ (∀ i, wr.frozen? ⟨g, i, none⟩ = false)) (fun _ kv _ => n - (intOf kv).toNat)
    case atStart => exact ⟨0, xs, by omega, rfl, H0.out.1, fun _ _ => rfl, fun j y d hj => by omega, hb0, hg2, H0.out.2⟩
    case round =>
      clear H0
      obtain ⟨k, ys, hk, rfl, hIR, hys, hits, hbl, hgl, hfz⟩ := hrel
      by_cases hlt : k < n
      · have hltI : (k : Int) < (n : Int) := by omega
        obtain ⟨x, hx⟩ : ∃ x, xs[k]? = some x := ⟨xs[k]'(by omega), List.getElem?_eq_getElem (by omega)⟩
        obtain ⟨d, hdk⟩ : ∃ d, ds[k]? = some d := ⟨ds[k]'(by omega), List.getElem?_eq_getElem (by omega)⟩
        have hyk : ys[k]? = some x := by rw [hys k (Nat.le_refl _)]; exact hx
        obtain ⟨b, off, e, hp, hc⟩ := hIR.2.2.2 (by omega)
        cases e
        obtain ⟨c0, c1⟩ := hc k x hyk
        simp only [Nat.zero_add] at c0 c1
        have hcb := cloneB_any p wr x.2.1 x.2.2.1 x.2.2.2 d.2 ((HIT.out k x d hx hdk).2.keep (Kp.up hbl))
        have hxd := (HIT.out k x d hx hdk).1
        have HIN : Hid (IR (fun b => b = g) wr (some ⟨g, 0, none⟩) n ys ∧ (∀ j, k ≤ j → ys[j]? = xs[j]?) ∧ (∀ (j : Nat) (y : Ix) (d : Di), j < k → ys[j]? = some y → ds[j]? = some d → It (fun b => w.heap.size ≤ b ∧ b ≠ g) wr y d) ∧ ys[k]? = some x ∧ ds[k]? = some d ∧ x.1 = d.1) := ⟨hIR, hys, hits, hyk, hdk, hxd⟩
        have hfz1 := hfz
        have hk0 : ¬ ((k : Int) < 0) := by omega
        clear hIR hys hits hc hx hdk hyk hxd hp
        go_wp2_with fail
        refine hcb.mono ?_
        rintro e w1 ⟨ao1, cap1, rfl, hrw, hb1⟩
        have c1' : w1.cell? ⟨g, k * 2 + 1, none⟩ = some (.slice x.2.1 x.2.2.1 x.2.2.2) := (hb1.cell hgl).trans c1
        have hf1 : ∀ i, w1.frozen? ⟨g, i, none⟩ = false := fun i => (hb1.frozen hgl).trans (hfz i)
        obtain ⟨w2, hw2⟩ : ∃ w2, w1.setCell ⟨g, k * 2 + 1, none⟩ (.slice ao1 x.2.2.1 cap1) = w2 := ⟨_, rfl⟩
        have HN : Hid (∃ ys' : List Ix, IR (fun b => b = g) w2 (some ⟨g, 0, none⟩) n ys' ∧ (∀ j, k + 1 ≤ j → ys'[j]? = xs[j]?) ∧ (∀ (j : Nat) (y : Ix) (d : Di), j < k + 1 → ys'[j]? = some y → ds[j]? = some d → It (fun b => w.heap.size ≤ b ∧ b ≠ g) w2 y d) ∧ Below w.heap.size w w2 ∧ g < w2.heap.size ∧ (∀ i, w2.frozen? ⟨g, i, none⟩ = false)) := by
          obtain ⟨i1, i2, i3, i4, i5, i6⟩ := HIN.out
          rw [← hw2]
          have hkl := (List.getElem?_eq_some_iff.1 i4).1
          have hbw : Below w.heap.size w w1 := bl_step hbl hb1
          have kp1 : Kp (fun b => w.heap.size ≤ b ∧ b ≠ g) w1 (w1.setCell ⟨g, k * 2 + 1, none⟩ (.slice ao1 x.2.2.1 cap1)) := Kp.setCell (fun b hb => hb.2)
          refine ⟨ys.set k (x.1, ao1, x.2.2.1, cap1), (i1.keep (Kp.up hb1)).set i4 ao1 x.2.2.1 cap1, fun j hj => by rw [List.getElem?_set_ne (by omega)]; exact i2 j (by omega), fun j y d' hj hy hd' => ?_, hbw.setCell (by omega) _, ?_, fun i => by rw [World.frozen?_setCell]; exact hf1 i⟩
          · by_cases e : j = k
            · subst e
              rw [List.getElem?_set_self hkl] at hy
              cases hy
              rw [i5] at hd'
              cases hd'
              refine ⟨i6, ?_⟩
              refine (hrw.imp (fun b _ hb => ?_)).keep kp1
              have := hbl.size
              exact ⟨by omega, by omega⟩
            · rw [List.getElem?_set_ne (by omega)] at hy
              exact ((i3 j y d' (by omega) hy hd').keep (Kp.up hb1)).keep kp1
          · have := hb1.size
            simp [World.setCell]; omega
        clear hcb hrw hb1 HIN hbl
        go_wp2_with fail
        (try simp only [hw2])
        clear hw2
        go_roundw
        case rel =>
          obtain ⟨ys', n1, n2, n3, n4, n5, n6⟩ := HN.out
          first | exact ⟨k + 1, ys', by omega, by go_num, n1, n2, n3, n4, n5, n6⟩ | ((repeat apply Exists.intro); exact ⟨⟨k + 1, ys', by omega, by go_num, n1, n2, n3, n4, n5, n6⟩, rfl⟩)
        case measure => simp [intOf]; omega
      · obtain rfl : k = n := by omega
        have HE : Hid (Its (fun b => w.heap.size ≤ b) wr (some ⟨g, 0, none⟩) k ds ∧ Below w.heap.size w wr) := by
          refine ⟨⟨ys, hIR.imp (fun b _ hb => by rw [hb]; exact hg), hd, fun j y d hy hd' => (hits j y d ?_ hy hd').imp (fun b _ hb => hb.1)⟩, hbl⟩
          have := (List.getElem?_eq_some_iff.1 hy).1
          have := hIR.1
          omega
        clear hIR hys hits hbl hfz
        go_wp2
        go_ret
        exact ⟨some ⟨g, 0, none⟩, cap', rfl, HE.out⟩
end Go.Proofs.Ythnbijnpbjfoaaa
