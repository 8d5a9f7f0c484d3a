/-
  Copies of items once more: with their room told.
-/
import Derived.Test.YtlonbbepoamnmaaDoorSCopy
namespace Go.Proofs.YtlonbbepoamnmaaDoor
open Go.RowKit Go.Sort
set_option linter.unusedVariables false

theorem IR.own2 {w : World} {B n : Nat} {v : Value} {xs : List Ix} (h : w.ownsRow B 98 2 v n (cellI xs)) (hm : n ≤ 4398046511104) : (v = .slice none 0 0 ∧ n = 0) ∨ ∃ g cap, v = .slice (some ⟨g, 0, none⟩) n cap ∧ B ≤ g ∧ g < w.heap.size ∧ n ≤ cap ∧ cap ≤ 9223372036854775807 ∧ (∀ i, w.frozen? ⟨g, i, none⟩ = false) ∧ IR (fun b => b = g) w (some ⟨g, 0, none⟩) n xs := by
  have hl : xs.length = n := by have := h.1; rw [cellI_len] at this; omega
  rcases own_shape h with ⟨rfl, rfl⟩ | ⟨g, cap, rfl, hg, hg2⟩
  · exact .inl ⟨rfl, rfl⟩
  · have hcc : n ≤ cap ∧ cap ≤ 9223372036854775807 := by
      rcases h.2 with ⟨h0, _⟩ | ⟨g', cap', cur, h0, a, b, c, d, _⟩
      · cases h0
      · simp only [Value.slice.injEq] at h0
        obtain ⟨_, _, rfl⟩ := h0
        exact ⟨c, by unfold maxLen at d; omega⟩
    refine .inr ⟨g, cap, rfl, hg, hg2, hcc.1, hcc.2, fun i => ?_, hl, hm, fun e => (by cases e), fun _ => ⟨g, 0, rfl, rfl, fun j x hj => ⟨?_, ?_⟩⟩⟩
    · rcases h.2 with ⟨h0, _⟩ | ⟨g', cap', cur, h0, a, b, _⟩
      · cases h0
      · simp only [Value.slice.injEq, Option.some.injEq, Addr.mk.injEq] at h0
        obtain ⟨⟨rfl, _, _⟩, _, rfl⟩ := h0
        simp [World.frozen?, b]
    · rw [Nat.zero_add]
      refine own_cell h _ _ ?_
      have := cellI_get xs j x 0 hj (by omega)
      rw [show 2 * j + 0 = j * 2 by omega] at this
      exact this
    · rw [Nat.zero_add]
      refine own_cell h _ _ ?_
      have := cellI_get xs j x 1 hj (by omega)
      rw [show 2 * j + 1 = j * 2 + 1 by omega] at this
      exact this

set_option maxRecDepth 10000 in
set_option maxHeartbeats 1000000 in
theorem cloneI2_any (p : Nat → Prop) (w : World) (ao : Option Addr) (n cap : Nat) (xs : List Ix) (h : IR p w ao n xs) :
    Calls Tryd.prog 83 #[.slice ao n cap] w fun e w' => (∃ v, e = .returned v ∧ ((v = .slice none 0 0 ∧ n = 0) ∨ ∃ g cap', v = .slice (some ⟨g, 0, none⟩) n cap' ∧ w.heap.size ≤ g ∧ g < w'.heap.size ∧ n ≤ cap' ∧ cap' ≤ 9223372036854775807 ∧ (∀ i, w'.frozen? ⟨g, i, none⟩ = false) ∧ IR (fun b => b = g) w' (some ⟨g, 0, none⟩) n xs)) ∧ Below w.heap.size w w' := by
  obtain ⟨i0, hi0, hz0, hz1, hz2⟩ := info_parts infoI
  have q29 := fun (w : World) (a : Option Addr) (n c n' c' : Nat) => Lib.run_eql_slice_nil (P := Tryd.prog) w 41 98 a n c n' c' und29
  have hl := h.1
  have hm := h.2.1
  cases ao with
  | none =>
    obtain rfl := h.2.2.1 rfl
    clear h
    go_enter Tryd.func83, Tryd.ntmps83
    go_wp2
    go_ret
    exact ⟨⟨_, rfl, .inl (by simp)⟩, Below.refl _ _⟩
  | some ad =>
    have hA : Hid (∀ j u, (cellI xs)[j]? = some u → w.cell? (ad.add j) = some u) := h.cells
    have HF : Hid ((cellI xs).length = n * 2) := by show _ = _; rw [cellI_len, hl]
    clear h
    go_enter Tryd.func83, Tryd.ntmps83
    go_wp2_with (at_builtin; refine wpList_append_own_at _ rfl _ _ 41 rfl w.heap.size 98 i0 (.agg #[.int .i64 0, .slice none 0 0]) 2 32 und29 hi0 hz0 hz1 hz2 rfl (by decide) _ 0 [] rfl ?d1 ad n cap (cellI xs) rfl ?d2 ?d3 ?d4 ?d6 ?d7 ?d8 ?_)
    case d1 => exact World.ownsRow_made w #[] 0 (Nat.le_refl _) (Nat.zero_le _) (by simp)
    case d2 => exact HF.out
    case d3 => exact fun j u hj => ((bl1 w _).cell (World.block_lt_of_cell? w _ (hA.out j u hj))).trans (hA.out j u hj)
    case d4 => exact fun u hu => cellI_one hu
    case d6 => unfold maxLen; omega
    case d7 => omega
    case d8 => simp
    intro v' w1 hown hgrow hnil hat
    have hr := IR.own2 (xs := xs) (B := w.heap.size) (n := n) (v := v') (w := w1) (by simpa using hown) hm
    have HE : Hid (((v' = .slice none 0 0 ∧ n = 0) ∨ ∃ g cap', v' = .slice (some ⟨g, 0, none⟩) n cap' ∧ w.heap.size ≤ g ∧ g < w1.heap.size ∧ n ≤ cap' ∧ cap' ≤ 9223372036854775807 ∧ (∀ i, w1.frozen? ⟨g, i, none⟩ = false) ∧ IR (fun b => b = g) w1 (some ⟨g, 0, none⟩) n xs) ∧ Below w.heap.size w w1) := ⟨hr, bl_grown (bl1 w _) (by simp) hgrow (by intro k hk; simp [Value.ownBlock] at hk; omega)⟩
    clear hown hgrow hnil hat hr
    go_wp2
    go_ret
    exact ⟨⟨v', rfl, HE.out.1⟩, HE.out.2⟩
set_option maxRecDepth 10000 in
set_option maxHeartbeats 1000000 in
theorem copied2_any (p : Nat → Prop) (w : World) (ao : Option Addr) (n cap : Nat) (ds : List Di) (h : Its p w ao n ds) :
    Calls Tryd.prog 98 #[.slice ao n cap] w fun e w' => ∃ ao' cap', e = .returned (.slice ao' n cap') ∧ n ≤ cap' ∧ cap' ≤ 9223372036854775807 ∧ Its (fun b => w.heap.size ≤ b) w' ao' n ds ∧ Below w.heap.size w w' := by
  obtain ⟨xs, hI, hd, hit⟩ := h
  have hcl := cloneI2_any p w ao n cap xs hI
  have hxl := hI.1
  have hm := hI.2.1
  have HIT : Hid (∀ (j : Nat) (x : Ix) (d : Di), xs[j]? = some x → ds[j]? = some d → It p w x d) := hit
  clear hI hit
  go_enter Tryd.func98, Tryd.ntmps98
  go_wp2_with fail
  refine hcl.mono ?_
  rintro e w0 ⟨⟨v, rfl, hv⟩, hb0⟩
  clear hcl
  rcases hv with ⟨rfl, rfl⟩ | ⟨g, cap', rfl, hg, hg2, hcc1, hcc2, hfz, hIR⟩
  · go_wp2
    refine wp_loop_rounds 1 ?_
    rw [rounds_succ]
    go_wp2
    go_ret
    refine ⟨none, 0, rfl, by omega, by omega, ⟨[], ⟨rfl, by omega, fun _ => rfl, fun h => by omega⟩, hd, fun j x d hx => by simp at hx⟩, hb0⟩
  · have H0 : Hid (IR (fun b => b = g) w0 (some ⟨g, 0, none⟩) n xs ∧ (∀ i, w0.frozen? ⟨g, i, none⟩ = false)) := ⟨hIR, hfz⟩
    clear hIR hfz
    go_wp2_with fail
    go_loopw [4, 9] (fun _ kv wr => ∃ (k : Nat) (ys : List Ix), k ≤ n ∧ kv = .int .i64 (k : Nat) ∧ IR (fun b => b = g) wr (some ⟨g, 0, none⟩) n ys ∧ (∀ j, k ≤ j → ys[j]? = xs[j]?) ∧ (∀ (j : Nat) (y : Ix) (d : Di), j < k → ys[j]? = some y → ds[j]? = some d → It (fun b => w.heap.size ≤ b ∧ b ≠ g) wr y d) ∧ Below w.heap.size w wr ∧ g < wr.heap.size ∧ (∀ i, wr.frozen? ⟨g, i, none⟩ = false)) (fun _ kv _ => n - (intOf kv).toNat)
    case atStart => exact ⟨0, xs, by omega, rfl, H0.out.1, fun _ _ => rfl, fun j y d hj => by omega, hb0, hg2, H0.out.2⟩
    case round =>
      clear H0
      obtain ⟨k, ys, hk, rfl, hIR, hys, hits, hbl, hgl, hfz⟩ := hrel
      by_cases hlt : k < n
      · have hltI : (k : Int) < (n : Int) := by omega
        obtain ⟨x, hx⟩ : ∃ x, xs[k]? = some x := ⟨xs[k]'(by omega), List.getElem?_eq_getElem (by omega)⟩
        obtain ⟨d, hdk⟩ : ∃ d, ds[k]? = some d := ⟨ds[k]'(by omega), List.getElem?_eq_getElem (by omega)⟩
        have hyk : ys[k]? = some x := by rw [hys k (Nat.le_refl _)]; exact hx
        obtain ⟨b, off, e, hp, hc⟩ := hIR.2.2.2 (by omega)
        cases e
        obtain ⟨c0, c1⟩ := hc k x hyk
        simp only [Nat.zero_add] at c0 c1
        have hcb := cloneB_any p wr x.2.1 x.2.2.1 x.2.2.2 d.2 ((HIT.out k x d hx hdk).2.keep (Kp.up hbl))
        have hxd := (HIT.out k x d hx hdk).1
        have HIN : Hid (IR (fun b => b = g) wr (some ⟨g, 0, none⟩) n ys ∧ (∀ j, k ≤ j → ys[j]? = xs[j]?) ∧ (∀ (j : Nat) (y : Ix) (d : Di), j < k → ys[j]? = some y → ds[j]? = some d → It (fun b => w.heap.size ≤ b ∧ b ≠ g) wr y d) ∧ ys[k]? = some x ∧ ds[k]? = some d ∧ x.1 = d.1) := ⟨hIR, hys, hits, hyk, hdk, hxd⟩
        have hfz1 := hfz
        have hk0 : ¬ ((k : Int) < 0) := by omega
        clear hIR hys hits hc hx hdk hyk hxd hp
        go_wp2_with fail
        refine hcb.mono ?_
        rintro e w1 ⟨ao1, cap1, rfl, hrw, hb1⟩
        have c1' : w1.cell? ⟨g, k * 2 + 1, none⟩ = some (.slice x.2.1 x.2.2.1 x.2.2.2) := (hb1.cell hgl).trans c1
        have hf1 : ∀ i, w1.frozen? ⟨g, i, none⟩ = false := fun i => (hb1.frozen hgl).trans (hfz i)
        obtain ⟨w2, hw2⟩ : ∃ w2, w1.setCell ⟨g, k * 2 + 1, none⟩ (.slice ao1 x.2.2.1 cap1) = w2 := ⟨_, rfl⟩
        have HN : Hid (∃ ys' : List Ix, IR (fun b => b = g) w2 (some ⟨g, 0, none⟩) n ys' ∧ (∀ j, k + 1 ≤ j → ys'[j]? = xs[j]?) ∧ (∀ (j : Nat) (y : Ix) (d : Di), j < k + 1 → ys'[j]? = some y → ds[j]? = some d → It (fun b => w.heap.size ≤ b ∧ b ≠ g) w2 y d) ∧ Below w.heap.size w w2 ∧ g < w2.heap.size ∧ (∀ i, w2.frozen? ⟨g, i, none⟩ = false)) := by
          obtain ⟨i1, i2, i3, i4, i5, i6⟩ := HIN.out
          rw [← hw2]
          have hkl := (List.getElem?_eq_some_iff.1 i4).1
          have hbw : Below w.heap.size w w1 := bl_step hbl hb1
          have kp1 : Kp (fun b => w.heap.size ≤ b ∧ b ≠ g) w1 (w1.setCell ⟨g, k * 2 + 1, none⟩ (.slice ao1 x.2.2.1 cap1)) := Kp.setCell (fun b hb => hb.2)
          refine ⟨ys.set k (x.1, ao1, x.2.2.1, cap1), (i1.keep (Kp.up hb1)).set i4 ao1 x.2.2.1 cap1, fun j hj => by rw [List.getElem?_set_ne (by omega)]; exact i2 j (by omega), fun j y d' hj hy hd' => ?_, hbw.setCell (by omega) _, ?_, fun i => by rw [World.frozen?_setCell]; exact hf1 i⟩
          · by_cases e : j = k
            · subst e
              rw [List.getElem?_set_self hkl] at hy
              cases hy
              rw [i5] at hd'
              cases hd'
              refine ⟨i6, ?_⟩
              refine (hrw.imp (fun b _ hb => ?_)).keep kp1
              have := hbl.size
              exact ⟨by omega, by omega⟩
            · rw [List.getElem?_set_ne (by omega)] at hy
              exact ((i3 j y d' (by omega) hy hd').keep (Kp.up hb1)).keep kp1
          · have := hb1.size
            simp [World.setCell]; omega
        clear hcb hrw hb1 HIN hbl
        go_wp2_with fail
        (try simp only [hw2])
        clear hw2
        go_roundw
        case rel =>
          obtain ⟨ys', n1, n2, n3, n4, n5, n6⟩ := HN.out
          first | exact ⟨k + 1, ys', by omega, by go_num, n1, n2, n3, n4, n5, n6⟩ | ((repeat apply Exists.intro); exact ⟨⟨k + 1, ys', by omega, by go_num, n1, n2, n3, n4, n5, n6⟩, rfl⟩)
        case measure => simp [intOf]; omega
      · obtain rfl : k = n := by omega
        have HE : Hid (Its (fun b => w.heap.size ≤ b) wr (some ⟨g, 0, none⟩) k ds ∧ Below w.heap.size w wr) := by
          refine ⟨⟨ys, hIR.imp (fun b _ hb => by rw [hb]; exact hg), hd, fun j y d hy hd' => (hits j y d ?_ hy hd').imp (fun b _ hb => hb.1)⟩, hbl⟩
          have := (List.getElem?_eq_some_iff.1 hy).1
          have := hIR.1
          omega
        clear hIR hys hits hbl hfz
        go_wp2
        go_ret
        exact ⟨some ⟨g, 0, none⟩, cap', rfl, hcc1, hcc2, HE.out⟩
end Go.Proofs.YtlonbbepoamnmaaDoor
