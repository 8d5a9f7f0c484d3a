/-
  How much a frame holds, by the document's answer: some answer comes (the sum may go round).
-/
import Derived.Test.YtlonbbepoamnmaaDoorMArgs
namespace Go.Proofs.YtlonbbepoamnmaaDoor
open Go.RowKit
set_option linter.unusedVariables false
set_option linter.unusedSimpArgs false

/-- Some truth is answered. -/
def SomeBool (e : Ending) : Prop := ∃ r, e = .returned (.bool r)
set_option maxRecDepth 20000 in
set_option maxHeartbeats 2000000 in
theorem great_any (w : World) (F : PF) (a : Fa) (h : FArg w F a) : Calls Tryd.prog 13 #[fval F a] w fun e w' => SomeBool e ∧ Up w w' := by
  obtain ⟨w0, hw0⟩ : ∃ w0, w.alloc (.cells (fcells F a) 43) = w0 := ⟨_, rfl⟩
  have hu0 : Up w w0 := by rw [← hw0]; exact (Up.refl _).alloc _
  have hbx : w0.heap[w.heap.size]? = some (.cells (fcells F a) 43 (0, 0)) := by rw [← hw0]; exact heap_alloc_new _ _
  have c9 : w0.cell? ⟨w.heap.size, 9, none⟩ = some (.slice a.so F.st.length a.sc) := by rw [cell_of_row _ _ _ _ 43 (0, 0) hbx]; rfl
  have c11 : w0.cell? ⟨w.heap.size, 11, none⟩ = some (.slice a.mo F.ms.length a.mc) := by rw [cell_of_row _ _ _ _ 43 (0, 0) hbx]; rfl
  have c12 : w0.cell? ⟨w.heap.size, 12, none⟩ = some (.slice a.io F.it.length a.ic) := by rw [cell_of_row _ _ _ _ 43 (0, 0) hbx]; rfl
  have h0 := h.keep (Kp.up hu0.bl)
  obtain ⟨sn, hsn⟩ : ∃ sn, F.st.length = sn := ⟨_, rfl⟩
  obtain ⟨mn, hmn⟩ : ∃ mn, F.ms.length = mn := ⟨_, rfl⟩
  obtain ⟨inn, hinn⟩ : ∃ inn, F.it.length = inn := ⟨_, rfl⟩
  obtain ⟨MS, hms⟩ := h0.ms
  obtain ⟨IS, his, hil, hix⟩ := h0.it
  obtain ⟨SS, hss, hsl, hsx⟩ := h0.st
  rw [hmn] at hms
  rw [hinn] at his
  rw [hsn] at hss
  have HM : Hid (MR w0 a.mo mn MS) := hms
  have HIT : Hid (IR (fun _ => True) w0 a.io inn IS) := his
  have HST : Hid (SR (fun _ => True) w0 a.so sn SS ∧ ∀ (j : Nat) (x : Sx), SS[j]? = some x → ∃ ZS, IR (fun _ => True) w0 x.2.2.2.1 x.2.2.2.2.1 ZS) := ⟨hss, fun j x hx => by
    have hj := (List.getElem?_eq_some_iff.1 hx).1
    have hl1 := hss.1
    obtain ⟨ZS, hz, _⟩ := (hsx j x F.st[j] hx (List.getElem?_eq_getElem (by omega))).2.2.2
    exact ⟨ZS, hz⟩⟩
  have hmn9 : mn ≤ 9223372036854775807 := hms.2.1
  have hin9 : inn ≤ 9223372036854775807 := by have := his.2.1; omega
  have hsn9 : sn ≤ 9223372036854775807 := hss.2.1
  have HLM : Hid (MS.length = mn ∧ IS.length = inn ∧ SS.length = sn) := ⟨hms.1, his.1, hss.1⟩
  unfold fval
  unfold fcells at hw0 ⊢
  simp only [hsn, hmn, hinn] at hw0 c9 c11 c12 ⊢
  clear h h0 hbx hms his hix hss hsx hil hsl hmn hinn hsn
  go_enter Tryd.func13, Tryd.ntmps13
  go_wp2
  go_loop [3, 4] (fun nv iv => ∃ (k : Nat) (z : Int), k ≤ mn ∧ iv = .int .i64 k ∧ nv = .int .i64 z) (fun _ iv => mn - (intOf iv).toNat)
  case atStart => exact ⟨0, _, by omega, rfl, rfl⟩
  case round =>
    obtain ⟨k, z, hk, rfl, rfl⟩ := hrel
    have hk0 : ¬ ((k : Int) < 0) := by omega
    by_cases hlt : k < mn
    · have hltI : (k : Int) < (mn : Int) := by omega
      have hL1 := HLM.out.1
      obtain ⟨x, hx⟩ : ∃ x, MS[k]? = some x := ⟨MS[k]'(by omega), List.getElem?_eq_getElem (by omega)⟩
      obtain ⟨b, off, hao, hc⟩ := HM.out.2.2 (by omega)
      have e0 := hc k x hx
      rw [hao] at c11
      clear hc hx hL1
      go_wp2
      go_round
      case rel => exact ⟨k + 1, _, by omega, by go_num, rfl⟩
      case measure => simp [intOf]; omega
    · obtain rfl : k = mn := by omega
      have hltI : ¬ ((k : Int) < (k : Int)) := by omega
      go_wp2
      go_loop [3, 5] (fun nv iv => ∃ (j : Nat) (z : Int), j ≤ inn ∧ iv = .int .i64 j ∧ nv = .int .i64 z) (fun _ iv => inn - (intOf iv).toNat)
      case atStart => exact ⟨0, _, by omega, rfl, rfl⟩
      case round =>
        obtain ⟨j, y, hj, rfl, rfl⟩ := hrel
        have hj0 : ¬ ((j : Int) < 0) := by omega
        by_cases hlt : j < inn
        · have hltJ : (j : Int) < (inn : Int) := by omega
          have hL1 := HLM.out.2.1
          obtain ⟨x, hx⟩ : ∃ x, IS[j]? = some x := ⟨IS[j]'(by omega), List.getElem?_eq_getElem (by omega)⟩
          obtain ⟨b, off, hao, _, hc⟩ := HIT.out.2.2.2 (by omega)
          have e1 := (hc j x hx).2
          rw [hao] at c12
          clear hc hx hL1
          go_wp2
          go_round
          case rel => exact ⟨j + 1, _, by omega, by go_num, rfl⟩
          case measure => simp [intOf]; omega
        · obtain rfl : j = inn := by omega
          have hltJ : ¬ ((j : Int) < (j : Int)) := by omega
          go_wp2
          go_loop [3, 6, 7] (fun nv iv _ => ∃ (i : Nat) (z : Int), i ≤ sn ∧ iv = .int .i64 i ∧ nv = .int .i64 z) (fun _ iv _ => sn - (intOf iv).toNat)
          case atStart => exact ⟨0, _, by omega, rfl, rfl⟩
          case round =>
            obtain ⟨i, u, hi, rfl, rfl⟩ := hrel
            have hi0 : ¬ ((i : Int) < 0) := by omega
            by_cases hlt : i < sn
            · have hltI2 : (i : Int) < (sn : Int) := by omega
              have hL1 := HLM.out.2.2
              obtain ⟨x, hx⟩ : ∃ x, SS[i]? = some x := ⟨SS[i]'(by omega), List.getElem?_eq_getElem (by omega)⟩
              obtain ⟨b, off, hao, _, hc⟩ := HST.out.1.2.2.2 (by omega)
              have e3 := (hc i x hx).2.2.2
              obtain ⟨ZS, hzs⟩ := HST.out.2 i x hx
              have HZ : Hid (IR (fun _ => True) w0 x.2.2.2.1 x.2.2.2.2.1 ZS) := hzs
              have hxn : x.2.2.2.2.1 ≤ 9223372036854775807 := by have := hzs.2.1; omega
              have c9' := c9
              rw [hao] at c9'
              clear hc hx hL1 hzs
              go_wp2
              go_loop [3, 7] (fun nv iv => ∃ (q : Nat) (z : Int), q ≤ x.2.2.2.2.1 ∧ iv = .int .i64 q ∧ nv = .int .i64 z) (fun _ iv => x.2.2.2.2.1 - (intOf iv).toNat)
              case atStart => exact ⟨0, _, by omega, rfl, rfl⟩
              case round =>
                obtain ⟨q, v, hq, rfl, rfl⟩ := hrel
                have hq0 : ¬ ((q : Int) < 0) := by omega
                by_cases hlt : q < x.2.2.2.2.1
                · have hltQ : (q : Int) < (x.2.2.2.2.1 : Int) := by omega
                  have hZl := HZ.out.1
                  obtain ⟨y, hy⟩ : ∃ y, ZS[q]? = some y := ⟨ZS[q]'(by omega), List.getElem?_eq_getElem (by omega)⟩
                  obtain ⟨b2, off2, hao2, _, hc2⟩ := HZ.out.2.2.2 (by omega)
                  have e4 := (hc2 q y hy).2
                  rw [hao2] at e3
                  clear hc2 hy hZl
                  go_wp2
                  go_round
                  case rel => exact ⟨q + 1, _, by omega, by go_num, rfl⟩
                  case measure => simp [intOf]; omega
                · have hltQ : ¬ ((q : Int) < (x.2.2.2.2.1 : Int)) := by omega
                  have hq1 : q = x.2.2.2.2.1 := by omega
                  subst hq1
                  go_wp2
                  go_round
                  case rel => first | exact ⟨i + 1, _, by omega, by go_num, rfl⟩ | exact ⟨i + 1, by omega, by go_num⟩
                  case measure => simp [intOf]; omega
            · obtain rfl : i = sn := by omega
              have hltI2 : ¬ ((i : Int) < (i : Int)) := by omega
              go_wp2
              go_ret
              exact ⟨⟨_, rfl⟩, by first | exact hu0 | (rw [← hw0] at hu0; exact hu0)⟩
end Go.Proofs.YtlonbbepoamnmaaDoor
