/-
  The document's Views: are the traces those of one group?
-/
import Derived.Test.YthnbijnpbjfoaaaJInview
import Derived.Test.YthnbijnpbjfoaaaJPlain
namespace Go.Proofs.Ythnbijnpbjfoaaa
open Go.RowKit Go.Sort
set_option linter.unusedVariables false
set_option linter.unusedSimpArgs false

set_option maxRecDepth 10000 in
set_option maxHeartbeats 4000000 in
theorem refViews14_any (w : World) (p : Nat → Prop) (ao : Option Addr) (N cap : Nat) (ess : List (List Ev)) (h : Evs p w ao N ess) (hok : ∀ es ∈ ess, ∀ e ∈ es, EvOk e) (h9 : ∀ es ∈ ess, es.length ≤ 9000) (hN : N ≤ 1000) :
    Calls Try.prog 28 #[.slice ao N cap] w fun e w' => BoolPostB w (DocViews ess) e w' := by
  have hl : ess.length = N := Lr.len h
  have HI : Hid (Evs p w ao N ess ∧ (∀ es ∈ ess, ∀ e ∈ es, EvOk e) ∧ ∀ es ∈ ess, es.length ≤ 9000) := ⟨h, hok, h9⟩
  clear h hok h9
  go_enter Try.func28, Try.ntmps28
  go_wp2_with fail
  go_loopw [3] (fun iv wr => ∃ i : Nat, i ≤ N ∧ iv = .int .i64 (i : Nat) ∧ (∀ (j : Nat) es, j < i → ess[j]? = some es → AloneOk j es) ∧ RowKit.Below w.heap.size w wr) (fun iv _ => N - (intOf iv).toNat)
  case atStart => exact ⟨0, by omega, rfl, fun j y hj => by omega, Below.refl _ _⟩
  case round =>
    obtain ⟨i, hi, rfl, hno, hbl⟩ := hrel
    have HN0 : Hid (∀ (j : Nat) es, j < i → ess[j]? = some es → AloneOk j es) := hno
    have HB : Hid (RowKit.Below w.heap.size w wr) := hbl
    clear hno hbl
    by_cases hlt : i < N
    · have hltI : (i : Int) < (N : Int) := by omega
      have hi0 : ¬ ((i : Int) < 0) := by omega
      obtain ⟨es, hes⟩ : ∃ es, ess[i]? = some es := ⟨ess[i]'(by omega), List.getElem?_eq_getElem (by omega)⟩
      have HES : Hid (ess[i]? = some es) := hes
      obtain ⟨tb, tf, ⟨ra, rn, rc⟩, hao, hc, _, hev⟩ := Lr.at (HI.out.1.keep HB.out (Kp.up HB.out)) hes
      subst hao
      simp only at hc hev
      have hmem := List.mem_of_getElem? hes
      have hrn : rn ≤ 9000 := by have := hev.1; have := HI.out.2.2 es hmem; omega
      have hal := alone_any wr p ra rn rc es hev (HI.out.2.1 es hmem) hrn i
      clear hes hev hmem
      go_wp2_with fail
      refine hal.mono ?_
      rintro _ w2 ⟨⟨b, rfl, hb⟩, hb2⟩
      have HB2 : Hid ((b = true ↔ AloneOk i es) ∧ RowKit.Below w.heap.size w w2) := ⟨hb, bl_step HB.out hb2⟩
      clear hb hb2 hal
      cases b with
      | false =>
        have HNN : Hid (¬ DocViews ess) := fun hd => by
          have := HB2.out.1.2 (hd.1 i es HES.out)
          cases this
        go_wp2
        go_ret
        exact ⟨⟨false, rfl, by simp [HNN.out]⟩, HB2.out.2⟩
      | true =>
        have HN : Hid (∀ (j : Nat) fs, j < i + 1 → ess[j]? = some fs → AloneOk j fs) := fun j fs hj hfs => by
          by_cases e : j = i
          · subst e
            rw [HES.out] at hfs; cases hfs
            exact HB2.out.1.1 rfl
          · exact HN0.out j fs (by omega) hfs
        go_wp2
        go_roundw
        case rel => exact ⟨i + 1, by omega, by go_num, HN.out, HB2.out.2⟩
        case measure => simp [intOf]; omega
    · obtain rfl : i = N := by omega
      have HAL : Hid (∀ (j : Nat) es, ess[j]? = some es → AloneOk j es) := fun j es hj => HN0.out j es (by have := (List.getElem?_eq_some_iff.1 hj).1; omega) hj
      clear HN0
      generalize wr = w3 at *
      go_wp2_with fail
      go_loopw [4, 5, 6] (fun iv _ _ wr => ∃ k : Nat, k ≤ i ∧ iv = .int .i64 (k : Nat) ∧ (∀ (j : Nat) es, j < k → ess[j]? = some es → ∀ v ∈ viewsE es, InV ess j es v) ∧ RowKit.Below w.heap.size w wr) (fun iv _ _ _ => i - (intOf iv).toNat)
      case atStart => exact ⟨0, by omega, rfl, fun j es hj => by omega, HB.out⟩
      case round =>
        obtain ⟨k, hk, rfl, hno, hbl⟩ := hrel
        have HN0 : Hid (∀ (j : Nat) es, j < k → ess[j]? = some es → ∀ v ∈ viewsE es, InV ess j es v) := hno
        have HB4 : Hid (RowKit.Below w.heap.size w wr) := hbl
        clear hno hbl HB
        by_cases hlt : k < i
        · have hltI : (k : Int) < (i : Int) := by omega
          have hk0 : ¬ ((k : Int) < 0) := by omega
          obtain ⟨es, hes⟩ : ∃ es, ess[k]? = some es := ⟨ess[k]'(by omega), List.getElem?_eq_getElem (by omega)⟩
          have HES : Hid (ess[k]? = some es) := hes
          obtain ⟨tb, tf, ⟨ra, rn, rc⟩, hao, hc, _, hev⟩ := Lr.at (HI.out.1.keep HB4.out (Kp.up HB4.out)) hes
          subst hao
          simp only at hc hev
          have hmem := List.mem_of_getElem? hes
          have hrn : rn ≤ 9000 := by have := hev.1; have := HI.out.2.2 es hmem; omega
          have hvs := refViews_any wr p ra rn rc es hev hrn
          have HVO : Hid (∀ v ∈ viewsE es, v.2.2 < 65536) := fun v hv => by
            unfold viewsE at hv
            obtain ⟨e, he, rfl⟩ := List.mem_map.1 hv
            exact (HI.out.2.1 es hmem e (List.mem_filter.1 he).1).2.2.2.2.1
          have hvl := viewsE_len es
          have HVL : Hid ((viewsE es).length ≤ 9000) := Nat.le_trans hvl (HI.out.2.2 es hmem)
          clear hes hev hmem hvl
          go_wp2_with fail
          refine hvs.mono ?_
          rintro e w5 ⟨⟨v, rfl, hown⟩, hb5⟩
          obtain ⟨⟨va, vn, vc⟩, rfl, hvn, hcl⟩ := VwR.shape hown
          simp only at hvn hcl
          have HC : Hid ((∀ (k : Nat) x, (viewsE es)[k]? = some x → ∃ g, va = some ⟨g, 0, none⟩ ∧ ∀ (j : Nat) u, (cellsV x)[j]? = some u → w5.cell? ⟨g, k * 3 + j, none⟩ = some u) ∧ vn = (viewsE es).length ∧ RowKit.Below w.heap.size w w5) := ⟨hcl, hvn, bl_step HB4.out hb5⟩
          have hvn9 : vn ≤ 9000 := by have := HVL.out; omega
          clear hvs hown hb5 hcl hvn hc HB4
          go_wp2_with fail
          go_loopw [6] (fun mv wr => ∃ m : Nat, m ≤ vn ∧ mv = .int .i64 (m : Nat) ∧ (∀ (j : Nat) y, j < m → (viewsE es)[j]? = some y → InV ess k es y) ∧ RowKit.Below w5.heap.size w5 wr) (fun mv _ => vn - (intOf mv).toNat)
          case atStart => exact ⟨0, by omega, rfl, fun j y hj => by omega, Below.refl _ _⟩
          case round =>
            obtain ⟨m, hm, rfl, hno, hbl⟩ := hrel
            have HM0 : Hid (∀ (j : Nat) y, j < m → (viewsE es)[j]? = some y → InV ess k es y) := hno
            have HB6 : Hid (RowKit.Below w5.heap.size w5 wr) := hbl
            clear hno hbl
            by_cases hmt : m < vn
            · have hmtI : (m : Int) < (vn : Int) := by omega
              have hm0 : ¬ ((m : Int) < 0) := by omega
              obtain ⟨x, hx⟩ : ∃ x, (viewsE es)[m]? = some x := ⟨(viewsE es)[m]'(by have := HC.out.2.1; omega), List.getElem?_eq_getElem _⟩
              obtain ⟨g, hra, hc⟩ := HC.out.1 m x hx
              have HX : Hid ((viewsE es)[m]? = some x ∧ x.2.2 < 65536) := ⟨hx, HVO.out x (List.mem_of_getElem? hx)⟩
              have hb6 := bl_step HC.out.2.2 HB6.out
              have h3 : ∀ (j : Nat) u, (cellsV x)[j]? = some u → wr.cell? ⟨g, m * 3 + j, none⟩ = some u := fun j u hj => bl_cell HB6.out (hc j u hj)
              have hin := inview_any wr p (some ⟨tb, tf, none⟩) i cap ess (HI.out.1.keep hb6 (Kp.up hb6)) HI.out.2.2 hN k es HES.out x HX.out.2
              subst hra
              clear hx hc hb6
              go_wp2_with (refine wpList_load_Vw rfl (.tmp 41) rfl g (m * 3) rfl x h3 ?_)
              refine hin.mono ?_
              rintro _ w7 ⟨⟨b, rfl, hb⟩, hb7⟩
              have HB7 : Hid ((b = true ↔ InV ess k es x) ∧ RowKit.Below w5.heap.size w5 w7) := ⟨hb, bl_step HB6.out hb7⟩
              clear hb hb7 hin h3
              cases b with
              | false =>
                have HNN : Hid (¬ DocViews ess) := fun hd => by
                  have := HB7.out.1.2 (hd.2 k es HES.out x (List.mem_of_getElem? HX.out.1))
                  cases this
                have HBB : Hid (RowKit.Below w.heap.size w w7) := bl_step HC.out.2.2 HB7.out.2
                go_wp2
                go_ret
                exact ⟨⟨false, rfl, by simp [HNN.out]⟩, HBB.out⟩
              | true =>
                have HN : Hid (∀ (j : Nat) y, j < m + 1 → (viewsE es)[j]? = some y → InV ess k es y) := fun j y hj hy => by
                  by_cases e : j = m
                  · subst e
                    rw [HX.out.1] at hy; cases hy
                    exact HB7.out.1.1 rfl
                  · exact HM0.out j y (by omega) hy
                go_wp2
                go_roundw
                case rel => exact ⟨m + 1, by omega, by go_num, HN.out, HB7.out.2⟩
                case measure => simp [intOf]; omega
            · obtain rfl : m = vn := by omega
              have HN : Hid (∀ (j : Nat) fs, j < k + 1 → ess[j]? = some fs → ∀ v ∈ viewsE fs, InV ess j fs v) := fun j fs hj hfs v hv => by
                by_cases e : j = k
                · subst e
                  rw [HES.out] at hfs; cases hfs
                  obtain ⟨t, ht⟩ := List.getElem?_of_mem hv
                  exact HM0.out t v (by have := (List.getElem?_eq_some_iff.1 ht).1; have := HC.out.2.1; omega) ht
                · exact HN0.out j fs (by omega) hfs v hv
              have HBB : Hid (RowKit.Below w.heap.size w wr) := bl_step HC.out.2.2 HB6.out
              go_wp2
              go_roundw
              case rel => first | exact ⟨k + 1, by omega, by go_num, HN.out, HBB.out⟩ | ((repeat apply Exists.intro); exact ⟨⟨k + 1, by omega, by go_num, HN.out, HBB.out⟩, rfl⟩)
              case measure => simp [intOf]; omega
        · obtain rfl : k = i := by omega
          have HYES : Hid (DocViews ess) := ⟨HAL.out, fun j es hj => HN0.out j es (by have := (List.getElem?_eq_some_iff.1 hj).1; omega) hj⟩
          go_wp2
          go_ret
          exact ⟨⟨true, rfl, by simp [HYES.out]⟩, HB4.out⟩
set_option maxRecDepth 10000 in
set_option maxHeartbeats 1000000 in
theorem refViews19_any (w : World) (p : Nat → Prop) (ao : Option Addr) (N cap : Nat) (ess : List (List Ev)) (h : Evs p w ao N ess) (hok : ∀ es ∈ ess, ∀ e ∈ es, EvOk e) (h9 : ∀ es ∈ ess, es.length ≤ 9000) (hN : N ≤ 1000) :
    Calls Try.prog 16 #[.slice ao N cap] w fun e w' => BoolPostB w (DocViews ess) e w' := by
  have hv := refViews14_any w p ao N cap ess h hok h9 hN
  clear h hok h9
  go_enter Try.func16, Try.ntmps16
  go_wp2_with fail
  refine hv.mono ?_
  rintro _ w2 ⟨⟨b, rfl, hb⟩, hb2⟩
  have HB : Hid ((b = true ↔ DocViews ess) ∧ RowKit.Below w.heap.size w w2) := ⟨hb, hb2⟩
  clear hb hb2
  go_wp2
  go_ret
  exact ⟨⟨b, rfl, HB.out.1⟩, HB.out.2⟩
end Go.Proofs.Ythnbijnpbjfoaaa
