/-
  What one lacks, by the document.
-/
import Derived.Test.YtbdbdpgnilhcpaaSRest
namespace Go.Proofs.Ytbdbdpgnilhcpaa
open Go.RowKit Go.Sort
set_option linter.unusedVariables false

set_option maxRecDepth 10000 in
theorem refEnd_any (w : World) (x : Sx) (hx : OkS x) : Calls Try.prog 15 #[sta x] w fun e w' => e = .returned (.int .i64 (endS x)) ∧ Up w w' := by
  obtain ⟨h1, h2, h3⟩ := hx
  obtain ⟨n, p, f, ao, l, c⟩ := x
  unfold sta endS
  simp only at *
  have hr : -9223372036854775808 ≤ f + (l : Int) ∧ f + (l : Int) ≤ 9223372036854775807 := by omega
  go_enter Try.func15, Try.ntmps15
  go_wp2
  go_ret
  exact ⟨rfl, (Up.refl _).alloc _⟩

set_option maxRecDepth 10000 in
set_option maxHeartbeats 2000000 in
theorem refRest_any (p : Nat → Prop) (w : World) (ao : Option Addr) (n cap : Nat) (ss : List Sx) (es : List (List Di)) (h : Sts p w ao n ss es) (hok : ∀ x ∈ ss, OkS x) (hcp : ∀ x ∈ ss, x.2.2.2.2.1 ≤ x.2.2.2.2.2 ∧ x.2.2.2.2.2 ≤ 9223372036854775807) (vn : Nat) (vp had : Int) (hh : -9223372036854775808 ≤ had ∧ had ≤ 9223372036854775807) :
    Calls Try.prog 20 #[.slice ao n cap, vid vn vp, .int .i64 had] w fun e w' => RestPost (restD ss es vn vp had) w e w' := by
  unfold vid
  obtain ⟨r, HR⟩ : ∃ r, Hid (restD ss es vn vp had = r) := ⟨_, rfl⟩
  rw [HR.out]
  have u0 : Up w (w.alloc (.cells #[.int .u64 (vn : Nat), .int .i64 vp] 28)) := (Up.refl _).alloc _
  have HS : Hid (Sts p w ao n ss es ∧ (∀ x ∈ ss, OkS x) ∧ (∀ x ∈ ss, x.2.2.2.2.1 ≤ x.2.2.2.2.2 ∧ x.2.2.2.2.2 ≤ 9223372036854775807)) := ⟨h, hok, hcp⟩
  have k0 : (w.alloc (.cells #[.int .u64 (vn : Nat), .int .i64 vp] 28)).cell? ⟨w.heap.size, 0, none⟩ = some (.int .u64 (vn : Nat)) := cell_box w _ 28 0 _ rfl
  have k1 : (w.alloc (.cells #[.int .u64 (vn : Nat), .int .i64 vp] 28)).cell? ⟨w.heap.size, 1, none⟩ = some (.int .i64 vp) := cell_box w _ 28 1 _ rfl
  have hl := h.1.1
  have hmax := h.1.2.1
  clear h hok hcp
  by_cases hv0 : vn = 0
  · have hr : r = (0, []) := by rw [← HR.out, restD, if_pos hv0]
    subst hr
    subst hv0
    clear HR HS k0 k1
    go_enter Try.func20, Try.ntmps20
    go_wp2
    go_ret2
    exact ⟨none, 0, 0, rfl, Its.nil _ _, u0.bl⟩
  · have hv0I : ((vn : Int) == 0) = false := by simp; omega
    have HR2 : Hid (∀ k y e, (∀ x ∈ ss.take k, ¬ (x.1 = vn ∧ x.2.1 = vp)) → ss[k]? = some y → es[k]? = some e → (y.1 = vn ∧ y.2.1 = vp) → r = if had < y.2.2.1 ∨ endS y < had then (1, []) else (0, e.drop (had - y.2.2.1).toNat)) := fun k y e h1 h2 h3 h4 => by
      rw [← HR.out, restD, if_neg hv0, find_some h1 h2 h4]
      simp only [h2, h3]
    have HR3 : Hid ((∀ x ∈ ss, ¬ (x.1 = vn ∧ x.2.1 = vp)) → r = (6, [])) := fun h => by rw [← HR.out, restD, if_neg hv0, find_none h]
    clear HR
    go_enter Try.func20, Try.ntmps20
    go_wp2_with fail
    go_loopw [8] (fun iv wr => ∃ k : Nat, k ≤ n ∧ iv = .int .i64 k ∧ (∀ x ∈ ss.take k, ¬ (x.1 = vn ∧ x.2.1 = vp)) ∧ Up w wr ∧ wr.cell? ⟨w.heap.size, 0, none⟩ = some (.int .u64 (vn : Nat)) ∧ wr.cell? ⟨w.heap.size, 1, none⟩ = some (.int .i64 vp)) (fun iv _ => n - (intOf iv).toNat)
    case atStart => exact ⟨0, by omega, rfl, by simp, u0, k0, k1⟩
    case round =>
      clear k0 k1 u0
      obtain ⟨k, hk, rfl, hno, hu, k0, k1⟩ := hrel
      have HN : Hid (∀ x ∈ ss.take k, ¬ (x.1 = vn ∧ x.2.1 = vp)) := hno
      clear hno
      by_cases hlt : k < n
      · have hltI : (k : Int) < (n : Int) := by omega
        obtain ⟨y, hy⟩ : ∃ y, ss[k]? = some y := ⟨ss[k]'(by omega), List.getElem?_eq_getElem (by omega)⟩
        obtain ⟨es0, hes⟩ : ∃ e, es[k]? = some e := ⟨es[k]'(by have := HS.out.1.2.1; omega), List.getElem?_eq_getElem _⟩
        obtain ⟨b, off, e, _, hc⟩ := (HS.out.1.1.up hu.bl).2.2.2 (by omega)
        subst e
        obtain ⟨c0, c1, c2, c3⟩ := hc k y hy
        have hk0 : ¬ ((k : Int) < 0) := by omega
        have heq := fun W => vid_equal y.1 y.2.1 vn vp W
        have HY : Hid (ss[k]? = some y) := hy
        by_cases hin : y.1 = vn ∧ y.2.1 = vp
        · rw [decide_eq_true hin] at heq
          have hr := HR2.out k y es0 HN.out hy hes hin
          have hyok := HS.out.2.1 y (List.mem_of_getElem? hy)
          have hycp := HS.out.2.2 y (List.mem_of_getElem? hy)
          have hits := HS.out.1.2.2 k y es0 hy hes
          have HI : Hid (Its p w y.2.2.2.1 y.2.2.2.2.1 es0) := hits
          have hend := fun W => refEnd_any W y hyok
          have hOk := hyok
          unfold OkS at hOk
          obtain ⟨o1, o2, o3⟩ := hOk
          unfold sta at hend
          have hes0 : endS y = y.2.2.1 + (y.2.2.2.2.1 : Nat) := rfl
          obtain ⟨en, hen⟩ : ∃ en, endS y = en := ⟨_, rfl⟩
          rw [hen] at hend hr hes0
          clear hy hes hits hyok HR2 HR3 HS hc hen HN HY hin
          go_wp2_with fail
          go_quiet (fail)
          have hun := hu.drewN nq
          by_cases f0 : had < y.2.2.1
          · have hr' : r = (1, []) := by rw [hr, if_pos (.inl f0)]
            clear hr
            subst hr'
            go_wp2
            go_ret2
            exact ⟨none, 0, 0, rfl, Its.nil _ _, hun.bl⟩
          · by_cases f1 : en < had
            · have hr' : r = (1, []) := by rw [hr, if_pos (.inr f1)]
              clear hr
              subst hr'
              go_wp2_with fail
              refine (hend _).mono ?_
              rintro e w3 ⟨rfl, hu3⟩
              have hu03 := hun.trans hu3
              clear hend hu3
              go_wp2
              go_ret2
              exact ⟨none, 0, 0, rfl, Its.nil _ _, hu03.bl⟩
            · obtain ⟨t, htI⟩ : ∃ t : Nat, had - y.2.2.1 = (t : Int) := ⟨(had - y.2.2.1).toNat, by omega⟩
              have hr' : r = (0, es0.drop t) := by rw [hr, if_neg (by omega), htI, Int.toNat_natCast]
              clear hr
              subst hr'
              have ht : t ≤ y.2.2.2.2.1 := by omega
              go_wp2_with fail
              refine (hend _).mono ?_
              rintro e w3 ⟨rfl, hu3⟩
              have hu03 := hun.trans hu3
              have c0 := hu3.cell (show (wr.drewN nq).cell? _ = _ from c0)
              have c1 := hu3.cell (show (wr.drewN nq).cell? _ = _ from c1)
              have c2 := hu3.cell (show (wr.drewN nq).cell? _ = _ from c2)
              have c3 := hu3.cell (show (wr.drewN nq).cell? _ = _ from c3)
              have HK : Hid (Its p w3 y.2.2.2.1 y.2.2.2.2.1 es0) := HI.out.keep (Kp.up hu03.bl)
              clear hend hu3 HI hes0 f0 hh heq
              obtain ⟨yn, yp, yf, yao, yl, yc⟩ := y
              simp only at *
              cases yao with
              | none =>
                have hyl : yl = 0 := by obtain ⟨xs, hx, _⟩ := HK.out; exact hx.2.2.1 rfl
                subst hyl
                obtain rfl : t = 0 := by omega
                go_wp2_with fail
                go_quiet (fail)
                go_wp2
                go_ret2
                exact ⟨none, 0, yc, rfl, (HK.out.imp (fun _ _ _ => trivial)).keep (Kp.up ((Up.refl _).drewN _).bl), (hu03.drewN _).bl⟩
              | some a =>
                have htI' : (t : Int) ≤ (yl : Int) := by omega
                by_cases hck : yc = t
                · subst hck
                  obtain rfl : yl = yc := by omega
                  have hss : yl - yl = 0 := Nat.sub_self _
                  go_wp2_with fail
                  go_quiet (fail)
                  go_wp2
                  go_ret2
                  refine ⟨some a, 0, 0, rfl, ?_, (hu03.drewN _).bl⟩
                  have := HK.out.tail (k := yl) (Nat.le_refl _)
                  obtain ⟨xs, ⟨h1, h2, h3, h4⟩, hd, hit⟩ := this
                  rw [Nat.sub_self] at h1 hd
                  exact ⟨xs, ⟨h1, by omega, fun _ => rfl, fun h => by omega⟩, hd, fun j x d hx => by rw [List.length_eq_zero_iff.1 h1] at hx; simp at hx⟩
                · have hck' : ¬ (yc - t = 0) := by omega
                  go_wp2_with fail
                  go_quiet (fail)
                  go_wp2
                  go_ret2
                  exact ⟨some (a.add (t * 2)), yl - t, yc - t, rfl, ((HK.out.tail ht).imp (fun _ _ _ => trivial)).keep (Kp.up ((Up.refl _).drewN _).bl), (hu03.drewN _).bl⟩
        · rw [decide_eq_false hin] at heq
          have HN' : Hid (∀ x ∈ ss.take (k + 1), ¬ (x.1 = vn ∧ x.2.1 = vp)) := by
            intro x hx
            rw [List.take_add_one, HY.out] at hx
            simp only [Option.toList_some, List.mem_append, List.mem_singleton] at hx
            rcases hx with hx | rfl
            · exact HN.out x hx
            · exact hin
          clear hy hes HR2 HR3 HS hc hin
          go_wp2_with fail
          go_quiet (fail)
          have hun := hu.drewN nq
          go_wp2
          go_roundw
          case rel => first | exact ⟨k + 1, by omega, by go_num, HN'.out, hun, k0, k1⟩ | ((repeat apply Exists.intro); exact ⟨⟨k + 1, by omega, by go_num, HN'.out, hun, k0, k1⟩, rfl⟩)
          case measure => simp [intOf]; omega
      · obtain rfl : k = n := by omega
        have hr := HR3.out (by have := HN.out; rwa [List.take_of_length_le (by omega)] at this)
        subst hr
        clear HS HR2 HR3
        go_wp2
        go_ret2
        exact ⟨none, 0, 0, rfl, Its.nil _ _, hu.bl⟩
end Go.Proofs.Ytbdbdpgnilhcpaa
