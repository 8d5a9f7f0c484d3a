/-
  What one lacks: cut.Rest, and the document's.
-/
import Derived.Test.YtbdbdpgnilhcpaaSSame
import Derived.Test.YtbdbdpgnilhcpaaSCopy
namespace Go.Proofs.Ytbdbdpgnilhcpaa
open Go.RowKit Go.Sort
set_option linter.unusedVariables false

/-- What one lacks, and the error's number. -/
def restD (ss : List Sx) (es : List (List Di)) (vn : Nat) (vp had : Int) : Int × List Di :=
  if vn = 0 then (0, []) else match ss.findIdx? (fun x => decide (x.1 = vn ∧ x.2.1 = vp)) with
  | none => (6, [])
  | some i => match ss[i]?, es[i]? with
    | some y, some e => if had < y.2.2.1 ∨ endS y < had then (1, []) else (0, e.drop (had - y.2.2.1).toNat)
    | _, _ => (6, [])
def RestPost (r : Int × List Di) (w : World) (e : Ending) (w' : World) : Prop := ∃ ao' n' cap', e = .returned (.tuple #[.slice ao' n' cap', .int .i64 r.1]) ∧ Its (fun _ => True) w' ao' n' r.2 ∧ Below w.heap.size w w'
theorem find_none {ss : List Sx} {vn : Nat} {vp : Int} (h : ∀ x ∈ ss, ¬ (x.1 = vn ∧ x.2.1 = vp)) : ss.findIdx? (fun x => decide (x.1 = vn ∧ x.2.1 = vp)) = none := by
  rw [List.findIdx?_eq_none_iff]
  intro x hx
  exact decide_eq_false (h x hx)
theorem find_some {ss : List Sx} {vn : Nat} {vp : Int} {i : Nat} {y : Sx} (h : ∀ x ∈ ss.take i, ¬ (x.1 = vn ∧ x.2.1 = vp)) (hy : ss[i]? = some y) (hp : y.1 = vn ∧ y.2.1 = vp) : ss.findIdx? (fun x => decide (x.1 = vn ∧ x.2.1 = vp)) = some i := by
  obtain ⟨hi, rfl⟩ := List.getElem?_eq_some_iff.1 hy
  rw [List.findIdx?_eq_some_iff_getElem]
  refine ⟨hi, by simpa using hp, fun j hj => ?_⟩
  have := h ss[j] (by
    rw [List.mem_iff_getElem]
    exact ⟨j, by rw [List.length_take]; omega, by rw [List.getElem_take]⟩)
  simpa using this
theorem Its.nil (p : Nat → Prop) (w : World) : Its p w none 0 [] := ⟨[], ⟨rfl, by omega, fun _ => rfl, fun h => by omega⟩, rfl, fun j x d hx => by simp at hx⟩
/-- Items behind the first k. -/
theorem Its.drop {p : Nat → Prop} {w : World} {b off n k : Nat} {ds : List Di} (h : Its p w (some ⟨b, off, none⟩) n ds) (hk : k ≤ n) : Its p w (some ⟨b, off + k * 2, none⟩) (n - k) (ds.drop k) := by
  obtain ⟨xs, ⟨h1, h2, h3, h4⟩, hd, hit⟩ := h
  refine ⟨xs.drop k, ⟨by rw [List.length_drop]; omega, by omega, fun e => (by cases e), fun h0 => ?_⟩, by rw [List.length_drop]; omega, fun j x d hx hd' => hit (k + j) x d (by rw [List.getElem?_drop] at hx; exact hx) (by rw [List.getElem?_drop] at hd'; exact hd')⟩
  obtain ⟨b', off', e, hp, hc⟩ := h4 (by omega)
  cases e
  refine ⟨_, _, rfl, hp, fun j x hx => ?_⟩
  rw [List.getElem?_drop] at hx
  have := hc (k + j) x hx
  rw [show off + (k + j) * 2 = off + k * 2 + j * 2 by omega] at this
  exact this
theorem Its.shape {p : Nat → Prop} {w : World} {ao : Option Addr} {n : Nat} {ds : List Di} (h : Its p w ao n ds) (h0 : 0 < n) : ∃ b off, ao = some ⟨b, off, none⟩ := by
  obtain ⟨xs, ⟨h1, h2, h3, h4⟩, hd, hit⟩ := h
  obtain ⟨b, off, e, _⟩ := h4 h0
  exact ⟨b, off, e⟩
/-- Items behind the first k, wherever they lie. -/
theorem Its.tail {p : Nat → Prop} {w : World} {a : Addr} {n k : Nat} {ds : List Di} (h : Its p w (some a) n ds) (hk : k ≤ n) : Its p w (some (a.add (k * 2))) (n - k) (ds.drop k) := by
  by_cases h0 : 0 < n
  · obtain ⟨b, off, e⟩ := h.shape h0
    cases e
    rw [Addr.add_lit]
    exact h.drop hk
  · obtain rfl : n = 0 := by omega
    obtain rfl : k = 0 := by omega
    obtain ⟨xs, ⟨h1, h2, h3, h4⟩, hd, hit⟩ := h
    obtain rfl : ds = [] := List.length_eq_zero_iff.1 hd
    exact ⟨[], ⟨rfl, by omega, fun _ => rfl, fun h => by omega⟩, rfl, fun j x d hx => by simp at hx⟩

set_option maxRecDepth 10000 in
set_option maxHeartbeats 2000000 in
theorem rest_any (p : Nat → Prop) (w : World) (ao : Option Addr) (n cap : Nat) (ss : List Sx) (es : List (List Di)) (h : Sts p w ao n ss es) (hok : ∀ x ∈ ss, OkS x) (hcp : ∀ x ∈ ss, x.2.2.2.2.1 ≤ x.2.2.2.2.2 ∧ x.2.2.2.2.2 ≤ 9223372036854775807) (vn : Nat) (vp had : Int) (hh : -9223372036854775808 ≤ had ∧ had ≤ 9223372036854775807) :
    Calls Try.prog 19 #[.slice ao n cap, vid vn vp, .int .i64 had] w fun e w' => RestPost (restD ss es vn vp had) w e w' := by
  have hnn := fun W => isNone_any W vn vp
  unfold vid at *
  obtain ⟨r, HR⟩ : ∃ r, Hid (restD ss es vn vp had = r) := ⟨_, rfl⟩
  rw [HR.out]
  have u0 : Up w (w.alloc (.cells #[.int .u64 (vn : Nat), .int .i64 vp] 28)) := (Up.refl _).alloc _
  have hS0 := h.up u0.bl
  have HS : Hid (Sts p w ao n ss es ∧ (∀ x ∈ ss, OkS x) ∧ (∀ x ∈ ss, x.2.2.2.2.1 ≤ x.2.2.2.2.2 ∧ x.2.2.2.2.2 ≤ 9223372036854775807)) := ⟨h, hok, hcp⟩
  have k0 : (w.alloc (.cells #[.int .u64 (vn : Nat), .int .i64 vp] 28)).cell? ⟨w.heap.size, 0, none⟩ = some (.int .u64 (vn : Nat)) := cell_box w _ 28 0 _ rfl
  have k1 : (w.alloc (.cells #[.int .u64 (vn : Nat), .int .i64 vp] 28)).cell? ⟨w.heap.size, 1, none⟩ = some (.int .i64 vp) := cell_box w _ 28 1 _ rfl
  have hl := h.1.1
  have hmax := h.1.2.1
  clear h hok hcp hS0
  by_cases hv0 : vn = 0
  · have hvd : decide (vn = 0) = true := by simpa using hv0
    rw [hvd] at hnn
    have hr : r = (0, []) := by rw [← HR.out, restD, if_pos hv0]
    subst hr
    clear hv0 hvd HR HS k0 k1
    go_enter Try.func19, Try.ntmps19
    go_wp2_with fail
    refine (hnn _).mono ?_
    rintro e w1 ⟨rfl, hu1⟩
    have hb1 := (u0.trans hu1).bl
    clear hnn hu1 u0
    go_wp2
    go_ret2
    exact ⟨none, 0, 0, rfl, Its.nil _ _, hb1⟩
  · have hvd : decide (vn = 0) = false := by simpa using hv0
    rw [hvd] at hnn
    clear hvd
    go_enter Try.func19, Try.ntmps19
    go_wp2_with fail
    refine (hnn _).mono ?_
    rintro e w1 ⟨rfl, hu1⟩
    have hu01 := u0.trans hu1
    have k0' := hu1.cell k0
    have k1' := hu1.cell k1
    have hix := index_view p w1 ao n cap ss (HS.out.1.1.up hu01.bl) w.heap.size vn vp k0' k1'
    clear hnn hu1 u0 k0 k1
    go_wp2_with fail
    refine hix.mono ?_
    rintro e w2 ⟨⟨rfl, hno⟩ | ⟨i, y, hi, rfl, hno, hy, hin⟩, hu2⟩
    · have hr : r = (6, []) := by rw [← HR.out, restD, if_neg hv0, find_none hno]
      subst hr
      have hb2 := (hu01.trans hu2).bl
      clear hno HR HS hix hu01 hu2 k0' k1'
      go_wp2
      go_ret2
      exact ⟨none, 0, 0, rfl, Its.nil _ _, hb2⟩
    · obtain ⟨es0, hes⟩ : ∃ e, es[i]? = some e := ⟨es[i]'(by have := HS.out.1.2.1; omega), List.getElem?_eq_getElem _⟩
      have hr : r = if had < y.2.2.1 ∨ endS y < had then (1, []) else (0, es0.drop (had - y.2.2.1).toNat) := by
        rw [← HR.out, restD, if_neg hv0, find_some hno hy hin]
        simp only [hy, hes]
      have hu02 := hu01.trans hu2
      obtain ⟨b, off, e, _, hc⟩ := (HS.out.1.1.up hu02.bl).2.2.2 (by omega)
      subst e
      obtain ⟨c0, c1, c2, c3⟩ := hc i y hy
      have hyok := HS.out.2.1 y (List.mem_of_getElem? hy)
      have hycp := HS.out.2.2 y (List.mem_of_getElem? hy)
      have hits := HS.out.1.2.2 i y es0 hy hes
      have HI : Hid (Its p w y.2.2.2.1 y.2.2.2.2.1 es0) := hits
      have hend := fun W => end_any W y hyok
      have hiI : (i : Int) < (n : Int) := by omega
      have hi0 : ¬ ((i : Int) < 0) := by omega
      have hel := hits.len
      have hOk := hyok
      unfold OkS at hOk
      obtain ⟨o1, o2, o3⟩ := hOk
      unfold sta at hend
      have hes0 : endS y = y.2.2.1 + (y.2.2.2.2.1 : Nat) := rfl
      obtain ⟨en, hen⟩ : ∃ en, endS y = en := ⟨_, rfl⟩
      rw [hen] at hend hr hes0
      clear hno hin hy hes hits hyok HR HS hix hu01 hu2 k0' k1' hc hen
      by_cases f0 : had < y.2.2.1
      · have hr' : r = (1, []) := by rw [hr, if_pos (.inl f0)]
        clear hr
        subst hr'
        go_wp2
        go_ret2
        exact ⟨none, 0, 0, rfl, Its.nil _ _, (hu02.alloc _).bl⟩
      · by_cases f1 : en < had
        · have hr' : r = (1, []) := by rw [hr, if_pos (.inr f1)]
          clear hr
          subst hr'
          go_wp2_with fail
          refine (hend _).mono ?_
          rintro e w3 ⟨rfl, hu3⟩
          have hu03 := (hu02.alloc _).trans hu3
          clear hend hu3
          go_wp2
          go_ret2
          exact ⟨none, 0, 0, rfl, Its.nil _ _, hu03.bl⟩
        · obtain ⟨k, hkI⟩ : ∃ k : Nat, had - y.2.2.1 = (k : Int) := ⟨(had - y.2.2.1).toNat, by omega⟩
          have hr' : r = (0, es0.drop k) := by rw [hr, if_neg (by omega), hkI, Int.toNat_natCast]
          clear hr
          subst hr'
          go_wp2_with fail
          refine (hend _).mono ?_
          rintro e w3 ⟨rfl, hu3⟩
          have hu03 := (hu02.alloc _).trans hu3
          have hk : k ≤ y.2.2.2.2.1 := by omega
          obtain ⟨_, _, d2, d3⟩ := (bs_new w2 y 31).up hu3
          have HK : Hid (Its p w3 y.2.2.2.1 y.2.2.2.2.1 es0) := HI.out.keep (Kp.up hu03.bl)
          clear hend hu3 HI c0 c1 c2 c3 hes0 f0 hh
          obtain ⟨yn, yp, yf, yao, yl, yc⟩ := y
          simp only at *
          cases yao with
          | none =>
            have hyl : yl = 0 := by obtain ⟨xs, hx, _⟩ := HK.out; exact hx.2.2.1 rfl
            subst hyl
            obtain rfl : k = 0 := by omega
            have hco := copied_any p w3 none 0 yc es0 HK.out
            have hd0 : es0.drop 0 = es0 := rfl
            go_wp2_with fail
            refine hco.mono ?_
            rintro e w4 ⟨ao', cap', rfl, hits, hb4⟩
            have HE : Hid (Its (fun _ => True) w4 ao' 0 (es0.drop 0) ∧ Below w.heap.size w w4) := ⟨hits.imp (fun _ _ _ => trivial), bl_step hu03.bl hb4⟩
            clear hco hits hb4 hu03 HK
            go_wp2
            go_ret2
            exact ⟨ao', 0, cap', rfl, HE.out⟩
          | some a =>
            have hkI' : (k : Int) ≤ (yl : Int) := by omega
            by_cases hck : yc = k
            · subst hck
              obtain rfl : yl = yc := by omega
              have hco := copied_any p w3 (some a) 0 0 (es0.drop yl) (by
                have := HK.out.tail (k := yl) (Nat.le_refl _)
                obtain ⟨xs, ⟨h1, h2, h3, h4⟩, hd, hit⟩ := this
                rw [Nat.sub_self] at h1 hd
                exact ⟨xs, ⟨h1, by omega, fun _ => rfl, fun h => by omega⟩, hd, fun j x d hx => by rw [List.length_eq_zero_iff.1 h1] at hx; simp at hx⟩)
              have hss : yl - yl = 0 := Nat.sub_self _
              go_wp2_with fail
              refine hco.mono ?_
              rintro e w4 ⟨ao', cap', rfl, hits, hb4⟩
              have HE : Hid (Its (fun _ => True) w4 ao' 0 (es0.drop yl) ∧ Below w.heap.size w w4) := ⟨hits.imp (fun _ _ _ => trivial), bl_step hu03.bl hb4⟩
              clear hco hits hb4 hu03 HK
              go_wp2
              go_ret2
              exact ⟨ao', 0, cap', rfl, HE.out⟩
            · have hco := copied_any p w3 (some (a.add (k * 2))) (yl - k) (yc - k) (es0.drop k) (HK.out.tail hk)
              have hck' : ¬ (yc - k = 0) := by omega
              go_wp2_with fail
              refine hco.mono ?_
              rintro e w4 ⟨ao', cap', rfl, hits, hb4⟩
              have HE : Hid (Its (fun _ => True) w4 ao' (yl - k) (es0.drop k) ∧ Below w.heap.size w w4) := ⟨hits.imp (fun _ _ _ => trivial), bl_step hu03.bl hb4⟩
              clear hco hits hb4 hu03 HK
              go_wp2
              go_ret2
              exact ⟨ao', yl - k, cap', rfl, HE.out⟩
end Go.Proofs.Ytbdbdpgnilhcpaa
