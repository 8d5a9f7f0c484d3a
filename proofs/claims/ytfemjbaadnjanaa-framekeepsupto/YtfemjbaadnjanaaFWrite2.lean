/-
  The writer of package frame: numbers, views' numbers, messages, and lists of them.
-/
import Derived.Test.YtfemjbaadnjanaaFWrite
namespace Go.Proofs.Ytfemjbaadnjanaa
open Go.RowKit
set_option linter.unusedVariables false
set_option linter.unusedSimpArgs false

theorem bl_le {B : Nat} {w w1 w2 : World} (h : Below B w w1) (k : Below w1.heap.size w1 w2) (hB : B ≤ w1.heap.size) : Below B w w2 := h.trans (k.mono hB)

theorem own_rx' {w : World} {B n : Nat} {v : Value} {xs : List UInt8} (h : w.ownsRow B 5 1 v n (xs.map Cd.by8)) (hm : n ≤ 140737488355328) : ∃ ao k cap, v = .slice ao k cap ∧ k = xs.length ∧ Rx (fun b => B ≤ b ∧ v.ownBlock = some b) w ao k cap xs := by
  obtain ⟨ao, cap, hv, hr⟩ := own_rx h hm
  have hl : xs.length = n := by simpa using h.1
  subst hl
  exact ⟨ao, _, cap, hv, rfl, hr⟩
set_option maxHeartbeats 1000000 in
set_option maxRecDepth 10000 in
theorem number_any' (B : Nat) (w : World) (g : Nat) (st : St) (h : Wr B w g st) (N : Nat) (hN : N < 18446744073709551616) :
    Calls Try.prog 51 #[.pointer (some ⟨g, 0, none⟩), .int .u64 (N : Nat)] w fun e w' => e = .returned (.tuple #[]) ∧ Wr B w' g (layS st (Cd.enc N)) ∧ Below B w w' ∧ Fr w w' g := by
  have hgl := h.lt
  have hB := h.ge
  have hu := Cd.uint_any w none 0 0 [] (Rx.nil (p := fun _ => True)).row N hN (by omega)
  have hel := Cd.enc_length N
  have hep := Cd.enc_pos N
  have HW : Hid (Wr B w g st) := h
  clear h
  go_enter Try.func51, Try.ntmps51
  go_wp2_with fail
  refine hu.mono ?_
  rintro e w1 ⟨v, rfl, hown, hb⟩
  obtain ⟨yo, kn, kc, rfl, hkn, hrx⟩ := own_rx' (n := (Cd.enc N).length) (xs := Cd.enc N) (by simpa using hown) (by omega)
  have hla := lay_any B w1 g st (HW.out.up hb) yo _ kc (Cd.enc N) (hrx.imp (fun b _ hp => by omega)) (by omega)
  have hb0 : Below B w w1 := hb.mono (by omega)
  have hfr0 := Fr.up hb hgl
  clear hu hown hrx hkn
  go_wp2_with fail
  refine hla.mono ?_
  rintro e w2 ⟨rfl, hw2, hb2, hfr2⟩
  have hb02 := hb0.trans hb2
  have hfr02 := hfr0.trans hfr2
  clear hla hb2 hb0 hfr0 hfr2
  go_wp2
  go_end0
  exact ⟨rfl, hw2, hb02, hfr02⟩

set_option maxHeartbeats 1000000 in
set_option maxRecDepth 10000 in
theorem view_any (B : Nat) (w : World) (g : Nat) (st : St) (h : Wr B w g st) (N : Nat) (hN : N < 18446744073709551616) (p : Int) (hf : formV N p = true) :
    Calls Try.prog 50 #[.pointer (some ⟨g, 0, none⟩), vid N p] w fun e w' => e = .returned (.tuple #[]) ∧ Wr B w' g (layS st (encV N p)) ∧ Below B w w' ∧ Fr w w' g := by
  have hgl := h.lt
  have hB := h.ge
  have hu := fun W => encode_any W none 0 0 [] (Rx.nil (p := fun _ => True)).row N hN p hf (by omega)
  have hel := Cd.enc_length N
  have HW : Hid (Wr B w g st) := h
  unfold vid at *
  clear h
  go_enter Try.func50, Try.ntmps50
  go_wp2_with fail
  refine (hu _).mono ?_
  rintro e w1 ⟨v, rfl, hown, hb⟩
  have hbw : Below w.heap.size w w1 := bl_step (bl1 _ _) hb
  have hvl : (encV N p).length = (Cd.enc N).length + 1 := by simp [encV]
  obtain ⟨yo, kn, kc, rfl, hkn, hrx⟩ := own_rx' (n := (Cd.enc N).length + 1) (xs := encV N p) (by simpa [encV] using hown) (by omega)
  have hla := lay_any B w1 g st (HW.out.up hbw) yo _ kc (encV N p) (hrx.imp (fun b _ hp => by have := hp.1; (try simp at this); omega)) (by omega)
  have hb0 : Below B w w1 := hbw.mono (by omega)
  have hfr0 := Fr.up hbw hgl
  clear hu hown hrx hkn hvl
  go_wp2_with fail
  refine hla.mono ?_
  rintro e w2 ⟨rfl, hw2, hb2, hfr2⟩
  have hb02 := hb0.trans hb2
  have hfr02 := hfr0.trans hfr2
  clear hla hb2 hb0 hfr0 hfr2
  go_wp2
  go_end0
  exact ⟨rfl, hw2, hb02, hfr02⟩

set_option maxHeartbeats 1000000 in
set_option maxRecDepth 10000 in
theorem message_any (B : Nat) (w : World) (g : Nat) (st : St) (h : Wr B w g st) (mo : Option Addr) (mn mc : Nat) (m : List UInt8) (hm : Rx (fun b => b < B) w mo mn mc m) :
    Calls Try.prog 78 #[.pointer (some ⟨g, 0, none⟩), .slice mo mn mc] w fun e w' => e = .returned (.tuple #[]) ∧ Wr B w' g (layS st (encM m)) ∧ Below B w w' ∧ Fr w w' g := by
  have hgl := h.lt
  have hB := h.ge
  have hml := hm.1.1
  have hm2 := hm.1.2.1
  have hf := fits_any B w g st mn h (by omega)
  have HM : Hid (Rx (fun b => b < B) w mo mn mc m) := hm
  clear h hm
  cases hr : room st mn with
  | false =>
    have HL : Hid (layS st (encM m) = none) := layS_full st _ (room_less hr (by have := encM_len m; omega))
    rw [hr] at hf
    simp only [Bool.false_eq_true, if_false] at hf
    clear hr
    go_enter Try.func78, Try.ntmps78
    go_wp2_with fail
    refine hf.mono ?_
    rintro e w1 ⟨rfl, hw1, hg1, hfr1⟩
    have hb1 : Below B w w1 := ⟨hg1.os, hg1.tape, hg1.output, hg1.size, fun i hi => hg1.block i (by omega) (by simp; omega)⟩
    clear hf hg1
    go_wp2
    go_end0
    rw [HL.out]
    exact ⟨rfl, hw1, hb1, hfr1⟩
  | true =>
    have hmn : mn ≤ 1048576 := by
      cases st with
      | none => cases hr
      | some xs => simp [room] at hr; omega
    rw [hr] at hf
    simp only [if_true] at hf
    clear hr
    go_enter Try.func78, Try.ntmps78
    go_wp2_with fail
    refine hf.mono ?_
    rintro e w1 ⟨rfl, hw1, hg1, hfr1⟩
    have hb1 : Below B w w1 := ⟨hg1.os, hg1.tape, hg1.output, hg1.size, fun i hi => hg1.block i (by omega) (by simp; omega)⟩
    have hm1 := HM.out.keep (Kp.grown (p := fun b => b < B) hg1 (fun b hb => by omega))
    have hby := Cd.bytes_any w1 none 0 0 [] (Rx.nil (p := fun _ => True)).row mo mn mc m hm1.row (by omega) (by omega)
    have hel := Cd.enc_length mn
    have hep := Cd.enc_pos mn
    have HW : Hid (Wr B w1 g st) := hw1
    have hs1 := hg1.size
    clear hf hg1 hm1 hw1
    go_wp2_with fail
    refine hby.mono ?_
    rintro e w2 ⟨v, rfl, hown, hb⟩
    have hvl : (encM m).length = (Cd.enc mn).length + m.length := by simp [encM, hml]
    obtain ⟨yo, kn, kc, rfl, hkn, hrx⟩ := own_rx' (n := (Cd.enc mn).length + m.length) (xs := encM m) (by unfold encM; rw [hml, List.map_append, ← hml]; simpa [hml] using hown) (by omega)
    have hla := lay_any B w2 g st (HW.out.up hb) yo _ kc (encM m) (hrx.imp (fun b _ hp => by omega)) (by omega)
    have hb0 : Below B w w2 := hb1.trans (hb.mono (by omega))
    have hfr0 := hfr1.trans (Fr.up hb (by omega))
    clear hby hown hrx hb hb1 hkn hvl
    go_wp2_with fail
    refine hla.mono ?_
    rintro e w3 ⟨rfl, hw3, hb3, hfr3⟩
    have hb03 := hb0.trans hb3
    have hfr03 := hfr0.trans hfr3
    clear hla hb3 hb0 hfr0 hfr1 hfr3
    go_wp2
    go_end0
    exact ⟨rfl, hw3, hb03, hfr03⟩

theorem flat_take {α : Type} {en : α → List UInt8} {l : List α} {k : Nat} {x : α} (h : l[k]? = some x) : (l.take (k + 1)).flatMap en = (l.take k).flatMap en ++ en x := by
  rw [List.take_add_one, h]
  simp

set_option maxRecDepth 10000 in
set_option maxHeartbeats 1000000 in
theorem items_any (B : Nat) (w : World) (g : Nat) (st : St) (h : Wr B w g st) (ao : Option Addr) (n cap : Nat) (ds : List Di) (hi : ItsX (fun b => b < B) w ao n ds) (hok : ∀ d ∈ ds, okF d.1 = true) :
    Calls Try.prog 54 #[.pointer (some ⟨g, 0, none⟩), .slice ao n cap] w fun e w' => e = .returned (.tuple #[]) ∧ Wr B w' g (layS st (encL encI ds)) ∧ Below B w w' := by
  obtain ⟨xs, hI, hdl, hit⟩ := hi
  have hB := h.ge
  have hxl := hI.1
  have hmax := hI.2.1
  have hnum := number_any' B w g st h n (by omega)
  have HX : Hid (IR (fun b => b < B) w ao n xs ∧ ∀ (j : Nat) (x : Ix) (d : Di), xs[j]? = some x → ds[j]? = some d → ItX (fun b => b < B) w x d) := ⟨hI, hit⟩
  have HOK : Hid (∀ d ∈ ds, okF d.1 = true) := hok
  have HE : Hid (layS (layS st (Cd.enc n)) (ds.flatMap encI) = layS st (encL encI ds)) := by show _ = _; rw [layS_layS]; unfold encL; rw [hdl]
  clear h hI hit hok
  go_enter Try.func54, Try.ntmps54
  go_wp2_with fail
  refine hnum.mono ?_
  rintro e w1 ⟨rfl, hw1, hb1, _⟩
  have HW1 : Hid (Wr B w1 g (layS st (Cd.enc n))) := hw1
  generalize layS st (Cd.enc n) = st1 at *
  clear hnum hw1
  go_wp2_with fail
  go_loopw [5, 13] (fun _ iv wr => ∃ k : Nat, k ≤ n ∧ iv = .int .i64 k ∧ Wr B wr g (layS st1 ((ds.take k).flatMap encI)) ∧ Below B w wr) (fun _ iv _ => n - (intOf iv).toNat)
  case atStart =>
    refine ⟨0, by omega, rfl, ?_, hb1⟩
    have := HW1.out
    have e : layS st1 [] = st1 := by
      cases st1 with
      | none => rfl
      | some xs =>
        obtain ⟨_, _, _, hl, _⟩ := this
        simp [layS, hl]
    simpa [e] using this
  case round =>
    obtain ⟨k, hk, rfl, hwk, hbk⟩ := hrel
    have HWK : Hid (Wr B wr g (layS st1 ((ds.take k).flatMap encI))) := hwk
    clear hwk HW1
    by_cases hlt : k < n
    · have hltI : (k : Int) < (n : Int) := by omega
      obtain ⟨x, hx⟩ : ∃ x, xs[k]? = some x := ⟨xs[k]'(by omega), List.getElem?_eq_getElem (by omega)⟩
      obtain ⟨d, hd⟩ : ∃ d, ds[k]? = some d := ⟨ds[k]'(by omega), List.getElem?_eq_getElem (by omega)⟩
      have kp : Kp (fun b => b < B) w wr := Kp.below hbk (fun b hb => hb)
      obtain ⟨b, off, hao, _, hc⟩ := (HX.out.1.keep kp).2.2.2 (by omega)
      obtain ⟨c0, c1⟩ := hc k x hx
      obtain ⟨hx1, hxr⟩ := HX.out.2 k x d hx hd
      have hxr' := hxr.keep kp
      have hof := HOK.out d (List.mem_of_getElem? hd)
      have hxn : 0 ≤ x.1 ∧ x.1 ≤ 15 := by
        rw [hx1]
        simpa [okF] using hof
      have HT : Hid ((ds.take (k + 1)).flatMap encI = (ds.take k).flatMap encI ++ encI d) := flat_take hd
      have HXE : Hid (encI d = pb x.1 :: encM d.2) := by show _ = _; rw [hx1]; rfl
      subst hao
      have hk0 : ¬ ((k : Int) < 0) := by omega
      obtain ⟨hx0, hx15⟩ := hxn
      clear hc hx hd hx1 hxr hof kp
      have hgl := HWK.out.lt
      have hlb := hbk.size
      have HST : Hid (Wr B wr g (layS st1 ((ds.take k).flatMap encI))) := HWK.out
      have HL : Hid (layS (layS (layS st1 ((ds.take k).flatMap encI)) [pb x.1]) (encM d.2) = layS st1 ((ds.take (k + 1)).flatMap encI)) := by
        show _ = _
        rw [layS_layS, layS_layS, HT.out, HXE.out]
        rfl
      generalize layS st1 ((ds.take k).flatMap encI) = st2 at *
      clear HT HXE HX HOK HWK
      obtain ⟨wa, hwa⟩ : ∃ wa, wr.alloc (.cells #[.int .i64 x.1, .slice x.2.1 x.2.2.1 x.2.2.2] 49) = wa := ⟨_, rfl⟩
      obtain ⟨wb, hwb⟩ : ∃ wb, wa.alloc (.cells #[.int .u8 x.1] 5) = wb := ⟨_, rfl⟩
      have hua : Below wr.heap.size wr wb := by rw [← hwb, ← hwa]; exact bl2 _ _ _
      have hsa : wa.heap.size = wr.heap.size + 1 := by rw [← hwa]; simp
      have hsb : wb.heap.size = wr.heap.size + 2 := by rw [← hwb]; simp; omega
      have hcb : wb.cell? ⟨wr.heap.size + 1, 0, none⟩ = some (Cd.by8 (pb x.1)) := by
        rw [pb_num x.1 hx0 hx15, ← hwb, ← hsa]
        exact cell_box wa _ 5 0 _ rfl
      have hca : wb.heap[wr.heap.size]? = some (.cells #[.int .i64 x.1, .slice x.2.1 x.2.2.1 x.2.2.2] 49 (0, 0)) := by
        rw [← hwb, Below.heap_alloc wa _ _ (by omega), ← hwa]
        exact heap_alloc_new _ _
      have hrx : Rx (fun b => b ≠ g) wb (some ⟨wr.heap.size + 1, 0, none⟩) 1 1 [pb x.1] := by
        refine ⟨⟨rfl, by omega, fun e => (by cases e), fun _ => ⟨_, _, rfl, by omega, fun j y hj => ?_⟩⟩, by omega, by omega, fun e => (by cases e)⟩
        obtain ⟨e1, e2⟩ := List.getElem?_eq_some_iff.1 hj
        simp at e1 e2
        subst e1
        rw [← e2]
        exact hcb
      have hla := lay_any B wb g st2 (HST.out.up hua) _ 1 1 _ hrx (by omega)
      have hfree : Free wb g wr.heap.size := Free.new HST.out hua (Nat.le_refl _) (by omega)
      have hbB : Below B w wb := hbk.trans (hua.mono (by omega))
      have hxw := hxr'.keep (Kp.up (p := fun b => b < B) hua)
      have HWA : Hid (wr.alloc (.cells #[.int .i64 x.1, .slice x.2.1 x.2.2.1 x.2.2.2] 49) = wa ∧ wa.alloc (.cells #[.int .u8 x.1] 5) = wb) := ⟨hwa, hwb⟩
      clear hrx hcb hxr' hbk hua HST hwa hwb hsa hsb
      go_wp2_with fail
      rw [HWA.out.1, HWA.out.2]
      refine hla.mono ?_
      rintro e w2 ⟨rfl, hw2, hb2, hfr2⟩
      have hc2 : w2.heap[wr.heap.size]? = some (.cells #[.int .i64 x.1, .slice x.2.1 x.2.2.1 x.2.2.2] 49 (0, 0)) := (hfr2 _ hfree).1.trans hca
      have d1 : w2.cell? ⟨wr.heap.size, 1, none⟩ = some (.slice x.2.1 x.2.2.1 x.2.2.2) := by rw [cell_of_row w2 _ 1 _ 49 (0, 0) hc2]; rfl
      have hms := message_any B w2 g _ hw2 x.2.1 x.2.2.1 x.2.2.2 d.2 (hxw.keep (Kp.below hb2 (fun b hb => hb)))
      rw [HL.out] at hms
      have hb02 := hbB.trans hb2
      clear hla hw2 hb2 hfr2 hfree hca hc2 hbB hxw HWA c0 c1
      go_wp2_with fail
      refine hms.mono ?_
      rintro e w3 ⟨rfl, hw3, hb3, _⟩
      have HW3 : Hid (Wr B w3 g (layS st1 ((ds.take (k + 1)).flatMap encI))) := hw3
      have hb03 := hb02.trans hb3
      clear hms hw3 hb3 hb02 d1
      go_wp2
      go_roundw
      case rel => first | exact ⟨k + 1, by omega, by go_num, HW3.out, hb03⟩ | ((repeat apply Exists.intro); exact ⟨⟨k + 1, by omega, by go_num, HW3.out, hb03⟩, rfl⟩)
      case measure => simp [intOf]; omega
    · obtain rfl : k = n := by omega
      have HF : Hid (Wr B wr g (layS st (encL encI ds))) := by
        have := HWK.out
        rw [List.take_of_length_le (by omega), HE.out] at this
        exact this
      clear HWK HX HOK HE
      go_wp2
      go_end0
      exact ⟨rfl, HF.out, hbk⟩
end Go.Proofs.Ytfemjbaadnjanaa
