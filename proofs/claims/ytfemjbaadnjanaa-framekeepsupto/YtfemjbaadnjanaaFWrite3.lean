/-
  The writer of package frame: lists of messages and of states.
-/
import Derived.Test.YtfemjbaadnjanaaFWrite2
namespace Go.Proofs.Ytfemjbaadnjanaa
open Go.RowKit
set_option linter.unusedVariables false
set_option linter.unusedSimpArgs false

theorem layS_nil {B : Nat} {w : World} {g : Nat} {st : St} (h : Wr B w g st) : layS st [] = st := by
  cases st with
  | none => rfl
  | some xs =>
    obtain ⟨_, _, _, hl, _⟩ := h
    simp [layS, hl]

set_option maxRecDepth 10000 in
set_option maxHeartbeats 1000000 in
theorem messages_any (B : Nat) (w : World) (g : Nat) (st : St) (h : Wr B w g st) (ao : Option Addr) (n cap : Nat) (ds : List (List UInt8)) (hi : MsX (fun b => b < B) w ao n ds) :
    Calls Try.prog 53 #[.pointer (some ⟨g, 0, none⟩), .slice ao n cap] w fun e w' => e = .returned (.tuple #[]) ∧ Wr B w' g (layS st (encL encM ds)) ∧ Below B w w' := by
  obtain ⟨xs, hI, hdl, hit⟩ := hi
  have hB := h.ge
  have hxl := hI.1
  have hmax := hI.2.1
  have hnum := number_any' B w g st h n (by omega)
  have HX : Hid (MR (fun b => b < B) w ao n xs ∧ ∀ (j : Nat) x (d : List UInt8), xs[j]? = some x → ds[j]? = some d → Rx (fun b => b < B) w x.1 x.2.1 x.2.2 d) := ⟨hI, hit⟩
  have HE : Hid (layS (layS st (Cd.enc n)) (ds.flatMap encM) = layS st (encL encM ds)) := by show _ = _; rw [layS_layS]; unfold encL; rw [hdl]
  clear h hI hit
  go_enter Try.func53, Try.ntmps53
  go_wp2_with fail
  refine hnum.mono ?_
  rintro e w1 ⟨rfl, hw1, hb1, _⟩
  have HW1 : Hid (Wr B w1 g (layS st (Cd.enc n))) := hw1
  generalize layS st (Cd.enc n) = st1 at *
  clear hnum hw1
  go_wp2_with fail
  go_loopw [5, 13] (fun _ iv wr => ∃ k : Nat, k ≤ n ∧ iv = .int .i64 k ∧ Wr B wr g (layS st1 ((ds.take k).flatMap encM)) ∧ Below B w wr) (fun _ iv _ => n - (intOf iv).toNat)
  case atStart =>
    refine ⟨0, by omega, rfl, ?_, hb1⟩
    have := HW1.out
    rw [← layS_nil this] at this
    simpa using this
  case round =>
    obtain ⟨k, hk, rfl, hwk, hbk⟩ := hrel
    have HWK : Hid (Wr B wr g (layS st1 ((ds.take k).flatMap encM))) := hwk
    clear hwk HW1
    by_cases hlt : k < n
    · have hltI : (k : Int) < (n : Int) := by omega
      obtain ⟨x, hx⟩ : ∃ x, xs[k]? = some x := ⟨xs[k]'(by omega), List.getElem?_eq_getElem (by omega)⟩
      obtain ⟨d, hd⟩ : ∃ d, ds[k]? = some d := ⟨ds[k]'(by omega), List.getElem?_eq_getElem (by omega)⟩
      have kp : Kp (fun b => b < B) w wr := Kp.below hbk (fun b hb => hb)
      obtain ⟨b, off, hao, _, hc⟩ := (HX.out.1.keep kp).2.2.2 (by omega)
      have c0 := hc k x hx
      have hxr := (HX.out.2 k x d hx hd).keep kp
      have HT : Hid ((ds.take (k + 1)).flatMap encM = (ds.take k).flatMap encM ++ encM d) := flat_take hd
      have hms := message_any B wr g _ HWK.out x.1 x.2.1 x.2.2 d hxr
      rw [layS_layS, ← HT.out] at hms
      subst hao
      have hk0 : ¬ ((k : Int) < 0) := by omega
      clear hc hx hd hxr kp HT HWK HX
      go_wp2_with fail
      refine hms.mono ?_
      rintro e w3 ⟨rfl, hw3, hb3, _⟩
      have HW3 : Hid (Wr B w3 g (layS st1 ((ds.take (k + 1)).flatMap encM))) := hw3
      have hb03 := hbk.trans hb3
      clear hms hw3 hb3 c0 hbk
      go_wp2
      go_roundw
      case rel => first | exact ⟨k + 1, by omega, by go_num, HW3.out, hb03⟩ | ((repeat apply Exists.intro); exact ⟨⟨k + 1, by omega, by go_num, HW3.out, hb03⟩, rfl⟩)
      case measure => simp [intOf]; omega
    · obtain rfl : k = n := by omega
      have HF : Hid (Wr B wr g (layS st (encL encM ds))) := by
        have := HWK.out
        rw [List.take_of_length_le (by omega), HE.out] at this
        exact this
      clear HWK HX HE
      go_wp2
      go_end0
      exact ⟨rfl, HF.out, hbk⟩

set_option maxRecDepth 10000 in
set_option maxHeartbeats 1000000 in
theorem states_any (B : Nat) (w : World) (g : Nat) (st : St) (h : Wr B w g st) (ao : Option Addr) (n cap : Nat) (ds : List Sd) (hi : SsX (fun b => b < B) w ao n ds) (hok : ∀ d ∈ ds, stOk d = true ∧ d.1 < 18446744073709551616) (hn : n ≤ 4096) :
    Calls Try.prog 52 #[.pointer (some ⟨g, 0, none⟩), .slice ao n cap] w fun e w' => e = .returned (.tuple #[]) ∧ Wr B w' g (layS st (encL encS ds)) ∧ Below B w w' := by
  obtain ⟨xs, hI, hdl, hit⟩ := hi
  have hB := h.ge
  have hxl := hI.1
  have hnum := number_any' B w g st h n (by omega)
  have HX : Hid (SR (fun b => b < B) w ao n xs ∧ ∀ (j : Nat) (x : Sx) (d : Sd), xs[j]? = some x → ds[j]? = some d → SiX (fun b => b < B) w x d) := ⟨hI, hit⟩
  have HOK : Hid (∀ d ∈ ds, stOk d = true ∧ d.1 < 18446744073709551616) := hok
  have HE : Hid (layS (layS st (Cd.enc n)) (ds.flatMap encS) = layS st (encL encS ds)) := by show _ = _; rw [layS_layS]; unfold encL; rw [hdl]
  clear h hI hit hok
  go_enter Try.func52, Try.ntmps52
  go_wp2_with fail
  refine hnum.mono ?_
  rintro e w1 ⟨rfl, hw1, hb1, _⟩
  have HW1 : Hid (Wr B w1 g (layS st (Cd.enc n))) := hw1
  generalize layS st (Cd.enc n) = st1 at *
  clear hnum hw1
  go_wp2_with fail
  go_loopw [5, 13] (fun _ iv wr => ∃ k : Nat, k ≤ n ∧ iv = .int .i64 k ∧ Wr B wr g (layS st1 ((ds.take k).flatMap encS)) ∧ Below B w wr) (fun _ iv _ => n - (intOf iv).toNat)
  case atStart =>
    refine ⟨0, by omega, rfl, ?_, hb1⟩
    have := HW1.out
    rw [← layS_nil this] at this
    simpa using this
  case round =>
    obtain ⟨k, hk, rfl, hwk, hbk⟩ := hrel
    have HWK : Hid (Wr B wr g (layS st1 ((ds.take k).flatMap encS))) := hwk
    clear hwk HW1
    by_cases hlt : k < n
    · have hltI : (k : Int) < (n : Int) := by omega
      obtain ⟨x, hx⟩ : ∃ x, xs[k]? = some x := ⟨xs[k]'(by omega), List.getElem?_eq_getElem (by omega)⟩
      obtain ⟨d, hd⟩ : ∃ d, ds[k]? = some d := ⟨ds[k]'(by omega), List.getElem?_eq_getElem (by omega)⟩
      have kp : Kp (fun b => b < B) w wr := Kp.below hbk (fun b hb => hb)
      obtain ⟨b, off, hao, _, hc⟩ := (HX.out.1.keep kp).2.2.2 (by omega)
      obtain ⟨c0, c1, c2, c3⟩ := hc k x hx
      obtain ⟨hx1, hx2, hx3, hx4⟩ := (HX.out.2 k x d hx hd).keep kp
      obtain ⟨hsok, hd64⟩ := HOK.out d (List.mem_of_getElem? hd)
      unfold stOk formS at hsok
      simp only [Bool.and_eq_true, decide_eq_true_eq, List.all_eq_true] at hsok
      obtain ⟨hl4, ⟨⟨⟨hfv, hf0⟩, hf1⟩, _⟩, hall⟩ := hsok
      rw [← hx1, ← hx2] at hfv
      have hfl0 : 0 ≤ x.2.2.1 := by omega
      have hfl1 : x.2.2.1 ≤ 1073741824 := by omega
      obtain ⟨fl, hfl⟩ : ∃ fl : Nat, x.2.2.1 = fl := ⟨x.2.2.1.toNat, by omega⟩
      have HT : Hid ((ds.take (k + 1)).flatMap encS = (ds.take k).flatMap encS ++ encS d) := flat_take hd
      have HXE : Hid (encS d = encV x.1 x.2.1 ++ (Cd.enc fl ++ encL encI d.2.2.2)) := by
        show _ = _
        unfold encS
        rw [← hx1, ← hx2, ← hx3, hfl]
        simp
      have hx64 : x.1 < 18446744073709551616 := by omega
      subst hao
      have hk0 : ¬ ((k : Int) < 0) := by omega
      rw [hfl] at c2
      have hgl := HWK.out.lt
      have HST : Hid (Wr B wr g (layS st1 ((ds.take k).flatMap encS))) := HWK.out
      have HL : Hid (layS (layS (layS (layS st1 ((ds.take k).flatMap encS)) (encV x.1 x.2.1)) (Cd.enc fl)) (encL encI d.2.2.2) = layS st1 ((ds.take (k + 1)).flatMap encS)) := by
        show _ = _
        rw [layS_layS, layS_layS, layS_layS, HT.out, HXE.out]
      generalize layS st1 ((ds.take k).flatMap encS) = st2 at *
      have hfl9 : (fl : Int) ≤ 1073741824 := by omega
      have HIT : Hid (ItsX (fun b => b < B) wr x.2.2.2.1 x.2.2.2.2.1 d.2.2.2 ∧ ∀ z ∈ d.2.2.2, okF z.1 = true) := ⟨hx4, hall⟩
      clear HT HXE HX HOK HWK hc hx hd hx1 hx2 hx3 hx4 hall hl4 hf0 hf1 kp hfl0 hfl1 hd64 hfl
      obtain ⟨wa, hwa⟩ : ∃ wa, wr.alloc (.cells #[.int .u64 (x.1 : Nat), .int .i64 x.2.1, .int .i64 (fl : Nat), .slice x.2.2.2.1 x.2.2.2.2.1 x.2.2.2.2.2] 52) = wa := ⟨_, rfl⟩
      have hua : Below wr.heap.size wr wa := by rw [← hwa]; exact bl1 _ _
      have hsa : wa.heap.size = wr.heap.size + 1 := by rw [← hwa]; simp
      have hca : wa.heap[wr.heap.size]? = some (.cells #[.int .u64 (x.1 : Nat), .int .i64 x.2.1, .int .i64 (fl : Nat), .slice x.2.2.2.1 x.2.2.2.2.1 x.2.2.2.2.2] 52 (0, 0)) := by
        rw [← hwa]
        exact heap_alloc_new _ _
      have hvi := view_any B wa g st2 (HST.out.up hua) x.1 hx64 x.2.1 hfv
      unfold vid at hvi
      have hfree : Free wa g wr.heap.size := Free.new HST.out hua (Nat.le_refl _) (by omega)
      have hbB : Below B w wa := hbk.trans (hua.mono (by have := hbk.size; omega))
      have HIT2 : Hid (ItsX (fun b => b < B) wa x.2.2.2.1 x.2.2.2.2.1 d.2.2.2 ∧ ∀ z ∈ d.2.2.2, okF z.1 = true) := ⟨HIT.out.1.keep (Kp.up hua), HIT.out.2⟩
      have HWA : Hid (wr.alloc (.cells #[.int .u64 (x.1 : Nat), .int .i64 x.2.1, .int .i64 (fl : Nat), .slice x.2.2.2.1 x.2.2.2.2.1 x.2.2.2.2.2] 52) = wa) := hwa
      clear hbk hua HST hwa hsa HIT
      go_wp2_with fail
      rw [HWA.out]
      refine hvi.mono ?_
      rintro e w2 ⟨rfl, hw2, hb2, hfr2⟩
      have hc2 : w2.heap[wr.heap.size]? = some (.cells #[.int .u64 (x.1 : Nat), .int .i64 x.2.1, .int .i64 (fl : Nat), .slice x.2.2.2.1 x.2.2.2.2.1 x.2.2.2.2.2] 52 (0, 0)) := (hfr2 _ hfree).1.trans hca
      have hfree2 := (hfr2 _ hfree).2
      have d2 : w2.cell? ⟨wr.heap.size, 2, none⟩ = some (.int .i64 (fl : Nat)) := by rw [cell_of_row w2 _ 2 _ 52 (0, 0) hc2]; rfl
      have hnu := number_any' B w2 g _ hw2 fl (by omega)
      have hb02 := hbB.trans hb2
      have HIT3 : Hid (ItsX (fun b => b < B) w2 x.2.2.2.1 x.2.2.2.2.1 d.2.2.2 ∧ ∀ z ∈ d.2.2.2, okF z.1 = true) := ⟨HIT2.out.1.keep (Kp.below hb2 (fun b hb => hb)), HIT2.out.2⟩
      clear hvi hw2 hb2 hfr2 hfree hca hbB HWA c0 c1 c2 c3 HIT2
      go_wp2_with fail
      refine hnu.mono ?_
      rintro e w3 ⟨rfl, hw3, hb3, hfr3⟩
      have hc3 : w3.heap[wr.heap.size]? = some (.cells #[.int .u64 (x.1 : Nat), .int .i64 x.2.1, .int .i64 (fl : Nat), .slice x.2.2.2.1 x.2.2.2.2.1 x.2.2.2.2.2] 52 (0, 0)) := (hfr3 _ hfree2).1.trans hc2
      have d3 : w3.cell? ⟨wr.heap.size, 3, none⟩ = some (.slice x.2.2.2.1 x.2.2.2.2.1 x.2.2.2.2.2) := by rw [cell_of_row w3 _ 3 _ 52 (0, 0) hc3]; rfl
      have hit := items_any B w3 g _ hw3 x.2.2.2.1 x.2.2.2.2.1 x.2.2.2.2.2 d.2.2.2 (HIT3.out.1.keep (Kp.below hb3 (fun b hb => hb))) HIT3.out.2
      rw [HL.out] at hit
      have hb03 := hb02.trans hb3
      clear hnu hw3 hb3 hfr3 hfree2 hc2 hc3 hb02 d2 HIT3
      go_wp2_with fail
      refine hit.mono ?_
      rintro e w4 ⟨rfl, hw4, hb4⟩
      have HW4 : Hid (Wr B w4 g (layS st1 ((ds.take (k + 1)).flatMap encS))) := hw4
      have hb04 := hb03.trans hb4
      clear hit hw4 hb4 hb03 d3
      go_wp2
      go_roundw
      case rel => first | exact ⟨k + 1, by omega, by go_num, HW4.out, hb04⟩ | ((repeat apply Exists.intro); exact ⟨⟨k + 1, by omega, by go_num, HW4.out, hb04⟩, rfl⟩)
      case measure => simp [intOf]; omega
    · obtain rfl : k = n := by omega
      have HF : Hid (Wr B wr g (layS st (encL encS ds))) := by
        have := HWK.out
        rw [List.take_of_length_le (by omega), HE.out] at this
        exact this
      clear HWK HX HOK HE
      go_wp2
      go_end0
      exact ⟨rfl, HF.out, hbk⟩
end Go.Proofs.Ytfemjbaadnjanaa
