/-
  A nil one (MemberNil).
-/
import Derived.Test.YtlonbbepoamnmaaDoorMGreat
import Derived.Test.YtlonbbepoamnmaaDoorMReads
import Derived.Test.YtlonbbepoamnmaaDoorMAwake
namespace Go.Proofs.YtlonbbepoamnmaaDoor
open Go.RowKit
set_option linter.unusedVariables false

set_option maxRecDepth 20000 in
set_option maxHeartbeats 2000000 in
theorem nil_walk (w : World) (tab : Tab w) (est : Nat) (hest : est < 65536) (F : PF) (a : Fa) (h : FArg w F a) : Calls Tryd.prog 7 #[.int .u16 (est : Nat), fval F a] w fun e w' => e = .returned (.bool true) ∧ Below w.heap.size w w' := by
  obtain ⟨w0, hw0⟩ : ∃ w0, w.alloc (.cells (fcells F a) 43) = w0 := ⟨_, rfl⟩
  have b0 : Below w.heap.size w w0 := by rw [← hw0]; exact bl1 _ _
  have d : Bfr w.heap.size F a w0 := by rw [← hw0]; exact bfr_new _ _ _
  have HA := h.keep (Kp.up b0)
  have hgr := great_any w0 F a HA
  have tab0 := tab.below b0 tab.lt
  have HU : Hid (Below w.heap.size w w0 ∧ w.heap.size ≤ w0.heap.size ∧ Tab w0) := ⟨b0, b0.size, tab0⟩
  have HD : Hid (Bfr w.heap.size F a w0) := d
  have d0 := d 0 _ rfl
  have d1 := d 1 _ rfl
  have d2 := d 2 _ rfl
  have d3 := d 3 _ rfl
  have d4 := d 4 _ rfl
  have d5 := d 5 _ rfl
  have d6 := d 6 _ rfl
  have d7 := d 7 _ rfl
  have d8 := d 8 _ rfl
  have d9 := d 9 _ rfl
  have d10 := d 10 _ rfl
  have d11 := d 11 _ rfl
  have d12 := d 12 _ rfl
  have d13 := d 13 _ rfl
  have d14 := d 14 _ rfl
  clear h HA d b0 tab0
  unfold fval at hgr ⊢
  unfold fcells at hgr hw0 ⊢
  go_enter Tryd.func7, Tryd.ntmps7
  go_wp2_with fail
  refine hgr.mono ?_
  rintro e w1 ⟨⟨r, rfl⟩, u1⟩
  clear hgr d0 d1 d2 d3 d4 d5 d6 d7 d8 d9 d10 d11 d12 d13 d14
  have HU1 : Hid (Below w.heap.size w w1 ∧ w.heap.size ≤ w1.heap.size ∧ Tab w1) := ⟨Up.below HU.out.1 HU.out.2.1 u1.bl, Nat.le_trans HU.out.2.1 u1.bl.size, HU.out.2.2.below u1.bl HU.out.2.2.lt⟩
  have HD1 : Hid (Bfr w.heap.size F a w1) := HD.out.up u1.bl
  clear u1 HU HD
  cases r with
  | true =>
    go_wp2_with fail
    refine (awake_any w1 HU1.out.2.2).mono ?_
    rintro e w2 ⟨rfl, b2⟩
    have HE : Hid (Below w.heap.size w w2) := Up.below HU1.out.1 HU1.out.2.1 b2
    clear b2
    go_wp2
    go_ret
    exact ⟨rfl, HE.out⟩
  | false =>
    have ht := tick_nil w1 est (0, 0, 0, none, 0, 0)
    unfold sta at ht
    go_wp2_with fail
    refine ht.mono ?_
    rintro e w2 ⟨rfl, b2⟩
    have HU2 : Hid (Below w.heap.size w w2 ∧ w.heap.size ≤ w2.heap.size ∧ Tab w2) := ⟨Up.below HU1.out.1 HU1.out.2.1 b2, Nat.le_trans HU1.out.2.1 b2.size, HU1.out.2.2.below b2 HU1.out.2.2.lt⟩
    have d := HD1.out.up b2
    have d0 := d 0 _ rfl
    have d1 := d 1 _ rfl
    have d2 := d 2 _ rfl
    have d3 := d 3 _ rfl
    have d4 := d 4 _ rfl
    have d5 := d 5 _ rfl
    have d6 := d 6 _ rfl
    have d7 := d 7 _ rfl
    have d8 := d 8 _ rfl
    have d9 := d 9 _ rfl
    have d10 := d 10 _ rfl
    have d11 := d 11 _ rfl
    have d12 := d 12 _ rfl
    have d13 := d 13 _ rfl
    have d14 := d 14 _ rfl
    have hin := in_nil w2 F a (0, 0, 0, none, 0, 0)
    unfold fval fcells sta at hin
    clear d ht b2 HU1 HD1
    go_wp2_with fail
    refine hin.mono ?_
    rintro e w3 ⟨rfl, b3⟩
    have HU3 : Hid (Below w.heap.size w w3 ∧ w.heap.size ≤ w3.heap.size) := ⟨Up.below HU2.out.1 HU2.out.2.1 b3, Nat.le_trans HU2.out.2.1 b3.size⟩
    have ha := awake_any w3 (HU2.out.2.2.below b3 HU2.out.2.2.lt)
    clear hin b3 HU2 d0 d1 d2 d3 d4 d5 d6 d7 d8 d9 d10 d11 d12 d13 d14
    have v0 := fun W => view_equal 0 0 0 0 0 0 W
    have v1 := fun W => vid_equal 0 0 0 0 W
    simp only [and_self, decide_true, Int.natCast_zero] at v0 v1
    go_wp2_with fail
    refine ha.mono ?_
    rintro e w4 ⟨rfl, b4⟩
    have HU4 : Hid (Below w.heap.size w w4 ∧ w.heap.size ≤ w4.heap.size) := ⟨Up.below HU3.out.1 HU3.out.2 b4, Nat.le_trans HU3.out.2 b4.size⟩
    clear ha b4 HU3
    go_wp2_with fail
    refine (cur_nil w4).mono ?_
    rintro e w5 ⟨rfl, u5⟩
    have HU5 : Hid (Below w.heap.size w w5 ∧ w.heap.size ≤ w5.heap.size) := ⟨Up.below HU4.out.1 HU4.out.2 u5.bl, Nat.le_trans HU4.out.2 u5.bl.size⟩
    clear u5 HU4
    unfold vw
    go_wp2_with fail
    refine (prom_nil w5).mono ?_
    rintro e w6 ⟨rfl, u6⟩
    have HU6 : Hid (Below w.heap.size w w6) := Up.below HU5.out.1 HU5.out.2 u6.bl
    clear u6 HU5
    unfold vid
    go_wp2_with fail
    refine (open_nil w6).mono ?_
    rintro e w7 ⟨rfl, rfl⟩
    go_wp2
    go_ret
    exact ⟨rfl, HU6.out⟩
end Go.Proofs.YtlonbbepoamnmaaDoor
