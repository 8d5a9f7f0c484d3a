/-
  Right: is it a summary?
-/
import Derived.Test.YtlaihgdfedalmaaGreatMix1
import Derived.Test.YtlaihgdfedalmaaGreatMix3
import Derived.Test.YtlaihgdfedalmaaGreatLSrtAll
namespace Go.Proofs.YtlaihgdfedalmaaGreat
open Go.RowKit
set_option linter.unusedVariables false
set_option linter.unusedSimpArgs false

set_option maxRecDepth 10000 in
theorem clo57_any (w : World) (x : Lb) : Calls Tryz.prog 148 #[lab x] w fun e w' => e = .returned (.bool (!formL x)) ∧ Up w w' := by
  have c1 := fun W => formL_any W x
  have up0 : Up w (w.alloc (.cells #[.int .u64 (x.1 : Nat), .int .i64 x.2.1, .int .u64 (x.2.2.1 : Nat), .int .i64 x.2.2.2] 39)) := (Up.refl _).alloc _
  obtain ⟨d0, d1, d2, d3⟩ := bx_new w x.1 x.2.1 x.2.2.1 x.2.2.2 39
  generalize formL x = f at *
  obtain ⟨a, b, c, d⟩ := x
  unfold lab at *
  simp only at *
  go_enter Tryz.func148, Tryz.ntmps148
  go_wp2_with fail
  refine (c1 _).mono ?_
  rintro e w1 ⟨rfl, hu⟩
  have up1 := up0.trans hu
  clear c1 up0 hu d0 d1 d2 d3
  go_wp2
  go_ret
  exact ⟨rfl, up1⟩
set_option maxRecDepth 10000 in
set_option maxHeartbeats 1000000 in
theorem index57_any (w : World) (ao : Option Addr) (n cap : Nat) (ls : List Lb) (h : LR w ao n ls) :
    Calls Tryz.prog 172 #[.slice ao n cap, .func (.func 148) #[] #[]] w fun e w' => ∃ i : Int, e = .returned (.int .i64 i) ∧ (decide (0 ≤ i) = !ls.all formL) ∧ Up w w' := by
  have hl := h.1
  have hmax := h.2.1
  have hcl := fun W x => clo57_any W x
  go_enter Tryz.func172, Tryz.ntmps172
  go_wp2_with fail
  go_loopw [8] (fun iv wr => ∃ k : Nat, k ≤ n ∧ iv = .int .i64 k ∧ (ls.take k).all formL = true ∧ LR wr ao n ls ∧ Up w wr) (fun iv _ => n - (intOf iv).toNat)
  case atStart => exact ⟨0, by omega, rfl, by simp, h, Up.refl _⟩
  case round =>
    obtain ⟨k, hk, rfl, hno, hr, hu⟩ := hrel
    have HNO : Hid ((ls.take k).all formL = true) := hno
    clear hno h
    by_cases hlt : k < n
    · have hltI : (k : Int) < (n : Int) := by omega
      obtain ⟨x, hx⟩ : ∃ y, ls[k]? = some y := ⟨ls[k]'(by omega), List.getElem?_eq_getElem (by omega)⟩
      have HX : Hid (ls[k]? = some x) := hx
      obtain ⟨b, off, hao, hc⟩ := hr.2.2 (by omega)
      obtain ⟨c0, c1, c2, c3⟩ := hc k x hx
      have HR := hr
      subst hao
      have hk0 : ¬ ((k : Int) < 0) := by omega
      have hc1 := hcl wr x
      have HF : Hid (∀ f, f = formL x → if f = true then (ls.take (k + 1)).all formL = true else ls.all formL = false) := by
        show ∀ f, f = formL x → _
        intro f hf
        cases f with
        | true =>
          simp only [if_true]
          rw [List.take_add_one, HX.out, List.all_append, HNO.out]
          simp [← hf]
        | false =>
          simp
          exact ⟨x.1, x.2.1, x.2.2.1, x.2.2.2, List.mem_of_getElem? HX.out, hf.symm⟩
      unfold lab at hc1
      obtain ⟨f, hf⟩ : ∃ f, formL x = f := ⟨_, rfl⟩
      rw [hf] at hc1
      have hff := HF.out f hf.symm
      clear hc hx hr hcl HF hf
      cases f with
      | true =>
        simp only [if_true] at hff
        have HFF : Hid ((ls.take (k + 1)).all formL = true) := hff
        clear hff HNO
        go_wp2_with fail
        refine hc1.mono ?_
        rintro e w1 ⟨rfl, hu1⟩
        have hu2 := hu.trans hu1
        have HR2 := HR.up hu1.bl
        clear hc1 HR c0 c1 c2 c3 hu hu1
        go_wp2
        go_roundw
        case rel => first | exact ⟨k + 1, by omega, by go_num, HFF.out, HR2, hu2⟩ | ((repeat apply Exists.intro); exact ⟨⟨k + 1, by omega, by go_num, HFF.out, HR2, hu2⟩, rfl⟩)
        case measure => simp [intOf]; omega
      | false =>
        have HFF : Hid (ls.all formL = false) := (by simpa using hff : ls.all formL = false)
        clear hff HNO
        go_wp2_with fail
        refine hc1.mono ?_
        rintro e w1 ⟨rfl, hu1⟩
        have hu2 := hu.trans hu1
        clear hc1 HR c0 c1 c2 c3 hu hu1
        go_wp2
        go_ret
        exact ⟨k, rfl, by rw [HFF.out]; simp, hu2⟩
    · obtain rfl : k = n := by omega
      have HFF : Hid (ls.all formL = true) := by
        have e := HNO.out
        rwa [List.take_of_length_le (by omega)] at e
      clear HNO hr hcl
      go_wp2
      go_ret
      exact ⟨-1, rfl, by rw [HFF.out]; simp, hu⟩
set_option maxRecDepth 10000 in
theorem contains57_any (w : World) (ao : Option Addr) (n cap : Nat) (ls : List Lb) (h : LR w ao n ls) :
    Calls Tryz.prog 149 #[.slice ao n cap, .func (.func 148) #[] #[]] w fun e w' => e = .returned (.bool (!ls.all formL)) ∧ Up w w' := by
  have hi := index57_any w ao n cap ls h
  generalize ls.all formL = f at *
  clear h
  go_enter Tryz.func149, Tryz.ntmps149
  go_wp2_with fail
  refine hi.mono ?_
  rintro e w1 ⟨i, rfl, hd, hu⟩
  clear hi
  cases f with
  | true =>
    have hd' : ¬ (0 ≤ i) := by simpa using hd
    clear hd
    go_wp2
    go_ret
    exact ⟨ret_bool (by simp [*] <;> omega), hu⟩
  | false =>
    have hd' : 0 ≤ i := by simpa using hd
    clear hd
    go_wp2
    go_ret
    exact ⟨ret_bool (by simp [*] <;> omega), hu⟩
set_option maxRecDepth 10000 in
theorem rightOrder_any (w : World) (ao : Option Addr) (n cap : Nat) (ls : List Lb) (h : LR w ao n ls) (hn : n ≤ 5000) (hz : ao = none → n = 0) :
    Calls Tryz.prog 117 #[.slice ao n cap] w fun e w' => e = .returned (.bool (ls.all formL && decide ls.Nodup)) ∧ Below w.heap.size w w' := by
  have hc := contains57_any w ao n cap ls h
  have ht := fun W (u : Up w W) => twice_any W ao n cap ls (h.up u.bl) hn hz
  obtain ⟨f, hf⟩ : ∃ f, ls.all formL = f := ⟨_, rfl⟩
  rw [hf] at hc ⊢
  cases f with
  | false =>
    simp only [Bool.false_and]
    clear ht hf h
    go_enter Tryz.func117, Tryz.ntmps117
    go_wp2_with fail
    refine hc.mono ?_
    rintro e w1 ⟨rfl, hu⟩
    have hb := hu.bl
    clear hc hu
    go_wp2
    go_ret
    exact ⟨rfl, hb⟩
  | true =>
    simp only [Bool.true_and]
    obtain ⟨d, hd⟩ : ∃ d, decide (¬ ls.Nodup) = d := ⟨_, rfl⟩
    have hd2 : decide ls.Nodup = !d := by rw [← hd]; simp
    rw [hd] at ht
    rw [hd2]
    clear hf h hd hd2
    go_enter Tryz.func117, Tryz.ntmps117
    go_wp2_with fail
    refine hc.mono ?_
    rintro e w1 ⟨rfl, hu⟩
    have ht1 := ht w1 hu
    have hb := hu.bl
    clear hc hu ht
    go_wp2_with fail
    refine ht1.mono ?_
    rintro e w2 ⟨rfl, hb2⟩
    have hbb := bl_step hb hb2
    clear ht1 hb hb2
    go_wp2
    go_ret
    exact ⟨rfl, hbb⟩
end Go.Proofs.YtlaihgdfedalmaaGreat
