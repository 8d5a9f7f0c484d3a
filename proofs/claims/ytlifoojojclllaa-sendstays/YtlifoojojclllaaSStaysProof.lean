/-
  Proved: for all lists of texts l and more and every number window, SendStays(l, more, window) returns true: a window that isn't acked stays as it is, whatever is put behind it; the document's example holds. No condition.
-/
import Derived.Test.YtlifoojojclllaaRows
import Derived.Test.YtlifoojojclllaaSPut
namespace Go.Proofs.Ytlifoojojclllaa.sendStays
open Go.ChangeShapes Go.WideShapes Go.ChangeAt Go.RowKit
open Go.ChangeMaps (open_string shut_string)
set_option linter.unusedVariables false

theorem snew200 (w : World) (win : Nat) (h3 : 1 ≤ win) (h4 : win ≤ 32) : Calls Try.prog 14 #[.int .i64 200, .int .i64 (win : Nat)] w fun e w' => ∃ q F, e = .returned (.tuple #[.pointer (some ⟨q, 0, none⟩), .int .i64 0]) ∧ Snd w' 9 F q 200 win 0 [] ∧ Turned (fun _ => False) w w' ∧ ∀ b, F b → w.heap.size ≤ b := snewS_any w 200 (by omega) (by omega) win h3 h4
theorem swin0 {w : World} {F : Nat → Prop} {q most win : Nat} {xs : List Value} (h : Snd w 9 F q most win 0 xs) (hs : ∀ x ∈ xs, ∃ s, x = .string s) :
    Calls Try.prog 17 #[.pointer (some ⟨q, 0, none⟩)] w fun e w' => ∃ ao n c, n = min win xs.length ∧ e = .returned (.tuple #[.int .u64 0, .slice ao n c]) ∧ Lst w' (.slice ao n c) (xs.take win) ∧ Turned (fun _ => False) w w' ∧ ∀ b, (Value.slice ao n c).ownBlock = some b → w.heap.size ≤ b :=
  (swin_any h hs).mono (by
    rintro e w' ⟨v', rfl, hl, t, hb⟩
    obtain ⟨ao, c, rfl⟩ := hl.shape
    exact ⟨ao, _, c, List.length_take .., rfl, hl, t, hb⟩)

set_option maxRecDepth 10000 in
set_option maxHeartbeats 4000000 in
theorem walk (w : World) (a0 : Option Addr) (len0 cap0 : Nat) (xs : List Value) (hx : Tx w (.slice a0 len0 cap0) xs) (hs0 : len0 ≤ 140737488355328) (a1 : Option Addr) (len1 cap1 : Nat) (ys : List Value) (hy : Tx w (.slice a1 len1 cap1) ys) (hs1 : len1 ≤ 140737488355328) (a2 : Nat) (h2 : a2 < 256) :
    Calls Try.prog 4 #[.slice a0 len0 cap0, .slice a1 len1 cap1, .int .u8 (a2 : Nat)] w fun e w' => e = .returned (.bool true) ∧ Below w.heap.size w w' := by
  have HX : Hid (Tx w (.slice a0 len0 cap0) xs) := hx
  have HY : Hid (Tx w (.slice a1 len1 cap1) ys) := hy
  have HL0 : Hid (len0 = xs.length) := hx.len.1
  have HL1 : Hid (len1 = ys.length) := hy.len.1
  clear hx hy
  by_cases hlen : 200 < len0 + len1
  · have hlenI : (200 : Int) < (len0 : Int) + len1 := by omega
    go_enter Try.func4, Try.ntmps4
    go_wp2_with fail
    refine (awake9_any _).mono ?_
    rintro e w1 ⟨rfl, t1⟩
    go_wp2_with fail
    refine (awake9_any _).mono ?_
    rintro e w2 ⟨rfl, t2⟩
    go_wp2
    go_ret
    exact ⟨rfl, (t1.trans t2 (fun _ hf => hf.elim)).below (Nat.le_refl _) (fun _ hf => hf.elim)⟩
  · obtain ⟨W, HW⟩ : ∃ W : Nat, Hid (W = 1 + a2 % 32) := ⟨_, rfl⟩
    have hW1 : 1 ≤ W := by have := HW.out; omega
    have hW2 : W ≤ 32 := by have := HW.out; omega
    have eW : (1 : Int) + (a2 : Int) % 32 = (W : Int) := by have := HW.out; omega
    have hlenI : ¬ (200 : Int) < (len0 : Int) + len1 := by omega
    have hld : decide ((200 : Int) < (len0 : Int) + len1) = false := by simp; omega
    go_enter Try.func4, Try.ntmps4
    go_wp2_with fail
    refine (awake9_any _).mono ?_
    rintro e w1 ⟨rfl, t1⟩
    go_wp2_with fail
    refine (snew200 _ W hW1 hW2).mono ?_
    rintro e w2 ⟨q, F2, rfl, s2, t2, b2⟩
    have o2 : Own w w2 F2 := Own.behind t1 ⟨t2, b2⟩
    clear t1 t2 b2
    go_wp2_with fail
    try simp only [eW, hld]
    clear eW hlenI hld
    go_loopw [10] (fun iv wr => ∃ (i : Nat) (F : Nat → Prop), i ≤ len0 ∧ iv = .int .i64 i ∧ Snd wr 9 F q 200 W 0 (xs.take i) ∧ Own w wr F) (fun iv _ => len0 - (intOf iv).toNat)
    case atStart => exact ⟨0, F2, by omega, rfl, s2, o2⟩
    case round =>
      clear s2 o2
      obtain ⟨i, F, hi, rfl, hr, ho⟩ := hrel
      by_cases hlt : i < len0
      · have hltI : (i : Int) < len0 := by omega
        obtain ⟨-, -, b, off, s, rfl, hxi, hc⟩ := (HX.out.turned ho.turned).at hlt
        have HXI : Hid (xs[i]? = some (.string s)) := hxi
        have htl : (xs.take i).length < 200 := by rw [List.length_take]; omega
        clear hxi
        go_wp2_with fail
        refine (sputS_any hr htl _ (one_string _)).mono ?_
        rintro e w3 ⟨rfl, F3, r3, g3⟩
        have o3 := ho.goes g3
        rw [← take_snoc HXI.out] at r3
        clear hr ho g3 hc htl
        go_wp2
        go_roundw
        case rel => first | exact ⟨i + 1, F3, by omega, by go_num, r3, o3⟩ | ((repeat apply Exists.intro); exact ⟨⟨i + 1, F3, by omega, by go_num, r3, o3⟩, rfl⟩)
        case measure => simp [intOf]; omega
      · obtain rfl : len0 = i := by omega
        have e0 : xs.take len0 = xs := by rw [HL0.out]; exact List.take_length
        rw [e0] at hr
        clear e0
        go_wp2_with fail
        refine (swin0 hr HX.out.txt).mono ?_
        rintro e w4 ⟨ao, n, c, hn, rfl, l4, t4, hb4⟩
        have r4 := hr.still t4
        have o4 := ho.still t4
        have hv4 : ∀ b, (Value.slice ao n c).ownBlock = some b → ¬ F b := fun b hb hf => by have := hr.lt b hf; have := hb4 b hb; omega
        have HN : Hid (n = min W xs.length) := hn
        have HL4 : Hid (Lst w4 (.slice ao n c) (xs.take W) ∧ (∀ b, (Value.slice ao n c).ownBlock = some b → ¬ F b)) := ⟨l4, hv4⟩
        clear hr ho t4 hb4 hv4 l4 hn
        go_wp2_with fail
        go_loopw [13] (fun iv wr => ∃ (i : Nat) (F : Nat → Prop), i ≤ len1 ∧ iv = .int .i64 i ∧ Snd wr 9 F q 200 W 0 (xs ++ ys.take i) ∧ Own w wr F ∧ Hid (Lst wr (.slice ao n c) (xs.take W) ∧ (∀ b, (Value.slice ao n c).ownBlock = some b → ¬ F b))) (fun iv _ => len1 - (intOf iv).toNat)
        case atStart => exact ⟨0, F, by omega, rfl, by simpa using r4, o4, HL4⟩
        case round =>
          clear r4 o4 HL4
          obtain ⟨i, F, hi, rfl, hr, ho, hl⟩ := hrel
          by_cases hlt : i < len1
          · have hltI : (i : Int) < len1 := by omega
            obtain ⟨-, -, b, off, s, rfl, hxi, hc⟩ := (HY.out.turned ho.turned).at hlt
            have HXI : Hid (ys[i]? = some (.string s)) := hxi
            have htl : (xs ++ ys.take i).length < 200 := by rw [List.length_append, List.length_take, ← HL0.out]; omega
            clear hxi
            go_wp2_with fail
            refine (sputS_any hr htl _ (one_string _)).mono ?_
            rintro e w3 ⟨rfl, F3, r3, g3⟩
            have o3 := ho.goes g3
            have l3 : Hid (Lst w3 (.slice ao n c) (xs.take W) ∧ (∀ b, (Value.slice ao n c).ownBlock = some b → ¬ F3 b)) := hl.out.1.goes g3 hl.out.2
            rw [← app_snoc HXI.out] at r3
            clear hr ho g3 hc htl hl
            go_wp2
            go_roundw
            case rel => first | exact ⟨i + 1, F3, by omega, by go_num, r3, o3, l3⟩ | ((repeat apply Exists.intro); exact ⟨⟨i + 1, F3, by omega, by go_num, r3, o3, l3⟩, rfl⟩)
            case measure => simp [intOf]; omega
          · obtain rfl : len1 = i := by omega
            have e0 : ys.take len1 = ys := by rw [HL1.out]; exact List.take_length
            rw [e0] at hr
            clear e0
            have htxt : ∀ x ∈ xs ++ ys, ∃ s, x = .string s := fun x hx => (List.mem_append.1 hx).elim (HX.out.txt x) (HY.out.txt x)
            go_wp2_with fail
            refine (swin0 hr htxt).mono ?_
            rintro e w5 ⟨ao5, n5, c5, hn5, rfl, l5, t5, hb5⟩
            have o5 := ho.still t5
            have l6 := hl.out.1.still t5
            rw [List.length_append] at hn5
            have hn : n ≤ n5 := by have := HN.out; omega
            have hnI : (n : Int) ≤ n5 := by omega
            obtain ⟨-, hc5, hsp, l7⟩ := lst_take l5 n (by rw [List.length_take, List.length_append]; omega)
            have e7 : ((xs ++ ys).take W).take n = xs.take W := by
              rw [List.take_take, HN.out]
              by_cases hle : W ≤ xs.length
              · rw [show min (min W xs.length) W = W by omega, List.take_append_of_le_length hle]
              · rw [show min (min W xs.length) W = xs.length by omega, List.take_append_of_le_length (Nat.le_refl _), List.take_length, List.take_of_length_le (by omega)]
            rw [e7] at l7
            have hsl := fun W => slice_to W ao5 n5 c5 n hc5 hsp
            have hor : (n : Int) = W ∨ (n : Int) = len0 := by have := HN.out; have := HL0.out; omega
            have hsame := same_any l7.strs l6.strs (by rw [List.length_take]; have := HL0.out; omega)
            have hb := o5.below
            clear hr ho hl l5 t5 hb5 l6 l7 e7 hn5 htxt o5 hsp
            go_wp2_with fail
            refine hsame.mono ?_
            rintro e w8 ⟨rfl, k8, rfl⟩
            have hb8 : Below w.heap.size w (w5.drewN k8) := ⟨hb.os, hb.tape, hb.output, hb.size, hb.block⟩
            clear hsame hb
            rcases hor with hor | hor
            · rw [hor]
              go_wp2
              go_ret
              exact ⟨rfl, hb8⟩
            · by_cases hnW : (n : Int) = W
              · rw [hnW]
                go_wp2
                go_ret
                exact ⟨rfl, hb8⟩
              · have hnd : ((n : Int) == (W : Int)) = false := by simpa using hnW
                have hnd2 : ((n : Int) == (len0 : Int)) = true := by simpa using hor
                clear hor hnW
                go_wp2
                go_ret
                exact ⟨rfl, hb8⟩

set_option maxRecDepth 100000 in
theorem lifted (os : Os) (started : os.Started) (H : Type) (enc : TypeId × Value → H) :
    ReturnsInHanded {} Try.checked os 4 .any (Rows.sendStaysSpec.pre6 enc Try.prog Try.f4 Rows.sendStaysRow.domain false) (Rows.sendStaysSpec.post enc Try.prog Try.f4 false true false false) := by
  refine returnsInHanded_of_change_sized (C := Try.checked) own started (by kernel_rfl) Try.func4
    (ChangeSpec.witness6 (enc := enc) (C := Try.checked) false ⟨#[], #[.slice none 0 0, .slice none 0 0, .int .u8 0], []⟩ 4 (by kernel_rfl) (by kernel_rfl) (by kernel_rfl) (by kernel_rfl)) ?_
  intro W base args ds gs before hval0 hW hcnd hsz0 _
  have hsz : (DataW.weightsEach Try.prog (Try.f4.params.toList ++ Rows.sendStaysSpec.plain.varTypes Try.prog) (ds ++ gs)).all (· ≤ reachBytes) = true := hsz0
  have hval : ∀ (j : Nat) t v, Try.f4.params[j]? = some t → args[j]? = some v → Value.okWide Try.prog W .any base t v := hval0
  have hW' := hW
  obtain ⟨p, q, hA0, hV, rfl, hfz, hnd⟩ := hW
  have hA : DataW.TrodAll enc Try.prog W 0 (fun _ => true) true Try.f4.params.toList args.toList ds p := hA0
  rw [Try.params4] at hA hval hsz
  obtain ⟨v0, vs0, d0, ds0, p0, q0, hargs0, rfl, rfl, h0, r0⟩ := trodAll_cons hA
  obtain ⟨v1, vs1, d1, ds1, p1, q1, hargs1, rfl, rfl, h1, r1⟩ := trodAll_cons r0
  obtain ⟨v2, vs2, d2, ds2, p2, q2, hargs2, rfl, rfl, h2, r2⟩ := trodAll_cons r1
  obtain ⟨rfl, rfl, rfl⟩ := trodAll_nil r2
  obtain rfl : args = #[v0, v1, v2] := by cases args; simp_all
  obtain ⟨rfl, rfl⟩ := trodVars_none hV
  obtain ⟨a0, len0, cap0, rfl⟩ := okWide_slice Try.underlying28 (hval 0 28 v0 rfl rfl)
  have k0 := h0
  have lt0 : ∀ x ∈ p0, x.block < W.heap.size := by obtain ⟨m, hm⟩ := k0; exact DataW.trod_lt m _ _ _ hm
  have hs0 := size_texts h0 hsz (j := 0) rfl rfl
  obtain ⟨xs0, hx0⟩ := open_texts h0
  obtain ⟨a1, len1, cap1, rfl⟩ := okWide_slice Try.underlying28 (hval 1 28 v1 rfl rfl)
  have k1 := h1
  have lt1 : ∀ x ∈ p1, x.block < W.heap.size := by obtain ⟨m, hm⟩ := k1; exact DataW.trod_lt m _ _ _ hm
  have hs1 := size_texts h1 hsz (j := 1) rfl rfl
  obtain ⟨xs1, hx1⟩ := open_texts h1
  obtain ⟨a2, rfl, rfl, rfl, w2⟩ := open_int Try.underlying5 (hval 2 5 v2 rfl rfl) h2
  clear hA0 hval0 hsz hsz0
  obtain ⟨n2, rfl, hn2⟩ := u8_of_wf w2
  refine (walk W a0 len0 cap0 xs0 hx0 hs0 a1 len1 cap1 xs1 hx1 hs1 n2 hn2).mono fun e W' ⟨he, bel⟩ => ?_
  subst he
  exact ⟨_, rfl, _, _, _, [], _, [], hW', trodAll_mk1 (shut_bool Try.underlying4 _), (trodAll_cons_mk (Below.trod laidOut (by kernel_rfl) (of_decide_eq_true (by kernel_rfl)) k0 bel lt0) (trodAll_cons_mk (Below.trod laidOut (by kernel_rfl) (of_decide_eq_true (by kernel_rfl)) k1 bel lt1) (trodAll_cons_mk (shut_int Try.underlying5 w2) trodAll_mk0))), rfl, bel.frame _, fun h => by cases h⟩

theorem over : Rows.sendStaysRow.holds Try.pinned (OpenSpec.ofChange Rows.sendStaysSpec) :=
  OpenClaim.holds_of_wide 4 Try.f4 rfl rfl rfl rfl rfl rfl rfl ⟨rfl, rfl, rfl, rfl, rfl⟩ rfl rfl rfl rfl rfl (by kernel_rfl) Try.func4 (by kernel_rfl)
    (of_decide_eq_true (by kernel_rfl)) (by unfold Func.isWrapper; first | (rw [if_pos (by decide +kernel)]; kernel_rfl) | (rw [if_neg (by decide +kernel)]; exact ⟨rfl, rfl⟩))
    (fun os started H enc _ => lifted os started H enc)

end Go.Proofs.Ytlifoojojclllaa.sendStays
namespace Go.Proofs.Ytlifoojojclllaa
theorem sendStays_holds : Rows.SendStaysSaid := sendStays.over
#print axioms sendStays_holds
end Go.Proofs.Ytlifoojojclllaa
