/-
  Proved: for every list of texts l and all numbers most and window, SendAll(l, most, window) returns true: a window that is acked whole, again and again, sends all that was put, in its order, each once; the document's example holds. No condition.
-/
import Derived.Test.YtlifoojojclllaaRows
import Derived.Test.YtlifoojojclllaaSSeg
namespace Go.Proofs.Ytlifoojojclllaa.sendAll
open Go.ChangeShapes Go.WideShapes Go.ChangeAt Go.RowKit
open Go.ChangeMaps (open_string shut_string)
set_option linter.unusedVariables false

theorem swinG {w : World} {F : Nat → Prop} {q most win ack : Nat} {xs : List Value} (h : Snd w 9 F q most win ack xs) (hs : ∀ x ∈ xs, ∃ s, x = .string s) :
    Calls Try.prog 17 #[.pointer (some ⟨q, 0, none⟩)] w fun e w' => ∃ ao n c, n = min win xs.length ∧ e = .returned (.tuple #[.int .u64 (ack : Nat), .slice ao n c]) ∧ Lst w' (.slice ao n c) (xs.take win) ∧ Turned (fun _ => False) w w' ∧ ∀ b, (Value.slice ao n c).ownBlock = some b → w.heap.size ≤ b :=
  (swin_any h hs).mono (by
    rintro e w' ⟨v', rfl, hl, t, hb⟩
    obtain ⟨ao, c, rfl⟩ := hl.shape
    exact ⟨ao, _, c, List.length_take .., rfl, hl, t, hb⟩)

set_option maxRecDepth 10000 in
set_option maxHeartbeats 4000000 in
theorem walk (w : World) (a0 : Option Addr) (len cap : Nat) (xs : List Value) (hx : Tx w (.slice a0 len cap) xs) (a1 : Nat) (h1 : a1 < 256) (a2 : Nat) (h2 : a2 < 256) :
    Calls Try.prog 6 #[.slice a0 len cap, .int .u8 (a1 : Nat), .int .u8 (a2 : Nat)] w fun e w' => e = .returned (.bool true) ∧ Below w.heap.size w w' := by
  have hmax : len ≤ 9223372036854775807 := by have := hx.len; omega
  have HX : Hid (Tx w (.slice a0 len cap) xs) := hx
  have HL : Hid (len = xs.length) := hx.len.1
  clear hx
  by_cases hlen : 150 < len
  · go_enter Try.func6, Try.ntmps6
    go_wp2_with fail
    refine (awake9_any _).mono ?_
    rintro e w1 ⟨rfl, t1⟩
    go_wp2_with fail
    refine (awake9_any _).mono ?_
    rintro e w2 ⟨rfl, t2⟩
    go_wp2
    go_ret
    exact ⟨rfl, (t1.trans t2 (fun _ hf => hf.elim)).below (Nat.le_refl _) (fun _ hf => hf.elim)⟩
  · obtain ⟨W, HW⟩ : ∃ W : Nat, Hid (W = 1 + a2 % 32) := ⟨_, rfl⟩
    have hW1 : 1 ≤ W := by have := HW.out; omega
    have hW2 : W ≤ 32 := by have := HW.out; omega
    have eW : (1 : Int) + (a2 : Int) % 32 = (W : Int) := by have := HW.out; omega
    obtain ⟨M, HM⟩ : ∃ M : Nat, Hid (M = 1 + a1 % 40) := ⟨_, rfl⟩
    have hM1 : 1 ≤ M := by have := HM.out; omega
    have hM2 : M ≤ 40 := by have := HM.out; omega
    have eM : (1 : Int) + (a1 : Int) % 40 = (M : Int) := by have := HM.out; omega
    have hlenI : ¬ (150 : Int) < (len : Int) := by omega
    have hld : decide ((150 : Int) < (len : Int)) = false := by simp; omega
    go_enter Try.func6, Try.ntmps6
    go_wp2_with fail
    refine (awake9_any _).mono ?_
    rintro e w1 ⟨rfl, t1⟩
    go_wp2_with fail
    refine (snewS_any _ M hM1 (by omega) W hW1 hW2).mono ?_
    rintro e w2 ⟨q, F2, rfl, s2, t2, b2⟩
    have o2 : Bes w w2 F2 (.slice none 0 0) [] := bes_new (Own.behind t1 ⟨t2, b2⟩) s2.lt
    clear t1 t2 b2
    go_wp2_with fail
    try simp only [eW, eM, hld]
    clear eW eM hlenI hld
    go_loopw [10, 11, 12] (fun pv gv cv wr => ∃ (P G cc : Nat) (F : Nat → Prop), G ≤ P ∧ P ≤ len ∧ cc ≤ G ∧ cc ≤ 400 ∧ pv = .int .i64 P ∧ cv = .int .i64 cc ∧ Snd wr 9 F q M W G (seg xs G P) ∧ Bes w wr F gv (xs.take G)) (fun _ _ cv _ => 400 - (intOf cv).toNat)
    case atStart => exact ⟨0, 0, 0, F2, by omega, by omega, by omega, by omega, rfl, rfl, by simpa [seg] using s2, by simpa using o2⟩
    case round =>
      clear s2 o2
      obtain ⟨P, G, cc, F, hGP, hP, hcG, hc4, rfl, rfl, hr, hb⟩ := hrel
      obtain ⟨ao, lcap, hv⟩ := hb.lst.shape
      rw [take_len (by have := HL.out; omega)] at hv
      subst hv
      have hPx : P ≤ xs.length := by have := HL.out; omega
      by_cases hlt : G < len
      · have hltI : (G : Int) < len := by omega
        have hccI : (cc : Int) < 400 := by omega
        go_wp2_with fail
        go_loopw [10] (fun pv wr => ∃ (P : Nat) (F : Nat → Prop), G ≤ P ∧ P ≤ len ∧ pv = .int .i64 P ∧ Snd wr 9 F q M W G (seg xs G P) ∧ Bes w wr F (.slice ao G lcap) (xs.take G)) (fun pv _ => len - (intOf pv).toNat)
        case atStart => exact ⟨P, F, hGP, hP, rfl, hr, hb⟩
        case round =>
          clear hr hb hGP hP hPx
          obtain ⟨P', F, hGP, hP, rfl, hr, hb⟩ := hrel
          have hPx : P' ≤ xs.length := by have := HL.out; omega
          by_cases hlp : P' < len
          · have hlpI : (P' : Int) < len := by omega
            obtain ⟨-, -, b, off, s, rfl, hxi, hc⟩ := (HX.out.turned hb.own.turned).at hlp
            have HXI : Hid (xs[P']? = some (.string s)) := hxi
            clear hxi
            by_cases hroom : P' - G < M
            · go_wp2_with fail
              refine (sputS_any hr (by rw [seg_len hPx]; omega) _ (one_string _)).mono ?_
              rintro e w3 ⟨rfl, F3, r3, g3⟩
              have b3 := hb.goes g3 r3.lt
              rw [← seg_snoc HXI.out hGP] at r3
              clear hr hb g3 hc
              go_wp2
              go_roundw
              case rel => first | exact ⟨P' + 1, F3, by omega, by omega, by go_num, r3, b3⟩ | ((repeat apply Exists.intro); exact ⟨⟨P' + 1, F3, by omega, by omega, by go_num, r3, b3⟩, rfl⟩)
              case measure => simp [intOf]; omega
            · as_aux_lemma =>
              have hfull : (seg xs G P').length = M := by have := hr.le.1; rw [seg_len hPx] at this ⊢; omega
              go_wp2_with fail
              refine (sputS_busy hr hfull _).mono ?_
              rintro e w4 ⟨rfl, k4, rfl⟩
              have hr5 := hr.drewN k4
              replace hb := hb.drewN k4
              generalize wr.drewN k4 = w4 at *
              obtain ⟨F5, hF5⟩ : ∃ F5, F5 = F := ⟨_, rfl⟩
              subst hF5
              clear hr hc
              have hq0 : 0 < (seg xs G P').length := by omega
              clear hfull
              have hPG : 0 < P' - G := by have := seg_len (xs := xs) (G := G) (P := P') (by omega); omega
              have htxt := seg_txt HX.out.txt G P'
              have hsl : (seg xs G P').length = P' - G := seg_len (by omega)
              go_wp2_with fail
              refine (swinG hr5 htxt).mono ?_
              rintro e w5 ⟨aox, d, cx, hd, rfl, l5, t5, hb5⟩
              rw [hsl] at hd
              have hdl : ((seg xs G P').take W).length = d := by rw [List.length_take, hsl, hd]
              have hd1 : 0 < d := by omega
              have hd2 : d ≤ W := by omega
              have hd3 : G + d ≤ P' := by omega
              have et : (seg xs G P').take W = (seg xs G P').take d := by
                by_cases hc : W ≤ P' - G
                · rw [show d = W by omega]
                · rw [List.take_of_length_le (by omega), List.take_of_length_le (by omega)]
              have r5 := hr5.still t5
              have b5 := hb.still t5
              obtain ⟨bx, offx, rfl, hcx⟩ := l5.cells (by omega)
              have hdr := l5.1
              rw [et] at hdl hcx hdr
              have hG5 : (xs.take G).length + ((seg xs G P').take d).length ≤ 1000 := by rw [hdl, take_len (by omega)]; omega
              have hn0 : 0 < ((seg xs G P').take d).length := by omega
              have HD : Hid (d = min W (P' - G)) := hd
              have hn0I : (d : Int) ≠ 0 := by omega
              have hsv : Snd w5 9 F5 q M W G (seg xs G P') := r5
              have HCX : Hid (∀ j u, ((seg xs G P').take d)[j]? = some u → w5.cell? ((⟨bx, offx, none⟩ : Addr).add j) = some u) := hcx
              have HDL : Hid (((seg xs G P').take d).length = d) := hdl
              clear hr5 hb l5 t5 hb5 hd et hcx hdl r5 htxt hsl
              go_wp2_with (first | (at_builtin; refine wpList_append_lst rfl _ _ rfl (.slice ao G lcap) (xs.take G) rfl ?q1 ((seg xs G P').take d) hdr hn0 hG5 ⟨bx, offx, none⟩ cx ?q2 ?q3 ?_))
              case q1 => exact b5.lst
              case q2 => rw [HDL.out]; rfl
              case q3 => exact HCX.out
              intro v6 w6 hl6 hg6 hb6
              have b6 := b5.appended hg6 hl6 hb6
              have s6 := b5.snd hsv hg6
              rw [seg_take hd3] at hl6 b6
              obtain ⟨ao6, cap6, hv6⟩ := hl6.shape
              rw [take_len (by omega)] at hv6
              subst hv6
              have hack := sackS_any s6 (G + d) d rfl (by rw [seg_len (by omega)]; have := HD.out; omega) (by omega)
              rw [seg_drop] at hack
              clear b5 hsv HCX hl6 hg6 hb6 hdr hn0 hG5 s6
              go_wp2_with fail
              refine hack.mono ?_
              rintro e w7 ⟨rfl, F7, s7, g7⟩
              have b7 := b6.goes g7 s7.lt
              clear hack b6 g7
              go_wp2
              go_roundw
              case rel => first | exact ⟨P', G + d, cc + 1, F7, by omega, by omega, by omega, by omega, rfl, by go_num, s7, b7⟩ | ((repeat apply Exists.intro); exact ⟨⟨P', G + d, cc + 1, F7, by omega, by omega, by omega, by omega, rfl, by go_num, s7, b7⟩, rfl⟩)
              case measure => simp [intOf]; omega

          · as_aux_lemma =>
              obtain rfl : len = P' := by omega
              have hr5 := hr
              obtain ⟨F5, hF5⟩ : ∃ F5, F5 = F := ⟨_, rfl⟩
              subst hF5
              clear hr
              have hq0 : 0 < (seg xs G len).length := by rw [seg_len hPx]; omega
              have hPG : 0 < len - G := by have := seg_len (xs := xs) (G := G) (P := len) (by omega); omega
              have htxt := seg_txt HX.out.txt G len
              have hsl : (seg xs G len).length = len - G := seg_len (by omega)
              go_wp2_with fail
              refine (swinG hr5 htxt).mono ?_
              rintro e w5 ⟨aox, d, cx, hd, rfl, l5, t5, hb5⟩
              rw [hsl] at hd
              have hdl : ((seg xs G len).take W).length = d := by rw [List.length_take, hsl, hd]
              have hd1 : 0 < d := by omega
              have hd2 : d ≤ W := by omega
              have hd3 : G + d ≤ len := by omega
              have et : (seg xs G len).take W = (seg xs G len).take d := by
                by_cases hc : W ≤ len - G
                · rw [show d = W by omega]
                · rw [List.take_of_length_le (by omega), List.take_of_length_le (by omega)]
              have r5 := hr5.still t5
              have b5 := hb.still t5
              obtain ⟨bx, offx, rfl, hcx⟩ := l5.cells (by omega)
              have hdr := l5.1
              rw [et] at hdl hcx hdr
              have hG5 : (xs.take G).length + ((seg xs G len).take d).length ≤ 1000 := by rw [hdl, take_len (by omega)]; omega
              have hn0 : 0 < ((seg xs G len).take d).length := by omega
              have HD : Hid (d = min W (len - G)) := hd
              have hn0I : (d : Int) ≠ 0 := by omega
              have hsv : Snd w5 9 F5 q M W G (seg xs G len) := r5
              have HCX : Hid (∀ j u, ((seg xs G len).take d)[j]? = some u → w5.cell? ((⟨bx, offx, none⟩ : Addr).add j) = some u) := hcx
              have HDL : Hid (((seg xs G len).take d).length = d) := hdl
              clear hr5 hb l5 t5 hb5 hd et hcx hdl r5 htxt hsl
              go_wp2_with (first | (at_builtin; refine wpList_append_lst rfl _ _ rfl (.slice ao G lcap) (xs.take G) rfl ?q1 ((seg xs G len).take d) hdr hn0 hG5 ⟨bx, offx, none⟩ cx ?q2 ?q3 ?_))
              case q1 => exact b5.lst
              case q2 => rw [HDL.out]; rfl
              case q3 => exact HCX.out
              intro v6 w6 hl6 hg6 hb6
              have b6 := b5.appended hg6 hl6 hb6
              have s6 := b5.snd hsv hg6
              rw [seg_take hd3] at hl6 b6
              obtain ⟨ao6, cap6, hv6⟩ := hl6.shape
              rw [take_len (by omega)] at hv6
              subst hv6
              have hack := sackS_any s6 (G + d) d rfl (by rw [seg_len (by omega)]; have := HD.out; omega) (by omega)
              rw [seg_drop] at hack
              clear b5 hsv HCX hl6 hg6 hb6 hdr hn0 hG5 s6
              go_wp2_with fail
              refine hack.mono ?_
              rintro e w7 ⟨rfl, F7, s7, g7⟩
              have b7 := b6.goes g7 s7.lt
              clear hack b6 g7
              go_wp2
              go_roundw
              case rel => first | exact ⟨len, G + d, cc + 1, F7, by omega, by omega, by omega, by omega, rfl, by go_num, s7, b7⟩ | ((repeat apply Exists.intro); exact ⟨⟨len, G + d, cc + 1, F7, by omega, by omega, by omega, by omega, rfl, by go_num, s7, b7⟩, rfl⟩)
              case measure => simp [intOf]; omega

      · obtain rfl : G = len := by omega
        have eT : xs.take G = xs := by rw [HL.out]; exact List.take_length
        have hs0 : seg xs G P = [] := by unfold seg; rw [List.drop_eq_nil_of_le (by have := HL.out; omega), List.take_nil]
        rw [hs0] at hr
        rw [eT] at hb
        have hsame := same_any hb.lst.strs (HX.out.turned hb.own.turned).strs (by have := HL.out; omega)
        have hbel := hb.own.below
        have hlen0 : ∀ k, Calls Try.prog 19 #[.pointer (some ⟨q, 0, none⟩)] (wr.drewN k) fun e w' => e = .returned (.int .i64 0) ∧ wr.drewN k = w' := fun k => slenS_any (hr.drewN k)
        have hack0 := fun k => sackedS_any (hr.drewN k)
        clear hr hb eT hs0 hPx
        go_wp2_with fail
        refine hsame.mono ?_
        rintro e w8 ⟨rfl, k8, rfl⟩
        go_wp2_with fail
        refine (hlen0 k8).mono ?_
        rintro e w9 ⟨rfl, rfl⟩
        go_wp2_with fail
        refine (hack0 k8).mono ?_
        rintro e w9 ⟨rfl, rfl⟩
        have hb8 : Below w.heap.size w (wr.drewN k8) := ⟨hbel.os, hbel.tape, hbel.output, hbel.size, hbel.block⟩
        clear hsame hlen0 hack0 hbel
        go_wp2
        go_ret
        exact ⟨rfl, hb8⟩

set_option maxRecDepth 100000 in
theorem lifted (os : Os) (started : os.Started) (H : Type) (enc : TypeId × Value → H) :
    ReturnsInHanded {} Try.checked os 6 .any (Rows.sendAllSpec.pre6 enc Try.prog Try.f6 Rows.sendAllRow.domain false) (Rows.sendAllSpec.post enc Try.prog Try.f6 false true false false) := by
  refine returnsInHanded_of_change (C := Try.checked) own started (by kernel_rfl) Try.func6
    (ChangeSpec.witness6 (enc := enc) (C := Try.checked) false ⟨#[], #[.slice none 0 0, .int .u8 0, .int .u8 0], []⟩ 6 (by kernel_rfl) (by kernel_rfl) (by kernel_rfl) (by kernel_rfl)) ?_
  intro W base args ds gs before hval0 hW hcnd _
  have hval : ∀ (j : Nat) t v, Try.f6.params[j]? = some t → args[j]? = some v → Value.okWide Try.prog W .any base t v := hval0
  have hW' := hW
  obtain ⟨p, q, hA0, hV, rfl, hfz, hnd⟩ := hW
  have hA : DataW.TrodAll enc Try.prog W 0 (fun _ => true) true Try.f6.params.toList args.toList ds p := hA0
  rw [Try.params6] at hA hval
  obtain ⟨v0, vs0, d0, ds0, p0, q0, hargs0, rfl, rfl, h0, r0⟩ := trodAll_cons hA
  obtain ⟨v1, vs1, d1, ds1, p1, q1, hargs1, rfl, rfl, h1, r1⟩ := trodAll_cons r0
  obtain ⟨v2, vs2, d2, ds2, p2, q2, hargs2, rfl, rfl, h2, r2⟩ := trodAll_cons r1
  obtain ⟨rfl, rfl, rfl⟩ := trodAll_nil r2
  obtain rfl : args = #[v0, v1, v2] := by cases args; simp_all
  obtain ⟨rfl, rfl⟩ := trodVars_none hV
  obtain ⟨a0, len0, cap0, rfl⟩ := okWide_slice Try.underlying28 (hval 0 28 v0 rfl rfl)
  have k0 := h0
  have lt0 : ∀ x ∈ p0, x.block < W.heap.size := by obtain ⟨m, hm⟩ := k0; exact DataW.trod_lt m _ _ _ hm
  obtain ⟨xs0, hx0⟩ := open_texts h0
  obtain ⟨a1, rfl, rfl, rfl, w1⟩ := open_int Try.underlying5 (hval 1 5 v1 rfl rfl) h1
  obtain ⟨a2, rfl, rfl, rfl, w2⟩ := open_int Try.underlying5 (hval 2 5 v2 rfl rfl) h2
  clear hA0 hval0
  obtain ⟨n1, rfl, hn1⟩ := u8_of_wf w1
  obtain ⟨n2, rfl, hn2⟩ := u8_of_wf w2
  refine (walk W a0 len0 cap0 xs0 hx0 n1 hn1 n2 hn2).mono fun e W' ⟨he, bel⟩ => ?_
  subst he
  exact ⟨_, rfl, _, _, _, [], _, [], hW', trodAll_mk1 (shut_bool Try.underlying4 _), (trodAll_cons_mk (Below.trod laidOut (by kernel_rfl) (of_decide_eq_true (by kernel_rfl)) k0 bel lt0) (trodAll_cons_mk (shut_int Try.underlying5 w1) (trodAll_cons_mk (shut_int Try.underlying5 w2) trodAll_mk0))), rfl, bel.frame _, fun h => by cases h⟩

theorem over : Rows.sendAllRow.holds Try.pinned (OpenSpec.ofChange Rows.sendAllSpec) :=
  OpenClaim.holds_of_wide 6 Try.f6 rfl rfl rfl rfl rfl rfl rfl ⟨rfl, rfl, rfl, rfl, rfl⟩ rfl rfl rfl rfl rfl (by kernel_rfl) Try.func6 (by kernel_rfl)
    (of_decide_eq_true (by kernel_rfl)) (by unfold Func.isWrapper; first | (rw [if_pos (by decide +kernel)]; kernel_rfl) | (rw [if_neg (by decide +kernel)]; exact ⟨rfl, rfl⟩))
    (fun os started H enc _ => lifted os started H enc)

end Go.Proofs.Ytlifoojojclllaa.sendAll
namespace Go.Proofs.Ytlifoojojclllaa
theorem sendAll_holds : Rows.SendAllSaid := sendAll.over
#print axioms sendAll_holds
end Go.Proofs.Ytlifoojojclllaa
