/-
  ExchangePlays: whatever was told, exchange answers as the document does. For all lists of summaries and all turns; no condition but the form's reach.
-/
import Derived.Test.YtooeemhlpmiceaaXRef3
namespace Go.Proofs.Ytooeemhlpmiceaa.exchangePlays
open Go.ChangeShapes Go.WideShapes Go.ChangeAt Go.RowKit Go.Deep
set_option linter.unusedVariables false
set_option linter.unusedSimpArgs false

theorem all_of {w w' : World} {ss : List Pt} {m : Nat} {e : Ending} (h : ToldPost w w' ss m e) : ∃ ta tc na nc sa sc, e = .returned (.tuple #[.slice ta ss.length tc, .slice na ss.length nc, .slice sa ss.length sc]) ∧ TL (fun _ => True) w' ta ss.length (toldL ss m) ∧ NL w' na ss.length (toldL ss m) ∧ SL (fun _ => True) w' sa ss.length (toldL ss m) ∧ Below w.heap.size w w' := by
  obtain ⟨p, vt, vn, vs, els, rfl, hT, hp⟩ := h
  obtain ⟨ta, tc, rfl, hl⟩ := hT.tl
  obtain ⟨na, nc, rfl, hn⟩ := hT.nl
  obtain ⟨sa, sc, rfl, hs⟩ := hT.sl
  have hlen : els.length = ss.length := by have := congrArg List.length hp; simpa [toldL] using this
  rw [hp, hlen] at hl hs hn
  rw [hlen]
  exact ⟨ta, tc, na, nc, sa, sc, rfl, hl, hn, hs, hT.bl⟩

set_option maxRecDepth 20000 in
set_option maxHeartbeats 4000000 in
theorem walk (w : World) (ao : Option Addr) (n cap : Nat) (ss : List Pt) (h : SL (fun _ => True) w ao n ss) (hok : ∀ t ∈ ss, OkP t) (m : Nat) (hm : m < 256) :
    Calls Try.prog 7 #[.slice ao n cap, .int .u8 (m : Nat)] w fun e w' => e = .returned (.bool true) ∧ Below w.heap.size w w' := by
  have haw := fun W => awakeX_any W
  have hl := h.1
  go_enter Try.func7, Try.ntmps7
  go_wp2_with fail
  refine (haw _).mono ?_
  rintro e w1 ⟨rfl, u1⟩
  have kf := few_any w1 ao n cap ss (h.bl u1) (fun t ht => by have := (hok t ht).2.2.1; have := (hok t ht).2.2.2.1; unfold szP; omega)
  go_wp2_with fail
  refine kf.mono ?_
  rintro e w2 ⟨⟨r, rfl, hr⟩, u2⟩
  have u02 := bl_step u1 u2
  clear kf
  cases r with
  | false =>
    go_wp2_with fail
    refine (haw _).mono ?_
    rintro e wz ⟨rfl, uz⟩
    have uf := bl_step u02 uz
    go_wp2
    go_ret
    exact ⟨rfl, uf⟩
  | true =>
  obtain ⟨hn, hsum⟩ := hr rfl
  clear haw hr
  have HLE : Hid (∀ t ∈ ss, t.es.length ≤ 10000) := fun t ht => by have := sum_mem ht; unfold szP at this; omega
  have k1 := told_any w2 ao n cap ss (h.bl u02) (by omega) HLE.out m hm
  go_wp2_with fail
  refine k1.mono ?_
  rintro e w3 hP
  obtain ⟨ta, tc, na, nc, sa, sc, rfl, hT, hN, hS, u3⟩ := all_of hP
  have u03 := bl_step u02 u3
  rw [hl] at hT hS hN
  rw [hl]
  have HA : Hid ((allT (toldL ss m)).length ≤ 1000 ∧ (∀ e ∈ allT (toldL ss m), e.2.length ≤ 140737488355328) ∧ (∀ e ∈ allT (toldL ss m), OkL e.1) ∧ (∀ t ∈ toldL ss m, t.ls.length ≤ 1000) ∧ ∀ t ∈ toldL ss m, ∀ x ∈ t.ls, OkL x) :=
    ⟨by have := told_all_le ss m; omega, fun e he => (told_eok hok e he).2, fun e he => (told_eok hok e he).1, fun t ht => by have := told_ls ht; omega, told_lok hok⟩
  have HD : Hid ((∀ t ∈ toldL ss m, 0 ≤ t.node) ∧ ∀ t ∈ toldL ss m, ∀ u ∈ toldL ss m, t.node = u.node → t = u) := ⟨told_nn ss m, (told_same ss m m).2⟩
  generalize toldL ss m = A at *
  clear k1 hP hok HLE u1 u2 u3 u02 h hl hsum
  have hAl := hS.1
  have k2 := refChosen_any w3 na n nc sa sc A hN hS HD.out.1
  go_wp2_with fail
  refine k2.mono ?_
  rintro e w4 ⟨⟨x, rfl, hx⟩, u4⟩
  have HX : Hid (Chn (highT A) A A.length x) := hx
  have hT4 := hT.bl u4
  have hN4 := hN.bl u4
  have hS4 := hS.bl u4
  have u04 := bl_step u03 u4
  clear k2 hT hN hS u03 u4
  rcases hx with ⟨hx1, _⟩ | ⟨j, t, hx1, hjk, hj, _⟩
  · subst hx1
    have HC : Hid (chT A = -1) := (short_no HX.out).2
    clear HX
    have k3 := high_any _ w4 ta n tc A hT4
    unfold vid at k3
    go_wp2_with fail
    refine k3.mono ?_
    rintro e w5 ⟨rfl, u5⟩
    have hT5 := hT4.bl u5
    have hN5 := hN4.bl u5
    have hS5 := hS4.bl u5
    have u05 := bl_step u04 u5
    clear hT4 hN4 hS4 u04
    have k4 := refHigh_any w5 sa n sc A hS5
    unfold vid at k4
    clear k3
    go_wp2_with fail
    refine k4.mono ?_
    rintro e w6 ⟨rfl, u6⟩
    have hT6 := hT5.bl u6
    have hN6 := hN5.bl u6
    have hS6 := hS5.bl u6
    have u06 := bl_step u05 u6
    clear hT5 hN5 hS5 u05
    have heq := fun W => vid_equal (highT A).1 (highT A).2 (highT A).1 (highT A).2 W
    simp only [decide_true, Bool.and_self] at heq
    have k5 := chosen_any _ w6 ta n tc A hT6
    rw [HC.out] at k5
    clear k4
    go_wp2_with fail
    refine k5.mono ?_
    rintro e w7 ⟨rfl, u7⟩
    have hT7 := hT6.bl u7
    have hN7 := hN6.bl u7
    have hS7 := hS6.bl u7
    have u07 := bl_step u06 u7
    clear hT6 hN6 hS6 u06
    have k6 := short_any _ w7 ta n tc A hT7 HA.out.2.2.2.1
    clear k5 heq
    go_wp2_with fail
    refine k6.mono ?_
    rintro e w8 ⟨v8, rfl, ho8, u8⟩
    obtain ⟨a8, c8, rfl, hL8⟩ := LR.own ho8
    have hT8 := hT7.bl u8
    have hN8 := hN7.bl u8
    have hS8 := hS7.bl u8
    have u08 := bl_step u07 u8
    clear hT7 hN7 hS7 u07
    have k7 := refShort_any w8 na n nc sa sc A hN8 hS8 HD.out.1 HD.out.2
    clear k6 ho8
    go_wp2_with fail
    refine k7.mono ?_
    rintro e w9 ⟨⟨a9, c9, rfl, hL9, -⟩, u9⟩
    have hT9 := hT8.bl u9
    have hN9 := hN8.bl u9
    have hS9 := hS8.bl u9
    have u09 := bl_step u08 u9
    clear hT8 hN8 hS8 u08
    have k8 := same_any w9 a8 (shortT A).length c8 (shortT A) (hL8.up u9) a9 (shortT A).length c9 (shortT A) hL9
    simp only [decide_true] at k8
    clear k7 hL8 hL9
    go_wp2_with fail
    refine k8.mono ?_
    rintro e w10 ⟨rfl, u10'⟩
    have u10 := u10'.bl
    have hT10 := hT9.bl u10
    have hN10 := hN9.bl u10
    have hS10 := hS9.bl u10
    have u010 := bl_step u09 u10
    clear hT9 hN9 hS9 u09
    have k9 := known_any _ w10 ta n tc A hT10 (by have := HA.out.1; omega) HA.out.2.1
    clear k8 u10'
    go_wp2_with fail
    refine k9.mono ?_
    rintro e w11 ⟨v11, rfl, ho11, u11⟩
    obtain ⟨a11, c11, rfl, -, hE11⟩ := ho11.er2
    have hT11 := hT10.bl u11
    have hN11 := hN10.bl u11
    have hS11 := hS10.bl u11
    have u011 := bl_step u010 u11
    clear hT10 hN10 hS10 u010
    have k10 := refKnown_any w11 sa n sc A hS11 HA.out.1
    clear k9 ho11
    go_wp2_with fail
    refine k10.mono ?_
    rintro e w12 ⟨⟨a12, c12, rfl, hE12⟩, u12⟩
    have hT12 := hT11.bl u12
    have hN12 := hN11.bl u12
    have hS12 := hS11.bl u12
    have u012 := bl_step u011 u12
    clear hT11 hN11 hS11 u011
    have k11 := sameE_any _ _ w12 a11 (knownT A).length c11 (knownT A) (hE11.bl u12) a12 (knownT A).length c12 (knownT A) hE12
    simp only [decide_true] at k11
    clear k10 hE11 hE12
    go_wp2_with fail
    refine k11.mono ?_
    rintro e w13 ⟨rfl, u13'⟩
    have u13 := u13'.bl
    have hT13 := hT12.bl u13
    have hN13 := hN12.bl u13
    have hS13 := hS12.bl u13
    have u013 := bl_step u012 u13
    clear hT12 hN12 hS12 u012
    have k12 := full_any _ w13 ta n tc A hT13 HA.out.1 HA.out.2.1 HA.out.2.2.1 HA.out.2.2.2.1 HA.out.2.2.2.2
    clear k11 u13'
    go_wp2_with fail
    refine k12.mono ?_
    rintro e w14 ⟨v14, rfl, ho14, u14⟩
    obtain ⟨a14, c14, rfl, hL14⟩ := LR.own ho14
    have hT14 := hT13.bl u14
    have hN14 := hN13.bl u14
    have hS14 := hS13.bl u14
    have u014 := bl_step u013 u14
    clear hT13 hN13 hS13 u013
    have k13 := refFull_any w14 na n nc sa sc A hN14 hS14 HD.out.1 HD.out.2 HA.out.1 HA.out.2.2.2.1
    clear k12 ho14
    go_wp2_with fail
    refine k13.mono ?_
    rintro e w15 ⟨⟨v15, rfl, ho15⟩, u15⟩
    obtain ⟨a15, c15, rfl, hL15⟩ := LR.own ho15
    have hT15 := hT14.bl u15
    have hN15 := hN14.bl u15
    have hS15 := hS14.bl u15
    have u015 := bl_step u014 u15
    clear hT14 hN14 hS14 u014
    have k14 := same_any w15 a14 (fullT A).length c14 (fullT A) (hL14.up u15) a15 (fullT A).length c15 (fullT A) hL15
    simp only [decide_true] at k14
    clear k13 ho15 hL14 hL15
    go_wp2_with fail
    refine k14.mono ?_
    rintro e w16 ⟨rfl, u16'⟩
    have u16 := u16'.bl
    have hT16 := hT15.bl u16
    have hN16 := hN15.bl u16
    have hS16 := hS15.bl u16
    have u016 := bl_step u015 u16
    clear hT15 hN15 hS15 u015
    have k15 := next_any _ w16 ta n tc A hT16
    clear k14 u16'
    go_wp2_with fail
    refine k15.mono ?_
    rintro e w17 ⟨rfl, u17⟩
    have hT17 := hT16.bl u17
    have hN17 := hN16.bl u17
    have hS17 := hS16.bl u17
    have u017 := bl_step u016 u17
    clear hT16 hN16 hS16 u016
    have k16 := refNext_any w17 sa n sc A hS17
    clear k15
    go_wp2_with fail
    refine k16.mono ?_
    rintro e w18 ⟨rfl, u18⟩
    have uf := bl_step u017 u18
    clear k16
    go_wp2
    go_ret
    exact ⟨rfl, uf⟩
  · subst hx1
    have HC : Hid (chT A = t.node) := (short_at HD.out.2 HD.out.1 hj HX.out).2
    have hj0 : (j : Int) ≥ 0 := by omega
    have hj2 : ¬ ((j : Int) < 0) := by omega
    have hj1 : (j : Int) < (n : Int) := by omega
    have hN5 := hN4
    obtain ⟨nb, noff, hna, hcn⟩ := hN4.2 (by omega)
    have c1 := hcn j t hj
    subst hna
    generalize t.node = tn at *
    clear HX hcn hj hN4
    have hN4 := hN5
    clear hN5
    have k3 := high_any _ w4 ta n tc A hT4
    unfold vid at k3
    go_wp2_with fail
    refine k3.mono ?_
    rintro e w5 ⟨rfl, u5⟩
    have hT5 := hT4.bl u5
    have hN5 := hN4.bl u5
    have hS5 := hS4.bl u5
    have u05 := bl_step u04 u5
    clear hT4 hN4 hS4 u04
    have k4 := refHigh_any w5 sa n sc A hS5
    unfold vid at k4
    clear k3
    go_wp2_with fail
    refine k4.mono ?_
    rintro e w6 ⟨rfl, u6⟩
    have hT6 := hT5.bl u6
    have hN6 := hN5.bl u6
    have hS6 := hS5.bl u6
    have u06 := bl_step u05 u6
    clear hT5 hN5 hS5 u05
    have heq := fun W => vid_equal (highT A).1 (highT A).2 (highT A).1 (highT A).2 W
    simp only [decide_true, Bool.and_self] at heq
    have k5 := chosen_any _ w6 ta n tc A hT6
    rw [HC.out] at k5
    clear k4
    go_wp2_with fail
    refine k5.mono ?_
    rintro e w7 ⟨rfl, u7⟩
    have hT7 := hT6.bl u7
    have hN7 := hN6.bl u7
    have hS7 := hS6.bl u7
    have u07 := bl_step u06 u7
    clear hT6 hN6 hS6 u06
    have k6 := short_any _ w7 ta n tc A hT7 HA.out.2.2.2.1
    clear k5 heq
    go_wp2_with fail
    refine k6.mono ?_
    rintro e w8 ⟨v8, rfl, ho8, u8⟩
    obtain ⟨a8, c8, rfl, hL8⟩ := LR.own ho8
    have hT8 := hT7.bl u8
    have hN8 := hN7.bl u8
    have hS8 := hS7.bl u8
    have u08 := bl_step u07 u8
    clear hT7 hN7 hS7 u07
    have k7 := refShort_any w8 (some ⟨nb, noff, none⟩) n nc sa sc A hN8 hS8 HD.out.1 HD.out.2
    clear k6 ho8
    go_wp2_with fail
    refine k7.mono ?_
    rintro e w9 ⟨⟨a9, c9, rfl, hL9, -⟩, u9⟩
    have hT9 := hT8.bl u9
    have hN9 := hN8.bl u9
    have hS9 := hS8.bl u9
    have u09 := bl_step u08 u9
    clear hT8 hN8 hS8 u08
    have k8 := same_any w9 a8 (shortT A).length c8 (shortT A) (hL8.up u9) a9 (shortT A).length c9 (shortT A) hL9
    simp only [decide_true] at k8
    clear k7 hL8 hL9
    go_wp2_with fail
    refine k8.mono ?_
    rintro e w10 ⟨rfl, u10'⟩
    have u10 := u10'.bl
    have hT10 := hT9.bl u10
    have hN10 := hN9.bl u10
    have hS10 := hS9.bl u10
    have u010 := bl_step u09 u10
    clear hT9 hN9 hS9 u09
    have k9 := known_any _ w10 ta n tc A hT10 (by have := HA.out.1; omega) HA.out.2.1
    clear k8 u10'
    go_wp2_with fail
    refine k9.mono ?_
    rintro e w11 ⟨v11, rfl, ho11, u11⟩
    obtain ⟨a11, c11, rfl, -, hE11⟩ := ho11.er2
    have hT11 := hT10.bl u11
    have hN11 := hN10.bl u11
    have hS11 := hS10.bl u11
    have u011 := bl_step u010 u11
    clear hT10 hN10 hS10 u010
    have k10 := refKnown_any w11 sa n sc A hS11 HA.out.1
    clear k9 ho11
    go_wp2_with fail
    refine k10.mono ?_
    rintro e w12 ⟨⟨a12, c12, rfl, hE12⟩, u12⟩
    have hT12 := hT11.bl u12
    have hN12 := hN11.bl u12
    have hS12 := hS11.bl u12
    have u012 := bl_step u011 u12
    clear hT11 hN11 hS11 u011
    have k11 := sameE_any _ _ w12 a11 (knownT A).length c11 (knownT A) (hE11.bl u12) a12 (knownT A).length c12 (knownT A) hE12
    simp only [decide_true] at k11
    clear k10 hE11 hE12
    go_wp2_with fail
    refine k11.mono ?_
    rintro e w13 ⟨rfl, u13'⟩
    have u13 := u13'.bl
    have hT13 := hT12.bl u13
    have hN13 := hN12.bl u13
    have hS13 := hS12.bl u13
    have u013 := bl_step u012 u13
    clear hT12 hN12 hS12 u012
    have k12 := full_any _ w13 ta n tc A hT13 HA.out.1 HA.out.2.1 HA.out.2.2.1 HA.out.2.2.2.1 HA.out.2.2.2.2
    clear k11 u13'
    go_wp2_with fail
    refine k12.mono ?_
    rintro e w14 ⟨v14, rfl, ho14, u14⟩
    obtain ⟨a14, c14, rfl, hL14⟩ := LR.own ho14
    have hT14 := hT13.bl u14
    have hN14 := hN13.bl u14
    have hS14 := hS13.bl u14
    have u014 := bl_step u013 u14
    clear hT13 hN13 hS13 u013
    have k13 := refFull_any w14 (some ⟨nb, noff, none⟩) n nc sa sc A hN14 hS14 HD.out.1 HD.out.2 HA.out.1 HA.out.2.2.2.1
    clear k12 ho14
    go_wp2_with fail
    refine k13.mono ?_
    rintro e w15 ⟨⟨v15, rfl, ho15⟩, u15⟩
    obtain ⟨a15, c15, rfl, hL15⟩ := LR.own ho15
    have hT15 := hT14.bl u15
    have hN15 := hN14.bl u15
    have hS15 := hS14.bl u15
    have u015 := bl_step u014 u15
    clear hT14 hN14 hS14 u014
    have k14 := same_any w15 a14 (fullT A).length c14 (fullT A) (hL14.up u15) a15 (fullT A).length c15 (fullT A) hL15
    simp only [decide_true] at k14
    clear k13 ho15 hL14 hL15
    go_wp2_with fail
    refine k14.mono ?_
    rintro e w16 ⟨rfl, u16'⟩
    have u16 := u16'.bl
    have hT16 := hT15.bl u16
    have hN16 := hN15.bl u16
    have hS16 := hS15.bl u16
    have u016 := bl_step u015 u16
    clear hT15 hN15 hS15 u015
    have k15 := next_any _ w16 ta n tc A hT16
    clear k14 u16'
    go_wp2_with fail
    refine k15.mono ?_
    rintro e w17 ⟨rfl, u17⟩
    have hT17 := hT16.bl u17
    have hN17 := hN16.bl u17
    have hS17 := hS16.bl u17
    have u017 := bl_step u016 u17
    clear hT16 hN16 hS16 u016
    have k16 := refNext_any w17 sa n sc A hS17
    clear k15
    go_wp2_with fail
    refine k16.mono ?_
    rintro e w18 ⟨rfl, u18⟩
    have uf := bl_step u017 u18
    clear k16
    go_wp2
    go_ret
    exact ⟨rfl, uf⟩
set_option maxRecDepth 100000 in
theorem lifted (os : Os) (started : os.Started) (H : Type) (enc : TypeId × Value → H) :
    ReturnsInHanded {} Try.checked os 7 .any (Rows.exchangePlaysSpec.pre6 enc Try.prog Try.f7 Rows.exchangePlaysRow.domain false) (Rows.exchangePlaysSpec.post enc Try.prog Try.f7 false true false false) := by
  refine returnsInHanded_of_change_sized (C := Try.checked) own started (by kernel_rfl) Try.func7
    (ChangeSpec.witness6 (enc := enc) (C := Try.checked) false ⟨#[], #[.slice none 0 0, .int .u8 0], []⟩ 12 (by kernel_rfl) (by kernel_rfl) (by kernel_rfl) (by kernel_rfl)) ?_
  intro W base args ds gs before hval0 hW hcnd hsz0 _
  have hsz : (DataW.weightsEach Try.prog (Try.f7.params.toList ++ Rows.exchangePlaysSpec.plain.varTypes Try.prog) (ds ++ gs)).all (· ≤ reachBytes) = true := hsz0
  have hval : ∀ (j : Nat) t v, Try.f7.params[j]? = some t → args[j]? = some v → Value.okWide Try.prog W .any base t v := hval0
  have hW' := hW
  obtain ⟨p, q, hA0, hV, rfl, hfz, hnd⟩ := hW
  have hA : DataW.TrodAll enc Try.prog W 0 (fun _ => true) true Try.f7.params.toList args.toList ds p := hA0
  rw [Try.params7] at hA hval hsz
  obtain ⟨v0, vs0, d0, ds0, p0, q0, hargs0, rfl, rfl, h0, r0⟩ := trodAll_cons hA
  obtain ⟨v1, vs1, d1, ds1, p1, q1, hargs1, rfl, rfl, h1, r1⟩ := trodAll_cons r0
  obtain ⟨rfl, rfl, rfl⟩ := trodAll_nil r1
  obtain rfl : args = #[v0, v1] := by cases args; simp_all
  obtain ⟨rfl, rfl⟩ := trodVars_none hV
  obtain ⟨a0, len0, cap0, rfl⟩ := okWide_slice Try.underlying43 (hval 0 43 v0 rfl rfl)
  have k0 := h0
  have lt0 : ∀ x ∈ p0, x.block < W.heap.size := by obtain ⟨m, hm⟩ := k0; exact DataW.trod_lt m _ _ _ hm
  obtain ⟨xs0, hx0, ho0, hl0⟩ := open_sums h0 (fits_of hsz (j := 0) rfl rfl)
  obtain ⟨a1, rfl, rfl, rfl, w1⟩ := open_int Try.underlying5 (hval 1 5 v1 rfl rfl) h1
  clear hA0 hval0 hsz hsz0
  obtain ⟨n1, rfl, hn1⟩ := u8_of_wf w1
  refine (walk W a0 len0 cap0 xs0 hx0 ho0 n1 hn1).mono fun e W' ⟨he, bel⟩ => ?_
  subst he
  exact ⟨_, rfl, _, _, _, [], _, [], hW', trodAll_mk1 (shut_bool Try.underlying4 _), (trodAll_cons_mk (Below.trod laidOut (by kernel_rfl) (of_decide_eq_true (by kernel_rfl)) k0 bel lt0) (trodAll_cons_mk (shut_int Try.underlying5 w1) trodAll_mk0)), rfl, bel.frame _, fun h => by cases h⟩

theorem over : Rows.exchangePlaysRow.holds Try.pinned (OpenSpec.ofChange Rows.exchangePlaysSpec) :=
  OpenClaim.holds_of_wide 7 Try.f7 rfl rfl rfl rfl rfl rfl rfl ⟨rfl, rfl, rfl, rfl, rfl⟩ rfl rfl rfl rfl rfl (by kernel_rfl) Try.func7 (by kernel_rfl)
    (of_decide_eq_true (by kernel_rfl)) (by unfold Func.isWrapper; first | (rw [if_pos (by decide +kernel)]; kernel_rfl) | (rw [if_neg (by decide +kernel)]; exact ⟨rfl, rfl⟩))
    (fun os started H enc _ => lifted os started H enc)

end Go.Proofs.Ytooeemhlpmiceaa.exchangePlays
namespace Go.Proofs.Ytooeemhlpmiceaa
theorem exchangePlays_holds : Rows.ExchangePlaysSaid := exchangePlays.over
#print axioms exchangePlays_holds
end Go.Proofs.Ytooeemhlpmiceaa
