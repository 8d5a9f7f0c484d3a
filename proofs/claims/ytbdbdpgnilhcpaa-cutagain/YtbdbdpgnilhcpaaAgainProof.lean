/-
  Proved: for every list of states and every number at, CutAgain(l, at) returns true: joined states, joined again, with any of those that were joined, are the same; the document's example holds. No condition.
-/
import Derived.Test.YtbdbdpgnilhcpaaRows
import Derived.Test.YtbdbdpgnilhcpaaSAgain
namespace Go.Proofs.Ytbdbdpgnilhcpaa.cutAgain
open Go.ChangeShapes Go.WideShapes Go.ChangeAt Go.RowKit Go.Joins
set_option linter.unusedVariables false

set_option maxRecDepth 10000 in
set_option maxHeartbeats 4000000 in
theorem walk (w : World) (ao : Option Addr) (n cap : Nat) (ss : List Sx) (es : List (List Di)) (h : Sts (fun _ => True) w ao n ss es) (hg : ∀ x ∈ ss, Good x) (hz : ao = none → n = 0 ∧ cap = 0) (hc : n ≤ cap) (hd : cap ≤ 9223372036854775807) (at0 : Nat) (hat : at0 < 256) :
    Calls Try.prog 6 #[.slice ao n cap, .int .u8 (at0 : Nat)] w fun e w' => e = .returned (.bool true) ∧ Below w.heap.size w w' := by
  have HS : Hid (Sts (fun _ => True) w ao n ss es ∧ ∀ x ∈ ss, Good x) := ⟨h, hg⟩
  clear h hg hc
  go_enter Try.func6, Try.ntmps6
  go_wp2_with fail
  refine (awake_any _).mono ?_
  rintro e w1 ⟨rfl, hb01⟩
  have hri := right_any (fun _ => True) w1 ao n cap ss (HS.out.1.1.up hb01)
  obtain ⟨rb, HRB⟩ : ∃ rb, Hid (rightB ss n = rb) := ⟨_, rfl⟩
  rw [HRB.out] at hri
  go_wp2_with fail
  refine hri.mono ?_
  rintro e w2 ⟨rfl, hu2⟩
  have hb02 := bl_step hb01 hu2.bl
  clear hri hb01 hu2
  cases rb with
  | false =>
    clear HRB HS hz
    go_wp2_with fail
    refine (awake_any _).mono ?_
    rintro e w3 ⟨rfl, hb3⟩
    have hb03 := bl_step hb02 hb3
    clear hb02 hb3
    go_wp2
    go_ret
    exact ⟨rfl, hb03⟩
  | true =>
    obtain ⟨hfl, h40⟩ := right_true HRB.out
    have hok := HS.out.1.ok hfl
    have HS2 : Hid (Sts (fun _ => True) w2 ao n ss es) := HS.out.1.up hb02
    have HOK : Hid (∀ x ∈ ss, OkS x) := hok
    clear HRB hfl
    have hjo := join_any _ w2 ao n cap ss es HS2.out hok (by omega)
    clear hok
    go_wp2_with fail
    refine hjo.mono ?_
    rintro e w3 ⟨jo, jcap, J, rs, rfl, hJ, hownj, hal, hstsj, _, hb3⟩
    have hb03 := bl_step hb02 hb3
    have hJm : ∀ t ∈ J, t ∈ tagl ss := fun t ht => ((hJ.2 t).1 ht).1
    have hJl : J.length ≤ 40 := by
      have := nodup_len (ascV_nodup hJ.1) (fun x hx => ((hJ.2 x).1 hx).1)
      rw [tagl_len] at this
      have := HS.out.1.1.1
      omega
    have hrl : rs.length = J.length := by rw [← hal.1]; simp
    have hT : Twin (J.map (·.1)) rs := by
      have hsr0 : SR (fun _ => True) w3 jo J.length rs := hstsj.1.imp (fun _ _ _ => trivial)
      refine ⟨hal.1, fun j x y hx hy => ?_⟩
      obtain ⟨a, b, c⟩ := hal.2 j x y hx hy
      have hjl := (List.getElem?_eq_some_iff.1 hy).1
      rw [List.getElem?_map] at hx
      obtain ⟨t, ht, rfl⟩ := Option.map_eq_some_iff.1 hx
      have hts := tagl_mem (hJm t (List.mem_of_getElem? ht))
      have htl := (List.getElem?_eq_some_iff.1 hts).1
      have he : es[t.2]? = some (es[t.2]'(by have := HS.out.1.2.1; have := HS.out.1.1.1; omega)) := List.getElem?_eq_getElem _
      have e1 := (HS.out.1.2.2 t.2 t.1 _ hts he).len
      have hej : (esAt es J)[j]? = some (es[t.2]'(by have := HS.out.1.2.1; have := HS.out.1.1.1; omega)) := by unfold esAt; rw [List.getElem?_map, ht]; simp [he]
      have e2 := (hstsj.2.2 j y _ hy hej).len
      exact ⟨a, b, c, by rw [← e1, ← e2]⟩
    have hokr : ∀ x ∈ rs, OkS x := twin_ok hT (fun x hx => HOK.out x (join_mem hJm x hx))
    have HJ : Hid (IsJoin (tagl ss) J ∧ Twin (J.map (·.1)) rs ∧ (esAt es J).length = rs.length ∧ ∀ x ∈ rs, OkS x) := ⟨hJ, hT, by rw [hrl]; simp [esAt], hokr⟩
    have HRL : Hid (rs.length = J.length) := hrl
    have hjz : jo = none → J.length = 0 ∧ jcap = 0 := fun e => by
      subst e
      rcases own_shape hownj with ⟨hv, h0⟩ | ⟨g, cp, hv, _⟩
      · simp only [Value.slice.injEq] at hv; exact ⟨hv.2.1, hv.2.2⟩
      · simp only [Value.slice.injEq] at hv; cases hv.1
    have hst3 : Sts (fun _ => True) w3 jo J.length rs (esAt es J) := hstsj.imp (fun _ _ _ => trivial)
    have HSJ3 : Hid (Sts (fun _ => True) w3 jo J.length rs (esAt es J)) := hst3
    have HS3 : Hid (Sts (fun _ => True) w3 ao n ss es) := HS2.out.up hb3
    have hsr3 := hst3.1
    clear hjo hJ hownj hal hstsj hb3 hb02 hJm hT hokr hst3 HS2 hrl
    go_wp2_with (at_builtin; refine wpList_append_S rfl (.tmp 17) (.tmp 18) rfl w3.heap.size _ 0 [] rfl ?_ (fun _ => True) jo J.length jcap rs rfl ?_ ?_ ?_ ?_ ?_)
    all_goals first | (exact World.ownsRow_nil _ _ _ _) | (exact hsr3) | (exact hjz) | omega | skip
    intro v' w4 hown4 hg4
    have hown4' : w4.ownsRow w3.heap.size 31 4 v' J.length (flat rs) := by simpa using hown4
    have hb34 : Below w3.heap.size w3 w4 := bl_grown (Below.refl _ _) (Nat.le_refl _) hg4 (fun k hk => by simp [Value.ownBlock] at hk)
    clear hown4 hg4 hsr3 hjz
    obtain ⟨mo, mcap, rfl, hsr4, _⟩ := SR.own hown4'
    by_cases hn0 : n = 0
    · have HSJ5 : Hid (Sts (fun _ => True) w4 jo J.length rs (esAt es J)) := HSJ3.out.up hb34
      have HM5 : Hid (Sts (fun _ => True) w4 mo J.length rs (esAt es J)) := ⟨hsr4.imp (fun _ _ _ => trivial), HSJ5.out.2.1, HSJ5.out.2.2⟩
      have HXS : Hid ((∀ x ∈ ([] : List Sx), x ∈ ss) ∧ ∀ x ∈ rs ++ [], OkS x) := ⟨by simp, by simpa using HJ.out.2.2.2⟩
      have hb05 := bl_step hb03 hb34
      have hn0I : ¬ ((0 : Int) < (n : Int)) := by omega
      clear hown4' hsr4 hb34 hb03 HSJ3 HS3 HS
      have hjj := join_again _ w4 jo J.length jcap ss [] J rs (esAt es J) [] HJ.out.1 HJ.out.2.1 (by simp) (by simpa using HSJ5.out) HJ.out.2.2.1 (by simpa using HJ.out.2.2.2) (by omega)
      have hjl : rs.length = J.length := HRL.out
      go_wp2_with fail
      refine hjj.mono ?_
      rintro e w6 ⟨ao6, cap6, rs6, rfl, hal6, hsts6, hb6⟩
      rw [hjl] at hsts6 ⊢
      have hsm := same_true _ _ w6 ao6 jo J.length cap6 jcap rs6 rs (esAt es J) hsts6 (HSJ5.out.up hb6) hal6
      have hb06 := bl_step hb05 hb6
      have HM6 : Hid (Sts (fun _ => True) w6 mo J.length rs (esAt es J)) := HM5.out.up hb6
      have HSJ6 : Hid (Sts (fun _ => True) w6 jo J.length rs (esAt es J)) := HSJ5.out.up hb6
      clear hjj hsts6 hal6 hb6 hb05 HM5 HSJ5
      go_wp2_with fail
      refine hsm.mono ?_
      rintro e w7 ⟨rfl, hu7⟩
      have hb07 := bl_step hb06 hu7.bl
      have hjm := join_again _ w7 mo J.length mcap ss [] J rs (esAt es J) [] HJ.out.1 HJ.out.2.1 HXS.out.1 (by simpa using HM6.out.up hu7.bl) HJ.out.2.2.1 HXS.out.2 (by omega)
      have HSJ7 : Hid (Sts (fun _ => True) w7 jo J.length rs (esAt es J)) := HSJ6.out.up hu7.bl
      clear hsm hu7 hb06 HM6 HSJ6
      go_wp2_with fail
      refine hjm.mono ?_
      rintro e w8 ⟨ao8, cap8, rs8, rfl, hal8, hsts8, hb8⟩
      rw [hjl] at hsts8 ⊢
      have hsm := same_true _ _ w8 ao8 jo J.length cap8 jcap rs8 rs (esAt es J) hsts8 (HSJ7.out.up hb8) hal8
      have hb08 := bl_step hb07 hb8
      clear hjm hsts8 hal8 hb8 hb07 HSJ7
      go_wp2_with fail
      refine hsm.mono ?_
      rintro e w9 ⟨rfl, hu9⟩
      have hb09 := bl_step hb08 hu9.bl
      clear hsm hu9 hb08
      go_wp2
      go_ret
      exact ⟨rfl, hb09⟩
    · have hn0I : (0 : Int) < (n : Int) := by omega
      have HS4 : Hid (Sts (fun _ => True) w4 ao n ss es) := HS3.out.up hb34
      have hrem : ((at0 : Int)).tmod (n : Int) = ((at0 % n : Nat) : Int) := by rw [Int.tmod_eq_emod_of_nonneg (by omega)]; rfl
      have hidx : at0 % n < n := Nat.mod_lt _ (by omega)
      obtain ⟨ia, hia⟩ : ∃ ia, at0 % n = ia := ⟨_, rfl⟩
      rw [hia] at hrem hidx
      obtain ⟨x, hx⟩ : ∃ x, ss[ia]? = some x := ⟨ss[ia]'(by have := HS4.out.1.1; omega), List.getElem?_eq_getElem _⟩
      obtain ⟨e0, he0⟩ : ∃ e0, es[ia]? = some e0 := ⟨es[ia]'(by have := HS4.out.2.1; omega), List.getElem?_eq_getElem _⟩
      obtain ⟨b, off, hao, _, hc⟩ := HS4.out.1.2.2.2 (by omega)
      subst hao
      obtain ⟨c0, c1, c2, c3⟩ := hc ia x hx
      have HX0 : Hid (Its (fun _ => True) w3 x.2.2.2.1 x.2.2.2.2.1 e0) := HS3.out.2.2 ia x e0 hx he0
      have HX : Hid (x ∈ ss ∧ OkS x ∧ Its (fun _ => True) w4 x.2.2.2.1 x.2.2.2.2.1 e0) := ⟨List.mem_of_getElem? hx, HOK.out x (List.mem_of_getElem? hx), HS4.out.2.2 ia x e0 hx he0⟩
      have hSx := fun W => SR.one W x
      have ho1 := fun o => hown4'.alloc o
      have hlt1 : ∀ g, (Value.slice mo J.length mcap).ownBlock = some g → w3.heap.size ≤ g := fun g hg => (hown4'.lt g hg).1
      have hiaI : (ia : Int) < (n : Int) := by omega
      have hia0 : ¬ ((ia : Int) < 0) := by omega
      have hn0b : ((n : Int) == 0) = false := by simp; omega
      clear hc hx he0 hia hsr4
      have HX3 : Hid (Its (fun _ => True) w3 x.2.2.2.1 x.2.2.2.2.1 e0) := HX0.out
      go_upto_region 7 with fail
      go_wp2_with (at_builtin; refine wpList_append_S rfl (.tmp 23) (.tmp 32) rfl w3.heap.size _ J.length rs rfl ?_ (fun _ => True) (some ⟨w4.heap.size, 0, none⟩) 1 1 [x] rfl ?_ ?_ ?_ ?_ ?_)
      all_goals first | (exact ho1 _) | (exact hSx _) | (exact fun (e : (some _ : Option Addr) = none) => nomatch e) | omega | (have := hb34.size; simp; omega) | skip
      intro v5 w5 hown5 hg5
      have hb35 : Below w3.heap.size w3 w5 := bl_grown (hb34.alloc hb34.size _) (by have := hb34.size; simp; omega) hg5 hlt1
      obtain ⟨mo5, mcap5, rfl, hsr5, _⟩ := SR.own hown5
      have HSJ5 : Hid (Sts (fun _ => True) w5 jo J.length rs (esAt es J)) := HSJ3.out.up hb35
      have HM5 : Hid (Sts (fun _ => True) w5 mo5 (J.length + 1) (rs ++ [x]) (esAt es J ++ [e0])) := by
        refine (Sts.app (m := 0) HSJ5.out (fun j y e hy he => ?_) rfl hsr5).imp (fun _ _ _ => trivial)
        match j, hy, he with
        | 0, hy, he => simp at hy he; subst hy he; exact HX3.out.keep (Kp.up hb35)
        | j + 1, hy, he => simp at hy
      have HXS : Hid ((∀ y ∈ [x], y ∈ ss) ∧ ∀ y ∈ rs ++ [x], OkS y) := ⟨fun y hy => by simp at hy; subst hy; exact HX.out.1, fun y hy => by
        rw [List.mem_append] at hy
        rcases hy with hy | hy
        · exact HJ.out.2.2.2 y hy
        · simp at hy; subst hy; exact HX.out.2.1⟩
      have hb05 := bl_step hb03 hb35
      clear hown5 hg5 hsr5 hb35 hb34 hb03 HSJ3 HS3 HS4 HS ho1 hSx hlt1 hown4' c0 c1 c2 c3 HX HX3 HX0
      have hjj := join_again _ w5 jo J.length jcap ss [] J rs (esAt es J) [] HJ.out.1 HJ.out.2.1 (by simp) (by simpa using HSJ5.out) HJ.out.2.2.1 (by simpa using HJ.out.2.2.2) (by omega)
      have hjl : rs.length = J.length := HRL.out
      go_wp2_with fail
      refine hjj.mono ?_
      rintro e w6 ⟨ao6, cap6, rs6, rfl, hal6, hsts6, hb6⟩
      rw [hjl] at hsts6 ⊢
      have hsm := same_true _ _ w6 ao6 jo J.length cap6 jcap rs6 rs (esAt es J) hsts6 (HSJ5.out.up hb6) hal6
      have hb06 := bl_step hb05 hb6
      have HM6 : Hid (Sts (fun _ => True) w6 mo5 (J.length + 1) (rs ++ [x]) (esAt es J ++ [e0])) := HM5.out.up hb6
      have HSJ6 : Hid (Sts (fun _ => True) w6 jo J.length rs (esAt es J)) := HSJ5.out.up hb6
      clear hjj hsts6 hal6 hb6 hb05 HM5 HSJ5
      go_wp2_with fail
      refine hsm.mono ?_
      rintro e w7 ⟨rfl, hu7⟩
      have hb07 := bl_step hb06 hu7.bl
      have hjm := join_again _ w7 mo5 (J.length + 1) mcap5 ss [x] J rs (esAt es J) [e0] HJ.out.1 HJ.out.2.1 HXS.out.1 (HM6.out.up hu7.bl) HJ.out.2.2.1 HXS.out.2 (by omega)
      have HSJ7 : Hid (Sts (fun _ => True) w7 jo J.length rs (esAt es J)) := HSJ6.out.up hu7.bl
      clear hsm hu7 hb06 HM6 HSJ6
      go_wp2_with fail
      refine hjm.mono ?_
      rintro e w8 ⟨ao8, cap8, rs8, rfl, hal8, hsts8, hb8⟩
      rw [hjl] at hsts8 ⊢
      have hsm := same_true _ _ w8 ao8 jo J.length cap8 jcap rs8 rs (esAt es J) hsts8 (HSJ7.out.up hb8) hal8
      have hb08 := bl_step hb07 hb8
      clear hjm hsts8 hal8 hb8 hb07 HSJ7
      go_wp2_with fail
      refine hsm.mono ?_
      rintro e w9 ⟨rfl, hu9⟩
      have hb09 := bl_step hb08 hu9.bl
      clear hsm hu9 hb08
      go_wp2
      go_ret
      exact ⟨rfl, hb09⟩

set_option maxRecDepth 100000 in
theorem lifted (os : Os) (started : os.Started) (H : Type) (enc : TypeId × Value → H) :
    ReturnsInHanded {} Try.checked os 6 .any (Rows.cutAgainSpec.pre6 enc Try.prog Try.f6 Rows.cutAgainRow.domain false) (Rows.cutAgainSpec.post enc Try.prog Try.f6 false true false false) := by
  refine returnsInHanded_of_change_sized (C := Try.checked) own started (by kernel_rfl) Try.func6
    (ChangeSpec.witness6 (enc := enc) (C := Try.checked) false ⟨#[], #[.slice none 0 0, .int .u8 0], []⟩ 6 (by kernel_rfl) (by kernel_rfl) (by kernel_rfl) (by kernel_rfl)) ?_
  intro W base args ds gs before hval0 hW hcnd hsz0 _
  have hsz : (DataW.weightsEach Try.prog (Try.f6.params.toList ++ Rows.cutAgainSpec.plain.varTypes Try.prog) (ds ++ gs)).all (· ≤ reachBytes) = true := hsz0
  have hval : ∀ (j : Nat) t v, Try.f6.params[j]? = some t → args[j]? = some v → Value.okWide Try.prog W .any base t v := hval0
  have hW' := hW
  obtain ⟨p, q, hA0, hV, rfl, hfz, hnd⟩ := hW
  have hA : DataW.TrodAll enc Try.prog W 0 (fun _ => true) true Try.f6.params.toList args.toList ds p := hA0
  rw [Try.params6] at hA hval hsz
  obtain ⟨v0, vs0, d0, ds0, p0, q0, hargs0, rfl, rfl, h0, r0⟩ := trodAll_cons hA
  obtain ⟨v1, vs1, d1, ds1, p1, q1, hargs1, rfl, rfl, h1, r1⟩ := trodAll_cons r0
  obtain ⟨rfl, rfl, rfl⟩ := trodAll_nil r1
  obtain rfl : args = #[v0, v1] := by cases args; simp_all
  obtain ⟨rfl, rfl⟩ := trodVars_none hV
  obtain ⟨a0, len0, cap0, rfl⟩ := okWide_slice Try.underlying22 (hval 0 22 v0 rfl rfl)
  have k0 := h0
  have lt0 : ∀ x ∈ p0, x.block < W.heap.size := by obtain ⟨m, hm⟩ := k0; exact DataW.trod_lt m _ _ _ hm
  obtain ⟨xs0, ys0, hx0, ho0, hz0, hc0, hd0⟩ := open_states h0 hsz (j := 0) rfl rfl
  obtain ⟨a1, rfl, rfl, rfl, w1⟩ := open_int Try.underlying5 (hval 1 5 v1 rfl rfl) h1
  clear hA0 hval0 hsz hsz0
  obtain ⟨n1, rfl, hn1⟩ := u8_of_wf w1
  refine (walk W a0 len0 cap0 xs0 ys0 hx0 ho0 hz0 hc0 hd0 n1 hn1).mono fun e W' ⟨he, bel⟩ => ?_
  subst he
  exact ⟨_, rfl, _, _, _, [], _, [], hW', trodAll_mk1 (shut_bool Try.underlying4 _), (trodAll_cons_mk (Below.trod laidOut (by kernel_rfl) (of_decide_eq_true (by kernel_rfl)) k0 bel lt0) (trodAll_cons_mk (shut_int Try.underlying5 w1) trodAll_mk0)), rfl, bel.frame _, fun h => by cases h⟩

theorem over : Rows.cutAgainRow.holds Try.pinned (OpenSpec.ofChange Rows.cutAgainSpec) :=
  OpenClaim.holds_of_wide 6 Try.f6 rfl rfl rfl rfl rfl rfl rfl ⟨rfl, rfl, rfl, rfl, rfl⟩ rfl rfl rfl rfl rfl (by kernel_rfl) Try.func6 (by kernel_rfl)
    (of_decide_eq_true (by kernel_rfl)) (by unfold Func.isWrapper; first | (rw [if_pos (by decide +kernel)]; kernel_rfl) | (rw [if_neg (by decide +kernel)]; exact ⟨rfl, rfl⟩))
    (fun os started H enc _ => lifted os started H enc)

end Go.Proofs.Ytbdbdpgnilhcpaa.cutAgain
namespace Go.Proofs.Ytbdbdpgnilhcpaa
theorem cutAgain_holds : Rows.CutAgainSaid := cutAgain.over
#print axioms cutAgain_holds
end Go.Proofs.Ytbdbdpgnilhcpaa
