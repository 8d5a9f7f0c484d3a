/-
  Proved: for every list of states, CutJoins(l) returns true: cut.Form and cut.End answer of each as the document asks, and cut.Join answers of each view the state that has the most, of those the first, by the views' numbers; the document's example holds. No condition.
-/
import Derived.Test.YtbdbdpgnilhcpaaRows
import Derived.Test.YtbdbdpgnilhcpaaSForm
import Derived.Test.YtbdbdpgnilhcpaaSAgain
namespace Go.Proofs.Ytbdbdpgnilhcpaa.cutJoins
open Go.ChangeShapes Go.WideShapes Go.ChangeAt Go.RowKit Go.Joins
set_option linter.unusedVariables false

set_option maxRecDepth 10000 in
set_option maxHeartbeats 4000000 in
theorem walk (w : World) (ao : Option Addr) (n cap : Nat) (ss : List Sx) (es : List (List Di)) (h : Sts (fun _ => True) w ao n ss es) (hg : ∀ x ∈ ss, Good x) (hz : ao = none → n = 0 ∧ cap = 0) (hc : n ≤ cap) (hd : cap ≤ 9223372036854775807) :
    Calls Try.prog 3 #[.slice ao n cap] w fun e w' => e = .returned (.bool true) ∧ Below w.heap.size w w' := by
  have HS : Hid (Sts (fun _ => True) w ao n ss es ∧ ∀ x ∈ ss, Good x) := ⟨h, hg⟩
  clear h hg hc
  go_enter Try.func3, Try.ntmps3
  go_wp2_with fail
  refine (awake_any _).mono ?_
  rintro e w1 ⟨rfl, hb01⟩
  have hri := right_any (fun _ => True) w1 ao n cap ss (HS.out.1.1.up hb01)
  obtain ⟨rb, HRB⟩ : ∃ rb, Hid (rightB ss n = rb) := ⟨_, rfl⟩
  rw [HRB.out] at hri
  go_wp2_with fail
  refine hri.mono ?_
  rintro e w2 ⟨rfl, hu2⟩
  have hb02 := bl_step hb01 hu2.bl
  clear hri hb01 hu2
  cases rb with
  | false =>
    clear HRB HS hz
    go_wp2_with fail
    refine (awake_any _).mono ?_
    rintro e w3 ⟨rfl, hb3⟩
    have hb03 := bl_step hb02 hb3
    clear hb02 hb3
    go_wp2
    go_ret
    exact ⟨rfl, hb03⟩
  | true =>
    obtain ⟨hfl, h40⟩ := right_true HRB.out
    have hok := HS.out.1.ok hfl
    have HS2 : Hid (Sts (fun _ => True) w2 ao n ss es) := HS.out.1.up hb02
    have HOK : Hid (∀ x ∈ ss, OkS x) := hok
    have HFL : Hid (FlOk ss) := hfl
    clear HRB hfl hok
    have hl := HS2.out.1.1
    go_wp2_with fail
    go_loopw [3] (fun iv wr => ∃ k : Nat, k ≤ n ∧ iv = .int .i64 (k : Nat) ∧ Up w2 wr) (fun iv _ => n - (intOf iv).toNat)
    case atStart => exact ⟨0, by omega, rfl, Up.refl _⟩
    case round =>
      obtain ⟨k, hk, rfl, hu⟩ := hrel
      by_cases hlt : k < n
      · have hltI : (k : Int) < (n : Int) := by omega
        have hk0 : ¬ ((k : Int) < 0) := by omega
        obtain ⟨x, hx⟩ : ∃ x, ss[k]? = some x := ⟨ss[k]'(by omega), List.getElem?_eq_getElem (by omega)⟩
        have hxm := List.mem_of_getElem? hx
        obtain ⟨b, off, hao, _, hc⟩ := (HS2.out.1.up hu.drew.bl).2.2.2 (by omega)
        obtain ⟨e0, he0⟩ := HS2.out.its hxm
        obtain ⟨xs, hIR, _⟩ := he0.keep (Kp.up hu.drew.bl)
        have two : C4 b (off + k * 4) x wr.drew ∧ IR (fun _ => True) wr.drew x.2.2.2.1 x.2.2.2.2.1 xs := ⟨hc k x hx, hIR⟩
        have f1 := fun W hi => cutForm_any (fun _ => True) W x xs hi (HFL.out x hxm) (HOK.out x hxm)
        have f2 := fun W hi => refForm6_any (fun _ => True) W x xs hi (HFL.out x hxm)
        have f3 := fun W => end_any W x (HOK.out x hxm)
        have f4 := fun W => refEnd_any W x (HOK.out x hxm)
        obtain ⟨r, hr⟩ : ∃ r, formD x xs = r := ⟨_, rfl⟩
        obtain ⟨en, hen⟩ : ∃ en, endS x = en := ⟨_, rfl⟩
        simp only [hr] at f1 f2
        simp only [hen] at f3 f4
        unfold sta at f1 f2 f3 f4
        subst hao
        have hrr : (r != r) = false := by simp
        have bl0 := hu.drew
        clear hc hx hxm he0 hIR hr hen HS2 HS HOK HFL hz
        go_wp2_with fail
        refine wp_region_noPanic ?_
        refine wp_region_held_drew (S := fun wx => C4 b (off + k * 4) x wx ∧ IR (fun _ => True) wx x.2.2.2.1 x.2.2.2.2.1 xs) (by kernel_rfl) two (fun hHeld => ?_)
        refine take_first 0 (v := ?_) rfl (by kernel_rfl) (by kernel_rfl) (by kernel_rfl) (fun _ _ _ h => h) (Or.inl ⟨by rfl, by intro wx hSw; obtain ⟨⟨hSw1, hSw2, hSw3, hSw4⟩, hSw5⟩ := hSw; go_simp; try with_reducible rfl⟩) (by assumption) ?_
        (try simp only [Act.put, List.setIfInBounds_toArray, List.set_cons_zero, List.set_cons_succ])
        refine take_first 1 (v := ?_) rfl (by kernel_rfl) (by kernel_rfl) (by kernel_rfl) (fun _ _ _ h => h) (Or.inl ⟨by rfl, by intro wx hSw; obtain ⟨⟨hSw1, hSw2, hSw3, hSw4⟩, hSw5⟩ := hSw; go_simp; try with_reducible rfl⟩) (by assumption) ?_
        (try simp only [Act.put, List.setIfInBounds_toArray, List.set_cons_zero, List.set_cons_succ])
        refine take_first 2 (v := ?_) rfl (by kernel_rfl) (by kernel_rfl) (by kernel_rfl) (fun _ _ _ h => h) (Or.inl ⟨by rfl, by intro wx hSw; obtain ⟨⟨hSw1, hSw2, hSw3, hSw4⟩, hSw5⟩ := hSw; go_simp; try with_reducible rfl⟩) (by assumption) ?_
        (try simp only [Act.put, List.setIfInBounds_toArray, List.set_cons_zero, List.set_cons_succ])
        refine take_first 3 (v := ?_) rfl (by kernel_rfl) (by kernel_rfl) (by kernel_rfl) (fun _ _ _ h => h) (Or.inl ⟨by rfl, by intro wx hSw; obtain ⟨⟨hSw1, hSw2, hSw3, hSw4⟩, hSw5⟩ := hSw; go_simp; try with_reducible rfl⟩) (by assumption) ?_
        (try simp only [Act.put, List.setIfInBounds_toArray, List.set_cons_zero, List.set_cons_succ])
        refine take_first 5 (v := ?_) rfl (by kernel_rfl) (by kernel_rfl) (by kernel_rfl) (fun _ _ _ h => h) (Or.inl ⟨by rfl, by intro wx hSw; obtain ⟨⟨hSw1, hSw2, hSw3, hSw4⟩, hSw5⟩ := hSw; go_simp; try with_reducible rfl⟩) (by assumption) ?_
        (try simp only [Act.put, List.setIfInBounds_toArray, List.set_cons_zero, List.set_cons_succ])
        refine take_first 6 (v := ?_) rfl (by kernel_rfl) (by kernel_rfl) (by kernel_rfl) (fun _ _ _ h => h) (Or.inl ⟨by rfl, by intro wx hSw; obtain ⟨⟨hSw1, hSw2, hSw3, hSw4⟩, hSw5⟩ := hSw; go_simp; try with_reducible rfl⟩) (by assumption) ?_
        (try simp only [Act.put, List.setIfInBounds_toArray, List.set_cons_zero, List.set_cons_succ])
        refine take_first 7 (v := ?_) rfl (by kernel_rfl) (by kernel_rfl) (by kernel_rfl) (fun _ _ _ h => h) (Or.inl ⟨by rfl, by intro wx hSw; obtain ⟨⟨hSw1, hSw2, hSw3, hSw4⟩, hSw5⟩ := hSw; go_simp; try with_reducible rfl⟩) (by assumption) ?_
        (try simp only [Act.put, List.setIfInBounds_toArray, List.set_cons_zero, List.set_cons_succ])
        refine take_first 8 (v := ?_) rfl (by kernel_rfl) (by kernel_rfl) (by kernel_rfl) (fun _ _ _ h => h) (Or.inl ⟨by rfl, by intro wx hSw; obtain ⟨⟨hSw1, hSw2, hSw3, hSw4⟩, hSw5⟩ := hSw; go_simp; try with_reducible rfl⟩) (by assumption) ?_
        (try simp only [Act.put, List.setIfInBounds_toArray, List.set_cons_zero, List.set_cons_succ])
        refine comes_up 4 rfl (by kernel_rfl) (fun K hK => ?_)
        go_simp
        refine (f1 _ hHeld.2).mono ?_
        rintro e' w3 ⟨rfl, hup⟩
        have at1 : C4 b (off + k * 4) x w3 ∧ IR (fun _ => True) w3 x.2.2.2.1 x.2.2.2.2.1 xs := ⟨C4.up hHeld.1 hup.bl, hHeld.2.keep (Kp.up hup.bl)⟩
        have bl1 := bl0.trans hup
        clear hHeld hup
        go_wp2_with fail
        refine hK.out _ _ at1 (fun hHeld => ?_)
        clear hK K
        (try simp only [Act.put, List.setIfInBounds_toArray, List.set_cons_zero, List.set_cons_succ])
        refine comes_up 9 rfl (by kernel_rfl) (fun K hK => ?_)
        go_simp
        refine (f2 _ hHeld.2).mono ?_
        rintro e' w4 ⟨rfl, hup⟩
        have at2 : C4 b (off + k * 4) x w4 ∧ IR (fun _ => True) w4 x.2.2.2.1 x.2.2.2.2.1 xs := ⟨C4.up hHeld.1 hup.bl, hHeld.2.keep (Kp.up hup.bl)⟩
        have bl2 := bl1.trans hup
        clear hHeld hup
        go_wp2_with fail
        refine hK.out _ _ at2 (fun hHeld => ?_)
        clear hK K
        (try simp only [Act.put, List.setIfInBounds_toArray, List.set_cons_zero, List.set_cons_succ])
        refine take_first 10 (v := ?_) rfl (by kernel_rfl) (by kernel_rfl) (by kernel_rfl) (fun _ _ _ h => h) (Or.inl ⟨by rfl, by intro wx hSw; obtain ⟨⟨hSw1, hSw2, hSw3, hSw4⟩, hSw5⟩ := hSw; go_simp; try with_reducible rfl⟩) (by assumption) ?_
        (try simp only [Act.put, List.setIfInBounds_toArray, List.set_cons_zero, List.set_cons_succ])
        refine take_first 11 (v := ?_) rfl (by kernel_rfl) (by kernel_rfl) (by kernel_rfl) (fun _ _ _ h => h) (Or.inl ⟨by rfl, by intro wx hSw; obtain ⟨⟨hSw1, hSw2, hSw3, hSw4⟩, hSw5⟩ := hSw; go_simp; try with_reducible rfl⟩) (by assumption) ?_
        (try simp only [Act.put, List.setIfInBounds_toArray, List.set_cons_zero, List.set_cons_succ])
        refine take_first 12 (v := ?_) rfl (by kernel_rfl) (by kernel_rfl) (by kernel_rfl) (fun _ _ _ h => h) (Or.inl ⟨by rfl, by intro wx hSw; obtain ⟨⟨hSw1, hSw2, hSw3, hSw4⟩, hSw5⟩ := hSw; go_simp; try with_reducible rfl⟩) (by assumption) ?_
        (try simp only [Act.put, List.setIfInBounds_toArray, List.set_cons_zero, List.set_cons_succ])
        refine take_first 13 (v := ?_) rfl (by kernel_rfl) (by kernel_rfl) (by kernel_rfl) (fun _ _ _ h => h) (Or.inl ⟨by rfl, by intro wx hSw; obtain ⟨⟨hSw1, hSw2, hSw3, hSw4⟩, hSw5⟩ := hSw; go_simp; try with_reducible rfl⟩) (by assumption) ?_
        (try simp only [Act.put, List.setIfInBounds_toArray, List.set_cons_zero, List.set_cons_succ])
        refine take_first 14 (v := ?_) rfl (by kernel_rfl) (by kernel_rfl) (by kernel_rfl) (fun _ _ _ h => h) (Or.inl ⟨by rfl, by intro wx hSw; obtain ⟨⟨hSw1, hSw2, hSw3, hSw4⟩, hSw5⟩ := hSw; go_simp; try with_reducible rfl⟩) (by assumption) ?_
        (try simp only [Act.put, List.setIfInBounds_toArray, List.set_cons_zero, List.set_cons_succ])
        refine take_first 15 (v := ?_) rfl (by kernel_rfl) (by kernel_rfl) (by kernel_rfl) (fun _ _ _ h => h) (Or.inl ⟨by rfl, by intro wx hSw; obtain ⟨⟨hSw1, hSw2, hSw3, hSw4⟩, hSw5⟩ := hSw; go_simp; try with_reducible rfl⟩) (by assumption) ?_
        (try simp only [Act.put, List.setIfInBounds_toArray, List.set_cons_zero, List.set_cons_succ])
        refine take_first 17 (v := ?_) rfl (by kernel_rfl) (by kernel_rfl) (by kernel_rfl) (fun _ _ _ h => h) (Or.inl ⟨by rfl, by intro wx hSw; obtain ⟨⟨hSw1, hSw2, hSw3, hSw4⟩, hSw5⟩ := hSw; go_simp; try with_reducible rfl⟩) (by assumption) ?_
        (try simp only [Act.put, List.setIfInBounds_toArray, List.set_cons_zero, List.set_cons_succ])
        refine take_first 18 (v := ?_) rfl (by kernel_rfl) (by kernel_rfl) (by kernel_rfl) (fun _ _ _ h => h) (Or.inl ⟨by rfl, by intro wx hSw; obtain ⟨⟨hSw1, hSw2, hSw3, hSw4⟩, hSw5⟩ := hSw; go_simp; try with_reducible rfl⟩) (by assumption) ?_
        (try simp only [Act.put, List.setIfInBounds_toArray, List.set_cons_zero, List.set_cons_succ])
        refine take_first 19 (v := ?_) rfl (by kernel_rfl) (by kernel_rfl) (by kernel_rfl) (fun _ _ _ h => h) (Or.inl ⟨by rfl, by intro wx hSw; obtain ⟨⟨hSw1, hSw2, hSw3, hSw4⟩, hSw5⟩ := hSw; go_simp; try with_reducible rfl⟩) (by assumption) ?_
        (try simp only [Act.put, List.setIfInBounds_toArray, List.set_cons_zero, List.set_cons_succ])
        refine take_first 20 (v := ?_) rfl (by kernel_rfl) (by kernel_rfl) (by kernel_rfl) (fun _ _ _ h => h) (Or.inl ⟨by rfl, by intro wx hSw; obtain ⟨⟨hSw1, hSw2, hSw3, hSw4⟩, hSw5⟩ := hSw; go_simp; try with_reducible rfl⟩) (by assumption) ?_
        (try simp only [Act.put, List.setIfInBounds_toArray, List.set_cons_zero, List.set_cons_succ])
        refine comes_up 16 rfl (by kernel_rfl) (fun K hK => ?_)
        go_simp
        refine (f3 _).mono ?_
        rintro e' w5 ⟨rfl, hup⟩
        have at3 : C4 b (off + k * 4) x w5 ∧ IR (fun _ => True) w5 x.2.2.2.1 x.2.2.2.2.1 xs := ⟨C4.up hHeld.1 hup.bl, hHeld.2.keep (Kp.up hup.bl)⟩
        have bl3 := bl2.trans hup
        clear hHeld hup
        go_wp2_with fail
        refine hK.out _ _ at3 (fun hHeld => ?_)
        clear hK K
        (try simp only [Act.put, List.setIfInBounds_toArray, List.set_cons_zero, List.set_cons_succ])
        refine comes_up 21 rfl (by kernel_rfl) (fun K hK => ?_)
        go_simp
        refine (f4 _).mono ?_
        rintro e' w6 ⟨rfl, hup⟩
        have at4 : C4 b (off + k * 4) x w6 ∧ IR (fun _ => True) w6 x.2.2.2.1 x.2.2.2.2.1 xs := ⟨C4.up hHeld.1 hup.bl, hHeld.2.keep (Kp.up hup.bl)⟩
        have bl4 := bl3.trans hup
        clear hHeld hup
        go_wp2_with fail
        refine hK.out _ _ at4 (fun hHeld => ?_)
        clear hK K
        (try simp only [Act.put, List.setIfInBounds_toArray, List.set_cons_zero, List.set_cons_succ])
        refine take_first 22 (v := ?_) rfl (by kernel_rfl) (by kernel_rfl) (by kernel_rfl) (fun _ _ _ h => h) (Or.inl ⟨by rfl, by intro wx hSw; obtain ⟨⟨hSw1, hSw2, hSw3, hSw4⟩, hSw5⟩ := hSw; go_simp; try with_reducible rfl⟩) (by assumption) ?_
        (try simp only [Act.put, List.setIfInBounds_toArray, List.set_cons_zero, List.set_cons_succ])
        refine take_first 23 (v := ?_) rfl (by kernel_rfl) (by kernel_rfl) (by kernel_rfl) (fun _ _ _ h => h) (Or.inl ⟨by rfl, by intro wx hSw; obtain ⟨⟨hSw1, hSw2, hSw3, hSw4⟩, hSw5⟩ := hSw; go_simp; try with_reducible rfl⟩) (by assumption) ?_
        (try simp only [Act.put, List.setIfInBounds_toArray, List.set_cons_zero, List.set_cons_succ])
        refine wpAnyH_done (by kernel_rfl) ?_ _
        refine NoPanic.normal ?_
        clear two at1 at2 at3 at4 hHeld f1 f2 f3 f4
        go_wp2
        go_roundw
        case rel => first | exact ⟨k + 1, by omega, by go_num, bl4⟩ | ((repeat apply Exists.intro); exact ⟨⟨k + 1, by omega, by go_num, bl4⟩, rfl⟩)
        case measure => simp [intOf]; omega
      · have hltI : ¬ ((k : Int) < (n : Int)) := by omega
        have hb03 := bl_step hb02 hu.bl
        have HS3 : Hid (Sts (fun _ => True) wr ao n ss es) := HS2.out.up hu.bl
        have hjo := join_any _ wr ao n cap ss es HS3.out HOK.out (by omega)
        clear HS2 hu hb02 HFL
        go_wp2_with fail
        refine hjo.mono ?_
        rintro e w4 ⟨jo, jcap, J, rs, rfl, hJ, hownj, hal, hstsj, _, hb4⟩
        have hb04 := bl_step hb03 hb4
        have HS4 : Hid (Sts (fun _ => True) w4 ao n ss es) := HS3.out.up hb4
        have hrj := refJoin_any _ w4 ao n cap ss HS4.out.1 HOK.out (by omega)
        have HJ : Hid (IsJoin (tagl ss) J ∧ Alike rs (J.map (·.1)) ∧ Sts (fun _ => True) w4 jo J.length rs (esAt es J)) := ⟨hJ, hal.symm, hstsj.imp (fun _ _ _ => trivial)⟩
        clear hjo hJ hownj hal hstsj hb4 hb03 HS3
        go_wp2_with fail
        refine hrj.mono ?_
        rintro e w5 ⟨v5, J', rfl, hJ', hown5, hb5⟩
        obtain rfl := hJ'.unique HJ.out.1
        obtain ⟨ro, rcap, rfl, hsr5, _⟩ := SR.own hown5
        have hb05 := bl_step hb04 hb5
        have hst5 := (join_sts HS4.out (Kp.up hb5) (fun t ht => ((hJ'.2 t).1 ht).1) hsr5).imp (q := fun _ => True) (fun _ _ _ => trivial)
        have hsm := same_true _ _ w5 jo ro J'.length jcap rcap rs (J'.map (·.1)) (esAt es J') (HJ.out.2.2.up hb5) hst5 HJ.out.2.1
        clear hrj hJ' hown5 hsr5 hb5 hb04 HS4 hst5 HJ
        go_wp2_with fail
        refine hsm.mono ?_
        rintro e w6 ⟨rfl, hu6⟩
        have hb06 := bl_step hb05 hu6.bl
        clear hsm hu6 hb05
        go_wp2
        go_ret
        exact ⟨rfl, hb06⟩

set_option maxRecDepth 100000 in
theorem lifted (os : Os) (started : os.Started) (H : Type) (enc : TypeId × Value → H) :
    ReturnsInHanded {} Try.checked os 3 .any (Rows.cutJoinsSpec.pre6 enc Try.prog Try.f3 Rows.cutJoinsRow.domain false) (Rows.cutJoinsSpec.post enc Try.prog Try.f3 false true false false) := by
  refine returnsInHanded_of_change_sized (C := Try.checked) own started (by kernel_rfl) Try.func3
    (ChangeSpec.witness6 (enc := enc) (C := Try.checked) false ⟨#[], #[.slice none 0 0], []⟩ 3 (by kernel_rfl) (by kernel_rfl) (by kernel_rfl) (by kernel_rfl)) ?_
  intro W base args ds gs before hval0 hW hcnd hsz0 _
  have hsz : (DataW.weightsEach Try.prog (Try.f3.params.toList ++ Rows.cutJoinsSpec.plain.varTypes Try.prog) (ds ++ gs)).all (· ≤ reachBytes) = true := hsz0
  have hval : ∀ (j : Nat) t v, Try.f3.params[j]? = some t → args[j]? = some v → Value.okWide Try.prog W .any base t v := hval0
  have hW' := hW
  obtain ⟨p, q, hA0, hV, rfl, hfz, hnd⟩ := hW
  have hA : DataW.TrodAll enc Try.prog W 0 (fun _ => true) true Try.f3.params.toList args.toList ds p := hA0
  rw [Try.params3] at hA hval hsz
  obtain ⟨v0, vs0, d0, ds0, p0, q0, hargs0, rfl, rfl, h0, r0⟩ := trodAll_cons hA
  obtain ⟨rfl, rfl, rfl⟩ := trodAll_nil r0
  obtain rfl : args = #[v0] := by cases args; simp_all
  obtain ⟨rfl, rfl⟩ := trodVars_none hV
  obtain ⟨a0, len0, cap0, rfl⟩ := okWide_slice Try.underlying22 (hval 0 22 v0 rfl rfl)
  have k0 := h0
  have lt0 : ∀ x ∈ p0, x.block < W.heap.size := by obtain ⟨m, hm⟩ := k0; exact DataW.trod_lt m _ _ _ hm
  obtain ⟨xs0, ys0, hx0, ho0, hz0, hc0, hd0⟩ := open_states h0 hsz (j := 0) rfl rfl
  clear hA0 hval0 hsz hsz0
  refine (walk W a0 len0 cap0 xs0 ys0 hx0 ho0 hz0 hc0 hd0).mono fun e W' ⟨he, bel⟩ => ?_
  subst he
  exact ⟨_, rfl, _, _, _, [], _, [], hW', trodAll_mk1 (shut_bool Try.underlying4 _), (trodAll_cons_mk (Below.trod laidOut (by kernel_rfl) (of_decide_eq_true (by kernel_rfl)) k0 bel lt0) trodAll_mk0), rfl, bel.frame _, fun h => by cases h⟩

theorem over : Rows.cutJoinsRow.holds Try.pinned (OpenSpec.ofChange Rows.cutJoinsSpec) :=
  OpenClaim.holds_of_wide 3 Try.f3 rfl rfl rfl rfl rfl rfl rfl ⟨rfl, rfl, rfl, rfl, rfl⟩ rfl rfl rfl rfl rfl (by kernel_rfl) Try.func3 (by kernel_rfl)
    (of_decide_eq_true (by kernel_rfl)) (by unfold Func.isWrapper; first | (rw [if_pos (by decide +kernel)]; kernel_rfl) | (rw [if_neg (by decide +kernel)]; exact ⟨rfl, rfl⟩))
    (fun os started H enc _ => lifted os started H enc)

end Go.Proofs.Ytbdbdpgnilhcpaa.cutJoins
namespace Go.Proofs.Ytbdbdpgnilhcpaa
theorem cutJoins_holds : Rows.CutJoinsSaid := cutJoins.over
#print axioms cutJoins_holds
end Go.Proofs.Ytbdbdpgnilhcpaa
