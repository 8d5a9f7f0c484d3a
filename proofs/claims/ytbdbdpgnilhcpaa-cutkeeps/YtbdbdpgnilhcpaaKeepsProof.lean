/-
  Proved: for every list of states, CutKeeps(l) returns true: states that are handed to cut.Join stay as they were, also where what it answered is changed; the document's example holds. No condition.
-/
import Derived.Test.YtbdbdpgnilhcpaaRows
import Derived.Test.YtbdbdpgnilhcpaaSJoin
namespace Go.Proofs.Ytbdbdpgnilhcpaa.cutKeeps
open Go.ChangeShapes Go.WideShapes Go.ChangeAt Go.RowKit Go.Joins
set_option linter.unusedVariables false

set_option maxRecDepth 10000 in
set_option maxHeartbeats 2000000 in
theorem walk (w : World) (ao : Option Addr) (n cap : Nat) (ss : List Sx) (es : List (List Di)) (h : Sts (fun _ => True) w ao n ss es) (hg : ∀ x ∈ ss, Good x) (hz : ao = none → n = 0 ∧ cap = 0) (hc : n ≤ cap) (hd : cap ≤ 9223372036854775807) :
    Calls Try.prog 7 #[.slice ao n cap] w fun e w' => e = .returned (.bool true) ∧ Below w.heap.size w w' := by
  have HS : Hid (Sts (fun _ => True) w ao n ss es ∧ ∀ x ∈ ss, Good x) := ⟨h, hg⟩
  clear h hg hc
  go_enter Try.func7, Try.ntmps7
  go_wp2_with fail
  refine (awake_any _).mono ?_
  rintro e w1 ⟨rfl, hb01⟩
  have hri := right_any (fun _ => True) w1 ao n cap ss (HS.out.1.1.up hb01)
  obtain ⟨rb, HRB⟩ : ∃ rb, Hid (rightB ss n = rb) := ⟨_, rfl⟩
  rw [HRB.out] at hri
  go_wp2_with fail
  refine hri.mono ?_
  rintro e w2 ⟨rfl, hu2⟩
  have hb02 := bl_step hb01 hu2.bl
  clear hri hb01 hu2
  cases rb with
  | false =>
    clear HRB HS hz
    go_wp2_with fail
    refine (awake_any _).mono ?_
    rintro e w3 ⟨rfl, hb3⟩
    have hb03 := bl_step hb02 hb3
    clear hb02 hb3
    go_wp2
    go_ret
    exact ⟨rfl, hb03⟩
  | true =>
    obtain ⟨hfl, h40⟩ := right_true HRB.out
    have hok := HS.out.1.ok hfl
    have HS2 : Hid (Sts (fun _ => True) w2 ao n ss es) := HS.out.1.up hb02
    have HOK : Hid (∀ x ∈ ss, OkS x) := hok
    have hsr2 := HS2.out.1
    clear HRB hfl hok
    go_wp2_with (at_builtin; refine wpList_append_S rfl (.tmp 14) (.tmp 15) rfl w2.heap.size _ 0 [] rfl ?_ (fun _ => True) ao n cap ss rfl ?_ ?_ ?_ ?_ ?_)
    all_goals first | (exact World.ownsRow_nil _ _ _ _) | (exact hsr2) | (exact hz) | omega | skip
    intro v' w3 hown3 hg3
    have hown3' : w3.ownsRow w2.heap.size 31 4 v' n (flat ss) := by simpa using hown3
    obtain ⟨mo, mcap, rfl, hsr3, _⟩ := SR.own hown3'
    have hb3 : Below w2.heap.size w2 w3 := bl_grown (Below.refl _ _) (Nat.le_refl _) hg3 (fun k hk => by simp [Value.ownBlock] at hk)
    have hb03 := bl_step hb02 hb3
    have hSl3 : Sts (fun b => b < w3.heap.size) w3 ao n ss es := (HS2.out.up hb3).imp (fun b hb _ => hb)
    have hSm3 : Sts (fun b => b < w3.heap.size) w3 mo n ss es := ⟨hsr3.imp (fun b hb _ => hb), hSl3.2.1, hSl3.2.2⟩
    have hjo := join_any _ w3 mo n mcap ss es hSm3 HOK.out (by omega)
    have HSL : Hid (Sts (fun b => b < w3.heap.size) w3 ao n ss es ∧ Sts (fun b => b < w3.heap.size) w3 mo n ss es) := ⟨hSl3, hSm3⟩
    clear hown3 hown3' hsr3 hg3 hb3 hSl3 hSm3 hsr2 HS2 hb02
    go_wp2_with fail
    refine hjo.mono ?_
    rintro e w4 ⟨jo, jcap, J, rs, rfl, hJ, hownj, _, hstsj, _, hb4⟩
    have hsm := same_true _ _ w4 mo ao n mcap cap ss ss es (HSL.out.2.up hb4) (HSL.out.1.up hb4) (Alike.refl _)
    have hb04 := bl_step hb03 hb4
    have HJ : Hid (w4.ownsRow w3.heap.size 31 4 (.slice jo J.length jcap) J.length (flat rs) ∧ Below w3.heap.size w3 w4) := ⟨hownj, hb4⟩
    have hJl : J.length ≤ 1000 := by
      have := nodup_len (ascV_nodup hJ.1) (fun x hx => ((hJ.2 x).1 hx).1)
      rw [tagl_len] at this
      have := HS.out.1.1.1
      omega
    have hs3 : w.heap.size ≤ w3.heap.size := hb03.size
    clear hjo hJ hownj hstsj hb4 hb03
    go_wp2_with fail
    refine hsm.mono ?_
    rintro e w5 ⟨rfl, hu5⟩
    have hb05 := bl_step hb04 hu5.bl
    have hown5 : w5.ownsRow w3.heap.size 31 4 (.slice jo J.length jcap) J.length (flat rs) := own_below HJ.out.1 hu5.bl
    have hb35 : Below w3.heap.size w3 w5 := bl_step HJ.out.2 hu5.bl
    clear hsm hu5 hb04 HJ
    rcases own_shape hown5 with ⟨hv, h0⟩ | ⟨g, cp, hv, hbg, hgs⟩
    · have hsm := same_true _ _ w5 mo ao n mcap cap ss ss es (HSL.out.2.up hb35) (HSL.out.1.up hb35) (Alike.refl _)
      rw [h0]
      clear hown5 hb35 HSL HS hv hJl
      go_wp2
      refine wp_loop_rounds 1 ?_
      rw [rounds_succ]
      go_wp2_with fail
      refine hsm.mono ?_
      rintro e w6 ⟨rfl, hu6⟩
      have hb06 := bl_step hb05 hu6.bl
      clear hsm hu6 hb05
      go_wp2
      go_ret
      exact ⟨rfl, hb06⟩
    · simp only [Value.slice.injEq] at hv
      obtain ⟨rfl, _, rfl⟩ := hv
      obtain ⟨hblk, _, _, _⟩ := Blk.ofOwn hown5
      have hrl : rs.length = J.length := by have := hown5.1; rw [flat_len] at this; omega
      have HC : Hid ((∀ j, 0 ≤ j → j < J.length → ∃ f, w5.cell? ⟨g, j * 4 + 2, none⟩ = some (.int .i64 f)) ∧ (∀ i, w5.frozen? ⟨g, i, none⟩ = false)) := by
        refine ⟨fun j _ hj => ?_, fun i => Blk.free hblk i⟩
        obtain ⟨x, hx⟩ : ∃ x, rs[j]? = some x := ⟨rs[j]'(by omega), List.getElem?_eq_getElem (by omega)⟩
        exact ⟨_, (Blk.cell hblk hx).2.2.1⟩
      clear hown5 hblk
      obtain ⟨jl, hjl⟩ : ∃ jl, J.length = jl := ⟨_, rfl⟩
      simp only [hjl] at *
      go_wp2_with fail
      go_loopw [5] (fun kv wr => ∃ k : Nat, k ≤ jl ∧ kv = .int .i64 (k : Nat) ∧ (∀ j, k ≤ j → j < jl → ∃ f, wr.cell? ⟨g, j * 4 + 2, none⟩ = some (.int .i64 f)) ∧ (∀ i, wr.frozen? ⟨g, i, none⟩ = false) ∧ w5.grownBy wr (some g)) (fun kv _ => jl - (intOf kv).toNat)
      case atStart => exact ⟨0, by omega, rfl, HC.out.1, HC.out.2, gr_refl _ _⟩
      case round =>
        clear HC
        obtain ⟨k, hk, rfl, hcs, hfz, hgr⟩ := hrel
        by_cases hlt : k < jl
        · have hltI : (k : Int) < (jl : Int) := by omega
          have hk0 : ¬ ((k : Int) < 0) := by omega
          obtain ⟨f, hf⟩ := hcs k (Nat.le_refl _) hlt
          have HCS : Hid (∀ j, k ≤ j → j < jl → ∃ f, wr.cell? ⟨g, j * 4 + 2, none⟩ = some (.int .i64 f)) := hcs
          have HN : Hid (∀ v, (∀ j, k + 1 ≤ j → j < jl → ∃ f, (wr.setCell ⟨g, k * 4 + 2, none⟩ v).cell? ⟨g, j * 4 + 2, none⟩ = some (.int .i64 f)) ∧ (∀ i, (wr.setCell ⟨g, k * 4 + 2, none⟩ v).frozen? ⟨g, i, none⟩ = false) ∧ w5.grownBy (wr.setCell ⟨g, k * 4 + 2, none⟩ v) (some g)) := fun v => by
            refine ⟨fun j h1 h2 => ?_, fun i => by rw [World.frozen?_setCell]; exact hfz i, gr_trans hgr ⟨rfl, rfl, rfl, by simp [World.setCell], fun i hi hne => Below.heap_setCell wr _ _ i (fun e => hne (by rw [e]))⟩⟩
            obtain ⟨f', hf'⟩ := HCS.out j (by omega) h2
            exact ⟨f', setCell_other' (by simp <;> omega) hf'⟩
          clear hcs hgr
          go_wp2
          go_roundw
          case rel => first | exact ⟨k + 1, by omega, by go_num, (HN.out _).1, (HN.out _).2.1, (HN.out _).2.2⟩ | ((repeat apply Exists.intro); exact ⟨⟨k + 1, by omega, by go_num, (HN.out _).1, (HN.out _).2.1, (HN.out _).2.2⟩, rfl⟩)
          case measure => simp [intOf]; omega
        · have hkn : k = jl := by omega
          have hltI : ¬ ((k : Int) < (jl : Int)) := by omega
          have kp : Kp (fun b => b < w3.heap.size) w3 wr := (Kp.below hb35 (fun b hb => hb)).trans (Kp.grown hgr (fun b hb => by omega))
          have hsm := same_true _ _ wr mo ao n mcap cap ss ss es (HSL.out.2.keep kp) (HSL.out.1.keep kp) (Alike.refl _)
          have hb06 : Below w.heap.size w wr := bl_grown hb05 hb05.size hgr (fun k hk => by cases hk; omega)
          clear hcs hfz hgr kp HSL HS hb05 hb35
          go_wp2_with fail
          refine hsm.mono ?_
          rintro e w7 ⟨rfl, hu7⟩
          have hb07 := bl_step hb06 hu7.bl
          clear hsm hu7 hb06
          go_wp2
          go_ret
          exact ⟨rfl, hb07⟩

set_option maxRecDepth 100000 in
theorem lifted (os : Os) (started : os.Started) (H : Type) (enc : TypeId × Value → H) :
    ReturnsInHanded {} Try.checked os 7 .any (Rows.cutKeepsSpec.pre6 enc Try.prog Try.f7 Rows.cutKeepsRow.domain false) (Rows.cutKeepsSpec.post enc Try.prog Try.f7 false true false false) := by
  refine returnsInHanded_of_change_sized (C := Try.checked) own started (by kernel_rfl) Try.func7
    (ChangeSpec.witness6 (enc := enc) (C := Try.checked) false ⟨#[], #[.slice none 0 0], []⟩ 7 (by kernel_rfl) (by kernel_rfl) (by kernel_rfl) (by kernel_rfl)) ?_
  intro W base args ds gs before hval0 hW hcnd hsz0 _
  have hsz : (DataW.weightsEach Try.prog (Try.f7.params.toList ++ Rows.cutKeepsSpec.plain.varTypes Try.prog) (ds ++ gs)).all (· ≤ reachBytes) = true := hsz0
  have hval : ∀ (j : Nat) t v, Try.f7.params[j]? = some t → args[j]? = some v → Value.okWide Try.prog W .any base t v := hval0
  have hW' := hW
  obtain ⟨p, q, hA0, hV, rfl, hfz, hnd⟩ := hW
  have hA : DataW.TrodAll enc Try.prog W 0 (fun _ => true) true Try.f7.params.toList args.toList ds p := hA0
  rw [Try.params7] at hA hval hsz
  obtain ⟨v0, vs0, d0, ds0, p0, q0, hargs0, rfl, rfl, h0, r0⟩ := trodAll_cons hA
  obtain ⟨rfl, rfl, rfl⟩ := trodAll_nil r0
  obtain rfl : args = #[v0] := by cases args; simp_all
  obtain ⟨rfl, rfl⟩ := trodVars_none hV
  obtain ⟨a0, len0, cap0, rfl⟩ := okWide_slice Try.underlying22 (hval 0 22 v0 rfl rfl)
  have k0 := h0
  have lt0 : ∀ x ∈ p0, x.block < W.heap.size := by obtain ⟨m, hm⟩ := k0; exact DataW.trod_lt m _ _ _ hm
  obtain ⟨xs0, ys0, hx0, ho0, hz0, hc0, hd0⟩ := open_states h0 hsz (j := 0) rfl rfl
  clear hA0 hval0 hsz hsz0
  refine (walk W a0 len0 cap0 xs0 ys0 hx0 ho0 hz0 hc0 hd0).mono fun e W' ⟨he, bel⟩ => ?_
  subst he
  exact ⟨_, rfl, _, _, _, [], _, [], hW', trodAll_mk1 (shut_bool Try.underlying4 _), (trodAll_cons_mk (Below.trod laidOut (by kernel_rfl) (of_decide_eq_true (by kernel_rfl)) k0 bel lt0) trodAll_mk0), rfl, bel.frame _, fun h => by cases h⟩

theorem over : Rows.cutKeepsRow.holds Try.pinned (OpenSpec.ofChange Rows.cutKeepsSpec) :=
  OpenClaim.holds_of_wide 7 Try.f7 rfl rfl rfl rfl rfl rfl rfl ⟨rfl, rfl, rfl, rfl, rfl⟩ rfl rfl rfl rfl rfl (by kernel_rfl) Try.func7 (by kernel_rfl)
    (of_decide_eq_true (by kernel_rfl)) (by unfold Func.isWrapper; first | (rw [if_pos (by decide +kernel)]; kernel_rfl) | (rw [if_neg (by decide +kernel)]; exact ⟨rfl, rfl⟩))
    (fun os started H enc _ => lifted os started H enc)

end Go.Proofs.Ytbdbdpgnilhcpaa.cutKeeps
namespace Go.Proofs.Ytbdbdpgnilhcpaa
theorem cutKeeps_holds : Rows.CutKeepsSaid := cutKeeps.over
#print axioms cutKeeps_holds
end Go.Proofs.Ytbdbdpgnilhcpaa
