/-
  Proved: for every list of states, every view's number and every number of messages had, CutNone(l, v, had) returns true: of no view nothing is lacking, of a view of which nobody told there is nothing to tell; the document's example holds. No condition.
-/
import Derived.Test.YtbdbdpgnilhcpaaRows
import Derived.Test.YtbdbdpgnilhcpaaSLaw
namespace Go.Proofs.Ytbdbdpgnilhcpaa.cutNone
open Go.ChangeShapes Go.WideShapes Go.ChangeAt Go.RowKit Go.Joins
set_option linter.unusedVariables false

/-- Who told of that view? -/
def told (ss : List Sx) (vn : Nat) (vp : Int) (k : Nat) : Bool := (ss.take k).any (fun x => decide (x.1 = vn ∧ x.2.1 = vp))
theorem told_step {ss : List Sx} {vn : Nat} {vp : Int} {k : Nat} {x : Sx} (h : ss[k]? = some x) : told ss vn vp (k + 1) = (told ss vn vp k || decide (x.1 = vn ∧ x.2.1 = vp)) := by
  unfold told
  rw [List.take_add_one, h]
  simp
theorem none_told {ss : List Sx} {J : List Tg} {es : List (List Di)} {vn : Nat} {vp had : Int} {n : Nat} (hn : ss.length ≤ n) (hJ : ∀ t ∈ J, t ∈ tagl ss) (ht : told ss vn vp n = false) (hv : vn ≠ 0) : restD (J.map (·.1)) es vn vp had = (6, []) := by
  unfold restD
  rw [if_neg hv, find_none]
  intro x hx
  have hin := join_mem hJ x hx
  unfold told at ht
  rw [List.take_of_length_le hn, List.any_eq_false] at ht
  have := ht x hin
  simpa using this

theorem make2 (w : World) : ∃ o, (Instr.makeSlice 29 (.int .i64 2) (.int .i64 2)).run Try.prog w = .ok (.slice (some ⟨w.heap.size, 0, none⟩) 2 2) (w.alloc o) := by
  obtain ⟨i0, hi0, hz0, hz1, hz2⟩ := info_parts infoI
  exact ⟨_, run_makeSlice (P := Try.prog) w 29 47 i0 (.agg #[.int .i64 0, .slice none 0 0]) und29 hi0 hz0 .i64 .i64 2 2 (by omega) (by omega) (by rw [hz1]; decide) (by rw [hz2]; decide) (by omega)⟩

set_option maxRecDepth 10000 in
set_option maxHeartbeats 2000000 in
theorem walk (w : World) (ao : Option Addr) (n cap : Nat) (ss : List Sx) (es : List (List Di)) (h : Sts (fun _ => True) w ao n ss es) (hg : ∀ x ∈ ss, Good x) (hz : ao = none → n = 0 ∧ cap = 0) (hc : n ≤ cap) (hd : cap ≤ 9223372036854775807) (vn : Nat) (hvn : vn < 18446744073709551616) (vp : Int) (hvp : In vp) (had : Int) (hh : In had) :
    Calls Try.prog 9 #[.slice ao n cap, .agg #[.int .u64 (vn : Nat), .int .i64 vp], .int .i64 had] w fun e w' => e = .returned (.bool true) ∧ Below w.heap.size w w' := by
  have hl := h.1.1
  obtain ⟨w0, hw0⟩ : ∃ w0, w.alloc (.cells #[.int .u64 (vn : Nat), .int .i64 vp] 28) = w0 := ⟨_, rfl⟩
  have k0 : w0.cell? ⟨w.heap.size, 0, none⟩ = some (.int .u64 (vn : Nat)) := by rw [← hw0]; exact cell_box w _ 28 0 _ rfl
  have k1 : w0.cell? ⟨w.heap.size, 1, none⟩ = some (.int .i64 vp) := by rw [← hw0]; exact cell_box w _ 28 1 _ rfl
  have hb0 : Below w.heap.size w w0 := by rw [← hw0]; exact bl1 _ _
  have HS : Hid (Sts (fun _ => True) w ao n ss es ∧ ∀ x ∈ ss, Good x) := ⟨h, hg⟩
  have cl : ∀ {a b : World} {ad : Addr} {v : Value}, Below a.heap.size a b → a.cell? ad = some v → b.cell? ad = some v := fun {a b ad v} u hc => Kp.up (p := fun _ => True) u _ _ trivial hc
  have CL : Hid _ := @cl
  clear h hg hz hc cl hvp
  go_enter Try.func9, Try.ntmps9
  go_wp2_with fail
  (try simp only [hw0])
  refine (awake_any _).mono ?_
  rintro e w1 ⟨rfl, hb1⟩
  have hb01 := bl_step hb0 hb1
  have hri := right_any (fun _ => True) w1 ao n cap ss (HS.out.1.1.up hb01)
  obtain ⟨rb, HRB⟩ : ∃ rb, Hid (rightB ss n = rb) := ⟨_, rfl⟩
  rw [HRB.out] at hri
  have k0 := CL.out hb1 k0
  have k1 := CL.out hb1 k1
  clear hb0 hb1 hw0
  go_wp2_with fail
  refine hri.mono ?_
  rintro e w2 ⟨rfl, hu2⟩
  have hb02 := bl_step hb01 hu2.bl
  have k0 := CL.out hu2.bl k0
  have k1 := CL.out hu2.bl k1
  clear hri hb01 hu2
  cases rb with
  | false =>
    clear HRB HS
    go_wp2_with fail
    refine (awake_any _).mono ?_
    rintro e w3 ⟨rfl, hb3⟩
    have hb03 := bl_step hb02 hb3
    clear hb02 hb3 k0 k1
    go_wp2
    go_ret
    exact ⟨rfl, hb03⟩
  | true =>
    obtain ⟨hfl, h40⟩ := right_true HRB.out
    have hok := HS.out.1.ok hfl
    have hrj := refJoin_any (fun _ => True) w2 ao n cap ss (HS.out.1.1.up hb02) hok (by omega)
    clear HRB hfl
    go_wp2_with fail
    refine hrj.mono ?_
    rintro e w3 ⟨v, J, rfl, hJ, hown, hb3⟩
    obtain ⟨jo, jcap, rfl, hsr, _⟩ := SR.own hown
    have hb03 := bl_step hb02 hb3
    have hJm : ∀ t ∈ J, t ∈ tagl ss := fun t ht => ((hJ.2 t).1 ht).1
    have hsts := (join_sts HS.out.1 (Kp.up hb03) hJm hsr).imp (q := fun _ => True) (fun _ _ _ => trivial)
    have hokJ : ∀ x ∈ J.map (·.1), OkS x := fun x hx => hok x (join_mem hJm x hx)
    have hcpJ : ∀ x ∈ J.map (·.1), x.2.2.2.2.1 ≤ x.2.2.2.2.2 ∧ x.2.2.2.2.2 ≤ 9223372036854775807 := fun x hx => (HS.out.2 x (join_mem hJm x hx)).2.2.2
    have HSJ : Hid (Sts (fun _ => True) w3 jo J.length (J.map (·.1)) (esAt es J) ∧ (∀ x ∈ J.map (·.1), OkS x) ∧ (∀ x ∈ J.map (·.1), x.2.2.2.2.1 ≤ x.2.2.2.2.2 ∧ x.2.2.2.2.2 ≤ 9223372036854775807) ∧ ∀ t ∈ J, t ∈ tagl ss) := ⟨hsts, hokJ, hcpJ, hJm⟩
    have k0 := CL.out hb3 k0
    have k1 := CL.out hb3 k1
    have hra := rest_any (fun _ => True) w3 jo J.length jcap _ _ hsts hokJ hcpJ 0 vp had hh
    unfold vid at hra
    have hr0 : restD (J.map (·.1)) (esAt es J) 0 vp had = (0, []) := by unfold restD; rw [if_pos rfl]
    rw [hr0] at hra
    clear hrj hJ hown hb3 hb02 hsr hok hsts hokJ hcpJ hJm hr0
    go_wp2_with fail
    refine hra.mono ?_
    rintro e w4 ⟨ao1, n1, cap1, rfl, hits1, hb4⟩
    have hn1 : n1 = 0 := by have := hits1.len; simpa using this.symm
    subst hn1
    have k0 := CL.out hb4 k0
    have k1 := CL.out hb4 k1
    have hb04 := bl_step hb03 hb4
    have HSJ4 : Hid (Sts (fun _ => True) w4 jo J.length (J.map (·.1)) (esAt es J)) := HSJ.out.1.up hb4
    clear hra hb4 hb03 hits1
    go_wp2_with fail
    go_loopw [10, 11] (fun tv iv wr => ∃ k : Nat, k ≤ n ∧ iv = .int .i64 (k : Nat) ∧ tv = .bool (told ss vn vp k) ∧ Up w4 wr) (fun _ iv _ => n - (intOf iv).toNat)
    case atStart => exact ⟨0, by omega, rfl, rfl, Up.refl _⟩
    case round =>
      obtain ⟨k, hk, rfl, rfl, hu⟩ := hrel
      have k0r := hu.cell k0
      have k1r := hu.cell k1
      obtain ⟨tb, HTB⟩ : ∃ tb, Hid (told ss vn vp k = tb) := ⟨_, rfl⟩
      rw [HTB.out]
      by_cases hlt : k < n
      · have hltI : (k : Int) < (n : Int) := by omega
        have hk0 : ¬ ((k : Int) < 0) := by omega
        obtain ⟨y, hy⟩ : ∃ y, ss[k]? = some y := ⟨ss[k]'(by omega), List.getElem?_eq_getElem (by omega)⟩
        obtain ⟨b, off, hao, _, hc⟩ := (HS.out.1.1.up (bl_step hb04 hu.bl)).2.2.2 (by omega)
        subst hao
        obtain ⟨c0, c1, c2, c3⟩ := hc k y hy
        have heq := fun W => vid_equal y.1 y.2.1 vn vp W
        have hst := told_step (vn := vn) (vp := vp) hy
        rw [HTB.out] at hst
        obtain ⟨eb, heb⟩ : ∃ eb, decide (y.1 = vn ∧ y.2.1 = vp) = eb := ⟨_, rfl⟩
        rw [heb] at hst
        simp only [heb] at heq
        have HST : Hid (told ss vn vp (k + 1) = (tb || eb)) := hst
        clear hc hy hst heb HTB
        cases tb with
        | true =>
          go_wp2_with fail
          go_quiet (fail)
          have hun := hu.drewN nq
          go_wp2
          go_roundw
          case rel => first | exact ⟨k + 1, by omega, by go_num, by rw [HST.out]; rfl, hun⟩ | ((repeat apply Exists.intro); exact ⟨⟨k + 1, by omega, by go_num, by rw [HST.out]; rfl, hun⟩, rfl⟩)
          case measure => simp [intOf]; omega
        | false =>
          go_wp2_with fail
          go_quiet (fail)
          have hun := hu.drewN nq
          go_wp2
          go_roundw
          case rel => first | exact ⟨k + 1, by omega, by go_num, by rw [HST.out]; rfl, hun⟩ | ((repeat apply Exists.intro); exact ⟨⟨k + 1, by omega, by go_num, by rw [HST.out]; rfl, hun⟩, rfl⟩)
          case measure => simp [intOf]; omega
      · have hkn : k = n := by omega
        have hltI : ¬ ((k : Int) < (n : Int)) := by omega
        have hb05 := bl_step hb04 hu.bl
        have hra := rest_any (fun _ => True) wr jo J.length jcap _ _ (HSJ4.out.up hu.bl) HSJ.out.2.1 HSJ.out.2.2.1 vn vp had hh
        unfold vid at hra
        obtain ⟨r, HR⟩ : ∃ r, Hid (restD (J.map (·.1)) (esAt es J) vn vp had = r) := ⟨_, rfl⟩
        rw [HR.out] at hra
        have HN : Hid (tb = false → vn ≠ 0 → r = (6, [])) := fun h1 h2 => by
          rw [← HR.out]
          exact none_told (n := k) (by omega) HSJ.out.2.2.2 (by rw [HTB.out]; exact h1) h2
        clear HR HTB HSJ4 HSJ HS hu
        go_wp2_with fail
        refine hra.mono ?_
        rintro e w6 ⟨ao2, n2, cap2, rfl, hits2, hb6⟩
        have k0 := CL.out hb6 k0r
        have k1 := CL.out hb6 k1r
        have hb06 := bl_step hb05 hb6
        have hend := fun W a => end_any W (0, 0, 3, a, 2, 2) (by unfold OkS; simp)
        unfold sta at hend
        have he5 : ∀ a, endS (0, 0, 3, a, 2, 2) = 5 := fun a => rfl
        simp only [he5] at hend
        have HL2 : Hid (r.2.length = n2) := hits2.len
        obtain ⟨om, hmk⟩ := make2 w6
        clear hra hits2 hb6 hb05 k0r k1r he5
        cases tb with
        | true =>
          go_wp2_with fail
          refine (hend _ _).mono ?_
          rintro e w7 ⟨rfl, hu7⟩
          have hb07 := bl_step hb06 (bl_step (bl1 _ _) hu7.bl)
          clear hend hu7
          go_wp2
          go_ret
          exact ⟨rfl, hb07⟩
        | false =>
          by_cases hv0 : vn = 0
          · subst hv0
            go_wp2_with fail
            refine (hend _ _).mono ?_
            rintro e w7 ⟨rfl, hu7⟩
            have hb07 := bl_step hb06 (bl_step (bl1 _ _) hu7.bl)
            clear hend hu7
            go_wp2
            go_ret
            exact ⟨rfl, hb07⟩
          · have hr := HN.out rfl hv0
            subst hr
            have hn2 : n2 = 0 := by have := HL2.out; simpa using this.symm
            subst hn2
            have hv0I : ((vn : Int) == 0) = false := by simp; omega
            clear HN HL2
            go_wp2_with fail
            refine (hend _ _).mono ?_
            rintro e w7 ⟨rfl, hu7⟩
            have hb07 := bl_step hb06 (bl_step (bl1 _ _) hu7.bl)
            clear hend hu7
            go_wp2
            go_ret
            exact ⟨rfl, hb07⟩

set_option maxRecDepth 100000 in
theorem lifted (os : Os) (started : os.Started) (H : Type) (enc : TypeId × Value → H) :
    ReturnsInHanded {} Try.checked os 9 .any (Rows.cutNoneSpec.pre6 enc Try.prog Try.f9 Rows.cutNoneRow.domain false) (Rows.cutNoneSpec.post enc Try.prog Try.f9 false true false false) := by
  refine returnsInHanded_of_change_sized (C := Try.checked) own started (by kernel_rfl) Try.func9
    (ChangeSpec.witness6 (enc := enc) (C := Try.checked) false ⟨#[], #[.slice none 0 0, .agg #[.int .u64 0, .int .i64 0], .int .i64 0], []⟩ 9 (by kernel_rfl) (by kernel_rfl) (by kernel_rfl) (by kernel_rfl)) ?_
  intro W base args ds gs before hval0 hW hcnd hsz0 _
  have hsz : (DataW.weightsEach Try.prog (Try.f9.params.toList ++ Rows.cutNoneSpec.plain.varTypes Try.prog) (ds ++ gs)).all (· ≤ reachBytes) = true := hsz0
  have hval : ∀ (j : Nat) t v, Try.f9.params[j]? = some t → args[j]? = some v → Value.okWide Try.prog W .any base t v := hval0
  have hW' := hW
  obtain ⟨p, q, hA0, hV, rfl, hfz, hnd⟩ := hW
  have hA : DataW.TrodAll enc Try.prog W 0 (fun _ => true) true Try.f9.params.toList args.toList ds p := hA0
  rw [Try.params9] at hA hval hsz
  obtain ⟨v0, vs0, d0, ds0, p0, q0, hargs0, rfl, rfl, h0, r0⟩ := trodAll_cons hA
  obtain ⟨v1, vs1, d1, ds1, p1, q1, hargs1, rfl, rfl, h1, r1⟩ := trodAll_cons r0
  obtain ⟨v2, vs2, d2, ds2, p2, q2, hargs2, rfl, rfl, h2, r2⟩ := trodAll_cons r1
  obtain ⟨rfl, rfl, rfl⟩ := trodAll_nil r2
  obtain rfl : args = #[v0, v1, v2] := by cases args; simp_all
  obtain ⟨rfl, rfl⟩ := trodVars_none hV
  obtain ⟨a0, len0, cap0, rfl⟩ := okWide_slice Try.underlying22 (hval 0 22 v0 rfl rfl)
  have k0 := h0
  have lt0 : ∀ x ∈ p0, x.block < W.heap.size := by obtain ⟨m, hm⟩ := k0; exact DataW.trod_lt m _ _ _ hm
  obtain ⟨xs0, ys0, hx0, ho0, hz0, hc0, hd0⟩ := open_states h0 hsz (j := 0) rfl rfl
  obtain ⟨c1a, c1b, y1a, y1b, m1, rfl, rfl, rfl, hy1a, hy1b⟩ := open_agg2 Try.underlying28 (by kernel_rfl) cells28 (hval 1 28 v1 rfl rfl) h1
  obtain ⟨n1', e1a, rfl, w1a⟩ := DataW.trod_int Try.underlying26 hy1a
  obtain ⟨q1, e1b, rfl, w1b⟩ := DataW.trod_int Try.underlying3 hy1b
  simp at e1a e1b
  subst e1a e1b
  obtain ⟨a2, rfl, rfl, rfl, w2⟩ := open_int Try.underlying3 (hval 2 3 v2 rfl rfl) h2
  clear hA0 hval0 hsz hsz0
  obtain ⟨n1, rfl, hn1⟩ := u64_of_wf w1a
  refine (walk W a0 len0 cap0 xs0 ys0 hx0 ho0 hz0 hc0 hd0 n1 hn1 q1 (in_of_wf w1b) a2 (in_of_wf w2)).mono fun e W' ⟨he, bel⟩ => ?_
  subst he
  exact ⟨_, rfl, _, _, _, [], _, [], hW', trodAll_mk1 (shut_bool Try.underlying4 _), (trodAll_cons_mk (Below.trod laidOut (by kernel_rfl) (of_decide_eq_true (by kernel_rfl)) k0 bel lt0) (trodAll_cons_mk (shut_vid w1a w1b) (trodAll_cons_mk (shut_int Try.underlying3 w2) trodAll_mk0))), rfl, bel.frame _, fun h => by cases h⟩

theorem over : Rows.cutNoneRow.holds Try.pinned (OpenSpec.ofChange Rows.cutNoneSpec) :=
  OpenClaim.holds_of_wide 9 Try.f9 rfl rfl rfl rfl rfl rfl rfl ⟨rfl, rfl, rfl, rfl, rfl⟩ rfl rfl rfl rfl rfl (by kernel_rfl) Try.func9 (by kernel_rfl)
    (of_decide_eq_true (by kernel_rfl)) (by unfold Func.isWrapper; first | (rw [if_pos (by decide +kernel)]; kernel_rfl) | (rw [if_neg (by decide +kernel)]; exact ⟨rfl, rfl⟩))
    (fun os started H enc _ => lifted os started H enc)

end Go.Proofs.Ytbdbdpgnilhcpaa.cutNone
namespace Go.Proofs.Ytbdbdpgnilhcpaa
theorem cutNone_holds : Rows.CutNoneSaid := cutNone.over
#print axioms cutNone_holds
end Go.Proofs.Ytbdbdpgnilhcpaa
