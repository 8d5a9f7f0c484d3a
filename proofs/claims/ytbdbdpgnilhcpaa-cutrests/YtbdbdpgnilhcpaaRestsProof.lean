/-
  Proved: for every list of states, every view's number and every number of messages had, CutRests(l, v, had) returns true: what cut.Rest answers of the document's joined states is what the document asks, the error too; the document's example holds. No condition.
-/
import Derived.Test.YtbdbdpgnilhcpaaRows
import Derived.Test.YtbdbdpgnilhcpaaSLaw
namespace Go.Proofs.Ytbdbdpgnilhcpaa.cutRests
open Go.ChangeShapes Go.WideShapes Go.ChangeAt Go.RowKit Go.Joins
set_option linter.unusedVariables false

set_option maxRecDepth 10000 in
set_option maxHeartbeats 2000000 in
theorem walk (w : World) (ao : Option Addr) (n cap : Nat) (ss : List Sx) (es : List (List Di)) (h : Sts (fun _ => True) w ao n ss es) (hg : ∀ x ∈ ss, Good x) (hz : ao = none → n = 0 ∧ cap = 0) (hc : n ≤ cap) (hd : cap ≤ 9223372036854775807) (vn : Nat) (hvn : vn < 18446744073709551616) (vp : Int) (hvp : In vp) (had : Int) (hh : In had) :
    Calls Try.prog 4 #[.slice ao n cap, .agg #[.int .u64 (vn : Nat), .int .i64 vp], .int .i64 had] w fun e w' => e = .returned (.bool true) ∧ Below w.heap.size w w' := by
  obtain ⟨w0, hw0⟩ : ∃ w0, w.alloc (.cells #[.int .u64 (vn : Nat), .int .i64 vp] 28) = w0 := ⟨_, rfl⟩
  have k0 : w0.cell? ⟨w.heap.size, 0, none⟩ = some (.int .u64 (vn : Nat)) := by rw [← hw0]; exact cell_box w _ 28 0 _ rfl
  have k1 : w0.cell? ⟨w.heap.size, 1, none⟩ = some (.int .i64 vp) := by rw [← hw0]; exact cell_box w _ 28 1 _ rfl
  have hb0 : Below w.heap.size w w0 := by rw [← hw0]; exact bl1 _ _
  have HS : Hid (Sts (fun _ => True) w ao n ss es ∧ ∀ x ∈ ss, Good x) := ⟨h, hg⟩
  have cl : ∀ {a b : World} {ad : Addr} {v : Value}, Below a.heap.size a b → a.cell? ad = some v → b.cell? ad = some v := fun {a b ad v} u hc => Kp.up (p := fun _ => True) u _ _ trivial hc
  have CL : Hid _ := @cl
  clear h hg hz hc cl hvp
  go_enter Try.func4, Try.ntmps4
  go_wp2_with fail
  (try simp only [hw0])
  refine (awake_any _).mono ?_
  rintro e w1 ⟨rfl, hb1⟩
  have hb01 := bl_step hb0 hb1
  have hri := right_any (fun _ => True) w1 ao n cap ss (HS.out.1.1.up hb01)
  obtain ⟨rb, HRB⟩ : ∃ rb, Hid (rightB ss n = rb) := ⟨_, rfl⟩
  rw [HRB.out] at hri
  have k0 := CL.out hb1 k0
  have k1 := CL.out hb1 k1
  clear hb0 hb1 hw0
  go_wp2_with fail
  refine hri.mono ?_
  rintro e w2 ⟨rfl, hu2⟩
  have hb02 := bl_step hb01 hu2.bl
  have k0 := CL.out hu2.bl k0
  have k1 := CL.out hu2.bl k1
  clear hri hb01 hu2
  cases rb with
  | false =>
    clear HRB HS
    go_wp2_with fail
    refine (awake_any _).mono ?_
    rintro e w3 ⟨rfl, hb3⟩
    have hb03 := bl_step hb02 hb3
    clear hb02 hb3 k0 k1
    go_wp2
    go_ret
    exact ⟨rfl, hb03⟩
  | true =>
    obtain ⟨hfl, h40⟩ := right_true HRB.out
    have hok := HS.out.1.ok hfl
    have hrj := refJoin_any (fun _ => True) w2 ao n cap ss (HS.out.1.1.up hb02) hok (by omega)
    clear HRB hfl
    go_wp2_with fail
    refine hrj.mono ?_
    rintro e w3 ⟨v, J, rfl, hJ, hown, hb3⟩
    obtain ⟨jo, jcap, rfl, hsr, _⟩ := SR.own hown
    have hb03 := bl_step hb02 hb3
    rw [show fl J = flat (J.map (·.1)) from rfl] at hown
    have hJm : ∀ t ∈ J, t ∈ tagl ss := fun t ht => ((hJ.2 t).1 ht).1
    have hsts := (join_sts HS.out.1 (Kp.up hb03) hJm hsr).imp (q := fun _ => True) (fun _ _ _ => trivial)
    have hokJ : ∀ x ∈ J.map (·.1), OkS x := fun x hx => hok x (join_mem hJm x hx)
    have hcpJ : ∀ x ∈ J.map (·.1), x.2.2.2.2.1 ≤ x.2.2.2.2.2 ∧ x.2.2.2.2.2 ≤ 9223372036854775807 := fun x hx => (HS.out.2 x (join_mem hJm x hx)).2.2.2
    have HSJ : Hid (Sts (fun _ => True) w3 jo J.length (J.map (·.1)) (esAt es J) ∧ (∀ x ∈ J.map (·.1), OkS x) ∧ ∀ x ∈ J.map (·.1), x.2.2.2.2.1 ≤ x.2.2.2.2.2 ∧ x.2.2.2.2.2 ≤ 9223372036854775807) := ⟨hsts, hokJ, hcpJ⟩
    have k0 := CL.out hb3 k0
    have k1 := CL.out hb3 k1
    have hra := rest_any (fun _ => True) w3 jo J.length jcap _ _ hsts hokJ hcpJ vn vp had hh
    unfold vid at hra
    obtain ⟨r, hr⟩ : ∃ r, restD (J.map (·.1)) (esAt es J) vn vp had = r := ⟨_, rfl⟩
    rw [hr] at hra
    clear hrj hJ hown hb3 hb02 hsr hok hsts hokJ hcpJ hJm
    go_wp2_with fail
    refine hra.mono ?_
    rintro e w4 ⟨ao1, n1, cap1, rfl, hits1, hb4⟩
    have k0 := CL.out hb4 k0
    have k1 := CL.out hb4 k1
    have hrb := refRest_any (fun _ => True) w4 jo J.length jcap _ _ (HSJ.out.1.up hb4) HSJ.out.2.1 HSJ.out.2.2 vn vp had hh
    unfold vid at hrb
    rw [hr] at hrb
    have hb04 := bl_step hb03 hb4
    have HI1 : Hid (Its (fun _ => True) w4 ao1 n1 r.2) := hits1
    clear hra hb4 hb03 hits1 HSJ hr
    go_wp2_with fail
    refine hrb.mono ?_
    rintro e w5 ⟨ao2, n2, cap2, rfl, hits2, hb5⟩
    have hn : n2 = n1 := by rw [← hits2.len, ← HI1.out.len]
    subst hn
    have hit := items_true (fun _ => True) (fun _ => True) w5 ao1 ao2 n2 cap1 cap2 r.2 (HI1.out.keep (Kp.up hb5)) hits2
    have hb05 := bl_step hb04 hb5
    have hrr : (r.1 == r.1) = true := by simp
    clear hrb hb5 hb04 hits2 HI1 k0 k1
    go_wp2_with fail
    refine hit.mono ?_
    rintro e w6 ⟨rfl, hu6⟩
    have hb06 := bl_step hb05 hu6.bl
    clear hit hu6 hb05
    go_wp2
    go_ret
    exact ⟨rfl, hb06⟩

set_option maxRecDepth 100000 in
theorem lifted (os : Os) (started : os.Started) (H : Type) (enc : TypeId × Value → H) :
    ReturnsInHanded {} Try.checked os 4 .any (Rows.cutRestsSpec.pre6 enc Try.prog Try.f4 Rows.cutRestsRow.domain false) (Rows.cutRestsSpec.post enc Try.prog Try.f4 false true false false) := by
  refine returnsInHanded_of_change_sized (C := Try.checked) own started (by kernel_rfl) Try.func4
    (ChangeSpec.witness6 (enc := enc) (C := Try.checked) false ⟨#[], #[.slice none 0 0, .agg #[.int .u64 0, .int .i64 0], .int .i64 0], []⟩ 4 (by kernel_rfl) (by kernel_rfl) (by kernel_rfl) (by kernel_rfl)) ?_
  intro W base args ds gs before hval0 hW hcnd hsz0 _
  have hsz : (DataW.weightsEach Try.prog (Try.f4.params.toList ++ Rows.cutRestsSpec.plain.varTypes Try.prog) (ds ++ gs)).all (· ≤ reachBytes) = true := hsz0
  have hval : ∀ (j : Nat) t v, Try.f4.params[j]? = some t → args[j]? = some v → Value.okWide Try.prog W .any base t v := hval0
  have hW' := hW
  obtain ⟨p, q, hA0, hV, rfl, hfz, hnd⟩ := hW
  have hA : DataW.TrodAll enc Try.prog W 0 (fun _ => true) true Try.f4.params.toList args.toList ds p := hA0
  rw [Try.params4] at hA hval hsz
  obtain ⟨v0, vs0, d0, ds0, p0, q0, hargs0, rfl, rfl, h0, r0⟩ := trodAll_cons hA
  obtain ⟨v1, vs1, d1, ds1, p1, q1, hargs1, rfl, rfl, h1, r1⟩ := trodAll_cons r0
  obtain ⟨v2, vs2, d2, ds2, p2, q2, hargs2, rfl, rfl, h2, r2⟩ := trodAll_cons r1
  obtain ⟨rfl, rfl, rfl⟩ := trodAll_nil r2
  obtain rfl : args = #[v0, v1, v2] := by cases args; simp_all
  obtain ⟨rfl, rfl⟩ := trodVars_none hV
  obtain ⟨a0, len0, cap0, rfl⟩ := okWide_slice Try.underlying22 (hval 0 22 v0 rfl rfl)
  have k0 := h0
  have lt0 : ∀ x ∈ p0, x.block < W.heap.size := by obtain ⟨m, hm⟩ := k0; exact DataW.trod_lt m _ _ _ hm
  obtain ⟨xs0, ys0, hx0, ho0, hz0, hc0, hd0⟩ := open_states h0 hsz (j := 0) rfl rfl
  obtain ⟨c1a, c1b, y1a, y1b, m1, rfl, rfl, rfl, hy1a, hy1b⟩ := open_agg2 Try.underlying28 (by kernel_rfl) cells28 (hval 1 28 v1 rfl rfl) h1
  obtain ⟨n1', e1a, rfl, w1a⟩ := DataW.trod_int Try.underlying26 hy1a
  obtain ⟨q1, e1b, rfl, w1b⟩ := DataW.trod_int Try.underlying3 hy1b
  simp at e1a e1b
  subst e1a e1b
  obtain ⟨a2, rfl, rfl, rfl, w2⟩ := open_int Try.underlying3 (hval 2 3 v2 rfl rfl) h2
  clear hA0 hval0 hsz hsz0
  obtain ⟨n1, rfl, hn1⟩ := u64_of_wf w1a
  refine (walk W a0 len0 cap0 xs0 ys0 hx0 ho0 hz0 hc0 hd0 n1 hn1 q1 (in_of_wf w1b) a2 (in_of_wf w2)).mono fun e W' ⟨he, bel⟩ => ?_
  subst he
  exact ⟨_, rfl, _, _, _, [], _, [], hW', trodAll_mk1 (shut_bool Try.underlying4 _), (trodAll_cons_mk (Below.trod laidOut (by kernel_rfl) (of_decide_eq_true (by kernel_rfl)) k0 bel lt0) (trodAll_cons_mk (shut_vid w1a w1b) (trodAll_cons_mk (shut_int Try.underlying3 w2) trodAll_mk0))), rfl, bel.frame _, fun h => by cases h⟩

theorem over : Rows.cutRestsRow.holds Try.pinned (OpenSpec.ofChange Rows.cutRestsSpec) :=
  OpenClaim.holds_of_wide 4 Try.f4 rfl rfl rfl rfl rfl rfl rfl ⟨rfl, rfl, rfl, rfl, rfl⟩ rfl rfl rfl rfl rfl (by kernel_rfl) Try.func4 (by kernel_rfl)
    (of_decide_eq_true (by kernel_rfl)) (by unfold Func.isWrapper; first | (rw [if_pos (by decide +kernel)]; kernel_rfl) | (rw [if_neg (by decide +kernel)]; exact ⟨rfl, rfl⟩))
    (fun os started H enc _ => lifted os started H enc)

end Go.Proofs.Ytbdbdpgnilhcpaa.cutRests
namespace Go.Proofs.Ytbdbdpgnilhcpaa
theorem cutRests_holds : Rows.CutRestsSaid := cutRests.over
#print axioms cutRests_holds
end Go.Proofs.Ytbdbdpgnilhcpaa
