/-
  TotalNil: a nil one has nothing. For every number, every list of bytes and every view; no condition but the form's reach.
-/
import Derived.Test.YtlaihgdfedalmaaGreatMix53
namespace Go.Proofs.YtlaihgdfedalmaaGreat.totalNil
open Go.ChangeShapes Go.WideShapes Go.ChangeAt Go.RowKit Go.Deep
set_option linter.unusedVariables false
set_option linter.unusedSimpArgs false

set_option maxRecDepth 20000 in
set_option maxHeartbeats 4000000 in
theorem walk (w : World) (f : Int) (_ : In f) (ao : Option Addr) (n cap : Nat) (xs : List UInt8) (hr : Cd.Row w ao n cap xs) (vn : Nat) (vp : Int) (vs : Nat) :
    Calls Tryz.prog 8 #[.int .i64 f, .slice ao n cap, .agg #[.int .u64 (vn : Nat), .int .i64 vp, .int .u16 (vs : Nat)]] w fun e w' => e = .returned (.bool true) ∧ Below w.heap.size w w' := by
  obtain ⟨w1, hw1⟩ : ∃ w1, w.alloc (.cells #[.int .u64 (vn : Nat), .int .i64 vp, .int .u16 (vs : Nat)] 36) = w1 := ⟨_, rfl⟩
  have HW1 : Hid (w.alloc (.cells #[.int .u64 (vn : Nat), .int .i64 vp, .int .u16 (vs : Nat)] 36) = w1) := hw1
  have u1 : Below w.heap.size w w1 := by rw [← hw1]; exact bl1 _ _
  have hB1 : w1.heap[w.heap.size]? = some (.cells #[.int .u64 (vn : Nat), .int .i64 vp, .int .u16 (vs : Nat)] 36 (0, 0)) := by rw [← hw1]; exact heap_alloc_new _ _
  have HB : Hid (Below w.heap.size w w1 ∧ w1.heap[w.heap.size]? = some (.cells #[.int .u64 (vn : Nat), .int .i64 vp, .int .u16 (vs : Nat)] 36 (0, 0)) ∧ w.heap.size < w1.heap.size) := ⟨u1, hB1, (Array.getElem?_eq_some_iff.1 hB1).1⟩
  have hnx := next_nil w1
  have htk := take_nil w1
  clear hw1 u1 hB1 hr
  go_enter Tryz.func8, Tryz.ntmps8
  go_upto_region 2 with fail
  rw [HW1.out]
  clear HW1
  go_wp2_with fail
  refine hnx.mono ?_
  rintro e w' ⟨rfl, rfl⟩
  clear hnx
  go_wp2_with fail
  refine htk.mono ?_
  rintro e w2 ⟨hp, u2⟩
  obtain rfl : e = .returned (.tuple #[.agg #[.int .i64 0, .slice none 0 0], .int .i64 6]) := hp
  have hB2 : (w2.alloc (.cells #[.int .i64 0, .slice none 0 0] 61)).heap[w2.heap.size]? = some (.cells #[.int .i64 0, .slice none 0 0] 61 (0, 0)) := heap_alloc_new _ _
  obtain ⟨w3, hw3⟩ : ∃ w3, (w2.alloc (.cells #[.int .i64 0, .slice none 0 0] 61)).setRow w2.heap.size #[.int .i64 0, .slice none 0 0] = w3 := ⟨_, rfl⟩
  have HW3 : Hid ((w2.alloc (.cells #[.int .i64 0, .slice none 0 0] 61)).setRow w2.heap.size #[.int .i64 0, .slice none 0 0] = w3) := hw3
  have u3 : Below w2.heap.size w2 w3 := by rw [← hw3]; exact bl_rowL (bl1 _ _) (Nat.le_refl _) _
  have HU3 : Hid (Below w'.heap.size w' w3) := bl_step u2 u3
  have haw := awake_any w3
  clear htk hw3 u2 u3
  go_wp2_with (refine wpList_store_row rfl 61 (.tmp 10) (.tmp 20) rfl w2.heap.size #[.int .i64 0, .slice none 0 0] rfl rfl 61 _ hB2 infoS61 rfl (by simp [Value.oneCell']) ?_; rw [HW3.out])
  clear hB2 HW3
  refine haw.mono ?_
  rintro e w4 ⟨rfl, u4⟩
  have hbc := bcast_nil w4 (.slice ao n cap)
  have hB4 : w4.heap[w.heap.size]? = some (.cells #[.int .u64 (vn : Nat), .int .i64 vp, .int .u16 (vs : Nat)] 36 (0, 0)) := ((bl_step HU3.out u4).block _ HB.out.2.2).trans HB.out.2.1
  have k0 := cell_of_heap hB4 0
  have k1 := cell_of_heap hB4 1
  have k2 := cell_of_heap hB4 2
  simp only [List.getElem?_toArray, List.getElem?_cons_zero, List.getElem?_cons_succ] at k0 k1 k2
  have hvw := view_nil w4 vn vp vs
  unfold vw at hvw
  have HU4 : Hid (Below w'.heap.size w' w4) := bl_step HU3.out u4
  clear haw u4 HU3 hB4
  go_wp2_with fail
  refine hbc.mono ?_
  rintro e w5 ⟨rfl, rfl⟩
  clear hbc
  go_wp2_with fail
  refine hvw.mono ?_
  rintro e w6 ⟨rfl, u6⟩
  have hse := sent_nil w6
  have hrc := recv_err w6 (.pointer none) f ao n cap 6 (by omega) (rd_nil w6 _ ao n cap)
  have HU6 : Hid (Below w'.heap.size w' w6) := bl_step HU4.out u6
  clear hvw u6 HU4 k0 k1 k2
  go_wp2_with fail
  refine hse.mono ?_
  rintro e w7 ⟨rfl, rfl⟩
  clear hse
  go_wp2_with fail
  refine hrc.mono ?_
  rintro e w8 ⟨rfl, u8⟩
  have hsf := safe_err w8 (.pointer none) f ao n cap 6 (by omega) (rd_nil w8 _ ao n cap)
  have HU8 : Hid (Below w'.heap.size w' w8) := bl_step HU6.out u8
  clear hrc u8 HU6
  go_wp2_with fail
  refine hsf.mono ?_
  rintro e w9 ⟨rfl, u9⟩
  have hpr := prim_nil w9
  have HU9 : Hid (Below w'.heap.size w' w9) := bl_step HU8.out u9
  clear hsf u9 HU8
  go_wp2_with fail
  refine hpr.mono ?_
  rintro e w10 ⟨rfl, k, hk⟩
  have u10 : Below w9.heap.size w9 w10 := by rw [hk]; exact ⟨rfl, rfl, rfl, Nat.le_refl _, fun _ _ => rfl⟩
  have HU10 : Hid (Below w'.heap.size w' w10) := bl_step HU9.out u10
  have hwt := waiting_nil w10
  have hsm := summary_nil w10
  clear hpr hk u10 HU9
  go_wp2_with fail
  refine hwt.mono ?_
  rintro e w11 ⟨rfl, rfl⟩
  clear hwt
  go_wp2_with fail
  refine hsm.mono ?_
  rintro e w12 ⟨rfl, u12⟩
  have hal := alike_zero w12
  have HU12 : Hid (Below w'.heap.size w' w12) := bl_step HU10.out u12
  clear hsm u12 HU10
  go_wp2_with fail
  refine hal.mono ?_
  rintro e w13 ⟨rfl, u13⟩
  have HF : Hid (Below w.heap.size w w13) := bl_step HB.out.1 (bl_step HU12.out u13)
  clear hal u13 HU12 HB
  go_wp2
  go_ret
  exact ⟨rfl, HF.out⟩
set_option maxRecDepth 100000 in
theorem lifted (os : Os) (started : os.Started) (H : Type) (enc : TypeId × Value → H) :
    ReturnsInHanded {} Tryz.checked os 8 .any (Rows.totalNilSpec.pre6 enc Tryz.prog Tryz.f8 Rows.totalNilRow.domain false) (Rows.totalNilSpec.post enc Tryz.prog Tryz.f8 false true false false) := by
  refine returnsInHanded_of_change_sized (C := Tryz.checked) own started (by kernel_rfl) Tryz.func8
    (ChangeSpec.witness6 (enc := enc) (C := Tryz.checked) false ⟨#[], #[.int .i64 0, .slice none 0 0, .agg #[.int .u64 0, .int .i64 0, .int .u16 0]], []⟩ 12 (by kernel_rfl) (by kernel_rfl) (by kernel_rfl) (by kernel_rfl)) ?_
  intro W base args ds gs before hval0 hW hcnd hsz0 _
  have hsz : (DataW.weightsEach Tryz.prog (Tryz.f8.params.toList ++ Rows.totalNilSpec.plain.varTypes Tryz.prog) (ds ++ gs)).all (· ≤ reachBytes) = true := hsz0
  have hval : ∀ (j : Nat) t v, Tryz.f8.params[j]? = some t → args[j]? = some v → Value.okWide Tryz.prog W .any base t v := hval0
  have hW' := hW
  obtain ⟨p, q, hA0, hV, rfl, hfz, hnd⟩ := hW
  have hA : DataW.TrodAll enc Tryz.prog W 0 (fun _ => true) true Tryz.f8.params.toList args.toList ds p := hA0
  rw [Tryz.params8] at hA hval hsz
  obtain ⟨v0, vs0, d0, ds0, p0, q0, hargs0, rfl, rfl, h0, r0⟩ := trodAll_cons hA
  obtain ⟨v1, vs1, d1, ds1, p1, q1, hargs1, rfl, rfl, h1, r1⟩ := trodAll_cons r0
  obtain ⟨v2, vs2, d2, ds2, p2, q2, hargs2, rfl, rfl, h2, r2⟩ := trodAll_cons r1
  obtain ⟨rfl, rfl, rfl⟩ := trodAll_nil r2
  obtain rfl : args = #[v0, v1, v2] := by cases args; simp_all
  obtain ⟨rfl, rfl⟩ := trodVars_none hV
  obtain ⟨a0, rfl, rfl, rfl, w0⟩ := open_int Tryz.underlying3 (hval 0 3 v0 rfl rfl) h0
  obtain ⟨a1, len1, cap1, rfl⟩ := okWide_slice Tryz.underlying37 (hval 1 37 v1 rfl rfl)
  have k1 := h1
  have lt1 : ∀ x ∈ p1, x.block < W.heap.size := by obtain ⟨m, hm⟩ := k1; exact DataW.trod_lt m _ _ _ hm
  obtain ⟨xs1, hx1⟩ := open_bytesT h1
  have k2 := h2
  have lt2 : ∀ x ∈ p2, x.block < W.heap.size := by obtain ⟨m, hm⟩ := k2; exact DataW.trod_lt m _ _ _ hm
  obtain ⟨n2, q2, s2, hn2, hq2, hs2, rfl⟩ := open_view (hval 2 36 v2 rfl rfl) h2
  clear hA0 hval0 hsz hsz0
  refine (walk W a0 (in_of_wf w0) a1 len1 cap1 xs1 hx1 n2 q2 s2).mono fun e W' ⟨he, bel⟩ => ?_
  subst he
  exact ⟨_, rfl, _, _, _, [], _, [], hW', trodAll_mk1 (shut_bool Tryz.underlying4 _), (trodAll_cons_mk (shut_int Tryz.underlying3 w0) (trodAll_cons_mk (Below.trod laidOut (by kernel_rfl) (of_decide_eq_true (by kernel_rfl)) k1 bel lt1) (trodAll_cons_mk (Below.trod laidOut (by kernel_rfl) (of_decide_eq_true (by kernel_rfl)) k2 bel lt2) trodAll_mk0))), rfl, bel.frame _, fun h => by cases h⟩

theorem over : Rows.totalNilRow.holds Tryz.pinned (OpenSpec.ofChange Rows.totalNilSpec) :=
  OpenClaim.holds_of_wide 8 Tryz.f8 rfl rfl rfl rfl rfl rfl rfl ⟨rfl, rfl, rfl, rfl, rfl⟩ rfl rfl rfl rfl rfl (by kernel_rfl) Tryz.func8 (by kernel_rfl)
    (of_decide_eq_true (by kernel_rfl)) (by unfold Func.isWrapper; first | (rw [if_pos (by decide +kernel)]; kernel_rfl) | (rw [if_neg (by decide +kernel)]; exact ⟨rfl, rfl⟩))
    (fun os started H enc _ => lifted os started H enc)

end Go.Proofs.YtlaihgdfedalmaaGreat.totalNil
namespace Go.Proofs.YtlaihgdfedalmaaGreat
theorem totalNil_holds : Rows.TotalNilSaid := totalNil.over
#print axioms totalNil_holds
end Go.Proofs.YtlaihgdfedalmaaGreat
