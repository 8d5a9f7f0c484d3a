/-
  Proved: for every number n, FrameLong(n) returns true: a frame that would be too long is refused, one that is just not too long is not, and too many bytes are no frame; the document's example holds. No condition.
-/
import Derived.Test.YtfemjbaadnjanaaRows
import Derived.Test.YtfemjbaadnjanaaFAwake
import Derived.Test.YtfemjbaadnjanaaFOne
import Derived.Test.YtfemjbaadnjanaaFArgs0
namespace Go.Proofs.Ytfemjbaadnjanaa.frameLong
open Go.ChangeShapes Go.WideShapes Go.ChangeAt Go.RowKit
set_option linter.unusedVariables false
set_option linter.unusedSimpArgs false

set_option maxRecDepth 20000 in
set_option maxHeartbeats 2000000 in
theorem walk (w : World) (n : Nat) (hn : n < 65536) : Calls Try.prog 6 #[.int .u16 (n : Nat)] w fun e w' => e = .returned (.bool true) ∧ Below w.heap.size w w' := by
  obtain ⟨K, hK⟩ : ∃ K : Nat, K = 1048546 + n % 60 := ⟨_, rfl⟩
  have hK1 : 1048546 ≤ K := by omega
  have hK2 : K ≤ 1048605 := by omega
  have hm1 := make_bytes K (by omega)
  obtain ⟨M, mc, hM, hm2'⟩ := make_long
  have hKI : (1048546 : Int) + (n : Int) % 60 = (K : Int) := by omega
  clear hK
  go_enter Try.func6, Try.ntmps6
  go_wp2_with fail
  refine (awake_any _).mono ?_
  rintro e w1 ⟨rfl, hb1⟩
  obtain ⟨wa, hwa⟩ : ∃ wa, w1.alloc (.cells (madeCells #[.int .u8 0] K) 5) = wa := ⟨_, rfl⟩
  obtain ⟨wb, hwb⟩ : ∃ wb, wa.alloc (.cells #[.slice (some ⟨w1.heap.size, 0, none⟩) K K] 33) = wb := ⟨_, rfl⟩
  obtain ⟨wc, hwc⟩ : ∃ wc, wb.alloc (.cells #[.int .u8 6, .int .i64 0, .int .u64 1, .int .i64 0, .int .u16 0, .int .u64 0, .int .i64 0, .int .u64 0, .int .i64 0, .slice none 0 0, .int .u64 0, .slice (some ⟨w1.heap.size + 1, 0, none⟩) 1 1, .slice none 0 0, .int .u64 0, .int .u64 0] 30) = wc := ⟨_, rfl⟩
  have hsa : wa.heap.size = w1.heap.size + 1 := by rw [← hwa]; simp
  have hsb : wb.heap.size = w1.heap.size + 2 := by rw [← hwb]; simp; omega
  have hba : Below w1.heap.size w1 wa := by rw [← hwa]; exact bl1 _ _
  have hbb : Below wa.heap.size wa wb := by rw [← hwb]; exact bl1 _ _
  have hbc : Below wb.heap.size wb wc := by rw [← hwc]; exact bl1 _ _
  have hga : wa.heap[w1.heap.size]? = some (.cells (madeCells #[.int .u8 0] K) 5 (0, 0)) := by rw [← hwa]; exact heap_alloc_new _ _
  have hgb : wb.heap[w1.heap.size + 1]? = some (.cells #[.slice (some ⟨w1.heap.size, 0, none⟩) K K] 33 (0, 0)) := by rw [← hwb, ← hsa]; exact heap_alloc_new _ _
  have hrx := (rx_zeros hga (by omega)).up (bl_step hbb (by exact hbc))
  have hms := msx_one (x := (some ⟨w1.heap.size, 0, none⟩, K, K)) ((hbc.block _ (by omega)).trans hgb) hrx
  have hin : FIn (fun _ => True) wc (one (List.replicate K 0)) ⟨none, 0, some ⟨w1.heap.size + 1, 0, none⟩, 1, none, 0⟩ := ⟨SsX.nil _ _, hms, ItsX.nil _ _⟩
  have henc : Calls Try.prog 12 #[.agg #[.int .u8 6, .int .i64 0, .int .u64 1, .int .i64 0, .int .u16 0, .int .u64 0, .int .i64 0, .int .u64 0, .int .i64 0, .slice none 0 0, .int .u64 0, .slice (some ⟨w1.heap.size + 1, 0, none⟩) 1 1, .slice none 0 0, .int .u64 0, .int .u64 0]] wc fun e w' => EncAns wc w' (one (List.replicate K 0)) e ∧ Below wc.heap.size wc w' :=
    encodeF_any (fun _ => True) wc (one (List.replicate K 0)) ⟨none, 0, some ⟨w1.heap.size + 1, 0, none⟩, 1, none, 0⟩ hin (one_ok (List.replicate K 0))
  have hb1c : Below w.heap.size w wc := bl_step (bl_step (bl_step hb1 hba) hbb) hbc
  have HWC : Hid (w1.alloc (.cells (madeCells #[.int .u8 0] K) 5) = wa ∧ wa.alloc (.cells #[.slice (some ⟨w1.heap.size, 0, none⟩) K K] 33) = wb ∧ wb.alloc (.cells #[.int .u8 6, .int .i64 0, .int .u64 1, .int .i64 0, .int .u16 0, .int .u64 0, .int .i64 0, .int .u64 0, .int .i64 0, .slice none 0 0, .int .u64 0, .slice (some ⟨w1.heap.size + 1, 0, none⟩) 1 1, .slice none 0 0, .int .u64 0, .int .u64 0] 30) = wc) := ⟨hwa, hwb, hwc⟩
  have HWL : Hid ((wire (one (List.replicate K 0))).length = 10 + K) := by
    show _ = _
    have := one_wire (List.replicate K 0) (by simp; omega) (by simp; omega)
    simpa using this
  clear hwa hwb hwc hsa hsb hba hbb hbc hga hgb hrx hms hin hb1
  go_wp2_with fail
  rw [HWC.out.1, HWC.out.2.1, HWC.out.2.2]
  refine henc.mono ?_
  rintro e w2 ⟨hans, hb2⟩
  have hb02 := bl_step hb1c hb2
  unfold EncAns at hans
  rw [one_right, if_neg (by simp), HWL.out] at hans
  have hdl := fun W => decode_long W (some ⟨w2.heap.size, 0, none⟩) M M hM
  clear henc hb1c hb2 HWC hm1 hM
  by_cases hl : 1048576 < 10 + K + 4
  · rw [if_pos hl] at hans
    subst hans
    have hlI : (1048576 : Int) < 10 + (K : Int) + 4 := by omega
    clear hl HWL
    go_wp2_with fail
    refine (hdl _).mono ?_
    rintro e w3 ⟨rfl, hb3⟩
    have hb03 := bl_step (bl_step hb02 (bl1 _ _)) hb3
    clear hdl hb3 hb02 hm2'
    go_wp2
    go_ret
    exact ⟨rfl, bl_step hb03 (bl1 _ _)⟩
  · rw [if_neg hl] at hans
    obtain ⟨v, rfl, hown⟩ := hans
    obtain ⟨ao, cap, rfl, _, _⟩ := Cd.owns_row hown
    have hlI : ¬ (1048576 : Int) < 10 + (K : Int) + 4 := by omega
    have hl2 : 10 + K + 4 = 14 + K := by omega
    rw [hl2]
    clear hl HWL hown hl2
    go_wp2_with fail
    refine (hdl _).mono ?_
    rintro e w3 ⟨rfl, hb3⟩
    have hb03 := bl_step (bl_step hb02 (bl1 _ _)) hb3
    clear hdl hb3 hb02 hm2'
    go_wp2
    go_ret
    refine ⟨ret_bool ?_, bl_step hb03 (bl1 _ _)⟩
    simp
    omega
set_option maxRecDepth 100000 in
theorem lifted (os : Os) (started : os.Started) (H : Type) (enc : TypeId × Value → H) :
    ReturnsInHanded {} Try.checked os 6 .any (Rows.frameLongSpec.pre6 enc Try.prog Try.f6 Rows.frameLongRow.domain false) (Rows.frameLongSpec.post enc Try.prog Try.f6 false true false false) := by
  refine returnsInHanded_of_change (C := Try.checked) own started (by kernel_rfl) Try.func6
    (ChangeSpec.witness6 (enc := enc) (C := Try.checked) false ⟨#[], #[.int .u16 0], []⟩ 6 (by kernel_rfl) (by kernel_rfl) (by kernel_rfl) (by kernel_rfl)) ?_
  intro W base args ds gs before hval0 hW hcnd _
  have hval : ∀ (j : Nat) t v, Try.f6.params[j]? = some t → args[j]? = some v → Value.okWide Try.prog W .any base t v := hval0
  have hW' := hW
  obtain ⟨p, q, hA0, hV, rfl, hfz, hnd⟩ := hW
  have hA : DataW.TrodAll enc Try.prog W 0 (fun _ => true) true Try.f6.params.toList args.toList ds p := hA0
  rw [Try.params6] at hA hval
  obtain ⟨v0, vs0, d0, ds0, p0, q0, hargs0, rfl, rfl, h0, r0⟩ := trodAll_cons hA
  obtain ⟨rfl, rfl, rfl⟩ := trodAll_nil r0
  obtain rfl : args = #[v0] := by cases args; simp_all
  obtain ⟨rfl, rfl⟩ := trodVars_none hV
  obtain ⟨a0, rfl, rfl, rfl, w0⟩ := open_int Try.underlying25 (hval 0 25 v0 rfl rfl) h0
  clear hA0 hval0
  obtain ⟨n0, rfl, hn0⟩ := u16_of_wf w0
  refine (walk W n0 hn0).mono fun e W' ⟨he, bel⟩ => ?_
  subst he
  exact ⟨_, rfl, _, _, _, [], _, [], hW', trodAll_mk1 (shut_bool Try.underlying4 _), (trodAll_cons_mk (shut_int Try.underlying25 w0) trodAll_mk0), rfl, bel.frame _, fun h => by cases h⟩

theorem over : Rows.frameLongRow.holds Try.pinned (OpenSpec.ofChange Rows.frameLongSpec) :=
  OpenClaim.holds_of_wide 6 Try.f6 rfl rfl rfl rfl rfl rfl rfl ⟨rfl, rfl, rfl, rfl, rfl⟩ rfl rfl rfl rfl rfl (by kernel_rfl) Try.func6 (by kernel_rfl)
    (of_decide_eq_true (by kernel_rfl)) (by unfold Func.isWrapper; first | (rw [if_pos (by decide +kernel)]; kernel_rfl) | (rw [if_neg (by decide +kernel)]; exact ⟨rfl, rfl⟩))
    (fun os started H enc _ => lifted os started H enc)

end Go.Proofs.Ytfemjbaadnjanaa.frameLong
namespace Go.Proofs.Ytfemjbaadnjanaa
theorem frameLong_holds : Rows.FrameLongSaid := frameLong.over
#print axioms frameLong_holds
end Go.Proofs.Ytfemjbaadnjanaa
