/-
  Proved: for every n and kind, FrameMany(n, kind) returns true: as many messages, items or states as may be are taken, and one more is not; the document's example holds. No condition.
-/
import Derived.Test.YtfemjbaadnjanaaRows
import Derived.Test.YtfemjbaadnjanaaFMany
import Derived.Test.YtfemjbaadnjanaaFArgs0
namespace Go.Proofs.Ytfemjbaadnjanaa.frameMany
open Go.ChangeShapes Go.WideShapes Go.ChangeAt Go.RowKit
set_option linter.unusedVariables false
set_option linter.unusedSimpArgs false

set_option maxRecDepth 20000 in
set_option maxHeartbeats 2000000 in
theorem walk (w : World) (n : Nat) (hn : n < 256) (q : Nat) (hq : q < 256) : Calls Try.prog 9 #[.int .u8 (n : Nat), .int .u8 (q : Nat)] w fun e w' => e = .returned (.bool true) ∧ Below w.heap.size w w' := by
  obtain ⟨K, hK⟩ : ∃ K : Nat, K = 4094 + n % 5 := ⟨_, rfl⟩
  have hK1 : 4094 ≤ K := by omega
  have hK2 : K ≤ 4098 := by omega
  have hm1 := make27 K (by omega)
  have hm2 := make28 K (by omega)
  have hm3 := make26 K (by omega)
  have hKI : (4094 : Int) + (n : Int) % 5 = (K : Int) := by omega
  clear hK
  have hq3 : q % 3 = 0 ∨ q % 3 = 1 ∨ q % 3 = 2 := by omega
  rcases hq3 with h3 | h3 | h3
  · have hqI : (q : Int) % 3 = 0 := by omega
    clear h3
    go_enter Try.func9, Try.ntmps9
    go_wp2_with fail
    refine (awake_any _).mono ?_
    rintro e w1 ⟨rfl, hb1⟩
    obtain ⟨wa, hwa⟩ : ∃ wa, w1.alloc (.cells (madeCells #[.slice none 0 0] K) 33) = wa := ⟨_, rfl⟩
    obtain ⟨wb, hwb⟩ : ∃ wb, wa.alloc (.cells #[.int .u8 6, .int .i64 0, .int .u64 1, .int .i64 0, .int .u16 0, .int .u64 0, .int .i64 0, .int .u64 0, .int .i64 0, .slice none 0 0, .int .u64 0, .slice (some ⟨w1.heap.size, 0, none⟩) K K, .slice none 0 0, .int .u64 0, .int .u64 0] 30) = wb := ⟨_, rfl⟩
    have hsa : wa.heap.size = w1.heap.size + 1 := by rw [← hwa]; simp
    have hsb : wb.heap.size = w1.heap.size + 2 := by rw [← hwb]; simp; omega
    have hba : Below w1.heap.size w1 wa := by rw [← hwa]; exact bl1 _ _
    have hbb : Below wa.heap.size wa wb := by rw [← hwb]; exact bl1 _ _
    have hga : wa.heap[w1.heap.size]? = some (.cells (madeCells #[.slice none 0 0] K) 33 (0, 0)) := by rw [← hwa]; exact heap_alloc_new _ _
    have hli := msx_made ((hbb.block _ (by omega)).trans hga) (by omega)
    have hbx : Below w.heap.size w wb := bl_step (bl_step hb1 hba) hbb
    have HWX : Hid (w1.alloc (.cells (madeCells #[.slice none 0 0] K) 33) = wa ∧ wa.alloc (.cells #[.int .u8 6, .int .i64 0, .int .u64 1, .int .i64 0, .int .u16 0, .int .u64 0, .int .i64 0, .int .u64 0, .int .i64 0, .slice none 0 0, .int .u64 0, .slice (some ⟨w1.heap.size, 0, none⟩) K K, .slice none 0 0, .int .u64 0, .int .u64 0] 30) = wb) := ⟨hwa, hwb⟩
    clear hwa hwb hsa hsb hba hbb hga hb1
    have hin : FIn (fun _ => True) wb (manyM K) ⟨none, 0, some ⟨w1.heap.size, 0, none⟩, K, none, 0⟩ := by
      refine ⟨SsX.nil _ _, ?_, ItsX.nil _ _⟩
      have e : (List.replicate K ([] : List UInt8)).length = K := List.length_replicate
      show MsX _ _ _ (List.replicate K _).length _
      rw [e]
      exact hli
    have hlr : (List.replicate K ([] : List UInt8)).length = K := List.length_replicate
    have henc : Calls Try.prog 12 #[.agg #[.int .u8 6, .int .i64 0, .int .u64 1, .int .i64 0, .int .u16 0, .int .u64 0, .int .i64 0, .int .u64 0, .int .i64 0, .slice none 0 0, .int .u64 0, .slice (some ⟨w1.heap.size, 0, none⟩) K K, .slice none 0 0, .int .u64 0, .int .u64 0]] wb fun e w' => EncAns wb w' (manyM K) e ∧ Below wb.heap.size wb w' := by
      have h0 := encodeF_any (fun _ => True) wb (manyM K) ⟨none, 0, some ⟨w1.heap.size, 0, none⟩, K, none, 0⟩ hin (manyM_ok K)
      unfold fval fcells manyM zeroF at h0
      simp only [hlr, List.length_nil] at h0
      exact h0
    clear hin hli
    go_wp2_with fail
    rw [HWX.out.1, HWX.out.2]
    refine henc.mono ?_
    rintro e w2 ⟨hans, hb2⟩
    have hb02 := bl_step hbx hb2
    unfold EncAns at hans
    clear henc hbx hb2 HWX hm1 hm2 hm3
    by_cases h4 : 4096 < K
    · rw [manyM_right, decide_eq_false (by omega), if_pos rfl] at hans
      subst hans
      go_wp2
      go_ret
      exact ⟨rfl, hb02⟩
    · have hw := manyM_wire K (by omega)
      rw [manyM_right, decide_eq_true (by omega), if_neg (by simp), if_neg (by omega)] at hans
      obtain ⟨v, rfl, hown⟩ := hans
      have hds := decF_seal 9223372036854775807 (manyM K) (by rw [manyM_right, decide_eq_true (by omega)]) (manyM_ok K) hw (by omega) (by omega)
      obtain ⟨ao, cap, rfl, hrow, _⟩ := Cd.owns_row hown
      have hdec := decodeF_any w2 ao _ cap _ hrow (by omega)
      have HDS : Hid (decF 9223372036854775807 (sealB (wire (manyM K))) = (0, manyM K)) := hds
      generalize (wire (manyM K)).length + 4 = pl at *
      clear hown hrow hds hw
      go_wp2_with fail
      refine hdec.mono ?_
      rintro e w3 ⟨hda, hb3⟩
      unfold DecAns at hda
      rw [HDS.out] at hda
      obtain ⟨a, rfl, _⟩ := hda
      have hb03 := bl_step hb02 hb3
      have hfv : fval (manyM K) a = .agg #[.int .u8 6, .int .i64 0, .int .u64 1, .int .i64 0, .int .u16 0, .int .u64 0, .int .i64 0, .int .u64 0, .int .i64 0, .slice a.so 0 a.sc, .int .u64 0, .slice a.mo K a.mc, .slice a.io 0 a.ic, .int .u64 0, .int .u64 0] := by
        unfold fval fcells manyM zeroF
        simp only [hlr, List.length_nil]
        rfl
      rw [hfv]
      clear hdec hb3 hb02 hfv HDS
      go_wp2
      go_ret
      exact ⟨ret_bool (by simp), bl_step hb03 (bl1 _ _)⟩
  · have hqI : (q : Int) % 3 = 1 := by omega
    clear h3
    go_enter Try.func9, Try.ntmps9
    go_wp2_with fail
    refine (awake_any _).mono ?_
    rintro e w1 ⟨rfl, hb1⟩
    obtain ⟨wa, hwa⟩ : ∃ wa, w1.alloc (.cells (madeCells #[.slice none 0 0] K) 33) = wa := ⟨_, rfl⟩
    obtain ⟨wb, hwb⟩ : ∃ wb, wa.alloc (.cells #[.int .u8 7, .int .i64 0, .int .u64 1, .int .i64 0, .int .u16 0, .int .u64 0, .int .i64 0, .int .u64 0, .int .i64 0, .slice none 0 0, .int .u64 0, .slice none 0 0, .slice (some ⟨w1.heap.size + 1 + 1, 0, none⟩) K K, .int .u64 0, .int .u64 0] 30) = wb := ⟨_, rfl⟩
    have hsa : wa.heap.size = w1.heap.size + 1 := by rw [← hwa]; simp
    have hsb : wb.heap.size = w1.heap.size + 2 := by rw [← hwb]; simp; omega
    have hba : Below w1.heap.size w1 wa := by rw [← hwa]; exact bl1 _ _
    have hbb : Below wa.heap.size wa wb := by rw [← hwb]; exact bl1 _ _
    obtain ⟨wc, hwc⟩ : ∃ wc, wb.alloc (.cells (madeCells #[.int .i64 0, .slice none 0 0] (K * 2)) 49) = wc := ⟨_, rfl⟩
    have hbc : Below wb.heap.size wb wc := by rw [← hwc]; exact bl1 _ _
    have hgc : wc.heap[w1.heap.size + 1 + 1]? = some (.cells (madeCells #[.int .i64 0, .slice none 0 0] (K * 2)) 49 (0, 0)) := by rw [← hwc, show w1.heap.size + 1 + 1 = wb.heap.size by omega]; exact heap_alloc_new _ _
    have hli := itsx_made hgc (by omega)
    have hbx : Below w.heap.size w wc := bl_step (bl_step (bl_step hb1 hba) hbb) hbc
    have HWX : Hid (w1.alloc (.cells (madeCells #[.slice none 0 0] K) 33) = wa ∧ wa.alloc (.cells #[.int .u8 7, .int .i64 0, .int .u64 1, .int .i64 0, .int .u16 0, .int .u64 0, .int .i64 0, .int .u64 0, .int .i64 0, .slice none 0 0, .int .u64 0, .slice none 0 0, .slice (some ⟨w1.heap.size + 1 + 1, 0, none⟩) K K, .int .u64 0, .int .u64 0] 30) = wb ∧ wb.alloc (.cells (madeCells #[.int .i64 0, .slice none 0 0] (K * 2)) 49) = wc) := ⟨hwa, hwb, hwc⟩
    clear hwa hwb hwc hsa hsb hba hbb hbc hgc hb1
    have hin : FIn (fun _ => True) wc (manyI K) ⟨none, 0, none, 0, some ⟨w1.heap.size + 1 + 1, 0, none⟩, K⟩ := by
      refine ⟨SsX.nil _ _, MsX.nil _ _, ?_⟩
      have e : (List.replicate K ((0, []) : Di)).length = K := List.length_replicate
      show ItsX _ _ _ (List.replicate K _).length _
      rw [e]
      exact hli
    have hlr : (List.replicate K ((0, []) : Di)).length = K := List.length_replicate
    have henc : Calls Try.prog 12 #[.agg #[.int .u8 7, .int .i64 0, .int .u64 1, .int .i64 0, .int .u16 0, .int .u64 0, .int .i64 0, .int .u64 0, .int .i64 0, .slice none 0 0, .int .u64 0, .slice none 0 0, .slice (some ⟨w1.heap.size + 1 + 1, 0, none⟩) K K, .int .u64 0, .int .u64 0]] wc fun e w' => EncAns wc w' (manyI K) e ∧ Below wc.heap.size wc w' := by
      have h0 := encodeF_any (fun _ => True) wc (manyI K) ⟨none, 0, none, 0, some ⟨w1.heap.size + 1 + 1, 0, none⟩, K⟩ hin (manyI_ok K)
      unfold fval fcells manyI zeroF at h0
      simp only [hlr, List.length_nil] at h0
      exact h0
    clear hin hli
    go_wp2_with fail
    rw [HWX.out.1, HWX.out.2.1, HWX.out.2.2]
    refine henc.mono ?_
    rintro e w2 ⟨hans, hb2⟩
    have hb02 := bl_step hbx hb2
    unfold EncAns at hans
    clear henc hbx hb2 HWX hm1 hm2 hm3
    by_cases h4 : 4096 < K
    · rw [manyI_right, decide_eq_false (by omega), if_pos rfl] at hans
      subst hans
      go_wp2
      go_ret
      exact ⟨rfl, hb02⟩
    · have hw := manyI_wire K (by omega)
      rw [manyI_right, decide_eq_true (by omega), if_neg (by simp), if_neg (by omega)] at hans
      obtain ⟨v, rfl, hown⟩ := hans
      have hds := decF_seal 9223372036854775807 (manyI K) (by rw [manyI_right, decide_eq_true (by omega)]) (manyI_ok K) hw (by omega) (by omega)
      obtain ⟨ao, cap, rfl, hrow, _⟩ := Cd.owns_row hown
      have hdec := decodeF_any w2 ao _ cap _ hrow (by omega)
      have HDS : Hid (decF 9223372036854775807 (sealB (wire (manyI K))) = (0, manyI K)) := hds
      generalize (wire (manyI K)).length + 4 = pl at *
      clear hown hrow hds hw
      go_wp2_with fail
      refine hdec.mono ?_
      rintro e w3 ⟨hda, hb3⟩
      unfold DecAns at hda
      rw [HDS.out] at hda
      obtain ⟨a, rfl, _⟩ := hda
      have hb03 := bl_step hb02 hb3
      have hfv : fval (manyI K) a = .agg #[.int .u8 7, .int .i64 0, .int .u64 1, .int .i64 0, .int .u16 0, .int .u64 0, .int .i64 0, .int .u64 0, .int .i64 0, .slice a.so 0 a.sc, .int .u64 0, .slice a.mo 0 a.mc, .slice a.io K a.ic, .int .u64 0, .int .u64 0] := by
        unfold fval fcells manyI zeroF
        simp only [hlr, List.length_nil]
        rfl
      rw [hfv]
      clear hdec hb3 hb02 hfv HDS
      go_wp2
      go_ret
      exact ⟨ret_bool (by simp), bl_step hb03 (bl1 _ _)⟩
  · have hqI : (q : Int) % 3 = 2 := by omega
    clear h3
    go_enter Try.func9, Try.ntmps9
    go_wp2_with fail
    refine (awake_any _).mono ?_
    rintro e w1 ⟨rfl, hb1⟩
    obtain ⟨wa, hwa⟩ : ∃ wa, w1.alloc (.cells (madeCells #[.slice none 0 0] K) 33) = wa := ⟨_, rfl⟩
    obtain ⟨wb, hwb⟩ : ∃ wb, wa.alloc (.cells #[.int .u8 5, .int .i64 0, .int .u64 1, .int .i64 0, .int .u16 0, .int .u64 0, .int .i64 0, .int .u64 0, .int .i64 0, .slice (some ⟨w1.heap.size + 1 + 1, 0, none⟩) K K, .int .u64 0, .slice none 0 0, .slice none 0 0, .int .u64 0, .int .u64 0] 30) = wb := ⟨_, rfl⟩
    have hsa : wa.heap.size = w1.heap.size + 1 := by rw [← hwa]; simp
    have hsb : wb.heap.size = w1.heap.size + 2 := by rw [← hwb]; simp; omega
    have hba : Below w1.heap.size w1 wa := by rw [← hwa]; exact bl1 _ _
    have hbb : Below wa.heap.size wa wb := by rw [← hwb]; exact bl1 _ _
    obtain ⟨wc, hwc⟩ : ∃ wc, wb.alloc (.cells (madeCells #[.int .u64 0, .int .i64 0, .int .i64 0, .slice none 0 0] (K * 4)) 52) = wc := ⟨_, rfl⟩
    have hbc : Below wb.heap.size wb wc := by rw [← hwc]; exact bl1 _ _
    have hgc : wc.heap[w1.heap.size + 1 + 1]? = some (.cells (madeCells #[.int .u64 0, .int .i64 0, .int .i64 0, .slice none 0 0] (K * 4)) 52 (0, 0)) := by rw [← hwc, show w1.heap.size + 1 + 1 = wb.heap.size by omega]; exact heap_alloc_new _ _
    have hli := ssx_made hgc (by omega)
    have hbx : Below w.heap.size w wc := bl_step (bl_step (bl_step hb1 hba) hbb) hbc
    have HWX : Hid (w1.alloc (.cells (madeCells #[.slice none 0 0] K) 33) = wa ∧ wa.alloc (.cells #[.int .u8 5, .int .i64 0, .int .u64 1, .int .i64 0, .int .u16 0, .int .u64 0, .int .i64 0, .int .u64 0, .int .i64 0, .slice (some ⟨w1.heap.size + 1 + 1, 0, none⟩) K K, .int .u64 0, .slice none 0 0, .slice none 0 0, .int .u64 0, .int .u64 0] 30) = wb ∧ wb.alloc (.cells (madeCells #[.int .u64 0, .int .i64 0, .int .i64 0, .slice none 0 0] (K * 4)) 52) = wc) := ⟨hwa, hwb, hwc⟩
    clear hwa hwb hwc hsa hsb hba hbb hbc hgc hb1
    have hin : FIn (fun _ => True) wc (manyS K) ⟨some ⟨w1.heap.size + 1 + 1, 0, none⟩, K, none, 0, none, 0⟩ := by
      refine ⟨?_, MsX.nil _ _, ItsX.nil _ _⟩
      have e : (List.replicate K ((0, 0, 0, []) : Sd)).length = K := List.length_replicate
      show SsX _ _ _ (List.replicate K _).length _
      rw [e]
      exact hli
    have hlr : (List.replicate K ((0, 0, 0, []) : Sd)).length = K := List.length_replicate
    have henc : Calls Try.prog 12 #[.agg #[.int .u8 5, .int .i64 0, .int .u64 1, .int .i64 0, .int .u16 0, .int .u64 0, .int .i64 0, .int .u64 0, .int .i64 0, .slice (some ⟨w1.heap.size + 1 + 1, 0, none⟩) K K, .int .u64 0, .slice none 0 0, .slice none 0 0, .int .u64 0, .int .u64 0]] wc fun e w' => EncAns wc w' (manyS K) e ∧ Below wc.heap.size wc w' := by
      have h0 := encodeF_any (fun _ => True) wc (manyS K) ⟨some ⟨w1.heap.size + 1 + 1, 0, none⟩, K, none, 0, none, 0⟩ hin (manyS_ok K)
      unfold fval fcells manyS zeroF at h0
      simp only [hlr, List.length_nil] at h0
      exact h0
    clear hin hli
    go_wp2_with fail
    rw [HWX.out.1, HWX.out.2.1, HWX.out.2.2]
    refine henc.mono ?_
    rintro e w2 ⟨hans, hb2⟩
    have hb02 := bl_step hbx hb2
    unfold EncAns at hans
    clear henc hbx hb2 HWX hm1 hm2 hm3
    by_cases h4 : 4096 < K
    · rw [manyS_right, decide_eq_false (by omega), if_pos rfl] at hans
      subst hans
      go_wp2
      go_ret
      exact ⟨rfl, hb02⟩
    · have hw := manyS_wire K (by omega)
      rw [manyS_right, decide_eq_true (by omega), if_neg (by simp), if_neg (by omega)] at hans
      obtain ⟨v, rfl, hown⟩ := hans
      have hds := decF_seal 9223372036854775807 (manyS K) (by rw [manyS_right, decide_eq_true (by omega)]) (manyS_ok K) hw (by omega) (by omega)
      obtain ⟨ao, cap, rfl, hrow, _⟩ := Cd.owns_row hown
      have hdec := decodeF_any w2 ao _ cap _ hrow (by omega)
      have HDS : Hid (decF 9223372036854775807 (sealB (wire (manyS K))) = (0, manyS K)) := hds
      generalize (wire (manyS K)).length + 4 = pl at *
      clear hown hrow hds hw
      go_wp2_with fail
      refine hdec.mono ?_
      rintro e w3 ⟨hda, hb3⟩
      unfold DecAns at hda
      rw [HDS.out] at hda
      obtain ⟨a, rfl, _⟩ := hda
      have hb03 := bl_step hb02 hb3
      have hfv : fval (manyS K) a = .agg #[.int .u8 5, .int .i64 0, .int .u64 1, .int .i64 0, .int .u16 0, .int .u64 0, .int .i64 0, .int .u64 0, .int .i64 0, .slice a.so K a.sc, .int .u64 0, .slice a.mo 0 a.mc, .slice a.io 0 a.ic, .int .u64 0, .int .u64 0] := by
        unfold fval fcells manyS zeroF
        simp only [hlr, List.length_nil]
        rfl
      rw [hfv]
      clear hdec hb3 hb02 hfv HDS
      go_wp2
      go_ret
      exact ⟨ret_bool (by simp), bl_step hb03 (bl1 _ _)⟩
set_option maxRecDepth 100000 in
theorem lifted (os : Os) (started : os.Started) (H : Type) (enc : TypeId × Value → H) :
    ReturnsInHanded {} Try.checked os 9 .any (Rows.frameManySpec.pre6 enc Try.prog Try.f9 Rows.frameManyRow.domain false) (Rows.frameManySpec.post enc Try.prog Try.f9 false true false false) := by
  refine returnsInHanded_of_change (C := Try.checked) own started (by kernel_rfl) Try.func9
    (ChangeSpec.witness6 (enc := enc) (C := Try.checked) false ⟨#[], #[.int .u8 0, .int .u8 0], []⟩ 9 (by kernel_rfl) (by kernel_rfl) (by kernel_rfl) (by kernel_rfl)) ?_
  intro W base args ds gs before hval0 hW hcnd _
  have hval : ∀ (j : Nat) t v, Try.f9.params[j]? = some t → args[j]? = some v → Value.okWide Try.prog W .any base t v := hval0
  have hW' := hW
  obtain ⟨p, q, hA0, hV, rfl, hfz, hnd⟩ := hW
  have hA : DataW.TrodAll enc Try.prog W 0 (fun _ => true) true Try.f9.params.toList args.toList ds p := hA0
  rw [Try.params9] at hA hval
  obtain ⟨v0, vs0, d0, ds0, p0, q0, hargs0, rfl, rfl, h0, r0⟩ := trodAll_cons hA
  obtain ⟨v1, vs1, d1, ds1, p1, q1, hargs1, rfl, rfl, h1, r1⟩ := trodAll_cons r0
  obtain ⟨rfl, rfl, rfl⟩ := trodAll_nil r1
  obtain rfl : args = #[v0, v1] := by cases args; simp_all
  obtain ⟨rfl, rfl⟩ := trodVars_none hV
  obtain ⟨a0, rfl, rfl, rfl, w0⟩ := open_int Try.underlying5 (hval 0 5 v0 rfl rfl) h0
  obtain ⟨a1, rfl, rfl, rfl, w1⟩ := open_int Try.underlying5 (hval 1 5 v1 rfl rfl) h1
  clear hA0 hval0
  obtain ⟨n0, rfl, hn0⟩ := u8_of_wf w0
  obtain ⟨n1, rfl, hn1⟩ := u8_of_wf w1
  refine (walk W n0 hn0 n1 hn1).mono fun e W' ⟨he, bel⟩ => ?_
  subst he
  exact ⟨_, rfl, _, _, _, [], _, [], hW', trodAll_mk1 (shut_bool Try.underlying4 _), (trodAll_cons_mk (shut_int Try.underlying5 w0) (trodAll_cons_mk (shut_int Try.underlying5 w1) trodAll_mk0)), rfl, bel.frame _, fun h => by cases h⟩

theorem over : Rows.frameManyRow.holds Try.pinned (OpenSpec.ofChange Rows.frameManySpec) :=
  OpenClaim.holds_of_wide 9 Try.f9 rfl rfl rfl rfl rfl rfl rfl ⟨rfl, rfl, rfl, rfl, rfl⟩ rfl rfl rfl rfl rfl (by kernel_rfl) Try.func9 (by kernel_rfl)
    (of_decide_eq_true (by kernel_rfl)) (by unfold Func.isWrapper; first | (rw [if_pos (by decide +kernel)]; kernel_rfl) | (rw [if_neg (by decide +kernel)]; exact ⟨rfl, rfl⟩))
    (fun os started H enc _ => lifted os started H enc)

end Go.Proofs.Ytfemjbaadnjanaa.frameMany
namespace Go.Proofs.Ytfemjbaadnjanaa
theorem frameMany_holds : Rows.FrameManySaid := frameMany.over
#print axioms frameMany_holds
end Go.Proofs.Ytfemjbaadnjanaa
