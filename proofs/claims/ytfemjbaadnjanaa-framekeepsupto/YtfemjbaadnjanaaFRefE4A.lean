/-
  The document's bytes of a frame: kinds 1, 2, 3, 4.
-/
import Derived.Test.YtfemjbaadnjanaaFRefE3
namespace Go.Proofs.Ytfemjbaadnjanaa
open Go.RowKit
set_option linter.unusedVariables false
set_option linter.unusedSimpArgs false

set_option maxRecDepth 20000 in
set_option maxHeartbeats 2000000 in
theorem refEncF_1 (p : Nat → Prop) (w : World) (F : PF) (a : Fa) (hin : FIn p w F a) (hk : F.kind = 1) (hf0 : 0 ≤ F.frm) (hf15 : F.frm ≤ 15) (ho : POk F) (fi : formV F.idN F.idP = true) (fc : formV F.curN F.curP = true) (fp : formV F.promN F.promP = true)
    (hs : ∀ d ∈ F.st, stOk d = true) (hsl : F.st.length ≤ 4096) (hi : ∀ d ∈ F.it, okF d.1 = true) (hl : (wire F).length ≤ 1048576) :
    Calls Try.prog 15 #[.agg #[.int .u8 1, .int .i64 F.frm, .int .u64 (F.idN : Nat), .int .i64 F.idP, .int .u16 (F.set : Nat), .int .u64 (F.curN : Nat), .int .i64 F.curP, .int .u64 (F.promN : Nat), .int .i64 F.promP, .slice a.so F.st.length a.sc, .int .u64 (F.base : Nat), .slice a.mo F.ms.length a.mc, .slice a.io F.it.length a.ic, .int .u64 (F.ack : Nat), .int .u64 (F.safe : Nat)]] w fun e w' => ∃ v, e = .returned v ∧ Ow w.heap.size w w' v (sealB (wire F)) := by
  have HW : Hid (wire F = [UInt8.ofNat 1, pb F.frm] ++ (encV F.curN F.curP ++ (encV F.promN F.promP))) := by
    show _ = _
    unfold wire headV body
    rw [hk]
    simp [List.append_assoc]
  have HLN : Hid (2 + ((encV F.curN F.curP).length + ((encV F.promN F.promP).length)) ≤ 1048576) := by
    show _ ≤ _
    rw [HW.out] at hl
    simp only [List.length_append, List.length_cons, List.length_nil] at hl
    omega
  have hln := HLN.out
  obtain ⟨wa, hwa⟩ : ∃ wa, w.alloc (.cells #[.int .u8 1, .int .i64 F.frm, .int .u64 (F.idN : Nat), .int .i64 F.idP, .int .u16 (F.set : Nat), .int .u64 (F.curN : Nat), .int .i64 F.curP, .int .u64 (F.promN : Nat), .int .i64 F.promP, .slice a.so F.st.length a.sc, .int .u64 (F.base : Nat), .slice a.mo F.ms.length a.mc, .slice a.io F.it.length a.ic, .int .u64 (F.ack : Nat), .int .u64 (F.safe : Nat)] 30) = wa := ⟨_, rfl⟩
  have hua : Below w.heap.size w wa := by rw [← hwa]; exact bl1 _ _
  have hsa : wa.heap.size = w.heap.size + 1 := by rw [← hwa]; simp
  have hb0 : Bf w.heap.size F a wa := by
    rw [← hwa]
    have := bf_new w F a 30
    unfold fcells at this
    rw [hk] at this
    exact this
  have HB : Hid (∀ W, Below wa.heap.size wa W → Bf w.heap.size F a W) := fun W u => hb0.up u
  have HIN : Hid (FIn p wa F a) := hin.up hua
  have hpb := pb_num F.frm hf0 hf15
  have hwr : IntKind.u8.wrap F.frm = F.frm := IntWalk.u8_in _ (by omega)
  have HK : Hid (F.kind = 1) := hk
  have ho0 : Ow wa.heap.size wa (wa.alloc (.cells #[.int .u8 1, .int .u8 F.frm] 5)) (.slice (some ⟨w.heap.size + 1, 0, none⟩) 2 2) [UInt8.ofNat 1, pb F.frm] := by
    refine ⟨?_, bl1 _ _, by simp⟩
    have := World.ownsRow_lit (base := wa.heap.size) (e := 5) (size := 1) wa #[.int .u8 1, .int .u8 F.frm] 2 (Nat.le_refl _) (by unfold maxLen; omega) rfl
    rw [List.map_cons, List.map_cons, hpb, ← hsa]
    exact this
  have c0 : wa.cell? ⟨w.heap.size, 0, none⟩ = some (.int .u8 1) := by have := hb0.c0; rw [HK.out] at this; exact this
  have c1 := hb0.c1
  have hslen : w.heap.size < wa.heap.size := by omega
  obtain ⟨R0, HR0⟩ : ∃ R0, Hid ([UInt8.ofNat 1, pb F.frm] = R0) := ⟨_, rfl⟩
  rw [HR0.out] at ho0
  have hR0 : R0.length = 2 := by rw [← HR0.out]; rfl
  have hc1 := fun W => refEncode_ow W F.curN ho.curN F.curP fc
  have hp1 := encV_pos F.curN F.curP
  obtain ⟨E1, HE1⟩ : ∃ E, Hid (encV F.curN F.curP = E) := ⟨_, rfl⟩
  rw [HE1.out] at hp1 HLN
  simp only [HE1.out] at hc1
  have hc2 := fun W => refEncode_ow W F.promN ho.promN F.promP fp
  have hp2 := encV_pos F.promN F.promP
  obtain ⟨E2, HE2⟩ : ∃ E, Hid (encV F.promN F.promP = E) := ⟨_, rfl⟩
  rw [HE2.out] at hp2 HLN
  simp only [HE2.out] at hc2
  have HWW : Hid (R0 ++ E1 ++ E2 = wire F) := by
    show _ = _
    rw [HW.out, HE1.out, HE2.out, HR0.out]
    simp [List.append_assoc]
  have hlen := HLN.out
  have hsl9 := fun W ao n cap xs (h : Cd.Row W ao n cap xs) (hr : n + 4 ≤ 140737488355328) => Cd.refSeal_any W ao n cap xs h hr
  have HWA : Hid (w.alloc (.cells #[.int .u8 1, .int .i64 F.frm, .int .u64 (F.idN : Nat), .int .i64 F.idP, .int .u16 (F.set : Nat), .int .u64 (F.curN : Nat), .int .i64 F.curP, .int .u64 (F.promN : Nat), .int .i64 F.promP, .slice a.so F.st.length a.sc, .int .u64 (F.base : Nat), .slice a.mo F.ms.length a.mc, .slice a.io F.it.length a.ic, .int .u64 (F.ack : Nat), .int .u64 (F.safe : Nat)] 30) = wa) := hwa
  have HUA : Hid (Below w.heap.size w wa) := hua
  obtain ⟨wb, hwb⟩ : ∃ wb, wa.alloc (.cells #[.int .u8 1, .int .u8 F.frm] 5) = wb := ⟨_, rfl⟩
  rw [hwb] at ho0
  have HO0 : Hid (Ow wa.heap.size wa wb (.slice (some ⟨w.heap.size + 1, 0, none⟩) 2 2) R0) := ho0
  have HWB : Hid (wa.alloc (.cells #[.int .u8 1, .int .u8 F.frm] 5) = wb) := hwb
  clear hwa hua hsa hb0 hin hpb hk hf0 hf15 fi fc fp hs hsl hi hl HW hln HR0 HE1 HE2 HLN ho HIN ho0 hwb
  obtain ⟨d0, d1, d2, d3, d4, d5, d6, d7, d8, d9, d10, d11, d12, d13, d14⟩ := HB.out _ HO0.out.2.1
  rw [HK.out] at d0
  go_enter Try.func15, Try.ntmps15
  go_wp2_with fail
  (try rw [HWA.out])
  (try rw [HWB.out])
  refine (hc1 _).mono ?_
  rintro e x1 ⟨y1, rfl, hy1⟩
  have hP1 := (HO0.out).up hy1.2.1
  obtain ⟨g1, k1, rfl, hcs1⟩ := ow_some hy1 hp1
  clear hc1 hy1 d0 d1 d2 d3 d4 d5 d6 d7 d8 d9 d10 d11 d12 d13 d14 c0 c1
  obtain ⟨d0, d1, d2, d3, d4, d5, d6, d7, d8, d9, d10, d11, d12, d13, d14⟩ := HB.out _ hP1.2.1
  rw [HK.out] at d0
  go_wp2_with (first | (at_builtin; refine wpList_append_ow rfl _ _ rfl wa.heap.size wa x1 (.slice (some ⟨w.heap.size + 1, 0, none⟩) 2 2) _ rfl hP1 ⟨g1, 0, none⟩ E1.length k1 E1 rfl rfl hcs1 ?d1 ?_))
  case d1 => first | omega | (simp only [List.length_append]; omega)
  intro v1 z1 hz1
  clear hP1 hcs1 d0 d1 d2 d3 d4 d5 d6 d7 d8 d9 d10 d11 d12 d13 d14
  obtain ⟨d0, d1, d2, d3, d4, d5, d6, d7, d8, d9, d10, d11, d12, d13, d14⟩ := HB.out _ hz1.2.1
  rw [HK.out] at d0
  go_wp2_with fail
  refine (hc2 _).mono ?_
  rintro e x2 ⟨y2, rfl, hy2⟩
  have hP2 := (hz1).up hy2.2.1
  obtain ⟨g2, k2, rfl, hcs2⟩ := ow_some hy2 hp2
  clear hc2 hy2 d0 d1 d2 d3 d4 d5 d6 d7 d8 d9 d10 d11 d12 d13 d14
  obtain ⟨d0, d1, d2, d3, d4, d5, d6, d7, d8, d9, d10, d11, d12, d13, d14⟩ := HB.out _ hP2.2.1
  rw [HK.out] at d0
  go_wp2_with (first | (at_builtin; refine wpList_append_ow rfl _ _ rfl wa.heap.size wa x2 v1 _ rfl hP2 ⟨g2, 0, none⟩ E2.length k2 E2 rfl rfl hcs2 ?d1 ?_))
  case d1 => first | omega | (simp only [List.length_append]; omega)
  intro v2 z2 hz2
  clear hP2 hcs2 d0 d1 d2 d3 d4 d5 d6 d7 d8 d9 d10 d11 d12 d13 d14
  obtain ⟨d0, d1, d2, d3, d4, d5, d6, d7, d8, d9, d10, d11, d12, d13, d14⟩ := HB.out _ hz2.2.1
  rw [HK.out] at d0
  have hzz : Ow wa.heap.size wa z2 v2 (wire F) := by
    have := hz2
    rw [← HWW.out]
    simpa [List.append_assoc] using this
  have hwl : (wire F).length ≤ 1048576 := by
    rw [← HWW.out]
    simp only [List.length_append]
    omega
  obtain ⟨ao, cap, rfl, hrx⟩ := own_rx hzz.1 (by omega)
  have hsc := hsl9 z2 ao _ cap (wire F) hrx.row (by omega)
  have HZ : Hid (Below w.heap.size w z2 ∧ w.heap.size ≤ z2.heap.size) := ⟨HUA.out.trans (hzz.2.1.mono HUA.out.size), Nat.le_trans HUA.out.size hzz.2.2⟩
  obtain ⟨L, HL⟩ : ∃ L, Hid ((wire F).length = L) := ⟨_, rfl⟩
  rw [HL.out] at hsc ⊢
  clear hzz hrx hwl hsl9 hz2 HWW hp1 hp2
  go_wp2_with fail
  refine hsc.mono ?_
  rintro e wz ⟨vz, rfl, hoz, hbz⟩
  have HF : Hid (Ow w.heap.size w wz vz (sealB (wire F))) := by
    refine ⟨?_, HZ.out.1.trans (hbz.mono HZ.out.2), Nat.le_trans HZ.out.2 hbz.size⟩
    rw [sealB_len, HL.out]
    exact Cd.owns_mono hoz HZ.out.2
  clear hsc hoz hbz d0 d1 d2 d3 d4 d5 d6 d7 d8 d9 d10 d11 d12 d13 d14
  go_wp2
  go_ret
  exact ⟨vz, rfl, HF.out⟩

set_option maxRecDepth 20000 in
set_option maxHeartbeats 2000000 in
theorem refEncF_2 (p : Nat → Prop) (w : World) (F : PF) (a : Fa) (hin : FIn p w F a) (hk : F.kind = 2) (hf0 : 0 ≤ F.frm) (hf15 : F.frm ≤ 15) (ho : POk F) (fi : formV F.idN F.idP = true) (fc : formV F.curN F.curP = true) (fp : formV F.promN F.promP = true)
    (hs : ∀ d ∈ F.st, stOk d = true) (hsl : F.st.length ≤ 4096) (hi : ∀ d ∈ F.it, okF d.1 = true) (hl : (wire F).length ≤ 1048576) :
    Calls Try.prog 15 #[.agg #[.int .u8 2, .int .i64 F.frm, .int .u64 (F.idN : Nat), .int .i64 F.idP, .int .u16 (F.set : Nat), .int .u64 (F.curN : Nat), .int .i64 F.curP, .int .u64 (F.promN : Nat), .int .i64 F.promP, .slice a.so F.st.length a.sc, .int .u64 (F.base : Nat), .slice a.mo F.ms.length a.mc, .slice a.io F.it.length a.ic, .int .u64 (F.ack : Nat), .int .u64 (F.safe : Nat)]] w fun e w' => ∃ v, e = .returned v ∧ Ow w.heap.size w w' v (sealB (wire F)) := by
  have HW : Hid (wire F = [UInt8.ofNat 2, pb F.frm] ++ (encV F.idN F.idP ++ (Cd.enc F.set))) := by
    show _ = _
    unfold wire headV body
    rw [hk]
    simp [List.append_assoc]
  have HLN : Hid (2 + ((encV F.idN F.idP).length + ((Cd.enc F.set).length)) ≤ 1048576) := by
    show _ ≤ _
    rw [HW.out] at hl
    simp only [List.length_append, List.length_cons, List.length_nil] at hl
    omega
  have hln := HLN.out
  obtain ⟨wa, hwa⟩ : ∃ wa, w.alloc (.cells #[.int .u8 2, .int .i64 F.frm, .int .u64 (F.idN : Nat), .int .i64 F.idP, .int .u16 (F.set : Nat), .int .u64 (F.curN : Nat), .int .i64 F.curP, .int .u64 (F.promN : Nat), .int .i64 F.promP, .slice a.so F.st.length a.sc, .int .u64 (F.base : Nat), .slice a.mo F.ms.length a.mc, .slice a.io F.it.length a.ic, .int .u64 (F.ack : Nat), .int .u64 (F.safe : Nat)] 30) = wa := ⟨_, rfl⟩
  have hua : Below w.heap.size w wa := by rw [← hwa]; exact bl1 _ _
  have hsa : wa.heap.size = w.heap.size + 1 := by rw [← hwa]; simp
  have hb0 : Bf w.heap.size F a wa := by
    rw [← hwa]
    have := bf_new w F a 30
    unfold fcells at this
    rw [hk] at this
    exact this
  have HB : Hid (∀ W, Below wa.heap.size wa W → Bf w.heap.size F a W) := fun W u => hb0.up u
  have HIN : Hid (FIn p wa F a) := hin.up hua
  have hpb := pb_num F.frm hf0 hf15
  have hwr : IntKind.u8.wrap F.frm = F.frm := IntWalk.u8_in _ (by omega)
  have HK : Hid (F.kind = 2) := hk
  have ho0 : Ow wa.heap.size wa (wa.alloc (.cells #[.int .u8 2, .int .u8 F.frm] 5)) (.slice (some ⟨w.heap.size + 1, 0, none⟩) 2 2) [UInt8.ofNat 2, pb F.frm] := by
    refine ⟨?_, bl1 _ _, by simp⟩
    have := World.ownsRow_lit (base := wa.heap.size) (e := 5) (size := 1) wa #[.int .u8 2, .int .u8 F.frm] 2 (Nat.le_refl _) (by unfold maxLen; omega) rfl
    rw [List.map_cons, List.map_cons, hpb, ← hsa]
    exact this
  have c0 : wa.cell? ⟨w.heap.size, 0, none⟩ = some (.int .u8 2) := by have := hb0.c0; rw [HK.out] at this; exact this
  have c1 := hb0.c1
  have hslen : w.heap.size < wa.heap.size := by omega
  obtain ⟨R0, HR0⟩ : ∃ R0, Hid ([UInt8.ofNat 2, pb F.frm] = R0) := ⟨_, rfl⟩
  rw [HR0.out] at ho0
  have hR0 : R0.length = 2 := by rw [← HR0.out]; rfl
  have hc1 := fun W => refEncode_ow W F.idN ho.idN F.idP fi
  have hp1 := encV_pos F.idN F.idP
  obtain ⟨E1, HE1⟩ : ∃ E, Hid (encV F.idN F.idP = E) := ⟨_, rfl⟩
  rw [HE1.out] at hp1 HLN
  simp only [HE1.out] at hc1
  have hc2 := fun W => refUint_ow W F.set (by have := ho.set; omega)
  have hp2 := Cd.enc_pos F.set
  have hset : IntKind.u64.wrap (F.set : Int) = F.set := IntWalk.u64_in _ (by have := ho.set; omega)
  obtain ⟨E2, HE2⟩ : ∃ E, Hid (Cd.enc F.set = E) := ⟨_, rfl⟩
  rw [HE2.out] at hp2 HLN
  simp only [HE2.out] at hc2
  have HWW : Hid (R0 ++ E1 ++ E2 = wire F) := by
    show _ = _
    rw [HW.out, HE1.out, HE2.out, HR0.out]
    simp [List.append_assoc]
  have hlen := HLN.out
  have hsl9 := fun W ao n cap xs (h : Cd.Row W ao n cap xs) (hr : n + 4 ≤ 140737488355328) => Cd.refSeal_any W ao n cap xs h hr
  have HWA : Hid (w.alloc (.cells #[.int .u8 2, .int .i64 F.frm, .int .u64 (F.idN : Nat), .int .i64 F.idP, .int .u16 (F.set : Nat), .int .u64 (F.curN : Nat), .int .i64 F.curP, .int .u64 (F.promN : Nat), .int .i64 F.promP, .slice a.so F.st.length a.sc, .int .u64 (F.base : Nat), .slice a.mo F.ms.length a.mc, .slice a.io F.it.length a.ic, .int .u64 (F.ack : Nat), .int .u64 (F.safe : Nat)] 30) = wa) := hwa
  have HUA : Hid (Below w.heap.size w wa) := hua
  obtain ⟨wb, hwb⟩ : ∃ wb, wa.alloc (.cells #[.int .u8 2, .int .u8 F.frm] 5) = wb := ⟨_, rfl⟩
  rw [hwb] at ho0
  have HO0 : Hid (Ow wa.heap.size wa wb (.slice (some ⟨w.heap.size + 1, 0, none⟩) 2 2) R0) := ho0
  have HWB : Hid (wa.alloc (.cells #[.int .u8 2, .int .u8 F.frm] 5) = wb) := hwb
  clear hwa hua hsa hb0 hin hpb hk hf0 hf15 fi fc fp hs hsl hi hl HW hln HR0 HE1 HE2 HLN ho HIN ho0 hwb
  obtain ⟨d0, d1, d2, d3, d4, d5, d6, d7, d8, d9, d10, d11, d12, d13, d14⟩ := HB.out _ HO0.out.2.1
  rw [HK.out] at d0
  go_enter Try.func15, Try.ntmps15
  go_wp2_with fail
  (try rw [HWA.out])
  (try rw [HWB.out])
  refine (hc1 _).mono ?_
  rintro e x1 ⟨y1, rfl, hy1⟩
  have hP1 := (HO0.out).up hy1.2.1
  obtain ⟨g1, k1, rfl, hcs1⟩ := ow_some hy1 hp1
  clear hc1 hy1 d0 d1 d2 d3 d4 d5 d6 d7 d8 d9 d10 d11 d12 d13 d14 c0 c1
  obtain ⟨d0, d1, d2, d3, d4, d5, d6, d7, d8, d9, d10, d11, d12, d13, d14⟩ := HB.out _ hP1.2.1
  rw [HK.out] at d0
  go_wp2_with (first | (at_builtin; refine wpList_append_ow rfl _ _ rfl wa.heap.size wa x1 (.slice (some ⟨w.heap.size + 1, 0, none⟩) 2 2) _ rfl hP1 ⟨g1, 0, none⟩ E1.length k1 E1 rfl rfl hcs1 ?d1 ?_))
  case d1 => first | omega | (simp only [List.length_append]; omega)
  intro v1 z1 hz1
  clear hP1 hcs1 d0 d1 d2 d3 d4 d5 d6 d7 d8 d9 d10 d11 d12 d13 d14
  obtain ⟨d0, d1, d2, d3, d4, d5, d6, d7, d8, d9, d10, d11, d12, d13, d14⟩ := HB.out _ hz1.2.1
  rw [HK.out] at d0
  go_wp2_with fail
  refine (hc2 _).mono ?_
  rintro e x2 ⟨y2, rfl, hy2⟩
  have hP2 := (hz1).up hy2.2.1
  obtain ⟨g2, k2, rfl, hcs2⟩ := ow_some hy2 hp2
  clear hc2 hy2 d0 d1 d2 d3 d4 d5 d6 d7 d8 d9 d10 d11 d12 d13 d14
  obtain ⟨d0, d1, d2, d3, d4, d5, d6, d7, d8, d9, d10, d11, d12, d13, d14⟩ := HB.out _ hP2.2.1
  rw [HK.out] at d0
  go_wp2_with (first | (at_builtin; refine wpList_append_ow rfl _ _ rfl wa.heap.size wa x2 v1 _ rfl hP2 ⟨g2, 0, none⟩ E2.length k2 E2 rfl rfl hcs2 ?d1 ?_))
  case d1 => first | omega | (simp only [List.length_append]; omega)
  intro v2 z2 hz2
  clear hP2 hcs2 d0 d1 d2 d3 d4 d5 d6 d7 d8 d9 d10 d11 d12 d13 d14
  obtain ⟨d0, d1, d2, d3, d4, d5, d6, d7, d8, d9, d10, d11, d12, d13, d14⟩ := HB.out _ hz2.2.1
  rw [HK.out] at d0
  have hzz : Ow wa.heap.size wa z2 v2 (wire F) := by
    have := hz2
    rw [← HWW.out]
    simpa [List.append_assoc] using this
  have hwl : (wire F).length ≤ 1048576 := by
    rw [← HWW.out]
    simp only [List.length_append]
    omega
  obtain ⟨ao, cap, rfl, hrx⟩ := own_rx hzz.1 (by omega)
  have hsc := hsl9 z2 ao _ cap (wire F) hrx.row (by omega)
  have HZ : Hid (Below w.heap.size w z2 ∧ w.heap.size ≤ z2.heap.size) := ⟨HUA.out.trans (hzz.2.1.mono HUA.out.size), Nat.le_trans HUA.out.size hzz.2.2⟩
  obtain ⟨L, HL⟩ : ∃ L, Hid ((wire F).length = L) := ⟨_, rfl⟩
  rw [HL.out] at hsc ⊢
  clear hzz hrx hwl hsl9 hz2 HWW hp1 hp2
  go_wp2_with fail
  refine hsc.mono ?_
  rintro e wz ⟨vz, rfl, hoz, hbz⟩
  have HF : Hid (Ow w.heap.size w wz vz (sealB (wire F))) := by
    refine ⟨?_, HZ.out.1.trans (hbz.mono HZ.out.2), Nat.le_trans HZ.out.2 hbz.size⟩
    rw [sealB_len, HL.out]
    exact Cd.owns_mono hoz HZ.out.2
  clear hsc hoz hbz d0 d1 d2 d3 d4 d5 d6 d7 d8 d9 d10 d11 d12 d13 d14
  go_wp2
  go_ret
  exact ⟨vz, rfl, HF.out⟩

set_option maxRecDepth 20000 in
set_option maxHeartbeats 2000000 in
theorem refEncF_3 (p : Nat → Prop) (w : World) (F : PF) (a : Fa) (hin : FIn p w F a) (hk : F.kind = 3) (hf0 : 0 ≤ F.frm) (hf15 : F.frm ≤ 15) (ho : POk F) (fi : formV F.idN F.idP = true) (fc : formV F.curN F.curP = true) (fp : formV F.promN F.promP = true)
    (hs : ∀ d ∈ F.st, stOk d = true) (hsl : F.st.length ≤ 4096) (hi : ∀ d ∈ F.it, okF d.1 = true) (hl : (wire F).length ≤ 1048576) :
    Calls Try.prog 15 #[.agg #[.int .u8 3, .int .i64 F.frm, .int .u64 (F.idN : Nat), .int .i64 F.idP, .int .u16 (F.set : Nat), .int .u64 (F.curN : Nat), .int .i64 F.curP, .int .u64 (F.promN : Nat), .int .i64 F.promP, .slice a.so F.st.length a.sc, .int .u64 (F.base : Nat), .slice a.mo F.ms.length a.mc, .slice a.io F.it.length a.ic, .int .u64 (F.ack : Nat), .int .u64 (F.safe : Nat)]] w fun e w' => ∃ v, e = .returned v ∧ Ow w.heap.size w w' v (sealB (wire F)) := by
  have HW : Hid (wire F = [UInt8.ofNat 3, pb F.frm] ++ (encV F.idN F.idP ++ (encL encS F.st))) := by
    show _ = _
    unfold wire headV body
    rw [hk]
    simp [List.append_assoc]
  have HLN : Hid (2 + ((encV F.idN F.idP).length + ((encL encS F.st).length)) ≤ 1048576) := by
    show _ ≤ _
    rw [HW.out] at hl
    simp only [List.length_append, List.length_cons, List.length_nil] at hl
    omega
  have hln := HLN.out
  obtain ⟨wa, hwa⟩ : ∃ wa, w.alloc (.cells #[.int .u8 3, .int .i64 F.frm, .int .u64 (F.idN : Nat), .int .i64 F.idP, .int .u16 (F.set : Nat), .int .u64 (F.curN : Nat), .int .i64 F.curP, .int .u64 (F.promN : Nat), .int .i64 F.promP, .slice a.so F.st.length a.sc, .int .u64 (F.base : Nat), .slice a.mo F.ms.length a.mc, .slice a.io F.it.length a.ic, .int .u64 (F.ack : Nat), .int .u64 (F.safe : Nat)] 30) = wa := ⟨_, rfl⟩
  have hua : Below w.heap.size w wa := by rw [← hwa]; exact bl1 _ _
  have hsa : wa.heap.size = w.heap.size + 1 := by rw [← hwa]; simp
  have hb0 : Bf w.heap.size F a wa := by
    rw [← hwa]
    have := bf_new w F a 30
    unfold fcells at this
    rw [hk] at this
    exact this
  have HB : Hid (∀ W, Below wa.heap.size wa W → Bf w.heap.size F a W) := fun W u => hb0.up u
  have HIN : Hid (FIn p wa F a) := hin.up hua
  have hpb := pb_num F.frm hf0 hf15
  have hwr : IntKind.u8.wrap F.frm = F.frm := IntWalk.u8_in _ (by omega)
  have HK : Hid (F.kind = 3) := hk
  have ho0 : Ow wa.heap.size wa (wa.alloc (.cells #[.int .u8 3, .int .u8 F.frm] 5)) (.slice (some ⟨w.heap.size + 1, 0, none⟩) 2 2) [UInt8.ofNat 3, pb F.frm] := by
    refine ⟨?_, bl1 _ _, by simp⟩
    have := World.ownsRow_lit (base := wa.heap.size) (e := 5) (size := 1) wa #[.int .u8 3, .int .u8 F.frm] 2 (Nat.le_refl _) (by unfold maxLen; omega) rfl
    rw [List.map_cons, List.map_cons, hpb, ← hsa]
    exact this
  have c0 : wa.cell? ⟨w.heap.size, 0, none⟩ = some (.int .u8 3) := by have := hb0.c0; rw [HK.out] at this; exact this
  have c1 := hb0.c1
  have hslen : w.heap.size < wa.heap.size := by omega
  obtain ⟨R0, HR0⟩ : ∃ R0, Hid ([UInt8.ofNat 3, pb F.frm] = R0) := ⟨_, rfl⟩
  rw [HR0.out] at ho0
  have hR0 : R0.length = 2 := by rw [← HR0.out]; rfl
  have hc1 := fun W => refEncode_ow W F.idN ho.idN F.idP fi
  have hp1 := encV_pos F.idN F.idP
  obtain ⟨E1, HE1⟩ : ∃ E, Hid (encV F.idN F.idP = E) := ⟨_, rfl⟩
  rw [HE1.out] at hp1 HLN
  simp only [HE1.out] at hc1
  have hc2 := fun W (u : Below wa.heap.size wa W) => refStates_any p W a.so F.st.length a.sc F.st (HIN.out.up u).st hsl (fun d hd => ⟨hs d hd, (ho.st d hd).1⟩) (by omega)
  have hp2 := encL_pos encS F.st
  obtain ⟨E2, HE2⟩ : ∃ E, Hid (encL encS F.st = E) := ⟨_, rfl⟩
  rw [HE2.out] at hp2 HLN
  simp only [HE2.out] at hc2
  have HWW : Hid (R0 ++ E1 ++ E2 = wire F) := by
    show _ = _
    rw [HW.out, HE1.out, HE2.out, HR0.out]
    simp [List.append_assoc]
  have hlen := HLN.out
  have hsl9 := fun W ao n cap xs (h : Cd.Row W ao n cap xs) (hr : n + 4 ≤ 140737488355328) => Cd.refSeal_any W ao n cap xs h hr
  have HWA : Hid (w.alloc (.cells #[.int .u8 3, .int .i64 F.frm, .int .u64 (F.idN : Nat), .int .i64 F.idP, .int .u16 (F.set : Nat), .int .u64 (F.curN : Nat), .int .i64 F.curP, .int .u64 (F.promN : Nat), .int .i64 F.promP, .slice a.so F.st.length a.sc, .int .u64 (F.base : Nat), .slice a.mo F.ms.length a.mc, .slice a.io F.it.length a.ic, .int .u64 (F.ack : Nat), .int .u64 (F.safe : Nat)] 30) = wa) := hwa
  have HUA : Hid (Below w.heap.size w wa) := hua
  obtain ⟨wb, hwb⟩ : ∃ wb, wa.alloc (.cells #[.int .u8 3, .int .u8 F.frm] 5) = wb := ⟨_, rfl⟩
  rw [hwb] at ho0
  have HO0 : Hid (Ow wa.heap.size wa wb (.slice (some ⟨w.heap.size + 1, 0, none⟩) 2 2) R0) := ho0
  have HWB : Hid (wa.alloc (.cells #[.int .u8 3, .int .u8 F.frm] 5) = wb) := hwb
  clear hwa hua hsa hb0 hin hpb hk hf0 hf15 fi fc fp hs hsl hi hl HW hln HR0 HE1 HE2 HLN ho HIN ho0 hwb
  obtain ⟨d0, d1, d2, d3, d4, d5, d6, d7, d8, d9, d10, d11, d12, d13, d14⟩ := HB.out _ HO0.out.2.1
  rw [HK.out] at d0
  go_enter Try.func15, Try.ntmps15
  go_wp2_with fail
  (try rw [HWA.out])
  (try rw [HWB.out])
  refine (hc1 _).mono ?_
  rintro e x1 ⟨y1, rfl, hy1⟩
  have hP1 := (HO0.out).up hy1.2.1
  obtain ⟨g1, k1, rfl, hcs1⟩ := ow_some hy1 hp1
  clear hc1 hy1 d0 d1 d2 d3 d4 d5 d6 d7 d8 d9 d10 d11 d12 d13 d14 c0 c1
  obtain ⟨d0, d1, d2, d3, d4, d5, d6, d7, d8, d9, d10, d11, d12, d13, d14⟩ := HB.out _ hP1.2.1
  rw [HK.out] at d0
  go_wp2_with (first | (at_builtin; refine wpList_append_ow rfl _ _ rfl wa.heap.size wa x1 (.slice (some ⟨w.heap.size + 1, 0, none⟩) 2 2) _ rfl hP1 ⟨g1, 0, none⟩ E1.length k1 E1 rfl rfl hcs1 ?d1 ?_))
  case d1 => first | omega | (simp only [List.length_append]; omega)
  intro v1 z1 hz1
  clear hP1 hcs1 d0 d1 d2 d3 d4 d5 d6 d7 d8 d9 d10 d11 d12 d13 d14
  obtain ⟨d0, d1, d2, d3, d4, d5, d6, d7, d8, d9, d10, d11, d12, d13, d14⟩ := HB.out _ hz1.2.1
  rw [HK.out] at d0
  go_wp2_with fail
  refine (hc2 _ (hz1).2.1).mono ?_
  rintro e x2 ⟨y2, rfl, hy2⟩
  have hP2 := (hz1).up hy2.2.1
  obtain ⟨g2, k2, rfl, hcs2⟩ := ow_some hy2 hp2
  clear hc2 hy2 d0 d1 d2 d3 d4 d5 d6 d7 d8 d9 d10 d11 d12 d13 d14
  obtain ⟨d0, d1, d2, d3, d4, d5, d6, d7, d8, d9, d10, d11, d12, d13, d14⟩ := HB.out _ hP2.2.1
  rw [HK.out] at d0
  go_wp2_with (first | (at_builtin; refine wpList_append_ow rfl _ _ rfl wa.heap.size wa x2 v1 _ rfl hP2 ⟨g2, 0, none⟩ E2.length k2 E2 rfl rfl hcs2 ?d1 ?_))
  case d1 => first | omega | (simp only [List.length_append]; omega)
  intro v2 z2 hz2
  clear hP2 hcs2 d0 d1 d2 d3 d4 d5 d6 d7 d8 d9 d10 d11 d12 d13 d14
  obtain ⟨d0, d1, d2, d3, d4, d5, d6, d7, d8, d9, d10, d11, d12, d13, d14⟩ := HB.out _ hz2.2.1
  rw [HK.out] at d0
  have hzz : Ow wa.heap.size wa z2 v2 (wire F) := by
    have := hz2
    rw [← HWW.out]
    simpa [List.append_assoc] using this
  have hwl : (wire F).length ≤ 1048576 := by
    rw [← HWW.out]
    simp only [List.length_append]
    omega
  obtain ⟨ao, cap, rfl, hrx⟩ := own_rx hzz.1 (by omega)
  have hsc := hsl9 z2 ao _ cap (wire F) hrx.row (by omega)
  have HZ : Hid (Below w.heap.size w z2 ∧ w.heap.size ≤ z2.heap.size) := ⟨HUA.out.trans (hzz.2.1.mono HUA.out.size), Nat.le_trans HUA.out.size hzz.2.2⟩
  obtain ⟨L, HL⟩ : ∃ L, Hid ((wire F).length = L) := ⟨_, rfl⟩
  rw [HL.out] at hsc ⊢
  clear hzz hrx hwl hsl9 hz2 HWW hp1 hp2
  go_wp2_with fail
  refine hsc.mono ?_
  rintro e wz ⟨vz, rfl, hoz, hbz⟩
  have HF : Hid (Ow w.heap.size w wz vz (sealB (wire F))) := by
    refine ⟨?_, HZ.out.1.trans (hbz.mono HZ.out.2), Nat.le_trans HZ.out.2 hbz.size⟩
    rw [sealB_len, HL.out]
    exact Cd.owns_mono hoz HZ.out.2
  clear hsc hoz hbz d0 d1 d2 d3 d4 d5 d6 d7 d8 d9 d10 d11 d12 d13 d14
  go_wp2
  go_ret
  exact ⟨vz, rfl, HF.out⟩

set_option maxRecDepth 20000 in
set_option maxHeartbeats 2000000 in
theorem refEncF_4 (p : Nat → Prop) (w : World) (F : PF) (a : Fa) (hin : FIn p w F a) (hk : F.kind = 4) (hf0 : 0 ≤ F.frm) (hf15 : F.frm ≤ 15) (ho : POk F) (fi : formV F.idN F.idP = true) (fc : formV F.curN F.curP = true) (fp : formV F.promN F.promP = true)
    (hs : ∀ d ∈ F.st, stOk d = true) (hsl : F.st.length ≤ 4096) (hi : ∀ d ∈ F.it, okF d.1 = true) (hl : (wire F).length ≤ 1048576) :
    Calls Try.prog 15 #[.agg #[.int .u8 4, .int .i64 F.frm, .int .u64 (F.idN : Nat), .int .i64 F.idP, .int .u16 (F.set : Nat), .int .u64 (F.curN : Nat), .int .i64 F.curP, .int .u64 (F.promN : Nat), .int .i64 F.promP, .slice a.so F.st.length a.sc, .int .u64 (F.base : Nat), .slice a.mo F.ms.length a.mc, .slice a.io F.it.length a.ic, .int .u64 (F.ack : Nat), .int .u64 (F.safe : Nat)]] w fun e w' => ∃ v, e = .returned v ∧ Ow w.heap.size w w' v (sealB (wire F)) := by
  have HW : Hid (wire F = [UInt8.ofNat 4, pb F.frm] ++ (encV F.idN F.idP ++ (encV F.promN F.promP))) := by
    show _ = _
    unfold wire headV body
    rw [hk]
    simp [List.append_assoc]
  have HLN : Hid (2 + ((encV F.idN F.idP).length + ((encV F.promN F.promP).length)) ≤ 1048576) := by
    show _ ≤ _
    rw [HW.out] at hl
    simp only [List.length_append, List.length_cons, List.length_nil] at hl
    omega
  have hln := HLN.out
  obtain ⟨wa, hwa⟩ : ∃ wa, w.alloc (.cells #[.int .u8 4, .int .i64 F.frm, .int .u64 (F.idN : Nat), .int .i64 F.idP, .int .u16 (F.set : Nat), .int .u64 (F.curN : Nat), .int .i64 F.curP, .int .u64 (F.promN : Nat), .int .i64 F.promP, .slice a.so F.st.length a.sc, .int .u64 (F.base : Nat), .slice a.mo F.ms.length a.mc, .slice a.io F.it.length a.ic, .int .u64 (F.ack : Nat), .int .u64 (F.safe : Nat)] 30) = wa := ⟨_, rfl⟩
  have hua : Below w.heap.size w wa := by rw [← hwa]; exact bl1 _ _
  have hsa : wa.heap.size = w.heap.size + 1 := by rw [← hwa]; simp
  have hb0 : Bf w.heap.size F a wa := by
    rw [← hwa]
    have := bf_new w F a 30
    unfold fcells at this
    rw [hk] at this
    exact this
  have HB : Hid (∀ W, Below wa.heap.size wa W → Bf w.heap.size F a W) := fun W u => hb0.up u
  have HIN : Hid (FIn p wa F a) := hin.up hua
  have hpb := pb_num F.frm hf0 hf15
  have hwr : IntKind.u8.wrap F.frm = F.frm := IntWalk.u8_in _ (by omega)
  have HK : Hid (F.kind = 4) := hk
  have ho0 : Ow wa.heap.size wa (wa.alloc (.cells #[.int .u8 4, .int .u8 F.frm] 5)) (.slice (some ⟨w.heap.size + 1, 0, none⟩) 2 2) [UInt8.ofNat 4, pb F.frm] := by
    refine ⟨?_, bl1 _ _, by simp⟩
    have := World.ownsRow_lit (base := wa.heap.size) (e := 5) (size := 1) wa #[.int .u8 4, .int .u8 F.frm] 2 (Nat.le_refl _) (by unfold maxLen; omega) rfl
    rw [List.map_cons, List.map_cons, hpb, ← hsa]
    exact this
  have c0 : wa.cell? ⟨w.heap.size, 0, none⟩ = some (.int .u8 4) := by have := hb0.c0; rw [HK.out] at this; exact this
  have c1 := hb0.c1
  have hslen : w.heap.size < wa.heap.size := by omega
  obtain ⟨R0, HR0⟩ : ∃ R0, Hid ([UInt8.ofNat 4, pb F.frm] = R0) := ⟨_, rfl⟩
  rw [HR0.out] at ho0
  have hR0 : R0.length = 2 := by rw [← HR0.out]; rfl
  have hc1 := fun W => refEncode_ow W F.idN ho.idN F.idP fi
  have hp1 := encV_pos F.idN F.idP
  obtain ⟨E1, HE1⟩ : ∃ E, Hid (encV F.idN F.idP = E) := ⟨_, rfl⟩
  rw [HE1.out] at hp1 HLN
  simp only [HE1.out] at hc1
  have hc2 := fun W => refEncode_ow W F.promN ho.promN F.promP fp
  have hp2 := encV_pos F.promN F.promP
  obtain ⟨E2, HE2⟩ : ∃ E, Hid (encV F.promN F.promP = E) := ⟨_, rfl⟩
  rw [HE2.out] at hp2 HLN
  simp only [HE2.out] at hc2
  have HWW : Hid (R0 ++ E1 ++ E2 = wire F) := by
    show _ = _
    rw [HW.out, HE1.out, HE2.out, HR0.out]
    simp [List.append_assoc]
  have hlen := HLN.out
  have hsl9 := fun W ao n cap xs (h : Cd.Row W ao n cap xs) (hr : n + 4 ≤ 140737488355328) => Cd.refSeal_any W ao n cap xs h hr
  have HWA : Hid (w.alloc (.cells #[.int .u8 4, .int .i64 F.frm, .int .u64 (F.idN : Nat), .int .i64 F.idP, .int .u16 (F.set : Nat), .int .u64 (F.curN : Nat), .int .i64 F.curP, .int .u64 (F.promN : Nat), .int .i64 F.promP, .slice a.so F.st.length a.sc, .int .u64 (F.base : Nat), .slice a.mo F.ms.length a.mc, .slice a.io F.it.length a.ic, .int .u64 (F.ack : Nat), .int .u64 (F.safe : Nat)] 30) = wa) := hwa
  have HUA : Hid (Below w.heap.size w wa) := hua
  obtain ⟨wb, hwb⟩ : ∃ wb, wa.alloc (.cells #[.int .u8 4, .int .u8 F.frm] 5) = wb := ⟨_, rfl⟩
  rw [hwb] at ho0
  have HO0 : Hid (Ow wa.heap.size wa wb (.slice (some ⟨w.heap.size + 1, 0, none⟩) 2 2) R0) := ho0
  have HWB : Hid (wa.alloc (.cells #[.int .u8 4, .int .u8 F.frm] 5) = wb) := hwb
  clear hwa hua hsa hb0 hin hpb hk hf0 hf15 fi fc fp hs hsl hi hl HW hln HR0 HE1 HE2 HLN ho HIN ho0 hwb
  obtain ⟨d0, d1, d2, d3, d4, d5, d6, d7, d8, d9, d10, d11, d12, d13, d14⟩ := HB.out _ HO0.out.2.1
  rw [HK.out] at d0
  go_enter Try.func15, Try.ntmps15
  go_wp2_with fail
  (try rw [HWA.out])
  (try rw [HWB.out])
  refine (hc1 _).mono ?_
  rintro e x1 ⟨y1, rfl, hy1⟩
  have hP1 := (HO0.out).up hy1.2.1
  obtain ⟨g1, k1, rfl, hcs1⟩ := ow_some hy1 hp1
  clear hc1 hy1 d0 d1 d2 d3 d4 d5 d6 d7 d8 d9 d10 d11 d12 d13 d14 c0 c1
  obtain ⟨d0, d1, d2, d3, d4, d5, d6, d7, d8, d9, d10, d11, d12, d13, d14⟩ := HB.out _ hP1.2.1
  rw [HK.out] at d0
  go_wp2_with (first | (at_builtin; refine wpList_append_ow rfl _ _ rfl wa.heap.size wa x1 (.slice (some ⟨w.heap.size + 1, 0, none⟩) 2 2) _ rfl hP1 ⟨g1, 0, none⟩ E1.length k1 E1 rfl rfl hcs1 ?d1 ?_))
  case d1 => first | omega | (simp only [List.length_append]; omega)
  intro v1 z1 hz1
  clear hP1 hcs1 d0 d1 d2 d3 d4 d5 d6 d7 d8 d9 d10 d11 d12 d13 d14
  obtain ⟨d0, d1, d2, d3, d4, d5, d6, d7, d8, d9, d10, d11, d12, d13, d14⟩ := HB.out _ hz1.2.1
  rw [HK.out] at d0
  go_wp2_with fail
  refine (hc2 _).mono ?_
  rintro e x2 ⟨y2, rfl, hy2⟩
  have hP2 := (hz1).up hy2.2.1
  obtain ⟨g2, k2, rfl, hcs2⟩ := ow_some hy2 hp2
  clear hc2 hy2 d0 d1 d2 d3 d4 d5 d6 d7 d8 d9 d10 d11 d12 d13 d14
  obtain ⟨d0, d1, d2, d3, d4, d5, d6, d7, d8, d9, d10, d11, d12, d13, d14⟩ := HB.out _ hP2.2.1
  rw [HK.out] at d0
  go_wp2_with (first | (at_builtin; refine wpList_append_ow rfl _ _ rfl wa.heap.size wa x2 v1 _ rfl hP2 ⟨g2, 0, none⟩ E2.length k2 E2 rfl rfl hcs2 ?d1 ?_))
  case d1 => first | omega | (simp only [List.length_append]; omega)
  intro v2 z2 hz2
  clear hP2 hcs2 d0 d1 d2 d3 d4 d5 d6 d7 d8 d9 d10 d11 d12 d13 d14
  obtain ⟨d0, d1, d2, d3, d4, d5, d6, d7, d8, d9, d10, d11, d12, d13, d14⟩ := HB.out _ hz2.2.1
  rw [HK.out] at d0
  have hzz : Ow wa.heap.size wa z2 v2 (wire F) := by
    have := hz2
    rw [← HWW.out]
    simpa [List.append_assoc] using this
  have hwl : (wire F).length ≤ 1048576 := by
    rw [← HWW.out]
    simp only [List.length_append]
    omega
  obtain ⟨ao, cap, rfl, hrx⟩ := own_rx hzz.1 (by omega)
  have hsc := hsl9 z2 ao _ cap (wire F) hrx.row (by omega)
  have HZ : Hid (Below w.heap.size w z2 ∧ w.heap.size ≤ z2.heap.size) := ⟨HUA.out.trans (hzz.2.1.mono HUA.out.size), Nat.le_trans HUA.out.size hzz.2.2⟩
  obtain ⟨L, HL⟩ : ∃ L, Hid ((wire F).length = L) := ⟨_, rfl⟩
  rw [HL.out] at hsc ⊢
  clear hzz hrx hwl hsl9 hz2 HWW hp1 hp2
  go_wp2_with fail
  refine hsc.mono ?_
  rintro e wz ⟨vz, rfl, hoz, hbz⟩
  have HF : Hid (Ow w.heap.size w wz vz (sealB (wire F))) := by
    refine ⟨?_, HZ.out.1.trans (hbz.mono HZ.out.2), Nat.le_trans HZ.out.2 hbz.size⟩
    rw [sealB_len, HL.out]
    exact Cd.owns_mono hoz HZ.out.2
  clear hsc hoz hbz d0 d1 d2 d3 d4 d5 d6 d7 d8 d9 d10 d11 d12 d13 d14
  go_wp2
  go_ret
  exact ⟨vz, rfl, HF.out⟩
end Go.Proofs.Ytfemjbaadnjanaa
