/-
  The document's Decode at bytes whose kind is 2.
-/
import Derived.Test.YtfemjbaadnjanaaFUndAll
namespace Go.Proofs.Ytfemjbaadnjanaa
open Go.RowKit
set_option linter.unusedVariables false
set_option linter.unusedSimpArgs false

set_option maxRecDepth 20000 in
set_option maxHeartbeats 4000000 in
theorem refDecF_2 (w : World) (ao : Option Addr) (n cap : Nat) (xs : List UInt8) (h : Cd.Row w ao n cap xs) (hn : n ≤ 1048576) (ys : List UInt8) (ho : Cd.opened xs = (0, ys)) (hK : (Cd.rInt (some ys) 7).1 = 2) :
    Calls Try.prog 18 #[.slice ao n cap] w fun e w' => RefAns w' xs e ∧ Below w.heap.size w w' := by
  have hop := open18 w ao n cap xs h hn
  have HOP : Hid ((Cd.opened xs).1 = 0 ∧ (Cd.opened xs).2 = ys) := by rw [ho]; exact ⟨rfl, rfl⟩
  have HXS : Hid (xs = sealB ys) := by have := opened_ok HOP.out.1; rw [HOP.out.2] at this; exact this
  have HN : Hid (xs.length ≤ 1048576) := by have := h.1; show _ ≤ _; omega
  have hyl : ys.length ≤ 1048576 := by have := opened_len xs; rw [HOP.out.2] at this; have := HN.out; omega
  have HRW : Hid (Cd.Row w ao n cap xs) := h
  rw [ho] at hop
  simp only at hop
  have HF : Hid (rFrame 1073741824 (some ys) = ({ zeroF with kind := 2, frm := (((Cd.rInt (Cd.rInt (some ys) 7).2 15).1 : Nat) : Int), idN := (decV (Cd.rInt (Cd.rInt (some ys) 7).2 15).2).1.1, idP := (((decV (Cd.rInt (Cd.rInt (some ys) 7).2 15).2).1.2 : Nat) : Int), set := (Cd.rInt (decV (Cd.rInt (Cd.rInt (some ys) 7).2 15).2).2 65535).1 }, (Cd.rInt (decV (Cd.rInt (Cd.rInt (some ys) 7).2 15).2).2 65535).2)) := by
    show _ = _
    unfold rFrame rIdent rHead rBody
    simp [hK, zeroF]
  have hnI : ¬ (1048576 : Int) < (n : Int) := by omega
  clear h ho hn
  obtain ⟨yn, HYN⟩ : ∃ yn, Hid (ys.length = yn) := ⟨_, rfl⟩
  rw [HYN.out] at hop hyl
  go_enter Try.func18, Try.ntmps18
  go_wp2_with fail
  refine hop.mono ?_
  rintro e w1 ⟨vo, vc, rfl, H1⟩
  have hc := H1.int hyl 2 hK
  generalize Cd.rInt (some ys) 7 = r0 at *
  obtain ⟨K0, s0⟩ := r0
  simp only at *
  clear hop H1 hK
  go_wp2_with fail
  refine hc.mono ?_
  rintro e w2 ⟨rfl, hmB, dq⟩
  clear hc
  have hc := dq.int hyl 15 (by omega) (by omega)
  generalize Cd.rInt s0 15 = r1 at *
  obtain ⟨FR, s1⟩ := r1
  simp only at *
  generalize w1.heap.size = m at *
  generalize hB : w2.heap.size = B at *
  clear dq hmB
  go_wp2_with fail
  (try simp only [hB])
  refine hc.mono ?_
  rintro e w3 ⟨rfl, dq⟩
  clear hc hB
  have k0 : w3.cell? ⟨B, 0, none⟩ = some (.int .u8 2) := dq.bf.c0
  have k1 : w3.cell? ⟨B, 1, none⟩ = some (.int .i64 0) := dq.bf.c1
  have z1 := dq.fz 1
  replace dq : Dq w (Qv vo yn) m B vo yn vc ys (w3.setCell ⟨B, 1, none⟩ (.int .i64 (FR : Nat))) { zeroF with kind := 2, frm := ((FR : Nat) : Int) } Fa.none s1 := dq.set1 rfl rfl rfl rfl
  have k0b : (w3.setCell ⟨B, 1, none⟩ (.int .i64 (FR : Nat))).cell? ⟨B, 0, none⟩ = some (.int .u8 2) := dq.bf.c0
  obtain ⟨wq, hwq⟩ : ∃ wq, (w3.setCell ⟨B, 1, none⟩ (.int .i64 (FR : Nat))) = wq := ⟨_, rfl⟩
  rw [hwq] at dq k0b
  have HWQ : Hid ((w3.setCell ⟨B, 1, none⟩ (.int .i64 (FR : Nat))) = wq) := hwq
  clear hwq
  have hc := dq.view hyl
  generalize decV s1 = dv at *
  obtain ⟨⟨N2, P2⟩, s2⟩ := dv
  simp only at *
  clear dq
  go_wp2_with fail
  rw [HWQ.out]
  refine hc.mono ?_
  clear k1 z1 k0
  rintro e w4 ⟨rfl, dq⟩
  clear hc HWQ k0b
  have k0 : w4.cell? ⟨B, 0, none⟩ = some (.int .u8 2) := dq.bf.c0
  have k2 : w4.cell? ⟨B, 2, none⟩ = some (.int .u64 0) := dq.bf.c2
  have z2 := dq.fz 2
  have k3 : w4.cell? ⟨B, 3, none⟩ = some (.int .i64 0) := dq.bf.c3
  have z3 := dq.fz 3
  replace dq : Dq w (Qv vo yn) m B vo yn vc ys (w4.setCell ⟨B, 2, none⟩ (.int .u64 (N2 : Nat))) { zeroF with kind := 2, frm := ((FR : Nat) : Int), idN := N2 } Fa.none s2 := dq.set1 rfl rfl rfl rfl
  replace dq : Dq w (Qv vo yn) m B vo yn vc ys ((w4.setCell ⟨B, 2, none⟩ (.int .u64 (N2 : Nat))).setCell ⟨B, 3, none⟩ (.int .i64 (P2 : Nat))) { zeroF with kind := 2, frm := ((FR : Nat) : Int), idN := N2, idP := ((P2 : Nat) : Int) } Fa.none s2 := dq.set1 rfl rfl rfl rfl
  have k0b : ((w4.setCell ⟨B, 2, none⟩ (.int .u64 (N2 : Nat))).setCell ⟨B, 3, none⟩ (.int .i64 (P2 : Nat))).cell? ⟨B, 0, none⟩ = some (.int .u8 2) := dq.bf.c0
  obtain ⟨wq, hwq⟩ : ∃ wq, ((w4.setCell ⟨B, 2, none⟩ (.int .u64 (N2 : Nat))).setCell ⟨B, 3, none⟩ (.int .i64 (P2 : Nat))) = wq := ⟨_, rfl⟩
  rw [hwq] at dq k0b
  have HWQ : Hid (((w4.setCell ⟨B, 2, none⟩ (.int .u64 (N2 : Nat))).setCell ⟨B, 3, none⟩ (.int .i64 (P2 : Nat))) = wq) := hwq
  clear hwq
  have hc := dq.int hyl 65535 (by omega) (by omega)
  have hle : (Cd.rInt s2 65535).1 ≤ 65535 := rInt_small s2 65535
  generalize Cd.rInt s2 65535 = dv at *
  obtain ⟨N4, s3⟩ := dv
  simp only at *
  clear dq
  go_wp2_with fail
  rw [HWQ.out]
  refine hc.mono ?_
  clear k2 z2 k3 z3 k0
  rintro e w5 ⟨rfl, dq⟩
  clear hc HWQ k0b
  have k0 : w5.cell? ⟨B, 0, none⟩ = some (.int .u8 2) := dq.bf.c0
  have k4 : w5.cell? ⟨B, 4, none⟩ = some (.int .u16 0) := dq.bf.c4
  have z4 := dq.fz 4
  replace dq : Dq w (Qv vo yn) m B vo yn vc ys (w5.setCell ⟨B, 4, none⟩ (.int .u16 (N4 : Nat))) { zeroF with kind := 2, frm := ((FR : Nat) : Int), idN := N2, idP := ((P2 : Nat) : Int), set := N4 } Fa.none s3 := dq.set1 rfl rfl rfl rfl
  have k0b : (w5.setCell ⟨B, 4, none⟩ (.int .u16 (N4 : Nat))).cell? ⟨B, 0, none⟩ = some (.int .u8 2) := dq.bf.c0
  obtain ⟨wt, hwt⟩ : ∃ wt, (w5.setCell ⟨B, 4, none⟩ (.int .u16 (N4 : Nat))) = wt := ⟨_, rfl⟩
  rw [hwt] at dq k0b
  have HWT : Hid ((w5.setCell ⟨B, 4, none⟩ (.int .u16 (N4 : Nat))) = wt) := hwt
  obtain ⟨F, hF⟩ : ∃ F : PF, { zeroF with kind := 2, frm := ((FR : Nat) : Int), idN := N2, idP := ((P2 : Nat) : Int), set := N4 } = F := ⟨_, rfl⟩
  obtain ⟨a, ha⟩ : ∃ a : Fa, Fa.none = a := ⟨_, rfl⟩
  have dqt : Dq w (Qv vo yn) m B vo yn vc ys wt F a s3 := by rw [← hF, ← ha]; exact dq
  have HST : Hid (s3 = (rFrame 1073741824 (some ys)).2 ∧ (s3 ≠ none → F = (rFrame 1073741824 (some ys)).1)) := by
    rw [HF.out, ← hF]
    exact ⟨rfl, fun _ => rfl⟩
  generalize s3 = st at *
  clear dq hF ha hwt HF
  have HLE : Hid (FIn (fun b => Qv vo yn b ∨ B < b) wt F a) := dqt.fin
  obtain ⟨A, hA, hA1, hA2⟩ := end18 dqt
  have hrz := dqt.rz
  have hbl := dqt.bl
  have hfb := dqt.fb
  have hrm := dqt.rm
  have hmB := dqt.mB
  have hBl := dqt.lt
  have HQ : Hid (∀ b, Qv vo yn b → b < w.heap.size) := dqt.q
  have HS1 : Hid (∀ V, Below wt.heap.size wt V → V.cell? ⟨m, 1, none⟩ = some (.int .i64 A)) := fun V u => dqt.cell1 hA u
  have HBF : Hid (∀ V, Below wt.heap.size wt V → Bf B F a V) := fun V u => dqt.bf.up u
  have u0 : Below wt.heap.size wt wt.drew := ((Up.refl wt).drew).bl
  clear dqt hA
  by_cases hat : A = (yn : Nat)
  · have hst0 := hA1 hat
    clear hA2 hA1
    subst hat
    have HFR : Hid ((rFrame 1073741824 (some ys)).2 = some [] ∧ F = (rFrame 1073741824 (some ys)).1) := ⟨by rw [← HST.out.1, hst0], HST.out.2 (by rw [hst0]; simp)⟩
    obtain ⟨⟨xs2, he2, hx2⟩, hpo, hsm⟩ := rFrame_some HFR.out.1 (by omega)
    rw [← HFR.out.2] at hx2 hpo hsm
    simp only [Option.some.injEq] at he2
    subst he2
    rw [List.append_nil] at hx2
    have HYW : Hid (ys = wire F) := hx2
    have hfm := fun V (u : Below wt.heap.size wt V) => refForm7_any _ V F a (HLE.out.up u) hpo.frm hpo.kind
    have HPO : Hid (POk F) := hpo
    clear hx2 hsm hst0 hpo
    unfold fval fcells at hfm
    have hAe : ((yn : Int) != (yn : Int)) = false := by simp
    cases hrt : rightF F with
    | false =>
      rw [hrt] at hfm
      have HER : Hid (decF 1073741824 xs = (3, zeroF)) := by
        show _ = _
        unfold decF
        rw [if_neg (by have := HN.out; omega), HOP.out.1, if_neg (by simp), HOP.out.2, if_neg (by rw [← HFR.out.2, hrt]; simp)]
      clear hrt HFR HYW HPO
      go_wp2_with fail
      (try rw [HWT.out])
      refine wp_region_noPanic ?_
      refine wp_region_held_drew (S := fun wx => wx.cell? ⟨m, 1, none⟩ = some (.int .i64 (yn : Nat)) ∧ Bf B F a wx) (by kernel_rfl) ⟨HS1.out _ u0, HBF.out _ u0⟩ (fun hHeld => ?_)
      refine take_first 0 (v := ?_) rfl (by kernel_rfl) (by kernel_rfl) (by kernel_rfl) (fun _ _ _ h => h) (Or.inl ⟨by rfl, by intro wx hSw; (try dsimp only at hSw); go_simp; try with_reducible rfl⟩) (by assumption) ?_
      (try simp only [Act.put, List.setIfInBounds_toArray, List.set_cons_zero, List.set_cons_succ])
      refine take_first 1 (v := ?_) rfl (by kernel_rfl) (by kernel_rfl) (by kernel_rfl) (fun _ _ _ h => h) (Or.inl ⟨by rfl, by intro wx hSw; (try dsimp only at hSw); go_simp; try with_reducible rfl⟩) (by assumption) ?_
      (try simp only [Act.put, List.setIfInBounds_toArray, List.set_cons_zero, List.set_cons_succ])
      refine take_first 2 (v := ?_) rfl (by kernel_rfl) (by kernel_rfl) (by kernel_rfl) (fun _ _ _ h => h) (Or.inl ⟨by rfl, by intro wx hSw; (try dsimp only at hSw); go_simp; try with_reducible rfl⟩) (by assumption) ?_
      (try simp only [Act.put, List.setIfInBounds_toArray, List.set_cons_zero, List.set_cons_succ])
      refine take_first 3 (v := ?_) rfl (by kernel_rfl) (by kernel_rfl) (by kernel_rfl) (fun _ _ _ h => h) (Or.inl ⟨by rfl, by intro wx hSw; (try dsimp only at hSw); obtain ⟨hm1, ⟨x0, x1, x2, x3, x4, x5, x6, x7, x8, x9, x10, x11, x12, x13, x14⟩⟩ := hSw; go_simp; try with_reducible rfl⟩) (by assumption) ?_
      (try simp only [Act.put, List.setIfInBounds_toArray, List.set_cons_zero, List.set_cons_succ])
      refine take_first 4 (v := ?_) rfl (by kernel_rfl) (by kernel_rfl) (by kernel_rfl) (fun _ _ _ h => h) (Or.inl ⟨by rfl, by intro wx hSw; (try dsimp only at hSw); go_simp; try with_reducible rfl⟩) (by assumption) ?_
      (try simp only [Act.put, List.setIfInBounds_toArray, List.set_cons_zero, List.set_cons_succ])
      refine take_first 5 (v := ?_) rfl (by kernel_rfl) (by kernel_rfl) (by kernel_rfl) (fun _ _ _ h => h) (Or.inl ⟨by rfl, by intro wx hSw; (try dsimp only at hSw); go_simp; try with_reducible rfl⟩) (by assumption) ?_
      (try simp only [Act.put, List.setIfInBounds_toArray, List.set_cons_zero, List.set_cons_succ])
      refine take_first 6 (v := ?_) rfl (by kernel_rfl) (by kernel_rfl) (by kernel_rfl) (fun _ _ _ h => h) (Or.inl ⟨by rfl, by intro wx hSw; (try dsimp only at hSw); go_simp; try with_reducible rfl⟩) (by assumption) ?_
      (try simp only [Act.put, List.setIfInBounds_toArray, List.set_cons_zero, List.set_cons_succ])
      refine take_first 7 (v := ?_) rfl (by kernel_rfl) (by kernel_rfl) (by kernel_rfl) (fun _ _ _ h => h) (Or.inl ⟨by rfl, by intro wx hSw; (try dsimp only at hSw); go_simp; try with_reducible rfl⟩) (by assumption) ?_
      (try simp only [Act.put, List.setIfInBounds_toArray, List.set_cons_zero, List.set_cons_succ])
      refine take_first 8 (v := ?_) rfl (by kernel_rfl) (by kernel_rfl) (by kernel_rfl) (fun _ _ _ h => h) (Or.inl ⟨by rfl, by intro wx hSw; (try dsimp only at hSw); obtain ⟨hm1, ⟨x0, x1, x2, x3, x4, x5, x6, x7, x8, x9, x10, x11, x12, x13, x14⟩⟩ := hSw; go_simp; try with_reducible rfl⟩) (by assumption) ?_
      (try simp only [Act.put, List.setIfInBounds_toArray, List.set_cons_zero, List.set_cons_succ])
      refine comes_up 9 rfl (by kernel_rfl) (fun K hK => ?_)
      go_simp
      refine (hfm _ u0).mono ?_
      rintro e w7 ⟨rfl, hu7⟩
      have u7 : Below wt.heap.size wt w7 := bl_step u0 hu7.bl
      clear hHeld hfm hu7
      go_wp2_with fail
      refine hK.out _ _ ⟨HS1.out w7 u7, HBF.out w7 u7⟩ (fun hHeld => ?_)
      clear hK K
      (try simp only [Act.put, List.setIfInBounds_toArray, List.set_cons_zero, List.set_cons_succ])
      refine take_first 10 (v := ?_) rfl (by kernel_rfl) (by kernel_rfl) (by kernel_rfl) (fun _ _ _ h => h) (Or.inl ⟨by rfl, by intro wx hSw; (try dsimp only at hSw); go_simp; try with_reducible rfl⟩) (by assumption) ?_
      (try simp only [Act.put, List.setIfInBounds_toArray, List.set_cons_zero, List.set_cons_succ])
      refine take_first 11 (v := ?_) rfl (by kernel_rfl) (by kernel_rfl) (by kernel_rfl) (fun _ _ _ h => h) (Or.inl ⟨by rfl, by intro wx hSw; (try dsimp only at hSw); go_simp; try with_reducible rfl⟩) (by assumption) ?_
      (try simp only [Act.put, List.setIfInBounds_toArray, List.set_cons_zero, List.set_cons_succ])
      refine take_first 12 (v := ?_) rfl (by kernel_rfl) (by kernel_rfl) (by kernel_rfl) (fun _ _ _ h => h) (Or.inl ⟨by rfl, by intro wx hSw; (try dsimp only at hSw); go_simp; try with_reducible rfl⟩) (by assumption) ?_
      (try simp only [Act.put, List.setIfInBounds_toArray, List.set_cons_zero, List.set_cons_succ])
      refine take_first 13 (v := undef) rfl (by kernel_rfl) (by kernel_rfl) (by kernel_rfl) (fun _ _ _ h => h) (Or.inr ⟨by rfl, rfl⟩) (by assumption) ?_
      (try simp only [Act.put, List.setIfInBounds_toArray, List.set_cons_zero, List.set_cons_succ])
      refine take_first 14 (v := undef) rfl (by kernel_rfl) (by kernel_rfl) (by kernel_rfl) (fun _ _ _ h => h) (Or.inr ⟨by rfl, rfl⟩) (by assumption) ?_
      (try simp only [Act.put, List.setIfInBounds_toArray, List.set_cons_zero, List.set_cons_succ])
      refine take_first 15 (v := undef) rfl (by kernel_rfl) (by kernel_rfl) (by kernel_rfl) (fun _ _ _ h => h) (Or.inr ⟨by rfl, rfl⟩) (by assumption) ?_
      (try simp only [Act.put, List.setIfInBounds_toArray, List.set_cons_zero, List.set_cons_succ])
      refine take_first 16 (v := undef) rfl (by kernel_rfl) (by kernel_rfl) (by kernel_rfl) (fun _ _ _ h => h) (Or.inr ⟨by rfl, rfl⟩) (by assumption) ?_
      (try simp only [Act.put, List.setIfInBounds_toArray, List.set_cons_zero, List.set_cons_succ])
      refine take_first 17 (v := undef) rfl (by kernel_rfl) (by kernel_rfl) (by kernel_rfl) (fun _ _ _ h => h) (Or.inr ⟨by rfl, rfl⟩) (by assumption) ?_
      (try simp only [Act.put, List.setIfInBounds_toArray, List.set_cons_zero, List.set_cons_succ])
      refine take_first 18 (v := undef) rfl (by kernel_rfl) (by kernel_rfl) (by kernel_rfl) (fun _ _ _ h => h) (Or.inr ⟨by rfl, rfl⟩) (by assumption) ?_
      (try simp only [Act.put, List.setIfInBounds_toArray, List.set_cons_zero, List.set_cons_succ])
      refine take_first 19 (v := ?_) rfl (by kernel_rfl) (by kernel_rfl) (by kernel_rfl) (fun _ _ _ h => h) (Or.inl ⟨by rfl, by intro wx hSw; (try dsimp only at hSw); go_simp; try with_reducible rfl⟩) (by assumption) ?_
      (try simp only [Act.put, List.setIfInBounds_toArray, List.set_cons_zero, List.set_cons_succ])
      refine wpAnyH_done (by kernel_rfl) ?_ _
      refine NoPanic.normal ?_
      clear hHeld
      have z7 := (u7.block w.heap.size (by omega)).trans hrz
      unfold zero15 at z7
      have hb7 := bl_step hbl u7
      have hzs := setRow_heap w7 w.heap.size _ #[.int .u8 0, .int .i64 0, .int .u64 0, .int .i64 0, .int .u16 0, .int .u64 0, .int .i64 0, .int .u64 0, .int .i64 0, .slice none 0 0, .int .u64 0, .slice none 0 0, .slice none 0 0, .int .u64 0, .int .u64 0] 30 (0, 0) z7
      go_wp2_with (first | (refine wpList_store_row rfl 30 (.tmp 2) (.tmp 137) rfl w.heap.size #[.int .u8 0, .int .i64 0, .int .u64 0, .int .i64 0, .int .u16 0, .int .u64 0, .int .i64 0, .int .u64 0, .int .i64 0, .slice none 0 0, .int .u64 0, .slice none 0 0, .slice none 0 0, .int .u64 0, .int .u64 0] rfl rfl 30 _ z7 info30 rfl (by simp [Value.oneCell']) ?_))
      refine bodyPost_ret (results_cell2 (g := w.heap.size) Try.results18 rfl rfl (load30 hzs rfl)) rfl ?_
      exact ⟨refAns_zero HER.out, below_setRow hb7 (Nat.le_refl _) _⟩
    | true =>
      rw [hrt] at hfm
      have HRT : Hid (rightF F = true) := hrt
      have HOK : Hid (decF 1073741824 xs = (0, F)) := by
        show _ = _
        unfold decF
        rw [if_neg (by have := HN.out; omega), HOP.out.1, if_neg (by simp), HOP.out.2, if_pos ⟨HFR.out.1, by rw [← HFR.out.2]; exact hrt⟩, ← HFR.out.2]
      have HWL : Hid ((wire F).length ≤ 1048576) := by show _ ≤ _; rw [← HYW.out, HYN.out]; exact hyl
      have HSB : Hid (xs = sealB (wire F)) := by show _ = _; rw [← HYW.out]; exact HXS.out
      have hre := fun V (u : Below wt.heap.size wt V) => refEncF_any _ V F a (HLE.out.up u) HRT.out HPO.out HWL.out
      unfold fval fcells at hre
      have HCV : Hid (∀ V, Below wt.heap.size wt V → (convert 33 9 (.slice ao n cap)).run Try.prog V = .ok (.string (Cd.str xs)) V) := fun V u => Cd.conv_row ((HRW.out.below hbl (Nat.le_refl _)).below u (Nat.le_refl _))
      obtain ⟨s, hs⟩ : ∃ s, Cd.str (sealB (wire F)) = s := ⟨_, rfl⟩
      have HSE : Hid (Cd.str (sealB (wire F)) = s) := hs
      rw [HSB.out, hs] at HCV
      clear hrt HFR HYW HPO HRT hs
      go_wp2_with fail
      (try rw [HWT.out])
      refine wp_region_noPanic ?_
      refine wp_region_held_drew (S := fun wx => wx.cell? ⟨m, 1, none⟩ = some (.int .i64 (yn : Nat)) ∧ Bf B F a wx ∧ (convert 33 9 (.slice ao n cap)).run Try.prog wx = .ok (.string s) wx) (by kernel_rfl) ⟨HS1.out _ u0, HBF.out _ u0, HCV.out _ u0⟩ (fun hHeld => ?_)
      refine take_first 0 (v := ?_) rfl (by kernel_rfl) (by kernel_rfl) (by kernel_rfl) (fun _ _ _ h => h) (Or.inl ⟨by rfl, by intro wx hSw; (try dsimp only at hSw); go_simp; try with_reducible rfl⟩) (by assumption) ?_
      (try simp only [Act.put, List.setIfInBounds_toArray, List.set_cons_zero, List.set_cons_succ])
      refine take_first 1 (v := ?_) rfl (by kernel_rfl) (by kernel_rfl) (by kernel_rfl) (fun _ _ _ h => h) (Or.inl ⟨by rfl, by intro wx hSw; (try dsimp only at hSw); go_simp; try with_reducible rfl⟩) (by assumption) ?_
      (try simp only [Act.put, List.setIfInBounds_toArray, List.set_cons_zero, List.set_cons_succ])
      refine take_first 2 (v := ?_) rfl (by kernel_rfl) (by kernel_rfl) (by kernel_rfl) (fun _ _ _ h => h) (Or.inl ⟨by rfl, by intro wx hSw; (try dsimp only at hSw); go_simp; try with_reducible rfl⟩) (by assumption) ?_
      (try simp only [Act.put, List.setIfInBounds_toArray, List.set_cons_zero, List.set_cons_succ])
      refine take_first 3 (v := ?_) rfl (by kernel_rfl) (by kernel_rfl) (by kernel_rfl) (fun _ _ _ h => h) (Or.inl ⟨by rfl, by intro wx hSw; (try dsimp only at hSw); obtain ⟨hm1, ⟨x0, x1, x2, x3, x4, x5, x6, x7, x8, x9, x10, x11, x12, x13, x14⟩, hcv⟩ := hSw; go_simp; try with_reducible rfl⟩) (by assumption) ?_
      (try simp only [Act.put, List.setIfInBounds_toArray, List.set_cons_zero, List.set_cons_succ])
      refine take_first 4 (v := ?_) rfl (by kernel_rfl) (by kernel_rfl) (by kernel_rfl) (fun _ _ _ h => h) (Or.inl ⟨by rfl, by intro wx hSw; (try dsimp only at hSw); go_simp; try with_reducible rfl⟩) (by assumption) ?_
      (try simp only [Act.put, List.setIfInBounds_toArray, List.set_cons_zero, List.set_cons_succ])
      refine take_first 5 (v := ?_) rfl (by kernel_rfl) (by kernel_rfl) (by kernel_rfl) (fun _ _ _ h => h) (Or.inl ⟨by rfl, by intro wx hSw; (try dsimp only at hSw); go_simp; try with_reducible rfl⟩) (by assumption) ?_
      (try simp only [Act.put, List.setIfInBounds_toArray, List.set_cons_zero, List.set_cons_succ])
      refine take_first 6 (v := ?_) rfl (by kernel_rfl) (by kernel_rfl) (by kernel_rfl) (fun _ _ _ h => h) (Or.inl ⟨by rfl, by intro wx hSw; (try dsimp only at hSw); go_simp; try with_reducible rfl⟩) (by assumption) ?_
      (try simp only [Act.put, List.setIfInBounds_toArray, List.set_cons_zero, List.set_cons_succ])
      refine take_first 7 (v := ?_) rfl (by kernel_rfl) (by kernel_rfl) (by kernel_rfl) (fun _ _ _ h => h) (Or.inl ⟨by rfl, by intro wx hSw; (try dsimp only at hSw); go_simp; try with_reducible rfl⟩) (by assumption) ?_
      (try simp only [Act.put, List.setIfInBounds_toArray, List.set_cons_zero, List.set_cons_succ])
      refine take_first 8 (v := ?_) rfl (by kernel_rfl) (by kernel_rfl) (by kernel_rfl) (fun _ _ _ h => h) (Or.inl ⟨by rfl, by intro wx hSw; (try dsimp only at hSw); obtain ⟨hm1, ⟨x0, x1, x2, x3, x4, x5, x6, x7, x8, x9, x10, x11, x12, x13, x14⟩, hcv⟩ := hSw; go_simp; try with_reducible rfl⟩) (by assumption) ?_
      (try simp only [Act.put, List.setIfInBounds_toArray, List.set_cons_zero, List.set_cons_succ])
      refine comes_up 9 rfl (by kernel_rfl) (fun K hK => ?_)
      go_simp
      refine (hfm _ u0).mono ?_
      rintro e w7 ⟨rfl, hu7⟩
      have u7 : Below wt.heap.size wt w7 := bl_step u0 hu7.bl
      clear hHeld hfm hu7
      go_wp2_with fail
      refine hK.out _ _ ⟨HS1.out w7 u7, HBF.out w7 u7, HCV.out w7 u7⟩ (fun hHeld => ?_)
      clear hK K
      (try simp only [Act.put, List.setIfInBounds_toArray, List.set_cons_zero, List.set_cons_succ])
      refine take_first 10 (v := ?_) rfl (by kernel_rfl) (by kernel_rfl) (by kernel_rfl) (fun _ _ _ h => h) (Or.inl ⟨by rfl, by intro wx hSw; (try dsimp only at hSw); go_simp; try with_reducible rfl⟩) (by assumption) ?_
      (try simp only [Act.put, List.setIfInBounds_toArray, List.set_cons_zero, List.set_cons_succ])
      refine take_first 11 (v := ?_) rfl (by kernel_rfl) (by kernel_rfl) (by kernel_rfl) (fun _ _ _ h => h) (Or.inl ⟨by rfl, by intro wx hSw; (try dsimp only at hSw); go_simp; try with_reducible rfl⟩) (by assumption) ?_
      (try simp only [Act.put, List.setIfInBounds_toArray, List.set_cons_zero, List.set_cons_succ])
      refine take_first 12 (v := ?_) rfl (by kernel_rfl) (by kernel_rfl) (by kernel_rfl) (fun _ _ _ h => h) (Or.inl ⟨by rfl, by intro wx hSw; (try dsimp only at hSw); go_simp; try with_reducible rfl⟩) (by assumption) ?_
      (try simp only [Act.put, List.setIfInBounds_toArray, List.set_cons_zero, List.set_cons_succ])
      refine take_first 13 (v := ?_) rfl (by kernel_rfl) (by kernel_rfl) (by kernel_rfl) (fun _ _ _ h => h) (Or.inl ⟨by rfl, by intro wx hSw; (try dsimp only at hSw); obtain ⟨hm1, ⟨x0, x1, x2, x3, x4, x5, x6, x7, x8, x9, x10, x11, x12, x13, x14⟩, hcv⟩ := hSw; go_simp; try with_reducible rfl⟩) (by assumption) ?_
      (try simp only [Act.put, List.setIfInBounds_toArray, List.set_cons_zero, List.set_cons_succ])
      refine take_first 16 (v := ?_) rfl (by kernel_rfl) (by kernel_rfl) (by kernel_rfl) (fun _ _ _ h => h) (Or.inl ⟨by rfl, by intro wx hSw; (try dsimp only at hSw); go_simp; try with_reducible rfl⟩) (by assumption) ?_
      (try simp only [Act.put, List.setIfInBounds_toArray, List.set_cons_zero, List.set_cons_succ])
      refine take_first 17 (v := ?_) rfl (by kernel_rfl) (by kernel_rfl) (by kernel_rfl) (fun _ _ _ h => h) (Or.inl ⟨by rfl, by intro wx hSw; (try dsimp only at hSw); obtain ⟨hm1, ⟨x0, x1, x2, x3, x4, x5, x6, x7, x8, x9, x10, x11, x12, x13, x14⟩, hcv⟩ := hSw; go_simp; try with_reducible rfl⟩) (by assumption) ?_
      (try simp only [Act.put, List.setIfInBounds_toArray, List.set_cons_zero, List.set_cons_succ])
      refine comes_up 14 rfl (by kernel_rfl) (fun K hK => ?_)
      go_simp
      refine (hre _ u7).mono ?_
      rintro e w8 ⟨v8, rfl, ho8⟩
      have u8 : Below wt.heap.size wt w8 := bl_step u7 ho8.2.1
      obtain ⟨qo, qc, rfl, hrx8⟩ := own_rx ho8.1 (by rw [sealB_len]; have := HWL.out; omega)
      have hcv8 := Cd.conv_row hrx8.row
      rw [HSE.out] at hcv8
      generalize (sealB (wire F)).length = ql at *
      clear hHeld hre ho8 hrx8
      go_wp2_with fail
      refine hK.out _ _ ⟨HS1.out w8 u8, HBF.out w8 u8, HCV.out w8 u8⟩ (fun hHeld => ?_)
      clear hK K
      (try simp only [Act.put, List.setIfInBounds_toArray, List.set_cons_zero, List.set_cons_succ])
      refine comes_up 15 rfl (by kernel_rfl) (fun K hK => ?_)
      go_simp
      go_wp2_with fail
      refine hK.out _ _ ⟨HS1.out w8 u8, HBF.out w8 u8, HCV.out w8 u8⟩ (fun hHeld => ?_)
      clear hK K
      (try simp only [Act.put, List.setIfInBounds_toArray, List.set_cons_zero, List.set_cons_succ])
      clear hcv8
      refine take_first 18 (v := ?_) rfl (by kernel_rfl) (by kernel_rfl) (by kernel_rfl) (fun _ _ _ h => h) (Or.inl ⟨by rfl, by intro wx hSw; (try dsimp only at hSw); go_simp; try with_reducible rfl⟩) (by assumption) ?_
      (try simp only [Act.put, List.setIfInBounds_toArray, List.set_cons_zero, List.set_cons_succ])
      refine take_first 19 (v := ?_) rfl (by kernel_rfl) (by kernel_rfl) (by kernel_rfl) (fun _ _ _ h => h) (Or.inl ⟨by rfl, by intro wx hSw; (try dsimp only at hSw); go_simp; try with_reducible rfl⟩) (by assumption) ?_
      (try simp only [Act.put, List.setIfInBounds_toArray, List.set_cons_zero, List.set_cons_succ])
      refine wpAnyH_done (by kernel_rfl) ?_ _
      refine NoPanic.normal ?_
      clear hHeld
      have z8 := (u8.block w.heap.size (by omega)).trans hrz
      have k8 := (u8.block B hBl).trans hfb
      unfold zero15 at z8
      unfold fcells at k8
      have hb8 := bl_step hbl u8
      have HIN8 : Hid (FIn (fun _ => True) (w8.setRow w.heap.size #[.int .u8 (F.kind : Nat), .int .i64 F.frm, .int .u64 (F.idN : Nat), .int .i64 F.idP, .int .u16 (F.set : Nat), .int .u64 (F.curN : Nat), .int .i64 F.curP, .int .u64 (F.promN : Nat), .int .i64 F.promP, .slice a.so F.st.length a.sc, .int .u64 (F.base : Nat), .slice a.mo F.ms.length a.mc, .slice a.io F.it.length a.ic, .int .u64 (F.ack : Nat), .int .u64 (F.safe : Nat)]) F a) := by
        have hi := HLE.out.up u8
        exact (FIn.keep hi (kp_setRow (fun b hb => hb.elim (fun hq => by have := HQ.out b hq; omega) (fun hb => by omega)))).imp (fun _ _ _ => trivial)
      have hset := setRow_heap w8 w.heap.size _ #[.int .u8 (F.kind : Nat), .int .i64 F.frm, .int .u64 (F.idN : Nat), .int .i64 F.idP, .int .u16 (F.set : Nat), .int .u64 (F.curN : Nat), .int .i64 F.curP, .int .u64 (F.promN : Nat), .int .i64 F.promP, .slice a.so F.st.length a.sc, .int .u64 (F.base : Nat), .slice a.mo F.ms.length a.mc, .slice a.io F.it.length a.ic, .int .u64 (F.ack : Nat), .int .u64 (F.safe : Nat)] 30 (0, 0) z8
      go_wp2_with (first | (refine wpList_load_row rfl 30 (.tmp 7) rfl B rfl 30 #[.int .u8 (F.kind : Nat), .int .i64 F.frm, .int .u64 (F.idN : Nat), .int .i64 F.idP, .int .u16 (F.set : Nat), .int .u64 (F.curN : Nat), .int .i64 F.curP, .int .u64 (F.promN : Nat), .int .i64 F.promP, .slice a.so F.st.length a.sc, .int .u64 (F.base : Nat), .slice a.mo F.ms.length a.mc, .slice a.io F.it.length a.ic, .int .u64 (F.ack : Nat), .int .u64 (F.safe : Nat)] (0, 0) _ k8 Try.underlying30 rfl info30 ?_) | (refine wpList_store_row rfl 30 (.tmp 2) (.tmp 138) rfl w.heap.size #[.int .u8 (F.kind : Nat), .int .i64 F.frm, .int .u64 (F.idN : Nat), .int .i64 F.idP, .int .u16 (F.set : Nat), .int .u64 (F.curN : Nat), .int .i64 F.curP, .int .u64 (F.promN : Nat), .int .i64 F.promP, .slice a.so F.st.length a.sc, .int .u64 (F.base : Nat), .slice a.mo F.ms.length a.mc, .slice a.io F.it.length a.ic, .int .u64 (F.ack : Nat), .int .u64 (F.safe : Nat)] rfl rfl 30 _ z8 info30 rfl (by simp [Value.oneCell']) ?_))
      refine bodyPost_ret (results_cell2 (g := w.heap.size) Try.results18 rfl rfl (load30 hset rfl)) rfl ?_
      refine ⟨?_, below_setRow hb8 (Nat.le_refl _) _⟩
      unfold RefAns
      rw [HOK.out]
      exact ⟨a, rfl, HIN8.out⟩
  · have hst0 := hA2 hat
    have HER : Hid (decF 1073741824 xs = (3, zeroF)) := by
      show _ = _
      unfold decF
      rw [if_neg (by have := HN.out; omega), HOP.out.1, if_neg (by simp), HOP.out.2, if_neg (by rw [← HST.out.1]; exact fun h => hst0 h.1)]
    have hAe : ((A : Int) != (yn : Int)) = true := by simpa using hat
    clear hA1 hA2 hst0 hat HST
    go_wp2_with fail
    (try rw [HWT.out])
    refine wp_region_noPanic ?_
    refine wp_region_held_drew (S := fun wx => wx.cell? ⟨m, 1, none⟩ = some (.int .i64 A)) (by kernel_rfl) (HS1.out _ u0) (fun hHeld => ?_)
    refine take_first 0 (v := ?_) rfl (by kernel_rfl) (by kernel_rfl) (by kernel_rfl) (fun _ _ _ h => h) (Or.inl ⟨by rfl, by intro wx hSw; (try dsimp only at hSw); go_simp; try with_reducible rfl⟩) (by assumption) ?_
    (try simp only [Act.put, List.setIfInBounds_toArray, List.set_cons_zero, List.set_cons_succ])
    refine take_first 1 (v := ?_) rfl (by kernel_rfl) (by kernel_rfl) (by kernel_rfl) (fun _ _ _ h => h) (Or.inl ⟨by rfl, by intro wx hSw; (try dsimp only at hSw); go_simp; try with_reducible rfl⟩) (by assumption) ?_
    (try simp only [Act.put, List.setIfInBounds_toArray, List.set_cons_zero, List.set_cons_succ])
    refine take_first 2 (v := ?_) rfl (by kernel_rfl) (by kernel_rfl) (by kernel_rfl) (fun _ _ _ h => h) (Or.inl ⟨by rfl, by intro wx hSw; (try dsimp only at hSw); go_simp; try with_reducible rfl⟩) (by assumption) ?_
    (try simp only [Act.put, List.setIfInBounds_toArray, List.set_cons_zero, List.set_cons_succ])
    refine take_first 3 (v := ?_) rfl (by kernel_rfl) (by kernel_rfl) (by kernel_rfl) (fun _ _ _ h => h) (Or.inl ⟨by rfl, by intro wx hSw; (try dsimp only at hSw); go_simp; try with_reducible rfl⟩) (by assumption) ?_
    (try simp only [Act.put, List.setIfInBounds_toArray, List.set_cons_zero, List.set_cons_succ])
    refine take_first 4 (v := ?_) rfl (by kernel_rfl) (by kernel_rfl) (by kernel_rfl) (fun _ _ _ h => h) (Or.inl ⟨by rfl, by intro wx hSw; (try dsimp only at hSw); go_simp; try with_reducible rfl⟩) (by assumption) ?_
    (try simp only [Act.put, List.setIfInBounds_toArray, List.set_cons_zero, List.set_cons_succ])
    refine take_first 5 (v := ?_) rfl (by kernel_rfl) (by kernel_rfl) (by kernel_rfl) (fun _ _ _ h => h) (Or.inl ⟨by rfl, by intro wx hSw; (try dsimp only at hSw); go_simp; try with_reducible rfl⟩) (by assumption) ?_
    (try simp only [Act.put, List.setIfInBounds_toArray, List.set_cons_zero, List.set_cons_succ])
    refine take_first 6 (v := ?_) rfl (by kernel_rfl) (by kernel_rfl) (by kernel_rfl) (fun _ _ _ h => h) (Or.inl ⟨by rfl, by intro wx hSw; (try dsimp only at hSw); go_simp; try with_reducible rfl⟩) (by assumption) ?_
    (try simp only [Act.put, List.setIfInBounds_toArray, List.set_cons_zero, List.set_cons_succ])
    refine take_first 7 (v := ?_) rfl (by kernel_rfl) (by kernel_rfl) (by kernel_rfl) (fun _ _ _ h => h) (Or.inl ⟨by rfl, by intro wx hSw; (try dsimp only at hSw); go_simp; try with_reducible rfl⟩) (by assumption) ?_
    (try simp only [Act.put, List.setIfInBounds_toArray, List.set_cons_zero, List.set_cons_succ])
    refine take_first 8 (v := undef) rfl (by kernel_rfl) (by kernel_rfl) (by kernel_rfl) (fun _ _ _ h => h) (Or.inr ⟨by rfl, rfl⟩) (by assumption) ?_
    (try simp only [Act.put, List.setIfInBounds_toArray, List.set_cons_zero, List.set_cons_succ])
    refine take_first 9 (v := undef) rfl (by kernel_rfl) (by kernel_rfl) (by kernel_rfl) (fun _ _ _ h => h) (Or.inr ⟨by rfl, rfl⟩) (by assumption) ?_
    (try simp only [Act.put, List.setIfInBounds_toArray, List.set_cons_zero, List.set_cons_succ])
    refine take_first 10 (v := undef) rfl (by kernel_rfl) (by kernel_rfl) (by kernel_rfl) (fun _ _ _ h => h) (Or.inr ⟨by rfl, rfl⟩) (by assumption) ?_
    (try simp only [Act.put, List.setIfInBounds_toArray, List.set_cons_zero, List.set_cons_succ])
    refine take_first 11 (v := ?_) rfl (by kernel_rfl) (by kernel_rfl) (by kernel_rfl) (fun _ _ _ h => h) (Or.inl ⟨by rfl, by intro wx hSw; (try dsimp only at hSw); go_simp; try with_reducible rfl⟩) (by assumption) ?_
    (try simp only [Act.put, List.setIfInBounds_toArray, List.set_cons_zero, List.set_cons_succ])
    refine take_first 12 (v := ?_) rfl (by kernel_rfl) (by kernel_rfl) (by kernel_rfl) (fun _ _ _ h => h) (Or.inl ⟨by rfl, by intro wx hSw; (try dsimp only at hSw); go_simp; try with_reducible rfl⟩) (by assumption) ?_
    (try simp only [Act.put, List.setIfInBounds_toArray, List.set_cons_zero, List.set_cons_succ])
    refine take_first 13 (v := undef) rfl (by kernel_rfl) (by kernel_rfl) (by kernel_rfl) (fun _ _ _ h => h) (Or.inr ⟨by rfl, rfl⟩) (by assumption) ?_
    (try simp only [Act.put, List.setIfInBounds_toArray, List.set_cons_zero, List.set_cons_succ])
    refine take_first 14 (v := undef) rfl (by kernel_rfl) (by kernel_rfl) (by kernel_rfl) (fun _ _ _ h => h) (Or.inr ⟨by rfl, rfl⟩) (by assumption) ?_
    (try simp only [Act.put, List.setIfInBounds_toArray, List.set_cons_zero, List.set_cons_succ])
    refine take_first 15 (v := undef) rfl (by kernel_rfl) (by kernel_rfl) (by kernel_rfl) (fun _ _ _ h => h) (Or.inr ⟨by rfl, rfl⟩) (by assumption) ?_
    (try simp only [Act.put, List.setIfInBounds_toArray, List.set_cons_zero, List.set_cons_succ])
    refine take_first 16 (v := undef) rfl (by kernel_rfl) (by kernel_rfl) (by kernel_rfl) (fun _ _ _ h => h) (Or.inr ⟨by rfl, rfl⟩) (by assumption) ?_
    (try simp only [Act.put, List.setIfInBounds_toArray, List.set_cons_zero, List.set_cons_succ])
    refine take_first 17 (v := undef) rfl (by kernel_rfl) (by kernel_rfl) (by kernel_rfl) (fun _ _ _ h => h) (Or.inr ⟨by rfl, rfl⟩) (by assumption) ?_
    (try simp only [Act.put, List.setIfInBounds_toArray, List.set_cons_zero, List.set_cons_succ])
    refine take_first 18 (v := undef) rfl (by kernel_rfl) (by kernel_rfl) (by kernel_rfl) (fun _ _ _ h => h) (Or.inr ⟨by rfl, rfl⟩) (by assumption) ?_
    (try simp only [Act.put, List.setIfInBounds_toArray, List.set_cons_zero, List.set_cons_succ])
    refine take_first 19 (v := ?_) rfl (by kernel_rfl) (by kernel_rfl) (by kernel_rfl) (fun _ _ _ h => h) (Or.inl ⟨by rfl, by intro wx hSw; (try dsimp only at hSw); go_simp; try with_reducible rfl⟩) (by assumption) ?_
    (try simp only [Act.put, List.setIfInBounds_toArray, List.set_cons_zero, List.set_cons_succ])
    refine wpAnyH_done (by kernel_rfl) ?_ _
    refine NoPanic.normal ?_
    clear hHeld
    have z7 := (u0.block w.heap.size (by omega)).trans hrz
    unfold zero15 at z7
    have hb7 := bl_step hbl u0
    have hzs := setRow_heap wt.drew w.heap.size _ #[.int .u8 0, .int .i64 0, .int .u64 0, .int .i64 0, .int .u16 0, .int .u64 0, .int .i64 0, .int .u64 0, .int .i64 0, .slice none 0 0, .int .u64 0, .slice none 0 0, .slice none 0 0, .int .u64 0, .int .u64 0] 30 (0, 0) z7
    go_wp2_with (first | (refine wpList_store_row rfl 30 (.tmp 2) (.tmp 137) rfl w.heap.size #[.int .u8 0, .int .i64 0, .int .u64 0, .int .i64 0, .int .u16 0, .int .u64 0, .int .i64 0, .int .u64 0, .int .i64 0, .slice none 0 0, .int .u64 0, .slice none 0 0, .slice none 0 0, .int .u64 0, .int .u64 0] rfl rfl 30 _ z7 info30 rfl (by simp [Value.oneCell']) ?_))
    refine bodyPost_ret (results_cell2 (g := w.heap.size) Try.results18 rfl rfl (load30 hzs rfl)) rfl ?_
    exact ⟨refAns_zero HER.out, below_setRow hb7 (Nat.le_refl _) _⟩

end Go.Proofs.Ytfemjbaadnjanaa
