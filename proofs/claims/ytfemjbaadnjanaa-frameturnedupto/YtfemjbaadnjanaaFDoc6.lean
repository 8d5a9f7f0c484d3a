/-
  The document's Decode at bytes whose kind is 6.
-/
import Derived.Test.YtfemjbaadnjanaaFMsg
namespace Go.Proofs.Ytfemjbaadnjanaa
open Go.RowKit
set_option linter.unusedVariables false
set_option linter.unusedSimpArgs false

set_option maxRecDepth 20000 in
set_option maxHeartbeats 4000000 in
theorem refDecF_6 (w : World) (ao : Option Addr) (n cap : Nat) (xs : List UInt8) (h : Cd.Row w ao n cap xs) (hn : n ≤ 1048576) (ys : List UInt8) (ho : Cd.opened xs = (0, ys)) (hK : (Cd.rInt (some ys) 7).1 = 6) :
    Calls Try.prog 18 #[.slice ao n cap] w fun e w' => RefAns w' xs e ∧ Below w.heap.size w w' := by
  have hop := open18 w ao n cap xs h hn
  have HOP : Hid ((Cd.opened xs).1 = 0 ∧ (Cd.opened xs).2 = ys) := by rw [ho]; exact ⟨rfl, rfl⟩
  have HXS : Hid (xs = sealB ys) := by have := opened_ok HOP.out.1; rw [HOP.out.2] at this; exact this
  have HN : Hid (xs.length ≤ 1048576) := by have := h.1; show _ ≤ _; omega
  have hyl : ys.length ≤ 1048576 := by have := opened_len xs; rw [HOP.out.2] at this; have := HN.out; omega
  have HRW : Hid (Cd.Row w ao n cap xs) := h
  rw [ho] at hop
  simp only at hop
  have HF : Hid (rFrame 1073741824 (some ys) = ({ zeroF with kind := 6, frm := (((Cd.rInt (Cd.rInt (some ys) 7).2 15).1 : Nat) : Int), idN := (decV (Cd.rInt (Cd.rInt (some ys) 7).2 15).2).1.1, idP := (((decV (Cd.rInt (Cd.rInt (some ys) 7).2 15).2).1.2 : Nat) : Int), base := (Cd.rUint (decV (Cd.rInt (Cd.rInt (some ys) 7).2 15).2).2).1, ack := (Cd.rUint (Cd.rUint (decV (Cd.rInt (Cd.rInt (some ys) 7).2 15).2).2).2).1, ms := (rMany rMsg (Cd.rUint (Cd.rUint (decV (Cd.rInt (Cd.rInt (some ys) 7).2 15).2).2).2).2).1 }, (rMany rMsg (Cd.rUint (Cd.rUint (decV (Cd.rInt (Cd.rInt (some ys) 7).2 15).2).2).2).2).2)) := by
    show _ = _
    unfold rFrame rIdent rHead rBody
    simp [hK, zeroF]
  have hnI : ¬ (1048576 : Int) < (n : Int) := by omega
  clear h ho hn
  obtain ⟨yn, HYN⟩ : ∃ yn, Hid (ys.length = yn) := ⟨_, rfl⟩
  rw [HYN.out] at hop hyl
  go_enter Try.func18, Try.ntmps18
  go_wp2_with fail
  refine hop.mono ?_
  rintro e w1 ⟨vo, vc, rfl, H1⟩
  have hc := H1.int hyl 6 hK
  generalize Cd.rInt (some ys) 7 = r0 at *
  obtain ⟨K0, s0⟩ := r0
  simp only at *
  clear hop H1 hK
  go_wp2_with fail
  refine hc.mono ?_
  rintro e w2 ⟨rfl, hmB, dq⟩
  clear hc
  have hc := dq.int hyl 15 (by omega) (by omega)
  generalize Cd.rInt s0 15 = r1 at *
  obtain ⟨FR, s1⟩ := r1
  simp only at *
  generalize w1.heap.size = m at *
  generalize hB : w2.heap.size = B at *
  clear dq hmB
  go_wp2_with fail
  (try simp only [hB])
  refine hc.mono ?_
  rintro e w3 ⟨rfl, dq⟩
  clear hc hB
  have k0 : w3.cell? ⟨B, 0, none⟩ = some (.int .u8 6) := dq.bf.c0
  have k1 : w3.cell? ⟨B, 1, none⟩ = some (.int .i64 0) := dq.bf.c1
  have z1 := dq.fz 1
  replace dq : Dq w (Qv vo yn) m B vo yn vc ys (w3.setCell ⟨B, 1, none⟩ (.int .i64 (FR : Nat))) { zeroF with kind := 6, frm := ((FR : Nat) : Int) } Fa.none s1 := dq.set1 rfl rfl rfl rfl
  have k0b : (w3.setCell ⟨B, 1, none⟩ (.int .i64 (FR : Nat))).cell? ⟨B, 0, none⟩ = some (.int .u8 6) := dq.bf.c0
  obtain ⟨wq, hwq⟩ : ∃ wq, (w3.setCell ⟨B, 1, none⟩ (.int .i64 (FR : Nat))) = wq := ⟨_, rfl⟩
  rw [hwq] at dq k0b
  have HWQ : Hid ((w3.setCell ⟨B, 1, none⟩ (.int .i64 (FR : Nat))) = wq) := hwq
  clear hwq
  have hc := dq.view hyl
  generalize decV s1 = dv at *
  obtain ⟨⟨N2, P2⟩, s2⟩ := dv
  simp only at *
  clear dq
  go_wp2_with fail
  rw [HWQ.out]
  refine hc.mono ?_
  clear k1 z1 k0
  rintro e w4 ⟨rfl, dq⟩
  clear hc HWQ k0b
  have k0 : w4.cell? ⟨B, 0, none⟩ = some (.int .u8 6) := dq.bf.c0
  have k2 : w4.cell? ⟨B, 2, none⟩ = some (.int .u64 0) := dq.bf.c2
  have z2 := dq.fz 2
  have k3 : w4.cell? ⟨B, 3, none⟩ = some (.int .i64 0) := dq.bf.c3
  have z3 := dq.fz 3
  replace dq : Dq w (Qv vo yn) m B vo yn vc ys (w4.setCell ⟨B, 2, none⟩ (.int .u64 (N2 : Nat))) { zeroF with kind := 6, frm := ((FR : Nat) : Int), idN := N2 } Fa.none s2 := dq.set1 rfl rfl rfl rfl
  replace dq : Dq w (Qv vo yn) m B vo yn vc ys ((w4.setCell ⟨B, 2, none⟩ (.int .u64 (N2 : Nat))).setCell ⟨B, 3, none⟩ (.int .i64 (P2 : Nat))) { zeroF with kind := 6, frm := ((FR : Nat) : Int), idN := N2, idP := ((P2 : Nat) : Int) } Fa.none s2 := dq.set1 rfl rfl rfl rfl
  have k0b : ((w4.setCell ⟨B, 2, none⟩ (.int .u64 (N2 : Nat))).setCell ⟨B, 3, none⟩ (.int .i64 (P2 : Nat))).cell? ⟨B, 0, none⟩ = some (.int .u8 6) := dq.bf.c0
  obtain ⟨wq, hwq⟩ : ∃ wq, ((w4.setCell ⟨B, 2, none⟩ (.int .u64 (N2 : Nat))).setCell ⟨B, 3, none⟩ (.int .i64 (P2 : Nat))) = wq := ⟨_, rfl⟩
  rw [hwq] at dq k0b
  have HWQ : Hid (((w4.setCell ⟨B, 2, none⟩ (.int .u64 (N2 : Nat))).setCell ⟨B, 3, none⟩ (.int .i64 (P2 : Nat))) = wq) := hwq
  clear hwq
  have hc := dq.uint hyl
  generalize Cd.rUint s2 = dv at *
  obtain ⟨N10, s3⟩ := dv
  simp only at *
  clear dq
  go_wp2_with fail
  rw [HWQ.out]
  refine hc.mono ?_
  clear k2 z2 k3 z3 k0
  rintro e w5 ⟨rfl, dq⟩
  clear hc HWQ k0b
  have k0 : w5.cell? ⟨B, 0, none⟩ = some (.int .u8 6) := dq.bf.c0
  have k10 : w5.cell? ⟨B, 10, none⟩ = some (.int .u64 0) := dq.bf.c10
  have z10 := dq.fz 10
  replace dq : Dq w (Qv vo yn) m B vo yn vc ys (w5.setCell ⟨B, 10, none⟩ (.int .u64 (N10 : Nat))) { zeroF with kind := 6, frm := ((FR : Nat) : Int), idN := N2, idP := ((P2 : Nat) : Int), base := N10 } Fa.none s3 := dq.set1 rfl rfl rfl rfl
  have k0b : (w5.setCell ⟨B, 10, none⟩ (.int .u64 (N10 : Nat))).cell? ⟨B, 0, none⟩ = some (.int .u8 6) := dq.bf.c0
  obtain ⟨wq, hwq⟩ : ∃ wq, (w5.setCell ⟨B, 10, none⟩ (.int .u64 (N10 : Nat))) = wq := ⟨_, rfl⟩
  rw [hwq] at dq k0b
  have HWQ : Hid ((w5.setCell ⟨B, 10, none⟩ (.int .u64 (N10 : Nat))) = wq) := hwq
  clear hwq
  have hc := dq.uint hyl
  generalize Cd.rUint s3 = dv at *
  obtain ⟨N13, s4⟩ := dv
  simp only at *
  clear dq
  go_wp2_with fail
  rw [HWQ.out]
  refine hc.mono ?_
  clear k10 z10 k0
  rintro e w6 ⟨rfl, dq⟩
  clear hc HWQ k0b
  have k0 : w6.cell? ⟨B, 0, none⟩ = some (.int .u8 6) := dq.bf.c0
  have k13 : w6.cell? ⟨B, 13, none⟩ = some (.int .u64 0) := dq.bf.c13
  have z13 := dq.fz 13
  replace dq : Dq w (Qv vo yn) m B vo yn vc ys (w6.setCell ⟨B, 13, none⟩ (.int .u64 (N13 : Nat))) { zeroF with kind := 6, frm := ((FR : Nat) : Int), idN := N2, idP := ((P2 : Nat) : Int), base := N10, ack := N13 } Fa.none s4 := dq.set1 rfl rfl rfl rfl
  have k0b : (w6.setCell ⟨B, 13, none⟩ (.int .u64 (N13 : Nat))).cell? ⟨B, 0, none⟩ = some (.int .u8 6) := dq.bf.c0
  obtain ⟨wq, hwq⟩ : ∃ wq, (w6.setCell ⟨B, 13, none⟩ (.int .u64 (N13 : Nat))) = wq := ⟨_, rfl⟩
  rw [hwq] at dq k0b
  have HWQ : Hid ((w6.setCell ⟨B, 13, none⟩ (.int .u64 (N13 : Nat))) = wq) := hwq
  clear hwq
  have hc := dq.int hyl 4096 (by omega) (by omega)
  have hle : (Cd.rInt s4 4096).1 ≤ 4096 := rInt_small s4 4096
  have HRM : Hid (rMany rMsg s4 = rList rMsg (Cd.rInt s4 4096).1 (Cd.rInt s4 4096).2) := rfl
  generalize Cd.rInt s4 4096 = dv at *
  obtain ⟨N, s0m⟩ := dv
  simp only at *
  clear dq
  go_wp2_with fail
  rw [HWQ.out]
  refine hc.mono ?_
  clear k13 z13 k0
  rintro e wm ⟨rfl, dq⟩
  clear hc HWQ k0b
  obtain ⟨F0, hF0⟩ : ∃ F0 : PF, { zeroF with kind := 6, frm := ((FR : Nat) : Int), idN := N2, idP := ((P2 : Nat) : Int), base := N10, ack := N13 } = F0 := ⟨_, rfl⟩
  have HF0 : Hid (F0.st = [] ∧ F0.it = [] ∧ F0.ms = []) := by rw [← hF0]; exact ⟨rfl, rfl, rfl⟩
  have HF00 : Hid ({ zeroF with kind := 6, frm := ((FR : Nat) : Int), idN := N2, idP := ((P2 : Nat) : Int), base := N10, ack := N13 } = F0) := hF0
  have dz : Dz w (Qv vo yn) m B vo yn vc ys wm { F0 with ms := [] } ⟨none, 0, none, 0, none, 0⟩ s0m := by rw [← hF0]; exact dq.dz
  have hk0 : ∀ W F a st, Dz w (Qv vo yn) m B vo yn vc ys W F a st → ∃ o, Cd.RR W m vo yn vc o ∧ Cd.same ys o st := fun W F a st h => h.rq
  clear dq hF0 hk0
  go_wp2_with fail
  go_loopw [9] (fun iv wr => ∃ (k : Nat) (mo : Option Addr) (mc : Nat) (xsm : List (Option Addr × Nat × Nat)) (ds : List (List UInt8)) (st : St), k ≤ N ∧ iv = .int .i64 k ∧ xsm.length = k ∧ ds.length = k ∧ Dz w (Qv vo yn) m B vo yn vc ys wr { F0 with ms := ds } ⟨none, 0, mo, mc, none, 0⟩ st ∧ RowQ (Qv vo yn) RmX cellM 33 1 (B + 1) wr (.slice mo k mc) xsm ds ∧ rList rMsg N s0m = comb ds (rList rMsg (N - k) st)) (fun iv _ => N - (intOf iv).toNat)
  case atStart => exact ⟨0, none, 0, [], [], s0m, by omega, rfl, rfl, rfl, dz, RowQ.nil _ _ _ _ _ _ _ rfl, by rw [Nat.sub_zero]; exact (comb_nil_list _ (fun e => rList_none e)).symm⟩
  case round =>
    clear dz
    obtain ⟨k, mo, mc, xsm, ds, st, hk, rfl, hxk, hdk, dz, hrow, hrel⟩ := hrel
    have HREL : Hid (rList rMsg N s0m = comb ds (rList rMsg (N - k) st)) := hrel
    have HXK : Hid (xsm.length = k ∧ ds.length = k) := ⟨hxk, hdk⟩
    obtain ⟨o, hrr, hsm⟩ := dz.rq
    obtain ⟨-, m1, -, -⟩ := hrr.cells
    clear hrel hxk hdk hrr
    by_cases hgo : k < N ∧ st ≠ none
    · obtain ⟨hlt, hne⟩ := hgo
      have hltI : (k : Int) < (N : Int) := by omega
      obtain ⟨zs, rfl⟩ : ∃ zs, st = some zs := by cases st with
        | none => exact absurd rfl hne
        | some zs => exact ⟨zs, rfl⟩
      obtain ⟨q, rfl, _, _⟩ := Cd.same_left hsm
      simp only [Cd.atOf] at m1
      have hqI : (0 : Int) ≤ (q : Int) := by omega
      have HST2 : Hid (rList rMsg (N - k) (some zs) = match (rMsg (some zs)).2 with
          | none => ([], none)
          | some zs' => match (rList rMsg (N - (k + 1)) (some zs')).2 with
            | none => ([], none)
            | some zs'' => ((rMsg (some zs)).1 :: (rList rMsg (N - (k + 1)) (some zs')).1, some zs'')) := by
        show _ = _
        rw [show N - k = (N - (k + 1)) + 1 by omega]
        rfl
      have u0 : Below wr.heap.size wr wr.drew := ((Up.refl wr).drew).bl
      have hc := msg_step F0 (dz.up u0) ⟨HF0.out.1, HF0.out.2.1⟩ (hrow.keepOld (r := B) (fun h k => RmX.keep h k) (Cd.grown_of_below u0 _) (by omega) (fun hq => by have := dz.q B hq; have := dz.rm; have := dz.mB; omega)) HXK.out.1 (by omega) hyl
      have hS0 : wr.drew.cell? ⟨B, 11, none⟩ = some (.slice mo k mc) := by have := (dz.up u0).c11; simpa [HXK.out.2] using this
      generalize rMsg (some zs) = rm at *
      obtain ⟨bb, s2⟩ := rm
      simp only at *
      clear hsm hrow dz hne u0
      go_wp2_with fail
      refine wp_region_noPanic ?_
      refine beginE (fun wx => wx.cell? ⟨B, 11, none⟩ = some (.slice mo k mc)) 7 (by kernel_rfl) hS0 (fun hHeld => ?_)
      refine takeE 0 (v := ?_) rfl (by kernel_rfl) (by kernel_rfl) (by kernel_rfl) (by kernel_rfl) (by kernel_rfl) (fun _ _ _ h => h) (Or.inl ⟨by rfl, by intro wx hSw; (try dsimp only at hSw); go_simp; try with_reducible rfl⟩) (by assumption) ?_
      (try simp only [Act.put, List.setIfInBounds_toArray, List.set_cons_zero, List.set_cons_succ])
      refine takeE 1 (v := ?_) rfl (by kernel_rfl) (by kernel_rfl) (by kernel_rfl) (by kernel_rfl) (by kernel_rfl) (fun _ _ _ h => h) (Or.inl ⟨by rfl, by intro wx hSw; (try dsimp only at hSw); go_simp; try with_reducible rfl⟩) (by assumption) ?_
      (try simp only [Act.put, List.setIfInBounds_toArray, List.set_cons_zero, List.set_cons_succ])
      refine takeE 2 (v := ?_) rfl (by kernel_rfl) (by kernel_rfl) (by kernel_rfl) (by kernel_rfl) (by kernel_rfl) (fun _ _ _ h => h) (Or.inl ⟨by rfl, by intro wx hSw; (try dsimp only at hSw); go_simp; try with_reducible rfl⟩) (by assumption) ?_
      (try simp only [Act.put, List.setIfInBounds_toArray, List.set_cons_zero, List.set_cons_succ])
      refine upE 3 rfl (by kernel_rfl) (fun K hK => ?_)
      go_simp
      refine hc.mono ?_
      rintro e wa ⟨po, pl, pc, mo', mc', wb, rfl, hSa, hSb, hrun, hSc, hfz, HH⟩
      clear hc hHeld
      go_wp2_with fail
      refine hK.out _ _ hSa (fun hHeld => ?_)
      clear hK K
      (try simp only [Act.put, List.setIfInBounds_toArray, List.set_cons_zero, List.set_cons_succ])
      refine upE 4 rfl (by kernel_rfl) (fun K hK => ?_)
      go_simp
      refine hK.out _ _ hSb (fun hHeld => ?_)
      clear hK K
      (try simp only [Act.put, List.setIfInBounds_toArray, List.set_cons_zero, List.set_cons_succ])
      refine upE 5 rfl (by kernel_rfl) (fun K hK => ?_)
      refine step_append_run rfl (.tmp 97) (.tmp 100) 27 rfl (.slice mo k mc) (.slice (some ⟨wa.heap.size, 0, none⟩) 1 1) (.slice mo' (k + 1) mc') wb rfl rfl hrun ?_
      refine hK.out _ _ hSc (fun hHeld => ?_)
      clear hK K
      (try simp only [Act.put, List.setIfInBounds_toArray, List.set_cons_zero, List.set_cons_succ])
      refine pureE 6 (v := ?_) rfl (by kernel_rfl) (by kernel_rfl) (by kernel_rfl) (by kernel_rfl) (fun _ _ _ h => h) (Or.inl ⟨by rfl, by intro wx hSw; (try dsimp only at hSw); go_simp; try with_reducible rfl⟩) (by assumption) ?_
      (try simp only [Act.put, List.setIfInBounds_toArray, List.set_cons_zero, List.set_cons_succ])
      refine lastE 7 rfl (by kernel_rfl) (by kernel_rfl) (fun K hK => ?_)
      go_simp
      refine hK.out _ _ ?_
      clear hK K
      (try simp only [Act.put, List.setIfInBounds_toArray, List.set_cons_zero, List.set_cons_succ])
      refine doneE (by kernel_rfl) ?_ _
      refine NoPanic.normal ?_
      obtain ⟨xs', hdz, hrow', hxl'⟩ := HH.out
      have HREL2 : Hid (rList rMsg N s0m = comb (ds ++ [bb]) (rList rMsg (N - (k + 1)) s2)) := by
        show _ = _
        rw [HREL.out, HST2.out]
        cases s2 with
        | none => rw [comb_dead (ds ++ [bb]) (rList_dead rMsg_dead _)]; rfl
        | some zs' => exact comb_step _ _ _
      have hdl2 : (ds ++ [bb]).length = k + 1 := by rw [List.length_append, HXK.out.2]; rfl
      clear HH hrun hSa hSb hSc hfz hS0 m1 HST2 HREL
      generalize wb.setCell ⟨B, 11, none⟩ (.slice mo' (k + 1) mc') = wc at *
      go_wp2
      go_roundw
      case rel => first | exact ⟨k + 1, mo', mc', xs', ds ++ [bb], s2, by omega, by go_num, hxl', hdl2, hdz, hrow', HREL2.out⟩ | ((repeat apply Exists.intro); exact ⟨⟨k + 1, mo', mc', xs', ds ++ [bb], s2, by omega, by go_num, hxl', hdl2, hdz, hrow', HREL2.out⟩, rfl⟩)
      case measure => simp [intOf]; omega
    · have HFIN : Hid (st = (rMany rMsg s4).2 ∧ (st ≠ none → ds = (rMany rMsg s4).1)) := by
        show _ ∧ _
        rw [HRM.out, HREL.out]
        cases st with
        | none => rw [comb_dead _ (rList_dead rMsg_dead _)]; exact ⟨rfl, fun h => absurd rfl h⟩
        | some zs =>
          obtain rfl : k = N := by
            rcases Nat.lt_or_ge k N with h | h
            · exact absurd ⟨h, by simp⟩ hgo
            · omega
          rw [Nat.sub_self, comb_end (fun e => by cases e)]
          exact ⟨rfl, fun _ => rfl⟩
      obtain ⟨mo2, mc2, hv2, hms⟩ := hrow.mss (by rw [HXK.out.2]; omega)
      obtain ⟨rfl, -, rfl⟩ : mo = mo2 ∧ k = ds.length ∧ mc = mc2 := by simpa using hv2
      have dq : Dq w (Qv vo yn) m B vo yn vc ys wr { F0 with ms := ds } ⟨none, 0, mo, mc, none, 0⟩ st := dz.dq ⟨by show SsX _ _ _ F0.st.length F0.st; rw [HF0.out.1]; exact SsX.nil _ _, hms.imp (fun b _ hb => hb.imp id (fun hb => by omega)), by show ItsX _ _ _ F0.it.length F0.it; rw [HF0.out.2.1]; exact ItsX.nil _ _⟩
      obtain ⟨wt, hwt⟩ : ∃ wt, wr = wt := ⟨_, rfl⟩
      subst hwt
      obtain ⟨F, hF⟩ : ∃ F : PF, { F0 with ms := ds } = F := ⟨_, rfl⟩
      obtain ⟨a, ha⟩ : ∃ a : Fa, ⟨none, 0, mo, mc, none, 0⟩ = a := ⟨_, rfl⟩
      have dqt : Dq w (Qv vo yn) m B vo yn vc ys wr F a st := by rw [← hF, ← ha]; exact dq
      have HST : Hid (st = (rFrame 1073741824 (some ys)).2 ∧ (st ≠ none → F = (rFrame 1073741824 (some ys)).1)) := by
        show _ ∧ _
        rw [HF.out, ← hF]
        refine ⟨HFIN.out.1, fun hne => ?_⟩
        rw [HFIN.out.2 hne, ← HF00.out]
      have hor : ((k : Int) < N ∧ ¬ (0 : Int) ≤ Cd.atOf o) ∨ ¬ (k : Int) < N := by
        rcases Nat.lt_or_ge k N with h | h
        · refine .inl ⟨by omega, ?_⟩
          cases st with
          | none => obtain rfl := Cd.same_none hsm; simp [Cd.atOf]
          | some zs => exact absurd ⟨h, by simp⟩ hgo
        · exact .inr (by omega)
      generalize hAo : Cd.atOf o = Ao at m1 hor
      clear dq hF ha HF HFIN hgo hms hrow dz HREL HXK hv2 hsm hAo HF0 HF00 HRM
      have HWT : Hid (wr = wr) := rfl
      rcases hor with ⟨hg1, hg2⟩ | hg1
      · as_aux_lemma =>
        have HLE : Hid (FIn (fun b => Qv vo yn b ∨ B < b) wr F a) := dqt.fin
        obtain ⟨A, hA, hA1, hA2⟩ := end18 dqt
        have hrz := dqt.rz
        have hbl := dqt.bl
        have hfb := dqt.fb
        have hrm := dqt.rm
        have hmB := dqt.mB
        have hBl := dqt.lt
        have HQ : Hid (∀ b, Qv vo yn b → b < w.heap.size) := dqt.q
        have HS1 : Hid (∀ V, Below wr.heap.size wr V → V.cell? ⟨m, 1, none⟩ = some (.int .i64 A)) := fun V u => dqt.cell1 hA u
        have HBF : Hid (∀ V, Below wr.heap.size wr V → Bf B F a V) := fun V u => dqt.bf.up u
        have u0 : Below wr.heap.size wr wr.drew := ((Up.refl wr).drew).bl
        clear dqt hA
        by_cases hat : A = (yn : Nat)
        · have hst0 := hA1 hat
          clear hA2 hA1
          subst hat
          have HFR : Hid ((rFrame 1073741824 (some ys)).2 = some [] ∧ F = (rFrame 1073741824 (some ys)).1) := ⟨by rw [← HST.out.1, hst0], HST.out.2 (by rw [hst0]; simp)⟩
          obtain ⟨⟨xs2, he2, hx2⟩, hpo, hsm⟩ := rFrame_some HFR.out.1 (by omega)
          rw [← HFR.out.2] at hx2 hpo hsm
          simp only [Option.some.injEq] at he2
          subst he2
          rw [List.append_nil] at hx2
          have HYW : Hid (ys = wire F) := hx2
          have hfm := fun V (u : Below wr.heap.size wr V) => refForm7_any _ V F a (HLE.out.up u) hpo.frm hpo.kind
          have HPO : Hid (POk F) := hpo
          clear hx2 hsm hst0 hpo
          unfold fval fcells at hfm
          have hAe : ((yn : Int) != (yn : Int)) = false := by simp
          cases hrt : rightF F with
          | false =>
            rw [hrt] at hfm
            have HER : Hid (decF 1073741824 xs = (3, zeroF)) := by
              show _ = _
              unfold decF
              rw [if_neg (by have := HN.out; omega), HOP.out.1, if_neg (by simp), HOP.out.2, if_neg (by rw [← HFR.out.2, hrt]; simp)]
            clear hrt HFR HYW HPO
            go_wp2_with fail
            (try rw [HWT.out])
            refine wp_region_noPanic ?_
            refine wp_region_held_drew (S := fun wx => wx.cell? ⟨m, 1, none⟩ = some (.int .i64 (yn : Nat)) ∧ Bf B F a wx) (by kernel_rfl) ⟨HS1.out _ u0, HBF.out _ u0⟩ (fun hHeld => ?_)
            refine take_first 0 (v := ?_) rfl (by kernel_rfl) (by kernel_rfl) (by kernel_rfl) (fun _ _ _ h => h) (Or.inl ⟨by rfl, by intro wx hSw; (try dsimp only at hSw); go_simp; try with_reducible rfl⟩) (by assumption) ?_
            (try simp only [Act.put, List.setIfInBounds_toArray, List.set_cons_zero, List.set_cons_succ])
            refine take_first 1 (v := ?_) rfl (by kernel_rfl) (by kernel_rfl) (by kernel_rfl) (fun _ _ _ h => h) (Or.inl ⟨by rfl, by intro wx hSw; (try dsimp only at hSw); go_simp; try with_reducible rfl⟩) (by assumption) ?_
            (try simp only [Act.put, List.setIfInBounds_toArray, List.set_cons_zero, List.set_cons_succ])
            refine take_first 2 (v := ?_) rfl (by kernel_rfl) (by kernel_rfl) (by kernel_rfl) (fun _ _ _ h => h) (Or.inl ⟨by rfl, by intro wx hSw; (try dsimp only at hSw); go_simp; try with_reducible rfl⟩) (by assumption) ?_
            (try simp only [Act.put, List.setIfInBounds_toArray, List.set_cons_zero, List.set_cons_succ])
            refine take_first 3 (v := ?_) rfl (by kernel_rfl) (by kernel_rfl) (by kernel_rfl) (fun _ _ _ h => h) (Or.inl ⟨by rfl, by intro wx hSw; (try dsimp only at hSw); obtain ⟨hm1, ⟨x0, x1, x2, x3, x4, x5, x6, x7, x8, x9, x10, x11, x12, x13, x14⟩⟩ := hSw; go_simp; try with_reducible rfl⟩) (by assumption) ?_
            (try simp only [Act.put, List.setIfInBounds_toArray, List.set_cons_zero, List.set_cons_succ])
            refine take_first 4 (v := ?_) rfl (by kernel_rfl) (by kernel_rfl) (by kernel_rfl) (fun _ _ _ h => h) (Or.inl ⟨by rfl, by intro wx hSw; (try dsimp only at hSw); go_simp; try with_reducible rfl⟩) (by assumption) ?_
            (try simp only [Act.put, List.setIfInBounds_toArray, List.set_cons_zero, List.set_cons_succ])
            refine take_first 5 (v := ?_) rfl (by kernel_rfl) (by kernel_rfl) (by kernel_rfl) (fun _ _ _ h => h) (Or.inl ⟨by rfl, by intro wx hSw; (try dsimp only at hSw); go_simp; try with_reducible rfl⟩) (by assumption) ?_
            (try simp only [Act.put, List.setIfInBounds_toArray, List.set_cons_zero, List.set_cons_succ])
            refine take_first 6 (v := ?_) rfl (by kernel_rfl) (by kernel_rfl) (by kernel_rfl) (fun _ _ _ h => h) (Or.inl ⟨by rfl, by intro wx hSw; (try dsimp only at hSw); go_simp; try with_reducible rfl⟩) (by assumption) ?_
            (try simp only [Act.put, List.setIfInBounds_toArray, List.set_cons_zero, List.set_cons_succ])
            refine take_first 7 (v := ?_) rfl (by kernel_rfl) (by kernel_rfl) (by kernel_rfl) (fun _ _ _ h => h) (Or.inl ⟨by rfl, by intro wx hSw; (try dsimp only at hSw); go_simp; try with_reducible rfl⟩) (by assumption) ?_
            (try simp only [Act.put, List.setIfInBounds_toArray, List.set_cons_zero, List.set_cons_succ])
            refine take_first 8 (v := ?_) rfl (by kernel_rfl) (by kernel_rfl) (by kernel_rfl) (fun _ _ _ h => h) (Or.inl ⟨by rfl, by intro wx hSw; (try dsimp only at hSw); obtain ⟨hm1, ⟨x0, x1, x2, x3, x4, x5, x6, x7, x8, x9, x10, x11, x12, x13, x14⟩⟩ := hSw; go_simp; try with_reducible rfl⟩) (by assumption) ?_
            (try simp only [Act.put, List.setIfInBounds_toArray, List.set_cons_zero, List.set_cons_succ])
            refine comes_up 9 rfl (by kernel_rfl) (fun K hK => ?_)
            go_simp
            refine (hfm _ u0).mono ?_
            rintro e w7 ⟨rfl, hu7⟩
            have u7 : Below wr.heap.size wr w7 := bl_step u0 hu7.bl
            clear hHeld hfm hu7
            go_wp2_with fail
            refine hK.out _ _ ⟨HS1.out w7 u7, HBF.out w7 u7⟩ (fun hHeld => ?_)
            clear hK K
            (try simp only [Act.put, List.setIfInBounds_toArray, List.set_cons_zero, List.set_cons_succ])
            refine take_first 10 (v := ?_) rfl (by kernel_rfl) (by kernel_rfl) (by kernel_rfl) (fun _ _ _ h => h) (Or.inl ⟨by rfl, by intro wx hSw; (try dsimp only at hSw); go_simp; try with_reducible rfl⟩) (by assumption) ?_
            (try simp only [Act.put, List.setIfInBounds_toArray, List.set_cons_zero, List.set_cons_succ])
            refine take_first 11 (v := ?_) rfl (by kernel_rfl) (by kernel_rfl) (by kernel_rfl) (fun _ _ _ h => h) (Or.inl ⟨by rfl, by intro wx hSw; (try dsimp only at hSw); go_simp; try with_reducible rfl⟩) (by assumption) ?_
            (try simp only [Act.put, List.setIfInBounds_toArray, List.set_cons_zero, List.set_cons_succ])
            refine take_first 12 (v := ?_) rfl (by kernel_rfl) (by kernel_rfl) (by kernel_rfl) (fun _ _ _ h => h) (Or.inl ⟨by rfl, by intro wx hSw; (try dsimp only at hSw); go_simp; try with_reducible rfl⟩) (by assumption) ?_
            (try simp only [Act.put, List.setIfInBounds_toArray, List.set_cons_zero, List.set_cons_succ])
            refine take_first 13 (v := undef) rfl (by kernel_rfl) (by kernel_rfl) (by kernel_rfl) (fun _ _ _ h => h) (Or.inr ⟨by rfl, rfl⟩) (by assumption) ?_
            (try simp only [Act.put, List.setIfInBounds_toArray, List.set_cons_zero, List.set_cons_succ])
            refine take_first 14 (v := undef) rfl (by kernel_rfl) (by kernel_rfl) (by kernel_rfl) (fun _ _ _ h => h) (Or.inr ⟨by rfl, rfl⟩) (by assumption) ?_
            (try simp only [Act.put, List.setIfInBounds_toArray, List.set_cons_zero, List.set_cons_succ])
            refine take_first 15 (v := undef) rfl (by kernel_rfl) (by kernel_rfl) (by kernel_rfl) (fun _ _ _ h => h) (Or.inr ⟨by rfl, rfl⟩) (by assumption) ?_
            (try simp only [Act.put, List.setIfInBounds_toArray, List.set_cons_zero, List.set_cons_succ])
            refine take_first 16 (v := undef) rfl (by kernel_rfl) (by kernel_rfl) (by kernel_rfl) (fun _ _ _ h => h) (Or.inr ⟨by rfl, rfl⟩) (by assumption) ?_
            (try simp only [Act.put, List.setIfInBounds_toArray, List.set_cons_zero, List.set_cons_succ])
            refine take_first 17 (v := undef) rfl (by kernel_rfl) (by kernel_rfl) (by kernel_rfl) (fun _ _ _ h => h) (Or.inr ⟨by rfl, rfl⟩) (by assumption) ?_
            (try simp only [Act.put, List.setIfInBounds_toArray, List.set_cons_zero, List.set_cons_succ])
            refine take_first 18 (v := undef) rfl (by kernel_rfl) (by kernel_rfl) (by kernel_rfl) (fun _ _ _ h => h) (Or.inr ⟨by rfl, rfl⟩) (by assumption) ?_
            (try simp only [Act.put, List.setIfInBounds_toArray, List.set_cons_zero, List.set_cons_succ])
            refine take_first 19 (v := ?_) rfl (by kernel_rfl) (by kernel_rfl) (by kernel_rfl) (fun _ _ _ h => h) (Or.inl ⟨by rfl, by intro wx hSw; (try dsimp only at hSw); go_simp; try with_reducible rfl⟩) (by assumption) ?_
            (try simp only [Act.put, List.setIfInBounds_toArray, List.set_cons_zero, List.set_cons_succ])
            refine wpAnyH_done (by kernel_rfl) ?_ _
            refine NoPanic.normal ?_
            clear hHeld
            have z7 := (u7.block w.heap.size (by omega)).trans hrz
            unfold zero15 at z7
            have hb7 := bl_step hbl u7
            have hzs := setRow_heap w7 w.heap.size _ #[.int .u8 0, .int .i64 0, .int .u64 0, .int .i64 0, .int .u16 0, .int .u64 0, .int .i64 0, .int .u64 0, .int .i64 0, .slice none 0 0, .int .u64 0, .slice none 0 0, .slice none 0 0, .int .u64 0, .int .u64 0] 30 (0, 0) z7
            go_wp2_with (first | (refine wpList_store_row rfl 30 (.tmp 2) (.tmp 137) rfl w.heap.size #[.int .u8 0, .int .i64 0, .int .u64 0, .int .i64 0, .int .u16 0, .int .u64 0, .int .i64 0, .int .u64 0, .int .i64 0, .slice none 0 0, .int .u64 0, .slice none 0 0, .slice none 0 0, .int .u64 0, .int .u64 0] rfl rfl 30 _ z7 info30 rfl (by simp [Value.oneCell']) ?_))
            refine bodyPost_ret (results_cell2 (g := w.heap.size) Try.results18 rfl rfl (load30 hzs rfl)) rfl ?_
            exact ⟨refAns_zero HER.out, below_setRow hb7 (Nat.le_refl _) _⟩
          | true =>
            rw [hrt] at hfm
            have HRT : Hid (rightF F = true) := hrt
            have HOK : Hid (decF 1073741824 xs = (0, F)) := by
              show _ = _
              unfold decF
              rw [if_neg (by have := HN.out; omega), HOP.out.1, if_neg (by simp), HOP.out.2, if_pos ⟨HFR.out.1, by rw [← HFR.out.2]; exact hrt⟩, ← HFR.out.2]
            have HWL : Hid ((wire F).length ≤ 1048576) := by show _ ≤ _; rw [← HYW.out, HYN.out]; exact hyl
            have HSB : Hid (xs = sealB (wire F)) := by show _ = _; rw [← HYW.out]; exact HXS.out
            have hre := fun V (u : Below wr.heap.size wr V) => refEncF_any _ V F a (HLE.out.up u) HRT.out HPO.out HWL.out
            unfold fval fcells at hre
            have HCV : Hid (∀ V, Below wr.heap.size wr V → (convert 33 9 (.slice ao n cap)).run Try.prog V = .ok (.string (Cd.str xs)) V) := fun V u => Cd.conv_row ((HRW.out.below hbl (Nat.le_refl _)).below u (Nat.le_refl _))
            obtain ⟨s, hs⟩ : ∃ s, Cd.str (sealB (wire F)) = s := ⟨_, rfl⟩
            have HSE : Hid (Cd.str (sealB (wire F)) = s) := hs
            rw [HSB.out, hs] at HCV
            clear hrt HFR HYW HPO HRT hs
            go_wp2_with fail
            (try rw [HWT.out])
            refine wp_region_noPanic ?_
            refine wp_region_held_drew (S := fun wx => wx.cell? ⟨m, 1, none⟩ = some (.int .i64 (yn : Nat)) ∧ Bf B F a wx ∧ (convert 33 9 (.slice ao n cap)).run Try.prog wx = .ok (.string s) wx) (by kernel_rfl) ⟨HS1.out _ u0, HBF.out _ u0, HCV.out _ u0⟩ (fun hHeld => ?_)
            refine take_first 0 (v := ?_) rfl (by kernel_rfl) (by kernel_rfl) (by kernel_rfl) (fun _ _ _ h => h) (Or.inl ⟨by rfl, by intro wx hSw; (try dsimp only at hSw); go_simp; try with_reducible rfl⟩) (by assumption) ?_
            (try simp only [Act.put, List.setIfInBounds_toArray, List.set_cons_zero, List.set_cons_succ])
            refine take_first 1 (v := ?_) rfl (by kernel_rfl) (by kernel_rfl) (by kernel_rfl) (fun _ _ _ h => h) (Or.inl ⟨by rfl, by intro wx hSw; (try dsimp only at hSw); go_simp; try with_reducible rfl⟩) (by assumption) ?_
            (try simp only [Act.put, List.setIfInBounds_toArray, List.set_cons_zero, List.set_cons_succ])
            refine take_first 2 (v := ?_) rfl (by kernel_rfl) (by kernel_rfl) (by kernel_rfl) (fun _ _ _ h => h) (Or.inl ⟨by rfl, by intro wx hSw; (try dsimp only at hSw); go_simp; try with_reducible rfl⟩) (by assumption) ?_
            (try simp only [Act.put, List.setIfInBounds_toArray, List.set_cons_zero, List.set_cons_succ])
            refine take_first 3 (v := ?_) rfl (by kernel_rfl) (by kernel_rfl) (by kernel_rfl) (fun _ _ _ h => h) (Or.inl ⟨by rfl, by intro wx hSw; (try dsimp only at hSw); obtain ⟨hm1, ⟨x0, x1, x2, x3, x4, x5, x6, x7, x8, x9, x10, x11, x12, x13, x14⟩, hcv⟩ := hSw; go_simp; try with_reducible rfl⟩) (by assumption) ?_
            (try simp only [Act.put, List.setIfInBounds_toArray, List.set_cons_zero, List.set_cons_succ])
            refine take_first 4 (v := ?_) rfl (by kernel_rfl) (by kernel_rfl) (by kernel_rfl) (fun _ _ _ h => h) (Or.inl ⟨by rfl, by intro wx hSw; (try dsimp only at hSw); go_simp; try with_reducible rfl⟩) (by assumption) ?_
            (try simp only [Act.put, List.setIfInBounds_toArray, List.set_cons_zero, List.set_cons_succ])
            refine take_first 5 (v := ?_) rfl (by kernel_rfl) (by kernel_rfl) (by kernel_rfl) (fun _ _ _ h => h) (Or.inl ⟨by rfl, by intro wx hSw; (try dsimp only at hSw); go_simp; try with_reducible rfl⟩) (by assumption) ?_
            (try simp only [Act.put, List.setIfInBounds_toArray, List.set_cons_zero, List.set_cons_succ])
            refine take_first 6 (v := ?_) rfl (by kernel_rfl) (by kernel_rfl) (by kernel_rfl) (fun _ _ _ h => h) (Or.inl ⟨by rfl, by intro wx hSw; (try dsimp only at hSw); go_simp; try with_reducible rfl⟩) (by assumption) ?_
            (try simp only [Act.put, List.setIfInBounds_toArray, List.set_cons_zero, List.set_cons_succ])
            refine take_first 7 (v := ?_) rfl (by kernel_rfl) (by kernel_rfl) (by kernel_rfl) (fun _ _ _ h => h) (Or.inl ⟨by rfl, by intro wx hSw; (try dsimp only at hSw); go_simp; try with_reducible rfl⟩) (by assumption) ?_
            (try simp only [Act.put, List.setIfInBounds_toArray, List.set_cons_zero, List.set_cons_succ])
            refine take_first 8 (v := ?_) rfl (by kernel_rfl) (by kernel_rfl) (by kernel_rfl) (fun _ _ _ h => h) (Or.inl ⟨by rfl, by intro wx hSw; (try dsimp only at hSw); obtain ⟨hm1, ⟨x0, x1, x2, x3, x4, x5, x6, x7, x8, x9, x10, x11, x12, x13, x14⟩, hcv⟩ := hSw; go_simp; try with_reducible rfl⟩) (by assumption) ?_
            (try simp only [Act.put, List.setIfInBounds_toArray, List.set_cons_zero, List.set_cons_succ])
            refine comes_up 9 rfl (by kernel_rfl) (fun K hK => ?_)
            go_simp
            refine (hfm _ u0).mono ?_
            rintro e w7 ⟨rfl, hu7⟩
            have u7 : Below wr.heap.size wr w7 := bl_step u0 hu7.bl
            clear hHeld hfm hu7
            go_wp2_with fail
            refine hK.out _ _ ⟨HS1.out w7 u7, HBF.out w7 u7, HCV.out w7 u7⟩ (fun hHeld => ?_)
            clear hK K
            (try simp only [Act.put, List.setIfInBounds_toArray, List.set_cons_zero, List.set_cons_succ])
            refine take_first 10 (v := ?_) rfl (by kernel_rfl) (by kernel_rfl) (by kernel_rfl) (fun _ _ _ h => h) (Or.inl ⟨by rfl, by intro wx hSw; (try dsimp only at hSw); go_simp; try with_reducible rfl⟩) (by assumption) ?_
            (try simp only [Act.put, List.setIfInBounds_toArray, List.set_cons_zero, List.set_cons_succ])
            refine take_first 11 (v := ?_) rfl (by kernel_rfl) (by kernel_rfl) (by kernel_rfl) (fun _ _ _ h => h) (Or.inl ⟨by rfl, by intro wx hSw; (try dsimp only at hSw); go_simp; try with_reducible rfl⟩) (by assumption) ?_
            (try simp only [Act.put, List.setIfInBounds_toArray, List.set_cons_zero, List.set_cons_succ])
            refine take_first 12 (v := ?_) rfl (by kernel_rfl) (by kernel_rfl) (by kernel_rfl) (fun _ _ _ h => h) (Or.inl ⟨by rfl, by intro wx hSw; (try dsimp only at hSw); go_simp; try with_reducible rfl⟩) (by assumption) ?_
            (try simp only [Act.put, List.setIfInBounds_toArray, List.set_cons_zero, List.set_cons_succ])
            refine take_first 13 (v := ?_) rfl (by kernel_rfl) (by kernel_rfl) (by kernel_rfl) (fun _ _ _ h => h) (Or.inl ⟨by rfl, by intro wx hSw; (try dsimp only at hSw); obtain ⟨hm1, ⟨x0, x1, x2, x3, x4, x5, x6, x7, x8, x9, x10, x11, x12, x13, x14⟩, hcv⟩ := hSw; go_simp; try with_reducible rfl⟩) (by assumption) ?_
            (try simp only [Act.put, List.setIfInBounds_toArray, List.set_cons_zero, List.set_cons_succ])
            refine take_first 16 (v := ?_) rfl (by kernel_rfl) (by kernel_rfl) (by kernel_rfl) (fun _ _ _ h => h) (Or.inl ⟨by rfl, by intro wx hSw; (try dsimp only at hSw); go_simp; try with_reducible rfl⟩) (by assumption) ?_
            (try simp only [Act.put, List.setIfInBounds_toArray, List.set_cons_zero, List.set_cons_succ])
            refine take_first 17 (v := ?_) rfl (by kernel_rfl) (by kernel_rfl) (by kernel_rfl) (fun _ _ _ h => h) (Or.inl ⟨by rfl, by intro wx hSw; (try dsimp only at hSw); obtain ⟨hm1, ⟨x0, x1, x2, x3, x4, x5, x6, x7, x8, x9, x10, x11, x12, x13, x14⟩, hcv⟩ := hSw; go_simp; try with_reducible rfl⟩) (by assumption) ?_
            (try simp only [Act.put, List.setIfInBounds_toArray, List.set_cons_zero, List.set_cons_succ])
            refine comes_up 14 rfl (by kernel_rfl) (fun K hK => ?_)
            go_simp
            refine (hre _ u7).mono ?_
            rintro e w8 ⟨v8, rfl, ho8⟩
            have u8 : Below wr.heap.size wr w8 := bl_step u7 ho8.2.1
            obtain ⟨qo, qc, rfl, hrx8⟩ := own_rx ho8.1 (by rw [sealB_len]; have := HWL.out; omega)
            have hcv8 := Cd.conv_row hrx8.row
            rw [HSE.out] at hcv8
            generalize (sealB (wire F)).length = ql at *
            clear hHeld hre ho8 hrx8
            go_wp2_with fail
            refine hK.out _ _ ⟨HS1.out w8 u8, HBF.out w8 u8, HCV.out w8 u8⟩ (fun hHeld => ?_)
            clear hK K
            (try simp only [Act.put, List.setIfInBounds_toArray, List.set_cons_zero, List.set_cons_succ])
            refine comes_up 15 rfl (by kernel_rfl) (fun K hK => ?_)
            go_simp
            go_wp2_with fail
            refine hK.out _ _ ⟨HS1.out w8 u8, HBF.out w8 u8, HCV.out w8 u8⟩ (fun hHeld => ?_)
            clear hK K
            (try simp only [Act.put, List.setIfInBounds_toArray, List.set_cons_zero, List.set_cons_succ])
            clear hcv8
            refine take_first 18 (v := ?_) rfl (by kernel_rfl) (by kernel_rfl) (by kernel_rfl) (fun _ _ _ h => h) (Or.inl ⟨by rfl, by intro wx hSw; (try dsimp only at hSw); go_simp; try with_reducible rfl⟩) (by assumption) ?_
            (try simp only [Act.put, List.setIfInBounds_toArray, List.set_cons_zero, List.set_cons_succ])
            refine take_first 19 (v := ?_) rfl (by kernel_rfl) (by kernel_rfl) (by kernel_rfl) (fun _ _ _ h => h) (Or.inl ⟨by rfl, by intro wx hSw; (try dsimp only at hSw); go_simp; try with_reducible rfl⟩) (by assumption) ?_
            (try simp only [Act.put, List.setIfInBounds_toArray, List.set_cons_zero, List.set_cons_succ])
            refine wpAnyH_done (by kernel_rfl) ?_ _
            refine NoPanic.normal ?_
            clear hHeld
            have z8 := (u8.block w.heap.size (by omega)).trans hrz
            have k8 := (u8.block B hBl).trans hfb
            unfold zero15 at z8
            unfold fcells at k8
            have hb8 := bl_step hbl u8
            have HIN8 : Hid (FIn (fun _ => True) (w8.setRow w.heap.size #[.int .u8 (F.kind : Nat), .int .i64 F.frm, .int .u64 (F.idN : Nat), .int .i64 F.idP, .int .u16 (F.set : Nat), .int .u64 (F.curN : Nat), .int .i64 F.curP, .int .u64 (F.promN : Nat), .int .i64 F.promP, .slice a.so F.st.length a.sc, .int .u64 (F.base : Nat), .slice a.mo F.ms.length a.mc, .slice a.io F.it.length a.ic, .int .u64 (F.ack : Nat), .int .u64 (F.safe : Nat)]) F a) := by
              have hi := HLE.out.up u8
              exact (FIn.keep hi (kp_setRow (fun b hb => hb.elim (fun hq => by have := HQ.out b hq; omega) (fun hb => by omega)))).imp (fun _ _ _ => trivial)
            have hset := setRow_heap w8 w.heap.size _ #[.int .u8 (F.kind : Nat), .int .i64 F.frm, .int .u64 (F.idN : Nat), .int .i64 F.idP, .int .u16 (F.set : Nat), .int .u64 (F.curN : Nat), .int .i64 F.curP, .int .u64 (F.promN : Nat), .int .i64 F.promP, .slice a.so F.st.length a.sc, .int .u64 (F.base : Nat), .slice a.mo F.ms.length a.mc, .slice a.io F.it.length a.ic, .int .u64 (F.ack : Nat), .int .u64 (F.safe : Nat)] 30 (0, 0) z8
            go_wp2_with (first | (refine wpList_load_row rfl 30 (.tmp 7) rfl B rfl 30 #[.int .u8 (F.kind : Nat), .int .i64 F.frm, .int .u64 (F.idN : Nat), .int .i64 F.idP, .int .u16 (F.set : Nat), .int .u64 (F.curN : Nat), .int .i64 F.curP, .int .u64 (F.promN : Nat), .int .i64 F.promP, .slice a.so F.st.length a.sc, .int .u64 (F.base : Nat), .slice a.mo F.ms.length a.mc, .slice a.io F.it.length a.ic, .int .u64 (F.ack : Nat), .int .u64 (F.safe : Nat)] (0, 0) _ k8 Try.underlying30 rfl info30 ?_) | (refine wpList_store_row rfl 30 (.tmp 2) (.tmp 138) rfl w.heap.size #[.int .u8 (F.kind : Nat), .int .i64 F.frm, .int .u64 (F.idN : Nat), .int .i64 F.idP, .int .u16 (F.set : Nat), .int .u64 (F.curN : Nat), .int .i64 F.curP, .int .u64 (F.promN : Nat), .int .i64 F.promP, .slice a.so F.st.length a.sc, .int .u64 (F.base : Nat), .slice a.mo F.ms.length a.mc, .slice a.io F.it.length a.ic, .int .u64 (F.ack : Nat), .int .u64 (F.safe : Nat)] rfl rfl 30 _ z8 info30 rfl (by simp [Value.oneCell']) ?_))
            refine bodyPost_ret (results_cell2 (g := w.heap.size) Try.results18 rfl rfl (load30 hset rfl)) rfl ?_
            refine ⟨?_, below_setRow hb8 (Nat.le_refl _) _⟩
            unfold RefAns
            rw [HOK.out]
            exact ⟨a, rfl, HIN8.out⟩
        · have hst0 := hA2 hat
          have HER : Hid (decF 1073741824 xs = (3, zeroF)) := by
            show _ = _
            unfold decF
            rw [if_neg (by have := HN.out; omega), HOP.out.1, if_neg (by simp), HOP.out.2, if_neg (by rw [← HST.out.1]; exact fun h => hst0 h.1)]
          have hAe : ((A : Int) != (yn : Int)) = true := by simpa using hat
          clear hA1 hA2 hst0 hat HST
          go_wp2_with fail
          (try rw [HWT.out])
          refine wp_region_noPanic ?_
          refine wp_region_held_drew (S := fun wx => wx.cell? ⟨m, 1, none⟩ = some (.int .i64 A)) (by kernel_rfl) (HS1.out _ u0) (fun hHeld => ?_)
          refine take_first 0 (v := ?_) rfl (by kernel_rfl) (by kernel_rfl) (by kernel_rfl) (fun _ _ _ h => h) (Or.inl ⟨by rfl, by intro wx hSw; (try dsimp only at hSw); go_simp; try with_reducible rfl⟩) (by assumption) ?_
          (try simp only [Act.put, List.setIfInBounds_toArray, List.set_cons_zero, List.set_cons_succ])
          refine take_first 1 (v := ?_) rfl (by kernel_rfl) (by kernel_rfl) (by kernel_rfl) (fun _ _ _ h => h) (Or.inl ⟨by rfl, by intro wx hSw; (try dsimp only at hSw); go_simp; try with_reducible rfl⟩) (by assumption) ?_
          (try simp only [Act.put, List.setIfInBounds_toArray, List.set_cons_zero, List.set_cons_succ])
          refine take_first 2 (v := ?_) rfl (by kernel_rfl) (by kernel_rfl) (by kernel_rfl) (fun _ _ _ h => h) (Or.inl ⟨by rfl, by intro wx hSw; (try dsimp only at hSw); go_simp; try with_reducible rfl⟩) (by assumption) ?_
          (try simp only [Act.put, List.setIfInBounds_toArray, List.set_cons_zero, List.set_cons_succ])
          refine take_first 3 (v := ?_) rfl (by kernel_rfl) (by kernel_rfl) (by kernel_rfl) (fun _ _ _ h => h) (Or.inl ⟨by rfl, by intro wx hSw; (try dsimp only at hSw); go_simp; try with_reducible rfl⟩) (by assumption) ?_
          (try simp only [Act.put, List.setIfInBounds_toArray, List.set_cons_zero, List.set_cons_succ])
          refine take_first 4 (v := ?_) rfl (by kernel_rfl) (by kernel_rfl) (by kernel_rfl) (fun _ _ _ h => h) (Or.inl ⟨by rfl, by intro wx hSw; (try dsimp only at hSw); go_simp; try with_reducible rfl⟩) (by assumption) ?_
          (try simp only [Act.put, List.setIfInBounds_toArray, List.set_cons_zero, List.set_cons_succ])
          refine take_first 5 (v := ?_) rfl (by kernel_rfl) (by kernel_rfl) (by kernel_rfl) (fun _ _ _ h => h) (Or.inl ⟨by rfl, by intro wx hSw; (try dsimp only at hSw); go_simp; try with_reducible rfl⟩) (by assumption) ?_
          (try simp only [Act.put, List.setIfInBounds_toArray, List.set_cons_zero, List.set_cons_succ])
          refine take_first 6 (v := ?_) rfl (by kernel_rfl) (by kernel_rfl) (by kernel_rfl) (fun _ _ _ h => h) (Or.inl ⟨by rfl, by intro wx hSw; (try dsimp only at hSw); go_simp; try with_reducible rfl⟩) (by assumption) ?_
          (try simp only [Act.put, List.setIfInBounds_toArray, List.set_cons_zero, List.set_cons_succ])
          refine take_first 7 (v := ?_) rfl (by kernel_rfl) (by kernel_rfl) (by kernel_rfl) (fun _ _ _ h => h) (Or.inl ⟨by rfl, by intro wx hSw; (try dsimp only at hSw); go_simp; try with_reducible rfl⟩) (by assumption) ?_
          (try simp only [Act.put, List.setIfInBounds_toArray, List.set_cons_zero, List.set_cons_succ])
          refine take_first 8 (v := undef) rfl (by kernel_rfl) (by kernel_rfl) (by kernel_rfl) (fun _ _ _ h => h) (Or.inr ⟨by rfl, rfl⟩) (by assumption) ?_
          (try simp only [Act.put, List.setIfInBounds_toArray, List.set_cons_zero, List.set_cons_succ])
          refine take_first 9 (v := undef) rfl (by kernel_rfl) (by kernel_rfl) (by kernel_rfl) (fun _ _ _ h => h) (Or.inr ⟨by rfl, rfl⟩) (by assumption) ?_
          (try simp only [Act.put, List.setIfInBounds_toArray, List.set_cons_zero, List.set_cons_succ])
          refine take_first 10 (v := undef) rfl (by kernel_rfl) (by kernel_rfl) (by kernel_rfl) (fun _ _ _ h => h) (Or.inr ⟨by rfl, rfl⟩) (by assumption) ?_
          (try simp only [Act.put, List.setIfInBounds_toArray, List.set_cons_zero, List.set_cons_succ])
          refine take_first 11 (v := ?_) rfl (by kernel_rfl) (by kernel_rfl) (by kernel_rfl) (fun _ _ _ h => h) (Or.inl ⟨by rfl, by intro wx hSw; (try dsimp only at hSw); go_simp; try with_reducible rfl⟩) (by assumption) ?_
          (try simp only [Act.put, List.setIfInBounds_toArray, List.set_cons_zero, List.set_cons_succ])
          refine take_first 12 (v := ?_) rfl (by kernel_rfl) (by kernel_rfl) (by kernel_rfl) (fun _ _ _ h => h) (Or.inl ⟨by rfl, by intro wx hSw; (try dsimp only at hSw); go_simp; try with_reducible rfl⟩) (by assumption) ?_
          (try simp only [Act.put, List.setIfInBounds_toArray, List.set_cons_zero, List.set_cons_succ])
          refine take_first 13 (v := undef) rfl (by kernel_rfl) (by kernel_rfl) (by kernel_rfl) (fun _ _ _ h => h) (Or.inr ⟨by rfl, rfl⟩) (by assumption) ?_
          (try simp only [Act.put, List.setIfInBounds_toArray, List.set_cons_zero, List.set_cons_succ])
          refine take_first 14 (v := undef) rfl (by kernel_rfl) (by kernel_rfl) (by kernel_rfl) (fun _ _ _ h => h) (Or.inr ⟨by rfl, rfl⟩) (by assumption) ?_
          (try simp only [Act.put, List.setIfInBounds_toArray, List.set_cons_zero, List.set_cons_succ])
          refine take_first 15 (v := undef) rfl (by kernel_rfl) (by kernel_rfl) (by kernel_rfl) (fun _ _ _ h => h) (Or.inr ⟨by rfl, rfl⟩) (by assumption) ?_
          (try simp only [Act.put, List.setIfInBounds_toArray, List.set_cons_zero, List.set_cons_succ])
          refine take_first 16 (v := undef) rfl (by kernel_rfl) (by kernel_rfl) (by kernel_rfl) (fun _ _ _ h => h) (Or.inr ⟨by rfl, rfl⟩) (by assumption) ?_
          (try simp only [Act.put, List.setIfInBounds_toArray, List.set_cons_zero, List.set_cons_succ])
          refine take_first 17 (v := undef) rfl (by kernel_rfl) (by kernel_rfl) (by kernel_rfl) (fun _ _ _ h => h) (Or.inr ⟨by rfl, rfl⟩) (by assumption) ?_
          (try simp only [Act.put, List.setIfInBounds_toArray, List.set_cons_zero, List.set_cons_succ])
          refine take_first 18 (v := undef) rfl (by kernel_rfl) (by kernel_rfl) (by kernel_rfl) (fun _ _ _ h => h) (Or.inr ⟨by rfl, rfl⟩) (by assumption) ?_
          (try simp only [Act.put, List.setIfInBounds_toArray, List.set_cons_zero, List.set_cons_succ])
          refine take_first 19 (v := ?_) rfl (by kernel_rfl) (by kernel_rfl) (by kernel_rfl) (fun _ _ _ h => h) (Or.inl ⟨by rfl, by intro wx hSw; (try dsimp only at hSw); go_simp; try with_reducible rfl⟩) (by assumption) ?_
          (try simp only [Act.put, List.setIfInBounds_toArray, List.set_cons_zero, List.set_cons_succ])
          refine wpAnyH_done (by kernel_rfl) ?_ _
          refine NoPanic.normal ?_
          clear hHeld
          have z7 := (u0.block w.heap.size (by omega)).trans hrz
          unfold zero15 at z7
          have hb7 := bl_step hbl u0
          have hzs := setRow_heap wr.drew w.heap.size _ #[.int .u8 0, .int .i64 0, .int .u64 0, .int .i64 0, .int .u16 0, .int .u64 0, .int .i64 0, .int .u64 0, .int .i64 0, .slice none 0 0, .int .u64 0, .slice none 0 0, .slice none 0 0, .int .u64 0, .int .u64 0] 30 (0, 0) z7
          go_wp2_with (first | (refine wpList_store_row rfl 30 (.tmp 2) (.tmp 137) rfl w.heap.size #[.int .u8 0, .int .i64 0, .int .u64 0, .int .i64 0, .int .u16 0, .int .u64 0, .int .i64 0, .int .u64 0, .int .i64 0, .slice none 0 0, .int .u64 0, .slice none 0 0, .slice none 0 0, .int .u64 0, .int .u64 0] rfl rfl 30 _ z7 info30 rfl (by simp [Value.oneCell']) ?_))
          refine bodyPost_ret (results_cell2 (g := w.heap.size) Try.results18 rfl rfl (load30 hzs rfl)) rfl ?_
          exact ⟨refAns_zero HER.out, below_setRow hb7 (Nat.le_refl _) _⟩
      · as_aux_lemma =>
        have HLE : Hid (FIn (fun b => Qv vo yn b ∨ B < b) wr F a) := dqt.fin
        obtain ⟨A, hA, hA1, hA2⟩ := end18 dqt
        have hrz := dqt.rz
        have hbl := dqt.bl
        have hfb := dqt.fb
        have hrm := dqt.rm
        have hmB := dqt.mB
        have hBl := dqt.lt
        have HQ : Hid (∀ b, Qv vo yn b → b < w.heap.size) := dqt.q
        have HS1 : Hid (∀ V, Below wr.heap.size wr V → V.cell? ⟨m, 1, none⟩ = some (.int .i64 A)) := fun V u => dqt.cell1 hA u
        have HBF : Hid (∀ V, Below wr.heap.size wr V → Bf B F a V) := fun V u => dqt.bf.up u
        have u0 : Below wr.heap.size wr wr.drew := ((Up.refl wr).drew).bl
        clear dqt hA
        by_cases hat : A = (yn : Nat)
        · have hst0 := hA1 hat
          clear hA2 hA1
          subst hat
          have HFR : Hid ((rFrame 1073741824 (some ys)).2 = some [] ∧ F = (rFrame 1073741824 (some ys)).1) := ⟨by rw [← HST.out.1, hst0], HST.out.2 (by rw [hst0]; simp)⟩
          obtain ⟨⟨xs2, he2, hx2⟩, hpo, hsm⟩ := rFrame_some HFR.out.1 (by omega)
          rw [← HFR.out.2] at hx2 hpo hsm
          simp only [Option.some.injEq] at he2
          subst he2
          rw [List.append_nil] at hx2
          have HYW : Hid (ys = wire F) := hx2
          have hfm := fun V (u : Below wr.heap.size wr V) => refForm7_any _ V F a (HLE.out.up u) hpo.frm hpo.kind
          have HPO : Hid (POk F) := hpo
          clear hx2 hsm hst0 hpo
          unfold fval fcells at hfm
          have hAe : ((yn : Int) != (yn : Int)) = false := by simp
          cases hrt : rightF F with
          | false =>
            rw [hrt] at hfm
            have HER : Hid (decF 1073741824 xs = (3, zeroF)) := by
              show _ = _
              unfold decF
              rw [if_neg (by have := HN.out; omega), HOP.out.1, if_neg (by simp), HOP.out.2, if_neg (by rw [← HFR.out.2, hrt]; simp)]
            clear hrt HFR HYW HPO
            go_wp2_with fail
            (try rw [HWT.out])
            refine wp_region_noPanic ?_
            refine wp_region_held_drew (S := fun wx => wx.cell? ⟨m, 1, none⟩ = some (.int .i64 (yn : Nat)) ∧ Bf B F a wx) (by kernel_rfl) ⟨HS1.out _ u0, HBF.out _ u0⟩ (fun hHeld => ?_)
            refine take_first 0 (v := ?_) rfl (by kernel_rfl) (by kernel_rfl) (by kernel_rfl) (fun _ _ _ h => h) (Or.inl ⟨by rfl, by intro wx hSw; (try dsimp only at hSw); go_simp; try with_reducible rfl⟩) (by assumption) ?_
            (try simp only [Act.put, List.setIfInBounds_toArray, List.set_cons_zero, List.set_cons_succ])
            refine take_first 1 (v := ?_) rfl (by kernel_rfl) (by kernel_rfl) (by kernel_rfl) (fun _ _ _ h => h) (Or.inl ⟨by rfl, by intro wx hSw; (try dsimp only at hSw); go_simp; try with_reducible rfl⟩) (by assumption) ?_
            (try simp only [Act.put, List.setIfInBounds_toArray, List.set_cons_zero, List.set_cons_succ])
            refine take_first 2 (v := ?_) rfl (by kernel_rfl) (by kernel_rfl) (by kernel_rfl) (fun _ _ _ h => h) (Or.inl ⟨by rfl, by intro wx hSw; (try dsimp only at hSw); go_simp; try with_reducible rfl⟩) (by assumption) ?_
            (try simp only [Act.put, List.setIfInBounds_toArray, List.set_cons_zero, List.set_cons_succ])
            refine take_first 3 (v := ?_) rfl (by kernel_rfl) (by kernel_rfl) (by kernel_rfl) (fun _ _ _ h => h) (Or.inl ⟨by rfl, by intro wx hSw; (try dsimp only at hSw); obtain ⟨hm1, ⟨x0, x1, x2, x3, x4, x5, x6, x7, x8, x9, x10, x11, x12, x13, x14⟩⟩ := hSw; go_simp; try with_reducible rfl⟩) (by assumption) ?_
            (try simp only [Act.put, List.setIfInBounds_toArray, List.set_cons_zero, List.set_cons_succ])
            refine take_first 4 (v := ?_) rfl (by kernel_rfl) (by kernel_rfl) (by kernel_rfl) (fun _ _ _ h => h) (Or.inl ⟨by rfl, by intro wx hSw; (try dsimp only at hSw); go_simp; try with_reducible rfl⟩) (by assumption) ?_
            (try simp only [Act.put, List.setIfInBounds_toArray, List.set_cons_zero, List.set_cons_succ])
            refine take_first 5 (v := ?_) rfl (by kernel_rfl) (by kernel_rfl) (by kernel_rfl) (fun _ _ _ h => h) (Or.inl ⟨by rfl, by intro wx hSw; (try dsimp only at hSw); go_simp; try with_reducible rfl⟩) (by assumption) ?_
            (try simp only [Act.put, List.setIfInBounds_toArray, List.set_cons_zero, List.set_cons_succ])
            refine take_first 6 (v := ?_) rfl (by kernel_rfl) (by kernel_rfl) (by kernel_rfl) (fun _ _ _ h => h) (Or.inl ⟨by rfl, by intro wx hSw; (try dsimp only at hSw); go_simp; try with_reducible rfl⟩) (by assumption) ?_
            (try simp only [Act.put, List.setIfInBounds_toArray, List.set_cons_zero, List.set_cons_succ])
            refine take_first 7 (v := ?_) rfl (by kernel_rfl) (by kernel_rfl) (by kernel_rfl) (fun _ _ _ h => h) (Or.inl ⟨by rfl, by intro wx hSw; (try dsimp only at hSw); go_simp; try with_reducible rfl⟩) (by assumption) ?_
            (try simp only [Act.put, List.setIfInBounds_toArray, List.set_cons_zero, List.set_cons_succ])
            refine take_first 8 (v := ?_) rfl (by kernel_rfl) (by kernel_rfl) (by kernel_rfl) (fun _ _ _ h => h) (Or.inl ⟨by rfl, by intro wx hSw; (try dsimp only at hSw); obtain ⟨hm1, ⟨x0, x1, x2, x3, x4, x5, x6, x7, x8, x9, x10, x11, x12, x13, x14⟩⟩ := hSw; go_simp; try with_reducible rfl⟩) (by assumption) ?_
            (try simp only [Act.put, List.setIfInBounds_toArray, List.set_cons_zero, List.set_cons_succ])
            refine comes_up 9 rfl (by kernel_rfl) (fun K hK => ?_)
            go_simp
            refine (hfm _ u0).mono ?_
            rintro e w7 ⟨rfl, hu7⟩
            have u7 : Below wr.heap.size wr w7 := bl_step u0 hu7.bl
            clear hHeld hfm hu7
            go_wp2_with fail
            refine hK.out _ _ ⟨HS1.out w7 u7, HBF.out w7 u7⟩ (fun hHeld => ?_)
            clear hK K
            (try simp only [Act.put, List.setIfInBounds_toArray, List.set_cons_zero, List.set_cons_succ])
            refine take_first 10 (v := ?_) rfl (by kernel_rfl) (by kernel_rfl) (by kernel_rfl) (fun _ _ _ h => h) (Or.inl ⟨by rfl, by intro wx hSw; (try dsimp only at hSw); go_simp; try with_reducible rfl⟩) (by assumption) ?_
            (try simp only [Act.put, List.setIfInBounds_toArray, List.set_cons_zero, List.set_cons_succ])
            refine take_first 11 (v := ?_) rfl (by kernel_rfl) (by kernel_rfl) (by kernel_rfl) (fun _ _ _ h => h) (Or.inl ⟨by rfl, by intro wx hSw; (try dsimp only at hSw); go_simp; try with_reducible rfl⟩) (by assumption) ?_
            (try simp only [Act.put, List.setIfInBounds_toArray, List.set_cons_zero, List.set_cons_succ])
            refine take_first 12 (v := ?_) rfl (by kernel_rfl) (by kernel_rfl) (by kernel_rfl) (fun _ _ _ h => h) (Or.inl ⟨by rfl, by intro wx hSw; (try dsimp only at hSw); go_simp; try with_reducible rfl⟩) (by assumption) ?_
            (try simp only [Act.put, List.setIfInBounds_toArray, List.set_cons_zero, List.set_cons_succ])
            refine take_first 13 (v := undef) rfl (by kernel_rfl) (by kernel_rfl) (by kernel_rfl) (fun _ _ _ h => h) (Or.inr ⟨by rfl, rfl⟩) (by assumption) ?_
            (try simp only [Act.put, List.setIfInBounds_toArray, List.set_cons_zero, List.set_cons_succ])
            refine take_first 14 (v := undef) rfl (by kernel_rfl) (by kernel_rfl) (by kernel_rfl) (fun _ _ _ h => h) (Or.inr ⟨by rfl, rfl⟩) (by assumption) ?_
            (try simp only [Act.put, List.setIfInBounds_toArray, List.set_cons_zero, List.set_cons_succ])
            refine take_first 15 (v := undef) rfl (by kernel_rfl) (by kernel_rfl) (by kernel_rfl) (fun _ _ _ h => h) (Or.inr ⟨by rfl, rfl⟩) (by assumption) ?_
            (try simp only [Act.put, List.setIfInBounds_toArray, List.set_cons_zero, List.set_cons_succ])
            refine take_first 16 (v := undef) rfl (by kernel_rfl) (by kernel_rfl) (by kernel_rfl) (fun _ _ _ h => h) (Or.inr ⟨by rfl, rfl⟩) (by assumption) ?_
            (try simp only [Act.put, List.setIfInBounds_toArray, List.set_cons_zero, List.set_cons_succ])
            refine take_first 17 (v := undef) rfl (by kernel_rfl) (by kernel_rfl) (by kernel_rfl) (fun _ _ _ h => h) (Or.inr ⟨by rfl, rfl⟩) (by assumption) ?_
            (try simp only [Act.put, List.setIfInBounds_toArray, List.set_cons_zero, List.set_cons_succ])
            refine take_first 18 (v := undef) rfl (by kernel_rfl) (by kernel_rfl) (by kernel_rfl) (fun _ _ _ h => h) (Or.inr ⟨by rfl, rfl⟩) (by assumption) ?_
            (try simp only [Act.put, List.setIfInBounds_toArray, List.set_cons_zero, List.set_cons_succ])
            refine take_first 19 (v := ?_) rfl (by kernel_rfl) (by kernel_rfl) (by kernel_rfl) (fun _ _ _ h => h) (Or.inl ⟨by rfl, by intro wx hSw; (try dsimp only at hSw); go_simp; try with_reducible rfl⟩) (by assumption) ?_
            (try simp only [Act.put, List.setIfInBounds_toArray, List.set_cons_zero, List.set_cons_succ])
            refine wpAnyH_done (by kernel_rfl) ?_ _
            refine NoPanic.normal ?_
            clear hHeld
            have z7 := (u7.block w.heap.size (by omega)).trans hrz
            unfold zero15 at z7
            have hb7 := bl_step hbl u7
            have hzs := setRow_heap w7 w.heap.size _ #[.int .u8 0, .int .i64 0, .int .u64 0, .int .i64 0, .int .u16 0, .int .u64 0, .int .i64 0, .int .u64 0, .int .i64 0, .slice none 0 0, .int .u64 0, .slice none 0 0, .slice none 0 0, .int .u64 0, .int .u64 0] 30 (0, 0) z7
            go_wp2_with (first | (refine wpList_store_row rfl 30 (.tmp 2) (.tmp 137) rfl w.heap.size #[.int .u8 0, .int .i64 0, .int .u64 0, .int .i64 0, .int .u16 0, .int .u64 0, .int .i64 0, .int .u64 0, .int .i64 0, .slice none 0 0, .int .u64 0, .slice none 0 0, .slice none 0 0, .int .u64 0, .int .u64 0] rfl rfl 30 _ z7 info30 rfl (by simp [Value.oneCell']) ?_))
            refine bodyPost_ret (results_cell2 (g := w.heap.size) Try.results18 rfl rfl (load30 hzs rfl)) rfl ?_
            exact ⟨refAns_zero HER.out, below_setRow hb7 (Nat.le_refl _) _⟩
          | true =>
            rw [hrt] at hfm
            have HRT : Hid (rightF F = true) := hrt
            have HOK : Hid (decF 1073741824 xs = (0, F)) := by
              show _ = _
              unfold decF
              rw [if_neg (by have := HN.out; omega), HOP.out.1, if_neg (by simp), HOP.out.2, if_pos ⟨HFR.out.1, by rw [← HFR.out.2]; exact hrt⟩, ← HFR.out.2]
            have HWL : Hid ((wire F).length ≤ 1048576) := by show _ ≤ _; rw [← HYW.out, HYN.out]; exact hyl
            have HSB : Hid (xs = sealB (wire F)) := by show _ = _; rw [← HYW.out]; exact HXS.out
            have hre := fun V (u : Below wr.heap.size wr V) => refEncF_any _ V F a (HLE.out.up u) HRT.out HPO.out HWL.out
            unfold fval fcells at hre
            have HCV : Hid (∀ V, Below wr.heap.size wr V → (convert 33 9 (.slice ao n cap)).run Try.prog V = .ok (.string (Cd.str xs)) V) := fun V u => Cd.conv_row ((HRW.out.below hbl (Nat.le_refl _)).below u (Nat.le_refl _))
            obtain ⟨s, hs⟩ : ∃ s, Cd.str (sealB (wire F)) = s := ⟨_, rfl⟩
            have HSE : Hid (Cd.str (sealB (wire F)) = s) := hs
            rw [HSB.out, hs] at HCV
            clear hrt HFR HYW HPO HRT hs
            go_wp2_with fail
            (try rw [HWT.out])
            refine wp_region_noPanic ?_
            refine wp_region_held_drew (S := fun wx => wx.cell? ⟨m, 1, none⟩ = some (.int .i64 (yn : Nat)) ∧ Bf B F a wx ∧ (convert 33 9 (.slice ao n cap)).run Try.prog wx = .ok (.string s) wx) (by kernel_rfl) ⟨HS1.out _ u0, HBF.out _ u0, HCV.out _ u0⟩ (fun hHeld => ?_)
            refine take_first 0 (v := ?_) rfl (by kernel_rfl) (by kernel_rfl) (by kernel_rfl) (fun _ _ _ h => h) (Or.inl ⟨by rfl, by intro wx hSw; (try dsimp only at hSw); go_simp; try with_reducible rfl⟩) (by assumption) ?_
            (try simp only [Act.put, List.setIfInBounds_toArray, List.set_cons_zero, List.set_cons_succ])
            refine take_first 1 (v := ?_) rfl (by kernel_rfl) (by kernel_rfl) (by kernel_rfl) (fun _ _ _ h => h) (Or.inl ⟨by rfl, by intro wx hSw; (try dsimp only at hSw); go_simp; try with_reducible rfl⟩) (by assumption) ?_
            (try simp only [Act.put, List.setIfInBounds_toArray, List.set_cons_zero, List.set_cons_succ])
            refine take_first 2 (v := ?_) rfl (by kernel_rfl) (by kernel_rfl) (by kernel_rfl) (fun _ _ _ h => h) (Or.inl ⟨by rfl, by intro wx hSw; (try dsimp only at hSw); go_simp; try with_reducible rfl⟩) (by assumption) ?_
            (try simp only [Act.put, List.setIfInBounds_toArray, List.set_cons_zero, List.set_cons_succ])
            refine take_first 3 (v := ?_) rfl (by kernel_rfl) (by kernel_rfl) (by kernel_rfl) (fun _ _ _ h => h) (Or.inl ⟨by rfl, by intro wx hSw; (try dsimp only at hSw); obtain ⟨hm1, ⟨x0, x1, x2, x3, x4, x5, x6, x7, x8, x9, x10, x11, x12, x13, x14⟩, hcv⟩ := hSw; go_simp; try with_reducible rfl⟩) (by assumption) ?_
            (try simp only [Act.put, List.setIfInBounds_toArray, List.set_cons_zero, List.set_cons_succ])
            refine take_first 4 (v := ?_) rfl (by kernel_rfl) (by kernel_rfl) (by kernel_rfl) (fun _ _ _ h => h) (Or.inl ⟨by rfl, by intro wx hSw; (try dsimp only at hSw); go_simp; try with_reducible rfl⟩) (by assumption) ?_
            (try simp only [Act.put, List.setIfInBounds_toArray, List.set_cons_zero, List.set_cons_succ])
            refine take_first 5 (v := ?_) rfl (by kernel_rfl) (by kernel_rfl) (by kernel_rfl) (fun _ _ _ h => h) (Or.inl ⟨by rfl, by intro wx hSw; (try dsimp only at hSw); go_simp; try with_reducible rfl⟩) (by assumption) ?_
            (try simp only [Act.put, List.setIfInBounds_toArray, List.set_cons_zero, List.set_cons_succ])
            refine take_first 6 (v := ?_) rfl (by kernel_rfl) (by kernel_rfl) (by kernel_rfl) (fun _ _ _ h => h) (Or.inl ⟨by rfl, by intro wx hSw; (try dsimp only at hSw); go_simp; try with_reducible rfl⟩) (by assumption) ?_
            (try simp only [Act.put, List.setIfInBounds_toArray, List.set_cons_zero, List.set_cons_succ])
            refine take_first 7 (v := ?_) rfl (by kernel_rfl) (by kernel_rfl) (by kernel_rfl) (fun _ _ _ h => h) (Or.inl ⟨by rfl, by intro wx hSw; (try dsimp only at hSw); go_simp; try with_reducible rfl⟩) (by assumption) ?_
            (try simp only [Act.put, List.setIfInBounds_toArray, List.set_cons_zero, List.set_cons_succ])
            refine take_first 8 (v := ?_) rfl (by kernel_rfl) (by kernel_rfl) (by kernel_rfl) (fun _ _ _ h => h) (Or.inl ⟨by rfl, by intro wx hSw; (try dsimp only at hSw); obtain ⟨hm1, ⟨x0, x1, x2, x3, x4, x5, x6, x7, x8, x9, x10, x11, x12, x13, x14⟩, hcv⟩ := hSw; go_simp; try with_reducible rfl⟩) (by assumption) ?_
            (try simp only [Act.put, List.setIfInBounds_toArray, List.set_cons_zero, List.set_cons_succ])
            refine comes_up 9 rfl (by kernel_rfl) (fun K hK => ?_)
            go_simp
            refine (hfm _ u0).mono ?_
            rintro e w7 ⟨rfl, hu7⟩
            have u7 : Below wr.heap.size wr w7 := bl_step u0 hu7.bl
            clear hHeld hfm hu7
            go_wp2_with fail
            refine hK.out _ _ ⟨HS1.out w7 u7, HBF.out w7 u7, HCV.out w7 u7⟩ (fun hHeld => ?_)
            clear hK K
            (try simp only [Act.put, List.setIfInBounds_toArray, List.set_cons_zero, List.set_cons_succ])
            refine take_first 10 (v := ?_) rfl (by kernel_rfl) (by kernel_rfl) (by kernel_rfl) (fun _ _ _ h => h) (Or.inl ⟨by rfl, by intro wx hSw; (try dsimp only at hSw); go_simp; try with_reducible rfl⟩) (by assumption) ?_
            (try simp only [Act.put, List.setIfInBounds_toArray, List.set_cons_zero, List.set_cons_succ])
            refine take_first 11 (v := ?_) rfl (by kernel_rfl) (by kernel_rfl) (by kernel_rfl) (fun _ _ _ h => h) (Or.inl ⟨by rfl, by intro wx hSw; (try dsimp only at hSw); go_simp; try with_reducible rfl⟩) (by assumption) ?_
            (try simp only [Act.put, List.setIfInBounds_toArray, List.set_cons_zero, List.set_cons_succ])
            refine take_first 12 (v := ?_) rfl (by kernel_rfl) (by kernel_rfl) (by kernel_rfl) (fun _ _ _ h => h) (Or.inl ⟨by rfl, by intro wx hSw; (try dsimp only at hSw); go_simp; try with_reducible rfl⟩) (by assumption) ?_
            (try simp only [Act.put, List.setIfInBounds_toArray, List.set_cons_zero, List.set_cons_succ])
            refine take_first 13 (v := ?_) rfl (by kernel_rfl) (by kernel_rfl) (by kernel_rfl) (fun _ _ _ h => h) (Or.inl ⟨by rfl, by intro wx hSw; (try dsimp only at hSw); obtain ⟨hm1, ⟨x0, x1, x2, x3, x4, x5, x6, x7, x8, x9, x10, x11, x12, x13, x14⟩, hcv⟩ := hSw; go_simp; try with_reducible rfl⟩) (by assumption) ?_
            (try simp only [Act.put, List.setIfInBounds_toArray, List.set_cons_zero, List.set_cons_succ])
            refine take_first 16 (v := ?_) rfl (by kernel_rfl) (by kernel_rfl) (by kernel_rfl) (fun _ _ _ h => h) (Or.inl ⟨by rfl, by intro wx hSw; (try dsimp only at hSw); go_simp; try with_reducible rfl⟩) (by assumption) ?_
            (try simp only [Act.put, List.setIfInBounds_toArray, List.set_cons_zero, List.set_cons_succ])
            refine take_first 17 (v := ?_) rfl (by kernel_rfl) (by kernel_rfl) (by kernel_rfl) (fun _ _ _ h => h) (Or.inl ⟨by rfl, by intro wx hSw; (try dsimp only at hSw); obtain ⟨hm1, ⟨x0, x1, x2, x3, x4, x5, x6, x7, x8, x9, x10, x11, x12, x13, x14⟩, hcv⟩ := hSw; go_simp; try with_reducible rfl⟩) (by assumption) ?_
            (try simp only [Act.put, List.setIfInBounds_toArray, List.set_cons_zero, List.set_cons_succ])
            refine comes_up 14 rfl (by kernel_rfl) (fun K hK => ?_)
            go_simp
            refine (hre _ u7).mono ?_
            rintro e w8 ⟨v8, rfl, ho8⟩
            have u8 : Below wr.heap.size wr w8 := bl_step u7 ho8.2.1
            obtain ⟨qo, qc, rfl, hrx8⟩ := own_rx ho8.1 (by rw [sealB_len]; have := HWL.out; omega)
            have hcv8 := Cd.conv_row hrx8.row
            rw [HSE.out] at hcv8
            generalize (sealB (wire F)).length = ql at *
            clear hHeld hre ho8 hrx8
            go_wp2_with fail
            refine hK.out _ _ ⟨HS1.out w8 u8, HBF.out w8 u8, HCV.out w8 u8⟩ (fun hHeld => ?_)
            clear hK K
            (try simp only [Act.put, List.setIfInBounds_toArray, List.set_cons_zero, List.set_cons_succ])
            refine comes_up 15 rfl (by kernel_rfl) (fun K hK => ?_)
            go_simp
            go_wp2_with fail
            refine hK.out _ _ ⟨HS1.out w8 u8, HBF.out w8 u8, HCV.out w8 u8⟩ (fun hHeld => ?_)
            clear hK K
            (try simp only [Act.put, List.setIfInBounds_toArray, List.set_cons_zero, List.set_cons_succ])
            clear hcv8
            refine take_first 18 (v := ?_) rfl (by kernel_rfl) (by kernel_rfl) (by kernel_rfl) (fun _ _ _ h => h) (Or.inl ⟨by rfl, by intro wx hSw; (try dsimp only at hSw); go_simp; try with_reducible rfl⟩) (by assumption) ?_
            (try simp only [Act.put, List.setIfInBounds_toArray, List.set_cons_zero, List.set_cons_succ])
            refine take_first 19 (v := ?_) rfl (by kernel_rfl) (by kernel_rfl) (by kernel_rfl) (fun _ _ _ h => h) (Or.inl ⟨by rfl, by intro wx hSw; (try dsimp only at hSw); go_simp; try with_reducible rfl⟩) (by assumption) ?_
            (try simp only [Act.put, List.setIfInBounds_toArray, List.set_cons_zero, List.set_cons_succ])
            refine wpAnyH_done (by kernel_rfl) ?_ _
            refine NoPanic.normal ?_
            clear hHeld
            have z8 := (u8.block w.heap.size (by omega)).trans hrz
            have k8 := (u8.block B hBl).trans hfb
            unfold zero15 at z8
            unfold fcells at k8
            have hb8 := bl_step hbl u8
            have HIN8 : Hid (FIn (fun _ => True) (w8.setRow w.heap.size #[.int .u8 (F.kind : Nat), .int .i64 F.frm, .int .u64 (F.idN : Nat), .int .i64 F.idP, .int .u16 (F.set : Nat), .int .u64 (F.curN : Nat), .int .i64 F.curP, .int .u64 (F.promN : Nat), .int .i64 F.promP, .slice a.so F.st.length a.sc, .int .u64 (F.base : Nat), .slice a.mo F.ms.length a.mc, .slice a.io F.it.length a.ic, .int .u64 (F.ack : Nat), .int .u64 (F.safe : Nat)]) F a) := by
              have hi := HLE.out.up u8
              exact (FIn.keep hi (kp_setRow (fun b hb => hb.elim (fun hq => by have := HQ.out b hq; omega) (fun hb => by omega)))).imp (fun _ _ _ => trivial)
            have hset := setRow_heap w8 w.heap.size _ #[.int .u8 (F.kind : Nat), .int .i64 F.frm, .int .u64 (F.idN : Nat), .int .i64 F.idP, .int .u16 (F.set : Nat), .int .u64 (F.curN : Nat), .int .i64 F.curP, .int .u64 (F.promN : Nat), .int .i64 F.promP, .slice a.so F.st.length a.sc, .int .u64 (F.base : Nat), .slice a.mo F.ms.length a.mc, .slice a.io F.it.length a.ic, .int .u64 (F.ack : Nat), .int .u64 (F.safe : Nat)] 30 (0, 0) z8
            go_wp2_with (first | (refine wpList_load_row rfl 30 (.tmp 7) rfl B rfl 30 #[.int .u8 (F.kind : Nat), .int .i64 F.frm, .int .u64 (F.idN : Nat), .int .i64 F.idP, .int .u16 (F.set : Nat), .int .u64 (F.curN : Nat), .int .i64 F.curP, .int .u64 (F.promN : Nat), .int .i64 F.promP, .slice a.so F.st.length a.sc, .int .u64 (F.base : Nat), .slice a.mo F.ms.length a.mc, .slice a.io F.it.length a.ic, .int .u64 (F.ack : Nat), .int .u64 (F.safe : Nat)] (0, 0) _ k8 Try.underlying30 rfl info30 ?_) | (refine wpList_store_row rfl 30 (.tmp 2) (.tmp 138) rfl w.heap.size #[.int .u8 (F.kind : Nat), .int .i64 F.frm, .int .u64 (F.idN : Nat), .int .i64 F.idP, .int .u16 (F.set : Nat), .int .u64 (F.curN : Nat), .int .i64 F.curP, .int .u64 (F.promN : Nat), .int .i64 F.promP, .slice a.so F.st.length a.sc, .int .u64 (F.base : Nat), .slice a.mo F.ms.length a.mc, .slice a.io F.it.length a.ic, .int .u64 (F.ack : Nat), .int .u64 (F.safe : Nat)] rfl rfl 30 _ z8 info30 rfl (by simp [Value.oneCell']) ?_))
            refine bodyPost_ret (results_cell2 (g := w.heap.size) Try.results18 rfl rfl (load30 hset rfl)) rfl ?_
            refine ⟨?_, below_setRow hb8 (Nat.le_refl _) _⟩
            unfold RefAns
            rw [HOK.out]
            exact ⟨a, rfl, HIN8.out⟩
        · have hst0 := hA2 hat
          have HER : Hid (decF 1073741824 xs = (3, zeroF)) := by
            show _ = _
            unfold decF
            rw [if_neg (by have := HN.out; omega), HOP.out.1, if_neg (by simp), HOP.out.2, if_neg (by rw [← HST.out.1]; exact fun h => hst0 h.1)]
          have hAe : ((A : Int) != (yn : Int)) = true := by simpa using hat
          clear hA1 hA2 hst0 hat HST
          go_wp2_with fail
          (try rw [HWT.out])
          refine wp_region_noPanic ?_
          refine wp_region_held_drew (S := fun wx => wx.cell? ⟨m, 1, none⟩ = some (.int .i64 A)) (by kernel_rfl) (HS1.out _ u0) (fun hHeld => ?_)
          refine take_first 0 (v := ?_) rfl (by kernel_rfl) (by kernel_rfl) (by kernel_rfl) (fun _ _ _ h => h) (Or.inl ⟨by rfl, by intro wx hSw; (try dsimp only at hSw); go_simp; try with_reducible rfl⟩) (by assumption) ?_
          (try simp only [Act.put, List.setIfInBounds_toArray, List.set_cons_zero, List.set_cons_succ])
          refine take_first 1 (v := ?_) rfl (by kernel_rfl) (by kernel_rfl) (by kernel_rfl) (fun _ _ _ h => h) (Or.inl ⟨by rfl, by intro wx hSw; (try dsimp only at hSw); go_simp; try with_reducible rfl⟩) (by assumption) ?_
          (try simp only [Act.put, List.setIfInBounds_toArray, List.set_cons_zero, List.set_cons_succ])
          refine take_first 2 (v := ?_) rfl (by kernel_rfl) (by kernel_rfl) (by kernel_rfl) (fun _ _ _ h => h) (Or.inl ⟨by rfl, by intro wx hSw; (try dsimp only at hSw); go_simp; try with_reducible rfl⟩) (by assumption) ?_
          (try simp only [Act.put, List.setIfInBounds_toArray, List.set_cons_zero, List.set_cons_succ])
          refine take_first 3 (v := ?_) rfl (by kernel_rfl) (by kernel_rfl) (by kernel_rfl) (fun _ _ _ h => h) (Or.inl ⟨by rfl, by intro wx hSw; (try dsimp only at hSw); go_simp; try with_reducible rfl⟩) (by assumption) ?_
          (try simp only [Act.put, List.setIfInBounds_toArray, List.set_cons_zero, List.set_cons_succ])
          refine take_first 4 (v := ?_) rfl (by kernel_rfl) (by kernel_rfl) (by kernel_rfl) (fun _ _ _ h => h) (Or.inl ⟨by rfl, by intro wx hSw; (try dsimp only at hSw); go_simp; try with_reducible rfl⟩) (by assumption) ?_
          (try simp only [Act.put, List.setIfInBounds_toArray, List.set_cons_zero, List.set_cons_succ])
          refine take_first 5 (v := ?_) rfl (by kernel_rfl) (by kernel_rfl) (by kernel_rfl) (fun _ _ _ h => h) (Or.inl ⟨by rfl, by intro wx hSw; (try dsimp only at hSw); go_simp; try with_reducible rfl⟩) (by assumption) ?_
          (try simp only [Act.put, List.setIfInBounds_toArray, List.set_cons_zero, List.set_cons_succ])
          refine take_first 6 (v := ?_) rfl (by kernel_rfl) (by kernel_rfl) (by kernel_rfl) (fun _ _ _ h => h) (Or.inl ⟨by rfl, by intro wx hSw; (try dsimp only at hSw); go_simp; try with_reducible rfl⟩) (by assumption) ?_
          (try simp only [Act.put, List.setIfInBounds_toArray, List.set_cons_zero, List.set_cons_succ])
          refine take_first 7 (v := ?_) rfl (by kernel_rfl) (by kernel_rfl) (by kernel_rfl) (fun _ _ _ h => h) (Or.inl ⟨by rfl, by intro wx hSw; (try dsimp only at hSw); go_simp; try with_reducible rfl⟩) (by assumption) ?_
          (try simp only [Act.put, List.setIfInBounds_toArray, List.set_cons_zero, List.set_cons_succ])
          refine take_first 8 (v := undef) rfl (by kernel_rfl) (by kernel_rfl) (by kernel_rfl) (fun _ _ _ h => h) (Or.inr ⟨by rfl, rfl⟩) (by assumption) ?_
          (try simp only [Act.put, List.setIfInBounds_toArray, List.set_cons_zero, List.set_cons_succ])
          refine take_first 9 (v := undef) rfl (by kernel_rfl) (by kernel_rfl) (by kernel_rfl) (fun _ _ _ h => h) (Or.inr ⟨by rfl, rfl⟩) (by assumption) ?_
          (try simp only [Act.put, List.setIfInBounds_toArray, List.set_cons_zero, List.set_cons_succ])
          refine take_first 10 (v := undef) rfl (by kernel_rfl) (by kernel_rfl) (by kernel_rfl) (fun _ _ _ h => h) (Or.inr ⟨by rfl, rfl⟩) (by assumption) ?_
          (try simp only [Act.put, List.setIfInBounds_toArray, List.set_cons_zero, List.set_cons_succ])
          refine take_first 11 (v := ?_) rfl (by kernel_rfl) (by kernel_rfl) (by kernel_rfl) (fun _ _ _ h => h) (Or.inl ⟨by rfl, by intro wx hSw; (try dsimp only at hSw); go_simp; try with_reducible rfl⟩) (by assumption) ?_
          (try simp only [Act.put, List.setIfInBounds_toArray, List.set_cons_zero, List.set_cons_succ])
          refine take_first 12 (v := ?_) rfl (by kernel_rfl) (by kernel_rfl) (by kernel_rfl) (fun _ _ _ h => h) (Or.inl ⟨by rfl, by intro wx hSw; (try dsimp only at hSw); go_simp; try with_reducible rfl⟩) (by assumption) ?_
          (try simp only [Act.put, List.setIfInBounds_toArray, List.set_cons_zero, List.set_cons_succ])
          refine take_first 13 (v := undef) rfl (by kernel_rfl) (by kernel_rfl) (by kernel_rfl) (fun _ _ _ h => h) (Or.inr ⟨by rfl, rfl⟩) (by assumption) ?_
          (try simp only [Act.put, List.setIfInBounds_toArray, List.set_cons_zero, List.set_cons_succ])
          refine take_first 14 (v := undef) rfl (by kernel_rfl) (by kernel_rfl) (by kernel_rfl) (fun _ _ _ h => h) (Or.inr ⟨by rfl, rfl⟩) (by assumption) ?_
          (try simp only [Act.put, List.setIfInBounds_toArray, List.set_cons_zero, List.set_cons_succ])
          refine take_first 15 (v := undef) rfl (by kernel_rfl) (by kernel_rfl) (by kernel_rfl) (fun _ _ _ h => h) (Or.inr ⟨by rfl, rfl⟩) (by assumption) ?_
          (try simp only [Act.put, List.setIfInBounds_toArray, List.set_cons_zero, List.set_cons_succ])
          refine take_first 16 (v := undef) rfl (by kernel_rfl) (by kernel_rfl) (by kernel_rfl) (fun _ _ _ h => h) (Or.inr ⟨by rfl, rfl⟩) (by assumption) ?_
          (try simp only [Act.put, List.setIfInBounds_toArray, List.set_cons_zero, List.set_cons_succ])
          refine take_first 17 (v := undef) rfl (by kernel_rfl) (by kernel_rfl) (by kernel_rfl) (fun _ _ _ h => h) (Or.inr ⟨by rfl, rfl⟩) (by assumption) ?_
          (try simp only [Act.put, List.setIfInBounds_toArray, List.set_cons_zero, List.set_cons_succ])
          refine take_first 18 (v := undef) rfl (by kernel_rfl) (by kernel_rfl) (by kernel_rfl) (fun _ _ _ h => h) (Or.inr ⟨by rfl, rfl⟩) (by assumption) ?_
          (try simp only [Act.put, List.setIfInBounds_toArray, List.set_cons_zero, List.set_cons_succ])
          refine take_first 19 (v := ?_) rfl (by kernel_rfl) (by kernel_rfl) (by kernel_rfl) (fun _ _ _ h => h) (Or.inl ⟨by rfl, by intro wx hSw; (try dsimp only at hSw); go_simp; try with_reducible rfl⟩) (by assumption) ?_
          (try simp only [Act.put, List.setIfInBounds_toArray, List.set_cons_zero, List.set_cons_succ])
          refine wpAnyH_done (by kernel_rfl) ?_ _
          refine NoPanic.normal ?_
          clear hHeld
          have z7 := (u0.block w.heap.size (by omega)).trans hrz
          unfold zero15 at z7
          have hb7 := bl_step hbl u0
          have hzs := setRow_heap wr.drew w.heap.size _ #[.int .u8 0, .int .i64 0, .int .u64 0, .int .i64 0, .int .u16 0, .int .u64 0, .int .i64 0, .int .u64 0, .int .i64 0, .slice none 0 0, .int .u64 0, .slice none 0 0, .slice none 0 0, .int .u64 0, .int .u64 0] 30 (0, 0) z7
          go_wp2_with (first | (refine wpList_store_row rfl 30 (.tmp 2) (.tmp 137) rfl w.heap.size #[.int .u8 0, .int .i64 0, .int .u64 0, .int .i64 0, .int .u16 0, .int .u64 0, .int .i64 0, .int .u64 0, .int .i64 0, .slice none 0 0, .int .u64 0, .slice none 0 0, .slice none 0 0, .int .u64 0, .int .u64 0] rfl rfl 30 _ z7 info30 rfl (by simp [Value.oneCell']) ?_))
          refine bodyPost_ret (results_cell2 (g := w.heap.size) Try.results18 rfl rfl (load30 hzs rfl)) rfl ?_
          exact ⟨refAns_zero HER.out, below_setRow hb7 (Nat.le_refl _) _⟩

end Go.Proofs.Ytfemjbaadnjanaa
