/-
  Proved: for all numbers most and window, all lists of texts a and b and every view's number v, LinkEpochs(most, window, a, b, v) returns true: what one epoch's ends send never comes in another one's; the document's example holds. The form's reach (no argument is greater than memory) is used; no other condition.
-/
import Derived.Test.YthobbnmdpkginaaRows
import Derived.Test.YthobbnmdpkginaaLEpo
namespace Go.Proofs.Ythobbnmdpkginaa.linkEpochs
open Go.ChangeShapes Go.WideShapes Go.ChangeAt Go.RowKit Go.Joins
open Go.ChangeMaps (open_string shut_string)
set_option linter.unusedVariables false
set_option linter.unusedSimpArgs false

set_option maxRecDepth 20000 in
set_option maxHeartbeats 1500000 in
theorem walk (w : World) (most : Nat) (h0 : most < 256) (win : Nat) (h1 : win < 256) (a2 : Option Addr) (len2 cap2 : Nat) (xs2 : List Value) (hx2 : Tx w 9 (.slice a2 len2 cap2) xs2) (hs2 : len2 ≤ 140737488355328) (a3 : Option Addr) (len3 cap3 : Nat) (xs3 : List Value) (hx3 : Tx w 9 (.slice a3 len3 cap3) xs3) (hs3 : len3 ≤ 140737488355328) (vn : Nat) (hvn : vn < 18446744073709551616) (vp : Int) (hvp : In vp) :
    Calls Try.prog 8 #[.int .u8 (most : Nat), .int .u8 (win : Nat), .slice a2 len2 cap2, .slice a3 len3 cap3, .agg #[.int .u64 (vn : Nat), .int .i64 vp]] w fun e w' => e = .returned (.bool true) ∧ Below w.heap.size w w' := by
  have hb : (w.alloc (.cells #[.int .u64 (vn : Nat), .int .i64 vp] 43)).heap[w.heap.size]? = some (.cells #[.int .u64 (vn : Nat), .int .i64 vp] 43 (0, 0)) := Deep.blk_alloc_new _ _
  have t0 : Turned (fun _ => False) w (w.alloc (.cells #[.int .u64 (vn : Nat), .int .i64 vp] 43)) := (Turned.refl _ w).alloc _
  have hs0 : w.heap.size < (w.alloc (.cells #[.int .u64 (vn : Nat), .int .i64 vp] 43)).heap.size := by simp
  generalize hw0 : w.alloc (.cells #[.int .u64 (vn : Nat), .int .i64 vp] 43) = w0 at *
  have HC : Hid (∀ w1, Turned (fun _ => False) w0 w1 → w1.cell? ⟨w.heap.size, 0, none⟩ = some (.int .u64 (vn : Nat)) ∧ w1.cell? ⟨w.heap.size, 1, none⟩ = some (.int .i64 vp)) := fun w1 t => by
    have e := (t.block w.heap.size hs0 (fun f => f)).trans hb
    constructor <;> (unfold World.cell?; rw [e]; rfl)
  have HX2 : Hid (Tx w 9 (.slice a2 len2 cap2) xs2) := hx2
  have HX3 : Hid (Tx w 9 (.slice a3 len3 cap3) xs3) := hx3
  have hcap2 := hx2.len
  have hcap3 := hx3.len
  clear hb hs0 hx2 hx3 hvn hvp
  have cases : (((vn : Int) == 4) = true ∧ (vp == 2) = true) ∨ ((((vn : Int) == 4) = false ∨ (((vn : Int) == 4) = true ∧ (vp == 2) = false)) ∧ ¬ (vn = 4 ∧ vp = 2)) := by
    by_cases h4 : vn = 4
    · by_cases h2 : vp = 2
      · exact .inl ⟨by simp [h4], by simp [h2]⟩
      · exact .inr ⟨.inr ⟨by simp [h4], by simpa using h2⟩, fun h => h2 h.2⟩
    · exact .inr ⟨.inl (by simp; omega), fun h => h4 h.1⟩
  rcases cases with ⟨q1, q2⟩ | ⟨hq, hne⟩
  · as_aux_lemma =>
    go_enter Try.func8, Try.ntmps8
    go_wp2_with fail
    (try simp only [hw0])
    refine (awake_any _).mono ?_
    rintro e w1 ⟨rfl, t1⟩
    obtain ⟨c0, c1⟩ := HC.out w1 t1
    have t01 := t0.trans t1 (fun _ f => f.elim)
    clear t0 t1 HC
    go_wp2_with fail
    refine (awake_any _).mono ?_
    rintro e w2 ⟨rfl, t2⟩
    have t02 := t01.trans t2 (fun _ f => f.elim)
    clear t01 t2 c0 c1
    go_wp2
    go_ret
    exact ⟨rfl, t02.below (Nat.le_refl _) (fun _ f => f.elim)⟩
  · by_cases hsum : 100 < len2 + len3
    · have hsumI : (100 : Int) < (len2 : Int) + (len3 : Int) := by omega
      have HNE : Hid (¬ (vn = 4 ∧ vp = 2)) := hne
      clear hne
      rcases hq with q1 | ⟨q1, q2⟩
      all_goals
        as_aux_lemma =>
        go_enter Try.func8, Try.ntmps8
        go_wp2_with fail
        (try simp only [hw0])
        refine (awake_any _).mono ?_
        rintro e w1 ⟨rfl, t1⟩
        obtain ⟨c0, c1⟩ := HC.out w1 t1
        have t01 := t0.trans t1 (fun _ f => f.elim)
        clear t0 t1 HC
        go_wp2_with fail
        refine (awake_any _).mono ?_
        rintro e w2 ⟨rfl, t2⟩
        have t02 := t01.trans t2 (fun _ f => f.elim)
        clear t01 t2 c0 c1
        go_wp2
        go_ret
        exact ⟨rfl, t02.below (Nat.le_refl _) (fun _ f => f.elim)⟩
    · have hsumI : ¬ (100 : Int) < (len2 : Int) + (len3 : Int) := by omega
      obtain ⟨M, hM⟩ : ∃ M, M = 1 + most % 12 := ⟨_, rfl⟩
      obtain ⟨N, hN⟩ : ∃ N, N = 1 + win % 8 := ⟨_, rfl⟩
      have hI0 : Hid (Inv M N (Pa [])) := inv_zero (by omega) (by omega) (by omega) (by omega)
      have HB := fun wx => ws_begin wx most win h0 h1 M N hM hN
      have hMI : 1 + (most : Int) % 12 = (M : Int) := by omega
      have hNI : 1 + (win : Int) % 8 = (N : Int) := by omega
      have HNW := fun wx => lnewA_any wx vn vp M (by omega) (by omega) N (by omega) (by omega)
      have HNE : Hid (¬ (vn = 4 ∧ vp = 2)) := hne
      have HL : Hid (len2 ≤ 100 ∧ len3 ≤ 100) := by unfold Hid; omega
      clear hM hN hne
      rcases hq with q1 | ⟨q1, q2⟩
      all_goals
        as_aux_lemma =>
        go_enter Try.func8, Try.ntmps8
        go_wp2_with fail
        (try simp only [hw0])
        refine (awake_any _).mono ?_
        rintro e w1 ⟨rfl, t1⟩
        obtain ⟨c0, c1⟩ := HC.out w1 t1
        have t01 := t0.trans t1 (fun _ f => f.elim)
        go_wp2_with fail
        refine (HB _).mono ?_
        rintro e w2 ⟨q, ka, kb, rfl, h2⟩
        obtain ⟨d0, d1⟩ := HC.out w2 (t1.trans h2.turned (fun _ f => f.elim))
        have h3 := h2.behind t01
        clear h2 t01 HB c0 c1 t0 t1 HC
        go_wp2_with fail
        refine (HNW _).mono ?_
        rintro e w3 ⟨kx, Fx, rfl, lx, t3, bx⟩
        have hlt3 := lx.lt
        have h4 : Ws w w3 Fx q ka kb M N (Pa []) := (h3.more t3 Fx (fun b hb => ⟨bx b hb, hlt3 b hb⟩)).less Fx (fun b hb => .inr hb)
        have hFx : ∀ b, Fx b → w.heap.size ≤ b := fun b hb => Nat.le_trans h3.turned.size (bx b hb)
        clear h3 t3 bx hlt3 HNW d0 d1
        go_wp2
        clear hMI hNI h0 h1
        go_loopw [14] (fun iv wr => ∃ (i ka kb : Nat) (ys : List Value), i ≤ len2 ∧ iv = .int .i64 i ∧ Ws w wr Fx q ka kb M N (Pa ys) ∧ Inv M N (Pa ys) ∧ Lnk wr 9 3 Fx kx vn vp M N 0 [] 0 []) (fun iv _ => len2 - (intOf iv).toNat)
        case atStart => exact ⟨0, ka, kb, [], by omega, rfl, h4, hI0.out, lx⟩
        case round =>
          clear h4 hI0 lx
          obtain ⟨i, ka, kb, ys, hi, rfl, h4, inv, lx⟩ := hrel
          by_cases hlt : i < len2
          · have hltI : (i : Int) < len2 := by omega
            have tx3 := HX2.out.turned h4.turned
            obtain ⟨b, off, x, rfl, hxi, hkd, hc⟩ := tx3.at hlt
            obtain ⟨s, rfl⟩ := kd_s hkd
            have hyM : ys.length ≤ M := inv.A.xM
            have hM12 := inv.M12
            have hact := ws_put0 h4 inv (by omega) s
            have LX : Hid (Lnk wr 9 3 Fx kx vn vp M N 0 [] 0 []) := lx
            clear h4 inv hxi tx3 hkd lx hyM hM12
            go_wp2_with fail
            refine hact.mono ?_
            rintro e w5 ⟨rfl, ka5, kb5, ys5, h5, k5, i5, -⟩
            have l5 := LX.out.kep k5
            clear hact hc LX k5
            go_wp2
            go_roundw
            case rel => first | exact ⟨i + 1, ka5, kb5, ys5, by omega, by go_num, h5, i5, l5⟩ | ((repeat apply Exists.intro); exact ⟨⟨i + 1, ka5, kb5, ys5, by omega, by go_num, h5, i5, l5⟩, rfl⟩)
            case measure => simp [intOf]; omega
          · have hltI : ¬ (i : Int) < len2 := by omega
            go_wp2
            have HFX : Hid (∀ b, Fx b → w.heap.size ≤ b) := hFx
            clear hFx hltI hlt hi
            go_loopw [15] (fun iv wr => ∃ (i : Nat) (Fx : Nat → Prop) (zs : List Value), i ≤ len3 ∧ iv = .int .i64 i ∧ Ws w wr Fx q ka kb M N (Pa ys) ∧ Lnk wr 9 3 Fx kx vn vp M N 0 zs 0 [] ∧ (∀ x ∈ zs, Kd 9 x) ∧ ∀ b, Fx b → w.heap.size ≤ b) (fun iv _ => len3 - (intOf iv).toNat)
            case atStart => exact ⟨0, Fx, [], by omega, rfl, h4, lx, by simp, HFX.out⟩
            case round =>
              clear h4 lx HFX
              obtain ⟨i3, Fx, zs, hi3, rfl, h4, lx, hzk, hFx⟩ := hrel
              by_cases hlt : i3 < len3
              · have hltI : (i3 : Int) < len3 := by omega
                have tx3 := HX3.out.turned h4.turned
                obtain ⟨b, off, x, rfl, hxi, hkd, hc⟩ := tx3.at hlt
                obtain ⟨s, rfl⟩ := kd_s hkd
                have hle := lx.le
                by_cases hr : zs.length < M
                · have hput := lputA_any lx hr (.string s) (one_string s)
                  have H4 : Hid (Ws w wr Fx q ka kb M N (Pa ys) ∧ (∀ x ∈ zs, Kd 9 x) ∧ ∀ b, Fx b → w.heap.size ≤ b) := ⟨h4, hzk, hFx⟩
                  clear h4 lx hxi tx3 hkd hle hzk hFx hr
                  go_wp2_with fail
                  refine hput.mono ?_
                  rintro e w5 ⟨rfl, F5, l5, g5⟩
                  have h5 : Ws w w5 F5 q ka kb M N (Pa ys) := H4.out.1.aliens rfl rfl g5.turned (fun b hb => hb) H4.out.2.2 (fun b hb => (g5.foot b hb).imp id (fun hle => ⟨hle, l5.lt b hb⟩))
                  have z5 : ∀ x ∈ zs ++ [.string s], Kd 9 x := fun x hx => (List.mem_append.1 hx).elim (H4.out.2.1 x) (fun e => by rw [List.mem_singleton.1 e]; exact kd9 s)
                  have f5 : ∀ b, F5 b → w.heap.size ≤ b := fun b hb => (g5.foot b hb).elim (H4.out.2.2 b) (fun hle => Nat.le_trans H4.out.1.turned.size hle)
                  have HH5 : Hid (Ws w w5 F5 q ka kb M N (Pa ys) ∧ Lnk w5 9 3 F5 kx vn vp M N 0 (zs ++ [.string s]) 0 [] ∧ (∀ x ∈ zs ++ [.string s], Kd 9 x) ∧ ∀ b, F5 b → w.heap.size ≤ b) := ⟨h5, l5, z5, f5⟩
                  clear hput h5 l5 z5 f5 g5 H4 hc
                  go_wp2
                  go_roundw
                  case rel => first | exact ⟨i3 + 1, F5, _, by omega, by go_num, HH5.out⟩ | ((repeat apply Exists.intro); exact ⟨⟨i3 + 1, F5, _, by omega, by go_num, HH5.out⟩, rfl⟩)
                  case measure => simp [intOf]; omega
                · have hput := lputA_busy lx (by omega) (.string s)
                  have HH4 : Hid (∀ k, Ws w (wr.drewN k) Fx q ka kb M N (Pa ys) ∧ Lnk (wr.drewN k) 9 3 Fx kx vn vp M N 0 zs 0 [] ∧ (∀ x ∈ zs, Kd 9 x) ∧ ∀ b, Fx b → w.heap.size ≤ b) := fun k => ⟨h4.still ((Turned.refl _ wr).drewN k), lx.still ((Turned.refl _ wr).drewN k), hzk, hFx⟩
                  clear h4 lx hxi tx3 hkd hle hzk hFx hr
                  go_wp2_with fail
                  refine hput.mono ?_
                  rintro e w5 ⟨rfl, m5, rfl⟩
                  have HH5 := HH4.out m5
                  have HHH : Hid _ := HH5
                  clear hput hc HH4 HH5
                  go_wp2
                  go_roundw
                  case rel => first | exact ⟨i3 + 1, Fx, zs, by omega, by go_num, HHH.out⟩ | ((repeat apply Exists.intro); exact ⟨⟨i3 + 1, Fx, zs, by omega, by go_num, HHH.out⟩, rfl⟩)
                  case measure => simp [intOf]; omega
              · have hltI : ¬ (i3 : Int) < len3 := by omega
                have hyl : ys.length ≤ 900 := by
                  have := inv.A.xM
                  have e : (Pa ys).xA.length = ys.length := rfl
                  have := inv.M12
                  omega
                have e1 := h4.c1
                have h5 := h4.still ((Turned.refl _ wr).drew)
                have lx5 := lx.still ((Turned.refl _ wr).drew)
                have hout := loutA_any lx5 hzk
                have HINV : Hid (Inv M N (Pa ys) ∧ ys.length ≤ 900) := ⟨inv, hyl⟩
                have H5 : Hid (Ws w wr.drew Fx q ka kb M N (Pa ys) ∧ Lnk wr.drew 9 3 Fx kx vn vp M N 0 zs 0 []) := ⟨h5, lx5⟩
                clear h4 lx h5 lx5 inv hyl hzk hFx
                go_wp2_with fail
                refine wp_region_noPanic ?_
                refine wp_region_held_drew (S := fun wx => wx.cell? ⟨q, 1, none⟩ = some (.pointer (some ⟨kb, 0, none⟩))) (by kernel_rfl) (show _ from e1) (fun hHeld => ?_)
                refine take_first 0 (v := ?_) rfl (by kernel_rfl) (by kernel_rfl) (by kernel_rfl) (fun _ _ _ h => h) (Or.inl ⟨by rfl, by intro wx hSw; (try dsimp only at hSw); go_simp; try with_reducible rfl⟩) (by assumption) ?_
                (try simp only [Act.put, List.setIfInBounds_toArray, List.set_cons_zero, List.set_cons_succ])
                refine take_first 1 (v := ?_) rfl (by kernel_rfl) (by kernel_rfl) (by kernel_rfl) (fun _ _ _ h => h) (Or.inl ⟨by rfl, by intro wx hSw; (try dsimp only at hSw); go_simp; try with_reducible rfl⟩) (by assumption) ?_
                (try simp only [Act.put, List.setIfInBounds_toArray, List.set_cons_zero, List.set_cons_succ])
                refine take_first 2 (v := ?_) rfl (by kernel_rfl) (by kernel_rfl) (by kernel_rfl) (fun _ _ _ h => h) (Or.inl ⟨by rfl, by intro wx hSw; (try dsimp only at hSw); go_simp; try with_reducible rfl⟩) (by assumption) ?_
                (try simp only [Act.put, List.setIfInBounds_toArray, List.set_cons_zero, List.set_cons_succ])
                refine take_first 3 (v := ?_) rfl (by kernel_rfl) (by kernel_rfl) (by kernel_rfl) (fun _ _ _ h => h) (Or.inl ⟨by rfl, by intro wx hSw; (try dsimp only at hSw); go_simp; try with_reducible rfl⟩) (by assumption) ?_
                (try simp only [Act.put, List.setIfInBounds_toArray, List.set_cons_zero, List.set_cons_succ])
                refine take_first 4 (v := ?_) rfl (by kernel_rfl) (by kernel_rfl) (by kernel_rfl) (fun _ _ _ h => h) (Or.inl ⟨by rfl, by intro wx hSw; (try dsimp only at hSw); go_simp; try with_reducible rfl⟩) (by assumption) ?_
                (try simp only [Act.put, List.setIfInBounds_toArray, List.set_cons_zero, List.set_cons_succ])
                refine comes_up 5 rfl (by kernel_rfl) (fun K hK => ?_)
                go_simp
                refine hout.mono ?_
                rintro e w6 ⟨ao, n6, cap6, rfl, -, -, t6, -⟩
                have h6 := H5.out.1.still t6
                have f1 := h6.c1
                have hst := ws_staleB h6 vn vp HNE.out 0 ao n6 cap6 0
                have L6 : Hid (Lnk w6 9 3 Fx kx vn vp M N 0 zs 0 []) := H5.out.2.still t6
                clear hout H5 t6 h6 e1
                go_wp2_with fail
                refine hK.out _ _ f1 (fun hHeld => ?_)
                clear hK K
                (try simp only [Act.put, List.setIfInBounds_toArray, List.set_cons_zero, List.set_cons_succ])
                refine comes_up 6 rfl (by kernel_rfl) (fun K hK => ?_)
                go_simp
                refine hst.mono ?_
                rintro e w7 ⟨rfl, HH⟩
                have g1 := HH.out.1.c1
                have L7 : Hid (Lnk w7 9 3 Fx kx vn vp M N 0 zs 0 []) := L6.out.still HH.out.2
                have hout := ws_outB HH.out.1 (by intro x hx; cases hx)
                clear hst L6 HH f1
                go_wp2_with fail
                refine hK.out _ _ g1 (fun hHeld => ?_)
                clear hK K
                (try simp only [Act.put, List.setIfInBounds_toArray, List.set_cons_zero, List.set_cons_succ])
                refine take_first 7 (v := ?_) rfl (by kernel_rfl) (by kernel_rfl) (by kernel_rfl) (fun _ _ _ h => h) (Or.inl ⟨by rfl, by intro wx hSw; (try dsimp only at hSw); go_simp; try with_reducible rfl⟩) (by assumption) ?_
                (try simp only [Act.put, List.setIfInBounds_toArray, List.set_cons_zero, List.set_cons_succ])
                refine take_first 8 (v := ?_) rfl (by kernel_rfl) (by kernel_rfl) (by kernel_rfl) (fun _ _ _ h => h) (Or.inl ⟨by rfl, by intro wx hSw; (try dsimp only at hSw); go_simp; try with_reducible rfl⟩) (by assumption) ?_
                (try simp only [Act.put, List.setIfInBounds_toArray, List.set_cons_zero, List.set_cons_succ])
                refine take_first 9 (v := ?_) rfl (by kernel_rfl) (by kernel_rfl) (by kernel_rfl) (fun _ _ _ h => h) (Or.inl ⟨by rfl, by intro wx hSw; (try dsimp only at hSw); go_simp; try with_reducible rfl⟩) (by assumption) ?_
                (try simp only [Act.put, List.setIfInBounds_toArray, List.set_cons_zero, List.set_cons_succ])
                refine take_first 10 (v := ?_) rfl (by kernel_rfl) (by kernel_rfl) (by kernel_rfl) (fun _ _ _ h => h) (Or.inl ⟨by rfl, by intro wx hSw; (try dsimp only at hSw); go_simp; try with_reducible rfl⟩) (by assumption) ?_
                (try simp only [Act.put, List.setIfInBounds_toArray, List.set_cons_zero, List.set_cons_succ])
                refine take_first 11 (v := ?_) rfl (by kernel_rfl) (by kernel_rfl) (by kernel_rfl) (fun _ _ _ h => h) (Or.inl ⟨by rfl, by intro wx hSw; (try dsimp only at hSw); go_simp; try with_reducible rfl⟩) (by assumption) ?_
                (try simp only [Act.put, List.setIfInBounds_toArray, List.set_cons_zero, List.set_cons_succ])
                refine wpAnyH_done (by kernel_rfl) ?_ _
                refine NoPanic.normal ?_
                go_wp2_with fail
                refine hout.mono ?_
                rintro e w8 ⟨ao8, n8, cap8, rfl, -, HH⟩
                have L8 := L7.out.still HH.out.2.2.2
                have hst2 : Calls Try.prog 16 #[.pointer (some ⟨kx, 0, none⟩), .agg #[.int .u64 4, .int .i64 2, .int .u64 ((Pa ys).aB : Nat), .slice ao8 n8 cap8, .int .u64 ((Pa ys).nB : Nat)]] w8 fun e w' => e = .returned (.tuple #[.int .i64 0, .int .i64 9]) ∧ Turned (fun _ => False) w8 w' := linA_stale L8 4 2 (fun h => HNE.out ⟨h.1.symm, h.2.symm⟩) _ _ (one_slice ao8 n8 cap8) _
                have H8 : Hid (Ws w w8 (fun _ => False) q ka kb M N (Pa ys)) := HH.out.1.less _ (fun _ f => f.elim)
                clear hout L7 L8 HH g1
                go_wp2_with fail
                refine hst2.mono ?_
                rintro e w9 ⟨rfl, t9⟩
                have h9 := H8.out.still t9
                have g1 := h9.c1
                have hgot : Calls Try.prog 22 #[.pointer (some ⟨kb, 0, none⟩)] w9 fun e w' => e = .returned (.int .u64 0) ∧ w9 = w' := ws_gotB h9
                have H9 : Hid (Ws w w9 (fun _ => False) q ka kb M N (Pa ys)) := h9
                clear hst2 H8 t9 h9
                go_wp2_with fail
                refine hgot.mono ?_
                rintro e w10 ⟨rfl, rfl⟩
                clear hgot
                go_wp2_with fail
                refine (ep2 H9.out HINV.out.1).mono ?_
                rintro e w11 ⟨rfl, ka11, kb11, p11, h11, i11, e11⟩
                have hep4 := ep4 h11 i11 e11 HINV.out.2
                clear H9 h11 i11 e11 g1
                go_wp2_with fail
                refine hep4.mono ?_
                rintro e w12 ⟨rfl, ka12, kb12, p12, h12, i12, e12⟩
                have hep7 := ep7 h12 i12 e12
                clear hep4 h12 i12 e12
                go_wp2_with fail
                refine hep7.mono ?_
                rintro e w13 ⟨rfl, ka13, kb13, p13, h13, i13, e13⟩
                obtain ⟨o2, k2, d2⟩ := h13.c2
                obtain ⟨o5, k5, d5⟩ := h13.c5
                have H13 : Hid (∀ k, Ws w (w13.drewN k) (fun _ => False) q ka13 kb13 M N p13) := fun k => h13.still ((Turned.refl _ w13).drewN k)
                have w1' := fun k => ws_right (H13.out k) i13 ⟨by rw [e13.pA]; have := HINV.out.2; omega, by rw [e13.pB]; simp⟩
                have hcase : (p13.pA.length = 0 ∧ p13.gB.length = 0) ∨ ∃ P G : Nat, p13.pA.length = P ∧ p13.gB.length = G ∧ (P == 0) = false ∧ (G == 0) = false ∧ ((P : Int) == 0) = false ∧ ((G : Int) == 0) = false := by
                  by_cases hy : ys = []
                  · exact .inl ⟨by rw [e13.pA, hy]; rfl, by rw [e13.gB.1 hy]; rfl⟩
                  · have g1 : p13.pA.length ≠ 0 := by rw [e13.pA]; exact fun h => hy (List.length_eq_zero_iff.1 h)
                    have g2 : p13.gB.length ≠ 0 := fun h => hy (e13.gB.2 (List.length_eq_zero_iff.1 h))
                    exact .inr ⟨_, _, rfl, rfl, by simpa using g1, by simpa using g2, by simp; exact fun h => g1 (by rw [h]; rfl), by simp; exact fun h => g2 (by rw [h]; rfl)⟩
                clear hep7 h13 i13 e13
                rcases hcase with ⟨z1, z2⟩ | ⟨P, G, z1, z2, u1, u2, u3, u4⟩
                all_goals
                  rw [z1] at d2
                  rw [z2] at d5
                  clear z1 z2
                  go_wp2_with fail
                  go_quiet (first | (go_at_call 13; refine Calls.quiet_of (w1' _)))
                  go_wp2
                  go_ret
                  exact ⟨rfl, (H13.out _).below⟩

set_option maxRecDepth 100000 in
theorem lifted (os : Os) (started : os.Started) (H : Type) (enc : TypeId × Value → H) :
    ReturnsInHanded {} Try.checked os 8 .any (Rows.linkEpochsSpec.pre6 enc Try.prog Try.f8 Rows.linkEpochsRow.domain false) (Rows.linkEpochsSpec.post enc Try.prog Try.f8 false true false false) := by
  refine returnsInHanded_of_change_sized (C := Try.checked) own started (by kernel_rfl) Try.func8
    (ChangeSpec.witness6 (enc := enc) (C := Try.checked) false ⟨#[], #[.int .u8 0, .int .u8 0, .slice none 0 0, .slice none 0 0, .agg #[.int .u64 0, .int .i64 0]], []⟩ 8 (by kernel_rfl) (by kernel_rfl) (by kernel_rfl) (by kernel_rfl)) ?_
  intro W base args ds gs before hval0 hW hcnd hsz0 _
  have hsz : (DataW.weightsEach Try.prog (Try.f8.params.toList ++ Rows.linkEpochsSpec.plain.varTypes Try.prog) (ds ++ gs)).all (· ≤ reachBytes) = true := hsz0
  have hval : ∀ (j : Nat) t v, Try.f8.params[j]? = some t → args[j]? = some v → Value.okWide Try.prog W .any base t v := hval0
  have hW' := hW
  obtain ⟨p, q, hA0, hV, rfl, hfz, hnd⟩ := hW
  have hA : DataW.TrodAll enc Try.prog W 0 (fun _ => true) true Try.f8.params.toList args.toList ds p := hA0
  rw [Try.params8] at hA hval hsz
  obtain ⟨v0, vs0, d0, ds0, p0, q0, hargs0, rfl, rfl, h0, r0⟩ := trodAll_cons hA
  obtain ⟨v1, vs1, d1, ds1, p1, q1, hargs1, rfl, rfl, h1, r1⟩ := trodAll_cons r0
  obtain ⟨v2, vs2, d2, ds2, p2, q2, hargs2, rfl, rfl, h2, r2⟩ := trodAll_cons r1
  obtain ⟨v3, vs3, d3, ds3, p3, q3, hargs3, rfl, rfl, h3, r3⟩ := trodAll_cons r2
  obtain ⟨v4, vs4, d4, ds4, p4, q4, hargs4, rfl, rfl, h4, r4⟩ := trodAll_cons r3
  obtain ⟨rfl, rfl, rfl⟩ := trodAll_nil r4
  obtain rfl : args = #[v0, v1, v2, v3, v4] := by cases args; simp_all
  obtain ⟨rfl, rfl⟩ := trodVars_none hV
  obtain ⟨a0, rfl, rfl, rfl, w0⟩ := open_int Try.underlying5 (hval 0 5 v0 rfl rfl) h0
  obtain ⟨a1, rfl, rfl, rfl, w1⟩ := open_int Try.underlying5 (hval 1 5 v1 rfl rfl) h1
  obtain ⟨a2, len2, cap2, rfl⟩ := okWide_slice Try.underlying32 (hval 2 32 v2 rfl rfl)
  have k2 := h2
  have lt2 : ∀ x ∈ p2, x.block < W.heap.size := by obtain ⟨m, hm⟩ := k2; exact DataW.trod_lt m _ _ _ hm
  have hs2 := size_texts h2 hsz (j := 2) rfl rfl
  obtain ⟨xs2, hx2⟩ := open_texts h2
  obtain ⟨a3, len3, cap3, rfl⟩ := okWide_slice Try.underlying32 (hval 3 32 v3 rfl rfl)
  have k3 := h3
  have lt3 : ∀ x ∈ p3, x.block < W.heap.size := by obtain ⟨m, hm⟩ := k3; exact DataW.trod_lt m _ _ _ hm
  have hs3 := size_texts h3 hsz (j := 3) rfl rfl
  obtain ⟨xs3, hx3⟩ := open_texts h3
  obtain ⟨c4a, c4b, y4a, y4b, m4, rfl, rfl, rfl, hy4a, hy4b⟩ := open_agg2 Try.underlying43 (by kernel_rfl) cells43 (hval 4 43 v4 rfl rfl) h4
  obtain ⟨n4', e4a, rfl, w4a⟩ := DataW.trod_int Try.underlying41 hy4a
  obtain ⟨q4, e4b, rfl, w4b⟩ := DataW.trod_int Try.underlying3 hy4b
  simp at e4a e4b
  subst e4a e4b
  clear hA0 hval0 hsz hsz0
  obtain ⟨n0, rfl, hn0⟩ := u8_of_wf w0
  obtain ⟨n1, rfl, hn1⟩ := u8_of_wf w1
  obtain ⟨n4, rfl, hn4⟩ := u64_of_wf w4a
  refine (walk W n0 hn0 n1 hn1 a2 len2 cap2 xs2 hx2 hs2 a3 len3 cap3 xs3 hx3 hs3 n4 hn4 q4 (in_of_wf w4b)).mono fun e W' ⟨he, bel⟩ => ?_
  subst he
  exact ⟨_, rfl, _, _, _, [], _, [], hW', trodAll_mk1 (shut_bool Try.underlying4 _), (trodAll_cons_mk (shut_int Try.underlying5 w0) (trodAll_cons_mk (shut_int Try.underlying5 w1) (trodAll_cons_mk (Below.trod laidOut (by kernel_rfl) (of_decide_eq_true (by kernel_rfl)) k2 bel lt2) (trodAll_cons_mk (Below.trod laidOut (by kernel_rfl) (of_decide_eq_true (by kernel_rfl)) k3 bel lt3) (trodAll_cons_mk (shut_vid w4a w4b) trodAll_mk0))))), rfl, bel.frame _, fun h => by cases h⟩

theorem over : Rows.linkEpochsRow.holds Try.pinned (OpenSpec.ofChange Rows.linkEpochsSpec) :=
  OpenClaim.holds_of_wide 8 Try.f8 rfl rfl rfl rfl rfl rfl rfl ⟨rfl, rfl, rfl, rfl, rfl⟩ rfl rfl rfl rfl rfl (by kernel_rfl) Try.func8 (by kernel_rfl)
    (of_decide_eq_true (by kernel_rfl)) (by unfold Func.isWrapper; first | (rw [if_pos (by decide +kernel)]; kernel_rfl) | (rw [if_neg (by decide +kernel)]; exact ⟨rfl, rfl⟩))
    (fun os started H enc _ => lifted os started H enc)

end Go.Proofs.Ythobbnmdpkginaa.linkEpochs
namespace Go.Proofs.Ythobbnmdpkginaa
theorem linkEpochs_holds : Rows.LinkEpochsSaid := linkEpochs.over
#print axioms linkEpochs_holds
end Go.Proofs.Ythobbnmdpkginaa
