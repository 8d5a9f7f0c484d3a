/-
  The statements' traces: the traces of a group that is as it should be.
-/
import Derived.Test.YthnbijnpbjfoaaaJTrC
namespace Go.Proofs.Ythnbijnpbjfoaaa
open Go.RowKit Go.Sort
set_option linter.unusedVariables false
set_option linter.unusedSimpArgs false

/-- What the statements' traces reckon with. -/
structure Num (n raw D sv k : Nat) : Prop where
  hD : IntKind.u16.wrap (IntKind.u16.wrap (2 ^ n) - 1) = (D : Int)
  hD0 : ¬ D = 0
  hS : IntKind.u16.wrap (((raw : Nat) : Int).tmod (D : Int) + 1) = (sv : Int)
  hU : IntKind.u64.wrap (IntKind.u64.wrap (k : Int) + 1) = ((k + 1 : Nat) : Int)
  sv16 : sv < 65536
theorem num_of (n raw k : Nat) (h1 : 1 ≤ n) (h6 : n ≤ 6) (hr : raw < 65536) (hk : k < 6) : Num n raw (2 ^ n - 1) (setF n raw) k := by
  have hp : (2 : Nat) ^ n = 2 ∨ (2 : Nat) ^ n = 4 ∨ (2 : Nat) ^ n = 8 ∨ (2 : Nat) ^ n = 16 ∨ (2 : Nat) ^ n = 32 ∨ (2 : Nat) ^ n = 64 := by
    match n, h1, h6 with
    | 1, _, _ => simp
    | 2, _, _ => simp
    | 3, _, _ => simp
    | 4, _, _ => simp
    | 5, _, _ => simp
    | 6, _, _ => simp
  have hi : ((2 : Int) ^ n) = ((2 ^ n : Nat) : Int) := by simp
  have hm := Nat.mod_lt raw (show 0 < 2 ^ n - 1 by omega)
  have hd : IntKind.u16.wrap (IntKind.u16.wrap (2 ^ n) - 1) = ((2 ^ n - 1 : Nat) : Int) := by
    rcases hp with e | e | e | e | e | e <;> rw [hi, e] <;> rfl
  refine ⟨hd, by omega, ?_, ?_, by unfold setF; omega⟩
  · rw [Int.tmod_eq_emod_of_nonneg (by omega)]
    unfold setF
    rw [← Int.natCast_emod, IntWalk.u16_in _ (by omega)]
    omega
  · simp only [IntKind.wrap, IntKind.bits, IntKind.signed]
    go_num
def TrPost (w : World) (n N : Nat) (runs : List Rn) (e : Ending) (w' : World) : Prop := ∃ g R, e = .returned (.slice (some ⟨g, 0, none⟩) n n) ∧ TL w.heap.size w' g n n R (traceX n runs (min N 6)) ∧ RowKit.Below w.heap.size w w'
set_option maxRecDepth 10000 in
set_option maxHeartbeats 16000000 in
theorem traces_any (w : World) (ao : Option Addr) (N cap : Nat) (runs : List Rn) (h : RunsR w ao N runs) (n : Nat) (hn0 : 1 ≤ n) (hn6 : n ≤ 6) :
    Calls Try.prog 17 #[.int .i64 (n : Nat), .slice ao N cap] w fun e w' => TrPost w n N runs e w' := by
  have hmk := make36 n (by omega)
  have hNr : runs.length = N := h.1
  have hN42 : N ≤ 4398046511104 := h.2.1
  obtain ⟨g, hg⟩ : ∃ g, w.heap.size = g := ⟨_, rfl⟩
  obtain ⟨w1, hw1⟩ : ∃ w1, w.alloc (.cells (madeCells #[.slice none 0 0] n) 41) = w1 := ⟨_, rfl⟩
  have HT0 : Hid (TL w.heap.size w1 g n (n + 1) (fun _ => (none, 0, 0)) (fun _ => []) ∧ RowKit.Below w.heap.size w w1) := by
    refine ⟨?_, by rw [← hw1]; exact bl1 _ _⟩
    have := TL.made w n
    rw [hw1] at this
    rw [← hg]
    exact this
  have HR : Hid (RunsR w ao N runs) := h
  clear h
  go_enter Try.func17, Try.ntmps17
  go_wp2_with fail
  (try simp only [hw1, hg])
  clear hmk hw1
  have HG : Hid (w.heap.size = g) := hg
  clear hg
  go_loopw [6, 7, 8, 9, 10, 11, 12, 13, 14, 15, 16, 17, 18, 19, 20] (fun rv _ _ _ _ _ _ _ _ _ _ _ _ _ _ wr => ∃ (k : Nat) (R : Nat → Sr) (ALL : List Ev), k ≤ 6 ∧ k ≤ N ∧ rv = .int .i64 (k : Nat) ∧ TL w.heap.size wr g n (n + 1) R (upd (traceX n runs k) n ALL) ∧ RowKit.Below w.heap.size w wr) (fun rv _ _ _ _ _ _ _ _ _ _ _ _ _ _ _ => N - (intOf rv).toNat)
  case atStart => exact ⟨0, _, [], by omega, by omega, rfl, HT0.out.1.cong (fun i _ => by unfold upd; split <;> rfl), HT0.out.2⟩
  case round =>
    clear HT0
    obtain ⟨k, R0, ALL0, hk6, hkN, rfl, htl, hbl⟩ := hrel
    have HT : Hid (TL w.heap.size wr g n (n + 1) R0 (upd (traceX n runs k) n ALL0) ∧ RowKit.Below w.heap.size w wr) := ⟨htl, hbl⟩
    clear htl hbl
    by_cases hlt : k < N
    · have hltI : (k : Int) < (N : Int) := by omega
      have hk0 : ¬ ((k : Int) < 0) := by omega
      by_cases hk : k < 6
      · have hkI : (k : Int) < 6 := by omega
        obtain ⟨x, hx⟩ : ∃ x, runs[k]? = some x := ⟨runs[k]'(by omega), List.getElem?_eq_getElem _⟩
        have hrun := HR.out.at hx
        obtain ⟨b, off, ⟨sa, sn, sc⟩, ⟨ha, hm, hc⟩, ⟨fa, fn, fc⟩, hao, h4, cS, cH, cF, rS, rH, rF, hs16⟩ := hrun
        subst hao
        simp only at rS rH rF
        have HX : Hid (runs[k]? = some x) := hx
        have hud := ((Up.refl wr).drew).bl
        have hq : HS0 b (off + k * 4) x.set wr.drew := ⟨bl_cell (bl_step HT.out.2 hud) h4.1, trivial⟩
        have hnum := num_of n x.set k hn0 hn6 hs16 hk
        obtain ⟨sv, hsv⟩ : ∃ sv, setF n x.set = sv := ⟨_, rfl⟩
        obtain ⟨D, hD⟩ : ∃ D, 2 ^ n - 1 = D := ⟨_, rfl⟩
        rw [hsv, hD] at hnum
        have HSV : Hid (setF n x.set = sv) := hsv
        obtain ⟨hnD, hnD0, hnS, hnU, sv16⟩ := hnum
        have HRUN : Hid (R4 w b (off + k * 4) x (sa, sn, sc) (ha, hm, hc) (fa, fn, fc) ∧ SendsR w sa sn x.sends ∧ Rw (fun _ => True) w ha hm x.had ∧ Rw (fun _ => True) w fa fn x.safe) := ⟨h4, rS, rH, rF⟩
        have hsn : x.sends.length = sn := rS.1
        have hsn42 : sn ≤ 4398046511104 := rS.2.1
        have hhm : x.had.length = hm := rH.1
        have hhm47 : hm ≤ 140737488355328 := rH.2.1
        have hfn : x.safe.length = fn := rF.1
        have hfn47 : fn ≤ 140737488355328 := rF.2.1
        clear hx h4 cS cH cF rS rH rF hs16 hsv hD hud
        go_wp2_with fail
        go_upto_region 5 with fail
        go_cut [7] from 33 to 47 (fun vv wx => ∃ V, vv = .pointer (some ⟨V, 0, none⟩) ∧ Hid (VBx wx V (k + 1, 0, sv)) ∧ RowKit.Below wr.heap.size wr wx)
        case first =>
          refine wp_region_noPanic ?_
          refine wp_region_held_drew (S := HS0 b (off + k * 4) x.set) (by kernel_rfl) (hq) (fun hHeld => ?_)
          unfold HS0 at hHeld
          refine tq 0 ?_
          refine tq 1 ?_
          refine tq 2 ?_
          refine tq 3 ?_
          refine tq 4 ?_
          refine tq 5 ?_
          refine tq 6 ?_
          refine tq 7 ?_
          refine tq 8 ?_
          refine tq 9 ?_
          refine tq 10 ?_
          refine tq 11 ?_
          refine tq 12 ?_
          refine tq 13 ?_
          refine tq 14 ?_
          refine comes_up 15 rfl (by kernel_rfl) (fun K hK => ?_)
          go_simp
          refine hK.out _ _ (⟨bl_cell (bl1 _ _) hq.1, trivial⟩) (fun hHeld => ?_)
          clear hK K
          (try simp only [Act.put, List.setIfInBounds_toArray, List.set_cons_zero, List.set_cons_succ])
          refine comes_up 16 rfl (by kernel_rfl) (fun K hK => ?_)
          go_simp
          refine hK.out _ _ (⟨bl_cell (bl1 _ _) hq.1, trivial⟩) (fun hHeld => ?_)
          clear hK K
          (try simp only [Act.put, List.setIfInBounds_toArray, List.set_cons_zero, List.set_cons_succ])
          refine wpAnyH_done (by kernel_rfl) ?_ _
          refine NoPanic.normal ?_
          have HM : Hid (VBx (wr.drew.alloc (.cells #[.int .u64 ((k + 1 : Nat) : Int), .int .i64 0, .int .u16 (sv : Nat)] 47)) wr.heap.size (k + 1, 0, sv) ∧ RowKit.Below wr.heap.size wr (wr.drew.alloc (.cells #[.int .u64 ((k + 1 : Nat) : Int), .int .i64 0, .int .u16 (sv : Nat)] 47))) := ⟨heap_alloc_new wr.drew _, bl_step ((Up.refl wr).drew).bl (bl1 _ _)⟩
          go_wp2_with fail
          go_meet
          exact ⟨_, rfl, HM.out.1, HM.out.2⟩
        case rest =>
          obtain ⟨V, rfl, HV, hbc⟩ := hcut
          obtain ⟨vn, hvn⟩ : ∃ vn, k + 1 = vn := ⟨_, rfl⟩
          have HVN : Hid (k + 1 = vn) := hvn
          have HV2 : Hid (VBx wc V (vn, 0, sv)) := by rw [← hvn]; exact HV.out
          have hXL : ∀ j, (traceX n runs k j).length ≤ 200 := fun j => by have := traceX_len n runs k j; omega
          obtain ⟨X0, hX0⟩ : ∃ X0, traceX n runs k = X0 := ⟨_, rfl⟩
          rw [hX0] at hXL
          have HX0 : Hid (traceX n runs k = X0 ∧ ∀ j, (X0 j).length ≤ 200) := ⟨hX0, hXL⟩
          have HTS : Hid (∃ R, R n = (none, 0, 0) ∧ TS w wc g n V (vn, 0, sv) R (upd (Xg X0 (segV (vn, 0, sv)) 0) n [])) := by
            have h0 : TS w wc g n V (vn, 0, sv) R0 (upd (traceX n runs k) n ALL0) := ⟨HT.out.1.up hbc, bl_step HT.out.2 hbc, HV2.out⟩
            refine ⟨upd R0 n (none, 0, 0), upd_same _ _ _, ?_⟩
            have h1 := h0.nil
            rw [upd_upd, hX0] at h1
            rw [Xg_zero]
            exact h1
          clear hq hnD hnD0 hnS hnU HV hbc HT hvn hX0 hXL HV2
          generalize wc = w2 at *
          go_wp2_with fail
          -- views
          go_loopw [9] (fun iv wr2 => ∃ (i : Nat) (R : Nat → Sr), i ≤ n ∧ iv = .int .i64 (i : Nat) ∧ R n = (none, 0, 0) ∧ TS w wr2 g n V (vn, 0, sv) R (upd (Xg X0 (segV (vn, 0, sv)) i) n []) ∧ RowKit.Below w.heap.size w2 wr2) (fun iv _ => n - (intOf iv).toNat)
          case atStart =>
            obtain ⟨R, h1, h2⟩ := HTS.out
            exact ⟨0, R, by omega, rfl, h1, h2, Below.refl _ _⟩
          case round =>
            clear HTS
            obtain ⟨i, R, hi, rfl, hRn, hts, hb2⟩ := hrel
            have HS : Hid (R n = (none, 0, 0) ∧ TS w wr g n V (vn, 0, sv) R (upd (Xg X0 (segV (vn, 0, sv)) i) n []) ∧ RowKit.Below w.heap.size w2 wr) := ⟨hRn, hts, hb2⟩
            obtain ⟨v0, v1, v2⟩ := hts.vb.at
            simp only at v0 v1 v2
            clear hRn hts hb2
            by_cases hil : i < n
            · have hilI : (i : Int) < (n : Int) := by omega
              have hi0 : ¬ ((i : Int) < 0) := by omega
              have hbt := bit_test sv i sv16
              obtain ⟨bt, hbt2⟩ : ∃ bt, sv.testBit i = bt := ⟨_, rfl⟩
              rw [hbt2] at hbt
              have HBT : Hid (sv.testBit i = bt) := hbt2
              clear hbt2
              cases bt with
              | false =>
                have HN : Hid (TS w wr g n V (vn, 0, sv) R (upd (Xg X0 (segV (vn, 0, sv)) (i + 1)) n [])) := by
                  rw [Xg_no]
                  · exact HS.out.2.1
                  · unfold segV
                    rw [if_neg (by show ¬ sv.testBit i = true; rw [HBT.out]; simp)]
                go_wp2
                go_roundw
                case rel => exact ⟨i + 1, R, by omega, by go_num, HS.out.1, HN.out, HS.out.2.2⟩
                case measure => simp [intOf]; omega
              | true =>
                obtain ⟨D2, hD2⟩ : ∃ D2, wr.drew = D2 := ⟨_, rfl⟩
                have uD : RowKit.Below wr.heap.size wr D2 := by rw [← hD2]; exact ((Up.refl wr).drew).bl
                obtain ⟨A, hA⟩ : ∃ A, D2.alloc (.cells #[.int .u8 1, .int .u64 (vn : Nat), .int .i64 0, .int .u16 (sv : Nat), .int .i64 0, .slice none 0 0] 49) = A := ⟨_, rfl⟩
                obtain ⟨q, hqq⟩ : ∃ q, D2.heap.size = q := ⟨_, rfl⟩
                have uA : RowKit.Below wr.heap.size wr A := by rw [← hA]; exact bl_step uD (bl1 _ _)
                have htA := HS.out.2.1.up uA
                have hXi : upd (Xg X0 (segV (vn, 0, sv)) i) n [] i = X0 i := by rw [upd_ne _ _ (by omega), Xg_at]
                have hac := cell_one D2 (evV (vn, 0, sv), ((none, 0, 0) : Sr))
                rw [show D2.alloc (.cells #[.int .u8 ((evV (vn, 0, sv)).k : Nat), .int .u64 ((evV (vn, 0, sv)).n : Nat), .int .i64 (evV (vn, 0, sv)).p, .int .u16 ((evV (vn, 0, sv)).s : Nat), .int .i64 (evV (vn, 0, sv)).f, .slice none 0 0] 49) = A from hA, hqq] at hac
                obtain ⟨r', w5, hrun, hput⟩ := htA.put hil [(evV (vn, 0, sv), ((none, 0, 0) : Sr))] (fun y hy => by rw [List.mem_singleton] at hy; subst hy; exact exOk_nil _ rfl) (by rw [hXi]; have := HX0.out.2 i; simp only [List.length_singleton]; omega) 1 hac
                obtain ⟨ri, hri⟩ : ∃ ri, R i = ri := ⟨_, rfl⟩
                have hgc : wr.cell? ⟨g, i, none⟩ = some (.slice ri.1 ri.2.1 ri.2.2) := by rw [← hri]; exact HS.out.2.1.tl.cell i hil
                have sa : HS1 g i V ri (vn, 0, sv) D2 := HS1.up ⟨hgc, v0, v1, v2⟩ uD
                have sb : HS1 g i V ri (vn, 0, sv) A := HS1.up ⟨hgc, v0, v1, v2⟩ uA
                have hv5 := hput.vb htA hil ⟨_, htA.vb⟩ (by decide)
                have g5 : w5.cell? ⟨g, i, none⟩ = some (.slice ri.1 ri.2.1 ri.2.2) := by have := hput.cell; rw [hri] at this; exact this
                have sc : HS1 g i V ri (vn, 0, sv) w5 := ⟨g5, hv5 _ _ sb.2.1, hv5 _ _ sb.2.2.1, hv5 _ _ sb.2.2.2⟩
                have f5 := hput.fz
                have HN : Hid (upd R i r' n = (none, 0, 0) ∧ TS w (w5.setCell ⟨g, i, none⟩ (.slice r'.1 r'.2.1 r'.2.2)) g n V (vn, 0, sv) (upd R i r') (upd (Xg X0 (segV (vn, 0, sv)) (i + 1)) n []) ∧ RowKit.Below w.heap.size w2 (w5.setCell ⟨g, i, none⟩ (.slice r'.1 r'.2.1 r'.2.2))) := by
                  refine ⟨by rw [hput.last]; exact HS.out.1, ?_, hput.bl htA hil (HS.out.2.2.trans (uA.mono HS.out.2.1.bl.size)) _⟩
                  have h1 := hput.ts
                  rw [hXi, upd_comm _ _ _ (by omega)] at h1
                  have e : [(evV (vn, 0, sv), ((none, 0, 0) : Sr))].map Prod.fst = segV (vn, 0, sv) i := by
                    unfold segV
                    rw [if_pos (by show sv.testBit i = true; exact HBT.out)]
                    rfl
                  rw [e, Xg_step] at h1
                  exact h1
                have HRUN2 : Hid ((Builtin.append_ #[41, 41] 41 #[.slice ri.1 ri.2.1 ri.2.2, .slice (some ⟨q, 0, none⟩) 1 1]).run Try.prog A = .ok (.slice r'.1 r'.2.1 r'.2.2) w5) := by rw [← hri]; exact hrun
                have HSC : Hid (HS1 g i V ri (vn, 0, sv) w5) := sc
                clear hrun hput htA hac hXi hgc uD uA hv5 hri sc
                go_wp2_with fail
                refine wp_region_noPanic ?_
                refine beginE (HS1 g i V ri (vn, 0, sv)) 11 (by kernel_rfl) (by rw [hD2]; exact sa) (fun hHeld => ?_)
                simp only [hD2] at hHeld ⊢
                unfold HS1 at hHeld
                refine tqE 0 ?_
                refine tqE 1 ?_
                refine tqE 2 ?_
                refine tqE 3 ?_
                refine tqE 4 ?_
                refine tqE 5 ?_
                refine tqE 6 ?_
                refine tqE 7 ?_
                refine upE 8 rfl (by kernel_rfl) (fun K hK => ?_)
                go_simp
                (try simp only [hA, hqq])
                refine hK.out _ _ (sb) (fun hHeld => ?_)
                clear hK K
                (try simp only [Act.put, List.setIfInBounds_toArray, List.set_cons_zero, List.set_cons_succ])
                refine upE 9 rfl (by kernel_rfl) (fun K hK => ?_)
                refine step_append_run rfl (.tmp 64) (.tmp 67) 41 rfl (.slice ri.1 ri.2.1 ri.2.2) (.slice (some ⟨q, 0, none⟩) 1 1) (.slice r'.1 r'.2.1 r'.2.2) w5 (by simp [Act.eval]) (by simp [Act.eval]) HRUN2.out ?_
                refine hK.out _ _ (HSC.out) (fun hHeld => ?_)
                clear hK K
                (try simp only [Act.put, List.setIfInBounds_toArray, List.set_cons_zero, List.set_cons_succ])
                refine pureE 10 (v := ?_) rfl (by kernel_rfl) (by kernel_rfl) (by kernel_rfl) (by kernel_rfl) (fun _ _ _ h => h) (Or.inl ⟨by rfl, by intro wx hSw; (try dsimp only at hSw); go_simp; try with_reducible rfl⟩) (by assumption) ?_
                (try simp only [Act.put, List.setIfInBounds_toArray, List.set_cons_zero, List.set_cons_succ])
                refine lastE 11 rfl (by kernel_rfl) (by kernel_rfl) (fun K hK => ?_)
                go_simp
                refine hK.out _ _ ?_
                clear hK K
                (try simp only [Act.put, List.setIfInBounds_toArray, List.set_cons_zero, List.set_cons_succ])
                refine doneE (by kernel_rfl) ?_ _
                refine NoPanic.normal ?_
                go_wp2
                go_roundw
                case rel => exact ⟨i + 1, _, by omega, by go_num, HN.out⟩
                case measure => simp [intOf]; omega
            · obtain rfl : n = i := by omega
              have hilI : ¬ ((n : Int) < (n : Int)) := by omega
              obtain ⟨X1, hX1⟩ : ∃ X1, Xg X0 (segV (vn, 0, sv)) n = X1 := ⟨_, rfl⟩
              have HX1 : Hid (Xg X0 (segV (vn, 0, sv)) n = X1 ∧ ∀ j, (X1 j).length ≤ 201) := by
                refine ⟨hX1, fun j => ?_⟩
                rw [← hX1]
                unfold Xg
                have h1 := HX0.out.2 j
                have h2 := segV_len (vn, 0, sv) j
                rw [List.length_append]
                split
                · omega
                · simp; omega
              have HT3 : Hid (TS w wr g n V (vn, 0, sv) R (upd X1 n []) ∧ R n = (none, 0, 0) ∧ RowKit.Below w.heap.size w2 wr) := ⟨by rw [← hX1]; exact HS.out.2.1, HS.out.1, HS.out.2.2⟩
              clear hX1 HS v0 v1 v2
              generalize wr = w3 at *
              go_upto_block 4 with fail
              go_cut [8, 10, 11, 12] from 70 to 123 (fun av _ _ _ wx => ∃ R, av = .slice (R n).1 (R n).2.1 (R n).2.2 ∧ Hid (TS w wx g n V (vn, 0, sv) R (upd (fun j => X1 j ++ ownS n (vn, 0, sv) (x.sends.take 10) j) n (allS n (vn, 0, sv) (x.sends.take 10)))))
              case first => exact sends_loop (w2 := w2) hn0 hn6 (by omega) (by omega) hN42 sv16 hsn hsn42 ⟨HRUN.out.1, HRUN.out.2.1⟩ HX1.out.2 ⟨HT3.out.1, HT3.out.2.1⟩ (by assumption) (by assumption)
              case rest =>
                obtain ⟨R3, rfl, HS3⟩ := hcut
                obtain ⟨ALL, hALL⟩ : ∃ ALL, allS n (vn, 0, sv) (x.sends.take 10) = ALL := ⟨_, rfl⟩
                obtain ⟨X2, hX2⟩ : ∃ X2, (fun j => X1 j ++ ownS n (vn, 0, sv) (x.sends.take 10) j) = X2 := ⟨_, rfl⟩
                have hts := HS3.out
                rw [hALL, hX2] at hts
                have HX2 : Hid ((fun j => X1 j ++ ownS n (vn, 0, sv) (x.sends.take 10) j) = X2 ∧ allS n (vn, 0, sv) (x.sends.take 10) = ALL ∧ ∀ j, (X2 j).length ≤ 300) := by
                  refine ⟨hX2, hALL, fun j => ?_⟩
                  rw [← hX2]
                  have h1 := HX1.out.2 j
                  have h2 := ownS_len n (vn, 0, sv) (x.sends.take 10) j
                  rw [List.length_take] at h2
                  rw [List.length_append]; omega
                have hal : ALL.length ≤ 10 := by
                  have h2 := allS_len n (vn, 0, sv) (x.sends.take 10)
                  rw [List.length_take, hALL] at h2
                  omega
                have hrow := hts.tl.row n (by omega)
                rw [upd_same] at hrow
                obtain ⟨⟨ra, rn, rc⟩, hR3⟩ : ∃ r, R3 n = r := ⟨_, rfl⟩
                rw [hR3] at hrow
                have hrn : rn = ALL.length := hrow.1
                have hrc : rn ≤ rc := hrow.cp.1
                have hrf : ∀ a, ra = some a → a.spot = none := fun a e => by
                  rcases hrow.shape with ⟨e', _⟩ | ⟨b', cap', e', _⟩
                  · simp at e'; rw [e'.1] at e; cases e
                  · simp at e'; rw [e'.1] at e; cases e; rfl
                have rn10 : rn ≤ 10 := by omega
                have HSL : Hid (∀ m, m ≤ rn → ∀ W, (Instr.slice 41 (.slice ra rn rc) none (some (.int .i64 (m : Nat))) none).run Try.prog W = .ok (.slice ra m rc) W) := fun m hm W => slice_to41 W ra rn rc m (by omega) hrf
                have HRN : Hid (rn = ALL.length) := hrn
                simp only [hR3]
                have HTS : Hid (TS w wc g n V (vn, 0, sv) R3 (upd X2 n ALL) ∧ R3 n = (ra, rn, rc)) := ⟨hts, hR3⟩
                have c2 := bl_cell hts.bl HRUN.out.1.2.2.1
                simp only at c2
                clear HS3 hALL hX2 hts hal hrow hR3 hrn hrc hrf HT3
                generalize wc = w8 at *
                go_upto_region 22 with fail
                go_cut [134] from 128 to 133 (fun bv wx => bv = .bool (decide (0 < hm)) ∧ w8 = wx)
                case first =>
                  by_cases h0 : 0 < hm
                  · have h0I : (hm : Int) > 0 := by omega
                    have H0 : Hid (0 < hm) := h0
                    clear h0
                    go_wp2_with fail
                    go_meet
                    exact ⟨by simp [H0.out], rfl⟩
                  · have h0I : ¬ ((hm : Int) > 0) := by omega
                    have H0 : Hid (¬ 0 < hm) := h0
                    clear h0
                    go_wp2_with fail
                    go_meet
                    exact ⟨by simp [H0.out], rfl⟩
                case rest =>
                  obtain ⟨rfl, rfl⟩ := hcut
                  obtain ⟨bb, hbb⟩ : ∃ bb, decide (0 < hm) = bb := ⟨_, rfl⟩
                  rw [hbb]
                  have HBB : Hid (decide (0 < hm) = bb) := hbb
                  obtain ⟨sm, hsm⟩ : ∃ sm, sameF rn x.had = sm := ⟨_, rfl⟩
                  have hsmle : sm ≤ rn := by rw [← hsm]; exact sameF_le _ _
                  have HSM : Hid (sameF rn x.had = sm) := hsm
                  clear hbb hsm
                  go_upto_if 134 with fail
                  go_cut [14] from 135 to 146 (fun mv wx => mv = .int .i64 (sm : Nat) ∧ w8 = wx)
                  case first =>
                    cases bb with
                    | true =>
                      have hm0 : 0 < hm := of_decide_eq_true HBB.out
                      have h0I : (0 : Int) < (hm : Int) := by omega
                      obtain ⟨hb, ho, hae, hcb, hb256⟩ := HRUN.out.2.2.1.byte hm0
                      have hcb := bl_cell HTS.out.1.bl hcb
                      simp only [Nat.add_zero] at hcb
                      obtain ⟨bv, hbv⟩ : ∃ bv, byAt x.had 0 = bv := ⟨_, rfl⟩
                      rw [hbv] at hcb hb256
                      have hmd : (bv : Int) % ((rn : Int) + 1) = (sm : Int) := by
                        have := HSM.out
                        unfold sameF at this
                        rw [if_pos (by omega), hbv] at this
                        rw [← this]; simp
                      have hr1 : ¬ ((rn : Int) + 1 = 0) := by omega
                      subst hae
                      clear hm0 hbv
                      go_wp2_with fail
                      go_meet
                      exact ⟨rfl, rfl⟩
                    | false =>
                      have HE : Hid (rn = sm) := by
                        have := HSM.out
                        unfold sameF at this
                        rw [if_neg (by have := of_decide_eq_false HBB.out; omega)] at this
                        exact this
                      go_wp2_with fail
                      go_meet
                      exact ⟨by rw [HE.out], rfl⟩
                  case rest =>
                    obtain ⟨rfl, rfl⟩ := hcut
                    obtain ⟨lb, hlb⟩ : ∃ lb, lastF runs k = lb := ⟨_, rfl⟩
                    have HLB : Hid (lastF runs k = lb) := hlb
                    clear hlb c2
                    go_upto_block 6 with fail
                    go_cut [13, 15, 16, 17] from 147 to 206 (fun lv _ _ _ wx => ∃ R, lv = .int .i64 ((leastF rn lb x.had sv n : Nat) : Int) ∧ R n = (ra, rn, rc) ∧ Hid (TS w wx g n V (vn, 0, sv) R (upd (Xg X2 (segR (vn, 0, sv) ALL lb x.had) n) n ALL)))
                    case first => exact had_loop hn0 hn6 (by omega) (by omega) (by omega) hN42 hNr sv16 hhm hhm47 hsmle rn10 ⟨HRUN.out.1, HRUN.out.2.2.1⟩ HX2.out.2.2 HTS HRN HLB HSM HSL (by assumption) (by assumption)
                    case rest =>
                    obtain ⟨R, rfl, hRn6, HT6⟩ := hcut
                    have HS : Hid (R n = (ra, rn, rc) ∧ TS w wc g n V (vn, 0, sv) R (upd (Xg X2 (segR (vn, 0, sv) ALL lb x.had) n) n ALL)) := ⟨hRn6, HT6.out⟩
                    obtain ⟨L, hL⟩ : ∃ L, leastF rn lb x.had sv n = L := ⟨_, rfl⟩
                    have HL : Hid (leastF rn lb x.had sv n = L) := hL
                    have hLle : L ≤ rn := by rw [← hL]; exact leastF_le _ _ _ _ _
                    simp only [hL]
                    clear hRn6 HT6 hL HTS
                    generalize wc = wr at *
                    obtain ⟨X3, hX3⟩ : ∃ X3, Xg X2 (segR (vn, 0, sv) ALL lb x.had) n = X3 := ⟨_, rfl⟩
                    have HX3 : Hid (Xg X2 (segR (vn, 0, sv) ALL lb x.had) n = X3 ∧ ∀ j, (X3 j).length ≤ 320) := by
                      refine ⟨hX3, fun j => ?_⟩
                      rw [← hX3]
                      unfold Xg
                      have h1 := HX2.out.2.2 j
                      have h2 := segR_len (vn, 0, sv) ALL lb x.had j (by rw [← HRN.out]; exact rn10)
                      rw [List.length_append]
                      split
                      · omega
                      · simp; omega
                    have HT8 : Hid (TS w wr g n V (vn, 0, sv) R (upd X3 n ALL) ∧ R n = (ra, rn, rc)) := ⟨by rw [← hX3]; exact HS.out.2, HS.out.1⟩
                    -- what the whole time makes
                    have HFIN : Hid (∀ i, i ≤ n → (i = n ∨ fn ≤ i) → ∀ W R', TS w W g n V (vn, 0, sv) R' (upd (Xg X3 (segF (vn, 0, sv) ALL L x.safe) i) n ALL) → TL w.heap.size W g n (n + 1) R' (upd (traceX n runs (k + 1)) n ALL)) := fun i hin hor W R' ht => ht.tl.cong (seg_fin HX.out HLB.out HVN.out HSV.out HX0.out.1 HX1.out.1 HX2.out.1 HX2.out.2.1 HX3.out.1 (by rw [← HRN.out]; exact HL.out) (by rw [hfn]; exact hor))
                    clear hX3 HS
                    go_wp2_with fail
                    -- how many each is told to be safe
                    go_loopw [18, 19, 20] (fun iv _ _ wr => ∃ (i : Nat) (R : Nat → Sr), i ≤ n ∧ iv = .int .i64 (i : Nat) ∧ R n = (ra, rn, rc) ∧ TS w wr g n V (vn, 0, sv) R (upd (Xg X3 (segF (vn, 0, sv) ALL L x.safe) i) n ALL)) (fun iv _ _ _ => n - (intOf iv).toNat)
                    case atStart => exact ⟨0, R, by omega, rfl, HT8.out.2, by rw [Xg_zero]; exact HT8.out.1⟩
                    case round =>
                      clear HT8
                      obtain ⟨i, R, hi, rfl, hRn, hts⟩ := hrel
                      have HS : Hid (R n = (ra, rn, rc) ∧ TS w wr g n V (vn, 0, sv) R (upd (Xg X3 (segF (vn, 0, sv) ALL L x.safe) i) n ALL)) := ⟨hRn, hts⟩
                      have c3 := bl_cell hts.bl HRUN.out.1.2.2.2
                      simp only at c3
                      obtain ⟨v0, v1, v2⟩ := hts.vb.at
                      simp only at v0 v1 v2
                      clear hRn hts
                      have HEND : Hid ((i = n ∨ fn ≤ i) → ∃ (k' : Nat) (R : Nat → Sr) (ALL : List Ev), k' ≤ 6 ∧ k' ≤ N ∧ Value.int .i64 ((k : Int) + 1) = .int .i64 (k' : Nat) ∧ TL w.heap.size wr g n (n + 1) R (upd (traceX n runs k') n ALL) ∧ RowKit.Below w.heap.size w wr) := fun hor => ⟨k + 1, R, ALL, by omega, by omega, by go_num, HFIN.out i hi hor wr R HS.out.2, HS.out.2.bl⟩
                      by_cases hil : i < n
                      · have hilI : (i : Int) < (n : Int) := by omega
                        have hi0 : ¬ ((i : Int) < 0) := by omega
                        by_cases hif : i < fn
                        · have hifI : (i : Int) < (fn : Int) := by omega
                          have hbt := bit_test sv i sv16
                          obtain ⟨bt, hbt2⟩ : ∃ bt, sv.testBit i = bt := ⟨_, rfl⟩
                          rw [hbt2] at hbt
                          have HBT : Hid (sv.testBit i = bt) := hbt2
                          clear hbt2
                          cases bt with
                          | false =>
                            have HN : Hid (TS w wr g n V (vn, 0, sv) R (upd (Xg X3 (segF (vn, 0, sv) ALL L x.safe) (i + 1)) n ALL)) := by
                              rw [Xg_no]
                              · exact HS.out.2
                              · unfold segF
                                rw [if_neg (by show ¬ (sv.testBit i = true ∧ _); rw [HBT.out]; simp)]
                            go_wp2
                            go_roundw
                            case rel => first | exact ⟨i + 1, R, by omega, by go_num, HS.out.1, HN.out⟩ | ((repeat apply Exists.intro); exact ⟨⟨i + 1, R, by omega, by go_num, HS.out.1, HN.out⟩, rfl⟩)
                            case measure => simp [intOf]; omega
                          | true =>
                            obtain ⟨fb, fo, hae, _, _⟩ := HRUN.out.2.2.2.byte hif
                            obtain ⟨bv, hbv⟩ : ∃ bv, byAt x.safe i = bv := ⟨_, rfl⟩
                            obtain ⟨sf, hsf⟩ : ∃ sf, safeF L x.safe i = sf := ⟨_, rfl⟩
                            have hsfl : sf ≤ L := by rw [← hsf]; exact safeF_le _ _ _
                            have hmd : (bv : Int) % ((L : Int) + 1) = (sf : Int) := by
                              rw [← hsf, ← hbv]; unfold safeF; simp
                            have hb256 : bv < 256 := by rw [← hbv]; exact UInt8.toNat_lt _
                            have HSF : Hid (safeF L x.safe i = sf ∧ byAt x.safe i = bv) := ⟨hsf, hbv⟩
                            have hr1 : ¬ ((L : Int) + 1 = 0) := by omega
                            have HNEXT : Hid (∀ W R', TS w W g n V (vn, 0, sv) R' (upd (upd (Xg X3 (segF (vn, 0, sv) ALL L x.safe) i) i (X3 i ++ (ALL.take sf).map evF)) n ALL) → TS w W g n V (vn, 0, sv) R' (upd (Xg X3 (segF (vn, 0, sv) ALL L x.safe) (i + 1)) n ALL)) := fun W R' ht => by
                              have e : (ALL.take sf).map evF = segF (vn, 0, sv) ALL L x.safe i := by
                                unfold segF
                                rw [if_pos ⟨HBT.out, by rw [hfn]; exact hif⟩, HSF.out.1]
                              rw [e, Xg_step] at ht
                              exact ht
                            have HT10 : Hid (TS w wr g n V (vn, 0, sv) R (upd (upd (Xg X3 (segF (vn, 0, sv) ALL L x.safe) i) i (X3 i ++ (ALL.take 0).map evF)) n ALL)) := by
                              have e : upd (Xg X3 (segF (vn, 0, sv) ALL L x.safe) i) i (X3 i ++ (ALL.take 0).map evF) = Xg X3 (segF (vn, 0, sv) ALL L x.safe) i := by
                                funext j
                                by_cases ej : j = i
                                · subst ej; rw [upd_same, Xg_at]; simp
                                · rw [upd_ne _ _ ej]
                              rw [e]
                              exact HS.out.2
                            have HRn : Hid (R n = (ra, rn, rc)) := HS.out.1
                            subst hae
                            clear hsf hbv HS HEND
                            generalize wr = w9 at *
                            go_wp2_with fail
                            clear v0 v1 v2 c3
                            go_loopw [19, 20] (fun qv _ wr => ∃ (q : Nat) (R : Nat → Sr), q ≤ sf ∧ qv = .int .i64 (q : Nat) ∧ R n = (ra, rn, rc) ∧ TS w wr g n V (vn, 0, sv) R (upd (upd (Xg X3 (segF (vn, 0, sv) ALL L x.safe) i) i (X3 i ++ (ALL.take q).map evF)) n ALL)) (fun qv _ _ => sf - (intOf qv).toNat)
                            case atStart => exact ⟨0, R, by omega, rfl, HRn.out, HT10.out⟩
                            case round =>
                              clear HT10 HRn
                              obtain ⟨q, R, hq, rfl, hRn, hts⟩ := hrel
                              have HS : Hid (R n = (ra, rn, rc) ∧ TS w wr g n V (vn, 0, sv) R (upd (upd (Xg X3 (segF (vn, 0, sv) ALL L x.safe) i) i (X3 i ++ (ALL.take q).map evF)) n ALL)) := ⟨hRn, hts⟩
                              have c3 := bl_cell hts.bl HRUN.out.1.2.2.2
                              simp only at c3
                              obtain ⟨fb2, fo2, hae, hcb, _⟩ := HRUN.out.2.2.2.byte hif
                              obtain ⟨rfl, rfl⟩ : fb = fb2 ∧ fo = fo2 := by simpa using hae
                              have hcb := bl_cell hts.bl hcb
                              rw [HSF.out.2] at hcb
                              clear hRn hts hae
                              by_cases hqs : q < sf
                              · skip
                                have hqsI : (q : Int) < (sf : Int) := by omega
                                have hq0 : ¬ ((q : Int) < 0) := by omega
                                have hqr : (q : Int) < (rn : Int) := by omega
                                obtain ⟨e, he⟩ : ∃ e, ALL[q]? = some e := ⟨ALL[q]'(by rw [← HRN.out]; omega), List.getElem?_eq_getElem _⟩
                                have hrow := HS.out.2.tl.row n (by omega)
                                rw [upd_same, HS.out.1] at hrow
                                obtain ⟨ba, cap', ⟨ta, tn, tc⟩, hre, h6, hxok⟩ := hrow.at he
                                simp only [Prod.mk.injEq] at hre
                                obtain ⟨hra, -, -⟩ := hre
                                subst hra
                                have HE : Hid (ALL.take (q + 1) = ALL.take q ++ [e] ∧ ExOk w.heap.size wr (e, (ta, tn, tc))) := ⟨take_snoc he, hxok⟩
                                obtain ⟨w4, hw4⟩ : ∃ w4, wr.alloc (.cells #[.int .u8 4, .int .u64 (e.n : Nat), .int .i64 e.p, .int .u16 (e.s : Nat), .int .i64 e.f, .slice ta tn tc] 49) = w4 := ⟨_, rfl⟩
                                obtain ⟨Q, hQ⟩ : ∃ Q, wr.heap.size = Q := ⟨_, rfl⟩
                                have u4 : RowKit.Below wr.heap.size wr w4 := by rw [← hw4]; exact bl1 _ _
                                have hts4 := HS.out.2.up u4
                                have hQb : ∃ c, w4.heap[Q]? = some (.cells c 49 (0, 0)) := by rw [← hw4, ← hQ]; exact ⟨_, heap_alloc_new _ _⟩
                                have hq6 : E6 w4 Q 0 (evF e) (ta, tn, tc) := by rw [← hw4, ← hQ]; exact e6_new wr (evF e) (ta, tn, tc) 49
                                obtain ⟨D2, hD2⟩ : ∃ D2, w4.drew = D2 := ⟨_, rfl⟩
                                have uD : RowKit.Below w4.heap.size w4 D2 := by rw [← hD2]; exact ((Up.refl w4).drew).bl
                                obtain ⟨A, hA⟩ : ∃ A, D2.alloc (.cells #[.int .u8 4, .int .u64 (e.n : Nat), .int .i64 e.p, .int .u16 (e.s : Nat), .int .i64 e.f, .slice ta tn tc] 49) = A := ⟨_, rfl⟩
                                obtain ⟨qq, hqq⟩ : ∃ qq, D2.heap.size = qq := ⟨_, rfl⟩
                                have uA : RowKit.Below w4.heap.size w4 A := by rw [← hA]; exact bl_step uD (bl1 _ _)
                                have htA := hts4.up uA
                                obtain ⟨Y, hY⟩ : ∃ Y, upd (Xg X3 (segF (vn, 0, sv) ALL L x.safe) i) i (X3 i ++ (ALL.take q).map evF) = Y := ⟨_, rfl⟩
                                have hYi : Y i = X3 i ++ (ALL.take q).map evF := by rw [← hY, upd_same]
                                rw [hY] at htA
                                have hXi : upd Y n ALL i = Y i := upd_ne _ _ (by omega)
                                have hac := cell_one D2 (evF e, ((ta, tn, tc) : Sr))
                                rw [show D2.alloc (.cells #[.int .u8 ((evF e).k : Nat), .int .u64 ((evF e).n : Nat), .int .i64 (evF e).p, .int .u16 ((evF e).s : Nat), .int .i64 (evF e).f, .slice ta tn tc] 49) = A from hA, hqq] at hac
                                have hlen : (Y i).length ≤ 400 := by
                                  rw [hYi, List.length_append, List.length_map, List.length_take]
                                  have := HX3.out.2 i
                                  have := HRN.out
                                  omega
                                obtain ⟨r', w5, hrun, hput⟩ := htA.put hil [(evF e, ((ta, tn, tc) : Sr))] (fun z hz => by rw [List.mem_singleton] at hz; subst hz; exact (⟨HE.out.2.1, HE.out.2.2.keep (Kp.up (bl_step u4 uA))⟩ : ExOk w.heap.size A (evF e, (ta, tn, tc)))) (by rw [hXi]; simp only [List.length_singleton]; omega) 1 hac
                                obtain ⟨ri, hri⟩ : ∃ ri, R i = ri := ⟨_, rfl⟩
                                have hgc : w4.cell? ⟨g, i, none⟩ = some (.slice ri.1 ri.2.1 ri.2.2) := by rw [← hri]; exact hts4.tl.cell i hil
                                obtain ⟨x0, x1, x2, x3, x4, x5⟩ := hq6
                                simp only [Nat.zero_add, evF] at x0 x1 x2 x3 x4 x5
                                have s0 : HS4 g i Q ri e (ta, tn, tc) w4 := ⟨hgc, x0, x1, x2, x3, x4, x5⟩
                                have sa : HS4 g i Q ri e (ta, tn, tc) D2 := s0.up uD
                                have sb : HS4 g i Q ri e (ta, tn, tc) A := s0.up uA
                                have hqne : ∀ j u, A.cell? ⟨Q, j, none⟩ = some u → w5.cell? ⟨Q, j, none⟩ = some u := fun j u hc => by
                                  rw [cell_blk (a := ⟨Q, j, none⟩) (hput.gr.block Q (World.block_lt_of_cell? A _ hc) (fun e' => ?_))]
                                  · exact hc
                                  · have := ((HS.out.2.tl.row i (by omega)).blk e'.symm).2.1
                                    omega
                                have g5 : w5.cell? ⟨g, i, none⟩ = some (.slice ri.1 ri.2.1 ri.2.2) := by have := hput.cell; rw [hri] at this; exact this
                                obtain ⟨_, t0, t1, t2, t3, t4, t5⟩ := sb
                                have sc : HS4 g i Q ri e (ta, tn, tc) w5 := ⟨g5, hqne _ _ t0, hqne _ _ t1, hqne _ _ t2, hqne _ _ t3, hqne _ _ t4, hqne _ _ t5⟩
                                have f5 := hput.fz
                                have HN : Hid (upd R i r' n = (some ⟨ba, 0, none⟩, rn, rc) ∧ TS w (w5.setCell ⟨g, i, none⟩ (.slice r'.1 r'.2.1 r'.2.2)) g n V (vn, 0, sv) (upd R i r') (upd (upd (Xg X3 (segF (vn, 0, sv) ALL L x.safe) i) i (X3 i ++ (ALL.take (q + 1)).map evF)) n ALL)) := by
                                  refine ⟨by rw [hput.last]; exact HS.out.1, ?_⟩
                                  have h1 := hput.ts
                                  rw [hXi, upd_comm _ _ _ (by omega), hYi] at h1
                                  have e2 : upd Y i (X3 i ++ (ALL.take q).map evF ++ [(evF e, ((ta, tn, tc) : Sr))].map Prod.fst) = upd (Xg X3 (segF (vn, 0, sv) ALL L x.safe) i) i (X3 i ++ (ALL.take (q + 1)).map evF) := by
                                    rw [← hY, upd_upd, HE.out.1, List.map_append, List.append_assoc]
                                    rfl
                                  rw [e2] at h1
                                  exact h1
                                have HRUN2 : Hid ((Builtin.append_ #[41, 41] 41 #[.slice ri.1 ri.2.1 ri.2.2, .slice (some ⟨qq, 0, none⟩) 1 1]).run Try.prog A = .ok (.slice r'.1 r'.2.1 r'.2.2) w5) := by rw [← hri]; exact hrun
                                have HSC : Hid (HS4 g i Q ri e (ta, tn, tc) w5) := sc
                                have HSB : Hid (HS4 g i Q ri e (ta, tn, tc) A) := s0.up uA
                                clear hrun hput htA hXi hgc uD hri sc he hrow hxok u4 hts4 hQb uA hY hYi hac hlen x0 x1 x2 x3 x4 x5 s0 hqne t0 t1 t2 t3 t4 t5
                                go_upto_region 42 with fail
                                go_wp2_with (refine wpList_load_Ev rfl (.tmp 246) rfl ba (q * 6) rfl e (ta, tn, tc) h6 ?_)
                                (try simp only [hw4, hQ])
                                clear h6 hw4 hQ
                                refine wp_region_noPanic ?_
                                refine beginE (HS4 g i Q ri e (ta, tn, tc)) 10 (by kernel_rfl) (by rw [hD2]; exact sa) (fun hHeld => ?_)
                                simp only [hD2] at hHeld ⊢
                                unfold HS4 at hHeld
                                refine tqE 0 ?_
                                refine tqE 1 ?_
                                refine tqE 2 ?_
                                refine tqE 3 ?_
                                refine tqE 4 ?_
                                refine tqE 5 ?_
                                refine tqE 6 ?_
                                refine upE 7 rfl (by kernel_rfl) (fun K hK => ?_)
                                go_simp
                                (try simp only [hA, hqq])
                                refine hK.out _ _ (HSB.out) (fun hHeld => ?_)
                                clear hK K
                                (try simp only [Act.put, List.setIfInBounds_toArray, List.set_cons_zero, List.set_cons_succ])
                                refine upE 8 rfl (by kernel_rfl) (fun K hK => ?_)
                                refine step_append_run rfl (.tmp 254) (.tmp 256) 41 rfl (.slice ri.1 ri.2.1 ri.2.2) (.slice (some ⟨qq, 0, none⟩) 1 1) (.slice r'.1 r'.2.1 r'.2.2) w5 (by simp [Act.eval]) (by simp [Act.eval]) HRUN2.out ?_
                                refine hK.out _ _ (HSC.out) (fun hHeld => ?_)
                                clear hK K
                                (try simp only [Act.put, List.setIfInBounds_toArray, List.set_cons_zero, List.set_cons_succ])
                                refine pureE 9 (v := ?_) rfl (by kernel_rfl) (by kernel_rfl) (by kernel_rfl) (by kernel_rfl) (fun _ _ _ h => h) (Or.inl ⟨by rfl, by intro wx hSw; (try dsimp only at hSw); go_simp; try with_reducible rfl⟩) (by assumption) ?_
                                (try simp only [Act.put, List.setIfInBounds_toArray, List.set_cons_zero, List.set_cons_succ])
                                refine lastE 10 rfl (by kernel_rfl) (by kernel_rfl) (fun K hK => ?_)
                                go_simp
                                refine hK.out _ _ ?_
                                clear hK K
                                (try simp only [Act.put, List.setIfInBounds_toArray, List.set_cons_zero, List.set_cons_succ])
                                refine doneE (by kernel_rfl) ?_ _
                                refine NoPanic.normal ?_
                                go_wp2
                                go_roundw
                                case rel => first | exact ⟨q + 1, _, by omega, by go_num, HN.out⟩ | ((repeat apply Exists.intro); exact ⟨⟨q + 1, _, by omega, by go_num, HN.out⟩, rfl⟩)
                                case measure => simp [intOf]; omega
                              · obtain rfl : q = sf := by omega
                                have HN : Hid _ := HNEXT.out wr R HS.out.2
                                go_wp2
                                go_roundw
                                case rel => first | exact ⟨i + 1, R, by omega, by go_num, HS.out.1, HN.out⟩ | ((repeat apply Exists.intro); exact ⟨⟨i + 1, R, by omega, by go_num, HS.out.1, HN.out⟩, rfl⟩)
                                case measure => simp [intOf]; omega
                        · have hifI : ¬ ((i : Int) < (fn : Int)) := by omega
                          have HE : Hid _ := HEND.out (.inr (by omega))
                          go_wp2
                          go_roundw
                          case rel => first | exact HE.out | ((repeat apply Exists.intro); exact ⟨HE.out, rfl⟩)
                          case measure => simp [intOf]; omega
                      · have hilI : ¬ ((i : Int) < (n : Int)) := by omega
                        have HE : Hid _ := HEND.out (.inl (by omega))
                        go_wp2
                        go_roundw
                        case rel => first | exact HE.out | ((repeat apply Exists.intro); exact ⟨HE.out, rfl⟩)
                        case measure => simp [intOf]; omega
      · have hkI : ¬ ((k : Int) < 6) := by omega
        have HE : Hid (TL w.heap.size wr g n n R0 (traceX n runs (min N 6)) ∧ RowKit.Below w.heap.size w wr) := by
          refine ⟨?_, HT.out.2⟩
          rw [show min N 6 = k by omega]
          exact HT.out.1.drop
        go_wp2
        go_ret
        exact ⟨g, R0, rfl, HE.out⟩
    · have hltI : ¬ ((k : Int) < (N : Int)) := by omega
      have HE : Hid (TL w.heap.size wr g n n R0 (traceX n runs (min N 6)) ∧ RowKit.Below w.heap.size w wr) := by
        refine ⟨?_, HT.out.2⟩
        rw [show min N 6 = k by omega]
        exact HT.out.1.drop
      go_wp2
      go_ret
      exact ⟨g, R0, rfl, HE.out⟩
end Go.Proofs.Ythnbijnpbjfoaaa
