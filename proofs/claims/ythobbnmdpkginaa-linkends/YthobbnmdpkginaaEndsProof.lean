/-
  Proved: for all numbers most and window and every list of calls, LinkEnds(most, window, script) returns true: if behind whatever happened packets go to and fro, as often as there are things, all that was put is taken; the document's example holds. No condition.
-/
import Derived.Test.YthobbnmdpkginaaRows
import Derived.Test.YthobbnmdpkginaaLEnds
namespace Go.Proofs.Ythobbnmdpkginaa.linkEnds
open Go.ChangeShapes Go.WideShapes Go.ChangeAt Go.RowKit
open Go.ChangeMaps (open_string shut_string)
set_option linter.unusedVariables false
set_option linter.unusedSimpArgs false

set_option maxRecDepth 20000 in
set_option maxHeartbeats 1500000 in
theorem walk (w : World) (most : Nat) (h0 : most < 256) (win : Nat) (h1 : win < 256) (a2 : Option Addr) (len cap : Nat) (xs : Nat → Ac) (hx : Acts w a2 len xs) :
    Calls Try.prog 4 #[.int .u8 (most : Nat), .int .u8 (win : Nat), .slice a2 len cap] w fun e w' => e = .returned (.bool true) ∧ Below w.heap.size w w' := by
  have hmax := hx.max
  have HX : Hid (Acts w a2 len xs) := hx
  obtain ⟨M, hM⟩ : ∃ M, M = 1 + most % 12 := ⟨_, rfl⟩
  obtain ⟨N, hN⟩ : ∃ N, N = 1 + win % 8 := ⟨_, rfl⟩
  have hI0 : Hid (Inv M N .zero) := inv_zero (by omega) (by omega) (by omega) (by omega)
  have HB := fun wx => ws_begin wx most win h0 h1 M N hM hN
  clear hx h0 h1 hM hN
  go_enter Try.func4, Try.ntmps4
  go_wp2_with fail
  refine (awake_any _).mono ?_
  rintro e w1 ⟨rfl, t1⟩
  go_wp2_with fail
  refine (HB _).mono ?_
  rintro e w2 ⟨q, ka, kb, rfl, h2⟩
  have h3 := h2.behind t1
  clear h2 t1 HB
  go_wp2
  go_loopw [8] (fun iv wr => ∃ (i ka kb : Nat) (p : Pl), i ≤ len ∧ i ≤ 150 ∧ iv = .int .i64 i ∧ Ws w wr (fun _ => False) q ka kb M N p ∧ Inv M N p ∧ Sz i p) (fun iv _ => 150 - (intOf iv).toNat)
  case atStart => exact ⟨0, ka, kb, .zero, by omega, by omega, rfl, h3, hI0.out, ⟨by simp [Pl.zero], by simp [Pl.zero], by simp [Pl.zero], by simp [Pl.zero]⟩⟩
  case round =>
    clear h3 hI0 ka kb
    obtain ⟨i, ka, kb, p, hi, hi2, rfl, h3, inv, sz⟩ := hrel
    by_cases hlt : i < len ∧ i < 150
    · obtain ⟨hlt1, hlt2⟩ := hlt
      have hltI : (i : Int) < len := by omega
      have hltI2 : (i : Int) < 150 := by omega
      obtain ⟨ad, rfl, _, hc⟩ := (HX.out.turned h3.turned).cell (by omega)
      obtain ⟨c0, c1, c2⟩ := hc i hlt1
      obtain ⟨hk256, hnin⟩ := HX.out.lt i hlt1
      clear hc
      generalize xs i = ac at c0 c1 c2 hk256 hnin
      obtain ⟨kd, s, n⟩ := ac
      simp only at c0 c1 c2 hk256 hnin
      have hact := ws_act h3 inv sz (by omega) kd s n hk256
      clear h3 inv sz hnin
      go_wp2_with fail
      refine hact.mono ?_
      rintro e w4 ⟨rfl, ka4, kb4, p4, h4, -, i4, s4⟩
      clear hact c0 c1 c2
      go_wp2
      go_roundw
      case rel => first | exact ⟨i + 1, ka4, kb4, p4, by omega, by omega, by go_num, h4, i4, s4⟩ | ((repeat apply Exists.intro); exact ⟨⟨i + 1, ka4, kb4, p4, by omega, by omega, by go_num, h4, i4, s4⟩, rfl⟩)
      case measure => simp [intOf]; omega
    · obtain ⟨A, hA⟩ : ∃ A, p.pA = A := ⟨_, rfl⟩
      obtain ⟨B, hB⟩ : ∃ B, p.pB = B := ⟨_, rfl⟩
      have sz2 := sz.mono hi2
      have rd0 : Hid (Rd A B 0 p) := ⟨hA, hB, fun h => by omega, by simp, by simp, by simp⟩
      have HLA : Hid (A.length ≤ 150 ∧ B.length ≤ 150) := ⟨by rw [← hA]; exact sz2.pA, by rw [← hB]; exact sz2.pB⟩
      obtain ⟨R, HR⟩ : ∃ R, Hid (R = 2 * (A.length + B.length) + 2) := ⟨_, rfl⟩
      have hE : ((i : Int) < len ∧ ¬ (i : Int) < 150) ∨ ¬ (i : Int) < len := by omega
      clear sz hA hB HX
      rcases hE with ⟨hE1, hE2⟩ | hE1
      all_goals
        as_aux_lemma =>
        go_wp2
        go_loopw [9, 10] (fun iv _ wr => ∃ (r ka kb : Nat) (p : Pl), r ≤ R ∧ iv = .int .i64 r ∧ Ws w wr (fun _ => False) q ka kb M N p ∧ Inv M N p ∧ Sz 150 p ∧ Rd A B r p) (fun iv _ _ => R - (intOf iv).toNat)
        case atStart => exact ⟨0, ka, kb, p, by omega, rfl, h3, inv, sz2, rd0.out⟩
        case round =>
          clear h3 inv sz2 rd0 p ka kb hi hi2 hlt
          obtain ⟨r, ka, kb, p, hr, rfl, h3, inv, sz, rd⟩ := hrel
          have hPA : p.pA.length = A.length := by rw [rd.pA]
          have hPB : p.pB.length = B.length := by rw [rd.pB]
          obtain ⟨o2, k2, d2⟩ := h3.c2
          obtain ⟨o3, k3, d3⟩ := h3.c3
          rw [hPA] at d2
          rw [hPB] at d3
          obtain ⟨PA, HPA⟩ : ∃ n, Hid (A.length = n) := ⟨_, rfl⟩
          obtain ⟨PB, HPB⟩ : ∃ n, Hid (B.length = n) := ⟨_, rfl⟩
          have hR0 := HR.out
          have hLA := HLA.out
          rw [HPA.out] at d2 hR0 hLA
          rw [HPB.out] at d3 hR0 hLA
          obtain ⟨hLA1, hLA2⟩ := hLA
          have v1 : IntKind.i64.wrap ((PA : Int) + (PB : Int)) = (PA : Int) + (PB : Int) := by rw [IntKind.wrap_i64]; omega
          have v2 : IntKind.i64.wrap (2 * ((PA : Int) + (PB : Int))) = 2 * ((PA : Int) + (PB : Int)) := by rw [IntKind.wrap_i64]; omega
          have v3 : IntKind.i64.wrap (2 * ((PA : Int) + (PB : Int)) + 2) = (R : Int) := by rw [IntKind.wrap_i64]; omega
          have v4 : 2 * ((PA : Int) + (PB : Int)) + 2 = (R : Int) := by omega
          have hRR : R ≤ 1000 := by omega
          by_cases hlt : r < R
          · have hltI : (r : Int) < R := by omega
            have hltN : decide (r < R) = true := by simpa using hlt
            obtain ⟨c1n, p1, i1, s1, a1, a2, a3, a4, a5, a6, a7, a8, hin1⟩ := hopAB inv sz (by omega) w q ka kb
            have HS1 : Hid (Inv M N p ∧ Rd A B r p ∧ Inv M N p1 ∧ p1.pA = p.pA ∧ p1.pB = p.pB ∧ p1.aA = p.aA ∧ p1.nA = p.nA ∧ p1.yA = p.yA ∧ p1.aB = p.nA ∧ p1.nB = p.nB + c1n ∧ c1n = min (min N p.xA.length - (p.nB - p.aA)) (M - p.yB.length)) := ⟨inv, rd, i1, a1, a2, a3, a4, a5, a6, a7, a8⟩
            clear a1 a2 a3 a4 a5 a6 a7 a8
            obtain ⟨c2n, p2, i2, s2, b1, b2, b3, b4, b5, b6, b7, hin2⟩ := hopBA i1 s1 (by omega) w q ka kb
            have HS2 : Hid (p2.pA = p1.pA ∧ p2.pB = p1.pB ∧ p2.aB = p1.aB ∧ p2.nB = p1.nB ∧ p2.aA = p1.nB ∧ p2.nA = p1.nA + c2n ∧ c2n = min (min N p1.xB.length - (p1.nA - p1.aB)) (M - p1.yA.length)) := ⟨b1, b2, b3, b4, b5, b6, b7⟩
            clear b1 b2 b3 b4 b5 b6 b7
            have HI2 : Hid (Inv M N p2 ∧ Sz 150 p2) := ⟨i2, s2⟩
            have hxA := inv.xA
            have hxB := i1.xB
            have H3 : Hid (∀ k, Ws w (wr.drewN k) (fun _ => False) q ka kb M N p) := fun k => h3.still ((Turned.refl _ wr).drewN k)
            have e0 := h3.c0
            have e1 := h3.c1
            clear h3 inv sz rd i1 s1 i2 s2 hPA hPB hR0
            go_wp2_with fail
            go_quiet (fail)
            go_wp2_with fail
            have h4 := H3.out (nq + 1)
            have hout := ws_outA h4 hxA
            refine wp_region_noPanic ?_
            refine wp_region_held_drew (S := fun wx => wx.cell? ⟨q, 0, none⟩ = some (.pointer (some ⟨ka, 0, none⟩)) ∧ wx.cell? ⟨q, 1, none⟩ = some (.pointer (some ⟨kb, 0, none⟩))) (by kernel_rfl) (show _ ∧ _ from ⟨e0, e1⟩) (fun hHeld => ?_)
            refine take_first 0 (v := ?_) rfl (by kernel_rfl) (by kernel_rfl) (by kernel_rfl) (fun _ _ _ h => h) (Or.inl ⟨by rfl, by intro wx hSw; (try dsimp only at hSw); obtain ⟨hSw1, hSw2⟩ := hSw; go_simp; try with_reducible rfl⟩) (by assumption) ?_
            (try simp only [Act.put, List.setIfInBounds_toArray, List.set_cons_zero, List.set_cons_succ])
            refine take_first 1 (v := ?_) rfl (by kernel_rfl) (by kernel_rfl) (by kernel_rfl) (fun _ _ _ h => h) (Or.inl ⟨by rfl, by intro wx hSw; (try dsimp only at hSw); obtain ⟨hSw1, hSw2⟩ := hSw; go_simp; try with_reducible rfl⟩) (by assumption) ?_
            (try simp only [Act.put, List.setIfInBounds_toArray, List.set_cons_zero, List.set_cons_succ])
            refine take_first 2 (v := ?_) rfl (by kernel_rfl) (by kernel_rfl) (by kernel_rfl) (fun _ _ _ h => h) (Or.inl ⟨by rfl, by intro wx hSw; (try dsimp only at hSw); obtain ⟨hSw1, hSw2⟩ := hSw; go_simp; try with_reducible rfl⟩) (by assumption) ?_
            (try simp only [Act.put, List.setIfInBounds_toArray, List.set_cons_zero, List.set_cons_succ])
            refine take_first 3 (v := ?_) rfl (by kernel_rfl) (by kernel_rfl) (by kernel_rfl) (fun _ _ _ h => h) (Or.inl ⟨by rfl, by intro wx hSw; (try dsimp only at hSw); obtain ⟨hSw1, hSw2⟩ := hSw; go_simp; try with_reducible rfl⟩) (by assumption) ?_
            (try simp only [Act.put, List.setIfInBounds_toArray, List.set_cons_zero, List.set_cons_succ])
            refine take_first 4 (v := ?_) rfl (by kernel_rfl) (by kernel_rfl) (by kernel_rfl) (fun _ _ _ h => h) (Or.inl ⟨by rfl, by intro wx hSw; (try dsimp only at hSw); obtain ⟨hSw1, hSw2⟩ := hSw; go_simp; try with_reducible rfl⟩) (by assumption) ?_
            (try simp only [Act.put, List.setIfInBounds_toArray, List.set_cons_zero, List.set_cons_succ])
            refine take_first 5 (v := ?_) rfl (by kernel_rfl) (by kernel_rfl) (by kernel_rfl) (fun _ _ _ h => h) (Or.inl ⟨by rfl, by intro wx hSw; (try dsimp only at hSw); obtain ⟨hSw1, hSw2⟩ := hSw; go_simp; try with_reducible rfl⟩) (by assumption) ?_
            (try simp only [Act.put, List.setIfInBounds_toArray, List.set_cons_zero, List.set_cons_succ])
            refine take_first 6 (v := ?_) rfl (by kernel_rfl) (by kernel_rfl) (by kernel_rfl) (fun _ _ _ h => h) (Or.inl ⟨by rfl, by intro wx hSw; (try dsimp only at hSw); obtain ⟨hSw1, hSw2⟩ := hSw; go_simp; try with_reducible rfl⟩) (by assumption) ?_
            (try simp only [Act.put, List.setIfInBounds_toArray, List.set_cons_zero, List.set_cons_succ])
            refine take_first 7 (v := ?_) rfl (by kernel_rfl) (by kernel_rfl) (by kernel_rfl) (fun _ _ _ h => h) (Or.inl ⟨by rfl, by intro wx hSw; (try dsimp only at hSw); obtain ⟨hSw1, hSw2⟩ := hSw; go_simp; try with_reducible rfl⟩) (by assumption) ?_
            (try simp only [Act.put, List.setIfInBounds_toArray, List.set_cons_zero, List.set_cons_succ])
            refine comes_up 8 rfl (by kernel_rfl) (fun K hK => ?_)
            go_simp
            refine (calls_atA hout rfl).mono ?_
            rintro e w5 ⟨ao5, n5, cap5, rfl, -, HH⟩
            obtain ⟨h5, tx5, -, -⟩ := HH.out
            have f0 := h5.c0
            have f1 := h5.c1
            have hc1 := hin1 _ _ _ _ _ h5 tx5 (fun b hb => .inr hb)
            clear hout HH h5 tx5 h4 e0 e1 H3 hin1 hxA d2 d3
            go_wp2_with fail
            refine hK.out _ _ ⟨f0, f1⟩ (fun hHeld => ?_)
            clear hK K
            (try simp only [Act.put, List.setIfInBounds_toArray, List.set_cons_zero, List.set_cons_succ])
            refine comes_up 9 rfl (by kernel_rfl) (fun K hK => ?_)
            go_simp
            refine hc1.mono ?_
            rintro e w6 ⟨rfl, HH⟩
            have g0 := HH.out.c0
            have g1 := HH.out.c1
            have H6 : Hid (∀ k, Ws w (w6.drewN k) (fun _ => False) q ka kb M N p1) := fun k => (HH.out.less (fun _ => False) (fun _ f => f.elim)).still ((Turned.refl _ w6).drewN k)
            clear HH hc1 f0 f1
            go_wp2_with fail
            refine hK.out _ _ ⟨g0, g1⟩ (fun hHeld => ?_)
            clear hK K
            (try simp only [Act.put, List.setIfInBounds_toArray, List.set_cons_zero, List.set_cons_succ])
            refine wpAnyH_done (by kernel_rfl) ?_ _
            refine NoPanic.normal ?_
            go_wp2_with fail
            have h7 := H6.out 1
            have hout := ws_outB h7 hxB
            refine wp_region_noPanic ?_
            refine wp_region_held_drew (S := fun wx => wx.cell? ⟨q, 0, none⟩ = some (.pointer (some ⟨ka, 0, none⟩)) ∧ wx.cell? ⟨q, 1, none⟩ = some (.pointer (some ⟨kb, 0, none⟩))) (by kernel_rfl) (show _ ∧ _ from ⟨g0, g1⟩) (fun hHeld => ?_)
            refine take_first 0 (v := ?_) rfl (by kernel_rfl) (by kernel_rfl) (by kernel_rfl) (fun _ _ _ h => h) (Or.inl ⟨by rfl, by intro wx hSw; (try dsimp only at hSw); obtain ⟨hSw1, hSw2⟩ := hSw; go_simp; try with_reducible rfl⟩) (by assumption) ?_
            (try simp only [Act.put, List.setIfInBounds_toArray, List.set_cons_zero, List.set_cons_succ])
            refine take_first 1 (v := ?_) rfl (by kernel_rfl) (by kernel_rfl) (by kernel_rfl) (fun _ _ _ h => h) (Or.inl ⟨by rfl, by intro wx hSw; (try dsimp only at hSw); obtain ⟨hSw1, hSw2⟩ := hSw; go_simp; try with_reducible rfl⟩) (by assumption) ?_
            (try simp only [Act.put, List.setIfInBounds_toArray, List.set_cons_zero, List.set_cons_succ])
            refine take_first 2 (v := ?_) rfl (by kernel_rfl) (by kernel_rfl) (by kernel_rfl) (fun _ _ _ h => h) (Or.inl ⟨by rfl, by intro wx hSw; (try dsimp only at hSw); obtain ⟨hSw1, hSw2⟩ := hSw; go_simp; try with_reducible rfl⟩) (by assumption) ?_
            (try simp only [Act.put, List.setIfInBounds_toArray, List.set_cons_zero, List.set_cons_succ])
            refine take_first 3 (v := ?_) rfl (by kernel_rfl) (by kernel_rfl) (by kernel_rfl) (fun _ _ _ h => h) (Or.inl ⟨by rfl, by intro wx hSw; (try dsimp only at hSw); obtain ⟨hSw1, hSw2⟩ := hSw; go_simp; try with_reducible rfl⟩) (by assumption) ?_
            (try simp only [Act.put, List.setIfInBounds_toArray, List.set_cons_zero, List.set_cons_succ])
            refine take_first 4 (v := ?_) rfl (by kernel_rfl) (by kernel_rfl) (by kernel_rfl) (fun _ _ _ h => h) (Or.inl ⟨by rfl, by intro wx hSw; (try dsimp only at hSw); obtain ⟨hSw1, hSw2⟩ := hSw; go_simp; try with_reducible rfl⟩) (by assumption) ?_
            (try simp only [Act.put, List.setIfInBounds_toArray, List.set_cons_zero, List.set_cons_succ])
            refine take_first 5 (v := ?_) rfl (by kernel_rfl) (by kernel_rfl) (by kernel_rfl) (fun _ _ _ h => h) (Or.inl ⟨by rfl, by intro wx hSw; (try dsimp only at hSw); obtain ⟨hSw1, hSw2⟩ := hSw; go_simp; try with_reducible rfl⟩) (by assumption) ?_
            (try simp only [Act.put, List.setIfInBounds_toArray, List.set_cons_zero, List.set_cons_succ])
            refine take_first 6 (v := ?_) rfl (by kernel_rfl) (by kernel_rfl) (by kernel_rfl) (fun _ _ _ h => h) (Or.inl ⟨by rfl, by intro wx hSw; (try dsimp only at hSw); obtain ⟨hSw1, hSw2⟩ := hSw; go_simp; try with_reducible rfl⟩) (by assumption) ?_
            (try simp only [Act.put, List.setIfInBounds_toArray, List.set_cons_zero, List.set_cons_succ])
            refine take_first 7 (v := ?_) rfl (by kernel_rfl) (by kernel_rfl) (by kernel_rfl) (fun _ _ _ h => h) (Or.inl ⟨by rfl, by intro wx hSw; (try dsimp only at hSw); obtain ⟨hSw1, hSw2⟩ := hSw; go_simp; try with_reducible rfl⟩) (by assumption) ?_
            (try simp only [Act.put, List.setIfInBounds_toArray, List.set_cons_zero, List.set_cons_succ])
            refine comes_up 8 rfl (by kernel_rfl) (fun K hK => ?_)
            go_simp
            refine (calls_atA hout rfl).mono ?_
            rintro e w8 ⟨ao8, n8, cap8, rfl, -, HH⟩
            obtain ⟨h8, tx8, -, -⟩ := HH.out
            have f0 := h8.c0
            have f1 := h8.c1
            have hc1 := hin2 _ _ _ _ _ h8 tx8 (fun b hb => .inr hb)
            clear hout HH h8 tx8 h7 g0 g1 H6 hin2 hxB
            go_wp2_with fail
            refine hK.out _ _ ⟨f0, f1⟩ (fun hHeld => ?_)
            clear hK K
            (try simp only [Act.put, List.setIfInBounds_toArray, List.set_cons_zero, List.set_cons_succ])
            refine comes_up 9 rfl (by kernel_rfl) (fun K hK => ?_)
            go_simp
            refine hc1.mono ?_
            rintro e w9 ⟨rfl, HH⟩
            have g0 := HH.out.c0
            have g1 := HH.out.c1
            have h9 : Ws w w9 (fun _ => False) q ka kb M N p2 := HH.out.less (fun _ => False) (fun _ f => f.elim)
            clear HH hc1 f0 f1
            go_wp2_with fail
            refine hK.out _ _ ⟨g0, g1⟩ (fun hHeld => ?_)
            clear hK K
            (try simp only [Act.put, List.setIfInBounds_toArray, List.set_cons_zero, List.set_cons_succ])
            refine wpAnyH_done (by kernel_rfl) ?_ _
            refine NoPanic.normal ?_
            clear g0 g1
            go_wp2
            clear v1 v2 v3 v4 hltN hltI
            have hyy : p2.yA.length ≤ 12 ∧ p2.yB.length ≤ 12 := by
              have := HI2.out.1.A.yM
              have := HI2.out.1.B.yM
              have := HI2.out.1.M12
              omega
            go_loopw [10] (fun kv wr => ∃ (k3 ka kb : Nat) (p3 : Pl), k3 ≤ 20 ∧ kv = .int .i64 k3 ∧ Ws w wr (fun _ => False) q ka kb M N p3 ∧ Inv M N p3 ∧ Sz 150 p3 ∧ Tk p2 p3 ∧ p3.yA.length ≤ 12 - k3 ∧ p3.yB.length ≤ 12 - k3) (fun kv _ => 20 - (intOf kv).toNat)
            case atStart => exact ⟨0, ka, kb, p2, by omega, rfl, h9, HI2.out.1, HI2.out.2, Tk.refl p2, by omega, by omega⟩
            case round =>
              clear h9 HI2 hyy
              obtain ⟨j, ka, kb, p3, hj, rfl, h3, inv, sz, tk, y1, y2⟩ := hrel
              by_cases hj2 : j < 20
              · have hjI : (j : Int) < 20 := by omega
                have hact := ws_t6 h3 inv sz (by omega)
                clear h3 inv sz
                go_wp2_with fail
                refine hact.mono ?_
                rintro e w4 ⟨rfl, ka4, kb4, p4, h4, i4, s4, t4, z1, z2⟩
                have hact2 := ws_t7 h4 i4 s4 (by omega)
                have TK : Hid (Tk p2 p4 ∧ p4.yA.length ≤ 12 - (j + 1) ∧ p4.yB.length ≤ 12 - j) := ⟨tk.trans t4, by omega, by omega⟩
                clear hact h4 i4 s4 t4 z1 z2 tk y1 y2
                go_wp2_with fail
                refine hact2.mono ?_
                rintro e w5 ⟨rfl, ka5, kb5, p5, h5, i5, s5, t5, z1, z2⟩
                have tk5 := TK.out.1.trans t5
                have zz1 : p5.yA.length ≤ 12 - (j + 1) := by have := TK.out.2.1; omega
                have zz2 : p5.yB.length ≤ 12 - (j + 1) := by have := TK.out.2.2; omega
                clear hact2 t5 z1 z2 TK
                go_wp2
                go_roundw
                case rel => first | exact ⟨j + 1, ka5, kb5, p5, by omega, by go_num, h5, i5, s5, tk5, zz1, zz2⟩ | ((repeat apply Exists.intro); exact ⟨⟨j + 1, ka5, kb5, p5, by omega, by go_num, h5, i5, s5, tk5, zz1, zz2⟩, rfl⟩)
                case measure => simp [intOf]; omega
              · have hjI : ¬ (j : Int) < 20 := by omega
                have q1 : p3.yA = [] := List.length_eq_zero_iff.1 (by omega)
                have q2 : p3.yB = [] := List.length_eq_zero_iff.1 (by omega)
                have rd2 : Rd A B (r + 1) p3 := by
                  obtain ⟨x1, x2, x3, x4, x5, x6, x7, x8, x9, x10, x11⟩ := HS1.out
                  obtain ⟨u1, u2, u3, u4, u5, u6, u7⟩ := HS2.out
                  exact Rd.step x1 x2 x3 x4 x5 x6 x7 x8 x9 x10 x11 u1 u2 u3 u4 u5 u6 u7 tk q1 q2
                have RD2 : Hid (Rd A B (r + 1) p3) := rd2
                clear rd2 q1 q2 y1 y2 tk HS1 HS2
                go_wp2
                go_roundw
                case rel => first | exact ⟨r + 1, ka, kb, p3, by omega, by go_num, h3, inv, sz, RD2.out⟩ | ((repeat apply Exists.intro); exact ⟨⟨r + 1, ka, kb, p3, by omega, by go_num, h3, inv, sz, RD2.out⟩, rfl⟩)
                case measure => simp [intOf]; omega
          · obtain rfl : r = R := by omega
            have hltI : ¬ (r : Int) < r := by omega
            have hltN : decide (r < r) = false := by simp
            obtain ⟨x1, x2, x3, x4⟩ := rd.ends inv (by have := HR.out; omega)
            have hH : Hid (∀ k k', Ws w ((wr.drewN k).drewN k') (fun _ => False) q ka kb M N p) := fun k k' => (h3.still ((Turned.refl _ wr).drewN k)).still ((Turned.refl _ _).drewN k')
            have HI : Hid (Inv M N p ∧ p.pA.length ≤ 1000 ∧ p.pB.length ≤ 1000 ∧ p.xA = [] ∧ p.xB = []) := ⟨inv, by have := sz.pA; omega, by have := sz.pB; omega, x1, x2⟩
            have e0 := h3.c0
            have e1 := h3.c1
            obtain ⟨o4, k4, d4⟩ := h3.c4
            obtain ⟨o5, k5, d5⟩ := h3.c5
            rw [x3, hPB, HPB.out] at d4
            rw [x4, hPA, HPA.out] at d5
            clear h3 inv sz rd x1 x2 x3 x4 hPA hPB hR0
            go_wp2_with fail
            go_quiet (fail)
            go_wp2_with fail
            have e0' : (wr.drewN nq).cell? ⟨q, 0, none⟩ = some (.pointer (some ⟨ka, 0, none⟩)) := e0
            have e1' : (wr.drewN nq).cell? ⟨q, 1, none⟩ = some (.pointer (some ⟨kb, 0, none⟩)) := e1
            have d2' : (wr.drewN nq).cell? ⟨q, 2, none⟩ = some (.slice o2 PA k2) := d2
            have d3' : (wr.drewN nq).cell? ⟨q, 3, none⟩ = some (.slice o3 PB k3) := d3
            have d4' : (wr.drewN nq).cell? ⟨q, 4, none⟩ = some (.slice o4 PB k4) := d4
            have d5' : (wr.drewN nq).cell? ⟨q, 5, none⟩ = some (.slice o5 PA k5) := d5
            have hH2 : Hid (∀ k', Ws w ((wr.drewN nq).drewN k') (fun _ => False) q ka kb M N p) := fun k' => hH.out nq k'
            clear e0 e1 d2 d3 d4 d5 hH
            generalize wr.drewN nq = wq at *
            have w1' := fun k' => ws_right (hH2.out k') HI.out.1 ⟨HI.out.2.1, HI.out.2.2.1⟩
            have w2' := fun k' => calls_same (ws_idleA (hH2.out k') HI.out.2.2.2.1)
            have w3' := fun k' => calls_same (ws_idleB (hH2.out k') HI.out.2.2.2.2)
            go_quiet (first | (go_at_call 13; refine Calls.quiet_of (w1' _)) | (go_at_call 18; refine Calls.quiet_of_same (w2' _)) | (go_at_call 19; refine Calls.quiet_of_same (w3' _)))
            go_wp2
            go_ret
            exact ⟨rfl, (hH2.out _).below⟩

set_option maxRecDepth 100000 in
theorem lifted (os : Os) (started : os.Started) (H : Type) (enc : TypeId × Value → H) :
    ReturnsInHanded {} Try.checked os 4 .any (Rows.linkEndsSpec.pre6 enc Try.prog Try.f4 Rows.linkEndsRow.domain false) (Rows.linkEndsSpec.post enc Try.prog Try.f4 false true false false) := by
  refine returnsInHanded_of_change (C := Try.checked) own started (by kernel_rfl) Try.func4
    (ChangeSpec.witness6 (enc := enc) (C := Try.checked) false ⟨#[], #[.int .u8 0, .int .u8 0, .slice none 0 0], []⟩ 4 (by kernel_rfl) (by kernel_rfl) (by kernel_rfl) (by kernel_rfl)) ?_
  intro W base args ds gs before hval0 hW hcnd _
  have hval : ∀ (j : Nat) t v, Try.f4.params[j]? = some t → args[j]? = some v → Value.okWide Try.prog W .any base t v := hval0
  have hW' := hW
  obtain ⟨p, q, hA0, hV, rfl, hfz, hnd⟩ := hW
  have hA : DataW.TrodAll enc Try.prog W 0 (fun _ => true) true Try.f4.params.toList args.toList ds p := hA0
  rw [Try.params4] at hA hval
  obtain ⟨v0, vs0, d0, ds0, p0, q0, hargs0, rfl, rfl, h0, r0⟩ := trodAll_cons hA
  obtain ⟨v1, vs1, d1, ds1, p1, q1, hargs1, rfl, rfl, h1, r1⟩ := trodAll_cons r0
  obtain ⟨v2, vs2, d2, ds2, p2, q2, hargs2, rfl, rfl, h2, r2⟩ := trodAll_cons r1
  obtain ⟨rfl, rfl, rfl⟩ := trodAll_nil r2
  obtain rfl : args = #[v0, v1, v2] := by cases args; simp_all
  obtain ⟨rfl, rfl⟩ := trodVars_none hV
  obtain ⟨a0, rfl, rfl, rfl, w0⟩ := open_int Try.underlying5 (hval 0 5 v0 rfl rfl) h0
  obtain ⟨a1, rfl, rfl, rfl, w1⟩ := open_int Try.underlying5 (hval 1 5 v1 rfl rfl) h1
  obtain ⟨a2, len2, cap2, rfl⟩ := okWide_slice Try.underlying22 (hval 2 22 v2 rfl rfl)
  have k2 := h2
  have lt2 : ∀ x ∈ p2, x.block < W.heap.size := by obtain ⟨m, hm⟩ := k2; exact DataW.trod_lt m _ _ _ hm
  obtain ⟨xs2, hx2⟩ := open_acts h2
  clear hA0 hval0
  obtain ⟨n0, rfl, hn0⟩ := u8_of_wf w0
  obtain ⟨n1, rfl, hn1⟩ := u8_of_wf w1
  refine (walk W n0 hn0 n1 hn1 a2 len2 cap2 xs2 hx2).mono fun e W' ⟨he, bel⟩ => ?_
  subst he
  exact ⟨_, rfl, _, _, _, [], _, [], hW', trodAll_mk1 (shut_bool Try.underlying4 _), (trodAll_cons_mk (shut_int Try.underlying5 w0) (trodAll_cons_mk (shut_int Try.underlying5 w1) (trodAll_cons_mk (Below.trod laidOut (by kernel_rfl) (of_decide_eq_true (by kernel_rfl)) k2 bel lt2) trodAll_mk0))), rfl, bel.frame _, fun h => by cases h⟩

theorem over : Rows.linkEndsRow.holds Try.pinned (OpenSpec.ofChange Rows.linkEndsSpec) :=
  OpenClaim.holds_of_wide 4 Try.f4 rfl rfl rfl rfl rfl rfl rfl ⟨rfl, rfl, rfl, rfl, rfl⟩ rfl rfl rfl rfl rfl (by kernel_rfl) Try.func4 (by kernel_rfl)
    (of_decide_eq_true (by kernel_rfl)) (by unfold Func.isWrapper; first | (rw [if_pos (by decide +kernel)]; kernel_rfl) | (rw [if_neg (by decide +kernel)]; exact ⟨rfl, rfl⟩))
    (fun os started H enc _ => lifted os started H enc)

end Go.Proofs.Ythobbnmdpkginaa.linkEnds
namespace Go.Proofs.Ythobbnmdpkginaa
theorem linkEnds_holds : Rows.LinkEndsSaid := linkEnds.over
#print axioms linkEnds_holds
end Go.Proofs.Ythobbnmdpkginaa
