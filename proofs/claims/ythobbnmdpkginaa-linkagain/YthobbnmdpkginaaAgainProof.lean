/-
  Proved: for all numbers most and window and every list of calls, LinkAgain(most, window, script) returns true: a packet that comes once more changes nothing; the document's example holds. No condition.
-/
import Derived.Test.YthobbnmdpkginaaRows
import Derived.Test.YthobbnmdpkginaaLArgs
namespace Go.Proofs.Ythobbnmdpkginaa.linkAgain
open Go.ChangeShapes Go.WideShapes Go.ChangeAt Go.RowKit
open Go.ChangeMaps (open_string shut_string)
set_option linter.unusedVariables false
set_option linter.unusedSimpArgs false

/-- A packet comes, and once more. -/
theorem again_pair {M N k : Nat} {p : Pl} (inv : Inv M N p) (sz : Sz k p) (hk : k ≤ 900) (w0 : World) (q ka kb : Nat) :
    ∃ (c : Nat) (p5 : Pl), Inv M N p5 ∧ Sz k p5 ∧
      (∀ w Z ao n cap, Ws w0 w Z q ka kb M N p → Tx w 9 (.slice ao n cap) (p.xA.take N) → (∀ b, (Value.slice ao n cap).ownBlock = some b → Z b) → Calls Try.prog 14 #[.pointer (some ⟨kb, 0, none⟩), .agg #[.int .u64 4, .int .i64 2, .int .u64 (p.aA : Nat), .slice ao n cap, .int .u64 (p.nA : Nat)]] w fun e w' => e = .returned (.tuple #[.int .i64 (c : Nat), .int .i64 0]) ∧ Hid (Ws w0 w' Z q ka kb M N p5 ∧ Kep Z w w')) ∧
      (∀ w Z ao n cap, Ws w0 w Z q ka kb M N p5 → Tx w 9 (.slice ao n cap) (p.xA.take N) → (∀ b, (Value.slice ao n cap).ownBlock = some b → Z b) → Calls Try.prog 14 #[.pointer (some ⟨kb, 0, none⟩), .agg #[.int .u64 4, .int .i64 2, .int .u64 (p.aA : Nat), .slice ao n cap, .int .u64 (p.nA : Nat)]] w fun e w' => e = .returned (.tuple #[.int .i64 0, .int .i64 0]) ∧ Hid (Ws w0 w' Z q ka kb M N p5 ∧ Kep Z w w')) := by
  have hs := inv.small sz
  have ok := inv.A.pok (.slice none 0 0)
  have o1 := inv.okB ok
  obtain ⟨c, hc⟩ : ∃ c, c = min ((p.xA.take N).length - (p.nB - p.aA)) (M - p.yB.length) := ⟨_, rfl⟩
  have i5 := inv.inB ok c hc
  have o2 := i5.okB (p := { p with aB := max p.aB p.nA, xB := p.xB.drop (p.nA - p.aB), nB := p.nB + c, yB := p.yB ++ ((p.xA.take N).drop (p.nB - p.aA)).take c }) ok
  have s5 : Sz k { p with aB := max p.aB p.nA, xB := p.xB.drop (p.nA - p.aB), nB := p.nB + c, yB := p.yB ++ ((p.xA.take N).drop (p.nB - p.aA)).take c } := ⟨sz.pA, sz.pB, sz.tA, sz.tB⟩
  have hs5 := i5.small s5
  refine ⟨c, _, i5, s5, fun w Z ao n cap h ht hZ => ws_inB h p.aA o1.1 (by omega) ao n cap _ ht hZ p.nA o1.2 (by omega) c hc, fun w Z ao n cap h ht hZ => ?_⟩
  have hc2 : 0 = min ((p.xA.take N).length - (p.nB + c - p.aA)) (M - (p.yB ++ ((p.xA.take N).drop (p.nB - p.aA)).take c).length) := by
    have h1 : p.aA ≤ p.nB := inv.A.an
    have h2 : (((p.xA.take N).drop (p.nB - p.aA)).take c).length = c := by rw [List.length_take, List.length_drop]; omega
    rw [List.length_append, h2]
    generalize (p.xA.take N).length = L at *
    generalize p.yB.length = Y at *
    omega
  refine (ws_inB h p.aA o2.1 (by omega) ao n cap _ ht hZ p.nA o2.2 (by omega) 0 hc2).mono ?_
  rintro e w' ⟨rfl, HH⟩
  refine ⟨rfl, ?_, HH.out.2⟩
  have := HH.out.1
  simp only [List.take_zero, List.append_nil, Nat.add_zero, List.drop_drop] at this
  rw [show max (max p.aB p.nA) p.nA = max p.aB p.nA by omega, show p.nA - p.aB + (p.nA - max p.aB p.nA) = p.nA - p.aB by omega] at this
  exact this

set_option maxRecDepth 20000 in
set_option maxHeartbeats 1500000 in
theorem walk (w : World) (most : Nat) (h0 : most < 256) (win : Nat) (h1 : win < 256) (a2 : Option Addr) (len cap : Nat) (xs : Nat → Ac) (hx : Acts w a2 len xs) :
    Calls Try.prog 9 #[.int .u8 (most : Nat), .int .u8 (win : Nat), .slice a2 len cap] w fun e w' => e = .returned (.bool true) ∧ Below w.heap.size w w' := by
  have hmax := hx.max
  have HX : Hid (Acts w a2 len xs) := hx
  obtain ⟨M, hM⟩ : ∃ M, M = 1 + most % 12 := ⟨_, rfl⟩
  obtain ⟨N, hN⟩ : ∃ N, N = 1 + win % 8 := ⟨_, rfl⟩
  have hI0 : Hid (Inv M N .zero) := inv_zero (by omega) (by omega) (by omega) (by omega)
  have HB := fun wx => ws_begin wx most win h0 h1 M N hM hN
  clear hx h0 h1 hM hN
  go_enter Try.func9, Try.ntmps9
  go_wp2_with fail
  refine (awake_any _).mono ?_
  rintro e w1 ⟨rfl, t1⟩
  go_wp2_with fail
  refine (HB _).mono ?_
  rintro e w2 ⟨q, ka, kb, rfl, h2⟩
  have h3 := h2.behind t1
  clear h2 t1 HB
  go_wp2
  go_loopw [8, 9, 10, 11, 12, 13, 14, 15] (fun iv _ _ _ _ _ _ _ wr => ∃ (i ka kb : Nat) (p : Pl), i ≤ len ∧ i ≤ 100 ∧ iv = .int .i64 i ∧ Ws w wr (fun _ => False) q ka kb M N p ∧ Inv M N p ∧ Sz i p) (fun iv _ _ _ _ _ _ _ _ => 100 - (intOf iv).toNat)
  case atStart => exact ⟨0, ka, kb, .zero, by omega, by omega, rfl, h3, hI0.out, ⟨by simp [Pl.zero], by simp [Pl.zero], by simp [Pl.zero], by simp [Pl.zero]⟩⟩
  case round =>
    clear h3 hI0 ka kb
    obtain ⟨i, ka, kb, p, hi, hi2, rfl, h3, inv, sz⟩ := hrel
    by_cases hlt : i < len ∧ i < 100
    · obtain ⟨hlt1, hlt2⟩ := hlt
      have hltI : (i : Int) < len := by omega
      have hltI2 : (i : Int) < 100 := by omega
      obtain ⟨ad, rfl, _, hc⟩ := (HX.out.turned h3.turned).cell (by omega)
      obtain ⟨c0, c1, c2⟩ := hc i hlt1
      obtain ⟨hk256, hnin⟩ := HX.out.lt i hlt1
      clear hc
      generalize xs i = ac at c0 c1 c2 hk256 hnin
      obtain ⟨kd, s, n⟩ := ac
      simp only at c0 c1 c2 hk256 hnin
      have hact := ws_act h3 inv sz (by omega) kd s n hk256
      clear h3 inv sz hnin
      go_wp2_with fail
      refine hact.mono ?_
      rintro e w4 ⟨rfl, ka, kb, p, h4, -, inv, sz⟩
      obtain ⟨cn, p5, i5, s5, hin1, hin2⟩ := again_pair inv sz (by omega) w q ka kb
      have e0 := h4.c0
      have hout := ws_outA h4 inv.xA
      clear hact c0 c1 c2 h4
      go_wp2_with fail
      refine hout.mono ?_
      rintro e w5 ⟨ao, pn, pc, rfl, -, HH⟩
      obtain ⟨h5, tx5, -, -⟩ := HH.out
      obtain ⟨o, ho⟩ : ∃ o : Obj, o = .cells #[.int .u64 4, .int .i64 2, .int .u64 (p.aA : Nat), .slice ao pn pc, .int .u64 (p.nA : Nat)] 45 := ⟨_, rfl⟩
      have t6 : Turned (fun _ => False) w5 (w5.alloc o) := (Turned.refl _ w5).alloc o
      have h6 := h5.more t6 (fun b => b = w5.heap.size) (fun b hb => by rw [hb]; simp)
      obtain ⟨b0, b1, b2, b3, b4⟩ := box5 w5 (.int .u64 4) (.int .i64 2) (.int .u64 (p.aA : Nat)) (.slice ao pn pc) (.int .u64 (p.nA : Nat)) 45
      rw [← ho] at b0 b1 b2 b3 b4
      have h7 := h6.still ((Turned.refl _ (w5.alloc o)).drew)
      have tx7 := (tx5.turned t6).turned ((Turned.refl _ (w5.alloc o)).drew)
      have hcall := hin1 _ _ _ _ _ h7 tx7 (fun b hb => .inl (.inr hb))
      have e1 := h6.c1
      have TX7 : Hid (Tx (w5.alloc o).drew 9 (.slice ao pn pc) (p.xA.take N)) := tx7
      clear hout HH h5 tx5 t6 h6 h7 tx7 hin1 e0
      subst ho
      go_wp2_with fail
      refine wp_region_noPanic ?_
      refine wp_region_held_drew (S := fun wx => wx.cell? ⟨q, 1, none⟩ = some (.pointer (some ⟨kb, 0, none⟩)) ∧ wx.cell? ⟨w5.heap.size, 0, none⟩ = some (.int .u64 4) ∧ wx.cell? ⟨w5.heap.size, 1, none⟩ = some (.int .i64 2) ∧ wx.cell? ⟨w5.heap.size, 2, none⟩ = some (.int .u64 (p.aA : Nat)) ∧ wx.cell? ⟨w5.heap.size, 3, none⟩ = some (.slice ao pn pc) ∧ wx.cell? ⟨w5.heap.size, 4, none⟩ = some (.int .u64 (p.nA : Nat))) (by kernel_rfl) (show _ ∧ _ ∧ _ ∧ _ ∧ _ ∧ _ from ⟨e1, b0, b1, b2, b3, b4⟩) (fun hHeld => ?_)
      refine take_first 0 (v := ?_) rfl (by kernel_rfl) (by kernel_rfl) (by kernel_rfl) (fun _ _ _ h => h) (Or.inl ⟨by rfl, by intro wx hSw; (try dsimp only at hSw); obtain ⟨hSw1, hSw2, hSw3, hSw4, hSw5, hSw6⟩ := hSw; go_simp; try with_reducible rfl⟩) (by assumption) ?_
      (try simp only [Act.put, List.setIfInBounds_toArray, List.set_cons_zero, List.set_cons_succ])
      refine take_first 1 (v := ?_) rfl (by kernel_rfl) (by kernel_rfl) (by kernel_rfl) (fun _ _ _ h => h) (Or.inl ⟨by rfl, by intro wx hSw; (try dsimp only at hSw); obtain ⟨hSw1, hSw2, hSw3, hSw4, hSw5, hSw6⟩ := hSw; go_simp; try with_reducible rfl⟩) (by assumption) ?_
      (try simp only [Act.put, List.setIfInBounds_toArray, List.set_cons_zero, List.set_cons_succ])
      refine take_first 2 (v := ?_) rfl (by kernel_rfl) (by kernel_rfl) (by kernel_rfl) (fun _ _ _ h => h) (Or.inl ⟨by rfl, by intro wx hSw; (try dsimp only at hSw); obtain ⟨hSw1, hSw2, hSw3, hSw4, hSw5, hSw6⟩ := hSw; go_simp; try with_reducible rfl⟩) (by assumption) ?_
      (try simp only [Act.put, List.setIfInBounds_toArray, List.set_cons_zero, List.set_cons_succ])
      refine take_first 3 (v := ?_) rfl (by kernel_rfl) (by kernel_rfl) (by kernel_rfl) (fun _ _ _ h => h) (Or.inl ⟨by rfl, by intro wx hSw; (try dsimp only at hSw); obtain ⟨hSw1, hSw2, hSw3, hSw4, hSw5, hSw6⟩ := hSw; go_simp; try with_reducible rfl⟩) (by assumption) ?_
      (try simp only [Act.put, List.setIfInBounds_toArray, List.set_cons_zero, List.set_cons_succ])
      refine take_first 4 (v := ?_) rfl (by kernel_rfl) (by kernel_rfl) (by kernel_rfl) (fun _ _ _ h => h) (Or.inl ⟨by rfl, by intro wx hSw; (try dsimp only at hSw); obtain ⟨hSw1, hSw2, hSw3, hSw4, hSw5, hSw6⟩ := hSw; go_simp; try with_reducible rfl⟩) (by assumption) ?_
      (try simp only [Act.put, List.setIfInBounds_toArray, List.set_cons_zero, List.set_cons_succ])
      refine comes_up 5 rfl (by kernel_rfl) (fun K hK => ?_)
      go_simp
      refine hcall.mono ?_
      rintro e w8 ⟨rfl, HH⟩
      have TX8 : Hid (Tx w8 9 (.slice ao pn pc) (p.xA.take N)) := tx_kep TX7.out HH.out.2 (fun b hb => .inl (.inr hb))
      have hB := HH.out.2.2 w5.heap.size (.inr rfl)
      have d0 := (cell_block hB).trans b0
      have d1 := (cell_block hB).trans b1
      have d2 := (cell_block hB).trans b2
      have d3 := (cell_block hB).trans b3
      have d4 := (cell_block hB).trans b4
      have f1 := HH.out.1.c1
      have hgot := ws_gotB HH.out.1
      have hackd := ws_ackedB HH.out.1
      have h9 := HH.out.1.still ((Turned.refl _ w8).drew)
      have hcall2 := hin2 _ _ _ _ _ h9 (TX8.out.turned ((Turned.refl _ w8).drew)) (fun b hb => .inl (.inr hb))
      clear TX7 HH hB b0 b1 b2 b3 b4 e1 h9 hcall hin2
      go_wp2_with fail
      refine hK.out _ _ ⟨f1, d0, d1, d2, d3, d4⟩ (fun hHeld => ?_)
      clear hK K
      (try simp only [Act.put, List.setIfInBounds_toArray, List.set_cons_zero, List.set_cons_succ])
      refine take_first 6 (v := ?_) rfl (by kernel_rfl) (by kernel_rfl) (by kernel_rfl) (fun _ _ _ h => h) (Or.inl ⟨by rfl, by intro wx hSw; (try dsimp only at hSw); obtain ⟨hSw1, hSw2, hSw3, hSw4, hSw5, hSw6⟩ := hSw; go_simp; try with_reducible rfl⟩) (by assumption) ?_
      (try simp only [Act.put, List.setIfInBounds_toArray, List.set_cons_zero, List.set_cons_succ])
      refine take_first 7 (v := ?_) rfl (by kernel_rfl) (by kernel_rfl) (by kernel_rfl) (fun _ _ _ h => h) (Or.inl ⟨by rfl, by intro wx hSw; (try dsimp only at hSw); obtain ⟨hSw1, hSw2, hSw3, hSw4, hSw5, hSw6⟩ := hSw; go_simp; try with_reducible rfl⟩) (by assumption) ?_
      (try simp only [Act.put, List.setIfInBounds_toArray, List.set_cons_zero, List.set_cons_succ])
      refine take_first 8 (v := ?_) rfl (by kernel_rfl) (by kernel_rfl) (by kernel_rfl) (fun _ _ _ h => h) (Or.inl ⟨by rfl, by intro wx hSw; (try dsimp only at hSw); obtain ⟨hSw1, hSw2, hSw3, hSw4, hSw5, hSw6⟩ := hSw; go_simp; try with_reducible rfl⟩) (by assumption) ?_
      (try simp only [Act.put, List.setIfInBounds_toArray, List.set_cons_zero, List.set_cons_succ])
      refine take_first 9 (v := ?_) rfl (by kernel_rfl) (by kernel_rfl) (by kernel_rfl) (fun _ _ _ h => h) (Or.inl ⟨by rfl, by intro wx hSw; (try dsimp only at hSw); obtain ⟨hSw1, hSw2, hSw3, hSw4, hSw5, hSw6⟩ := hSw; go_simp; try with_reducible rfl⟩) (by assumption) ?_
      (try simp only [Act.put, List.setIfInBounds_toArray, List.set_cons_zero, List.set_cons_succ])
      refine take_first 10 (v := ?_) rfl (by kernel_rfl) (by kernel_rfl) (by kernel_rfl) (fun _ _ _ h => h) (Or.inl ⟨by rfl, by intro wx hSw; (try dsimp only at hSw); obtain ⟨hSw1, hSw2, hSw3, hSw4, hSw5, hSw6⟩ := hSw; go_simp; try with_reducible rfl⟩) (by assumption) ?_
      (try simp only [Act.put, List.setIfInBounds_toArray, List.set_cons_zero, List.set_cons_succ])
      refine wpAnyH_done (by kernel_rfl) ?_ _
      refine NoPanic.normal ?_
      go_wp2_with fail
      refine hgot.mono ?_
      rintro e w9 ⟨rfl, rfl⟩
      go_wp2_with fail
      refine hackd.mono ?_
      rintro e w9 ⟨rfl, rfl⟩
      clear hgot hackd TX8
      go_wp2_with fail
      refine wp_region_noPanic ?_
      refine wp_region_held_drew (S := fun wx => wx.cell? ⟨q, 1, none⟩ = some (.pointer (some ⟨kb, 0, none⟩)) ∧ wx.cell? ⟨w5.heap.size, 0, none⟩ = some (.int .u64 4) ∧ wx.cell? ⟨w5.heap.size, 1, none⟩ = some (.int .i64 2) ∧ wx.cell? ⟨w5.heap.size, 2, none⟩ = some (.int .u64 (p.aA : Nat)) ∧ wx.cell? ⟨w5.heap.size, 3, none⟩ = some (.slice ao pn pc) ∧ wx.cell? ⟨w5.heap.size, 4, none⟩ = some (.int .u64 (p.nA : Nat))) (by kernel_rfl) (show _ ∧ _ ∧ _ ∧ _ ∧ _ ∧ _ from ⟨f1, d0, d1, d2, d3, d4⟩) (fun hHeld => ?_)
      refine take_first 0 (v := ?_) rfl (by kernel_rfl) (by kernel_rfl) (by kernel_rfl) (fun _ _ _ h => h) (Or.inl ⟨by rfl, by intro wx hSw; (try dsimp only at hSw); obtain ⟨hSw1, hSw2, hSw3, hSw4, hSw5, hSw6⟩ := hSw; go_simp; try with_reducible rfl⟩) (by assumption) ?_
      (try simp only [Act.put, List.setIfInBounds_toArray, List.set_cons_zero, List.set_cons_succ])
      refine take_first 1 (v := ?_) rfl (by kernel_rfl) (by kernel_rfl) (by kernel_rfl) (fun _ _ _ h => h) (Or.inl ⟨by rfl, by intro wx hSw; (try dsimp only at hSw); obtain ⟨hSw1, hSw2, hSw3, hSw4, hSw5, hSw6⟩ := hSw; go_simp; try with_reducible rfl⟩) (by assumption) ?_
      (try simp only [Act.put, List.setIfInBounds_toArray, List.set_cons_zero, List.set_cons_succ])
      refine take_first 2 (v := ?_) rfl (by kernel_rfl) (by kernel_rfl) (by kernel_rfl) (fun _ _ _ h => h) (Or.inl ⟨by rfl, by intro wx hSw; (try dsimp only at hSw); obtain ⟨hSw1, hSw2, hSw3, hSw4, hSw5, hSw6⟩ := hSw; go_simp; try with_reducible rfl⟩) (by assumption) ?_
      (try simp only [Act.put, List.setIfInBounds_toArray, List.set_cons_zero, List.set_cons_succ])
      refine take_first 3 (v := ?_) rfl (by kernel_rfl) (by kernel_rfl) (by kernel_rfl) (fun _ _ _ h => h) (Or.inl ⟨by rfl, by intro wx hSw; (try dsimp only at hSw); obtain ⟨hSw1, hSw2, hSw3, hSw4, hSw5, hSw6⟩ := hSw; go_simp; try with_reducible rfl⟩) (by assumption) ?_
      (try simp only [Act.put, List.setIfInBounds_toArray, List.set_cons_zero, List.set_cons_succ])
      refine take_first 4 (v := ?_) rfl (by kernel_rfl) (by kernel_rfl) (by kernel_rfl) (fun _ _ _ h => h) (Or.inl ⟨by rfl, by intro wx hSw; (try dsimp only at hSw); obtain ⟨hSw1, hSw2, hSw3, hSw4, hSw5, hSw6⟩ := hSw; go_simp; try with_reducible rfl⟩) (by assumption) ?_
      (try simp only [Act.put, List.setIfInBounds_toArray, List.set_cons_zero, List.set_cons_succ])
      refine comes_up 5 rfl (by kernel_rfl) (fun K hK => ?_)
      go_simp
      refine hcall2.mono ?_
      rintro e w10 ⟨rfl, HH⟩
      have hB : w10.heap[w5.heap.size]? = w8.heap[w5.heap.size]? := HH.out.2.2 w5.heap.size (.inr rfl)
      have g0 := (cell_block hB).trans d0
      have g1 := (cell_block hB).trans d1
      have g2 := (cell_block hB).trans d2
      have g3 := (cell_block hB).trans d3
      have g4 := (cell_block hB).trans d4
      have k1 := HH.out.1.c1
      have hgot := ws_gotB HH.out.1
      have hackd := ws_ackedB HH.out.1
      have h11 := HH.out.1.less (fun _ => False) (fun _ f => f.elim)
      have H11 : Hid (Ws w w10 (fun _ => False) q ka kb M N p5) := h11
      clear HH hB d0 d1 d2 d3 d4 f1 h11 hcall2
      go_wp2_with fail
      refine hK.out _ _ ⟨k1, g0, g1, g2, g3, g4⟩ (fun hHeld => ?_)
      clear hK K
      (try simp only [Act.put, List.setIfInBounds_toArray, List.set_cons_zero, List.set_cons_succ])
      refine take_first 6 (v := ?_) rfl (by kernel_rfl) (by kernel_rfl) (by kernel_rfl) (fun _ _ _ h => h) (Or.inl ⟨by rfl, by intro wx hSw; (try dsimp only at hSw); obtain ⟨hSw1, hSw2, hSw3, hSw4, hSw5, hSw6⟩ := hSw; go_simp; try with_reducible rfl⟩) (by assumption) ?_
      (try simp only [Act.put, List.setIfInBounds_toArray, List.set_cons_zero, List.set_cons_succ])
      refine take_first 7 (v := ?_) rfl (by kernel_rfl) (by kernel_rfl) (by kernel_rfl) (fun _ _ _ h => h) (Or.inl ⟨by rfl, by intro wx hSw; (try dsimp only at hSw); obtain ⟨hSw1, hSw2, hSw3, hSw4, hSw5, hSw6⟩ := hSw; go_simp; try with_reducible rfl⟩) (by assumption) ?_
      (try simp only [Act.put, List.setIfInBounds_toArray, List.set_cons_zero, List.set_cons_succ])
      refine take_first 8 (v := ?_) rfl (by kernel_rfl) (by kernel_rfl) (by kernel_rfl) (fun _ _ _ h => h) (Or.inl ⟨by rfl, by intro wx hSw; (try dsimp only at hSw); obtain ⟨hSw1, hSw2, hSw3, hSw4, hSw5, hSw6⟩ := hSw; go_simp; try with_reducible rfl⟩) (by assumption) ?_
      (try simp only [Act.put, List.setIfInBounds_toArray, List.set_cons_zero, List.set_cons_succ])
      refine take_first 9 (v := ?_) rfl (by kernel_rfl) (by kernel_rfl) (by kernel_rfl) (fun _ _ _ h => h) (Or.inl ⟨by rfl, by intro wx hSw; (try dsimp only at hSw); obtain ⟨hSw1, hSw2, hSw3, hSw4, hSw5, hSw6⟩ := hSw; go_simp; try with_reducible rfl⟩) (by assumption) ?_
      (try simp only [Act.put, List.setIfInBounds_toArray, List.set_cons_zero, List.set_cons_succ])
      refine take_first 10 (v := ?_) rfl (by kernel_rfl) (by kernel_rfl) (by kernel_rfl) (fun _ _ _ h => h) (Or.inl ⟨by rfl, by intro wx hSw; (try dsimp only at hSw); obtain ⟨hSw1, hSw2, hSw3, hSw4, hSw5, hSw6⟩ := hSw; go_simp; try with_reducible rfl⟩) (by assumption) ?_
      (try simp only [Act.put, List.setIfInBounds_toArray, List.set_cons_zero, List.set_cons_succ])
      refine wpAnyH_done (by kernel_rfl) ?_ _
      refine NoPanic.normal ?_
      clear g0 g1 g2 g3 g4
      go_wp2_with fail
      refine hgot.mono ?_
      rintro e w9 ⟨rfl, rfl⟩
      go_wp2_with fail
      refine hackd.mono ?_
      rintro e w9 ⟨rfl, rfl⟩
      clear hgot hackd
      have hcn : decide ((cn : Int) < 0) = false := by simp
      go_wp2
      go_roundw
      case rel => first | exact ⟨i + 1, ka, kb, p5, by omega, by omega, by go_num, H11.out, i5, s5⟩ | ((repeat apply Exists.intro); exact ⟨⟨i + 1, ka, kb, p5, by omega, by omega, by go_num, H11.out, i5, s5⟩, rfl⟩)
      case measure => simp [intOf]; omega
    · have hrt := ws_right h3 inv ⟨by have := sz.pA; omega, by have := sz.pB; omega⟩
      have H3 : Hid (Ws w wr (fun _ => False) q ka kb M N p) := h3
      clear h3 inv sz
      by_cases hl1 : (i : Int) < len
      · have hl2 : ¬ (i : Int) < 100 := by omega
        go_wp2_with fail
        refine hrt.mono ?_
        rintro e w5 ⟨rfl, m5, rfl⟩
        go_wp2
        go_ret
        exact ⟨rfl, (H3.out.still ((Turned.refl _ _).drewN m5)).below⟩
      · go_wp2_with fail
        refine hrt.mono ?_
        rintro e w5 ⟨rfl, m5, rfl⟩
        go_wp2
        go_ret
        exact ⟨rfl, (H3.out.still ((Turned.refl _ _).drewN m5)).below⟩

set_option maxRecDepth 100000 in
theorem lifted (os : Os) (started : os.Started) (H : Type) (enc : TypeId × Value → H) :
    ReturnsInHanded {} Try.checked os 9 .any (Rows.linkAgainSpec.pre6 enc Try.prog Try.f9 Rows.linkAgainRow.domain false) (Rows.linkAgainSpec.post enc Try.prog Try.f9 false true false false) := by
  refine returnsInHanded_of_change (C := Try.checked) own started (by kernel_rfl) Try.func9
    (ChangeSpec.witness6 (enc := enc) (C := Try.checked) false ⟨#[], #[.int .u8 0, .int .u8 0, .slice none 0 0], []⟩ 9 (by kernel_rfl) (by kernel_rfl) (by kernel_rfl) (by kernel_rfl)) ?_
  intro W base args ds gs before hval0 hW hcnd _
  have hval : ∀ (j : Nat) t v, Try.f9.params[j]? = some t → args[j]? = some v → Value.okWide Try.prog W .any base t v := hval0
  have hW' := hW
  obtain ⟨p, q, hA0, hV, rfl, hfz, hnd⟩ := hW
  have hA : DataW.TrodAll enc Try.prog W 0 (fun _ => true) true Try.f9.params.toList args.toList ds p := hA0
  rw [Try.params9] at hA hval
  obtain ⟨v0, vs0, d0, ds0, p0, q0, hargs0, rfl, rfl, h0, r0⟩ := trodAll_cons hA
  obtain ⟨v1, vs1, d1, ds1, p1, q1, hargs1, rfl, rfl, h1, r1⟩ := trodAll_cons r0
  obtain ⟨v2, vs2, d2, ds2, p2, q2, hargs2, rfl, rfl, h2, r2⟩ := trodAll_cons r1
  obtain ⟨rfl, rfl, rfl⟩ := trodAll_nil r2
  obtain rfl : args = #[v0, v1, v2] := by cases args; simp_all
  obtain ⟨rfl, rfl⟩ := trodVars_none hV
  obtain ⟨a0, rfl, rfl, rfl, w0⟩ := open_int Try.underlying5 (hval 0 5 v0 rfl rfl) h0
  obtain ⟨a1, rfl, rfl, rfl, w1⟩ := open_int Try.underlying5 (hval 1 5 v1 rfl rfl) h1
  obtain ⟨a2, len2, cap2, rfl⟩ := okWide_slice Try.underlying22 (hval 2 22 v2 rfl rfl)
  have k2 := h2
  have lt2 : ∀ x ∈ p2, x.block < W.heap.size := by obtain ⟨m, hm⟩ := k2; exact DataW.trod_lt m _ _ _ hm
  obtain ⟨xs2, hx2⟩ := open_acts h2
  clear hA0 hval0
  obtain ⟨n0, rfl, hn0⟩ := u8_of_wf w0
  obtain ⟨n1, rfl, hn1⟩ := u8_of_wf w1
  refine (walk W n0 hn0 n1 hn1 a2 len2 cap2 xs2 hx2).mono fun e W' ⟨he, bel⟩ => ?_
  subst he
  exact ⟨_, rfl, _, _, _, [], _, [], hW', trodAll_mk1 (shut_bool Try.underlying4 _), (trodAll_cons_mk (shut_int Try.underlying5 w0) (trodAll_cons_mk (shut_int Try.underlying5 w1) (trodAll_cons_mk (Below.trod laidOut (by kernel_rfl) (of_decide_eq_true (by kernel_rfl)) k2 bel lt2) trodAll_mk0))), rfl, bel.frame _, fun h => by cases h⟩

theorem over : Rows.linkAgainRow.holds Try.pinned (OpenSpec.ofChange Rows.linkAgainSpec) :=
  OpenClaim.holds_of_wide 9 Try.f9 rfl rfl rfl rfl rfl rfl rfl ⟨rfl, rfl, rfl, rfl, rfl⟩ rfl rfl rfl rfl rfl (by kernel_rfl) Try.func9 (by kernel_rfl)
    (of_decide_eq_true (by kernel_rfl)) (by unfold Func.isWrapper; first | (rw [if_pos (by decide +kernel)]; kernel_rfl) | (rw [if_neg (by decide +kernel)]; exact ⟨rfl, rfl⟩))
    (fun os started H enc _ => lifted os started H enc)

end Go.Proofs.Ythobbnmdpkginaa.linkAgain
namespace Go.Proofs.Ythobbnmdpkginaa
theorem linkAgain_holds : Rows.LinkAgainSaid := linkAgain.over
#print axioms linkAgain_holds
end Go.Proofs.Ythobbnmdpkginaa
