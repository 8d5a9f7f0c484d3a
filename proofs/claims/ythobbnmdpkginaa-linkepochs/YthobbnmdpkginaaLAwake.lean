/-
  The document's example of two ends.
-/
import Derived.Test.YthobbnmdpkginaaLWs
namespace Go.Proofs.Ythobbnmdpkginaa
open Go.RowKit
set_option linter.unusedVariables false
set_option linter.unusedSimpArgs false

theorem ws_act {w0 w : World} {Z : Nat → Prop} {q ka kb M N k : Nat} {p : Pl} (h : Ws w0 w Z q ka kb M N p) (i : Inv M N p) (sz : Sz k p) (hk : k ≤ 900) (kd : Nat) (s : ByteArray) (n : Int) (hkd : kd < 256) :
    Calls Try.prog 12 #[.pointer (some ⟨q, 0, none⟩), .agg #[.int .u8 (kd : Nat), .string s, .int .i64 n]] w fun e w' => e = .returned (.tuple #[]) ∧ ∃ ka' kb' p', Ws w0 w' Z q ka' kb' M N p' ∧ Kep Z w w' ∧ Inv M N p' ∧ Sz (k + 1) p' := by
  obtain ⟨col, d, h1, rfl, rfl, o, hZ⟩ := h
  refine (act_any h1 i sz hk kd s n hkd).mono ?_
  rintro e w' ⟨rfl, p', n1, i1, s1⟩
  obtain ⟨ka', kb', h2, k2⟩ := nx_ws h1 o hZ n1
  exact ⟨rfl, ka', kb', p', h2, k2, i1, s1⟩

def xv : Value := .string ⟨#[120]⟩
def P1 : Pl := ⟨0, [.string ⟨#[120]⟩], 0, [], 0, [], 0, [], [], [], [], [], [], []⟩
def P2 : Pl := ⟨0, [.string ⟨#[120]⟩], 0, [], 0, [], 1, [.string ⟨#[120]⟩], [], [], [], [], [], []⟩
def P3 : Pl := ⟨1, [], 0, [], 0, [], 1, [.string ⟨#[120]⟩], [], [], [], [], [], []⟩
def P4 : Pl := ⟨1, [], 0, [], 0, [], 1, [], [], [], [], [], [], []⟩
section
variable {w0 w : World} {Z : Nat → Prop} {q ka kb : Nat}
theorem aw_begin (w : World) : Calls Try.prog 11 #[.int .u8 3, .int .u8 2] w fun e w' => ∃ q ka kb, e = .returned (.pointer (some ⟨q, 0, none⟩)) ∧ Ws w w' (fun _ => False) q ka kb 4 3 .zero := ws_begin w 3 2 (by omega) (by omega) 4 3 rfl rfl
theorem aw_put (h : Ws w0 w Z q ka kb 4 3 .zero) : Calls Try.prog 27 #[.pointer (some ⟨ka, 0, none⟩), .string ⟨#[120]⟩] w fun e w' => e = .returned (.int .i64 0) ∧ Hid (Ws w0 w' Z q ka kb 4 3 P1) :=
  (ws_putA h (by decide) _ (one_string _)).mono (fun e w' ⟨h1, h2⟩ => ⟨h1, h2.out.1⟩)
theorem aw_out (h : Ws w0 w Z q ka kb 4 3 P1) : Calls Try.prog 15 #[.pointer (some ⟨ka, 0, none⟩)] w fun e w' => ∃ ao cap, e = .returned (.agg #[.int .u64 4, .int .i64 2, .int .u64 0, .slice ao 1 cap, .int .u64 0]) ∧ Hid (Ws w0 w' (fun b => (Value.slice ao 1 cap).ownBlock = some b) q ka kb 4 3 P1 ∧ Tx w' 9 (.slice ao 1 cap) [.string ⟨#[120]⟩]) :=
  (ws_outA h (by intro x hx; rw [List.mem_singleton.1 hx]; exact kd9 _)).mono (by
    rintro e w' ⟨ao, n, cap, rfl, hn, HH⟩
    obtain rfl : n = 1 := hn.out
    exact ⟨ao, cap, rfl, HH.out.1.less _ (fun b hb => .inr hb), HH.out.2.1⟩)
theorem aw_in {ao : Option Addr} {cap : Nat} (h : Hid (Ws w0 w (fun b => (Value.slice ao 1 cap).ownBlock = some b) q ka kb 4 3 P1 ∧ Tx w 9 (.slice ao 1 cap) [.string ⟨#[120]⟩])) : Calls Try.prog 14 #[.pointer (some ⟨kb, 0, none⟩), .agg #[.int .u64 4, .int .i64 2, .int .u64 0, .slice ao 1 cap, .int .u64 0]] w fun e w' => e = .returned (.tuple #[.int .i64 1, .int .i64 0]) ∧ Hid (Ws w0 w' (fun _ => False) q ka kb 4 3 P2) :=
  (ws_inB h.out.1 0 (by decide) (by decide) ao 1 cap _ h.out.2 (fun b hb => hb) 0 (by omega) (by omega) 1 rfl).mono (fun e w' ⟨h1, h2⟩ => ⟨h1, h2.out.1.less _ (fun b hb => hb.elim)⟩)
theorem aw_out2 (h : Ws w0 w Z q ka kb 4 3 P2) : Calls Try.prog 17 #[.pointer (some ⟨kb, 0, none⟩)] w fun e w' => ∃ ao cap, e = .returned (.agg #[.int .u64 4, .int .i64 2, .int .u64 0, .slice ao 0 cap, .int .u64 1]) ∧ Hid (Ws w0 w' (fun b => (Value.slice ao 0 cap).ownBlock = some b) q ka kb 4 3 P2 ∧ Tx w' 3 (.slice ao 0 cap) []) :=
  (ws_outB h (by intro x hx; cases hx)).mono (by
    rintro e w' ⟨ao, n, cap, rfl, hn, HH⟩
    obtain rfl : n = 0 := hn.out
    exact ⟨ao, cap, rfl, HH.out.1.less _ (fun b hb => .inr hb), HH.out.2.1⟩)
theorem aw_in2 {ao : Option Addr} {cap : Nat} (h : Hid (Ws w0 w (fun b => (Value.slice ao 0 cap).ownBlock = some b) q ka kb 4 3 P2 ∧ Tx w 3 (.slice ao 0 cap) [])) : Calls Try.prog 16 #[.pointer (some ⟨ka, 0, none⟩), .agg #[.int .u64 4, .int .i64 2, .int .u64 0, .slice ao 0 cap, .int .u64 1]] w fun e w' => e = .returned (.tuple #[.int .i64 0, .int .i64 0]) ∧ Hid (Ws w0 w' (fun _ => False) q ka kb 4 3 P3) :=
  (ws_inA h.out.1 0 (by decide) (by decide) ao 0 cap _ h.out.2 (fun b hb => hb) 1 (by decide) (by omega) 0 rfl).mono (fun e w' ⟨h1, h2⟩ => ⟨h1, h2.out.1.less _ (fun b hb => hb.elim)⟩)
theorem aw_take (h : Ws w0 w Z q ka kb 4 3 P3) : Calls Try.prog 29 #[.pointer (some ⟨kb, 0, none⟩)] w fun e w' => e = .returned (.tuple #[.string ⟨#[120]⟩, .int .i64 0]) ∧ Hid (Ws w0 w' Z q ka kb 4 3 P4) :=
  (ws_takeB h rfl).mono (fun e w' ⟨h1, h2⟩ => ⟨h1, h2.out.1⟩)
theorem aw_acked (h : Ws w0 w Z q ka kb 4 3 P4) : Calls Try.prog 21 #[.pointer (some ⟨ka, 0, none⟩)] w fun e w' => e = .returned (.int .u64 1) ∧ w = w' := ws_ackedA h
end
set_option maxRecDepth 10000 in
set_option maxHeartbeats 1000000 in
theorem awake_any (w : World) : Calls Try.prog 10 #[] w fun e w' => e = .returned (.bool true) ∧ Turned (fun _ => False) w w' := by
  go_enter Try.func10, Try.ntmps10
  go_wp2_with fail
  refine (aw_begin _).mono ?_
  rintro e w1 ⟨q, ka, kb, rfl, h1⟩
  have c0 := h1.c0
  have H1 : Hid (Ws w w1 (fun _ => False) q ka kb 4 3 .zero) := h1
  clear h1
  go_wp2_with fail
  refine (aw_put H1.out).mono ?_
  rintro e w2 ⟨rfl, H2⟩
  clear H1 c0
  have c0 := H2.out.c0
  have c1 := H2.out.c1
  go_wp2_with fail
  refine wp_region_noPanic ?_
  refine wp_region_held_drew (S := fun wx => wx.cell? ⟨q, 0, none⟩ = some (.pointer (some ⟨ka, 0, none⟩)) ∧ wx.cell? ⟨q, 1, none⟩ = some (.pointer (some ⟨kb, 0, none⟩))) (by kernel_rfl) (show _ ∧ _ from ⟨c0, c1⟩) (fun hHeld => ?_)
  refine take_first 0 (v := ?_) rfl (by kernel_rfl) (by kernel_rfl) (by kernel_rfl) (fun _ _ _ h => h) (Or.inl ⟨by rfl, by intro wx hSw; (try dsimp only at hSw); obtain ⟨hSw1, hSw2⟩ := hSw; go_simp; try with_reducible rfl⟩) (by assumption) ?_
  (try simp only [Act.put, List.setIfInBounds_toArray, List.set_cons_zero, List.set_cons_succ])
  refine take_first 1 (v := ?_) rfl (by kernel_rfl) (by kernel_rfl) (by kernel_rfl) (fun _ _ _ h => h) (Or.inl ⟨by rfl, by intro wx hSw; (try dsimp only at hSw); obtain ⟨hSw1, hSw2⟩ := hSw; go_simp; try with_reducible rfl⟩) (by assumption) ?_
  (try simp only [Act.put, List.setIfInBounds_toArray, List.set_cons_zero, List.set_cons_succ])
  refine take_first 2 (v := ?_) rfl (by kernel_rfl) (by kernel_rfl) (by kernel_rfl) (fun _ _ _ h => h) (Or.inl ⟨by rfl, by intro wx hSw; (try dsimp only at hSw); obtain ⟨hSw1, hSw2⟩ := hSw; go_simp; try with_reducible rfl⟩) (by assumption) ?_
  (try simp only [Act.put, List.setIfInBounds_toArray, List.set_cons_zero, List.set_cons_succ])
  refine take_first 3 (v := ?_) rfl (by kernel_rfl) (by kernel_rfl) (by kernel_rfl) (fun _ _ _ h => h) (Or.inl ⟨by rfl, by intro wx hSw; (try dsimp only at hSw); obtain ⟨hSw1, hSw2⟩ := hSw; go_simp; try with_reducible rfl⟩) (by assumption) ?_
  (try simp only [Act.put, List.setIfInBounds_toArray, List.set_cons_zero, List.set_cons_succ])
  refine take_first 4 (v := ?_) rfl (by kernel_rfl) (by kernel_rfl) (by kernel_rfl) (fun _ _ _ h => h) (Or.inl ⟨by rfl, by intro wx hSw; (try dsimp only at hSw); obtain ⟨hSw1, hSw2⟩ := hSw; go_simp; try with_reducible rfl⟩) (by assumption) ?_
  (try simp only [Act.put, List.setIfInBounds_toArray, List.set_cons_zero, List.set_cons_succ])
  refine take_first 5 (v := ?_) rfl (by kernel_rfl) (by kernel_rfl) (by kernel_rfl) (fun _ _ _ h => h) (Or.inl ⟨by rfl, by intro wx hSw; (try dsimp only at hSw); obtain ⟨hSw1, hSw2⟩ := hSw; go_simp; try with_reducible rfl⟩) (by assumption) ?_
  (try simp only [Act.put, List.setIfInBounds_toArray, List.set_cons_zero, List.set_cons_succ])
  refine take_first 6 (v := ?_) rfl (by kernel_rfl) (by kernel_rfl) (by kernel_rfl) (fun _ _ _ h => h) (Or.inl ⟨by rfl, by intro wx hSw; (try dsimp only at hSw); obtain ⟨hSw1, hSw2⟩ := hSw; go_simp; try with_reducible rfl⟩) (by assumption) ?_
  (try simp only [Act.put, List.setIfInBounds_toArray, List.set_cons_zero, List.set_cons_succ])
  refine take_first 7 (v := ?_) rfl (by kernel_rfl) (by kernel_rfl) (by kernel_rfl) (fun _ _ _ h => h) (Or.inl ⟨by rfl, by intro wx hSw; (try dsimp only at hSw); obtain ⟨hSw1, hSw2⟩ := hSw; go_simp; try with_reducible rfl⟩) (by assumption) ?_
  (try simp only [Act.put, List.setIfInBounds_toArray, List.set_cons_zero, List.set_cons_succ])
  refine comes_up 8 rfl (by kernel_rfl) (fun K hK => ?_)
  go_simp
  refine (aw_out (H2.out.still (Turned.drew (Turned.refl _ w2)))).mono ?_
  rintro e w3 ⟨ao, cap, rfl, H3⟩
  have d0 := H3.out.1.c0
  have d1 := H3.out.1.c1
  clear H2 c0 c1
  go_wp2_with fail
  refine hK.out _ _ ⟨d0, d1⟩ (fun hHeld => ?_)
  clear hK K
  (try simp only [Act.put, List.setIfInBounds_toArray, List.set_cons_zero, List.set_cons_succ])
  refine comes_up 9 rfl (by kernel_rfl) (fun K hK => ?_)
  go_simp
  refine (aw_in H3).mono ?_
  rintro e w4 ⟨rfl, H4⟩
  have c0 := H4.out.c0
  have c1 := H4.out.c1
  clear H3 d0 d1
  go_wp2_with fail
  refine hK.out _ _ ⟨c0, c1⟩ (fun hHeld => ?_)
  clear hK K
  (try simp only [Act.put, List.setIfInBounds_toArray, List.set_cons_zero, List.set_cons_succ])
  refine take_first 10 (v := ?_) rfl (by kernel_rfl) (by kernel_rfl) (by kernel_rfl) (fun _ _ _ h => h) (Or.inl ⟨by rfl, by intro wx hSw; (try dsimp only at hSw); obtain ⟨hSw1, hSw2⟩ := hSw; go_simp; try with_reducible rfl⟩) (by assumption) ?_
  (try simp only [Act.put, List.setIfInBounds_toArray, List.set_cons_zero, List.set_cons_succ])
  refine take_first 11 (v := ?_) rfl (by kernel_rfl) (by kernel_rfl) (by kernel_rfl) (fun _ _ _ h => h) (Or.inl ⟨by rfl, by intro wx hSw; (try dsimp only at hSw); obtain ⟨hSw1, hSw2⟩ := hSw; go_simp; try with_reducible rfl⟩) (by assumption) ?_
  (try simp only [Act.put, List.setIfInBounds_toArray, List.set_cons_zero, List.set_cons_succ])
  refine take_first 12 (v := ?_) rfl (by kernel_rfl) (by kernel_rfl) (by kernel_rfl) (fun _ _ _ h => h) (Or.inl ⟨by rfl, by intro wx hSw; (try dsimp only at hSw); obtain ⟨hSw1, hSw2⟩ := hSw; go_simp; try with_reducible rfl⟩) (by assumption) ?_
  (try simp only [Act.put, List.setIfInBounds_toArray, List.set_cons_zero, List.set_cons_succ])
  refine take_first 13 (v := ?_) rfl (by kernel_rfl) (by kernel_rfl) (by kernel_rfl) (fun _ _ _ h => h) (Or.inl ⟨by rfl, by intro wx hSw; (try dsimp only at hSw); obtain ⟨hSw1, hSw2⟩ := hSw; go_simp; try with_reducible rfl⟩) (by assumption) ?_
  (try simp only [Act.put, List.setIfInBounds_toArray, List.set_cons_zero, List.set_cons_succ])
  refine take_first 14 (v := ?_) rfl (by kernel_rfl) (by kernel_rfl) (by kernel_rfl) (fun _ _ _ h => h) (Or.inl ⟨by rfl, by intro wx hSw; (try dsimp only at hSw); obtain ⟨hSw1, hSw2⟩ := hSw; go_simp; try with_reducible rfl⟩) (by assumption) ?_
  (try simp only [Act.put, List.setIfInBounds_toArray, List.set_cons_zero, List.set_cons_succ])
  refine wpAnyH_done (by kernel_rfl) ?_ _
  refine NoPanic.normal ?_
  go_wp2_with fail
  refine wp_region_noPanic ?_
  refine wp_region_held_drew (S := fun wx => wx.cell? ⟨q, 0, none⟩ = some (.pointer (some ⟨ka, 0, none⟩)) ∧ wx.cell? ⟨q, 1, none⟩ = some (.pointer (some ⟨kb, 0, none⟩))) (by kernel_rfl) (show _ ∧ _ from ⟨c0, c1⟩) (fun hHeld => ?_)
  refine take_first 0 (v := ?_) rfl (by kernel_rfl) (by kernel_rfl) (by kernel_rfl) (fun _ _ _ h => h) (Or.inl ⟨by rfl, by intro wx hSw; (try dsimp only at hSw); obtain ⟨hSw1, hSw2⟩ := hSw; go_simp; try with_reducible rfl⟩) (by assumption) ?_
  (try simp only [Act.put, List.setIfInBounds_toArray, List.set_cons_zero, List.set_cons_succ])
  refine take_first 1 (v := ?_) rfl (by kernel_rfl) (by kernel_rfl) (by kernel_rfl) (fun _ _ _ h => h) (Or.inl ⟨by rfl, by intro wx hSw; (try dsimp only at hSw); obtain ⟨hSw1, hSw2⟩ := hSw; go_simp; try with_reducible rfl⟩) (by assumption) ?_
  (try simp only [Act.put, List.setIfInBounds_toArray, List.set_cons_zero, List.set_cons_succ])
  refine take_first 2 (v := ?_) rfl (by kernel_rfl) (by kernel_rfl) (by kernel_rfl) (fun _ _ _ h => h) (Or.inl ⟨by rfl, by intro wx hSw; (try dsimp only at hSw); obtain ⟨hSw1, hSw2⟩ := hSw; go_simp; try with_reducible rfl⟩) (by assumption) ?_
  (try simp only [Act.put, List.setIfInBounds_toArray, List.set_cons_zero, List.set_cons_succ])
  refine take_first 3 (v := ?_) rfl (by kernel_rfl) (by kernel_rfl) (by kernel_rfl) (fun _ _ _ h => h) (Or.inl ⟨by rfl, by intro wx hSw; (try dsimp only at hSw); obtain ⟨hSw1, hSw2⟩ := hSw; go_simp; try with_reducible rfl⟩) (by assumption) ?_
  (try simp only [Act.put, List.setIfInBounds_toArray, List.set_cons_zero, List.set_cons_succ])
  refine take_first 4 (v := ?_) rfl (by kernel_rfl) (by kernel_rfl) (by kernel_rfl) (fun _ _ _ h => h) (Or.inl ⟨by rfl, by intro wx hSw; (try dsimp only at hSw); obtain ⟨hSw1, hSw2⟩ := hSw; go_simp; try with_reducible rfl⟩) (by assumption) ?_
  (try simp only [Act.put, List.setIfInBounds_toArray, List.set_cons_zero, List.set_cons_succ])
  refine take_first 5 (v := ?_) rfl (by kernel_rfl) (by kernel_rfl) (by kernel_rfl) (fun _ _ _ h => h) (Or.inl ⟨by rfl, by intro wx hSw; (try dsimp only at hSw); obtain ⟨hSw1, hSw2⟩ := hSw; go_simp; try with_reducible rfl⟩) (by assumption) ?_
  (try simp only [Act.put, List.setIfInBounds_toArray, List.set_cons_zero, List.set_cons_succ])
  refine take_first 6 (v := ?_) rfl (by kernel_rfl) (by kernel_rfl) (by kernel_rfl) (fun _ _ _ h => h) (Or.inl ⟨by rfl, by intro wx hSw; (try dsimp only at hSw); obtain ⟨hSw1, hSw2⟩ := hSw; go_simp; try with_reducible rfl⟩) (by assumption) ?_
  (try simp only [Act.put, List.setIfInBounds_toArray, List.set_cons_zero, List.set_cons_succ])
  refine take_first 7 (v := ?_) rfl (by kernel_rfl) (by kernel_rfl) (by kernel_rfl) (fun _ _ _ h => h) (Or.inl ⟨by rfl, by intro wx hSw; (try dsimp only at hSw); obtain ⟨hSw1, hSw2⟩ := hSw; go_simp; try with_reducible rfl⟩) (by assumption) ?_
  (try simp only [Act.put, List.setIfInBounds_toArray, List.set_cons_zero, List.set_cons_succ])
  refine comes_up 8 rfl (by kernel_rfl) (fun K hK => ?_)
  go_simp
  refine (aw_out2 (H4.out.still (Turned.drew (Turned.refl _ w4)))).mono ?_
  rintro e w5 ⟨ao5, cap5, rfl, H5⟩
  have d0 := H5.out.1.c0
  have d1 := H5.out.1.c1
  clear H4 c0 c1
  go_wp2_with fail
  refine hK.out _ _ ⟨d0, d1⟩ (fun hHeld => ?_)
  clear hK K
  (try simp only [Act.put, List.setIfInBounds_toArray, List.set_cons_zero, List.set_cons_succ])
  refine comes_up 9 rfl (by kernel_rfl) (fun K hK => ?_)
  go_simp
  refine (aw_in2 H5).mono ?_
  rintro e w6 ⟨rfl, H6⟩
  have c0 := H6.out.c0
  have c1 := H6.out.c1
  clear H5 d0 d1
  go_wp2_with fail
  refine hK.out _ _ ⟨c0, c1⟩ (fun hHeld => ?_)
  clear hK K
  (try simp only [Act.put, List.setIfInBounds_toArray, List.set_cons_zero, List.set_cons_succ])
  refine take_first 10 (v := ?_) rfl (by kernel_rfl) (by kernel_rfl) (by kernel_rfl) (fun _ _ _ h => h) (Or.inl ⟨by rfl, by intro wx hSw; (try dsimp only at hSw); obtain ⟨hSw1, hSw2⟩ := hSw; go_simp; try with_reducible rfl⟩) (by assumption) ?_
  (try simp only [Act.put, List.setIfInBounds_toArray, List.set_cons_zero, List.set_cons_succ])
  refine take_first 11 (v := ?_) rfl (by kernel_rfl) (by kernel_rfl) (by kernel_rfl) (fun _ _ _ h => h) (Or.inl ⟨by rfl, by intro wx hSw; (try dsimp only at hSw); obtain ⟨hSw1, hSw2⟩ := hSw; go_simp; try with_reducible rfl⟩) (by assumption) ?_
  (try simp only [Act.put, List.setIfInBounds_toArray, List.set_cons_zero, List.set_cons_succ])
  refine take_first 12 (v := ?_) rfl (by kernel_rfl) (by kernel_rfl) (by kernel_rfl) (fun _ _ _ h => h) (Or.inl ⟨by rfl, by intro wx hSw; (try dsimp only at hSw); obtain ⟨hSw1, hSw2⟩ := hSw; go_simp; try with_reducible rfl⟩) (by assumption) ?_
  (try simp only [Act.put, List.setIfInBounds_toArray, List.set_cons_zero, List.set_cons_succ])
  refine take_first 13 (v := ?_) rfl (by kernel_rfl) (by kernel_rfl) (by kernel_rfl) (fun _ _ _ h => h) (Or.inl ⟨by rfl, by intro wx hSw; (try dsimp only at hSw); obtain ⟨hSw1, hSw2⟩ := hSw; go_simp; try with_reducible rfl⟩) (by assumption) ?_
  (try simp only [Act.put, List.setIfInBounds_toArray, List.set_cons_zero, List.set_cons_succ])
  refine take_first 14 (v := ?_) rfl (by kernel_rfl) (by kernel_rfl) (by kernel_rfl) (fun _ _ _ h => h) (Or.inl ⟨by rfl, by intro wx hSw; (try dsimp only at hSw); obtain ⟨hSw1, hSw2⟩ := hSw; go_simp; try with_reducible rfl⟩) (by assumption) ?_
  (try simp only [Act.put, List.setIfInBounds_toArray, List.set_cons_zero, List.set_cons_succ])
  refine wpAnyH_done (by kernel_rfl) ?_ _
  refine NoPanic.normal ?_
  go_wp2_with fail
  refine (aw_take H6.out).mono ?_
  rintro e w7 ⟨rfl, H7⟩
  clear H6 c0 c1
  have c0 := H7.out.c0
  have c1 := H7.out.c1
  go_wp2_with fail
  refine (aw_acked H7.out).mono ?_
  rintro e w8 ⟨rfl, rfl⟩
  go_wp2_with fail
  refine (ws_idleA H7.out rfl).mono ?_
  rintro e w8 ⟨rfl, rfl⟩
  go_wp2
  go_ret
  exact ⟨rfl, H7.out.turned⟩
end Go.Proofs.Ythobbnmdpkginaa
