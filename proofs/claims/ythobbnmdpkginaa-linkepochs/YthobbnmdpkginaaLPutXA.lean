/-
  What happens to two ends: something is put.
-/
import Derived.Test.YthobbnmdpkginaaLAct
namespace Go.Proofs.Ythobbnmdpkginaa
open Go.RowKit
set_option linter.unusedVariables false
set_option linter.unusedSimpArgs false

set_option maxRecDepth 10000 in
set_option maxHeartbeats 1000000 in
theorem act0_any {w : World} {col : Nat → Nat} {q M N : Nat} {d : Adr} {p : Pl} (h : Wd w col q M N d p) (kd : Nat) (s : ByteArray) (n : Int) (hk : kd % 9 = 0) (hk2 : kd < 256) (hl : p.pA.length ≤ 1000) (hr : p.xA.length < M) :
    Calls Try.prog 12 #[.pointer (some ⟨q, 0, none⟩), .agg #[.int .u8 (kd : Nat), .string s, .int .i64 n]] w fun e w' => e = .returned (.tuple #[]) ∧ Nx col w q M N { p with xA := p.xA ++ [.string s], pA := p.pA ++ [.string s] } w' := by
  obtain ⟨col0, h0, g0, x0⟩ := wd_box h kd s n
  have hkI : (kd : Int) % 9 = 0 := by omega
  obtain ⟨h1, g1⟩ := h0.still (Turned.drew (Turned.refl _ _))
  have x1 := x0.on g1
  have hput := lputA_any h1.lka hr (.string s) (one_string s)
  have c0 := h0.qb.c0
  have b0 := x0.c0
  have b1 := x0.c1
  have H1 : Hid (Wd _ _ q M N d p) := h1
  have X1 : Hid (Bx _ _ _ kd s n) := x1
  have G1 : Hid (Gn col w _ _) := g0.trans g1
  have HL : Hid (p.pA.length ≤ 1000) := hl
  clear h h0 g0 x0 h1 g1 x1 hl hr hk hk2
  go_enter Try.func12, Try.ntmps12
  go_wp2_with fail
  refine wp_region_noPanic ?_
  refine wp_region_held_drew (S := fun wx => wx.cell? ⟨q, 0, none⟩ = some (.pointer (some ⟨d.ka, 0, none⟩)) ∧ wx.cell? ⟨w.heap.size, 1, none⟩ = some (.string s)) (by kernel_rfl) (show _ ∧ _ from ⟨c0, b1⟩) (fun hHeld => ?_)
  refine take_first 0 (v := ?_) rfl (by kernel_rfl) (by kernel_rfl) (by kernel_rfl) (fun _ _ _ h => h) (Or.inl ⟨by rfl, by intro wx hSw; (try dsimp only at hSw); obtain ⟨hSw1, hSw2⟩ := hSw; go_simp; try with_reducible rfl⟩) (by assumption) ?_
  (try simp only [Act.put, List.setIfInBounds_toArray, List.set_cons_zero, List.set_cons_succ])
  refine take_first 1 (v := ?_) rfl (by kernel_rfl) (by kernel_rfl) (by kernel_rfl) (fun _ _ _ h => h) (Or.inl ⟨by rfl, by intro wx hSw; (try dsimp only at hSw); obtain ⟨hSw1, hSw2⟩ := hSw; go_simp; try with_reducible rfl⟩) (by assumption) ?_
  (try simp only [Act.put, List.setIfInBounds_toArray, List.set_cons_zero, List.set_cons_succ])
  refine take_first 2 (v := ?_) rfl (by kernel_rfl) (by kernel_rfl) (by kernel_rfl) (fun _ _ _ h => h) (Or.inl ⟨by rfl, by intro wx hSw; (try dsimp only at hSw); obtain ⟨hSw1, hSw2⟩ := hSw; go_simp; try with_reducible rfl⟩) (by assumption) ?_
  (try simp only [Act.put, List.setIfInBounds_toArray, List.set_cons_zero, List.set_cons_succ])
  refine take_first 3 (v := ?_) rfl (by kernel_rfl) (by kernel_rfl) (by kernel_rfl) (fun _ _ _ h => h) (Or.inl ⟨by rfl, by intro wx hSw; (try dsimp only at hSw); obtain ⟨hSw1, hSw2⟩ := hSw; go_simp; try with_reducible rfl⟩) (by assumption) ?_
  (try simp only [Act.put, List.setIfInBounds_toArray, List.set_cons_zero, List.set_cons_succ])
  refine take_first 4 (v := ?_) rfl (by kernel_rfl) (by kernel_rfl) (by kernel_rfl) (fun _ _ _ h => h) (Or.inl ⟨by rfl, by intro wx hSw; (try dsimp only at hSw); obtain ⟨hSw1, hSw2⟩ := hSw; go_simp; try with_reducible rfl⟩) (by assumption) ?_
  (try simp only [Act.put, List.setIfInBounds_toArray, List.set_cons_zero, List.set_cons_succ])
  refine take_first 5 (v := ?_) rfl (by kernel_rfl) (by kernel_rfl) (by kernel_rfl) (fun _ _ _ h => h) (Or.inl ⟨by rfl, by intro wx hSw; (try dsimp only at hSw); obtain ⟨hSw1, hSw2⟩ := hSw; go_simp; try with_reducible rfl⟩) (by assumption) ?_
  (try simp only [Act.put, List.setIfInBounds_toArray, List.set_cons_zero, List.set_cons_succ])
  refine comes_up 6 rfl (by kernel_rfl) (fun K hK => ?_)
  go_simp
  refine hput.mono ?_
  rintro e w2 ⟨rfl, F2, l2, gg2⟩
  obtain ⟨h2, g2⟩ := H1.out.goA l2 gg2
  have x2 := X1.out.on g2
  have c2 := h2.qb.c0
  have d2 := x2.c1
  have H2 : Hid (Wd w2 _ q M N { d with FA := F2 } { p with aA := p.aA, xA := p.xA ++ [.string s], nA := p.nA, yA := p.yA }) := h2
  have X2 : Hid (Bx w2 _ _ kd s n) := x2
  have G2 : Hid (Gn col w _ w2) := G1.out.trans g2
  clear H1 X1 G1 h2 g2 x2 l2 gg2 hput c0 b1
  go_wp2_with fail
  refine hK.out _ _ ⟨c2, d2⟩ (fun hHeld => ?_)
  clear hK K
  (try simp only [Act.put, List.setIfInBounds_toArray, List.set_cons_zero, List.set_cons_succ])
  refine comes_up 7 rfl (by kernel_rfl) (fun K hK => ?_)
  go_simp
  refine hK.out _ _ ⟨c2, d2⟩ (fun hHeld => ?_)
  clear hK K
  (try simp only [Act.put, List.setIfInBounds_toArray, List.set_cons_zero, List.set_cons_succ])
  refine wpAnyH_done (by kernel_rfl) ?_ _
  refine NoPanic.normal ?_
  obtain ⟨h3, g3⟩ := H2.out.still (Turned.drew (Turned.refl _ w2))
  have x3 := X2.out.on g3
  have c3 := h3.qb.c2
  have d3 := x3.c1
  obtain ⟨h4, g4⟩ := h3.still ((Turned.refl _ w2.drew).alloc (.cells #[.string s] 9))
  have x4 := x3.on g4
  obtain ⟨v', w5, hrun, hp5, hp6, ⟨ao, vn, vc, rfl⟩, hother, HE5⟩ := h4.app2 (.string s) (kd9 s) HL.out w2.heap.size 1 (box1 w2.drew (.string s) 9) 32
  have c4 := h4.qb.c2
  have d4 := x4.c1
  have d5 : w5.cell? ⟨w.heap.size, 1, none⟩ = some (.string s) := (cell_block (hother w.heap.size x4.lt (by rw [x4.nobody]; decide))).trans d4
  have HRUN : Hid ((Builtin.append_ #[32, 32] 32 #[d.l2, .slice (some ⟨w2.heap.size, 0, none⟩) 1 1]).run Try.prog (w2.drew.alloc (.cells #[.string s] 9)) = .ok (.slice ao vn vc) w5) := hrun
  have HE : Hid (Nx col w q M N { p with xA := p.xA ++ [.string s], pA := p.pA ++ [.string s] } (w5.setCell ⟨q, 2, none⟩ (.slice ao vn vc))) := ⟨_, _, HE5.out.1, ((G2.out.trans g3).trans g4).trans HE5.out.2⟩
  clear hrun HE5 hother h4 g4 x4 h3 g3 x3 H2 X2 G2 c2 d2 HL b0
  go_wp2_with fail
  refine wp_region_noPanic ?_
  refine beginE (fun wx => wx.cell? ⟨q, 2, none⟩ = some d.l2 ∧ wx.cell? ⟨w.heap.size, 1, none⟩ = some (.string s)) 11 (by kernel_rfl) (show _ ∧ _ from ⟨c3, d3⟩) (fun hHeld => ?_)
  refine takeE 0 (v := ?_) rfl (by kernel_rfl) (by kernel_rfl) (by kernel_rfl) (by kernel_rfl) (by kernel_rfl) (fun _ _ _ h => h) (Or.inl ⟨by rfl, by intro wx hSw; (try dsimp only at hSw); obtain ⟨hSw1, hSw2⟩ := hSw; go_simp; try with_reducible rfl⟩) (by assumption) ?_
  (try simp only [Act.put, List.setIfInBounds_toArray, List.set_cons_zero, List.set_cons_succ])
  refine takeE 1 (v := ?_) rfl (by kernel_rfl) (by kernel_rfl) (by kernel_rfl) (by kernel_rfl) (by kernel_rfl) (fun _ _ _ h => h) (Or.inl ⟨by rfl, by intro wx hSw; (try dsimp only at hSw); obtain ⟨hSw1, hSw2⟩ := hSw; go_simp; try with_reducible rfl⟩) (by assumption) ?_
  (try simp only [Act.put, List.setIfInBounds_toArray, List.set_cons_zero, List.set_cons_succ])
  refine takeE 2 (v := ?_) rfl (by kernel_rfl) (by kernel_rfl) (by kernel_rfl) (by kernel_rfl) (by kernel_rfl) (fun _ _ _ h => h) (Or.inl ⟨by rfl, by intro wx hSw; (try dsimp only at hSw); obtain ⟨hSw1, hSw2⟩ := hSw; go_simp; try with_reducible rfl⟩) (by assumption) ?_
  (try simp only [Act.put, List.setIfInBounds_toArray, List.set_cons_zero, List.set_cons_succ])
  refine takeE 3 (v := ?_) rfl (by kernel_rfl) (by kernel_rfl) (by kernel_rfl) (by kernel_rfl) (by kernel_rfl) (fun _ _ _ h => h) (Or.inl ⟨by rfl, by intro wx hSw; (try dsimp only at hSw); obtain ⟨hSw1, hSw2⟩ := hSw; go_simp; try with_reducible rfl⟩) (by assumption) ?_
  (try simp only [Act.put, List.setIfInBounds_toArray, List.set_cons_zero, List.set_cons_succ])
  refine takeE 4 (v := ?_) rfl (by kernel_rfl) (by kernel_rfl) (by kernel_rfl) (by kernel_rfl) (by kernel_rfl) (fun _ _ _ h => h) (Or.inl ⟨by rfl, by intro wx hSw; (try dsimp only at hSw); obtain ⟨hSw1, hSw2⟩ := hSw; go_simp; try with_reducible rfl⟩) (by assumption) ?_
  (try simp only [Act.put, List.setIfInBounds_toArray, List.set_cons_zero, List.set_cons_succ])
  refine takeE 5 (v := ?_) rfl (by kernel_rfl) (by kernel_rfl) (by kernel_rfl) (by kernel_rfl) (by kernel_rfl) (fun _ _ _ h => h) (Or.inl ⟨by rfl, by intro wx hSw; (try dsimp only at hSw); obtain ⟨hSw1, hSw2⟩ := hSw; go_simp; try with_reducible rfl⟩) (by assumption) ?_
  (try simp only [Act.put, List.setIfInBounds_toArray, List.set_cons_zero, List.set_cons_succ])
  refine takeE 6 (v := ?_) rfl (by kernel_rfl) (by kernel_rfl) (by kernel_rfl) (by kernel_rfl) (by kernel_rfl) (fun _ _ _ h => h) (Or.inl ⟨by rfl, by intro wx hSw; (try dsimp only at hSw); obtain ⟨hSw1, hSw2⟩ := hSw; go_simp; try with_reducible rfl⟩) (by assumption) ?_
  (try simp only [Act.put, List.setIfInBounds_toArray, List.set_cons_zero, List.set_cons_succ])
  refine upE 7 rfl (by kernel_rfl) (fun K hK => ?_)
  go_simp
  refine hK.out _ _ ⟨c4, d4⟩ (fun hHeld => ?_)
  clear hK K
  (try simp only [Act.put, List.setIfInBounds_toArray, List.set_cons_zero, List.set_cons_succ])
  refine upE 8 rfl (by kernel_rfl) (fun K hK => ?_)
  refine step_append_run rfl (.tmp 39) (.tmp 42) 32 rfl d.l2 (.slice (some ⟨w2.heap.size, 0, none⟩) 1 1) (.slice ao vn vc) w5 rfl rfl HRUN.out ?_
  refine hK.out _ _ ⟨hp5, d5⟩ (fun hHeld => ?_)
  clear hK K
  (try simp only [Act.put, List.setIfInBounds_toArray, List.set_cons_zero, List.set_cons_succ])
  have hp5' : w5.cell? ⟨q, 2, none⟩ = some d.l2 := hp5
  refine pureE 9 (v := ?_) rfl (by kernel_rfl) (by kernel_rfl) (by kernel_rfl) (by kernel_rfl) (fun _ _ _ h => h) (Or.inl ⟨by rfl, by intro wx hSw; (try dsimp only at hSw); go_simp; try with_reducible rfl⟩) (by assumption) ?_
  (try simp only [Act.put, List.setIfInBounds_toArray, List.set_cons_zero, List.set_cons_succ])
  refine pureE 10 (v := ?_) rfl (by kernel_rfl) (by kernel_rfl) (by kernel_rfl) (by kernel_rfl) (fun _ _ _ h => h) (Or.inl ⟨by rfl, by intro wx hSw; (try dsimp only at hSw); go_simp; try with_reducible rfl⟩) (by assumption) ?_
  (try simp only [Act.put, List.setIfInBounds_toArray, List.set_cons_zero, List.set_cons_succ])
  refine lastE 11 rfl (by kernel_rfl) (by kernel_rfl) (fun K hK => ?_)
  go_simp
  refine hK.out _ _ ?_
  clear hK K
  (try simp only [Act.put, List.setIfInBounds_toArray, List.set_cons_zero, List.set_cons_succ])
  refine doneE (by kernel_rfl) ?_ _
  refine NoPanic.normal ?_
  go_wp2
  go_end0
  exact ⟨rfl, HE.out⟩
end Go.Proofs.Ythobbnmdpkginaa
