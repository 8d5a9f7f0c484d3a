/-
  What happens to two ends: a packet is sent.
-/
import Derived.Test.YthobbnmdpkginaaLAct
namespace Go.Proofs.Ythobbnmdpkginaa
open Go.RowKit
set_option linter.unusedVariables false
set_option linter.unusedSimpArgs false

set_option maxRecDepth 10000 in
set_option maxHeartbeats 1000000 in
theorem act2_any {w : World} {col : Nat → Nat} {q M N : Nat} {d : Adr} {p : Pl} (h : Wd w col q M N d p) (kd : Nat) (s : ByteArray) (n : Int) (hk : kd % 9 = 2) (hk2 : kd < 256) (hl : p.tB.length ≤ 1000) (hkd : ∀ x ∈ p.xA, Kd 9 x) :
    Calls Try.prog 12 #[.pointer (some ⟨q, 0, none⟩), .agg #[.int .u8 (kd : Nat), .string s, .int .i64 n]] w fun e w' => e = .returned (.tuple #[]) ∧ ∃ iv, Nx col w q M N { p with tB := p.tB ++ [⟨p.aA, iv, p.xA.take N, p.nA⟩] } w' := by
  obtain ⟨col0, h0, g0, x0⟩ := wd_box h kd s n
  have hkI : (kd : Int) % 9 = 2 := by omega
  obtain ⟨h1, g1⟩ := h0.still (Turned.drew (Turned.refl _ _))
  have hout := loutA_any h1.lka hkd
  have c0 := h0.qb.c0
  have c1 := h0.qb.c7
  have b0 := x0.c0
  have H1 : Hid (Wd _ _ q M N d p) := h1
  have G1 : Hid (Gn col w _ _) := g0.trans g1
  have HL : Hid (p.tB.length ≤ 1000) := hl
  clear h h0 g0 x0 h1 g1 hl hk hk2
  go_enter Try.func12, Try.ntmps12
  go_wp2_with fail
  refine wp_region_noPanic ?_
  refine beginE (fun wx => wx.cell? ⟨q, 0, none⟩ = some (.pointer (some ⟨d.ka, 0, none⟩)) ∧ wx.cell? ⟨q, 7, none⟩ = some d.l7) 14 (by kernel_rfl) (show _ ∧ _ from ⟨c0, c1⟩) (fun hHeld => ?_)
  refine takeE 0 (v := ?_) rfl (by kernel_rfl) (by kernel_rfl) (by kernel_rfl) (by kernel_rfl) (by kernel_rfl) (fun _ _ _ h => h) (Or.inl ⟨by rfl, by intro wx hSw; (try dsimp only at hSw); obtain ⟨hSw1, hSw2⟩ := hSw; go_simp; try with_reducible rfl⟩) (by assumption) ?_
  (try simp only [Act.put, List.setIfInBounds_toArray, List.set_cons_zero, List.set_cons_succ])
  refine takeE 1 (v := ?_) rfl (by kernel_rfl) (by kernel_rfl) (by kernel_rfl) (by kernel_rfl) (by kernel_rfl) (fun _ _ _ h => h) (Or.inl ⟨by rfl, by intro wx hSw; (try dsimp only at hSw); obtain ⟨hSw1, hSw2⟩ := hSw; go_simp; try with_reducible rfl⟩) (by assumption) ?_
  (try simp only [Act.put, List.setIfInBounds_toArray, List.set_cons_zero, List.set_cons_succ])
  refine takeE 2 (v := ?_) rfl (by kernel_rfl) (by kernel_rfl) (by kernel_rfl) (by kernel_rfl) (by kernel_rfl) (fun _ _ _ h => h) (Or.inl ⟨by rfl, by intro wx hSw; (try dsimp only at hSw); obtain ⟨hSw1, hSw2⟩ := hSw; go_simp; try with_reducible rfl⟩) (by assumption) ?_
  (try simp only [Act.put, List.setIfInBounds_toArray, List.set_cons_zero, List.set_cons_succ])
  refine takeE 3 (v := ?_) rfl (by kernel_rfl) (by kernel_rfl) (by kernel_rfl) (by kernel_rfl) (by kernel_rfl) (fun _ _ _ h => h) (Or.inl ⟨by rfl, by intro wx hSw; (try dsimp only at hSw); obtain ⟨hSw1, hSw2⟩ := hSw; go_simp; try with_reducible rfl⟩) (by assumption) ?_
  (try simp only [Act.put, List.setIfInBounds_toArray, List.set_cons_zero, List.set_cons_succ])
  refine takeE 4 (v := ?_) rfl (by kernel_rfl) (by kernel_rfl) (by kernel_rfl) (by kernel_rfl) (by kernel_rfl) (fun _ _ _ h => h) (Or.inl ⟨by rfl, by intro wx hSw; (try dsimp only at hSw); obtain ⟨hSw1, hSw2⟩ := hSw; go_simp; try with_reducible rfl⟩) (by assumption) ?_
  (try simp only [Act.put, List.setIfInBounds_toArray, List.set_cons_zero, List.set_cons_succ])
  refine takeE 5 (v := ?_) rfl (by kernel_rfl) (by kernel_rfl) (by kernel_rfl) (by kernel_rfl) (by kernel_rfl) (fun _ _ _ h => h) (Or.inl ⟨by rfl, by intro wx hSw; (try dsimp only at hSw); obtain ⟨hSw1, hSw2⟩ := hSw; go_simp; try with_reducible rfl⟩) (by assumption) ?_
  (try simp only [Act.put, List.setIfInBounds_toArray, List.set_cons_zero, List.set_cons_succ])
  refine takeE 6 (v := ?_) rfl (by kernel_rfl) (by kernel_rfl) (by kernel_rfl) (by kernel_rfl) (by kernel_rfl) (fun _ _ _ h => h) (Or.inl ⟨by rfl, by intro wx hSw; (try dsimp only at hSw); obtain ⟨hSw1, hSw2⟩ := hSw; go_simp; try with_reducible rfl⟩) (by assumption) ?_
  (try simp only [Act.put, List.setIfInBounds_toArray, List.set_cons_zero, List.set_cons_succ])
  refine takeE 7 (v := ?_) rfl (by kernel_rfl) (by kernel_rfl) (by kernel_rfl) (by kernel_rfl) (by kernel_rfl) (fun _ _ _ h => h) (Or.inl ⟨by rfl, by intro wx hSw; (try dsimp only at hSw); obtain ⟨hSw1, hSw2⟩ := hSw; go_simp; try with_reducible rfl⟩) (by assumption) ?_
  (try simp only [Act.put, List.setIfInBounds_toArray, List.set_cons_zero, List.set_cons_succ])
  refine takeE 8 (v := ?_) rfl (by kernel_rfl) (by kernel_rfl) (by kernel_rfl) (by kernel_rfl) (by kernel_rfl) (fun _ _ _ h => h) (Or.inl ⟨by rfl, by intro wx hSw; (try dsimp only at hSw); obtain ⟨hSw1, hSw2⟩ := hSw; go_simp; try with_reducible rfl⟩) (by assumption) ?_
  (try simp only [Act.put, List.setIfInBounds_toArray, List.set_cons_zero, List.set_cons_succ])
  refine upE 9 rfl (by kernel_rfl) (fun K hK => ?_)
  go_simp
  refine hout.mono ?_
  rintro e w2 ⟨ao, m, cap, rfl, hm, hl2, t2, hb2⟩
  obtain ⟨h2, g2⟩ := H1.out.still t2
  obtain ⟨o, ho⟩ : ∃ o : Obj, o = .cells #[.int .u64 4, .int .i64 2, .int .u64 (p.aA : Nat), .slice ao m cap, .int .u64 (p.nA : Nat)] 45 := ⟨_, rfl⟩
  have t3 : Turned (fun _ => False) w2 (w2.alloc o) := (Turned.refl _ w2).alloc o
  obtain ⟨h3, g3⟩ := h2.still t3
  obtain ⟨x, hxx⟩ : ∃ x : Px, x = ⟨p.aA, .slice ao m cap, p.xA.take N, p.nA⟩ := ⟨_, rfl⟩
  have hcells : ∀ j u, (cellsP x)[j]? = some u → (w2.alloc o).cell? ⟨w2.heap.size, j, none⟩ = some u := by
    obtain ⟨k0, k1, k2, k3, k4⟩ := box5 w2 (.int .u64 4) (.int .i64 2) (.int .u64 (p.aA : Nat)) (.slice ao m cap) (.int .u64 (p.nA : Nat)) 45
    rw [← ho] at k0 k1 k2 k3 k4
    intro j u hj
    rw [hxx] at hj
    match j, hj with
    | 0, hj => rw [k0]; simpa [cellsP] using hj
    | 1, hj => rw [k1]; simpa [cellsP] using hj
    | 2, hj => rw [k2]; simpa [cellsP] using hj
    | 3, hj => rw [k3]; simpa [cellsP] using hj
    | 4, hj => rw [k4]; simpa [cellsP] using hj
    | j + 5, hj => simp [cellsP] at hj
  obtain ⟨v', w5, hrun, hp5, hp6, ⟨vo, vn, vc, rfl⟩, hother, HE5⟩ := h3.app7 x (by rw [hxx]; exact (hl2.still t3).tx) (by
    rw [hxx]
    intro b hb
    have e1 := hb2 b hb
    have e2 := hl2.lt b hb
    exact ⟨by rw [g3.old b e2]; exact if_neg (by omega), Nat.lt_of_lt_of_le e2 t3.size⟩) HL.out w2.heap.size 1 hcells 35
  have c2 := h2.qb.c0
  have d2 := h2.qb.c7
  have c3 := h3.qb.c0
  have d3 := h3.qb.c7
  have c5 : w5.cell? ⟨q, 0, none⟩ = some (.pointer (some ⟨d.ka, 0, none⟩)) := (cell_block (hother q h3.qb.lt (by rw [(h3.q9 (fun f => f)).2]; decide))).trans c3
  have HRUN : Hid ((Builtin.append_ #[35, 35] 35 #[d.l7, .slice (some ⟨w2.heap.size, 0, none⟩) 1 1]).run Try.prog (w2.alloc o) = .ok (.slice vo vn vc) w5) := hrun
  have HE : Hid (∃ iv, Nx col w q M N { p with tB := p.tB ++ [⟨p.aA, iv, p.xA.take N, p.nA⟩] } (w5.setCell ⟨q, 7, none⟩ (.slice vo vn vc))) := ⟨.slice ao m cap, _, _, by have := HE5.out.1; rw [hxx] at this; exact this, ((G1.out.trans g2).trans g3).trans HE5.out.2⟩
  rw [ho] at HRUN c3 d3
  clear hrun HE5 hother h3 g3 h2 g2 t2 t3 hl2 hb2 hm H1 G1 HL b0 hout hcells hxx ho x c0 c1 hkd
  go_wp2_with fail
  refine hK.out _ _ ⟨c2, d2⟩ (fun hHeld => ?_)
  clear hK K
  (try simp only [Act.put, List.setIfInBounds_toArray, List.set_cons_zero, List.set_cons_succ])
  refine upE 10 rfl (by kernel_rfl) (fun K hK => ?_)
  go_simp
  refine hK.out _ _ ⟨c3, d3⟩ (fun hHeld => ?_)
  clear hK K
  (try simp only [Act.put, List.setIfInBounds_toArray, List.set_cons_zero, List.set_cons_succ])
  refine upE 11 rfl (by kernel_rfl) (fun K hK => ?_)
  refine step_append_run rfl (.tmp 73) (.tmp 79) 35 rfl d.l7 (.slice (some ⟨w2.heap.size, 0, none⟩) 1 1) (.slice vo vn vc) w5 rfl rfl HRUN.out ?_
  refine hK.out _ _ ⟨c5, hp5⟩ (fun hHeld => ?_)
  clear hK K
  (try simp only [Act.put, List.setIfInBounds_toArray, List.set_cons_zero, List.set_cons_succ])
  refine pureE 12 (v := ?_) rfl (by kernel_rfl) (by kernel_rfl) (by kernel_rfl) (by kernel_rfl) (fun _ _ _ h => h) (Or.inl ⟨by rfl, by intro wx hSw; (try dsimp only at hSw); go_simp; try with_reducible rfl⟩) (by assumption) ?_
  (try simp only [Act.put, List.setIfInBounds_toArray, List.set_cons_zero, List.set_cons_succ])
  refine pureE 13 (v := ?_) rfl (by kernel_rfl) (by kernel_rfl) (by kernel_rfl) (by kernel_rfl) (fun _ _ _ h => h) (Or.inl ⟨by rfl, by intro wx hSw; (try dsimp only at hSw); go_simp; try with_reducible rfl⟩) (by assumption) ?_
  (try simp only [Act.put, List.setIfInBounds_toArray, List.set_cons_zero, List.set_cons_succ])
  refine lastE 14 rfl (by kernel_rfl) (by kernel_rfl) (fun K hK => ?_)
  go_simp
  refine hK.out _ _ ?_
  clear hK K
  (try simp only [Act.put, List.setIfInBounds_toArray, List.set_cons_zero, List.set_cons_succ])
  refine doneE (by kernel_rfl) ?_ _
  refine NoPanic.normal ?_
  go_wp2
  go_end0
  exact ⟨rfl, HE.out⟩
end Go.Proofs.Ythobbnmdpkginaa
