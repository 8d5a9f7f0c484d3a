/-
  What happens to two ends: something is taken; something would be put where there is no room.
-/
import Derived.Test.YthobbnmdpkginaaLAct
namespace Go.Proofs.Ythobbnmdpkginaa
open Go.RowKit
set_option linter.unusedVariables false
set_option linter.unusedSimpArgs false

set_option maxRecDepth 10000 in
theorem act7_none {w : World} {col : Nat → Nat} {q M N : Nat} {d : Adr} {p : Pl} (h : Wd w col q M N d p) (kd : Nat) (s : ByteArray) (n : Int) (hk : kd % 9 = 7) (hk2 : kd < 256) (hy : p.yB = []) :
    Calls Try.prog 12 #[.pointer (some ⟨q, 0, none⟩), .agg #[.int .u8 (kd : Nat), .string s, .int .i64 n]] w fun e w' => e = .returned (.tuple #[]) ∧ Nx col w q M N p w' := by
  obtain ⟨col0, h0, g0, x0⟩ := wd_box h kd s n
  have hkI : (kd : Int) % 9 = 7 := by omega
  have hlk := h0.lkb
  rw [hy] at hlk
  have htake := ltakeB_none hlk
  have c0 := h0.qb.c1
  have b0 := x0.c0
  have HE : Hid (Nx col w q M N p _) := ⟨_, _, h0, g0⟩
  clear h h0 g0 x0 hk hk2 hy hlk
  go_enter Try.func12, Try.ntmps12
  go_wp2_with fail
  refine htake.mono ?_
  rintro e w2 ⟨rfl, rfl⟩
  go_wp2
  go_end0
  exact ⟨rfl, HE.out⟩
set_option maxRecDepth 10000 in
set_option maxHeartbeats 1000000 in
theorem act7_any {w : World} {col : Nat → Nat} {q M N : Nat} {d : Adr} {p : Pl} (h : Wd w col q M N d p) (kd : Nat) (s : ByteArray) (n : Int) (hk : kd % 9 = 7) (hk2 : kd < 256) (hl : p.gB.length ≤ 1000) (y : Value) (ys : List Value) (hy : p.yB = y :: ys) (hyk : Kd 9 y) :
    Calls Try.prog 12 #[.pointer (some ⟨q, 0, none⟩), .agg #[.int .u8 (kd : Nat), .string s, .int .i64 n]] w fun e w' => e = .returned (.tuple #[]) ∧ Nx col w q M N { p with yB := ys, gB := p.gB ++ [y] } w' := by
  obtain ⟨col0, h0, g0, x0⟩ := wd_box h kd s n
  have hkI : (kd : Int) % 9 = 7 := by omega
  have hlk := h0.lkb
  rw [hy] at hlk
  have htake := ltakeB_any hlk
  have c0 := h0.qb.c1
  have b0 := x0.c0
  have H0 : Hid (Wd _ _ q M N d p) := h0
  have G0 : Hid (Gn col w _ _) := g0
  have HL : Hid (p.gB.length ≤ 1000) := hl
  have HK : Hid (Kd 9 y) := hyk
  obtain ⟨m, hm⟩ := kd_s hyk
  subst hm
  clear h h0 g0 x0 hk hk2 hy hlk hl hyk
  go_enter Try.func12, Try.ntmps12
  go_wp2_with fail
  refine htake.mono ?_
  rintro e w2 ⟨rfl, F2, l2, gg2⟩
  obtain ⟨h2, g2⟩ := H0.out.goB l2 gg2
  have c2 := h2.qb.c5
  obtain ⟨h3, g3⟩ := h2.still ((Turned.refl _ w2).alloc (.cells #[.string m] 9))
  obtain ⟨v', w5, hrun, hp5, hp6, ⟨ao, vn, vc, rfl⟩, hother, HE5⟩ := h3.app5 (.string m) HK.out HL.out w2.heap.size 1 (box1 w2 (.string m) 9) 32
  have HRUN : Hid ((Builtin.append_ #[32, 32] 32 #[d.l5, .slice (some ⟨w2.heap.size, 0, none⟩) 1 1]).run Try.prog (w2.alloc (.cells #[.string m] 9)) = .ok (.slice ao vn vc) w5) := hrun
  have HE : Hid (Nx col w q M N { p with yB := ys, gB := p.gB ++ [.string m] } (w5.setCell ⟨q, 5, none⟩ (.slice ao vn vc))) := ⟨_, _, HE5.out.1, ((G0.out.trans g2).trans g3).trans HE5.out.2⟩
  clear hrun HE5 hother h3 g3 h2 g2 l2 gg2 htake H0 G0 HL HK b0 c0
  have c2' : w2.cell? ⟨q, 5, none⟩ = some d.l5 := c2
  have hp5' : w5.cell? ⟨q, 5, none⟩ = some d.l5 := hp5
  clear c2 hp5
  go_wp2_with (first | (at_builtin; refine wpList_append_run rfl _ _ 32 32 rfl _ _ rfl rfl HRUN.out ?_))
  go_end0
  exact ⟨rfl, HE.out⟩
set_option maxRecDepth 10000 in
theorem act1_busy {w : World} {col : Nat → Nat} {q M N : Nat} {d : Adr} {p : Pl} (h : Wd w col q M N d p) (kd : Nat) (s : ByteArray) (n : Int) (hk : kd % 9 = 1) (hk2 : kd < 256) (hr : p.xB.length = M) :
    Calls Try.prog 12 #[.pointer (some ⟨q, 0, none⟩), .agg #[.int .u8 (kd : Nat), .string s, .int .i64 n]] w fun e w' => e = .returned (.tuple #[]) ∧ Nx col w q M N p w' := by
  obtain ⟨col0, h0, g0, x0⟩ := wd_box h kd s n
  have hkI : (kd : Int) % 9 = 1 := by omega
  obtain ⟨h1, g1⟩ := h0.still (Turned.drew (Turned.refl _ _))
  have hput := lputB_busy h1.lkb hr (.int .i64 n)
  have c0 := h0.qb.c1
  have b0 := x0.c0
  have b1 := x0.c2
  have HE : Hid (∀ k, Nx col w q M N p ((w.alloc (.cells #[.int .u8 (kd : Nat), .string s, .int .i64 n] 28)).drewN k)) := fun k => by
    obtain ⟨h2, g2⟩ := h0.still ((Turned.refl _ _).drewN k)
    exact ⟨_, _, h2, g0.trans g2⟩
  clear h h0 g0 x0 h1 g1 hk hk2 hr
  go_enter Try.func12, Try.ntmps12
  go_wp2_with fail
  refine wp_region_noPanic ?_
  refine wp_region_held_drew (S := fun wx => wx.cell? ⟨q, 1, none⟩ = some (.pointer (some ⟨d.kb, 0, none⟩)) ∧ wx.cell? ⟨w.heap.size, 2, none⟩ = some (.int .i64 n)) (by kernel_rfl) (show _ ∧ _ from ⟨c0, b1⟩) (fun hHeld => ?_)
  refine take_first 0 (v := ?_) rfl (by kernel_rfl) (by kernel_rfl) (by kernel_rfl) (fun _ _ _ h => h) (Or.inl ⟨by rfl, by intro wx hSw; (try dsimp only at hSw); obtain ⟨hSw1, hSw2⟩ := hSw; go_simp; try with_reducible rfl⟩) (by assumption) ?_
  (try simp only [Act.put, List.setIfInBounds_toArray, List.set_cons_zero, List.set_cons_succ])
  refine take_first 1 (v := ?_) rfl (by kernel_rfl) (by kernel_rfl) (by kernel_rfl) (fun _ _ _ h => h) (Or.inl ⟨by rfl, by intro wx hSw; (try dsimp only at hSw); obtain ⟨hSw1, hSw2⟩ := hSw; go_simp; try with_reducible rfl⟩) (by assumption) ?_
  (try simp only [Act.put, List.setIfInBounds_toArray, List.set_cons_zero, List.set_cons_succ])
  refine take_first 2 (v := ?_) rfl (by kernel_rfl) (by kernel_rfl) (by kernel_rfl) (fun _ _ _ h => h) (Or.inl ⟨by rfl, by intro wx hSw; (try dsimp only at hSw); obtain ⟨hSw1, hSw2⟩ := hSw; go_simp; try with_reducible rfl⟩) (by assumption) ?_
  (try simp only [Act.put, List.setIfInBounds_toArray, List.set_cons_zero, List.set_cons_succ])
  refine take_first 3 (v := ?_) rfl (by kernel_rfl) (by kernel_rfl) (by kernel_rfl) (fun _ _ _ h => h) (Or.inl ⟨by rfl, by intro wx hSw; (try dsimp only at hSw); obtain ⟨hSw1, hSw2⟩ := hSw; go_simp; try with_reducible rfl⟩) (by assumption) ?_
  (try simp only [Act.put, List.setIfInBounds_toArray, List.set_cons_zero, List.set_cons_succ])
  refine take_first 4 (v := ?_) rfl (by kernel_rfl) (by kernel_rfl) (by kernel_rfl) (fun _ _ _ h => h) (Or.inl ⟨by rfl, by intro wx hSw; (try dsimp only at hSw); obtain ⟨hSw1, hSw2⟩ := hSw; go_simp; try with_reducible rfl⟩) (by assumption) ?_
  (try simp only [Act.put, List.setIfInBounds_toArray, List.set_cons_zero, List.set_cons_succ])
  refine take_first 5 (v := ?_) rfl (by kernel_rfl) (by kernel_rfl) (by kernel_rfl) (fun _ _ _ h => h) (Or.inl ⟨by rfl, by intro wx hSw; (try dsimp only at hSw); obtain ⟨hSw1, hSw2⟩ := hSw; go_simp; try with_reducible rfl⟩) (by assumption) ?_
  (try simp only [Act.put, List.setIfInBounds_toArray, List.set_cons_zero, List.set_cons_succ])
  refine comes_up 6 rfl (by kernel_rfl) (fun K hK => ?_)
  go_simp
  refine hput.mono ?_
  rintro e w2 ⟨rfl, m2, rfl⟩
  clear hput
  go_wp2_with fail
  refine hK.out _ _ ⟨c0, b1⟩ (fun hHeld => ?_)
  clear hK K
  (try simp only [Act.put, List.setIfInBounds_toArray, List.set_cons_zero, List.set_cons_succ])
  refine comes_up 7 rfl (by kernel_rfl) (fun K hK => ?_)
  go_simp
  refine hK.out _ _ ⟨c0, b1⟩ (fun hHeld => ?_)
  clear hK K
  (try simp only [Act.put, List.setIfInBounds_toArray, List.set_cons_zero, List.set_cons_succ])
  refine wpAnyH_done (by kernel_rfl) ?_ _
  refine NoPanic.normal ?_
  go_wp2
  go_end0
  exact ⟨rfl, HE.out _⟩
end Go.Proofs.Ythobbnmdpkginaa
