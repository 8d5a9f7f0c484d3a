/-
  What happens to two ends: something is taken; something would be put where there is no room.
-/
import Derived.Test.YthobbnmdpkginaaLAct
namespace Go.Proofs.Ythobbnmdpkginaa
open Go.RowKit
set_option linter.unusedVariables false
set_option linter.unusedSimpArgs false

set_option maxRecDepth 10000 in
theorem act6_none {w : World} {col : Nat → Nat} {q M N : Nat} {d : Adr} {p : Pl} (h : Wd w col q M N d p) (kd : Nat) (s : ByteArray) (n : Int) (hk : kd % 9 = 6) (hk2 : kd < 256) (hy : p.yA = []) :
    Calls Try.prog 12 #[.pointer (some ⟨q, 0, none⟩), .agg #[.int .u8 (kd : Nat), .string s, .int .i64 n]] w fun e w' => e = .returned (.tuple #[]) ∧ Nx col w q M N p w' := by
  obtain ⟨col0, h0, g0, x0⟩ := wd_box h kd s n
  have hkI : (kd : Int) % 9 = 6 := by omega
  have hlk := h0.lka
  rw [hy] at hlk
  have htake := ltakeA_none hlk
  have c0 := h0.qb.c0
  have b0 := x0.c0
  have HE : Hid (Nx col w q M N p _) := ⟨_, _, h0, g0⟩
  clear h h0 g0 x0 hk hk2 hy hlk
  go_enter Try.func12, Try.ntmps12
  go_wp2_with fail
  refine htake.mono ?_
  rintro e w2 ⟨rfl, rfl⟩
  go_wp2
  go_end0
  exact ⟨rfl, HE.out⟩
set_option maxRecDepth 10000 in
set_option maxHeartbeats 1000000 in
theorem act6_any {w : World} {col : Nat → Nat} {q M N : Nat} {d : Adr} {p : Pl} (h : Wd w col q M N d p) (kd : Nat) (s : ByteArray) (n : Int) (hk : kd % 9 = 6) (hk2 : kd < 256) (hl : p.gA.length ≤ 1000) (y : Value) (ys : List Value) (hy : p.yA = y :: ys) (hyk : Kd 3 y) :
    Calls Try.prog 12 #[.pointer (some ⟨q, 0, none⟩), .agg #[.int .u8 (kd : Nat), .string s, .int .i64 n]] w fun e w' => e = .returned (.tuple #[]) ∧ Nx col w q M N { p with yA := ys, gA := p.gA ++ [y] } w' := by
  obtain ⟨col0, h0, g0, x0⟩ := wd_box h kd s n
  have hkI : (kd : Int) % 9 = 6 := by omega
  have hlk := h0.lka
  rw [hy] at hlk
  have htake := ltakeA_any hlk
  have c0 := h0.qb.c0
  have b0 := x0.c0
  have H0 : Hid (Wd _ _ q M N d p) := h0
  have G0 : Hid (Gn col w _ _) := g0
  have HL : Hid (p.gA.length ≤ 1000) := hl
  have HK : Hid (Kd 3 y) := hyk
  obtain ⟨m, hm⟩ := kd_i hyk
  subst hm
  clear h h0 g0 x0 hk hk2 hy hlk hl hyk
  go_enter Try.func12, Try.ntmps12
  go_wp2_with fail
  refine htake.mono ?_
  rintro e w2 ⟨rfl, F2, l2, gg2⟩
  obtain ⟨h2, g2⟩ := H0.out.goA l2 gg2
  have c2 := h2.qb.c4
  obtain ⟨h3, g3⟩ := h2.still ((Turned.refl _ w2).alloc (.cells #[.int .i64 m] 3))
  obtain ⟨v', w5, hrun, hp5, hp6, ⟨ao, vn, vc, rfl⟩, hother, HE5⟩ := h3.app4 (.int .i64 m) HK.out HL.out w2.heap.size 1 (box1 w2 (.int .i64 m) 3) 33
  have HRUN : Hid ((Builtin.append_ #[33, 33] 33 #[d.l4, .slice (some ⟨w2.heap.size, 0, none⟩) 1 1]).run Try.prog (w2.alloc (.cells #[.int .i64 m] 3)) = .ok (.slice ao vn vc) w5) := hrun
  have HE : Hid (Nx col w q M N { p with yA := ys, gA := p.gA ++ [.int .i64 m] } (w5.setCell ⟨q, 4, none⟩ (.slice ao vn vc))) := ⟨_, _, HE5.out.1, ((G0.out.trans g2).trans g3).trans HE5.out.2⟩
  clear hrun HE5 hother h3 g3 h2 g2 l2 gg2 htake H0 G0 HL HK b0 c0
  have c2' : w2.cell? ⟨q, 4, none⟩ = some d.l4 := c2
  have hp5' : w5.cell? ⟨q, 4, none⟩ = some d.l4 := hp5
  clear c2 hp5
  go_wp2_with (first | (at_builtin; refine wpList_append_run rfl _ _ 33 33 rfl _ _ rfl rfl HRUN.out ?_))
  go_end0
  exact ⟨rfl, HE.out⟩
set_option maxRecDepth 10000 in
theorem act0_busy {w : World} {col : Nat → Nat} {q M N : Nat} {d : Adr} {p : Pl} (h : Wd w col q M N d p) (kd : Nat) (s : ByteArray) (n : Int) (hk : kd % 9 = 0) (hk2 : kd < 256) (hr : p.xA.length = M) :
    Calls Try.prog 12 #[.pointer (some ⟨q, 0, none⟩), .agg #[.int .u8 (kd : Nat), .string s, .int .i64 n]] w fun e w' => e = .returned (.tuple #[]) ∧ Nx col w q M N p w' := by
  obtain ⟨col0, h0, g0, x0⟩ := wd_box h kd s n
  have hkI : (kd : Int) % 9 = 0 := by omega
  obtain ⟨h1, g1⟩ := h0.still (Turned.drew (Turned.refl _ _))
  have hput := lputA_busy h1.lka hr (.string s)
  have c0 := h0.qb.c0
  have b0 := x0.c0
  have b1 := x0.c1
  have HE : Hid (∀ k, Nx col w q M N p ((w.alloc (.cells #[.int .u8 (kd : Nat), .string s, .int .i64 n] 28)).drewN k)) := fun k => by
    obtain ⟨h2, g2⟩ := h0.still ((Turned.refl _ _).drewN k)
    exact ⟨_, _, h2, g0.trans g2⟩
  clear h h0 g0 x0 h1 g1 hk hk2 hr
  go_enter Try.func12, Try.ntmps12
  go_wp2_with fail
  refine wp_region_noPanic ?_
  refine wp_region_held_drew (S := fun wx => wx.cell? ⟨q, 0, none⟩ = some (.pointer (some ⟨d.ka, 0, none⟩)) ∧ wx.cell? ⟨w.heap.size, 1, none⟩ = some (.string s)) (by kernel_rfl) (show _ ∧ _ from ⟨c0, b1⟩) (fun hHeld => ?_)
  refine take_first 0 (v := ?_) rfl (by kernel_rfl) (by kernel_rfl) (by kernel_rfl) (fun _ _ _ h => h) (Or.inl ⟨by rfl, by intro wx hSw; (try dsimp only at hSw); obtain ⟨hSw1, hSw2⟩ := hSw; go_simp; try with_reducible rfl⟩) (by assumption) ?_
  (try simp only [Act.put, List.setIfInBounds_toArray, List.set_cons_zero, List.set_cons_succ])
  refine take_first 1 (v := ?_) rfl (by kernel_rfl) (by kernel_rfl) (by kernel_rfl) (fun _ _ _ h => h) (Or.inl ⟨by rfl, by intro wx hSw; (try dsimp only at hSw); obtain ⟨hSw1, hSw2⟩ := hSw; go_simp; try with_reducible rfl⟩) (by assumption) ?_
  (try simp only [Act.put, List.setIfInBounds_toArray, List.set_cons_zero, List.set_cons_succ])
  refine take_first 2 (v := ?_) rfl (by kernel_rfl) (by kernel_rfl) (by kernel_rfl) (fun _ _ _ h => h) (Or.inl ⟨by rfl, by intro wx hSw; (try dsimp only at hSw); obtain ⟨hSw1, hSw2⟩ := hSw; go_simp; try with_reducible rfl⟩) (by assumption) ?_
  (try simp only [Act.put, List.setIfInBounds_toArray, List.set_cons_zero, List.set_cons_succ])
  refine take_first 3 (v := ?_) rfl (by kernel_rfl) (by kernel_rfl) (by kernel_rfl) (fun _ _ _ h => h) (Or.inl ⟨by rfl, by intro wx hSw; (try dsimp only at hSw); obtain ⟨hSw1, hSw2⟩ := hSw; go_simp; try with_reducible rfl⟩) (by assumption) ?_
  (try simp only [Act.put, List.setIfInBounds_toArray, List.set_cons_zero, List.set_cons_succ])
  refine take_first 4 (v := ?_) rfl (by kernel_rfl) (by kernel_rfl) (by kernel_rfl) (fun _ _ _ h => h) (Or.inl ⟨by rfl, by intro wx hSw; (try dsimp only at hSw); obtain ⟨hSw1, hSw2⟩ := hSw; go_simp; try with_reducible rfl⟩) (by assumption) ?_
  (try simp only [Act.put, List.setIfInBounds_toArray, List.set_cons_zero, List.set_cons_succ])
  refine take_first 5 (v := ?_) rfl (by kernel_rfl) (by kernel_rfl) (by kernel_rfl) (fun _ _ _ h => h) (Or.inl ⟨by rfl, by intro wx hSw; (try dsimp only at hSw); obtain ⟨hSw1, hSw2⟩ := hSw; go_simp; try with_reducible rfl⟩) (by assumption) ?_
  (try simp only [Act.put, List.setIfInBounds_toArray, List.set_cons_zero, List.set_cons_succ])
  refine comes_up 6 rfl (by kernel_rfl) (fun K hK => ?_)
  go_simp
  refine hput.mono ?_
  rintro e w2 ⟨rfl, m2, rfl⟩
  clear hput
  go_wp2_with fail
  refine hK.out _ _ ⟨c0, b1⟩ (fun hHeld => ?_)
  clear hK K
  (try simp only [Act.put, List.setIfInBounds_toArray, List.set_cons_zero, List.set_cons_succ])
  refine comes_up 7 rfl (by kernel_rfl) (fun K hK => ?_)
  go_simp
  refine hK.out _ _ ⟨c0, b1⟩ (fun hHeld => ?_)
  clear hK K
  (try simp only [Act.put, List.setIfInBounds_toArray, List.set_cons_zero, List.set_cons_succ])
  refine wpAnyH_done (by kernel_rfl) ?_ _
  refine NoPanic.normal ?_
  go_wp2
  go_end0
  exact ⟨rfl, HE.out _⟩
set_option maxRecDepth 10000 in
theorem act8_none {w : World} {col : Nat → Nat} {q M N : Nat} {d : Adr} {p : Pl} (h : Wd w col q M N d p) (kd : Nat) (s : ByteArray) (n : Int) (hk : kd % 9 = 8) (hk2 : kd < 256) (hl : p.tB = []) :
    Calls Try.prog 12 #[.pointer (some ⟨q, 0, none⟩), .agg #[.int .u8 (kd : Nat), .string s, .int .i64 n]] w fun e w' => e = .returned (.tuple #[]) ∧ Nx col w q M N p w' := by
  obtain ⟨col0, h0, g0, x0⟩ := wd_box h kd s n
  have hkI : (kd : Int) % 9 = 8 := by omega
  obtain ⟨ao, cap, hv⟩ := h.shape7
  rw [hl] at hv
  have c0 := h0.qb.c7
  rw [hv] at c0
  have b0 := x0.c0
  have HE : Hid (Nx col w q M N p _) := ⟨_, _, h0, g0⟩
  clear h h0 g0 x0 hk hk2 hl hv
  simp only [List.length_nil] at c0
  go_enter Try.func12, Try.ntmps12
  go_wp2
  go_end0
  exact ⟨rfl, HE.out⟩
set_option maxRecDepth 10000 in
theorem act8_any {w : World} {col : Nat → Nat} {q M N : Nat} {d : Adr} {p : Pl} (h : Wd w col q M N d p) (kd : Nat) (s : ByteArray) (n : Int) (hk : kd % 9 = 8) (hk2 : kd < 256) (x : Px) (r : List Px) (hx : p.tB = x :: r) :
    Calls Try.prog 12 #[.pointer (some ⟨q, 0, none⟩), .agg #[.int .u8 (kd : Nat), .string s, .int .i64 n]] w fun e w' => e = .returned (.tuple #[]) ∧ Nx col w q M N { p with tB := r } w' := by
  obtain ⟨col0, h0, g0, x0⟩ := wd_box h kd s n
  have hkI : (kd : Int) % 9 = 8 := by omega
  obtain ⟨ao, L, cap, ao', n', cap', hv, hL, hsl, HE5⟩ := h0.drop7 hx
  have c0 := h0.qb.c7
  have hfr := h0.qb.fr 7
  rw [hv] at c0
  have b0 := x0.c0
  have HE : Hid (Nx col w q M N { p with tB := r } _) := ⟨_, _, HE5.out.1, g0.trans HE5.out.2⟩
  clear h h0 g0 x0 hk hk2 hv HE5 hx
  go_enter Try.func12, Try.ntmps12
  go_wp2
  go_end0
  exact ⟨rfl, HE.out⟩
end Go.Proofs.Ythobbnmdpkginaa
