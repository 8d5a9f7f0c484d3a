/-
  The call In of an end of a link, where it is refused.
-/
import Derived.Test.YthobbnmdpkginaaLInB
namespace Go.Proofs.Ythobbnmdpkginaa
open Go.RowKit
set_option linter.unusedVariables false
set_option linter.unusedSimpArgs false

section
variable {w : World} {F : Nat → Prop} {k : Nat} {vn : Nat} {vp : Int} {M N ack next : Nat} {xs ys : List Value}
set_option maxRecDepth 10000 in
theorem linB_stale (h : Lnk w 3 9 F k vn vp M N ack xs next ys) (un : Nat) (up : Int) (hne : ¬ (un = vn ∧ up = vp)) (base : Nat) (v : Value) (hv : One v) (a : Nat) :
    Calls Try.prog 14 #[.pointer (some ⟨k, 0, none⟩), .agg #[.int .u64 (un : Nat), .int .i64 up, .int .u64 (base : Nat), v, .int .u64 (a : Nat)]] w fun e w' => e = .returned (.tuple #[.int .i64 0, .int .i64 9]) ∧ Turned (fun _ => False) w w' := by
  obtain ⟨hv1, hv2⟩ := hv
  obtain ⟨qs, qr, FS, FR, h0, hF⟩ := h
  obtain ⟨o, ho⟩ : ∃ o : Obj, o = .cells #[.int .u64 (un : Nat), .int .i64 up, .int .u64 (base : Nat), v, .int .u64 (a : Nat)] 45 := ⟨_, rfl⟩
  have t0 : Turned (fun _ => False) w (w.alloc o) := (Turned.refl _ w).alloc o
  have HT : Hid (∀ q, Turned (fun _ => False) w ((w.alloc o).drewN q)) := fun q => t0.drewN q
  have hk := t0.block k h0.klt (fun f => f)
  have e0 : (w.alloc o).cell? ⟨k, 0, none⟩ = _ := (cell_block hk).trans h0.c0
  have e1 : (w.alloc o).cell? ⟨k, 1, none⟩ = _ := (cell_block hk).trans h0.c1
  obtain ⟨b0, b1, -, -, -⟩ := box5 w (.int .u64 (un : Nat)) (.int .i64 up) (.int .u64 (base : Nat)) v (.int .u64 (a : Nat)) 45
  clear hk t0 h0 hF
  subst ho
  by_cases hn : un = vn
  · subst hn
    have hp : (up == vp) = false := by simpa using hne
    clear hne
    go_enter Try.func14, Try.ntmps14
    go_wp2_with fail
    go_quiet (fail)
    go_wp2
    go_ret2
    exact ⟨rfl, HT.out _⟩
  · have hp : ((un : Int) == (vn : Int)) = false := by simp; omega
    clear hne hn
    go_enter Try.func14, Try.ntmps14
    go_wp2_with fail
    go_quiet (fail)
    go_wp2
    go_ret2
    exact ⟨rfl, HT.out _⟩
end
section
variable {w : World} {F : Nat → Prop} {k : Nat} {vn : Nat} {vp : Int} {M N ack next : Nat} {xs ys : List Value}
set_option maxRecDepth 10000 in
set_option maxHeartbeats 1000000 in
theorem linB_arg (h : Lnk w 3 9 F k vn vp M N ack xs next ys) (base : Nat) (v : Value) (hv : One v)
    (a : Nat) (ha : ack + min N xs.length < a) (ha2 : a < 18446744073709551616) :
    Calls Try.prog 14 #[.pointer (some ⟨k, 0, none⟩), .agg #[.int .u64 (vn : Nat), .int .i64 vp, .int .u64 (base : Nat), v, .int .u64 (a : Nat)]] w fun e w' => e = .returned (.tuple #[.int .i64 0, .int .i64 1]) ∧ Turned (fun _ => False) w w' := by
  obtain ⟨hv1, hv2⟩ := hv
  obtain ⟨qs, qr, FS, FR, h0, hF⟩ := h
  obtain ⟨o, ho⟩ : ∃ o : Obj, o = .cells #[.int .u64 (vn : Nat), .int .i64 vp, .int .u64 (base : Nat), v, .int .u64 (a : Nat)] 45 := ⟨_, rfl⟩
  have t0 : Turned (fun _ => False) w (w.alloc o) := (Turned.refl _ w).alloc o
  have HT : Hid (∀ q, Turned (fun _ => False) w ((w.alloc o).drewN q)) := fun q => t0.drewN q
  have hk := t0.block k h0.klt (fun f => f)
  have e0 : (w.alloc o).cell? ⟨k, 0, none⟩ = _ := (cell_block hk).trans h0.c0
  have e1 : (w.alloc o).cell? ⟨k, 1, none⟩ = _ := (cell_block hk).trans h0.c1
  have e2 : (w.alloc o).cell? ⟨k, 2, none⟩ = _ := (cell_block hk).trans h0.c2
  obtain ⟨b0, b1, -, -, b4⟩ := box5 w (.int .u64 (vn : Nat)) (.int .i64 vp) (.int .u64 (base : Nat)) v (.int .u64 (a : Nat)) 45
  have hack := fun q => sackI_arg (w := (w.alloc o).drewN q) (h0.snd.frame (fun b hb => t0.block b (h0.snd.lt b hb) (fun f => f))) a ha ha2
  clear hk t0 h0 hF
  subst ho
  go_enter Try.func14, Try.ntmps14
  go_wp2_with fail
  go_quiet (fail)
  go_wp2_with fail
  have hcall0 := hack (nq + 1)
  refine wp_region_noPanic ?_
  refine wp_region_held_drew (S := fun wx => wx.cell? ⟨k, 2, none⟩ = some (.pointer (some ⟨qs, 0, none⟩)) ∧ wx.cell? ⟨w.heap.size, 4, none⟩ = some (.int .u64 (a : Nat))) (by kernel_rfl) (show _ ∧ _ from ⟨e2, b4⟩) (fun hHeld => ?_)
  refine take_first 0 (v := ?_) rfl (by kernel_rfl) (by kernel_rfl) (by kernel_rfl) (fun _ _ _ h => h) (Or.inl ⟨by rfl, by intro wx hSw; (try dsimp only at hSw); obtain ⟨hSw1, hSw2⟩ := hSw; go_simp; try with_reducible rfl⟩) (by assumption) ?_
  (try simp only [Act.put, List.setIfInBounds_toArray, List.set_cons_zero, List.set_cons_succ])
  refine take_first 1 (v := ?_) rfl (by kernel_rfl) (by kernel_rfl) (by kernel_rfl) (fun _ _ _ h => h) (Or.inl ⟨by rfl, by intro wx hSw; (try dsimp only at hSw); obtain ⟨hSw1, hSw2⟩ := hSw; go_simp; try with_reducible rfl⟩) (by assumption) ?_
  (try simp only [Act.put, List.setIfInBounds_toArray, List.set_cons_zero, List.set_cons_succ])
  refine take_first 2 (v := ?_) rfl (by kernel_rfl) (by kernel_rfl) (by kernel_rfl) (fun _ _ _ h => h) (Or.inl ⟨by rfl, by intro wx hSw; (try dsimp only at hSw); obtain ⟨hSw1, hSw2⟩ := hSw; go_simp; try with_reducible rfl⟩) (by assumption) ?_
  (try simp only [Act.put, List.setIfInBounds_toArray, List.set_cons_zero, List.set_cons_succ])
  refine take_first 3 (v := ?_) rfl (by kernel_rfl) (by kernel_rfl) (by kernel_rfl) (fun _ _ _ h => h) (Or.inl ⟨by rfl, by intro wx hSw; (try dsimp only at hSw); obtain ⟨hSw1, hSw2⟩ := hSw; go_simp; try with_reducible rfl⟩) (by assumption) ?_
  (try simp only [Act.put, List.setIfInBounds_toArray, List.set_cons_zero, List.set_cons_succ])
  refine take_first 4 (v := ?_) rfl (by kernel_rfl) (by kernel_rfl) (by kernel_rfl) (fun _ _ _ h => h) (Or.inl ⟨by rfl, by intro wx hSw; (try dsimp only at hSw); obtain ⟨hSw1, hSw2⟩ := hSw; go_simp; try with_reducible rfl⟩) (by assumption) ?_
  (try simp only [Act.put, List.setIfInBounds_toArray, List.set_cons_zero, List.set_cons_succ])
  refine take_first 5 (v := ?_) rfl (by kernel_rfl) (by kernel_rfl) (by kernel_rfl) (fun _ _ _ h => h) (Or.inl ⟨by rfl, by intro wx hSw; (try dsimp only at hSw); obtain ⟨hSw1, hSw2⟩ := hSw; go_simp; try with_reducible rfl⟩) (by assumption) ?_
  (try simp only [Act.put, List.setIfInBounds_toArray, List.set_cons_zero, List.set_cons_succ])
  refine comes_up 6 rfl (by kernel_rfl) (fun K hK => ?_)
  go_simp
  refine (calls_atB hcall0 rfl).mono ?_
  rintro e w2 ⟨rfl, m2, rfl⟩
  go_wp2_with fail
  refine hK.out _ _ ⟨e2, b4⟩ (fun hHeld => ?_)
  clear hK K
  (try simp only [Act.put, List.setIfInBounds_toArray, List.set_cons_zero, List.set_cons_succ])
  refine comes_up 7 rfl (by kernel_rfl) (fun K hK => ?_)
  go_simp
  refine hK.out _ _ ⟨e2, b4⟩ (fun hHeld => ?_)
  clear hK K
  (try simp only [Act.put, List.setIfInBounds_toArray, List.set_cons_zero, List.set_cons_succ])
  refine wpAnyH_done (by kernel_rfl) ?_ _
  refine NoPanic.normal ?_
  go_wp2
  go_ret2
  exact ⟨rfl, HT.out _⟩
set_option maxRecDepth 10000 in
set_option maxHeartbeats 1000000 in
theorem linB_base (h : Lnk w 3 9 F k vn vp M N ack xs next ys) (base : Nat) (hb : next < base) (v : Value) (hv : One v)
    (a : Nat) (ha : a ≤ ack + min N xs.length) (ha2 : a < 18446744073709551616) :
    Calls Try.prog 14 #[.pointer (some ⟨k, 0, none⟩), .agg #[.int .u64 (vn : Nat), .int .i64 vp, .int .u64 (base : Nat), v, .int .u64 (a : Nat)]] w fun e w' => e = .returned (.tuple #[.int .i64 0, .int .i64 1]) ∧ ∃ F', Lnk w' 3 9 F' k vn vp M N (max ack a) (xs.drop (a - ack)) next ys ∧ Goes2 F w F' w' := by
  obtain ⟨hv1, hv2⟩ := hv
  obtain ⟨o, ho⟩ : ∃ o : Obj, o = .cells #[.int .u64 (vn : Nat), .int .i64 vp, .int .u64 (base : Nat), v, .int .u64 (a : Nat)] 45 := ⟨_, rfl⟩
  have hlt := h.lt
  have t0 : Turned (fun _ => False) w (w.alloc o) := (Turned.refl _ w).alloc o
  have hbx := box5 w (.int .u64 (vn : Nat)) (.int .i64 vp) (.int .u64 (base : Nat)) v (.int .u64 (a : Nat)) 45
  rw [← ho] at hbx
  obtain ⟨qs, qr, FS, FR, h0, hF⟩ := h
  have hs0 : (w.alloc o).heap.size = w.heap.size + 1 := by simp
  have h1 : ∀ q, LnkAt ((w.alloc o).drewN q) 3 9 k qs qr FS FR vn vp M N ack xs next ys := fun q => h0.frame (fun b hb => t0.block b (hlt b ((hF b).2 hb)) (fun f => f))
  have hBF : ¬ F w.heap.size := fun hf => by have := hlt _ hf; omega
  have e0 : (w.alloc o).cell? ⟨k, 0, none⟩ = _ := (h1 0).c0
  have e1 : (w.alloc o).cell? ⟨k, 1, none⟩ = _ := (h1 0).c1
  have e2 : (w.alloc o).cell? ⟨k, 2, none⟩ = _ := (h1 0).c2
  have e3 : (w.alloc o).cell? ⟨k, 3, none⟩ = _ := (h1 0).c3
  have hack := fun q => in_ackB (h1 q) hF a ha ha2 w.heap.size (by show _ < (w.alloc o).heap.size; omega) hBF
  obtain ⟨b0, b1, b2, b3, b4⟩ := hbx
  have HG : Hid (∀ q, Goes2 F w F ((w.alloc o).drewN q)) := fun q => ⟨(t0.drewN q).mono (fun _ f => f.elim), fun _ h => .inl h⟩
  clear h1 h0 t0 hlt hs0
  subst ho
  go_enter Try.func14, Try.ntmps14
  go_wp2_with fail
  go_quiet (fail)
  go_wp2_with fail
  obtain ⟨ev, hev, hcall0⟩ := hack (nq + 1)
  have HG0 : Hid _ := HG.out (nq + 1)
  clear hack HG e0 e1 b0 b1 ha ha2
  refine wp_region_noPanic ?_
  refine wp_region_held_drew (S := fun wx => wx.cell? ⟨k, 2, none⟩ = some (.pointer (some ⟨qs, 0, none⟩)) ∧ wx.cell? ⟨w.heap.size, 4, none⟩ = some (.int .u64 (a : Nat))) (by kernel_rfl) (show _ ∧ _ from ⟨e2, b4⟩) (fun hHeld => ?_)
  refine take_first 0 (v := ?_) rfl (by kernel_rfl) (by kernel_rfl) (by kernel_rfl) (fun _ _ _ h => h) (Or.inl ⟨by rfl, by intro wx hSw; (try dsimp only at hSw); obtain ⟨hSw1, hSw2⟩ := hSw; go_simp; try with_reducible rfl⟩) (by assumption) ?_
  (try simp only [Act.put, List.setIfInBounds_toArray, List.set_cons_zero, List.set_cons_succ])
  refine take_first 1 (v := ?_) rfl (by kernel_rfl) (by kernel_rfl) (by kernel_rfl) (fun _ _ _ h => h) (Or.inl ⟨by rfl, by intro wx hSw; (try dsimp only at hSw); obtain ⟨hSw1, hSw2⟩ := hSw; go_simp; try with_reducible rfl⟩) (by assumption) ?_
  (try simp only [Act.put, List.setIfInBounds_toArray, List.set_cons_zero, List.set_cons_succ])
  refine take_first 2 (v := ?_) rfl (by kernel_rfl) (by kernel_rfl) (by kernel_rfl) (fun _ _ _ h => h) (Or.inl ⟨by rfl, by intro wx hSw; (try dsimp only at hSw); obtain ⟨hSw1, hSw2⟩ := hSw; go_simp; try with_reducible rfl⟩) (by assumption) ?_
  (try simp only [Act.put, List.setIfInBounds_toArray, List.set_cons_zero, List.set_cons_succ])
  refine take_first 3 (v := ?_) rfl (by kernel_rfl) (by kernel_rfl) (by kernel_rfl) (fun _ _ _ h => h) (Or.inl ⟨by rfl, by intro wx hSw; (try dsimp only at hSw); obtain ⟨hSw1, hSw2⟩ := hSw; go_simp; try with_reducible rfl⟩) (by assumption) ?_
  (try simp only [Act.put, List.setIfInBounds_toArray, List.set_cons_zero, List.set_cons_succ])
  refine take_first 4 (v := ?_) rfl (by kernel_rfl) (by kernel_rfl) (by kernel_rfl) (fun _ _ _ h => h) (Or.inl ⟨by rfl, by intro wx hSw; (try dsimp only at hSw); obtain ⟨hSw1, hSw2⟩ := hSw; go_simp; try with_reducible rfl⟩) (by assumption) ?_
  (try simp only [Act.put, List.setIfInBounds_toArray, List.set_cons_zero, List.set_cons_succ])
  refine take_first 5 (v := ?_) rfl (by kernel_rfl) (by kernel_rfl) (by kernel_rfl) (fun _ _ _ h => h) (Or.inl ⟨by rfl, by intro wx hSw; (try dsimp only at hSw); obtain ⟨hSw1, hSw2⟩ := hSw; go_simp; try with_reducible rfl⟩) (by assumption) ?_
  (try simp only [Act.put, List.setIfInBounds_toArray, List.set_cons_zero, List.set_cons_succ])
  refine comes_up 6 rfl (by kernel_rfl) (fun K hK => ?_)
  go_simp
  refine (calls_atB hcall0 rfl).mono ?_
  rintro e w2 ⟨rfl, k1, k2, HH⟩
  have f2 := (k2 2).trans e2
  have f3 := (k2 3).trans e3
  have d2 := (k1 2).trans b2
  have d3 := (k1 3).trans b3
  have d4 := (k1 4).trans b4
  clear k1 k2 hcall0
  go_wp2_with fail
  refine hK.out _ _ ⟨f2, d4⟩ (fun hHeld => ?_)
  clear hK K
  (try simp only [Act.put, List.setIfInBounds_toArray, List.set_cons_zero, List.set_cons_succ])
  refine comes_up 7 rfl (by kernel_rfl) (fun K hK => ?_)
  go_simp
  refine hK.out _ _ ⟨f2, d4⟩ (fun hHeld => ?_)
  clear hK K
  (try simp only [Act.put, List.setIfInBounds_toArray, List.set_cons_zero, List.set_cons_succ])
  refine wpAnyH_done (by kernel_rfl) ?_ _
  refine NoPanic.normal ?_
  clear e2 e3 b2 b3 b4 f2 d4
  go_wp2_with fail
  have hoff : Calls Try.prog 32 #[.pointer (some ⟨qr, 0, none⟩), .int .u64 (base : Nat), v] w2.drew fun e w' => e = .returned (.tuple #[.int .i64 0, .int .i64 1]) ∧ w2.drew = w' := by
    obtain ⟨FS', h2, g2⟩ := HH.out
    exact vofferS_err (h2.rcv.frame (w' := w2.drew) (fun _ _ => rfl)) base hb v
  clear hb
  refine wp_region_noPanic ?_
  refine wp_region_held_drew (S := fun wx => wx.cell? ⟨k, 3, none⟩ = some (.pointer (some ⟨qr, 0, none⟩)) ∧ wx.cell? ⟨w.heap.size, 2, none⟩ = some (.int .u64 (base : Nat)) ∧ wx.cell? ⟨w.heap.size, 3, none⟩ = some v) (by kernel_rfl) (show _ ∧ _ ∧ _ from ⟨f3, d2, d3⟩) (fun hHeld => ?_)
  refine take_first 0 (v := ?_) rfl (by kernel_rfl) (by kernel_rfl) (by kernel_rfl) (fun _ _ _ h => h) (Or.inl ⟨by rfl, by intro wx hSw; (try dsimp only at hSw); obtain ⟨hSw1, hSw2, hSw3⟩ := hSw; go_simp; try with_reducible rfl⟩) (by assumption) ?_
  (try simp only [Act.put, List.setIfInBounds_toArray, List.set_cons_zero, List.set_cons_succ])
  refine take_first 1 (v := ?_) rfl (by kernel_rfl) (by kernel_rfl) (by kernel_rfl) (fun _ _ _ h => h) (Or.inl ⟨by rfl, by intro wx hSw; (try dsimp only at hSw); obtain ⟨hSw1, hSw2, hSw3⟩ := hSw; go_simp; try with_reducible rfl⟩) (by assumption) ?_
  (try simp only [Act.put, List.setIfInBounds_toArray, List.set_cons_zero, List.set_cons_succ])
  refine take_first 2 (v := ?_) rfl (by kernel_rfl) (by kernel_rfl) (by kernel_rfl) (fun _ _ _ h => h) (Or.inl ⟨by rfl, by intro wx hSw; (try dsimp only at hSw); obtain ⟨hSw1, hSw2, hSw3⟩ := hSw; go_simp; try with_reducible rfl⟩) (by assumption) ?_
  (try simp only [Act.put, List.setIfInBounds_toArray, List.set_cons_zero, List.set_cons_succ])
  refine take_first 3 (v := ?_) rfl (by kernel_rfl) (by kernel_rfl) (by kernel_rfl) (fun _ _ _ h => h) (Or.inl ⟨by rfl, by intro wx hSw; (try dsimp only at hSw); obtain ⟨hSw1, hSw2, hSw3⟩ := hSw; go_simp; try with_reducible rfl⟩) (by assumption) ?_
  (try simp only [Act.put, List.setIfInBounds_toArray, List.set_cons_zero, List.set_cons_succ])
  refine take_first 4 (v := ?_) rfl (by kernel_rfl) (by kernel_rfl) (by kernel_rfl) (fun _ _ _ h => h) (Or.inl ⟨by rfl, by intro wx hSw; (try dsimp only at hSw); obtain ⟨hSw1, hSw2, hSw3⟩ := hSw; go_simp; try with_reducible rfl⟩) (by assumption) ?_
  (try simp only [Act.put, List.setIfInBounds_toArray, List.set_cons_zero, List.set_cons_succ])
  refine take_first 5 (v := ?_) rfl (by kernel_rfl) (by kernel_rfl) (by kernel_rfl) (fun _ _ _ h => h) (Or.inl ⟨by rfl, by intro wx hSw; (try dsimp only at hSw); obtain ⟨hSw1, hSw2, hSw3⟩ := hSw; go_simp; try with_reducible rfl⟩) (by assumption) ?_
  (try simp only [Act.put, List.setIfInBounds_toArray, List.set_cons_zero, List.set_cons_succ])
  refine take_first 6 (v := ?_) rfl (by kernel_rfl) (by kernel_rfl) (by kernel_rfl) (fun _ _ _ h => h) (Or.inl ⟨by rfl, by intro wx hSw; (try dsimp only at hSw); obtain ⟨hSw1, hSw2, hSw3⟩ := hSw; go_simp; try with_reducible rfl⟩) (by assumption) ?_
  (try simp only [Act.put, List.setIfInBounds_toArray, List.set_cons_zero, List.set_cons_succ])
  refine take_first 7 (v := ?_) rfl (by kernel_rfl) (by kernel_rfl) (by kernel_rfl) (fun _ _ _ h => h) (Or.inl ⟨by rfl, by intro wx hSw; (try dsimp only at hSw); obtain ⟨hSw1, hSw2, hSw3⟩ := hSw; go_simp; try with_reducible rfl⟩) (by assumption) ?_
  (try simp only [Act.put, List.setIfInBounds_toArray, List.set_cons_zero, List.set_cons_succ])
  refine comes_up 8 rfl (by kernel_rfl) (fun K hK => ?_)
  go_simp
  refine hoff.mono ?_
  rintro e w3 ⟨rfl, rfl⟩
  go_wp2_with fail
  refine hK.out _ _ ⟨f3, d2, d3⟩ (fun hHeld => ?_)
  clear hK K
  (try simp only [Act.put, List.setIfInBounds_toArray, List.set_cons_zero, List.set_cons_succ])
  refine take_first 9 (v := ?_) rfl (by kernel_rfl) (by kernel_rfl) (by kernel_rfl) (fun _ _ _ h => h) (Or.inl ⟨by rfl, by intro wx hSw; (try dsimp only at hSw); obtain ⟨hSw1, hSw2, hSw3⟩ := hSw; go_simp; try with_reducible rfl⟩) (by assumption) ?_
  (try simp only [Act.put, List.setIfInBounds_toArray, List.set_cons_zero, List.set_cons_succ])
  refine take_first 10 (v := ?_) rfl (by kernel_rfl) (by kernel_rfl) (by kernel_rfl) (fun _ _ _ h => h) (Or.inl ⟨by rfl, by intro wx hSw; (try dsimp only at hSw); obtain ⟨hSw1, hSw2, hSw3⟩ := hSw; go_simp; try with_reducible rfl⟩) (by assumption) ?_
  (try simp only [Act.put, List.setIfInBounds_toArray, List.set_cons_zero, List.set_cons_succ])
  refine take_first 11 (v := ?_) rfl (by kernel_rfl) (by kernel_rfl) (by kernel_rfl) (fun _ _ _ h => h) (Or.inl ⟨by rfl, by intro wx hSw; (try dsimp only at hSw); obtain ⟨hSw1, hSw2, hSw3⟩ := hSw; go_simp; try with_reducible rfl⟩) (by assumption) ?_
  (try simp only [Act.put, List.setIfInBounds_toArray, List.set_cons_zero, List.set_cons_succ])
  refine take_first 12 (v := ?_) rfl (by kernel_rfl) (by kernel_rfl) (by kernel_rfl) (fun _ _ _ h => h) (Or.inl ⟨by rfl, by intro wx hSw; (try dsimp only at hSw); obtain ⟨hSw1, hSw2, hSw3⟩ := hSw; go_simp; try with_reducible rfl⟩) (by assumption) ?_
  (try simp only [Act.put, List.setIfInBounds_toArray, List.set_cons_zero, List.set_cons_succ])
  refine wpAnyH_done (by kernel_rfl) ?_ _
  refine NoPanic.normal ?_
  go_wp2
  go_ret2
  refine ⟨rfl, ?_⟩
  obtain ⟨FS', h2, g2⟩ := HH.out
  exact ⟨_, ⟨qs, qr, FS', FR, h2.frame (fun _ _ => rfl), fun b => Iff.rfl⟩, HG0.out.trans ⟨g2.turned.drew, g2.foot⟩⟩
end
end Go.Proofs.Ythobbnmdpkginaa
