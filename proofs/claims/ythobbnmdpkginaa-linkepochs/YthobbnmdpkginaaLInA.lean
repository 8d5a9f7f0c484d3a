/-
  The call In of an end of a link.
-/
import Derived.Test.YthobbnmdpkginaaLOutA
import Derived.Laws.StructEq
namespace Go.Proofs.Ythobbnmdpkginaa
open Go.RowKit
set_option linter.unusedVariables false
set_option linter.unusedSimpArgs false

theorem calls_atA {P : Program} {f : Nat} {args : Array Value} {w wx : World} {R : Ending → World → Prop} (h : Calls P f args w R) (e : wx = w) : Calls P f args wx R := e ▸ h
/-- The sender's part of In. -/
theorem in_ackA {w : World} {F : Nat → Prop} {k qs qr : Nat} {FS FR : Nat → Prop} {vn : Nat} {vp : Int} {M N ack next : Nat} {xs ys : List Value} (h : LnkAt w 9 3 k qs qr FS FR vn vp M N ack xs next ys) (hF : ∀ b, F b ↔ b = k ∨ FS b ∨ FR b)
    (a : Nat) (ha : a ≤ ack + min N xs.length) (ha2 : a < 18446744073709551616) (B : Nat) (hB : B < w.heap.size) (hBF : ¬ F B) :
    ∃ ev : Int, (ev == 1) = false ∧ Calls Try.prog 34 #[.pointer (some ⟨qs, 0, none⟩), .int .u64 (a : Nat)] w fun e w' => e = .returned (.int .i64 ev) ∧ (∀ o, w'.cell? ⟨B, o, none⟩ = w.cell? ⟨B, o, none⟩) ∧ (∀ o, w'.cell? ⟨k, o, none⟩ = w.cell? ⟨k, o, none⟩) ∧ Hid (∃ FS', LnkAt w' 9 3 k qs qr FS' FR vn vp M N (max ack a) (xs.drop (a - ack)) next ys ∧ Goes2 F w (fun b => b = k ∨ FS' b ∨ FR b) w') := by
  obtain ⟨ev, hev, hc⟩ := sackS_ok h.snd a ha ha2
  refine ⟨ev, hev, hc.mono ?_⟩
  rintro e w' ⟨rfl, FS', s', g'⟩
  exact ⟨rfl, fun o => cell_block (g'.turned.block B hB (fun hf => hBF ((hF B).2 (.inr (.inl hf))))), fun o => cell_block (g'.turned.block k h.klt h.ks), FS', h.sent s' g', sent_foot hF g'⟩
/-- The receiver's part of In. -/
theorem in_offA {w : World} {F : Nat → Prop} {k qs qr : Nat} {FS FR : Nat → Prop} {vn : Nat} {vp : Int} {M N ack next : Nat} {xs ys : List Value} (h : LnkAt w 9 3 k qs qr FS FR vn vp M N ack xs next ys) (hF : ∀ b, F b ↔ b = k ∨ FS b ∨ FR b)
    (base : Nat) (hb : base ≤ next) (hnx : next < 1000000000000000000) (ao : Option Addr) (n cap : Nat) (zs : List Value) (hy : Tx w 3 (.slice ao n cap) zs) (hsep : 0 < n → ∀ b, (Value.slice ao n cap).ownBlock = some b → ¬ F b) (c : Nat) (hc : c = min (n - (next - base)) (M - ys.length))
    (B : Nat) (hB : B < w.heap.size) (hBF : ¬ F B) :
    Calls Try.prog 35 #[.pointer (some ⟨qr, 0, none⟩), .int .u64 (base : Nat), .slice ao n cap] w fun e w' => e = .returned (.tuple #[.int .i64 (c : Nat), .int .i64 0]) ∧ (∀ o, w'.cell? ⟨B, o, none⟩ = w.cell? ⟨B, o, none⟩) ∧ (∀ o, w'.cell? ⟨k, o, none⟩ = w.cell? ⟨k, o, none⟩) ∧ Hid (∃ F', Lnk w' 9 3 F' k vn vp M N ack xs (next + c) (ys ++ (zs.drop (next - base)).take c) ∧ Goes2 F w F' w') := by
  refine (vofferI_any h.rcv base hb hnx ao n cap zs hy (fun h0 b hb hf => hsep h0 b hb ((hF b).2 (.inr (.inr hf)))) c hc).mono ?_
  rintro e w' ⟨rfl, FR', r', g'⟩
  exact ⟨rfl, fun o => cell_block (g'.turned.block B hB (fun hf => hBF ((hF B).2 (.inr (.inr hf))))), fun o => cell_block (g'.turned.block k h.klt h.kr), _, ⟨qs, qr, FS, FR', h.came r' g', fun b => Iff.rfl⟩, came_foot hF g'⟩

section
variable {w : World} {F : Nat → Prop} {k : Nat} {vn : Nat} {vp : Int} {M N ack next : Nat} {xs ys : List Value}
set_option maxRecDepth 10000 in
set_option maxHeartbeats 1000000 in
theorem linA_any (h : Lnk w 9 3 F k vn vp M N ack xs next ys) (base : Nat) (hb : base ≤ next) (hnx : next < 1000000000000000000) (ao : Option Addr) (n cap : Nat) (zs : List Value) (hy : Tx w 3 (.slice ao n cap) zs) (hsep : 0 < n → ∀ b, (Value.slice ao n cap).ownBlock = some b → ¬ F b)
    (a : Nat) (ha : a ≤ ack + min N xs.length) (ha2 : a < 18446744073709551616) (c : Nat) (hc : c = min (n - (next - base)) (M - ys.length)) :
    Calls Try.prog 16 #[.pointer (some ⟨k, 0, none⟩), .agg #[.int .u64 (vn : Nat), .int .i64 vp, .int .u64 (base : Nat), .slice ao n cap, .int .u64 (a : Nat)]] w fun e w' => e = .returned (.tuple #[.int .i64 (c : Nat), .int .i64 0]) ∧ ∃ F', Lnk w' 9 3 F' k vn vp M N (max ack a) (xs.drop (a - ack)) (next + c) (ys ++ (zs.drop (next - base)).take c) ∧ Goes2 F w F' w' := by
  obtain ⟨o, ho⟩ : ∃ o : Obj, o = .cells #[.int .u64 (vn : Nat), .int .i64 vp, .int .u64 (base : Nat), .slice ao n cap, .int .u64 (a : Nat)] 49 := ⟨_, rfl⟩
  have hlt := h.lt
  have t0 : Turned (fun _ => False) w (w.alloc o) := (Turned.refl _ w).alloc o
  have hbx := box5 w (.int .u64 (vn : Nat)) (.int .i64 vp) (.int .u64 (base : Nat)) (.slice ao n cap) (.int .u64 (a : Nat)) 49
  rw [← ho] at hbx
  obtain ⟨qs, qr, FS, FR, h0, hF⟩ := h
  have hs0 : (w.alloc o).heap.size = w.heap.size + 1 := by simp
  have h1 : ∀ q, LnkAt ((w.alloc o).drewN q) 9 3 k qs qr FS FR vn vp M N ack xs next ys := fun q => h0.frame (fun b hb => t0.block b (hlt b ((hF b).2 hb)) (fun f => f))
  have hBF : ¬ F w.heap.size := fun hf => by have := hlt _ hf; omega
  have e0 : (w.alloc o).cell? ⟨k, 0, none⟩ = _ := (h1 0).c0
  have e1 : (w.alloc o).cell? ⟨k, 1, none⟩ = _ := (h1 0).c1
  have e2 : (w.alloc o).cell? ⟨k, 2, none⟩ = _ := (h1 0).c2
  have e3 : (w.alloc o).cell? ⟨k, 3, none⟩ = _ := (h1 0).c3
  have hack := fun q => in_ackA (h1 q) hF a ha ha2 w.heap.size (by show _ < (w.alloc o).heap.size; omega) hBF
  obtain ⟨b0, b1, b2, b3, b4⟩ := hbx
  have HC : Hid (∀ q, w.heap.size < ((w.alloc o).drewN q).heap.size) := fun q => by show _ < (w.alloc o).heap.size; omega
  have HG : Hid (∀ q, Goes2 F w F ((w.alloc o).drewN q)) := fun q => ⟨(t0.drewN q).mono (fun _ f => f.elim), fun _ h => .inl h⟩
  have HY : Hid (Tx w 3 (.slice ao n cap) zs) := hy
  clear h1 h0 t0 hlt hs0
  subst ho
  go_enter Try.func16, Try.ntmps16
  go_wp2_with fail
  go_quiet (fail)
  go_wp2_with fail
  obtain ⟨ev, hev, hcall0⟩ := hack (nq + 1)
  have G0 := HG.out (nq + 1)
  have C0 := HC.out (nq + 1)
  have HHY : Hid (Goes2 F w F ((w.alloc (.cells #[.int .u64 (vn : Nat), .int .i64 vp, .int .u64 (base : Nat), .slice ao n cap, .int .u64 (a : Nat)] 49)).drewN (nq + 1)) ∧ w.heap.size < ((w.alloc (.cells #[.int .u64 (vn : Nat), .int .i64 vp, .int .u64 (base : Nat), .slice ao n cap, .int .u64 (a : Nat)] 49)).drewN (nq + 1)).heap.size) := ⟨G0, C0⟩
  have HS : Hid (0 < n → ∀ b, (Value.slice ao n cap).ownBlock = some b → ¬ F b) := hsep
  clear hack HC HG G0 C0 e0 e1 b0 b1 ha ha2 hsep hy
  refine wp_region_noPanic ?_
  refine wp_region_held_drew (S := fun wx => wx.cell? ⟨k, 2, none⟩ = some (.pointer (some ⟨qs, 0, none⟩)) ∧ wx.cell? ⟨w.heap.size, 4, none⟩ = some (.int .u64 (a : Nat))) (by kernel_rfl) (show _ ∧ _ from ⟨e2, b4⟩) (fun hHeld => ?_)
  refine take_first 0 (v := ?_) rfl (by kernel_rfl) (by kernel_rfl) (by kernel_rfl) (fun _ _ _ h => h) (Or.inl ⟨by rfl, by intro wx hSw; (try dsimp only at hSw); obtain ⟨hSw1, hSw2⟩ := hSw; go_simp; try with_reducible rfl⟩) (by assumption) ?_
  (try simp only [Act.put, List.setIfInBounds_toArray, List.set_cons_zero, List.set_cons_succ])
  refine take_first 1 (v := ?_) rfl (by kernel_rfl) (by kernel_rfl) (by kernel_rfl) (fun _ _ _ h => h) (Or.inl ⟨by rfl, by intro wx hSw; (try dsimp only at hSw); obtain ⟨hSw1, hSw2⟩ := hSw; go_simp; try with_reducible rfl⟩) (by assumption) ?_
  (try simp only [Act.put, List.setIfInBounds_toArray, List.set_cons_zero, List.set_cons_succ])
  refine take_first 2 (v := ?_) rfl (by kernel_rfl) (by kernel_rfl) (by kernel_rfl) (fun _ _ _ h => h) (Or.inl ⟨by rfl, by intro wx hSw; (try dsimp only at hSw); obtain ⟨hSw1, hSw2⟩ := hSw; go_simp; try with_reducible rfl⟩) (by assumption) ?_
  (try simp only [Act.put, List.setIfInBounds_toArray, List.set_cons_zero, List.set_cons_succ])
  refine take_first 3 (v := ?_) rfl (by kernel_rfl) (by kernel_rfl) (by kernel_rfl) (fun _ _ _ h => h) (Or.inl ⟨by rfl, by intro wx hSw; (try dsimp only at hSw); obtain ⟨hSw1, hSw2⟩ := hSw; go_simp; try with_reducible rfl⟩) (by assumption) ?_
  (try simp only [Act.put, List.setIfInBounds_toArray, List.set_cons_zero, List.set_cons_succ])
  refine take_first 4 (v := ?_) rfl (by kernel_rfl) (by kernel_rfl) (by kernel_rfl) (fun _ _ _ h => h) (Or.inl ⟨by rfl, by intro wx hSw; (try dsimp only at hSw); obtain ⟨hSw1, hSw2⟩ := hSw; go_simp; try with_reducible rfl⟩) (by assumption) ?_
  (try simp only [Act.put, List.setIfInBounds_toArray, List.set_cons_zero, List.set_cons_succ])
  refine take_first 5 (v := ?_) rfl (by kernel_rfl) (by kernel_rfl) (by kernel_rfl) (fun _ _ _ h => h) (Or.inl ⟨by rfl, by intro wx hSw; (try dsimp only at hSw); obtain ⟨hSw1, hSw2⟩ := hSw; go_simp; try with_reducible rfl⟩) (by assumption) ?_
  (try simp only [Act.put, List.setIfInBounds_toArray, List.set_cons_zero, List.set_cons_succ])
  refine comes_up 6 rfl (by kernel_rfl) (fun K hK => ?_)
  go_simp
  refine (calls_atA hcall0 rfl).mono ?_
  rintro e w2 ⟨rfl, k1, k2, HH⟩
  have f2 := (k2 2).trans e2
  have f3 := (k2 3).trans e3
  have d2 := (k1 2).trans b2
  have d3 := (k1 3).trans b3
  have d4 := (k1 4).trans b4
  have HHH : Hid (∃ FS', LnkAt w2 9 3 k qs qr FS' FR vn vp M N (max ack a) (xs.drop (a - ack)) next ys ∧ Goes2 F w (fun b => b = k ∨ FS' b ∨ FR b) w2 ∧ w.heap.size < w2.heap.size ∧ ¬ (w.heap.size = k ∨ FS' w.heap.size ∨ FR w.heap.size) ∧ Tx w2 3 (.slice ao n cap) zs ∧ (0 < n → ∀ b, (Value.slice ao n cap).ownBlock = some b → ¬ (b = k ∨ FS' b ∨ FR b))) := by
    obtain ⟨FS', h2, g2⟩ := HH.out
    obtain ⟨g1, c1⟩ := HHY.out
    have g12 := g1.trans g2
    have hitem : 0 < n → ∀ b, (Value.slice ao n cap).ownBlock = some b → b < w.heap.size ∧ ¬ F b := fun h0 b hb => by
      refine ⟨?_, HS.out h0 b hb⟩
      obtain ⟨ao', cap', hv, p1, p2, p3, p4⟩ := HY.out
      obtain ⟨rfl, rfl, rfl⟩ : ao = ao' ∧ n = zs.length ∧ cap = cap' := by simpa using hv
      obtain ⟨b', off, rfl, hb', _⟩ := p4 h0
      obtain rfl : b' = b := by simpa [Value.ownBlock] using hb
      exact hb'
    refine ⟨FS', h2, g12, Nat.lt_of_lt_of_le c1 g2.turned.size, fun hf => ?_, ?_, fun h0 b hb hf => ?_⟩
    · exact (g2.foot _ hf).elim hBF (fun hle => by omega)
    · by_cases h0 : 0 < n
      · exact HY.out.apart g12.turned (fun b hb _ => (hitem h0 b hb).2)
      · obtain ⟨ao', cap', hv, p1, p2, p3, p4⟩ := HY.out
        exact ⟨ao', cap', hv, p1, p2, p3, fun h1 => absurd h1 (by have := HY.out.len; omega)⟩
    · have := hitem h0 b hb
      exact (g12.foot b hf).elim this.2 (fun hle => by omega)
  clear HH k1 k2 HHY HS hcall0
  go_wp2_with fail
  refine hK.out _ _ ⟨f2, d4⟩ (fun hHeld => ?_)
  clear hK K
  (try simp only [Act.put, List.setIfInBounds_toArray, List.set_cons_zero, List.set_cons_succ])
  refine comes_up 7 rfl (by kernel_rfl) (fun K hK => ?_)
  go_simp
  refine hK.out _ _ ⟨f2, d4⟩ (fun hHeld => ?_)
  clear hK K
  (try simp only [Act.put, List.setIfInBounds_toArray, List.set_cons_zero, List.set_cons_succ])
  refine wpAnyH_done (by kernel_rfl) ?_ _
  refine NoPanic.normal ?_
  clear e2 e3 b2 b3 b4 f2 d4
  go_wp2_with fail
  obtain ⟨FS', h2, g2, c2, n2, y2, s2⟩ := HHH.out
  have hoff := in_offA (h2.frame (w' := w2.drew) (fun _ _ => rfl)) (fun b => Iff.rfl) base hb hnx ao n cap zs y2 s2 c hc w.heap.size c2 n2
  have HG2 : Hid (Goes2 F w (fun b => b = k ∨ FS' b ∨ FR b) w2.drew) := ⟨g2.turned.drew, g2.foot⟩
  clear h2 g2 c2 n2 y2 s2 HHH hc hb hnx
  refine wp_region_noPanic ?_
  refine wp_region_held_drew (S := fun wx => wx.cell? ⟨k, 3, none⟩ = some (.pointer (some ⟨qr, 0, none⟩)) ∧ wx.cell? ⟨w.heap.size, 2, none⟩ = some (.int .u64 (base : Nat)) ∧ wx.cell? ⟨w.heap.size, 3, none⟩ = some (.slice ao n cap)) (by kernel_rfl) (show _ ∧ _ ∧ _ from ⟨f3, d2, d3⟩) (fun hHeld => ?_)
  refine take_first 0 (v := ?_) rfl (by kernel_rfl) (by kernel_rfl) (by kernel_rfl) (fun _ _ _ h => h) (Or.inl ⟨by rfl, by intro wx hSw; (try dsimp only at hSw); obtain ⟨hSw1, hSw2, hSw3⟩ := hSw; go_simp; try with_reducible rfl⟩) (by assumption) ?_
  (try simp only [Act.put, List.setIfInBounds_toArray, List.set_cons_zero, List.set_cons_succ])
  refine take_first 1 (v := ?_) rfl (by kernel_rfl) (by kernel_rfl) (by kernel_rfl) (fun _ _ _ h => h) (Or.inl ⟨by rfl, by intro wx hSw; (try dsimp only at hSw); obtain ⟨hSw1, hSw2, hSw3⟩ := hSw; go_simp; try with_reducible rfl⟩) (by assumption) ?_
  (try simp only [Act.put, List.setIfInBounds_toArray, List.set_cons_zero, List.set_cons_succ])
  refine take_first 2 (v := ?_) rfl (by kernel_rfl) (by kernel_rfl) (by kernel_rfl) (fun _ _ _ h => h) (Or.inl ⟨by rfl, by intro wx hSw; (try dsimp only at hSw); obtain ⟨hSw1, hSw2, hSw3⟩ := hSw; go_simp; try with_reducible rfl⟩) (by assumption) ?_
  (try simp only [Act.put, List.setIfInBounds_toArray, List.set_cons_zero, List.set_cons_succ])
  refine take_first 3 (v := ?_) rfl (by kernel_rfl) (by kernel_rfl) (by kernel_rfl) (fun _ _ _ h => h) (Or.inl ⟨by rfl, by intro wx hSw; (try dsimp only at hSw); obtain ⟨hSw1, hSw2, hSw3⟩ := hSw; go_simp; try with_reducible rfl⟩) (by assumption) ?_
  (try simp only [Act.put, List.setIfInBounds_toArray, List.set_cons_zero, List.set_cons_succ])
  refine take_first 4 (v := ?_) rfl (by kernel_rfl) (by kernel_rfl) (by kernel_rfl) (fun _ _ _ h => h) (Or.inl ⟨by rfl, by intro wx hSw; (try dsimp only at hSw); obtain ⟨hSw1, hSw2, hSw3⟩ := hSw; go_simp; try with_reducible rfl⟩) (by assumption) ?_
  (try simp only [Act.put, List.setIfInBounds_toArray, List.set_cons_zero, List.set_cons_succ])
  refine take_first 5 (v := ?_) rfl (by kernel_rfl) (by kernel_rfl) (by kernel_rfl) (fun _ _ _ h => h) (Or.inl ⟨by rfl, by intro wx hSw; (try dsimp only at hSw); obtain ⟨hSw1, hSw2, hSw3⟩ := hSw; go_simp; try with_reducible rfl⟩) (by assumption) ?_
  (try simp only [Act.put, List.setIfInBounds_toArray, List.set_cons_zero, List.set_cons_succ])
  refine take_first 6 (v := ?_) rfl (by kernel_rfl) (by kernel_rfl) (by kernel_rfl) (fun _ _ _ h => h) (Or.inl ⟨by rfl, by intro wx hSw; (try dsimp only at hSw); obtain ⟨hSw1, hSw2, hSw3⟩ := hSw; go_simp; try with_reducible rfl⟩) (by assumption) ?_
  (try simp only [Act.put, List.setIfInBounds_toArray, List.set_cons_zero, List.set_cons_succ])
  refine take_first 7 (v := ?_) rfl (by kernel_rfl) (by kernel_rfl) (by kernel_rfl) (fun _ _ _ h => h) (Or.inl ⟨by rfl, by intro wx hSw; (try dsimp only at hSw); obtain ⟨hSw1, hSw2, hSw3⟩ := hSw; go_simp; try with_reducible rfl⟩) (by assumption) ?_
  (try simp only [Act.put, List.setIfInBounds_toArray, List.set_cons_zero, List.set_cons_succ])
  refine comes_up 8 rfl (by kernel_rfl) (fun K hK => ?_)
  go_simp
  refine hoff.mono ?_
  rintro e w3 ⟨rfl, k1, k2, HH⟩
  have f4 := (k2 3).trans f3
  have d5 := (k1 2).trans d2
  have d6 := (k1 3).trans d3
  have HE : Hid (∃ F', Lnk w3 9 3 F' k vn vp M N (max ack a) (xs.drop (a - ack)) (next + c) (ys ++ (zs.drop (next - base)).take c) ∧ Goes2 F w F' w3) := by
    obtain ⟨F', h3, g3⟩ := HH.out
    exact ⟨F', h3, HG2.out.trans g3⟩
  clear HH HG2 k1 k2 hoff f3 d2 d3
  go_wp2_with fail
  refine hK.out _ _ ⟨f4, d5, d6⟩ (fun hHeld => ?_)
  clear hK K
  (try simp only [Act.put, List.setIfInBounds_toArray, List.set_cons_zero, List.set_cons_succ])
  refine take_first 9 (v := ?_) rfl (by kernel_rfl) (by kernel_rfl) (by kernel_rfl) (fun _ _ _ h => h) (Or.inl ⟨by rfl, by intro wx hSw; (try dsimp only at hSw); obtain ⟨hSw1, hSw2, hSw3⟩ := hSw; go_simp; try with_reducible rfl⟩) (by assumption) ?_
  (try simp only [Act.put, List.setIfInBounds_toArray, List.set_cons_zero, List.set_cons_succ])
  refine take_first 10 (v := ?_) rfl (by kernel_rfl) (by kernel_rfl) (by kernel_rfl) (fun _ _ _ h => h) (Or.inl ⟨by rfl, by intro wx hSw; (try dsimp only at hSw); obtain ⟨hSw1, hSw2, hSw3⟩ := hSw; go_simp; try with_reducible rfl⟩) (by assumption) ?_
  (try simp only [Act.put, List.setIfInBounds_toArray, List.set_cons_zero, List.set_cons_succ])
  refine take_first 11 (v := ?_) rfl (by kernel_rfl) (by kernel_rfl) (by kernel_rfl) (fun _ _ _ h => h) (Or.inl ⟨by rfl, by intro wx hSw; (try dsimp only at hSw); obtain ⟨hSw1, hSw2, hSw3⟩ := hSw; go_simp; try with_reducible rfl⟩) (by assumption) ?_
  (try simp only [Act.put, List.setIfInBounds_toArray, List.set_cons_zero, List.set_cons_succ])
  refine take_first 12 (v := ?_) rfl (by kernel_rfl) (by kernel_rfl) (by kernel_rfl) (fun _ _ _ h => h) (Or.inl ⟨by rfl, by intro wx hSw; (try dsimp only at hSw); obtain ⟨hSw1, hSw2, hSw3⟩ := hSw; go_simp; try with_reducible rfl⟩) (by assumption) ?_
  (try simp only [Act.put, List.setIfInBounds_toArray, List.set_cons_zero, List.set_cons_succ])
  refine wpAnyH_done (by kernel_rfl) ?_ _
  refine NoPanic.normal ?_
  go_wp2
  go_ret2
  exact ⟨rfl, HE.out⟩
end
end Go.Proofs.Ythobbnmdpkginaa
