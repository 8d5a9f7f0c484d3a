/-
  What happens to two ends: a packet comes.
-/
import Derived.Test.YthobbnmdpkginaaLAct
namespace Go.Proofs.Ythobbnmdpkginaa
open Go.RowKit
set_option linter.unusedVariables false
set_option linter.unusedSimpArgs false

set_option maxRecDepth 10000 in
theorem act5_none {w : World} {col : Nat → Nat} {q M N : Nat} {d : Adr} {p : Pl} (h : Wd w col q M N d p) (kd : Nat) (s : ByteArray) (n : Int) (hk : kd % 9 = 5) (hk2 : kd < 256) (hl : p.tA = []) :
    Calls Try.prog 12 #[.pointer (some ⟨q, 0, none⟩), .agg #[.int .u8 (kd : Nat), .string s, .int .i64 n]] w fun e w' => e = .returned (.tuple #[]) ∧ Nx col w q M N p w' := by
  obtain ⟨col0, h0, g0, x0⟩ := wd_box h kd s n
  have hkI : (kd : Int) % 9 = 5 := by omega
  obtain ⟨ao, cap, hv⟩ := h.shape6
  rw [hl] at hv
  have c0 := h0.qb.c6
  rw [hv] at c0
  have b0 := x0.c0
  have HE : Hid (Nx col w q M N p _) := ⟨_, _, h0, g0⟩
  clear h h0 g0 x0 hk hk2 hl hv
  simp only [List.length_nil] at c0
  go_enter Try.func12, Try.ntmps12
  go_wp2
  go_end0
  exact ⟨rfl, HE.out⟩
set_option maxRecDepth 10000 in
set_option maxHeartbeats 1000000 in
theorem act5_any {w : World} {col : Nat → Nat} {q M N : Nat} {d : Adr} {p : Pl} (h : Wd w col q M N d p) (kd : Nat) (s : ByteArray) (n : Int) (hk : kd % 9 = 5) (hk2 : kd < 256) (hl : p.tA.length ≤ 1000) (j : Nat) (hj : ∃ u : Nat, IntKind.u64.wrap n = (u : Int) ∧ j = u % p.tA.length) (x : Px) (hx : p.tA[j]? = some x)
    (hb : x.base ≤ p.nA) (hnx : p.nA ≤ 1000) (ha : x.ack ≤ p.aA + min N p.xA.length) (ha2 : x.ack ≤ 1000) (c : Nat) (hc : c = min (x.zs.length - (p.nA - x.base)) (M - p.yA.length)) :
    Calls Try.prog 12 #[.pointer (some ⟨q, 0, none⟩), .agg #[.int .u8 (kd : Nat), .string s, .int .i64 n]] w fun e w' => e = .returned (.tuple #[]) ∧ Nx col w q M N { p with aA := max p.aA x.ack, xA := p.xA.drop (x.ack - p.aA), nA := p.nA + c, yA := p.yA ++ (x.zs.drop (p.nA - x.base)).take c } w' := by
  obtain ⟨col0, h0, g0, x0⟩ := wd_box h kd s n
  have hkI : (kd : Int) % 9 = 5 := by omega
  obtain ⟨h1, g1⟩ := h0.still (Turned.drew (Turned.refl _ _))
  obtain ⟨b, off, cap, hv, hlc, hcm, htx, hcol, hcell⟩ := h1.at6 hx
  have htx' := htx
  obtain ⟨io, ic, hiv, _⟩ := htx'
  have hin := linA_any h1.lka x.base hb (by omega) io x.zs.length ic x.zs (hiv ▸ htx) (fun _ b' hb' hf => by
    have e1 := (hcol b' (by rw [hiv]; exact hb')).1
    have e2 := (h1.la (fun f => f)).2 b' hf
    rw [e1] at e2
    cases e2) x.ack ha (by omega) c hc
  have p0 := hcell 0 _ rfl
  have p1 := hcell 1 _ rfl
  have p2 := hcell 2 _ rfl
  have p3 := hcell 3 _ rfl
  have p4 := hcell 4 _ rfl
  rw [hiv] at p3
  have c0 := h0.qb.c0
  have c1 := h0.qb.c6
  rw [hv] at c1
  have b0 := x0.c0
  have b2 := x0.c2
  have H1 : Hid (Wd _ _ q M N d p) := h1
  have G1 : Hid (Gn col w _ _) := g0.trans g1
  obtain ⟨u, hu, hju⟩ := hj
  have hL0 : 0 < p.tA.length := by have := (List.getElem?_eq_some_iff.1 hx).1; omega
  have hjl : j < p.tA.length := (List.getElem?_eq_some_iff.1 hx).1
  generalize hLL : p.tA.length = L at *
  have hwL : IntKind.u64.wrap (L : Int) = (L : Int) := by rw [IntKind.wrap_u64]; omega
  have hrem : (u : Int).tmod (L : Int) = (j : Int) := by rw [hju, Int.tmod_eq_emod_of_nonneg (by omega)]; omega
  have hjI : (j : Int) < L := by omega
  have hLI : (0 : Int) < L := by omega
  have hLz : ¬ L = 0 := by omega
  have hwj : IntKind.u64.wrap (j : Int) = (j : Int) := by rw [IntKind.wrap_u64]; omega
  have hij : IntKind.i64.wrap (j : Int) = (j : Int) := by rw [IntKind.wrap_i64]; omega
  have HB : Hid (b < ((w.alloc (.cells #[.int .u8 (kd : Nat), .string s, .int .i64 n] 28)).drew).heap.size ∧ rc col0 (w.alloc (.cells #[.int .u8 (kd : Nat), .string s, .int .i64 n] 28)) 0 b = 7) := ⟨World.block_lt_of_cell? _ _ p0, (h1.r6 (fun f => f)).2 b (by rw [hv]; rfl)⟩
  have HX : Hid (w.heap.size < ((w.alloc (.cells #[.int .u8 (kd : Nat), .string s, .int .i64 n] 28)).drew).heap.size ∧ rc col0 (w.alloc (.cells #[.int .u8 (kd : Nat), .string s, .int .i64 n] 28)) 0 w.heap.size = 0) := ⟨(x0.on g1).lt, (x0.on g1).nobody⟩
  have HF : Hid (∀ b, d.FA b → rc col0 (w.alloc (.cells #[.int .u8 (kd : Nat), .string s, .int .i64 n] 28)) 0 b = 1) := (h1.la (fun f => f)).2
  have HV : Hid (d.l6 = .slice (some ⟨b, off, none⟩) L cap) := hv
  clear h h0 g0 x0 h1 g1 hk hk2 hcell htx hcol hx hb hnx ha ha2 hc hLL hv hiv hju
  go_enter Try.func12, Try.ntmps12
  go_wp2_with fail
  refine wp_region_noPanic ?_
  refine wp_region_held_drew (S := fun wx => wx.cell? ⟨q, 0, none⟩ = some (.pointer (some ⟨d.ka, 0, none⟩)) ∧ wx.cell? ⟨q, 6, none⟩ = some (.slice (some ⟨b, off, none⟩) L cap) ∧ wx.cell? ⟨w.heap.size, 2, none⟩ = some (.int .i64 n) ∧ wx.cell? ⟨b, off + j * 5, none⟩ = some (.int .u64 4) ∧ wx.cell? ⟨b, off + j * 5 + 1, none⟩ = some (.int .i64 2) ∧ wx.cell? ⟨b, off + j * 5 + 2, none⟩ = some (.int .u64 (x.base : Nat)) ∧ wx.cell? ⟨b, off + j * 5 + 3, none⟩ = some (.slice io x.zs.length ic) ∧ wx.cell? ⟨b, off + j * 5 + 4, none⟩ = some (.int .u64 (x.ack : Nat))) (by kernel_rfl) (show _ ∧ _ ∧ _ ∧ _ ∧ _ ∧ _ ∧ _ ∧ _ from ⟨c0, c1, b2, p0, p1, p2, p3, p4⟩) (fun hHeld => ?_)
  refine take_first 0 (v := ?_) rfl (by kernel_rfl) (by kernel_rfl) (by kernel_rfl) (fun _ _ _ h => h) (Or.inl ⟨by rfl, by intro wx hSw; (try dsimp only at hSw); obtain ⟨hSw1, hSw2, hSw3, hSw4, hSw5, hSw6, hSw7, hSw8⟩ := hSw; go_simp; try with_reducible rfl⟩) (by assumption) ?_
  (try simp only [Act.put, List.setIfInBounds_toArray, List.set_cons_zero, List.set_cons_succ])
  refine take_first 1 (v := ?_) rfl (by kernel_rfl) (by kernel_rfl) (by kernel_rfl) (fun _ _ _ h => h) (Or.inl ⟨by rfl, by intro wx hSw; (try dsimp only at hSw); obtain ⟨hSw1, hSw2, hSw3, hSw4, hSw5, hSw6, hSw7, hSw8⟩ := hSw; go_simp; try with_reducible rfl⟩) (by assumption) ?_
  (try simp only [Act.put, List.setIfInBounds_toArray, List.set_cons_zero, List.set_cons_succ])
  refine take_first 2 (v := ?_) rfl (by kernel_rfl) (by kernel_rfl) (by kernel_rfl) (fun _ _ _ h => h) (Or.inl ⟨by rfl, by intro wx hSw; (try dsimp only at hSw); obtain ⟨hSw1, hSw2, hSw3, hSw4, hSw5, hSw6, hSw7, hSw8⟩ := hSw; go_simp; try with_reducible rfl⟩) (by assumption) ?_
  (try simp only [Act.put, List.setIfInBounds_toArray, List.set_cons_zero, List.set_cons_succ])
  refine take_first 3 (v := ?_) rfl (by kernel_rfl) (by kernel_rfl) (by kernel_rfl) (fun _ _ _ h => h) (Or.inl ⟨by rfl, by intro wx hSw; (try dsimp only at hSw); obtain ⟨hSw1, hSw2, hSw3, hSw4, hSw5, hSw6, hSw7, hSw8⟩ := hSw; go_simp; try with_reducible rfl⟩) (by assumption) ?_
  (try simp only [Act.put, List.setIfInBounds_toArray, List.set_cons_zero, List.set_cons_succ])
  refine take_first 4 (v := ?_) rfl (by kernel_rfl) (by kernel_rfl) (by kernel_rfl) (fun _ _ _ h => h) (Or.inl ⟨by rfl, by intro wx hSw; (try dsimp only at hSw); obtain ⟨hSw1, hSw2, hSw3, hSw4, hSw5, hSw6, hSw7, hSw8⟩ := hSw; go_simp; try with_reducible rfl⟩) (by assumption) ?_
  (try simp only [Act.put, List.setIfInBounds_toArray, List.set_cons_zero, List.set_cons_succ])
  refine take_first 5 (v := ?_) rfl (by kernel_rfl) (by kernel_rfl) (by kernel_rfl) (fun _ _ _ h => h) (Or.inl ⟨by rfl, by intro wx hSw; (try dsimp only at hSw); obtain ⟨hSw1, hSw2, hSw3, hSw4, hSw5, hSw6, hSw7, hSw8⟩ := hSw; go_simp; try with_reducible rfl⟩) (by assumption) ?_
  (try simp only [Act.put, List.setIfInBounds_toArray, List.set_cons_zero, List.set_cons_succ])
  refine take_first 6 (v := ?_) rfl (by kernel_rfl) (by kernel_rfl) (by kernel_rfl) (fun _ _ _ h => h) (Or.inl ⟨by rfl, by intro wx hSw; (try dsimp only at hSw); obtain ⟨hSw1, hSw2, hSw3, hSw4, hSw5, hSw6, hSw7, hSw8⟩ := hSw; go_simp; try with_reducible rfl⟩) (by assumption) ?_
  (try simp only [Act.put, List.setIfInBounds_toArray, List.set_cons_zero, List.set_cons_succ])
  refine take_first 7 (v := ?_) rfl (by kernel_rfl) (by kernel_rfl) (by kernel_rfl) (fun _ _ _ h => h) (Or.inl ⟨by rfl, by intro wx hSw; (try dsimp only at hSw); obtain ⟨hSw1, hSw2, hSw3, hSw4, hSw5, hSw6, hSw7, hSw8⟩ := hSw; go_simp; try with_reducible rfl⟩) (by assumption) ?_
  (try simp only [Act.put, List.setIfInBounds_toArray, List.set_cons_zero, List.set_cons_succ])
  refine take_first 8 (v := ?_) rfl (by kernel_rfl) (by kernel_rfl) (by kernel_rfl) (fun _ _ _ h => h) (Or.inl ⟨by rfl, by intro wx hSw; (try dsimp only at hSw); obtain ⟨hSw1, hSw2, hSw3, hSw4, hSw5, hSw6, hSw7, hSw8⟩ := hSw; go_simp; try with_reducible rfl⟩) (by assumption) ?_
  (try simp only [Act.put, List.setIfInBounds_toArray, List.set_cons_zero, List.set_cons_succ])
  refine take_first 9 (v := ?_) rfl (by kernel_rfl) (by kernel_rfl) (by kernel_rfl) (fun _ _ _ h => h) (Or.inl ⟨by rfl, by intro wx hSw; (try dsimp only at hSw); obtain ⟨hSw1, hSw2, hSw3, hSw4, hSw5, hSw6, hSw7, hSw8⟩ := hSw; go_simp; try with_reducible rfl⟩) (by assumption) ?_
  (try simp only [Act.put, List.setIfInBounds_toArray, List.set_cons_zero, List.set_cons_succ])
  refine take_first 10 (v := ?_) rfl (by kernel_rfl) (by kernel_rfl) (by kernel_rfl) (fun _ _ _ h => h) (Or.inl ⟨by rfl, by intro wx hSw; (try dsimp only at hSw); obtain ⟨hSw1, hSw2, hSw3, hSw4, hSw5, hSw6, hSw7, hSw8⟩ := hSw; go_simp; try with_reducible rfl⟩) (by assumption) ?_
  (try simp only [Act.put, List.setIfInBounds_toArray, List.set_cons_zero, List.set_cons_succ])
  refine take_first 11 (v := ?_) rfl (by kernel_rfl) (by kernel_rfl) (by kernel_rfl) (fun _ _ _ h => h) (Or.inl ⟨by rfl, by intro wx hSw; (try dsimp only at hSw); obtain ⟨hSw1, hSw2, hSw3, hSw4, hSw5, hSw6, hSw7, hSw8⟩ := hSw; go_simp; try with_reducible rfl⟩) (by assumption) ?_
  (try simp only [Act.put, List.setIfInBounds_toArray, List.set_cons_zero, List.set_cons_succ])
  refine take_first 12 (v := ?_) rfl (by kernel_rfl) (by kernel_rfl) (by kernel_rfl) (fun _ _ _ h => h) (Or.inl ⟨by rfl, by intro wx hSw; (try dsimp only at hSw); obtain ⟨hSw1, hSw2, hSw3, hSw4, hSw5, hSw6, hSw7, hSw8⟩ := hSw; go_simp; try with_reducible rfl⟩) (by assumption) ?_
  (try simp only [Act.put, List.setIfInBounds_toArray, List.set_cons_zero, List.set_cons_succ])
  refine take_first 13 (v := ?_) rfl (by kernel_rfl) (by kernel_rfl) (by kernel_rfl) (fun _ _ _ h => h) (Or.inl ⟨by rfl, by intro wx hSw; (try dsimp only at hSw); obtain ⟨hSw1, hSw2, hSw3, hSw4, hSw5, hSw6, hSw7, hSw8⟩ := hSw; go_simp; try with_reducible rfl⟩) (by assumption) ?_
  (try simp only [Act.put, List.setIfInBounds_toArray, List.set_cons_zero, List.set_cons_succ])
  refine take_first 14 (v := ?_) rfl (by kernel_rfl) (by kernel_rfl) (by kernel_rfl) (fun _ _ _ h => h) (Or.inl ⟨by rfl, by intro wx hSw; (try dsimp only at hSw); obtain ⟨hSw1, hSw2, hSw3, hSw4, hSw5, hSw6, hSw7, hSw8⟩ := hSw; go_simp; try with_reducible rfl⟩) (by assumption) ?_
  (try simp only [Act.put, List.setIfInBounds_toArray, List.set_cons_zero, List.set_cons_succ])
  refine take_first 15 (v := ?_) rfl (by kernel_rfl) (by kernel_rfl) (by kernel_rfl) (fun _ _ _ h => h) (Or.inl ⟨by rfl, by intro wx hSw; (try dsimp only at hSw); obtain ⟨hSw1, hSw2, hSw3, hSw4, hSw5, hSw6, hSw7, hSw8⟩ := hSw; go_simp; try with_reducible rfl⟩) (by assumption) ?_
  (try simp only [Act.put, List.setIfInBounds_toArray, List.set_cons_zero, List.set_cons_succ])
  refine take_first 16 (v := ?_) rfl (by kernel_rfl) (by kernel_rfl) (by kernel_rfl) (fun _ _ _ h => h) (Or.inl ⟨by rfl, by intro wx hSw; (try dsimp only at hSw); obtain ⟨hSw1, hSw2, hSw3, hSw4, hSw5, hSw6, hSw7, hSw8⟩ := hSw; go_simp; try with_reducible rfl⟩) (by assumption) ?_
  (try simp only [Act.put, List.setIfInBounds_toArray, List.set_cons_zero, List.set_cons_succ])
  refine take_first 17 (v := ?_) rfl (by kernel_rfl) (by kernel_rfl) (by kernel_rfl) (fun _ _ _ h => h) (Or.inl ⟨by rfl, by intro wx hSw; (try dsimp only at hSw); obtain ⟨hSw1, hSw2, hSw3, hSw4, hSw5, hSw6, hSw7, hSw8⟩ := hSw; go_simp; try with_reducible rfl⟩) (by assumption) ?_
  (try simp only [Act.put, List.setIfInBounds_toArray, List.set_cons_zero, List.set_cons_succ])
  refine take_first 18 (v := ?_) rfl (by kernel_rfl) (by kernel_rfl) (by kernel_rfl) (fun _ _ _ h => h) (Or.inl ⟨by rfl, by intro wx hSw; (try dsimp only at hSw); obtain ⟨hSw1, hSw2, hSw3, hSw4, hSw5, hSw6, hSw7, hSw8⟩ := hSw; go_simp; try with_reducible rfl⟩) (by assumption) ?_
  (try simp only [Act.put, List.setIfInBounds_toArray, List.set_cons_zero, List.set_cons_succ])
  refine take_first 19 (v := ?_) rfl (by kernel_rfl) (by kernel_rfl) (by kernel_rfl) (fun _ _ _ h => h) (Or.inl ⟨by rfl, by intro wx hSw; (try dsimp only at hSw); obtain ⟨hSw1, hSw2, hSw3, hSw4, hSw5, hSw6, hSw7, hSw8⟩ := hSw; go_simp; try with_reducible rfl⟩) (by assumption) ?_
  (try simp only [Act.put, List.setIfInBounds_toArray, List.set_cons_zero, List.set_cons_succ])
  refine take_first 20 (v := ?_) rfl (by kernel_rfl) (by kernel_rfl) (by kernel_rfl) (fun _ _ _ h => h) (Or.inl ⟨by rfl, by intro wx hSw; (try dsimp only at hSw); obtain ⟨hSw1, hSw2, hSw3, hSw4, hSw5, hSw6, hSw7, hSw8⟩ := hSw; go_simp; try with_reducible rfl⟩) (by assumption) ?_
  (try simp only [Act.put, List.setIfInBounds_toArray, List.set_cons_zero, List.set_cons_succ])
  refine comes_up 21 rfl (by kernel_rfl) (fun K hK => ?_)
  go_simp
  refine hin.mono ?_
  rintro e w2 ⟨rfl, F2, l2, gg2⟩
  obtain ⟨h2, g2⟩ := H1.out.goA l2 gg2
  have HE : Hid (Nx col w q M N { p with aA := max p.aA x.ack, xA := p.xA.drop (x.ack - p.aA), nA := p.nA + c, yA := p.yA ++ (x.zs.drop (p.nA - x.base)).take c } w2) := ⟨_, _, h2, G1.out.trans g2⟩
  have hS2 : w2.cell? ⟨q, 0, none⟩ = some (.pointer (some ⟨d.ka, 0, none⟩)) ∧ w2.cell? ⟨q, 6, none⟩ = some (.slice (some ⟨b, off, none⟩) L cap) ∧ w2.cell? ⟨w.heap.size, 2, none⟩ = some (.int .i64 n) ∧ w2.cell? ⟨b, off + j * 5, none⟩ = some (.int .u64 4) ∧ w2.cell? ⟨b, off + j * 5 + 1, none⟩ = some (.int .i64 2) ∧ w2.cell? ⟨b, off + j * 5 + 2, none⟩ = some (.int .u64 (x.base : Nat)) ∧ w2.cell? ⟨b, off + j * 5 + 3, none⟩ = some (.slice io x.zs.length ic) ∧ w2.cell? ⟨b, off + j * 5 + 4, none⟩ = some (.int .u64 (x.ack : Nat)) := by
    have hbb : w2.heap[b]? = _ := gg2.turned.block b HB.out.1 (fun hf => by have := HF.out b hf; rw [HB.out.2] at this; cases this)
    have hxx : w2.heap[w.heap.size]? = _ := gg2.turned.block w.heap.size HX.out.1 (fun hf => by have := HF.out _ hf; rw [HX.out.2] at this; cases this)
    refine ⟨h2.qb.c0, ?_, (cell_block hxx).trans b2, (cell_block hbb).trans p0, (cell_block hbb).trans p1, (cell_block hbb).trans p2, (cell_block hbb).trans p3, (cell_block hbb).trans p4⟩
    have := h2.qb.c6
    rw [show w2.cell? ⟨q, 6, none⟩ = some d.l6 from this]
    exact congrArg some HV.out
  clear h2 g2 l2 gg2 hin H1 G1
  go_wp2_with fail
  refine hK.out _ _ hS2 (fun hHeld => ?_)
  clear hK K
  (try simp only [Act.put, List.setIfInBounds_toArray, List.set_cons_zero, List.set_cons_succ])
  refine wpAnyH_done (by kernel_rfl) ?_ _
  refine NoPanic.normal ?_
  go_wp2
  go_end0
  exact ⟨rfl, HE.out⟩
end Go.Proofs.Ythobbnmdpkginaa
