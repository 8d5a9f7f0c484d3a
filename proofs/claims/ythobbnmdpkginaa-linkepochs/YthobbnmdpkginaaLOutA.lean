/-
  The call Out of an end of a link.
-/
import Derived.Test.YthobbnmdpkginaaLCallA
import Derived.Laws.Tables
namespace Go.Proofs.Ythobbnmdpkginaa
open Go.RowKit
set_option linter.unusedVariables false
set_option linter.unusedSimpArgs false

theorem step_store_rowA {P : Program} {ops : Array Oper} {o : Oper} {a : Act} {w : World} {K : Act → World → Prop} {Q : Exit → Act → World → Prop} {E : Prop} (hg : o.guard = none) (ty : TypeId) (x y : Operand) (ho : o.op = .store ty x y)
    (g : Nat) (cells : Array Value) (hx : a.eval x = .pointer (some ⟨g, 0, none⟩)) (hy : a.eval y = .agg cells)
    (t : TypeId) (old : Array Value) (hgr : w.heap[g]? = some (.cells old t (0, 0))) (hi : (P.info? ty).map (·.size) = some cells.size)
    (hold : old.size = cells.size) (h1 : cells.all (·.oneCell') = true)
    (h : K (a.put o.dst undef) (w.setRow g cells)) : if Region.wanted o (yielded ops a.tmps) = true then Oper.wp P o a w K Q else E := by
  have hw : Region.wanted o (yielded ops a.tmps) = true := by simp [Region.wanted, hg]
  rw [if_pos hw]
  exact wp_store_row ty x y ho g cells hx hy t old hgr hi hold h1 h
theorem results_cellA {P : Program} {fn : Func} {t : Tmp} {ty : TypeId} (h : fn.results = #[.cell t ty]) {tmps : Array Value} {w : World} {g : Nat} {cs : Array Value} (ht : tmps.getD t undef = .pointer (some ⟨g, 0, none⟩)) (hl : (loadVar ty ⟨g, 0, none⟩).run P w = .ok (.agg cs) w) :
    (results fn tmps).run P w = .ok (.agg cs) w := by
  rw [Array.getD_eq_getD_getElem?] at ht
  simp [results, h, ht, asAddr, hl]
theorem info45s : (Try.prog.info? 45).map (·.size) = some 5 := by kernel_rfl
theorem load45 {w : World} {g : Nat} {cs : Array Value} {t : TypeId} {fr : Nat × Nat} (hg : w.heap[g]? = some (.cells cs t fr)) (hs : cs.size = 5) : (loadVar 45 ⟨g, 0, none⟩).run Try.prog w = .ok (.agg cs) w :=
  run_loadVar_row w g t 45 cs fr _ hg Try.underlying45 rfl (by rw [info45s, hs])
set_option maxRecDepth 10000 in
theorem loutA_any {w : World} {F : Nat → Prop} {k : Nat} {vn : Nat} {vp : Int} {M N ack next : Nat} {xs ys : List Value} (h : Lnk w 9 3 F k vn vp M N ack xs next ys) (hk : ∀ x ∈ xs, Kd 9 x) :
    Calls Try.prog 15 #[.pointer (some ⟨k, 0, none⟩)] w fun e w' => ∃ ao n cap, e = .returned (.agg #[.int .u64 (vn : Nat), .int .i64 vp, .int .u64 (ack : Nat), .slice ao n cap, .int .u64 (next : Nat)]) ∧ n = min N xs.length ∧ Lst w' 9 (.slice ao n cap) (xs.take N) ∧ Turned (fun _ => False) w w' ∧ ∀ b, (Value.slice ao n cap).ownBlock = some b → w.heap.size ≤ b := by
  obtain ⟨o, ho⟩ : ∃ o : Obj, o = .cells #[.int .u64 0, .int .i64 0, .int .u64 0, .slice none 0 0, .int .u64 0] 45 := ⟨_, rfl⟩
  have t0 : Turned (fun _ => False) w (w.alloc o) := (Turned.refl _ w).alloc o
  have h0 := h.still t0
  have hz : (w.alloc o).heap[w.heap.size]? = some o := Deep.blk_alloc_new _ _
  have hs0 : (w.alloc o).heap.size = w.heap.size + 1 := by simp
  obtain ⟨qs, qr, FS, FR, h1, hF⟩ := h0
  have c2 := h1.c2
  have hp := swinS_any h1.snd hk
  have hlt := h.lt
  have H1 : Hid (Lnk (w.alloc o) 9 3 F k vn vp M N ack xs next ys) := ⟨qs, qr, FS, FR, h1, hF⟩
  have HK : Hid (w.cell? ⟨k, 0, none⟩ = some (.int .u64 (vn : Nat))) := by
    obtain ⟨qs, qr, FS, FR, h1, -⟩ := h
    exact h1.c0
  clear h1 hF h hlt
  subst ho
  go_enter Try.func15, Try.ntmps15
  go_wp2_with fail
  refine hp.mono ?_
  rintro e w1 ⟨ao, n, cap, rfl, hn, hl1, t1, hb1⟩
  have HN : Hid (n = min N xs.length) := hn
  clear hn
  go_wp2_with fail
  have h2 := H1.out.still t1
  have hz1 : w1.heap[w.heap.size]? = some (.cells #[.int .u64 0, .int .i64 0, .int .u64 0, .slice none 0 0, .int .u64 0] 45 (0, 0)) := by rw [t1.block w.heap.size (by omega) (fun f => f)]; exact hz
  have hg := fun wx (e : wx = w1.drew) => lgotA_any (w := wx) (e ▸ h2.still ((Turned.refl _ w1).drew))
  obtain ⟨qs, qr, FS, FR, h3, -⟩ := h2
  have d0 := h3.c0
  have d1 := h3.c1
  clear h3 c2 hp hz
  have hset := setRow_heap w1.drew w.heap.size _ #[.int .u64 (vn : Nat), .int .i64 vp, .int .u64 (ack : Nat), .slice ao n cap, .int .u64 (next : Nat)] 45 (0, 0) hz1
  have hkn : k ≠ w.heap.size := by
    rintro rfl
    have := World.block_lt_of_cell? w _ (HK.out)
    simp at this
  have hko : (w1.drew.setRow w.heap.size #[.int .u64 (vn : Nat), .int .i64 vp, .int .u64 (ack : Nat), .slice ao n cap, .int .u64 (next : Nat)]).heap[k]? = w1.heap[k]? := setRow_other _ _ _ _ hkn
  have e0 : (w1.drew.setRow w.heap.size #[.int .u64 (vn : Nat), .int .i64 vp, .int .u64 (ack : Nat), .slice ao n cap, .int .u64 (next : Nat)]).cell? ⟨k, 0, none⟩ = some (.int .u64 (vn : Nat)) := by rw [cell_block hko]; exact d0
  have e1 : (w1.drew.setRow w.heap.size #[.int .u64 (vn : Nat), .int .i64 vp, .int .u64 (ack : Nat), .slice ao n cap, .int .u64 (next : Nat)]).cell? ⟨k, 1, none⟩ = some (.int .i64 vp) := by rw [cell_block hko]; exact d1
  have HE : Hid (n = min N xs.length ∧ Lst (w1.drew.setRow w.heap.size #[.int .u64 (vn : Nat), .int .i64 vp, .int .u64 (ack : Nat), .slice ao n cap, .int .u64 (next : Nat)]) 9 (.slice ao n cap) (xs.take N) ∧ Turned (fun _ => False) w (w1.drew.setRow w.heap.size #[.int .u64 (vn : Nat), .int .i64 vp, .int .u64 (ack : Nat), .slice ao n cap, .int .u64 (next : Nat)]) ∧ ∀ b, (Value.slice ao n cap).ownBlock = some b → w.heap.size ≤ b) := by
    refine ⟨HN.out, hl1.frame (fun b hb => setRow_other _ _ _ _ (fun e => by have := hb1 b hb; omega)), ⟨t1.os, t1.tape, t1.output, ?_, fun b hb _ => ?_⟩, fun b hb => by have := hb1 b hb; omega⟩
    · have := t1.size
      simp only [size_setRow]
      exact Nat.le_trans (by omega) this
    · rw [setRow_other _ _ _ _ (by omega)]
      exact (t1.block b (by omega) (fun f => f)).trans (t0.block b hb (fun f => f))
  clear HN hl1 t1 hb1 t0 hs0 H1 hk hko hkn
  refine wp_region_noPanic ?_
  refine wp_region_held_drew (S := fun wx => wx.cell? ⟨k, 0, none⟩ = some (.int .u64 (vn : Nat)) ∧ wx.cell? ⟨k, 1, none⟩ = some (.int .i64 vp)) (by kernel_rfl) (show _ ∧ _ from ⟨d0, d1⟩) (fun hHeld => ?_)
  refine take_first 0 (v := ?_) rfl (by kernel_rfl) (by kernel_rfl) (by kernel_rfl) (fun _ _ _ h => h) (Or.inl ⟨by rfl, by intro wx hSw; (try dsimp only at hSw); obtain ⟨hSw1, hSw2⟩ := hSw; go_simp; try with_reducible rfl⟩) (by assumption) ?_
  (try simp only [Act.put, List.setIfInBounds_toArray, List.set_cons_zero, List.set_cons_succ])
  refine take_first 1 (v := ?_) rfl (by kernel_rfl) (by kernel_rfl) (by kernel_rfl) (fun _ _ _ h => h) (Or.inl ⟨by rfl, by intro wx hSw; (try dsimp only at hSw); obtain ⟨hSw1, hSw2⟩ := hSw; go_simp; try with_reducible rfl⟩) (by assumption) ?_
  (try simp only [Act.put, List.setIfInBounds_toArray, List.set_cons_zero, List.set_cons_succ])
  refine take_first 2 (v := ?_) rfl (by kernel_rfl) (by kernel_rfl) (by kernel_rfl) (fun _ _ _ h => h) (Or.inl ⟨by rfl, by intro wx hSw; (try dsimp only at hSw); obtain ⟨hSw1, hSw2⟩ := hSw; go_simp; try with_reducible rfl⟩) (by assumption) ?_
  (try simp only [Act.put, List.setIfInBounds_toArray, List.set_cons_zero, List.set_cons_succ])
  refine take_first 3 (v := ?_) rfl (by kernel_rfl) (by kernel_rfl) (by kernel_rfl) (fun _ _ _ h => h) (Or.inl ⟨by rfl, by intro wx hSw; (try dsimp only at hSw); obtain ⟨hSw1, hSw2⟩ := hSw; go_simp; try with_reducible rfl⟩) (by assumption) ?_
  (try simp only [Act.put, List.setIfInBounds_toArray, List.set_cons_zero, List.set_cons_succ])
  refine take_first 4 (v := ?_) rfl (by kernel_rfl) (by kernel_rfl) (by kernel_rfl) (fun _ _ _ h => h) (Or.inl ⟨by rfl, by intro wx hSw; (try dsimp only at hSw); obtain ⟨hSw1, hSw2⟩ := hSw; go_simp; try with_reducible rfl⟩) (by assumption) ?_
  (try simp only [Act.put, List.setIfInBounds_toArray, List.set_cons_zero, List.set_cons_succ])
  refine take_first 5 (v := ?_) rfl (by kernel_rfl) (by kernel_rfl) (by kernel_rfl) (fun _ _ _ h => h) (Or.inl ⟨by rfl, by intro wx hSw; (try dsimp only at hSw); obtain ⟨hSw1, hSw2⟩ := hSw; go_simp; try with_reducible rfl⟩) (by assumption) ?_
  (try simp only [Act.put, List.setIfInBounds_toArray, List.set_cons_zero, List.set_cons_succ])
  refine take_first 6 (v := ?_) rfl (by kernel_rfl) (by kernel_rfl) (by kernel_rfl) (fun _ _ _ h => h) (Or.inl ⟨by rfl, by intro wx hSw; (try dsimp only at hSw); obtain ⟨hSw1, hSw2⟩ := hSw; go_simp; try with_reducible rfl⟩) (by assumption) ?_
  (try simp only [Act.put, List.setIfInBounds_toArray, List.set_cons_zero, List.set_cons_succ])
  refine comes_up 7 rfl (by kernel_rfl) (fun K hK => ?_)
  go_simp
  refine (hg _ rfl).mono ?_
  rintro e w2 ⟨rfl, rfl⟩
  go_wp2_with fail
  refine hK.out _ _ ⟨d0, d1⟩ (fun hHeld => ?_)
  clear hK K
  (try simp only [Act.put, List.setIfInBounds_toArray, List.set_cons_zero, List.set_cons_succ])
  refine take_first 8 (v := ?_) rfl (by kernel_rfl) (by kernel_rfl) (by kernel_rfl) (fun _ _ _ h => h) (Or.inl ⟨by rfl, by intro wx hSw; (try dsimp only at hSw); obtain ⟨hSw1, hSw2⟩ := hSw; go_simp; try with_reducible rfl⟩) (by assumption) ?_
  (try simp only [Act.put, List.setIfInBounds_toArray, List.set_cons_zero, List.set_cons_succ])
  refine comes_up 9 rfl (by kernel_rfl) (fun K hK => ?_)
  refine step_store_rowA rfl 45 (.tmp 2) (.tmp 24) rfl w.heap.size #[.int .u64 (vn : Nat), .int .i64 vp, .int .u64 (ack : Nat), .slice ao n cap, .int .u64 (next : Nat)] rfl rfl 45 _ hz1 info45s rfl (by simp [Value.oneCell']) ?_
  refine hK.out _ _ ⟨e0, e1⟩ (fun hHeld => ?_)
  clear hK K
  (try simp only [Act.put, List.setIfInBounds_toArray, List.set_cons_zero, List.set_cons_succ])
  refine wpAnyH_done (by kernel_rfl) ?_ _
  refine NoPanic.normal ?_
  go_wp2
  refine bodyPost_ret (results_cellA (g := w.heap.size) Try.results15 rfl (load45 hset rfl)) rfl ?_
  exact ⟨ao, n, cap, rfl, HE.out⟩
end Go.Proofs.Ythobbnmdpkginaa
