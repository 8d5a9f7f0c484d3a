/-
  slices.Delete of one packet; remove, Drop, Peek and Take of a net.
-/
import Derived.Test.YtagabmhgcmnldaaNDouble
namespace Go.Proofs.Ytagabmhgcmnldaa
open Go.RowKit
set_option linter.unusedVariables false
set_option linter.unusedSimpArgs false

theorem own_clear {w : World} {g n cap m c : Nat} {xs : List Value} (h : w.ownsRow 0 79 6 (.slice (some ⟨g, 0, none⟩) n cap) n xs) (hm : n + (m + 1) ≤ cap) (ty : TypeId) :
    ∃ w', Sem.run Try.prog (Builtin.clear_ #[63] ty #[.slice (some ⟨g, n * 6, none⟩) (m + 1) c]) w = .ok (.tuple #[]) w' ∧ w'.ownsRow 0 79 6 (.slice (some ⟨g, 0, none⟩) n cap) n xs ∧ w.grownBy w' (some g) := by
  rcases h.2 with ⟨h0, _⟩ | ⟨g', cap', cur, h0, hb, hg, hnc, hcm, hcs, htk⟩
  · cases h0
  · simp only [Value.slice.injEq, Option.some.injEq, Addr.mk.injEq, and_true, true_and] at h0
    obtain ⟨rfl, rfl⟩ := h0
    have hz : (Builtin.zeroCells (Value.agg #[.int .i64 0, .int .i64 0, .slice none 0 0, .int .i64 0, .int .i64 0, .int .i64 0]).cells (m + 1)).toList.length = (m + 1) * 6 := by simp [Builtin.zeroCells, Value.cells]
    have hone : ∀ v ∈ (Builtin.zeroCells (Value.agg #[.int .i64 0, .int .i64 0, .slice none 0 0, .int .i64 0, .int .i64 0, .int .i64 0]).cells (m + 1)).toList, v.oneCell' = true := by
      intro v hv
      simp only [Builtin.zeroCells, Value.cells, Array.toList_map, List.mem_map] at hv
      obtain ⟨k, _, rfl⟩ := hv
      have : k % 6 = 0 ∨ k % 6 = 1 ∨ k % 6 = 2 ∨ k % 6 = 3 ∨ k % 6 = 4 ∨ k % 6 = 5 := by omega
      rcases this with e | e | e | e | e | e <;> simp [e, Value.oneCell']
    have hz79 := Try.zeroValue79
    have hrun := run_storeCells_at (P := Try.prog) g (n * 6) 79 _ 0 _ w hg (by rw [hz]; omega) hone
    have hcl : ∀ w', Sem.run Try.prog (storeCells ⟨g, n * 6, none⟩ (Builtin.zeroCells (Value.agg #[.int .i64 0, .int .i64 0, .slice none 0 0, .int .i64 0, .int .i64 0, .int .i64 0]).cells (m + 1)).toList 0) w = .ok () w' → Sem.run Try.prog (Builtin.clear_ #[63] ty #[.slice (some ⟨g, n * 6, none⟩) (m + 1) c]) w = .ok (.tuple #[]) w' := fun w' hw => by
      simp [Builtin.clear_, run_underlying und63, hw]
    refine ⟨_, hcl _ hrun, ⟨h.1, .inr ⟨g, cap, _, rfl, hb, setRow_heap _ _ _ _ _ _ hg, hnc, hcm, ?_, ?_⟩⟩, ⟨rfl, rfl, rfl, by simp, fun k _ hk => setRow_other _ _ _ _ (fun e => hk (by simp [e]))⟩⟩
    · simp only [List.size_toArray, List.length_append, List.length_take, List.length_drop, Array.length_toList, hz]
      omega
    · rw [← htk]
      simp only [List.append_assoc, Nat.add_zero]
      rw [List.take_append_of_le_length (by rw [List.length_take, Array.length_toList]; omega), List.take_take, Nat.min_self]

theorem own_cap {w : World} {g cap n : Nat} {xs : List Value} (h : w.ownsRow 0 79 6 (.slice (some ⟨g, 0, none⟩) n cap) n xs) : n ≤ cap ∧ cap ≤ 9223372036854775807 ∧ cap ≤ maxLen := by
  rcases h.2 with ⟨h0, _⟩ | ⟨g', cap', cur, h0, _, _, h1, h2, _⟩
  · cases h0
  · simp only [Value.slice.injEq] at h0
    obtain ⟨_, _, rfl⟩ := h0
    exact ⟨h1, by unfold maxLen at h2; omega, h2⟩
theorem del_run (w : World) (g cap : Nat) (L : List Px) (h : w.ownsRow 0 79 6 (.slice (some ⟨g, 0, none⟩) L.length cap) L.length (flat L)) (i j : Nat) (hj : j = i + 1) (hi : i < L.length) (off c : Nat) (ho : off = j * 6 ∨ L.length - j = 0) :
    ∃ w', (Builtin.append_ #[63, 63] 63 #[.slice (some ⟨g, 0, none⟩) i cap, .slice (some ⟨g, off, none⟩) (L.length - j) c]).run Try.prog w = .ok (.slice (some ⟨g, 0, none⟩) (L.length - 1) cap) w' ∧ w'.ownsRow 0 79 6 (.slice (some ⟨g, 0, none⟩) (L.length - 1) cap) (L.length - 1) (flat (L.eraseIdx i)) ∧ w.grownBy w' (some g) := by
  obtain ⟨i0, hi0, hz0, hz1, hz2⟩ := info_parts info79z
  have her : flat (L.eraseIdx i) = flat (L.take i) ++ flat (L.drop j) := by rw [List.eraseIdx_eq_take_drop_succ, flat_app, hj]
  obtain ⟨hnc, hcm, hcm'⟩ := own_cap h
  have hpre : w.ownsRow 0 79 6 (.slice (some ⟨g, 0, none⟩) i cap) i (flat (L.take i)) := by
    rcases h.2 with ⟨h0, _⟩ | ⟨g', cap', cur, h0, a, b, c, d, e, f⟩
    · cases h0
    · simp only [Value.slice.injEq, Option.some.injEq, Addr.mk.injEq] at h0
      obtain ⟨⟨rfl, _, _⟩, _, rfl⟩ := h0
      refine ⟨by rw [flat_len, List.length_take]; omega, .inr ⟨g, cap, cur, rfl, a, b, by omega, d, e, ?_⟩⟩
      have e1 : flat L = flat (L.take i) ++ flat (L.drop i) := by rw [← flat_app, List.take_append_drop]
      have l1 : (flat (L.take i)).length = i * 6 := by rw [flat_len, List.length_take]; omega
      have : cur.toList.take (i * 6) = (cur.toList.take (L.length * 6)).take (i * 6) := by rw [List.take_take, Nat.min_eq_left (by omega)]
      rw [this, f, e1, List.take_append_of_le_length (by omega), List.take_of_length_le (by omega)]
  have hdl : (flat (L.drop j)).length = (L.length - j) * 6 := by rw [flat_len, List.length_drop]
  have hnw : ∀ off, (off = j * 6 ∨ L.length - j = 0) → ∀ k u, (flat (L.drop j))[k]? = some u → w.cell? ((⟨g, off, none⟩ : Addr).add k) = some u := fun off ho k u hk => by
    have hkl := (List.getElem?_eq_some_iff.1 hk).1
    rcases ho with rfl | h0
    · rw [Addr.add_lit, h.cellAt _ (by omega)]
      have e1 : flat L = flat (L.take j) ++ flat (L.drop j) := by rw [← flat_app, List.take_append_drop]
      have l1 : (flat (L.take j)).length = j * 6 := by rw [flat_len, List.length_take]; omega
      rw [e1, List.getElem?_append_right (by omega), l1, show j * 6 + k - j * 6 = k by omega]
      exact hk
    · rw [hdl, h0] at hkl; omega
  obtain ⟨w', k1, k2, k3⟩ := run_append_fits (P := Try.prog) w 0 63 63 79 i0 6 und63 hi0 hz1 g i cap (flat (L.take i)) hpre ⟨g, off, none⟩ (L.length - j) c (flat (L.drop j)) hdl (hnw off ho) (fun u hu => flat_one hu) (by omega)
  rw [show i + (L.length - j) = L.length - 1 by omega] at k1 k2
  rw [her]
  exact ⟨w', k1, k2, k3⟩

set_option maxRecDepth 10000 in
set_option maxHeartbeats 2000000 in
theorem delete_any (w : World) (g cap : Nat) (L : List Px) (h : w.ownsRow 0 79 6 (.slice (some ⟨g, 0, none⟩) L.length cap) L.length (flat L)) (i j : Nat) (hj : j = i + 1) (hi : i < L.length) (hm : L.length ≤ 4096) :
    Calls Try.prog 55 #[.slice (some ⟨g, 0, none⟩) L.length cap, .int .i64 (i : Nat), .int .i64 (j : Nat)] w fun e w' => e = .returned (.slice (some ⟨g, 0, none⟩) (L.length - 1) cap) ∧ w'.ownsRow 0 79 6 (.slice (some ⟨g, 0, none⟩) (L.length - 1) cap) (L.length - 1) (flat (L.eraseIdx i)) ∧ w.grownBy w' (some g) := by
  obtain ⟨hnc, hcm, hcm'⟩ := own_cap h
  have hap := del_run w.drew g cap L h i j hj hi
  have hle : i < cap := by omega
  have HL : Hid (L.length = L.length - 1 + 1) := by show _ = _; omega
  obtain ⟨n, hn⟩ : ∃ n, n = L.length := ⟨_, rfl⟩
  obtain ⟨m, hmm⟩ : ∃ m, m = L.length - 1 := ⟨_, rfl⟩
  rw [← hmm] at hap HL ⊢
  rw [← hn] at hap HL hnc hm hi ⊢
  have hnm : n = m + 1 := HL.out
  clear h hn hmm HL
  subst hnm
  have hne : ((i : Int) == (j : Int)) = false := by
    have : ¬ ((i : Int) = j) := by omega
    simpa using this
  have hjn : (j : Int) ≤ ((m + 1 : Nat) : Int) := by omega
  have hij : (i : Int) ≤ (j : Int) := by omega
  have hjn2 : (j : Int) ≤ (m : Int) + 1 := by omega
  have him2 : (i : Int) ≤ (m : Int) + 1 := by omega
  have h0m2 : (0 : Int) ≤ (m : Int) + 1 := by omega
  have hic : i ≤ cap := by omega
  have hjm : j ≤ m + 1 := by omega
  have hmc : m ≤ cap := by omega
  have hclr : ∀ w1 : World, w1.ownsRow 0 79 6 (.slice (some ⟨g, 0, none⟩) m cap) m (flat (L.eraseIdx i)) → ∃ w', Sem.run Try.prog (Builtin.clear_ #[63] 0 #[.slice (some ⟨g, m * 6, none⟩) 1 (cap - m)]) w1 = .ok (.tuple #[]) w' ∧ w'.ownsRow 0 79 6 (.slice (some ⟨g, 0, none⟩) m cap) m (flat (L.eraseIdx i)) ∧ w1.grownBy w' (some g) := fun w1 h1 => own_clear (m := 0) h1 (by omega) 0
  have hcm2 : ¬ (cap = m) := by omega
  by_cases hjc : j < cap
  · obtain ⟨w1, hrun, hown, hgr⟩ := hap (j * 6) (cap - j) (.inl rfl)
    obtain ⟨w2, hcr, hown2, hgr2⟩ := hclr w1 hown
    have HE : Hid (w2.ownsRow 0 79 6 (.slice (some ⟨g, 0, none⟩) m cap) m (flat (L.eraseIdx i)) ∧ w.grownBy w2 (some g)) := ⟨hown2, ⟨hgr2.os.trans hgr.os, hgr2.tape.trans hgr.tape, hgr2.output.trans hgr.output, Nat.le_trans hgr.size hgr2.size, fun k hk hne => (hgr2.block k (Nat.lt_of_lt_of_le hk hgr.size) hne).trans (hgr.block k hk hne)⟩⟩
    have hcj : ¬ (cap = j) := by omega
    have hjc' : j ≤ cap := by omega
    have HRUN : Hid ((Builtin.append_ #[63, 63] 63 #[.slice (some ⟨g, 0, none⟩) i cap, .slice (some ⟨g, (j * 6), none⟩) (m + 1 - j) (cap - j)]).run Try.prog w.drew = .ok (.slice (some ⟨g, 0, none⟩) m cap) w1) := hrun
    clear hap hclr hown hgr hown2 hgr2 hj hrun
    go_enter Try.func55, Try.ntmps55
    go_wp2_with fail
    refine wp_region_noPanic ?_
    refine wp_region_held_drew (S := fun wx => True) (by kernel_rfl) trivial (fun hHeld => ?_)
    refine take_first 0 (v := ?_) rfl (by kernel_rfl) (by kernel_rfl) (by kernel_rfl) (fun _ _ _ h => h) (Or.inl ⟨by rfl, by intro wx hSw; (try dsimp only at hSw); go_simp; try with_reducible rfl⟩) (by assumption) ?_
    (try simp only [Act.put, List.setIfInBounds_toArray, List.set_cons_zero, List.set_cons_succ])
    refine take_first 1 (v := ?_) rfl (by kernel_rfl) (by kernel_rfl) (by kernel_rfl) (fun _ _ _ h => h) (Or.inl ⟨by rfl, by intro wx hSw; (try dsimp only at hSw); go_simp; try with_reducible rfl⟩) (by assumption) ?_
    (try simp only [Act.put, List.setIfInBounds_toArray, List.set_cons_zero, List.set_cons_succ])
    refine take_first 2 (v := ?_) rfl (by kernel_rfl) (by kernel_rfl) (by kernel_rfl) (fun _ _ _ h => h) (Or.inl ⟨by rfl, by intro wx hSw; (try dsimp only at hSw); go_simp; try with_reducible rfl⟩) (by assumption) ?_
    (try simp only [Act.put, List.setIfInBounds_toArray, List.set_cons_zero, List.set_cons_succ])
    refine take_first 3 (v := ?_) rfl (by kernel_rfl) (by kernel_rfl) (by kernel_rfl) (fun _ _ _ h => h) (Or.inl ⟨by rfl, by intro wx hSw; (try dsimp only at hSw); go_simp; try with_reducible rfl⟩) (by assumption) ?_
    (try simp only [Act.put, List.setIfInBounds_toArray, List.set_cons_zero, List.set_cons_succ])
    refine take_first 4 (v := ?_) rfl (by kernel_rfl) (by kernel_rfl) (by kernel_rfl) (fun _ _ _ h => h) (Or.inl ⟨by rfl, by intro wx hSw; (try dsimp only at hSw); go_simp; try with_reducible rfl⟩) (by assumption) ?_
    (try simp only [Act.put, List.setIfInBounds_toArray, List.set_cons_zero, List.set_cons_succ])
    refine take_first 5 (v := ?_) rfl (by kernel_rfl) (by kernel_rfl) (by kernel_rfl) (fun _ _ _ h => h) (Or.inl ⟨by rfl, by intro wx hSw; (try dsimp only at hSw); go_simp; try with_reducible rfl⟩) (by assumption) ?_
    (try simp only [Act.put, List.setIfInBounds_toArray, List.set_cons_zero, List.set_cons_succ])
    refine comes_up 6 rfl (by kernel_rfl) (fun K hK => ?_)
    refine step_append_run rfl (.tmp 22) (.tmp 25) 63 rfl (.slice (some ⟨g, 0, none⟩) i cap) (.slice (some ⟨g, (j * 6), none⟩) (m + 1 - j) (cap - j)) (.slice (some ⟨g, 0, none⟩) m cap) w1 rfl rfl HRUN.out ?_
    refine hK.out _ _ trivial (fun hHeld => ?_)
    clear hK K
    (try simp only [Act.put, List.setIfInBounds_toArray, List.set_cons_zero, List.set_cons_succ])
    refine comes_up 7 rfl (by kernel_rfl) (fun K hK => ?_)
    go_simp
    refine hK.out _ _ trivial (fun hHeld => ?_)
    clear hK K
    (try simp only [Act.put, List.setIfInBounds_toArray, List.set_cons_zero, List.set_cons_succ])
    refine wpAnyH_done (by kernel_rfl) ?_ _
    refine NoPanic.normal ?_
    go_wp2
    go_ret
    exact ⟨rfl, HE.out⟩
  · obtain ⟨w1, hrun, hown, hgr⟩ := hap 0 0 (.inr (by omega))
    obtain ⟨w2, hcr, hown2, hgr2⟩ := hclr w1 hown
    have HE : Hid (w2.ownsRow 0 79 6 (.slice (some ⟨g, 0, none⟩) m cap) m (flat (L.eraseIdx i)) ∧ w.grownBy w2 (some g)) := ⟨hown2, ⟨hgr2.os.trans hgr.os, hgr2.tape.trans hgr.tape, hgr2.output.trans hgr.output, Nat.le_trans hgr.size hgr2.size, fun k hk hne => (hgr2.block k (Nat.lt_of_lt_of_le hk hgr.size) hne).trans (hgr.block k hk hne)⟩⟩
    have hjm1 : j = m + 1 := by omega
    have hcm1 : cap = m + 1 := by omega
    rw [show m + 1 - j = 0 by omega] at hrun
    subst hjm1
    subst hcm1
    rw [show m + 1 - m = 1 by omega] at hcr
    have HRUN : Hid ((Builtin.append_ #[63, 63] 63 #[.slice (some ⟨g, 0, none⟩) i (m + 1), .slice (some ⟨g, 0, none⟩) 0 0]).run Try.prog w.drew = .ok (.slice (some ⟨g, 0, none⟩) m (m + 1)) w1) := hrun
    clear hap hclr hown hgr hown2 hgr2 hj hrun
    go_enter Try.func55, Try.ntmps55
    go_wp2_with fail
    refine wp_region_noPanic ?_
    refine wp_region_held_drew (S := fun wx => True) (by kernel_rfl) trivial (fun hHeld => ?_)
    refine take_first 0 (v := ?_) rfl (by kernel_rfl) (by kernel_rfl) (by kernel_rfl) (fun _ _ _ h => h) (Or.inl ⟨by rfl, by intro wx hSw; (try dsimp only at hSw); go_simp; try with_reducible rfl⟩) (by assumption) ?_
    (try simp only [Act.put, List.setIfInBounds_toArray, List.set_cons_zero, List.set_cons_succ])
    refine take_first 1 (v := ?_) rfl (by kernel_rfl) (by kernel_rfl) (by kernel_rfl) (fun _ _ _ h => h) (Or.inl ⟨by rfl, by intro wx hSw; (try dsimp only at hSw); go_simp; try with_reducible rfl⟩) (by assumption) ?_
    (try simp only [Act.put, List.setIfInBounds_toArray, List.set_cons_zero, List.set_cons_succ])
    refine take_first 2 (v := ?_) rfl (by kernel_rfl) (by kernel_rfl) (by kernel_rfl) (fun _ _ _ h => h) (Or.inl ⟨by rfl, by intro wx hSw; (try dsimp only at hSw); go_simp; try with_reducible rfl⟩) (by assumption) ?_
    (try simp only [Act.put, List.setIfInBounds_toArray, List.set_cons_zero, List.set_cons_succ])
    refine take_first 3 (v := ?_) rfl (by kernel_rfl) (by kernel_rfl) (by kernel_rfl) (fun _ _ _ h => h) (Or.inl ⟨by rfl, by intro wx hSw; (try dsimp only at hSw); go_simp; try with_reducible rfl⟩) (by assumption) ?_
    (try simp only [Act.put, List.setIfInBounds_toArray, List.set_cons_zero, List.set_cons_succ])
    refine take_first 4 (v := ?_) rfl (by kernel_rfl) (by kernel_rfl) (by kernel_rfl) (fun _ _ _ h => h) (Or.inl ⟨by rfl, by intro wx hSw; (try dsimp only at hSw); go_simp; try with_reducible rfl⟩) (by assumption) ?_
    (try simp only [Act.put, List.setIfInBounds_toArray, List.set_cons_zero, List.set_cons_succ])
    refine take_first 5 (v := ?_) rfl (by kernel_rfl) (by kernel_rfl) (by kernel_rfl) (fun _ _ _ h => h) (Or.inl ⟨by rfl, by intro wx hSw; (try dsimp only at hSw); go_simp; try with_reducible rfl⟩) (by assumption) ?_
    (try simp only [Act.put, List.setIfInBounds_toArray, List.set_cons_zero, List.set_cons_succ])
    refine comes_up 6 rfl (by kernel_rfl) (fun K hK => ?_)
    refine step_append_run rfl (.tmp 22) (.tmp 25) 63 rfl (.slice (some ⟨g, 0, none⟩) i (m + 1)) (.slice (some ⟨g, 0, none⟩) 0 0) (.slice (some ⟨g, 0, none⟩) m (m + 1)) w1 rfl rfl HRUN.out ?_
    refine hK.out _ _ trivial (fun hHeld => ?_)
    clear hK K
    (try simp only [Act.put, List.setIfInBounds_toArray, List.set_cons_zero, List.set_cons_succ])
    refine comes_up 7 rfl (by kernel_rfl) (fun K hK => ?_)
    go_simp
    refine hK.out _ _ trivial (fun hHeld => ?_)
    clear hK K
    (try simp only [Act.put, List.setIfInBounds_toArray, List.set_cons_zero, List.set_cons_succ])
    refine wpAnyH_done (by kernel_rfl) ?_ _
    refine NoPanic.normal ?_
    go_wp2
    go_ret
    exact ⟨rfl, HE.out⟩

section
variable {w : World} {p N : Nat} {H : Nat → Nat} {sv : Value} {lost : Nat} {L : List Px} {A : List Pa}
theorem remove_is (h : NetIs w p N H sv lost L A) (i : Nat) (hi : i < A.length) :
    Calls Try.prog 47 #[.pointer (some ⟨p, 0, none⟩), .int .i64 (i : Nat)] w fun e w' => e = .returned (.tuple #[]) ∧ (∃ sv' L', NetIs w' p N H sv' lost L' (A.eraseIdx i) ∧ ∀ y, Ft p sv' L' y → Ft p sv L y) ∧ Turned (fun b => b = p ∨ sv.ownBlock = some b) w w' := by
  have hlen := h.len
  obtain ⟨x, hx⟩ : ∃ x, L[i]? = some x := ⟨_, List.getElem?_eq_getElem (by omega)⟩
  obtain ⟨g, c, rfl, hc1, hc2, hc3⟩ := bag_some h.bag (List.mem_of_getElem? hx)
  have hgp : g ≠ p := fun e => h.bp (by rw [e]; rfl)
  have hdel := delete_any w g c L h.bag i (i + 1) rfl (by omega) h.most
  have cB := h.cB
  have fr := h.free 17
  have hmost := h.most
  have hsub : ∀ y ∈ L.eraseIdx i, y ∈ L := fun y hy => List.mem_of_mem_eraseIdx hy
  have hel : (L.eraseIdx i).length = L.length - 1 := List.length_eraseIdx_of_lt (by omega)
  have HE : Hid (∀ w1 : World, w1.ownsRow 0 79 6 (.slice (some ⟨g, 0, none⟩) (L.length - 1) c) (L.length - 1) (flat (L.eraseIdx i)) → w.grownBy w1 (some g) → w1.cell? ⟨p, 17, none⟩ = some (.slice (some ⟨g, 0, none⟩) L.length c) ∧ w1.frozen? ⟨p, 17, none⟩ = false ∧ (∃ sv' L', NetIs (w1.setCell ⟨p, 17, none⟩ (.slice (some ⟨g, 0, none⟩) (L.length - 1) c)) p N H sv' lost L' (A.eraseIdx i) ∧ ∀ y, Ft p sv' L' y → Ft p (.slice (some ⟨g, 0, none⟩) L.length c) L y) ∧ Turned (fun b => b = p ∨ (Value.slice (some ⟨g, 0, none⟩) L.length c).ownBlock = some b) w (w1.setCell ⟨p, 17, none⟩ (.slice (some ⟨g, 0, none⟩) (L.length - 1) c))) := fun w1 ho hg => by
    have hold : ∀ b, b < w.heap.size → b ≠ g → w1.heap[b]? = w.heap[b]? := fun b hb hn => hg.block b hb (by simpa using hn)
    have hp1 := hold p h.obj.lt hgp.symm
    refine ⟨(cell_block hp1).trans cB, (frozen_block hp1).trans fr, ⟨.slice (some ⟨g, 0, none⟩) (L.length - 1) c, L.eraseIdx i, { h with
        obj := ((h.obj.of_block hp1).set 17 _).congr (fun j hj => ncell_bag j hj)
        bag := by rw [hel]; exact row_block ho (fun b hb => set_block_other (by simp [Value.ownBlock] at hb; omega))
        len := by rw [hel, List.length_eraseIdx_of_lt hi, hlen]
        pk := ?_
        bp := by simp [Value.ownBlock]; exact hgp
        xp := fun y hy => ⟨(h.xp y (hsub y hy)).1, (h.xp y (hsub y hy)).2⟩
        most := by rw [hel]; omega }, ?_⟩, ?_⟩
    · intro j y d hy hd
      have hyL : y ∈ L := hsub y (List.mem_of_getElem? hy)
      have hj : ∃ k : Nat, L[k]? = some y ∧ A[k]? = some d := by
        rw [List.getElem?_eraseIdx] at hy hd
        by_cases hji : j < i
        · rw [if_pos hji] at hy hd; exact ⟨j, hy, hd⟩
        · rw [if_neg hji] at hy hd; exact ⟨j + 1, hy, hd⟩
      obtain ⟨k, hk1, hk2⟩ := hj
      have hpi := h.pk k y d hk1 hk2
      exact hpi.of ((set_block_other (h.xp y hyL).1).trans (hold _ hpi.by'.lt (fun e => (h.xp y hyL).2 (by rw [e]; rfl))))
    · rintro y (rfl | hy | ⟨z, hz, rfl⟩)
      · exact .inl rfl
      · exact .inr (.inl hy)
      · exact .inr (.inr ⟨z, hsub z hz, rfl⟩)
    · exact (tu_grown hg (fun k hk => .inr hk)).setCell (.inl (.inl rfl)) _
  have hi2 : (i : Int) < 9223372036854775807 := by omega
  clear h hx hlen hel hsub
  generalize L.length = n at *
  generalize hn1 : n - 1 = n1 at *
  clear hn1
  have hdel' : Calls Try.prog 55 #[.slice (some ⟨g, 0, none⟩) n c, .int .i64 (i : Nat), .int .i64 ((i : Int) + 1)] w _ := hdel
  go_enter Try.func47, Try.ntmps47
  go_wp2_with fail
  refine hdel'.mono ?_
  rintro e w1 ⟨rfl, ho, hg⟩
  obtain ⟨k1, k2, k3⟩ := HE.out w1 ho hg
  have HX : Hid (_ ∧ _) := k3
  clear ho hg hdel hdel' k3 HE
  go_wp2
  go_end0
  exact ⟨rfl, HX.out⟩
end
end Go.Proofs.Ytagabmhgcmnldaa
