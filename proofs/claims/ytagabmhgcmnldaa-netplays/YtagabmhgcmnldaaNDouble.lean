/-
  Double of a net; and Put and Double of a net of one's own.
-/
import Derived.Test.YtagabmhgcmnldaaNPut
namespace Go.Proofs.Ytagabmhgcmnldaa
open Go.RowKit
set_option linter.unusedVariables false
set_option linter.unusedSimpArgs false

theorem bag_append_keep {w : World} {g c : Nat} {L : List Px} (h : w.ownsRow 0 79 6 (.slice (some ⟨g, 0, none⟩) L.length c) L.length (flat L)) (hm : L.length < 4096) (x : Px) (b : Nat) (hx : At w b 0 x) (ty : TypeId) :
    ∃ v' w', (Builtin.append_ #[63, 63] ty #[.slice (some ⟨g, 0, none⟩) L.length c, .slice (some ⟨b, 0, none⟩) 1 1]).run Try.prog w = .ok v' w' ∧ w'.ownsRow 0 79 6 v' (L ++ [x]).length (flat (L ++ [x])) ∧ w.grownBy w' (some g) ∧ (∀ b, v'.ownBlock = some b → (Value.slice (some ⟨g, 0, none⟩) L.length c).ownBlock = some b ∨ w.heap.size ≤ b) ∧ ∀ j y, L[j]? = some y → At w' g (j * 6) y := by
  obtain ⟨i0, hi0, hz0, hz1, hz2⟩ := info_parts info79z
  have hnl : (cellsP x).length = 1 * 6 := by simp [cellsP]
  have hnews : ∀ j u, (cellsP x)[j]? = some u → w.cell? ((⟨b, 0, none⟩ : Addr).add j) = some u := fun j u hj => by rw [Addr.add_lit]; exact hx j u hj
  have h1c : ∀ u ∈ cellsP x, u.oneCell' = true := fun u hu => flat_one (ls := [x]) (by simpa [flat] using hu)
  have hfl : flat (L ++ [x]) = flat L ++ cellsP x := by rw [flat_app]; simp [flat]
  by_cases hroom : L.length + 1 ≤ c
  · obtain ⟨w', h1, h2, h3⟩ := run_append_fits (P := Try.prog) w 0 63 ty 79 i0 6 und63 hi0 hz1 g L.length c (flat L) h ⟨b, 0, none⟩ 1 1 (cellsP x) hnl hnews h1c hroom
    refine ⟨_, w', h1, by rw [hfl, List.length_append]; exact h2, h3, fun b hb => .inl hb, fun j y hj => ?_⟩
    rw [← hfl] at h2
    have h2' : w'.ownsRow 0 79 6 (.slice (some ⟨g, 0, none⟩) (L ++ [x]).length c) (L ++ [x]).length (flat (L ++ [x])) := by rw [List.length_append]; exact h2
    exact bag_at h2' (by rw [List.getElem?_append_left ((List.getElem?_eq_some_iff.1 hj).1)]; exact hj)
  · obtain ⟨v', w', h1, h2, h3⟩ := run_append_arg_grows (P := Try.prog) w 63 ty 79 i0 _ 6 64 und63 hi0 hz0 hz1 hz2 rfl (by omega) ⟨g, 0, none⟩ L.length c (flat L) (flat_len L) (fun j u hj => h.cells rfl j u hj) ⟨b, 0, none⟩ 1 1 (cellsP x) hnl hnews (by omega) (by unfold maxLen; omega) (by omega)
    have hb : ∀ k, k < w.heap.size → w'.heap[k]? = w.heap[k]? := fun k hk => h3.block k hk (by simp)
    refine ⟨v', w', h1, ?_, ⟨h3.os, h3.tape, h3.output, h3.size, fun k hk _ => hb k hk⟩, ?_, fun j y hj i u hi => ?_⟩
    · rw [hfl, List.length_append]
      exact owns_mono h2 (Nat.zero_le _)
    · exact fun b hb => .inr (h2.lt b hb).1
    · have := bag_at h hj i u hi
      exact (cell_block (hb g (World.block_lt_of_cell? w _ this))).trans this
theorem double_nil (w : World) (i : Int) : Calls Try.prog 23 #[.pointer none, .int .i64 i] w fun e w' => e = .returned (.int .i64 6) ∧ w = w' := by
  go_enter Try.func23, Try.ntmps23
  go_wp2_with fail
  refine (place_nil _ _).mono ?_
  rintro e w1 ⟨rfl, rfl⟩
  go_wp2
  go_ret
  exact ⟨rfl, rfl⟩
section
variable {w : World} {p N : Nat} {H : Nat → Nat} {sv : Value} {lost : Nat} {L : List Px} {A : List Pa}
theorem double_none (h : NetIs w p N H sv lost L A) (i : Int) (hi : ¬ (0 ≤ i ∧ i < A.length)) :
    Calls Try.prog 23 #[.pointer (some ⟨p, 0, none⟩), .int .i64 i] w fun e w' => e = .returned (.int .i64 1) ∧ w = w' := by
  have hpl := place_is h i
  rw [if_neg hi] at hpl
  clear h
  go_enter Try.func23, Try.ntmps23
  go_wp2_with fail
  refine hpl.mono ?_
  rintro e w1 ⟨rfl, rfl⟩
  go_wp2
  go_ret
  exact ⟨rfl, rfl⟩
theorem double_full (h : NetIs w p N H sv lost L A) (i : Nat) (hi : i < A.length) (hA : A.length = 4096) (hl : lost < 1000000) :
    Calls Try.prog 23 #[.pointer (some ⟨p, 0, none⟩), .int .i64 (i : Nat)] w fun e w' => e = .returned (.int .i64 7) ∧ NetIs w' p N H sv (lost + 1) L A ∧ Turned (Ft p sv L) w w' := by
  have hpl := place_is h (i : Int)
  rw [if_pos ⟨by omega, by omega⟩] at hpl
  have hfu := full_is h
  rw [show decide (A.length = 4096) = true by simpa using hA] at hfu
  have cL := h.cL
  have fr := h.free 18
  have HE : Hid (NetIs (w.setCell ⟨p, 18, none⟩ (.int .i64 ((lost + 1 : Nat) : Int))) p N H sv (lost + 1) L A ∧ Turned (Ft p sv L) w (w.setCell ⟨p, 18, none⟩ (.int .i64 ((lost + 1 : Nat) : Int)))) :=
    ⟨h.setLost (lost + 1) (by omega), (Turned.refl _ w).setCell (.inl (.inl rfl)) _⟩
  clear h
  go_enter Try.func23, Try.ntmps23
  go_wp2_with fail
  refine hpl.mono ?_
  rintro e w1 ⟨rfl, rfl⟩
  go_wp2_with fail
  refine hfu.mono ?_
  rintro e w1 ⟨rfl, rfl⟩
  go_wp2
  go_ret
  exact ⟨rfl, HE.out⟩

set_option maxRecDepth 10000 in
set_option maxHeartbeats 2000000 in
theorem double_is (h : NetIs w p N H sv lost L A) (i : Nat) (a : Pa) (hi : A[i]? = some a) (hA : A.length < 4096) :
    Calls Try.prog 23 #[.pointer (some ⟨p, 0, none⟩), .int .i64 (i : Nat)] w fun e w' => e = .returned (.int .i64 0) ∧ ∃ sv' L', NetIs w' p N H sv' lost L' (A ++ [a]) ∧ Goes (Ft p sv L) w (Ft p sv' L') w' := by
  have hil := (List.getElem?_eq_some_iff.1 hi).1
  have hpl := place_is h (i : Int)
  rw [if_pos ⟨by omega, by omega⟩] at hpl
  have hfu := full_is h
  rw [show decide (A.length = 4096) = false by simp; omega] at hfu
  have hlen := h.len
  have hLm : L.length < 4096 := by omega
  obtain ⟨x, hx⟩ : ∃ x, L[i]? = some x := ⟨_, List.getElem?_eq_getElem (by omega)⟩
  obtain ⟨g, c, rfl, hc1, hc2, hc3⟩ := bag_some h.bag (List.mem_of_getElem? hx)
  have hat := bag_at h.bag hx
  have hpi := h.pk i x a hx hi
  have cB := h.cB
  have hxm := List.mem_of_getElem? hx
  obtain ⟨c0, c1, c2, c3, c4, c5⟩ := hat.cells
  obtain ⟨o3, ho3⟩ : ∃ o3, o3 = Obj.cells #[.int .i64 x.f, .int .i64 x.t, .slice (some ⟨x.g, 0, none⟩) x.n x.n, .int .i64 x.t0, .int .i64 x.t1, .int .i64 (x.k : Nat)] 79 := ⟨_, rfl⟩
  have hb3 : Below w.heap.size w (w.drew.alloc o3) := ((Below.refl w.heap.size w).drew).alloc (Nat.le_refl _) o3
  have h3 := h.up hb3
  have hatn : At (w.drew.alloc o3) w.heap.size 0 x := by
    intro j v hj
    rw [ho3, Nat.zero_add]
    refine cell_box w.drew _ 79 j v ?_
    simpa [cellsP] using hj
  obtain ⟨v', w4, hrun, hown, hgr, hvp, hats⟩ := bag_append_keep h3.bag hLm x w.heap.size hatn 63
  have HE : Hid (∃ sv' L', NetIs (w4.setCell ⟨p, 17, none⟩ v') p N H sv' lost L' (A ++ [a]) ∧ Goes (Ft p (.slice (some ⟨g, 0, none⟩) L.length c) L) w (Ft p sv' L') (w4.setCell ⟨p, 17, none⟩ v')) :=
    ⟨v', L ++ [x], h.more hLm hb3 hgr hown hvp (hpi.of (hb3.block _ hpi.by'.lt)) (h.xp x hxm).1 (h.xp x hxm).2 (.inl (.inr (.inr ⟨x, hxm, rfl⟩)))⟩
  have hgp : g ≠ p := fun e => h.bp (by rw [e]; rfl)
  have hp4 : w4.cell? ⟨p, 17, none⟩ = some (.slice (some ⟨g, 0, none⟩) L.length c) ∧ w4.frozen? ⟨p, 17, none⟩ = false := by
    have e : w4.heap[p]? = (w.drew.alloc o3).heap[p]? := hgr.block p h3.obj.lt (fun e => hgp (by simpa using e.symm))
    exact ⟨(cell_block e).trans h3.cB, (frozen_block e).trans (h3.free 17)⟩
  have hat3 : At (w.drew.alloc o3) g (i * 6) x := bag_at h3.bag hx
  have hat4 := hats i x hx
  obtain ⟨d0, d1, d2, d3, d4, d5⟩ := hat3.cells
  obtain ⟨e0, e1, e2, e3, e4, e5⟩ := hat4.cells
  have cB3 := h3.cB
  have hiL : (i : Int) < (L.length : Int) := by omega
  obtain ⟨va, vc, hvv, _, _⟩ := bag_shape hown
  obtain ⟨nn, hnn⟩ : ∃ nn, (L ++ [x]).length = nn := ⟨_, rfl⟩
  rw [hnn] at hvv
  subst hvv
  have HRUN : Hid ((Builtin.append_ #[63, 63] 63 #[.slice (some ⟨g, 0, none⟩) L.length c, .slice (some ⟨w.heap.size, 0, none⟩) 1 1]).run Try.prog (w.drew.alloc o3) = .ok (.slice va nn vc) w4) := hrun
  rw [ho3] at HRUN cB3 d0 d1 d2 d3 d4 d5
  clear hnn hrun hown hgr hvp hats hatn hat3 hat4 hat h3 hb3 h hpi hxm hx hi ho3 hlen hil
  generalize L.length = n at *
  generalize x.k = kk at *
  go_enter Try.func23, Try.ntmps23
  go_wp2_with fail
  refine hpl.mono ?_
  rintro e w1 ⟨rfl, rfl⟩
  go_wp2_with fail
  refine hfu.mono ?_
  rintro e w1 ⟨rfl, rfl⟩
  go_wp2_with fail
  refine wp_region_noPanic ?_
  refine beginE (fun wx => wx.cell? ⟨p, 17, none⟩ = some (.slice (some ⟨g, 0, none⟩) n c) ∧ wx.cell? ⟨g, i * 6, none⟩ = some (.int .i64 x.f) ∧ wx.cell? ⟨g, i * 6 + 1, none⟩ = some (.int .i64 x.t) ∧ wx.cell? ⟨g, i * 6 + 2, none⟩ = some (.slice (some ⟨x.g, 0, none⟩) x.n x.n) ∧ wx.cell? ⟨g, i * 6 + 3, none⟩ = some (.int .i64 x.t0) ∧ wx.cell? ⟨g, i * 6 + 4, none⟩ = some (.int .i64 x.t1) ∧ wx.cell? ⟨g, i * 6 + 5, none⟩ = some (.int .i64 (kk : Nat))) 16 (by kernel_rfl) ⟨cB, c0, c1, c2, c3, c4, c5⟩ (fun hHeld => ?_)
  refine takeE 0 (v := ?_) rfl (by kernel_rfl) (by kernel_rfl) (by kernel_rfl) (by kernel_rfl) (by kernel_rfl) (fun _ _ _ h => h) (Or.inl ⟨by rfl, by intro wx hSw; (try dsimp only at hSw); obtain ⟨hSw1, hSw2, hSw3, hSw4, hSw5, hSw6, hSw7⟩ := hSw; go_simp; try with_reducible rfl⟩) (by assumption) ?_
  (try simp only [Act.put, List.setIfInBounds_toArray, List.set_cons_zero, List.set_cons_succ])
  refine takeE 1 (v := ?_) rfl (by kernel_rfl) (by kernel_rfl) (by kernel_rfl) (by kernel_rfl) (by kernel_rfl) (fun _ _ _ h => h) (Or.inl ⟨by rfl, by intro wx hSw; (try dsimp only at hSw); obtain ⟨hSw1, hSw2, hSw3, hSw4, hSw5, hSw6, hSw7⟩ := hSw; go_simp; try with_reducible rfl⟩) (by assumption) ?_
  (try simp only [Act.put, List.setIfInBounds_toArray, List.set_cons_zero, List.set_cons_succ])
  refine takeE 2 (v := ?_) rfl (by kernel_rfl) (by kernel_rfl) (by kernel_rfl) (by kernel_rfl) (by kernel_rfl) (fun _ _ _ h => h) (Or.inl ⟨by rfl, by intro wx hSw; (try dsimp only at hSw); obtain ⟨hSw1, hSw2, hSw3, hSw4, hSw5, hSw6, hSw7⟩ := hSw; go_simp; try with_reducible rfl⟩) (by assumption) ?_
  (try simp only [Act.put, List.setIfInBounds_toArray, List.set_cons_zero, List.set_cons_succ])
  refine takeE 3 (v := ?_) rfl (by kernel_rfl) (by kernel_rfl) (by kernel_rfl) (by kernel_rfl) (by kernel_rfl) (fun _ _ _ h => h) (Or.inl ⟨by rfl, by intro wx hSw; (try dsimp only at hSw); obtain ⟨hSw1, hSw2, hSw3, hSw4, hSw5, hSw6, hSw7⟩ := hSw; go_simp; try with_reducible rfl⟩) (by assumption) ?_
  (try simp only [Act.put, List.setIfInBounds_toArray, List.set_cons_zero, List.set_cons_succ])
  refine takeE 4 (v := ?_) rfl (by kernel_rfl) (by kernel_rfl) (by kernel_rfl) (by kernel_rfl) (by kernel_rfl) (fun _ _ _ h => h) (Or.inl ⟨by rfl, by intro wx hSw; (try dsimp only at hSw); obtain ⟨hSw1, hSw2, hSw3, hSw4, hSw5, hSw6, hSw7⟩ := hSw; go_simp; try with_reducible rfl⟩) (by assumption) ?_
  (try simp only [Act.put, List.setIfInBounds_toArray, List.set_cons_zero, List.set_cons_succ])
  refine takeE 5 (v := ?_) rfl (by kernel_rfl) (by kernel_rfl) (by kernel_rfl) (by kernel_rfl) (by kernel_rfl) (fun _ _ _ h => h) (Or.inl ⟨by rfl, by intro wx hSw; (try dsimp only at hSw); obtain ⟨hSw1, hSw2, hSw3, hSw4, hSw5, hSw6, hSw7⟩ := hSw; go_simp; try with_reducible rfl⟩) (by assumption) ?_
  (try simp only [Act.put, List.setIfInBounds_toArray, List.set_cons_zero, List.set_cons_succ])
  refine takeE 6 (v := ?_) rfl (by kernel_rfl) (by kernel_rfl) (by kernel_rfl) (by kernel_rfl) (by kernel_rfl) (fun _ _ _ h => h) (Or.inl ⟨by rfl, by intro wx hSw; (try dsimp only at hSw); obtain ⟨hSw1, hSw2, hSw3, hSw4, hSw5, hSw6, hSw7⟩ := hSw; go_simp; try with_reducible rfl⟩) (by assumption) ?_
  (try simp only [Act.put, List.setIfInBounds_toArray, List.set_cons_zero, List.set_cons_succ])
  refine takeE 7 (v := ?_) rfl (by kernel_rfl) (by kernel_rfl) (by kernel_rfl) (by kernel_rfl) (by kernel_rfl) (fun _ _ _ h => h) (Or.inl ⟨by rfl, by intro wx hSw; (try dsimp only at hSw); obtain ⟨hSw1, hSw2, hSw3, hSw4, hSw5, hSw6, hSw7⟩ := hSw; go_simp; try with_reducible rfl⟩) (by assumption) ?_
  (try simp only [Act.put, List.setIfInBounds_toArray, List.set_cons_zero, List.set_cons_succ])
  refine takeE 8 (v := ?_) rfl (by kernel_rfl) (by kernel_rfl) (by kernel_rfl) (by kernel_rfl) (by kernel_rfl) (fun _ _ _ h => h) (Or.inl ⟨by rfl, by intro wx hSw; (try dsimp only at hSw); obtain ⟨hSw1, hSw2, hSw3, hSw4, hSw5, hSw6, hSw7⟩ := hSw; go_simp; try with_reducible rfl⟩) (by assumption) ?_
  (try simp only [Act.put, List.setIfInBounds_toArray, List.set_cons_zero, List.set_cons_succ])
  refine takeE 9 (v := ?_) rfl (by kernel_rfl) (by kernel_rfl) (by kernel_rfl) (by kernel_rfl) (by kernel_rfl) (fun _ _ _ h => h) (Or.inl ⟨by rfl, by intro wx hSw; (try dsimp only at hSw); obtain ⟨hSw1, hSw2, hSw3, hSw4, hSw5, hSw6, hSw7⟩ := hSw; go_simp; try with_reducible rfl⟩) (by assumption) ?_
  (try simp only [Act.put, List.setIfInBounds_toArray, List.set_cons_zero, List.set_cons_succ])
  refine takeE 10 (v := ?_) rfl (by kernel_rfl) (by kernel_rfl) (by kernel_rfl) (by kernel_rfl) (by kernel_rfl) (fun _ _ _ h => h) (Or.inl ⟨by rfl, by intro wx hSw; (try dsimp only at hSw); obtain ⟨hSw1, hSw2, hSw3, hSw4, hSw5, hSw6, hSw7⟩ := hSw; go_simp; try with_reducible rfl⟩) (by assumption) ?_
  (try simp only [Act.put, List.setIfInBounds_toArray, List.set_cons_zero, List.set_cons_succ])
  refine takeE 11 (v := ?_) rfl (by kernel_rfl) (by kernel_rfl) (by kernel_rfl) (by kernel_rfl) (by kernel_rfl) (fun _ _ _ h => h) (Or.inl ⟨by rfl, by intro wx hSw; (try dsimp only at hSw); obtain ⟨hSw1, hSw2, hSw3, hSw4, hSw5, hSw6, hSw7⟩ := hSw; go_simp; try with_reducible rfl⟩) (by assumption) ?_
  (try simp only [Act.put, List.setIfInBounds_toArray, List.set_cons_zero, List.set_cons_succ])
  refine upE 12 rfl (by kernel_rfl) (fun K hK => ?_)
  go_simp
  refine hK.out _ _ ⟨cB3, d0, d1, d2, d3, d4, d5⟩ (fun hHeld => ?_)
  clear hK K
  (try simp only [Act.put, List.setIfInBounds_toArray, List.set_cons_zero, List.set_cons_succ])
  refine upE 13 rfl (by kernel_rfl) (fun K hK => ?_)
  refine step_append_run rfl (.tmp 25) (.tmp 33) 63 rfl (.slice (some ⟨g, 0, none⟩) n c) (.slice (some ⟨w.heap.size, 0, none⟩) 1 1) (.slice va nn vc) w4 rfl rfl HRUN.out ?_
  refine hK.out _ _ ⟨hp4.1, e0, e1, e2, e3, e4, e5⟩ (fun hHeld => ?_)
  clear hK K
  (try simp only [Act.put, List.setIfInBounds_toArray, List.set_cons_zero, List.set_cons_succ])
  obtain ⟨hp5, hp6⟩ := hp4
  refine pureE 14 (v := ?_) rfl (by kernel_rfl) (by kernel_rfl) (by kernel_rfl) (by kernel_rfl) (fun _ _ _ h => h) (Or.inl ⟨by rfl, by intro wx hSw; (try dsimp only at hSw); go_simp; try with_reducible rfl⟩) (by assumption) ?_
  (try simp only [Act.put, List.setIfInBounds_toArray, List.set_cons_zero, List.set_cons_succ])
  refine pureE 15 (v := ?_) rfl (by kernel_rfl) (by kernel_rfl) (by kernel_rfl) (by kernel_rfl) (fun _ _ _ h => h) (Or.inl ⟨by rfl, by intro wx hSw; (try dsimp only at hSw); go_simp; try with_reducible rfl⟩) (by assumption) ?_
  (try simp only [Act.put, List.setIfInBounds_toArray, List.set_cons_zero, List.set_cons_succ])
  refine lastE 16 rfl (by kernel_rfl) (by kernel_rfl) (fun K hK => ?_)
  go_simp
  refine hK.out _ _ ?_
  clear hK K
  (try simp only [Act.put, List.setIfInBounds_toArray, List.set_cons_zero, List.set_cons_succ])
  refine doneE (by kernel_rfl) ?_ _
  refine NoPanic.normal ?_
  go_wp2
  go_ret
  exact ⟨rfl, HE.out⟩
end
section
variable {w : World} {F : Nat → Prop} {p N : Nat} {H : Nat → Nat} {lost : Nat} {A : List Pa}
theorem put_any (h : Nt w F p N H lost A) (f t : Nat) (hf : f < N) (ht : t < N) (ao : Option Addr) (n cap : Nat) (xs : List UInt8) (hx : Row w ao n cap xs) (hn : n ≤ 140737488355328) (hA : A.length < 4096) :
    Calls Try.prog 22 #[.pointer (some ⟨p, 0, none⟩), pkt (f : Nat) (t : Nat) (.slice ao n cap)] w fun e w' => e = .returned (.int .i64 0) ∧ ∃ F', Nt w' F' p N H lost (A ++ [⟨f, t, xs, []⟩]) ∧ Goes F w F' w' := by
  obtain ⟨⟨sv, L, h1, h2⟩, h3⟩ := h
  refine (put_is h1 f t hf ht ao n cap xs hx hn hA).mono ?_
  rintro e w' ⟨he, sv', L', k1, k2⟩
  exact ⟨he, Ft p sv' L', ⟨⟨sv', L', k1, fun _ hb => hb⟩, k1.lt⟩, k2.turned.mono h2, fun b hb => (k2.foot b hb).elim (fun h => .inl (h2 b h)) .inr⟩
theorem double_any (h : Nt w F p N H lost A) (i : Nat) (a : Pa) (hi : A[i]? = some a) (hA : A.length < 4096) :
    Calls Try.prog 23 #[.pointer (some ⟨p, 0, none⟩), .int .i64 (i : Nat)] w fun e w' => e = .returned (.int .i64 0) ∧ ∃ F', Nt w' F' p N H lost (A ++ [a]) ∧ Goes F w F' w' := by
  obtain ⟨⟨sv, L, h1, h2⟩, h3⟩ := h
  refine (double_is h1 i a hi hA).mono ?_
  rintro e w' ⟨he, sv', L', k1, k2⟩
  exact ⟨he, Ft p sv' L', ⟨⟨sv', L', k1, fun _ hb => hb⟩, k1.lt⟩, k2.turned.mono h2, fun b hb => (k2.foot b hb).elim (fun h => .inl (h2 b h)) .inr⟩
theorem put_busy (h : Nt w F p N H lost A) (f t : Nat) (v : Value) (hf : f < N) (ht : t < N) (hA : A.length = 4096) (hl : lost < 1000000) :
    Calls Try.prog 22 #[.pointer (some ⟨p, 0, none⟩), pkt (f : Nat) (t : Nat) v] w fun e w' => e = .returned (.int .i64 7) ∧ Nt w' F p N H (lost + 1) A ∧ Turned F w w' := by
  obtain ⟨⟨sv, L, h1, h2⟩, h3⟩ := h
  refine (put_full h1 f t v hf ht hA hl).mono ?_
  rintro e w' ⟨he, k1, k2⟩
  exact ⟨he, ⟨⟨sv, L, k1, h2⟩, fun b hb => Nat.lt_of_lt_of_le (h3 b hb) k2.size⟩, k2.mono h2⟩
theorem double_busy (h : Nt w F p N H lost A) (i : Nat) (hi : i < A.length) (hA : A.length = 4096) (hl : lost < 1000000) :
    Calls Try.prog 23 #[.pointer (some ⟨p, 0, none⟩), .int .i64 (i : Nat)] w fun e w' => e = .returned (.int .i64 7) ∧ Nt w' F p N H (lost + 1) A ∧ Turned F w w' := by
  obtain ⟨⟨sv, L, h1, h2⟩, h3⟩ := h
  refine (double_full h1 i hi hA hl).mono ?_
  rintro e w' ⟨he, k1, k2⟩
  exact ⟨he, ⟨⟨sv, L, k1, h2⟩, fun b hb => Nat.lt_of_lt_of_le (h3 b hb) k2.size⟩, k2.mono h2⟩
theorem turn_any (h : Nt w F p N H lost A) (i : Nat) (a : Pa) (hi : A[i]? = some a) (b : Nat) (hb : turnE a b = 0) :
    Calls Try.prog 26 #[.pointer (some ⟨p, 0, none⟩), .int .i64 (i : Nat), .int .i64 (b : Nat)] w fun e w' => e = .returned (.int .i64 0) ∧ Nt w' F p N H lost (A.set i (a.turn b)) ∧ Turned F w w' := by
  obtain ⟨⟨sv, L, h1, h2⟩, h3⟩ := h
  refine (turnNet_is h1 i a hi b hb).mono ?_
  rintro e w' ⟨he, ⟨L', k1, k3⟩, k2⟩
  exact ⟨he, ⟨⟨sv, L', k1, fun b hb => h2 b (k3 b hb)⟩, fun b hb => Nat.lt_of_lt_of_le (h3 b hb) k2.size⟩, k2.mono h2⟩
theorem turn_errs (h : Nt w F p N H lost A) (i : Nat) (a : Pa) (hi : A[i]? = some a) (b : Int) (hR : b ≤ 9223372036854775807) (hb : turnE a b ≠ 0) :
    Calls Try.prog 26 #[.pointer (some ⟨p, 0, none⟩), .int .i64 (i : Nat), .int .i64 b] w fun e w' => e = .returned (.int .i64 (turnE a b)) ∧ w = w' := by
  obtain ⟨⟨sv, L, h1, h2⟩, h3⟩ := h
  exact turnNet_err h1 i a hi b hR hb
end
end Go.Proofs.Ytagabmhgcmnldaa
