/-
  The wheel's call put: a timer stands at the end of the slot of its tick, and in the map.
-/
import Derived.Test.YtofhkfbibdkjgaaWSlot
namespace Go.Proofs.Ytofhkfbibdkjgaa
open Go.RowKit
set_option linter.unusedVariables false

theorem und39 : Try.prog.underlying 36 = some (.slice 3) := by kernel_rfl
theorem info3 : (Try.prog.info? 3).map (fun i => (i.zero, i.size, i.bytes)) = some (some (.int .i64 0), 1, 8) := by kernel_rfl
theorem ints_one (ys : List Int) : ∀ u ∈ ys.map (Value.int .i64), u.oneCell' = true := by
  intro u hu
  simp only [List.mem_map] at hu
  obtain ⟨y, _, rfl⟩ := hu
  rfl
theorem Rep.drewN {w : World} {p m : Nat} {V : Nat → Value} {now arms n : Nat} {T : Int → Option Tm} {S : Nat → List Int} (h : Rep w p m V now arms n T S) (q : Nat) : Rep (w.drewN q) p m V now arms n T S :=
  h.frame (fun b hb => rfl)

theorem box3 (w : World) (a b c u : Value) (t : TypeId) (q : Nat) (o2 : Obj) :
    let W := (((w.alloc (.cells #[a, b, c] t)).drewN q).setCell ⟨w.heap.size, 2, none⟩ u).alloc o2
    W.cell? ⟨w.heap.size, 0, none⟩ = some a ∧ W.cell? ⟨w.heap.size, 1, none⟩ = some b ∧ W.cell? ⟨w.heap.size, 2, none⟩ = some u := by
  intro W
  have hlt : w.heap.size < (((w.alloc (.cells #[a, b, c] t)).drewN q).setCell ⟨w.heap.size, 2, none⟩ u).heap.size := by
    have : (((w.alloc (.cells #[a, b, c] t)).drewN q).setCell ⟨w.heap.size, 2, none⟩ u).heap.size = (w.alloc (.cells #[a, b, c] t)).heap.size := by simp [World.setCell, World.drewN]
    rw [this]; simp
  have e : ∀ j, W.cell? ⟨w.heap.size, j, none⟩ = (((w.alloc (.cells #[a, b, c] t)).drewN q).setCell ⟨w.heap.size, 2, none⟩ u).cell? ⟨w.heap.size, j, none⟩ := fun j => cell_block (Below.heap_alloc _ _ _ hlt)
  have c0 : ∀ j, ((w.alloc (.cells #[a, b, c] t)).drewN q).cell? ⟨w.heap.size, j, none⟩ = #[a, b, c][j]? := fun j => by
    show (w.alloc (.cells #[a, b, c] t)).cell? _ = _
    exact cell_of_row _ _ _ _ t (0, 0) (heap_alloc_new w _)
  refine ⟨?_, ?_, ?_⟩
  · rw [e, set_cell_other (by omega), c0]; rfl
  · rw [e, set_cell_other (by omega), c0]; rfl
  · rw [e]; exact set_cell (c0 2)
/-- The shape of a row's slice. -/
theorem row_shape {w : World} {base e size n : Nat} {v : Value} {xs : List Value} (h : w.ownsRow base e size v n xs) : ∃ ao cap, v = .slice ao n cap ∧ n ≤ cap ∧ cap ≤ maxLen := by
  rcases h.2 with ⟨rfl, rfl⟩ | ⟨g, cap, cur, rfl, _, _, h1, h2, _⟩
  · exact ⟨none, 0, rfl, Nat.le_refl _, by unfold maxLen; omega⟩
  · exact ⟨_, cap, rfl, h1, h2⟩

/-- A store into the map, however often was drawn ahead of it. -/
theorem MapIs.stores {w : World} {b n : Nat} {T : Int → Option Tm} (h : MapIs w b n T) (hn : n < maxLen) {i : Int} (hi : In i) (t : Tm) :
    ∃ f : Nat → World, ∀ q, (Instr.mapUpdate 56 (.map (some b)) (.int .i64 i) t.val).run Try.prog (w.drewN q) = .ok () (f q) ∧ MapIs (f q) b (cntUp T i n) (upd T i (some t)) ∧ (w.drewN q).mapTurned (f q) b :=
  Classical.axiomOfChoice (fun q => MapIs.store (w := w.drewN q) (h.of_block rfl) hn hi t)

set_option maxRecDepth 10000 in
set_option maxHeartbeats 1000000 in
theorem put_any (w : World) (p m : Nat) (V : Nat → Value) (now arms n : Nat) (T : Int → Option Tm) (S : Nat → List Int) (h : Rep w p m V now arms n T S) (hnow : now < 18446744073709551616)
    (i : Int) (hi : In i) (t : Tm) (hd : t.due < 18446744073709551616) (hn : n < 1099511627776) (hl : ∀ k, k < 256 → (S k).length < 1099511627776) :
    Calls Try.prog 25 #[.pointer (some ⟨p, 0, none⟩), .int .i64 i, t.val] w fun e w' => e = .returned (.tuple #[]) ∧ ∃ V', Rep w' p m V' now arms (cntUp T i n) (upd T i (some ⟨t.due, t.armed, (S (slotOf now t.due)).length⟩)) (put S (slotOf now t.due) (S (slotOf now t.due) ++ [i])) ∧ Goes p m V w V' w' := by
  obtain ⟨td, ta, tp⟩ := t
  simp only [Tm.val] at *
  have hk := slotOf_lt now td
  have hs := fun W (hc : W.cell? ⟨p, 0, none⟩ = some (.int .u64 (now : Nat))) => slot_any W p now td hc hnow hd
  obtain ⟨i0, hi0, hz0, hz1, hz2⟩ := info_parts info3
  generalize slotOf now td = k at *
  obtain ⟨ao, cap, hv, hcap, hmax⟩ := row_shape (h.rows k hk)
  have hrow := h.rows k hk
  have hck := h.cs k hk
  have hc0 := h.c0
  have hc2 := h.c2
  have hlk := hl k hk
  have hpl := h.plt
  have hfr := h.fr (3 + k)
  have hlt := h.foot_lt
  rw [hv] at hck hrow
  have HV : Hid (V k = .slice ao (S k).length cap) := hv
  obtain ⟨L, HLn⟩ : ∃ L, Hid ((S k).length = L) := ⟨_, rfl⟩
  have HLn' := HLn.out
  rw [HLn'] at hck hlk hv hcap
  clear HLn' hl hv
  unfold maxLen at hmax
  have hne : w.heap.size ≠ p := by omega
  have HR : ∀ (o o2 : Obj) (q : Nat) (u : Value), Rep ((((w.alloc o).drewN q).setCell ⟨w.heap.size, 2, none⟩ u).alloc o2) p m V now arms n T S := fun o o2 q u =>
    (((h.alloc o).drewN q).setOther (fun hf => by have := hlt _ hf; simp at this) u).alloc o2
  have HG : ∀ (o o2 : Obj) (q : Nat) (u : Value), Goes p m V w V ((((w.alloc o).drewN q).setCell ⟨w.heap.size, 2, none⟩ u).alloc o2) := fun o o2 q u =>
    ⟨((((Turned.refl _ w).alloc o).drewN q).setCell (.inr (Nat.le_refl _)) u).alloc o2, fun _ hb => .inl hb⟩
  go_enter Try.func25, Try.ntmps25
  go_wp2_with (first | (go_at_call 31; refine (hs _ ?c).mono ?_; rotate_left; rintro e w' ⟨rfl, q, rfl⟩) | (at_builtin; refine wpList_append_own_at _ rfl _ _ 36 rfl 0 3 i0 (.int .i64 0) 1 8 und39 hi0 hz0 hz1 hz2 rfl (by decide) (.slice ao L cap) L ((S k).map (Value.int .i64)) rfl ?d1 ⟨w.heap.size + 1, 0, none⟩ 1 1 [.int .i64 i] rfl rfl ?d3 (ints_one [i]) ?d6 ?d7 (Nat.zero_le _) ?_))
  case c => exact (h.alloc _).c0
  case d1 => 
    have := (HR (Obj.cells #[Value.int IntKind.u64 ↑td, Value.int IntKind.u64 ↑ta, Value.int IntKind.i64 ↑tp] 62) (Obj.cells #[Value.int IntKind.i64 i] 3) q (Value.int IntKind.i64 ↑L)).rows k hk
    rw [HV.out, HLn.out] at this
    exact this
  case d3 => 
    intro j u hj
    have := cell_one_new ((((w.alloc (Obj.cells #[Value.int IntKind.u64 ↑td, Value.int IntKind.u64 ↑ta, Value.int IntKind.i64 ↑tp] 62)).drewN q).setCell { block := w.heap.size, off := 2 } (Value.int IntKind.i64 ↑L))) (.int .i64 i) 3 j u hj
    simpa using this
  case d6 => unfold maxLen; omega
  case d7 => omega
  intro v' w1 hown hgrow hnil hat
  obtain ⟨ao', cap', rfl, _, _⟩ := row_shape hown
  have hrep2 := HR (Obj.cells #[Value.int IntKind.u64 ↑td, Value.int IntKind.u64 ↑ta, Value.int IntKind.i64 ↑tp] 62) (Obj.cells #[Value.int IntKind.i64 i] 3) q (Value.int IntKind.i64 ↑L)
  have hgo2 := HG (Obj.cells #[Value.int IntKind.u64 ↑td, Value.int IntKind.u64 ↑ta, Value.int IntKind.i64 ↑tp] 62) (Obj.cells #[Value.int IntKind.i64 i] 3) q (Value.int IntKind.i64 ↑L)
  have hbw : (Value.slice ao L cap).ownBlock ≠ some w.heap.size := by
    intro e
    have := hlt _ (.inr (.inr ⟨k, hk, by rw [HV.out, HLn.out]; exact e⟩))
    omega
  have hb0 : w1.cell? ⟨w.heap.size, 0, none⟩ = some (.int .u64 (td : Nat)) := by
    exact hgrow.cell (box3 w _ _ _ _ 62 q _).1 (fun e => hbw e.symm)
  have hb1 : w1.cell? ⟨w.heap.size, 1, none⟩ = some (.int .u64 (ta : Nat)) := by
    exact hgrow.cell (box3 w _ _ _ _ 62 q _).2.1 (fun e => hbw e.symm)
  have hb2 : w1.cell? ⟨w.heap.size, 2, none⟩ = some (.int .i64 (L : Nat)) := by
    exact hgrow.cell (box3 w _ _ _ _ 62 q _).2.2 (fun e => hbw e.symm)
  obtain ⟨hrep3, hgo3⟩ := hrep2.setSlot hk (w1 := w1) (v := .slice ao' (L + 1) cap') (xs := S k ++ [i]) (by rw [HV.out, HLn.out]; exact hgrow) (by simpa [HLn.out] using hown) (by
    intro b hb
    rw [HV.out, HLn.out]
    rcases hat with h1 | h1
    · exact .inl (h1 ▸ hb)
    · rw [h1] at hb; right; simp at hb ⊢; omega)
  have hp1 : w1.heap[p]? = _ := hgrow.block p (by simp; omega) (by
    intro e
    have := h.apart k hk p (by rw [HV.out, HLn.out]; exact e.symm)
    exact this.1 rfl)
  have hsc : w1.cell? ⟨p, 3 + k, none⟩ = some (.slice ao L cap) := by rw [cell_block hp1, hrep2.cs k hk, HV.out, HLn.out]
  have hsf : w1.frozen? ⟨p, 3 + k, none⟩ = false := by rw [frozen_block hp1]; exact hrep2.fr _
  have hgo : Goes p m V w (put V k (.slice ao' (L + 1) cap')) (w1.setCell ⟨p, 3 + k, none⟩ (.slice ao' (L + 1) cap')) := hgo2.trans hgo3
  have hm2 := hrep3.c2
  have hb0' : (w1.setCell ⟨p, 3 + k, none⟩ (.slice ao' (L + 1) cap')).cell? ⟨w.heap.size, 0, none⟩ = some (.int .u64 (td : Nat)) := by rw [set_cell_other (by omega)]; exact hb0
  have hb1' : (w1.setCell ⟨p, 3 + k, none⟩ (.slice ao' (L + 1) cap')).cell? ⟨w.heap.size, 1, none⟩ = some (.int .u64 (ta : Nat)) := by rw [set_cell_other (by omega)]; exact hb1
  have hb2' : (w1.setCell ⟨p, 3 + k, none⟩ (.slice ao' (L + 1) cap')).cell? ⟨w.heap.size, 2, none⟩ = some (.int .i64 (L : Nat)) := by rw [set_cell_other (by omega)]; exact hb2
  obtain ⟨f, hf⟩ := hrep3.map.stores (by unfold maxLen; omega) hi ⟨td, ta, L⟩
  have hf1 : (Instr.mapUpdate 56 (.map (some m)) (.int .i64 i) (Tm.val ⟨td, ta, L⟩)).run Try.prog (w1.setCell ⟨p, 3 + k, none⟩ (.slice ao' (L + 1) cap')).drew = .ok () (f 1) := (hf 1).1
  have hend : ∀ q, Rep (f q) p m (put V k (.slice ao' (L + 1) cap')) now arms (cntUp T i n) (upd T i (some ⟨td, ta, L⟩)) (put S k (S k ++ [i])) ∧ Goes p m V w (put V k (.slice ao' (L + 1) cap')) (f q) := fun q =>
    ⟨(hrep3.drewN q).setMap (hf q).2.2 (hf q).2.1, hgo.trans (Goes.trans (w' := (w1.setCell ⟨p, 3 + k, none⟩ (.slice ao' (L + 1) cap')).drewN q) ⟨(Turned.refl _ _).drewN q, fun _ hb => .inl hb⟩ (Goes.setMap (hrep3.drewN q) (hf q).2.2))⟩
  have HE : Hid (∀ q, Rep (f q) p m (put V k (.slice ao' (L + 1) cap')) now arms (cntUp T i n) (upd T i (some ⟨td, ta, L⟩)) (put S k (S k ++ [i])) ∧ Goes p m V w (put V k (.slice ao' (L + 1) cap')) (f q)) := hend
  simp only [Tm.val] at hf1
  clear hend hf hgo hgo3 hgo2 hrep3 hrep2 hown hgrow hat hnil HR HG hlt hp1 hs
  go_wp2
  go_region
  go_wp2
  go_end0
  exact ⟨rfl, _, by rw [HLn.out]; exact (HE.out 1).1, (HE.out 1).2⟩

end Go.Proofs.Ytofhkfbibdkjgaa
