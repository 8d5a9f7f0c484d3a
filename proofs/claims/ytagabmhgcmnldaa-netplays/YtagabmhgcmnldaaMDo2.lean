/-
  One step of a script on both nets: what answers with a packet.
-/
import Derived.Test.YtagabmhgcmnldaaMDo
namespace Go.Proofs.Ytagabmhgcmnldaa
open Go.RowKit
set_option linter.unusedVariables false
set_option linter.unusedSimpArgs false

def PairT (as1 as2 : Array Value) (w : World) (G : Nat → Prop) (p m N lost : Nat) (A : List Pa) : Prop :=
  ∃ (f t r : Int) (xs : List UInt8), Calls Try.prog 24 as1 w fun e w1 => ∃ ao n cap, e = .returned (.tuple #[.agg #[.int .i64 f, .int .i64 t, .slice ao n cap], .int .i64 r]) ∧ Turned G w w1 ∧
    ∀ W, Below w1.heap.size w1 W → Calls Try.prog 31 as2 W fun e w2 => ∃ bo bn bc, e = .returned (.tuple #[.agg #[.int .i64 f, .int .i64 t, .slice bo bn bc], .int .i64 r]) ∧ Row w2 ao n cap xs ∧ Row w2 bo bn bc xs ∧ Turned G W w2 ∧ Nxt w G p m N lost A w2
theorem rowz (w : World) : Row w none 0 0 [] := ⟨rfl, Nat.le_refl _, by unfold maxLen; omega, fun _ => ⟨rfl, rfl⟩, fun a ha => by cases ha⟩
section
variable {w w0 w2 : World} {G : Nat → Prop} {p m N lost : Nat} {A : List Pa}
theorem erase_le (A : List Pa) (j : Nat) : (A.eraseIdx j).length ≤ A.length + 1 := by rw [List.length_eraseIdx]; split <;> omega
theorem pair_take (h : Bth w G p m N lost A) (i : Int) (hl : lost < 1000000) : PairT #[.pointer (some ⟨p, 0, none⟩), .int .i64 i] #[.pointer (some ⟨m, 0, none⟩), .int .i64 i] w G p m N lost A := by
  obtain ⟨⟨F, H, D, lv, bv, L, n, k, r, hd, hF, hM⟩, hlt⟩ := h
  by_cases hi : 0 ≤ i ∧ i < A.length
  · obtain ⟨j, rfl⟩ : ∃ j : Nat, i = j := ⟨i.toNat, by omega⟩
    obtain ⟨a, ha⟩ : ∃ a, A[j]? = some a := ⟨_, List.getElem?_eq_getElem (by omega)⟩
    obtain ⟨x, hx⟩ : ∃ x, L[j]? = some x := ⟨_, List.getElem?_eq_getElem (by have := k.len; omega)⟩
    have hsm := (k.pk j x a hx ha).small
    have hrh := r.hears k.n16 a.f a.t
    cases hh : hears N H a.f a.t with
    | true =>
      rw [hh] at hrh
      refine ⟨a.f, a.t, 0, a.told, (take_any n j a ha hh).mono fun e w1 ⟨b, he, hb, hby, h1, h2⟩ => ⟨_, _, _, he, h2.mono hF, fun W u => (refTake_is ((mis_after k hd h2).up u) j a ha hl).mono fun e w2 ⟨ht, lv', bv', L', h3, h4⟩ => ?_⟩⟩
      unfold TakeR at ht
      unfold lostR at h3
      rw [if_pos hrh] at ht h3
      obtain ⟨bo, bn, bc, he2, hr2⟩ := ht
      have hrow := hby.row (by rw [a.told_len]; unfold maxLen; omega)
      rw [a.told_len] at hrow
      refine ⟨bo, bn, bc, he2, (hrow.below u (Nat.le_refl _)).turned h4.turned (fun c hc _ hf => ?_), hr2, h4.turned.mono hM, both k hd hF hM (h1.up u) ((goes_turn h2).trans (goes_below u)) h3 h4 r (erase_le A j) (by omega)⟩
      cases hc
      have := k.lt _ hf
      simp only at this
      omega
    | false =>
      rw [hh] at hrh
      refine ⟨0, 0, 10, [], (take_lost n j a ha hh hl).mono fun e w1 ⟨he, h1, h2⟩ => ⟨_, _, _, he, h2.mono hF, fun W u => (refTake_is ((mis_after k hd h2).up u) j a ha hl).mono fun e w2 ⟨ht, lv', bv', L', h3, h4⟩ => ?_⟩⟩
      unfold TakeR at ht
      unfold lostR at h3
      rw [if_neg (by rw [hrh]; simp)] at ht h3
      exact ⟨_, _, _, ht, rowz _, rowz _, h4.turned.mono hM, both k hd hF hM (h1.up u) ((goes_turn h2).trans (goes_below u)) h3 h4 r (erase_le A j) (by omega)⟩
  · obtain ⟨⟨sv, Lp, np, hsub⟩, nlt⟩ := n
    have n : Nt w F p N H lost A := ⟨⟨sv, Lp, np, hsub⟩, nlt⟩
    exact ⟨0, 0, 1, [], (take_none np i hi).mono fun e w1 ⟨he, e1⟩ => ⟨_, _, _, he, tu_below e1 _, fun W u => (refTake_none ((k.up e1).up u) i hi).mono fun e w2 ⟨he2, e2⟩ => ⟨_, _, _, he2, rowz _, rowz _, tu_below e2 _, both k hd hF hM ((n.up e1).up u) ((goes_below e1).trans (goes_below u)) (((k.up e1).up u).up e2) (goes_below e2) r (by omega) (by omega)⟩⟩⟩

theorem box49 (w : World) (a b c : Value) : (w.alloc (.cells #[a, b, c] 49)).cell? ⟨w.heap.size, 0, none⟩ = some a ∧ (w.alloc (.cells #[a, b, c] 49)).cell? ⟨w.heap.size, 1, none⟩ = some b ∧ (w.alloc (.cells #[a, b, c] 49)).cell? ⟨w.heap.size, 2, none⟩ = some c :=
  ⟨cell_box w _ 49 0 _ rfl, cell_box w _ 49 1 _ rfl, cell_box w _ 49 2 _ rfl⟩
set_option maxRecDepth 10000 in
theorem do_take3 (h : Bth w G p m N lost A) (k : Nat) (hk : k < 256) (hk2 : (k : Int) % 11 = 3) (I J : Int) (v : Value) (hl : lost < 1000000) : Calls Try.prog 13 #[.pointer (some ⟨p, 0, none⟩), .pointer (some ⟨m, 0, none⟩), actv k I J v] w fun e w' => e = .returned (.bool true) ∧ Nxt w G p m N lost A w' := by
  have u : Below w.heap.size w (w.alloc (acto k I J v)) := bl1 w _
  obtain ⟨f, t, r, xs, hc⟩ := pair_take (h.up u) I hl
  have hnG : ∀ b, w.heap.size ≤ b → ¬ G b := fun b hb hg => by have := h.2 _ hg; omega
  obtain ⟨e0, e1, e2, e3⟩ := act_cells (w := w) (W := w.alloc (acto k I J v)) (k := k) (I := I) (J := J) (v := v) rfl
  have hsz : w.heap.size < (w.alloc (acto k I J v)).heap.size := by simp
  clear h
  unfold actv
  unfold acto at *
  go_enter Try.func13, Try.ntmps13
  go_wp2_with fail
  refine hc.mono ?_
  rintro e w1 ⟨ao, n, cap, rfl, t1, hc2⟩
  have u1 := bl1 w1 (.cells #[.int .i64 f, .int .i64 t, .slice ao n cap] 49)
  have hs1 : w.heap.size < w1.heap.size := by have := t1.size; omega
  have g1 : (w1.alloc (.cells #[.int .i64 f, .int .i64 t, .slice ao n cap] 49)).cell? ⟨w.heap.size, 1, none⟩ = some (.int .i64 I) := (u1.cell (by omega)).trans ((cell_block (t1.block _ hsz (hnG _ (Nat.le_refl _)))).trans e1)
  obtain ⟨b0, b1, b2⟩ := box49 w1 (.int .i64 f) (.int .i64 t) (.slice ao n cap)
  have hc3 := hc2 _ u1
  have hsb : w1.heap.size < (w1.alloc (.cells #[.int .i64 f, .int .i64 t, .slice ao n cap] 49)).heap.size := by simp
  clear hc2 u1 e0 e1 e2 e3 hc
  go_wp2_with fail
  refine hc3.mono ?_
  rintro e w2 ⟨bo, bn, bc, rfl, r1, r2, t2, hN⟩
  have hblk := t2.block _ hsb (hnG _ (by omega))
  have u2 := bl1 w2 (.cells #[.int .i64 f, .int .i64 t, .slice bo bn bc] 49)
  have hs2 : w1.heap.size < w2.heap.size := by have := t2.size; omega
  have k0 := (u2.cell (p := ⟨w1.heap.size, 0, none⟩) hs2).trans ((cell_block hblk).trans b0)
  have k1 := (u2.cell (p := ⟨w1.heap.size, 1, none⟩) hs2).trans ((cell_block hblk).trans b1)
  have k2 := (u2.cell (p := ⟨w1.heap.size, 2, none⟩) hs2).trans ((cell_block hblk).trans b2)
  obtain ⟨l0, l1, l2⟩ := box49 w2 (.int .i64 f) (.int .i64 t) (.slice bo bn bc)
  have hsame := same_true (w2.alloc (.cells #[.int .i64 f, .int .i64 t, .slice bo bn bc] 49)) f t ao n cap bo bn bc xs (r1.below u2 (Nat.le_refl _)) (r2.below u2 (Nat.le_refl _))
  have HN := (hN.from u).up u2
  clear hN hblk b0 b1 b2 g1 t2 t1 hc3 r1 r2 u2
  go_wp2_with fail
  refine hsame.mono ?_
  rintro e w3 ⟨rfl, u3⟩
  have HE := HN.up u3
  clear HN hsame u3
  go_wp2
  go_ret
  exact ⟨rfl, HE⟩
set_option maxRecDepth 10000 in
theorem do_take4 (h : Bth w G p m N lost A) (k : Nat) (hk : k < 256) (hk2 : (k : Int) % 11 = 4) (I J : Int) (v : Value) (hl : lost < 1000000) : Calls Try.prog 13 #[.pointer (some ⟨p, 0, none⟩), .pointer (some ⟨m, 0, none⟩), actv k I J v] w fun e w' => e = .returned (.bool true) ∧ Nxt w G p m N lost A w' := by
  have u : Below w.heap.size w (w.alloc (acto k I J v)) := bl1 w _
  obtain ⟨f, t, r, xs, hc⟩ := pair_take (h.up u) I hl
  have hnG : ∀ b, w.heap.size ≤ b → ¬ G b := fun b hb hg => by have := h.2 _ hg; omega
  obtain ⟨e0, e1, e2, e3⟩ := act_cells (w := w) (W := w.alloc (acto k I J v)) (k := k) (I := I) (J := J) (v := v) rfl
  have hsz : w.heap.size < (w.alloc (acto k I J v)).heap.size := by simp
  clear h
  unfold actv
  unfold acto at *
  go_enter Try.func13, Try.ntmps13
  go_wp2_with fail
  refine hc.mono ?_
  rintro e w1 ⟨ao, n, cap, rfl, t1, hc2⟩
  have u1 := bl1 w1 (.cells #[.int .i64 f, .int .i64 t, .slice ao n cap] 49)
  have hs1 : w.heap.size < w1.heap.size := by have := t1.size; omega
  have g1 : (w1.alloc (.cells #[.int .i64 f, .int .i64 t, .slice ao n cap] 49)).cell? ⟨w.heap.size, 1, none⟩ = some (.int .i64 I) := (u1.cell (by omega)).trans ((cell_block (t1.block _ hsz (hnG _ (Nat.le_refl _)))).trans e1)
  obtain ⟨b0, b1, b2⟩ := box49 w1 (.int .i64 f) (.int .i64 t) (.slice ao n cap)
  have hc3 := hc2 _ u1
  have hsb : w1.heap.size < (w1.alloc (.cells #[.int .i64 f, .int .i64 t, .slice ao n cap] 49)).heap.size := by simp
  clear hc2 u1 e0 e1 e2 e3 hc
  go_wp2_with fail
  refine hc3.mono ?_
  rintro e w2 ⟨bo, bn, bc, rfl, r1, r2, t2, hN⟩
  have hblk := t2.block _ hsb (hnG _ (by omega))
  have u2 := bl1 w2 (.cells #[.int .i64 f, .int .i64 t, .slice bo bn bc] 49)
  have hs2 : w1.heap.size < w2.heap.size := by have := t2.size; omega
  have k0 := (u2.cell (p := ⟨w1.heap.size, 0, none⟩) hs2).trans ((cell_block hblk).trans b0)
  have k1 := (u2.cell (p := ⟨w1.heap.size, 1, none⟩) hs2).trans ((cell_block hblk).trans b1)
  have k2 := (u2.cell (p := ⟨w1.heap.size, 2, none⟩) hs2).trans ((cell_block hblk).trans b2)
  obtain ⟨l0, l1, l2⟩ := box49 w2 (.int .i64 f) (.int .i64 t) (.slice bo bn bc)
  have hsame := same_true (w2.alloc (.cells #[.int .i64 f, .int .i64 t, .slice bo bn bc] 49)) f t ao n cap bo bn bc xs (r1.below u2 (Nat.le_refl _)) (r2.below u2 (Nat.le_refl _))
  have HN := (hN.from u).up u2
  clear hN hblk b0 b1 b2 g1 t2 t1 hc3 r1 r2 u2
  go_wp2_with fail
  refine hsame.mono ?_
  rintro e w3 ⟨rfl, u3⟩
  have HE := HN.up u3
  clear HN hsame u3
  go_wp2
  go_ret
  exact ⟨rfl, HE⟩
end
end Go.Proofs.Ytagabmhgcmnldaa
