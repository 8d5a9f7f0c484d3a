/-
  Views' numbers as bytes, and back: Encode and Decode of package ident, and the document's answers.
-/
import Derived.Test.YtpdgoalbknopiaaJBase
import Derived.Test.YtpdgoalbknopiaaCdRefRead2
import Derived.Test.YtpdgoalbknopiaaCdRegion2
namespace Go.Proofs.Ytpdgoalbknopiaa
open Go.RowKit
set_option linter.unusedVariables false

theorem und34 : Try.prog.underlying 27 = some (.slice 5) := by kernel_rfl
theorem info5 : (Try.prog.info? 5).map (fun i => (i.zero, i.size, i.bytes)) = some (some (.int .u8 0), 1, 1) := by kernel_rfl
/-- The byte of a node's number. -/
def pb (p : Int) : UInt8 := UInt8.ofNat p.toNat
theorem pb_num (p : Int) (h0 : 0 ≤ p) (h1 : p ≤ 15) : Cd.by8 (pb p) = .int .u8 p := by
  unfold Cd.by8 pb
  rw [Cd.ofNat_toNat _ (by omega), Int.toNat_of_nonneg h0]

/-- append of one byte to a row of one's own. -/
theorem append_byte {w : World} {B n : Nat} {ao : Option Addr} {cap : Nat} {xs : List UInt8} {b : UInt8} {ad : Addr} {c : Nat} {ty : TypeId} (h : w.ownsRow B 5 1 (.slice ao n cap) n (xs.map Cd.by8)) (hB : B ≤ w.heap.size) (hn : n + 1 ≤ 140737488355328) (hc : w.cell? ad = some (Cd.by8 b)) :
    ∃ v' w', (Builtin.append_ #[27, 27] ty #[.slice ao n cap, .slice (some ad) 1 c]).run Try.prog w = .ok v' w' ∧ w'.ownsRow B 5 1 v' (n + 1) ((xs ++ [b]).map Cd.by8) ∧ w.grownBy w' (Value.slice ao n cap).ownBlock := by
  obtain ⟨i0, hi0, hz0, hz1, hz2⟩ := info_parts info5
  obtain ⟨v', w', hr, h1, h2, _, _⟩ := run_append_own_at (P := Try.prog) w B 27 ty 5 i0 (.int .u8 0) 1 1 und34 hi0 hz0 hz1 hz2 rfl (by decide) (.slice ao n cap) n (xs.map Cd.by8) h ad 1 c [Cd.by8 b] rfl (by
    intro j u hj
    obtain ⟨e1, e2⟩ := List.getElem?_eq_some_iff.1 hj
    simp at e1 e2
    subst e1
    rw [← e2, show ad.add 0 = ad by unfold Addr.add; simp]
    exact hc) (by simp [Cd.by8, Value.oneCell']) (by unfold maxLen; omega) (by omega) hB
  exact ⟨v', w', hr, by simpa using h1, h2⟩

theorem encode_bad (w : World) (ao : Option Addr) (n cap : Nat) (N : Nat) (p : Int) (hf : formV N p = false) :
    Calls Try.prog 39 #[.slice ao n cap, vid N p] w fun e w' => e = .returned (.tuple #[.slice none 0 0, .int .i64 3]) ∧ Below w.heap.size w w' := by
  have hform := fun W => formB_any W N p
  rw [hf] at hform
  unfold vid at *
  go_enter Try.func39, Try.ntmps39
  go_wp2_with fail
  refine (hform _).mono ?_
  rintro e w1 ⟨rfl, hb⟩
  go_wp2
  go_ret2
  exact ⟨rfl, ((Below.refl _ _).alloc (Nat.le_refl _) _).trans (hb.mono (by simp))⟩

set_option maxRecDepth 10000 in
set_option maxHeartbeats 2000000 in
theorem encode_any (w : World) (ao : Option Addr) (n cap : Nat) (xs : List UInt8) (h : Cd.Row w ao n cap xs) (N : Nat) (hN : N < 18446744073709551616) (p : Int) (hf : formV N p = true) (hr : n + 11 ≤ 140737488355328) :
    Calls Try.prog 39 #[.slice ao n cap, vid N p] w fun e w' => ∃ v, e = .returned (.tuple #[v, .int .i64 0]) ∧ w'.ownsRow w.heap.size 5 1 v (n + (Cd.enc N).length + 1) ((xs ++ Cd.enc N ++ [pb p]).map Cd.by8) ∧ Below w.heap.size w w' := by
  have hform := fun W => formB_any W N p
  rw [hf] at hform
  have hp : 0 ≤ p ∧ p ≤ 15 := by
    unfold formV at hf
    simp only [Bool.and_eq_true, decide_eq_true_eq] at hf
    by_cases h0 : N = 0
    · rw [if_pos h0] at hf; omega
    · rw [if_neg h0] at hf; exact hf
  obtain ⟨hp0, hp15⟩ := hp
  have hpb := pb_num p hp0 hp15
  have hel := Cd.enc_length N
  have HROW : Hid (Cd.Row w ao n cap xs) := h
  clear h hf
  unfold vid at *
  go_enter Try.func39, Try.ntmps39
  go_wp2_with fail
  refine (hform _).mono ?_
  rintro e w1 ⟨rfl, hb1⟩
  have bl1 : Below w.heap.size w w1 := ((Below.refl _ _).alloc (Nat.le_refl _) _).trans (hb1.mono (by simp))
  have c0 : w1.cell? ⟨w.heap.size, 0, none⟩ = some (.int .u64 (N : Nat)) := (hb1.cell (by simp)).trans (cell_box w _ 24 0 _ rfl)
  have c1 : w1.cell? ⟨w.heap.size, 1, none⟩ = some (.int .i64 p) := (hb1.cell (by simp)).trans (cell_box w _ 24 1 _ rfl)
  have row1 : Cd.Row w1.drew ao n cap xs := HROW.out.below (w' := w1.drew) ⟨bl1.os, bl1.tape, bl1.output, bl1.size, bl1.block⟩ (Nat.le_refl _)
  have bl2 : Below w.heap.size w w1.drew := ⟨bl1.os, bl1.tape, bl1.output, bl1.size, bl1.block⟩
  have hwr : IntKind.u8.wrap p = p := IntWalk.u8_in _ (by omega)
  clear hb1 bl1 hform HROW
  obtain ⟨L, HL⟩ : ∃ L, Hid (n + (Cd.enc N).length = L) := ⟨_, rfl⟩
  have hLe : L + 1 ≤ 140737488355328 := by have := HL.out; omega
  have hwl : w.heap.size < w1.heap.size := World.block_lt_of_cell? w1 _ c0
  have fin : ∀ (W : World) (ao3 : Option Addr) (cap3 : Nat) (ad : Addr), W.ownsRow w1.heap.size 5 1 (.slice ao3 L cap3) L ((xs ++ Cd.enc N).map Cd.by8) → W.cell? ad = some (.int .u8 p) → (W.cell? ⟨w.heap.size, 0, none⟩ = some (.int .u64 (N : Nat)) ∧ W.cell? ⟨w.heap.size, 1, none⟩ = some (.int .i64 p)) → Below w.heap.size w W → w1.heap.size ≤ W.heap.size →
      ∃ v' w', (Builtin.append_ #[27, 27] 27 #[.slice ao3 L cap3, .slice (some ad) 1 1]).run Try.prog W = .ok v' w' ∧ (w'.cell? ⟨w.heap.size, 0, none⟩ = some (.int .u64 (N : Nat)) ∧ w'.cell? ⟨w.heap.size, 1, none⟩ = some (.int .i64 p)) ∧ Hid (w'.ownsRow w.heap.size 5 1 v' (n + (Cd.enc N).length + 1) ((xs ++ Cd.enc N ++ [pb p]).map Cd.by8) ∧ Below w.heap.size w w') := by
    intro W ao3 cap3 ad h1 h2 h3 h4 h5
    rw [← hpb] at h2
    obtain ⟨v', w', hrun, ho, hg⟩ := append_byte (ty := 27) (c := 1) h1 h5 hLe h2
    have hne : ∀ b, (Value.slice ao3 L cap3).ownBlock = some b → w1.heap.size ≤ b := fun b hb => (h1.lt b hb).1
    refine ⟨v', w', hrun, ⟨hg.cell h3.1 (fun e => by have := hne _ e.symm; simp at this; omega), hg.cell h3.2 (fun e => by have := hne _ e.symm; simp at this; omega)⟩, ?_, ?_⟩
    · rw [HL.out]; exact Cd.owns_mono ho (by omega)
    · exact bl_grown h4 (by omega) hg (fun b hb => by have := hne b hb; omega)
  go_wp2_with fail
  refine wp_region_noPanic ?_
  refine wp_region_held_drew (S := fun wx => wx.cell? ⟨w.heap.size, 0, none⟩ = some (.int .u64 (N : Nat)) ∧ wx.cell? ⟨w.heap.size, 1, none⟩ = some (.int .i64 p)) (by kernel_rfl) ⟨c0, c1⟩ (fun hHeld => ?_)
  refine take_first 0 (v := ?_) rfl (by kernel_rfl) (by kernel_rfl) (by kernel_rfl) (fun _ _ _ h => h) (Or.inl ⟨by rfl, by intro wx hSw; obtain ⟨hSw1, hSw2⟩ := hSw; go_simp; try with_reducible rfl⟩) (by assumption) ?_
  (try simp only [Act.put, List.setIfInBounds_toArray, List.set_cons_zero, List.set_cons_succ])
  refine take_first 1 (v := ?_) rfl (by kernel_rfl) (by kernel_rfl) (by kernel_rfl) (fun _ _ _ h => h) (Or.inl ⟨by rfl, by intro wx hSw; obtain ⟨hSw1, hSw2⟩ := hSw; go_simp; try with_reducible rfl⟩) (by assumption) ?_
  (try simp only [Act.put, List.setIfInBounds_toArray, List.set_cons_zero, List.set_cons_succ])
  refine take_first 2 (v := ?_) rfl (by kernel_rfl) (by kernel_rfl) (by kernel_rfl) (fun _ _ _ h => h) (Or.inl ⟨by rfl, by intro wx hSw; obtain ⟨hSw1, hSw2⟩ := hSw; go_simp; try with_reducible rfl⟩) (by assumption) ?_
  (try simp only [Act.put, List.setIfInBounds_toArray, List.set_cons_zero, List.set_cons_succ])
  refine take_first 4 (v := ?_) rfl (by kernel_rfl) (by kernel_rfl) (by kernel_rfl) (fun _ _ _ h => h) (Or.inl ⟨by rfl, by intro wx hSw; obtain ⟨hSw1, hSw2⟩ := hSw; go_simp; try with_reducible rfl⟩) (by assumption) ?_
  (try simp only [Act.put, List.setIfInBounds_toArray, List.set_cons_zero, List.set_cons_succ])
  refine take_first 5 (v := ?_) rfl (by kernel_rfl) (by kernel_rfl) (by kernel_rfl) (fun _ _ _ h => h) (Or.inl ⟨by rfl, by intro wx hSw; obtain ⟨hSw1, hSw2⟩ := hSw; go_simp; try with_reducible rfl⟩) (by assumption) ?_
  (try simp only [Act.put, List.setIfInBounds_toArray, List.set_cons_zero, List.set_cons_succ])
  refine take_first 6 (v := .int .u8 p) rfl (by kernel_rfl) (by kernel_rfl) (by kernel_rfl) (fun _ _ _ h => h) (Or.inl ⟨by rfl, by intro wx hSw; obtain ⟨hSw1, hSw2⟩ := hSw; go_simp; try with_reducible rfl⟩) (by assumption) ?_
  (try simp only [Act.put, List.setIfInBounds_toArray, List.set_cons_zero, List.set_cons_succ])
  refine comes_up2 3 7 rfl rfl (by kernel_rfl) (fun K hK => ?_) (fun K hK => ?_)
  · go_simp
    refine (Cd.uint_any _ ao n cap xs row1 N hN (by omega)).mono ?_
    rintro e w3 ⟨v3, rfl, hown3, hb3⟩
    rw [HL.out] at hown3
    obtain ⟨ao3, cap3, hv3⟩ := row_shape hown3
    subst hv3
    have hs3 := hb3.size
    have d0 : w3.cell? ⟨w.heap.size, 0, none⟩ = some (.int .u64 (N : Nat)) := (hb3.cell (p := ⟨w.heap.size, 0, none⟩) hwl).trans c0
    have d1 : w3.cell? ⟨w.heap.size, 1, none⟩ = some (.int .i64 p) := (hb3.cell (p := ⟨w.heap.size, 1, none⟩) hwl).trans c1
    have bl3 := bl_step bl2 hb3
    obtain ⟨v5, w5, hrun, hS5, HE⟩ := fin (w3.alloc (.cells #[.int .u8 p] 5)) ao3 cap3 ⟨w3.heap.size, 0, none⟩ (hown3.alloc _) (cell_box w3 _ 5 0 _ rfl)
      ⟨(((Below.refl _ w3).alloc (Nat.le_refl _) _).cell (World.block_lt_of_cell? w3 _ d0)).trans d0, (((Below.refl _ w3).alloc (Nat.le_refl _) _).cell (World.block_lt_of_cell? w3 _ d1)).trans d1⟩ (bl3.alloc bl3.size _) (by simp; exact Nat.le_succ_of_le hs3)
    have hS4 : (w3.alloc (.cells #[.int .u8 p] 5)).cell? ⟨w.heap.size, 0, none⟩ = some (.int .u64 (N : Nat)) ∧ (w3.alloc (.cells #[.int .u8 p] 5)).cell? ⟨w.heap.size, 1, none⟩ = some (.int .i64 p) :=
      ⟨(((Below.refl _ w3).alloc (Nat.le_refl _) _).cell (World.block_lt_of_cell? w3 _ d0)).trans d0, (((Below.refl _ w3).alloc (Nat.le_refl _) _).cell (World.block_lt_of_cell? w3 _ d1)).trans d1⟩
    clear fin hown3 hb3 bl2 row1 c0 c1
    go_wp2_with fail
    refine hK.out _ _ ⟨d0, d1⟩ (fun hHeld => ?_)
    clear hK K
    (try simp only [Act.put, List.setIfInBounds_toArray, List.set_cons_zero, List.set_cons_succ])
    refine comes_up 7 rfl (by kernel_rfl) (fun K hK => ?_)
    go_simp
    refine hK.out _ _ hS4 (fun hHeld => ?_)
    clear hK K
    (try simp only [Act.put, List.setIfInBounds_toArray, List.set_cons_zero, List.set_cons_succ])
    refine comes_up 8 rfl (by kernel_rfl) (fun K hK => ?_)
    refine step_append_run rfl (.tmp 12) (.tmp 16) 27 rfl (.slice ao3 L cap3) (.slice (some ⟨w3.heap.size, 0, none⟩) 1 1) v5 w5 (by simp [Act.eval]) (by simp [Act.eval]) hrun ?_
    refine hK.out _ _ hS5 (fun hHeld => ?_)
    clear hK K
    (try simp only [Act.put, List.setIfInBounds_toArray, List.set_cons_zero, List.set_cons_succ])
    refine take_first 9 (v := ?_) rfl (by kernel_rfl) (by kernel_rfl) (by kernel_rfl) (fun _ _ _ h => h) (Or.inl ⟨by rfl, by intro wx hSw; obtain ⟨hSw1, hSw2⟩ := hSw; go_simp; try with_reducible rfl⟩) (by assumption) ?_
    (try simp only [Act.put, List.setIfInBounds_toArray, List.set_cons_zero, List.set_cons_succ])
    refine take_first 10 (v := ?_) rfl (by kernel_rfl) (by kernel_rfl) (by kernel_rfl) (fun _ _ _ h => h) (Or.inl ⟨by rfl, by intro wx hSw; obtain ⟨hSw1, hSw2⟩ := hSw; go_simp; try with_reducible rfl⟩) (by assumption) ?_
    (try simp only [Act.put, List.setIfInBounds_toArray, List.set_cons_zero, List.set_cons_succ])
    refine wpAnyH_done (by kernel_rfl) ?_ _
    refine NoPanic.normal ?_
    go_wp2
    go_ret2
    exact ⟨v5, rfl, HE.out⟩
  · go_simp
    have hS4 : (w1.alloc (.cells #[.int .u8 p] 5)).drew.cell? ⟨w.heap.size, 0, none⟩ = some (.int .u64 (N : Nat)) ∧ (w1.alloc (.cells #[.int .u8 p] 5)).drew.cell? ⟨w.heap.size, 1, none⟩ = some (.int .i64 p) :=
      ⟨(((Below.refl _ w1).alloc (Nat.le_refl _) (.cells #[.int .u8 p] 5)).cell (World.block_lt_of_cell? w1 _ c0)).trans c0, (((Below.refl _ w1).alloc (Nat.le_refl _) (.cells #[.int .u8 p] 5)).cell (World.block_lt_of_cell? w1 _ c1)).trans c1⟩
    have blA : Below w.heap.size w (w1.alloc (.cells #[.int .u8 p] 5)).drew := by
      have := bl2.alloc (o := .cells #[.int .u8 p] 5) bl2.size
      exact ⟨this.os, this.tape, this.output, this.size, this.block⟩
    have row2 : Cd.Row (w1.alloc (.cells #[.int .u8 p] 5)).drew ao n cap xs := row1.below (B := w1.heap.size) (w' := (w1.alloc (.cells #[.int .u8 p] 5)).drew) ⟨rfl, rfl, rfl, by simp, fun k hk => Below.heap_alloc w1 _ k hk⟩ (Nat.le_refl _)
    have hbox := cell_box w1 #[.int .u8 p] 5 0 _ rfl
    refine hK.out _ _ hS4 (fun hHeld => ?_)
    clear hK K
    (try simp only [Act.put, List.setIfInBounds_toArray, List.set_cons_zero, List.set_cons_succ])
    refine comes_up 3 rfl (by kernel_rfl) (fun K hK => ?_)
    go_simp
    refine (Cd.uint_any _ ao n cap xs row2 N hN (by omega)).mono ?_
    rintro e w3 ⟨v3, rfl, hown3, hb3⟩
    rw [HL.out] at hown3
    obtain ⟨ao3, cap3, hv3⟩ := row_shape hown3
    subst hv3
    have hs3 := hb3.size
    have hsz : w1.heap.size + 1 ≤ w3.heap.size := by simpa using hs3
    have d0 : w3.cell? ⟨w.heap.size, 0, none⟩ = some (.int .u64 (N : Nat)) := (hb3.cell (World.block_lt_of_cell? _ _ hS4.1)).trans hS4.1
    have d1 : w3.cell? ⟨w.heap.size, 1, none⟩ = some (.int .i64 p) := (hb3.cell (World.block_lt_of_cell? _ _ hS4.2)).trans hS4.2
    have dx : w3.cell? ⟨w1.heap.size, 0, none⟩ = some (.int .u8 p) := (hb3.cell (p := ⟨w1.heap.size, 0, none⟩) (by simp)).trans hbox
    have bl3 := bl_step blA hb3
    obtain ⟨v5, w5, hrun, hS5, HE⟩ := fin w3 ao3 cap3 ⟨w1.heap.size, 0, none⟩ (Cd.owns_mono hown3 (by simp)) dx ⟨d0, d1⟩ bl3 (by omega)
    clear fin hown3 hb3 bl2 row1 row2 c0 c1 hS4 blA
    go_wp2_with fail
    refine hK.out _ _ ⟨d0, d1⟩ (fun hHeld => ?_)
    clear hK K
    (try simp only [Act.put, List.setIfInBounds_toArray, List.set_cons_zero, List.set_cons_succ])
    refine comes_up 8 rfl (by kernel_rfl) (fun K hK => ?_)
    refine step_append_run rfl (.tmp 12) (.tmp 16) 27 rfl (.slice ao3 L cap3) (.slice (some ⟨w1.heap.size, 0, none⟩) 1 1) v5 w5 (by simp [Act.eval]) (by simp [Act.eval]) hrun ?_
    refine hK.out _ _ hS5 (fun hHeld => ?_)
    clear hK K
    (try simp only [Act.put, List.setIfInBounds_toArray, List.set_cons_zero, List.set_cons_succ])
    refine take_first 9 (v := ?_) rfl (by kernel_rfl) (by kernel_rfl) (by kernel_rfl) (fun _ _ _ h => h) (Or.inl ⟨by rfl, by intro wx hSw; obtain ⟨hSw1, hSw2⟩ := hSw; go_simp; try with_reducible rfl⟩) (by assumption) ?_
    (try simp only [Act.put, List.setIfInBounds_toArray, List.set_cons_zero, List.set_cons_succ])
    refine take_first 10 (v := ?_) rfl (by kernel_rfl) (by kernel_rfl) (by kernel_rfl) (fun _ _ _ h => h) (Or.inl ⟨by rfl, by intro wx hSw; obtain ⟨hSw1, hSw2⟩ := hSw; go_simp; try with_reducible rfl⟩) (by assumption) ?_
    (try simp only [Act.put, List.setIfInBounds_toArray, List.set_cons_zero, List.set_cons_succ])
    refine wpAnyH_done (by kernel_rfl) ?_ _
    refine NoPanic.normal ?_
    go_wp2
    go_ret2
    exact ⟨v5, rfl, HE.out⟩
end Go.Proofs.Ytpdgoalbknopiaa
