/-
  Which views' numbers are right: nothing of old turns.
  Views' numbers as bytes, and back: Encode and Decode of package ident, and the document's answers.
  Decode of package ident, and the document's answers.
  The document's answers for views' numbers as bytes, and back.
  The document's Decode of a view's number.
-/
import Derived.Test.YtfemjbaadnjanaaSAll
import Derived.Test.YtfemjbaadnjanaaCdAll
import Derived.Deep.Cut
namespace Go.Proofs.Ytfemjbaadnjanaa
open Go.RowKit Go.Sort
set_option linter.unusedVariables false
theorem formB_any (w : World) (n : Nat) (p : Int) : Calls Try.prog 70 #[vid n p] w fun e w' => e = .returned (.bool (formV n p)) ∧ RowKit.Below w.heap.size w w' := (form_any w n p).mono fun _ _ h => ⟨h.1, h.2.bl⟩
theorem refFormB_any (w : World) (n : Nat) (p : Int) : Calls Try.prog 22 #[vid n p] w fun e w' => e = .returned (.bool (formV n p)) ∧ RowKit.Below w.heap.size w w' := (refForm_any w n p).mono fun _ _ h => ⟨h.1, h.2.bl⟩
theorem row_shape {w : World} {B e n : Nat} {v : Value} {xs : List Value} (h : w.ownsRow B e 1 v n xs) : ∃ ao cap, v = .slice ao n cap := by
  rcases h.2 with ⟨rfl, rfl⟩ | ⟨g, cap, cur, rfl, _⟩
  · exact ⟨_, _, rfl⟩
  · exact ⟨_, _, rfl⟩
end Go.Proofs.Ytfemjbaadnjanaa
namespace Go.Proofs.Ytfemjbaadnjanaa
open Go.RowKit
set_option linter.unusedVariables false

theorem und34 : Try.prog.underlying 33 = some (.slice 5) := by kernel_rfl
theorem info5 : (Try.prog.info? 5).map (fun i => (i.zero, i.size, i.bytes)) = some (some (.int .u8 0), 1, 1) := by kernel_rfl
/-- The byte of a node's number. -/
def pb (p : Int) : UInt8 := UInt8.ofNat p.toNat
theorem pb_num (p : Int) (h0 : 0 ≤ p) (h1 : p ≤ 15) : Cd.by8 (pb p) = .int .u8 p := by
  unfold Cd.by8 pb
  rw [Cd.ofNat_toNat _ (by omega), Int.toNat_of_nonneg h0]

/-- append of one byte to a row of one's own. -/
theorem append_byte {w : World} {B n : Nat} {ao : Option Addr} {cap : Nat} {xs : List UInt8} {b : UInt8} {ad : Addr} {c : Nat} {ty : TypeId} (h : w.ownsRow B 5 1 (.slice ao n cap) n (xs.map Cd.by8)) (hB : B ≤ w.heap.size) (hn : n + 1 ≤ 140737488355328) (hc : w.cell? ad = some (Cd.by8 b)) :
    ∃ v' w', (Builtin.append_ #[33, 33] ty #[.slice ao n cap, .slice (some ad) 1 c]).run Try.prog w = .ok v' w' ∧ w'.ownsRow B 5 1 v' (n + 1) ((xs ++ [b]).map Cd.by8) ∧ w.grownBy w' (Value.slice ao n cap).ownBlock := by
  obtain ⟨i0, hi0, hz0, hz1, hz2⟩ := info_parts info5
  obtain ⟨v', w', hr, h1, h2, _, _⟩ := run_append_own_at (P := Try.prog) w B 33 ty 5 i0 (.int .u8 0) 1 1 und34 hi0 hz0 hz1 hz2 rfl (by decide) (.slice ao n cap) n (xs.map Cd.by8) h ad 1 c [Cd.by8 b] rfl (by
    intro j u hj
    obtain ⟨e1, e2⟩ := List.getElem?_eq_some_iff.1 hj
    simp at e1 e2
    subst e1
    rw [← e2, show ad.add 0 = ad by unfold Addr.add; simp]
    exact hc) (by simp [Cd.by8, Value.oneCell']) (by unfold maxLen; omega) (by omega) hB
  exact ⟨v', w', hr, by simpa using h1, h2⟩

theorem encode_bad (w : World) (ao : Option Addr) (n cap : Nat) (N : Nat) (p : Int) (hf : formV N p = false) :
    Calls Try.prog 76 #[.slice ao n cap, vid N p] w fun e w' => e = .returned (.tuple #[.slice none 0 0, .int .i64 3]) ∧ Below w.heap.size w w' := by
  have hform := fun W => formB_any W N p
  rw [hf] at hform
  unfold vid at *
  go_enter Try.func76, Try.ntmps76
  go_wp2_with fail
  refine (hform _).mono ?_
  rintro e w1 ⟨rfl, hb⟩
  go_wp2
  go_ret2
  exact ⟨rfl, ((Below.refl _ _).alloc (Nat.le_refl _) _).trans (hb.mono (by simp))⟩

set_option maxRecDepth 10000 in
set_option maxHeartbeats 2000000 in
theorem encode_any (w : World) (ao : Option Addr) (n cap : Nat) (xs : List UInt8) (h : Cd.Row w ao n cap xs) (N : Nat) (hN : N < 18446744073709551616) (p : Int) (hf : formV N p = true) (hr : n + 11 ≤ 140737488355328) :
    Calls Try.prog 76 #[.slice ao n cap, vid N p] w fun e w' => ∃ v, e = .returned (.tuple #[v, .int .i64 0]) ∧ w'.ownsRow w.heap.size 5 1 v (n + (Cd.enc N).length + 1) ((xs ++ Cd.enc N ++ [pb p]).map Cd.by8) ∧ Below w.heap.size w w' := by
  have hform := fun W => formB_any W N p
  rw [hf] at hform
  have hp : 0 ≤ p ∧ p ≤ 15 := by
    unfold formV at hf
    simp only [Bool.and_eq_true, decide_eq_true_eq] at hf
    by_cases h0 : N = 0
    · rw [if_pos h0] at hf; omega
    · rw [if_neg h0] at hf; exact hf
  obtain ⟨hp0, hp15⟩ := hp
  have hpb := pb_num p hp0 hp15
  have hel := Cd.enc_length N
  have HROW : Hid (Cd.Row w ao n cap xs) := h
  clear h hf
  unfold vid at *
  go_enter Try.func76, Try.ntmps76
  go_wp2_with fail
  refine (hform _).mono ?_
  rintro e w1 ⟨rfl, hb1⟩
  have bl1 : Below w.heap.size w w1 := ((Below.refl _ _).alloc (Nat.le_refl _) _).trans (hb1.mono (by simp))
  have c0 : w1.cell? ⟨w.heap.size, 0, none⟩ = some (.int .u64 (N : Nat)) := (hb1.cell (by simp)).trans (cell_box w _ 24 0 _ rfl)
  have c1 : w1.cell? ⟨w.heap.size, 1, none⟩ = some (.int .i64 p) := (hb1.cell (by simp)).trans (cell_box w _ 24 1 _ rfl)
  have row1 : Cd.Row w1.drew ao n cap xs := HROW.out.below (w' := w1.drew) ⟨bl1.os, bl1.tape, bl1.output, bl1.size, bl1.block⟩ (Nat.le_refl _)
  have bl2 : Below w.heap.size w w1.drew := ⟨bl1.os, bl1.tape, bl1.output, bl1.size, bl1.block⟩
  have hwr : IntKind.u8.wrap p = p := IntWalk.u8_in _ (by omega)
  clear hb1 bl1 hform HROW
  obtain ⟨L, HL⟩ : ∃ L, Hid (n + (Cd.enc N).length = L) := ⟨_, rfl⟩
  have hLe : L + 1 ≤ 140737488355328 := by have := HL.out; omega
  have hwl : w.heap.size < w1.heap.size := World.block_lt_of_cell? w1 _ c0
  have fin : ∀ (W : World) (ao3 : Option Addr) (cap3 : Nat) (ad : Addr), W.ownsRow w1.heap.size 5 1 (.slice ao3 L cap3) L ((xs ++ Cd.enc N).map Cd.by8) → W.cell? ad = some (.int .u8 p) → (W.cell? ⟨w.heap.size, 0, none⟩ = some (.int .u64 (N : Nat)) ∧ W.cell? ⟨w.heap.size, 1, none⟩ = some (.int .i64 p)) → Below w.heap.size w W → w1.heap.size ≤ W.heap.size →
      ∃ v' w', (Builtin.append_ #[33, 33] 33 #[.slice ao3 L cap3, .slice (some ad) 1 1]).run Try.prog W = .ok v' w' ∧ (w'.cell? ⟨w.heap.size, 0, none⟩ = some (.int .u64 (N : Nat)) ∧ w'.cell? ⟨w.heap.size, 1, none⟩ = some (.int .i64 p)) ∧ Hid (w'.ownsRow w.heap.size 5 1 v' (n + (Cd.enc N).length + 1) ((xs ++ Cd.enc N ++ [pb p]).map Cd.by8) ∧ Below w.heap.size w w') := by
    intro W ao3 cap3 ad h1 h2 h3 h4 h5
    rw [← hpb] at h2
    obtain ⟨v', w', hrun, ho, hg⟩ := append_byte (ty := 33) (c := 1) h1 h5 hLe h2
    have hne : ∀ b, (Value.slice ao3 L cap3).ownBlock = some b → w1.heap.size ≤ b := fun b hb => (h1.lt b hb).1
    refine ⟨v', w', hrun, ⟨hg.cell h3.1 (fun e => by have := hne _ e.symm; simp at this; omega), hg.cell h3.2 (fun e => by have := hne _ e.symm; simp at this; omega)⟩, ?_, ?_⟩
    · rw [HL.out]; exact Cd.owns_mono ho (by omega)
    · exact bl_grown h4 (by omega) hg (fun b hb => by have := hne b hb; omega)
  go_wp2_with fail
  refine wp_region_noPanic ?_
  refine wp_region_held_drew (S := fun wx => wx.cell? ⟨w.heap.size, 0, none⟩ = some (.int .u64 (N : Nat)) ∧ wx.cell? ⟨w.heap.size, 1, none⟩ = some (.int .i64 p)) (by kernel_rfl) ⟨c0, c1⟩ (fun hHeld => ?_)
  refine take_first 0 (v := ?_) rfl (by kernel_rfl) (by kernel_rfl) (by kernel_rfl) (fun _ _ _ h => h) (Or.inl ⟨by rfl, by intro wx hSw; obtain ⟨hSw1, hSw2⟩ := hSw; go_simp; try with_reducible rfl⟩) (by assumption) ?_
  (try simp only [Act.put, List.setIfInBounds_toArray, List.set_cons_zero, List.set_cons_succ])
  refine take_first 1 (v := ?_) rfl (by kernel_rfl) (by kernel_rfl) (by kernel_rfl) (fun _ _ _ h => h) (Or.inl ⟨by rfl, by intro wx hSw; obtain ⟨hSw1, hSw2⟩ := hSw; go_simp; try with_reducible rfl⟩) (by assumption) ?_
  (try simp only [Act.put, List.setIfInBounds_toArray, List.set_cons_zero, List.set_cons_succ])
  refine take_first 2 (v := ?_) rfl (by kernel_rfl) (by kernel_rfl) (by kernel_rfl) (fun _ _ _ h => h) (Or.inl ⟨by rfl, by intro wx hSw; obtain ⟨hSw1, hSw2⟩ := hSw; go_simp; try with_reducible rfl⟩) (by assumption) ?_
  (try simp only [Act.put, List.setIfInBounds_toArray, List.set_cons_zero, List.set_cons_succ])
  refine take_first 4 (v := ?_) rfl (by kernel_rfl) (by kernel_rfl) (by kernel_rfl) (fun _ _ _ h => h) (Or.inl ⟨by rfl, by intro wx hSw; obtain ⟨hSw1, hSw2⟩ := hSw; go_simp; try with_reducible rfl⟩) (by assumption) ?_
  (try simp only [Act.put, List.setIfInBounds_toArray, List.set_cons_zero, List.set_cons_succ])
  refine take_first 5 (v := ?_) rfl (by kernel_rfl) (by kernel_rfl) (by kernel_rfl) (fun _ _ _ h => h) (Or.inl ⟨by rfl, by intro wx hSw; obtain ⟨hSw1, hSw2⟩ := hSw; go_simp; try with_reducible rfl⟩) (by assumption) ?_
  (try simp only [Act.put, List.setIfInBounds_toArray, List.set_cons_zero, List.set_cons_succ])
  refine take_first 6 (v := .int .u8 p) rfl (by kernel_rfl) (by kernel_rfl) (by kernel_rfl) (fun _ _ _ h => h) (Or.inl ⟨by rfl, by intro wx hSw; obtain ⟨hSw1, hSw2⟩ := hSw; go_simp; try with_reducible rfl⟩) (by assumption) ?_
  (try simp only [Act.put, List.setIfInBounds_toArray, List.set_cons_zero, List.set_cons_succ])
  refine comes_up2 3 7 rfl rfl (by kernel_rfl) (fun K hK => ?_) (fun K hK => ?_)
  · go_simp
    refine (Cd.uint_any _ ao n cap xs row1 N hN (by omega)).mono ?_
    rintro e w3 ⟨v3, rfl, hown3, hb3⟩
    rw [HL.out] at hown3
    obtain ⟨ao3, cap3, hv3⟩ := row_shape hown3
    subst hv3
    have hs3 := hb3.size
    have d0 : w3.cell? ⟨w.heap.size, 0, none⟩ = some (.int .u64 (N : Nat)) := (hb3.cell (p := ⟨w.heap.size, 0, none⟩) hwl).trans c0
    have d1 : w3.cell? ⟨w.heap.size, 1, none⟩ = some (.int .i64 p) := (hb3.cell (p := ⟨w.heap.size, 1, none⟩) hwl).trans c1
    have bl3 := bl_step bl2 hb3
    obtain ⟨v5, w5, hrun, hS5, HE⟩ := fin (w3.alloc (.cells #[.int .u8 p] 5)) ao3 cap3 ⟨w3.heap.size, 0, none⟩ (hown3.alloc _) (cell_box w3 _ 5 0 _ rfl)
      ⟨(((Below.refl _ w3).alloc (Nat.le_refl _) _).cell (World.block_lt_of_cell? w3 _ d0)).trans d0, (((Below.refl _ w3).alloc (Nat.le_refl _) _).cell (World.block_lt_of_cell? w3 _ d1)).trans d1⟩ (bl3.alloc bl3.size _) (by simp; exact Nat.le_succ_of_le hs3)
    have hS4 : (w3.alloc (.cells #[.int .u8 p] 5)).cell? ⟨w.heap.size, 0, none⟩ = some (.int .u64 (N : Nat)) ∧ (w3.alloc (.cells #[.int .u8 p] 5)).cell? ⟨w.heap.size, 1, none⟩ = some (.int .i64 p) :=
      ⟨(((Below.refl _ w3).alloc (Nat.le_refl _) _).cell (World.block_lt_of_cell? w3 _ d0)).trans d0, (((Below.refl _ w3).alloc (Nat.le_refl _) _).cell (World.block_lt_of_cell? w3 _ d1)).trans d1⟩
    clear fin hown3 hb3 bl2 row1 c0 c1
    go_wp2_with fail
    refine hK.out _ _ ⟨d0, d1⟩ (fun hHeld => ?_)
    clear hK K
    (try simp only [Act.put, List.setIfInBounds_toArray, List.set_cons_zero, List.set_cons_succ])
    refine comes_up 7 rfl (by kernel_rfl) (fun K hK => ?_)
    go_simp
    refine hK.out _ _ hS4 (fun hHeld => ?_)
    clear hK K
    (try simp only [Act.put, List.setIfInBounds_toArray, List.set_cons_zero, List.set_cons_succ])
    refine comes_up 8 rfl (by kernel_rfl) (fun K hK => ?_)
    refine step_append_run rfl (.tmp 12) (.tmp 16) 33 rfl (.slice ao3 L cap3) (.slice (some ⟨w3.heap.size, 0, none⟩) 1 1) v5 w5 (by simp [Act.eval]) (by simp [Act.eval]) hrun ?_
    refine hK.out _ _ hS5 (fun hHeld => ?_)
    clear hK K
    (try simp only [Act.put, List.setIfInBounds_toArray, List.set_cons_zero, List.set_cons_succ])
    refine take_first 9 (v := ?_) rfl (by kernel_rfl) (by kernel_rfl) (by kernel_rfl) (fun _ _ _ h => h) (Or.inl ⟨by rfl, by intro wx hSw; obtain ⟨hSw1, hSw2⟩ := hSw; go_simp; try with_reducible rfl⟩) (by assumption) ?_
    (try simp only [Act.put, List.setIfInBounds_toArray, List.set_cons_zero, List.set_cons_succ])
    refine take_first 10 (v := ?_) rfl (by kernel_rfl) (by kernel_rfl) (by kernel_rfl) (fun _ _ _ h => h) (Or.inl ⟨by rfl, by intro wx hSw; obtain ⟨hSw1, hSw2⟩ := hSw; go_simp; try with_reducible rfl⟩) (by assumption) ?_
    (try simp only [Act.put, List.setIfInBounds_toArray, List.set_cons_zero, List.set_cons_succ])
    refine wpAnyH_done (by kernel_rfl) ?_ _
    refine NoPanic.normal ?_
    go_wp2
    go_ret2
    exact ⟨v5, rfl, HE.out⟩
  · go_simp
    have hS4 : (w1.alloc (.cells #[.int .u8 p] 5)).drew.cell? ⟨w.heap.size, 0, none⟩ = some (.int .u64 (N : Nat)) ∧ (w1.alloc (.cells #[.int .u8 p] 5)).drew.cell? ⟨w.heap.size, 1, none⟩ = some (.int .i64 p) :=
      ⟨(((Below.refl _ w1).alloc (Nat.le_refl _) (.cells #[.int .u8 p] 5)).cell (World.block_lt_of_cell? w1 _ c0)).trans c0, (((Below.refl _ w1).alloc (Nat.le_refl _) (.cells #[.int .u8 p] 5)).cell (World.block_lt_of_cell? w1 _ c1)).trans c1⟩
    have blA : Below w.heap.size w (w1.alloc (.cells #[.int .u8 p] 5)).drew := by
      have := bl2.alloc (o := .cells #[.int .u8 p] 5) bl2.size
      exact ⟨this.os, this.tape, this.output, this.size, this.block⟩
    have row2 : Cd.Row (w1.alloc (.cells #[.int .u8 p] 5)).drew ao n cap xs := row1.below (B := w1.heap.size) (w' := (w1.alloc (.cells #[.int .u8 p] 5)).drew) ⟨rfl, rfl, rfl, by simp, fun k hk => Below.heap_alloc w1 _ k hk⟩ (Nat.le_refl _)
    have hbox := cell_box w1 #[.int .u8 p] 5 0 _ rfl
    refine hK.out _ _ hS4 (fun hHeld => ?_)
    clear hK K
    (try simp only [Act.put, List.setIfInBounds_toArray, List.set_cons_zero, List.set_cons_succ])
    refine comes_up 3 rfl (by kernel_rfl) (fun K hK => ?_)
    go_simp
    refine (Cd.uint_any _ ao n cap xs row2 N hN (by omega)).mono ?_
    rintro e w3 ⟨v3, rfl, hown3, hb3⟩
    rw [HL.out] at hown3
    obtain ⟨ao3, cap3, hv3⟩ := row_shape hown3
    subst hv3
    have hs3 := hb3.size
    have hsz : w1.heap.size + 1 ≤ w3.heap.size := by simpa using hs3
    have d0 : w3.cell? ⟨w.heap.size, 0, none⟩ = some (.int .u64 (N : Nat)) := (hb3.cell (World.block_lt_of_cell? _ _ hS4.1)).trans hS4.1
    have d1 : w3.cell? ⟨w.heap.size, 1, none⟩ = some (.int .i64 p) := (hb3.cell (World.block_lt_of_cell? _ _ hS4.2)).trans hS4.2
    have dx : w3.cell? ⟨w1.heap.size, 0, none⟩ = some (.int .u8 p) := (hb3.cell (p := ⟨w1.heap.size, 0, none⟩) (by simp)).trans hbox
    have bl3 := bl_step blA hb3
    obtain ⟨v5, w5, hrun, hS5, HE⟩ := fin w3 ao3 cap3 ⟨w1.heap.size, 0, none⟩ (Cd.owns_mono hown3 (by simp)) dx ⟨d0, d1⟩ bl3 (by omega)
    clear fin hown3 hb3 bl2 row1 row2 c0 c1 hS4 blA
    go_wp2_with fail
    refine hK.out _ _ ⟨d0, d1⟩ (fun hHeld => ?_)
    clear hK K
    (try simp only [Act.put, List.setIfInBounds_toArray, List.set_cons_zero, List.set_cons_succ])
    refine comes_up 8 rfl (by kernel_rfl) (fun K hK => ?_)
    refine step_append_run rfl (.tmp 12) (.tmp 16) 33 rfl (.slice ao3 L cap3) (.slice (some ⟨w1.heap.size, 0, none⟩) 1 1) v5 w5 (by simp [Act.eval]) (by simp [Act.eval]) hrun ?_
    refine hK.out _ _ hS5 (fun hHeld => ?_)
    clear hK K
    (try simp only [Act.put, List.setIfInBounds_toArray, List.set_cons_zero, List.set_cons_succ])
    refine take_first 9 (v := ?_) rfl (by kernel_rfl) (by kernel_rfl) (by kernel_rfl) (fun _ _ _ h => h) (Or.inl ⟨by rfl, by intro wx hSw; obtain ⟨hSw1, hSw2⟩ := hSw; go_simp; try with_reducible rfl⟩) (by assumption) ?_
    (try simp only [Act.put, List.setIfInBounds_toArray, List.set_cons_zero, List.set_cons_succ])
    refine take_first 10 (v := ?_) rfl (by kernel_rfl) (by kernel_rfl) (by kernel_rfl) (fun _ _ _ h => h) (Or.inl ⟨by rfl, by intro wx hSw; obtain ⟨hSw1, hSw2⟩ := hSw; go_simp; try with_reducible rfl⟩) (by assumption) ?_
    (try simp only [Act.put, List.setIfInBounds_toArray, List.set_cons_zero, List.set_cons_succ])
    refine wpAnyH_done (by kernel_rfl) ?_ _
    refine NoPanic.normal ?_
    go_wp2
    go_ret2
    exact ⟨v5, rfl, HE.out⟩
end Go.Proofs.Ytfemjbaadnjanaa
namespace Go.Proofs.Ytfemjbaadnjanaa
open Go.RowKit
set_option linter.unusedVariables false

/-- The next view's number of what is left, and what is left behind it. -/
def decV (st : Option (List UInt8)) : (Nat × Nat) × Option (List UInt8) :=
  match (Cd.rInt (Cd.rUint st).2 (if (Cd.rUint st).1 = 0 then 0 else 15)).2 with
  | none => ((0, 0), none)
  | some ys => (((Cd.rUint st).1, (Cd.rInt (Cd.rUint st).2 (if (Cd.rUint st).1 = 0 then 0 else 15)).1), some ys)

theorem rd_alloc {w : World} {r : Nat} {st : Option (List UInt8)} (h : Cd.Rd w r st) (o : Obj) : Cd.Rd (w.alloc o) r st := Cd.rd_below h ((Below.refl _ _).alloc (Nat.le_refl _) _)
/-- Bytes and a reader, while a cell is written that is no byte and no reader's. -/
theorem row_set {w : World} {ao : Option Addr} {n cap : Nat} {xs : List UInt8} (h : Cd.Row w ao n cap xs) {a : Addr} {v0 : Value} (u : Value) (hc : w.cell? a = some v0) (hv : ∀ k, v0 ≠ .int .u8 k) : Cd.Row (w.setCell a u) ao n cap xs := by
  obtain ⟨h1, h2, h3, h4, h5⟩ := h
  refine ⟨h1, h2, h3, h4, fun b hb i hi => ?_⟩
  rw [World.cell?_setCell_other]
  · exact h5 b hb i hi
  · intro e
    have := h5 b hb i hi
    rw [← e, hc] at this
    exact hv _ (Option.some.inj this)
theorem rd_set {w : World} {r B j : Nat} {st : Option (List UInt8)} (h : Cd.Rd w r st) (hb : r ≠ B) {v0 : Value} (u : Value) (hc : w.cell? ⟨B, j, none⟩ = some v0) (hv : ∀ k, v0 ≠ .int .u8 k) : Cd.Rd (w.setCell ⟨B, j, none⟩ u) r st := by
  have he : (w.setCell ⟨B, j, none⟩ u).heap[r]? = w.heap[r]? := Below.heap_setCell _ _ _ _ hb
  cases st with
  | none => exact he.trans h
  | some xs =>
    obtain ⟨ao, n, cap, h1, h2, h3⟩ := h
    exact ⟨ao, n, cap, he.trans h1, row_set h2 u hc hv, h3⟩
theorem grown_set {w w' : World} {r B j : Nat} (h : w.grownBy w' (some r)) (hB : w.heap.size ≤ B) (u : Value) : w.grownBy (w'.setCell ⟨B, j, none⟩ u) (some r) :=
  ⟨h.os, h.tape, h.output, by simpa [World.setCell] using h.size, fun k hk hne => (Below.heap_setCell _ _ _ _ (by show k ≠ B; omega)).trans (h.block k hk hne)⟩
theorem grown_alloc {w w' : World} {r : Nat} {o : Obj} (h : (w.alloc o).grownBy w' (some r)) : w.grownBy w' (some r) :=
  ⟨h.os, h.tape, h.output, by have := h.size; simp at this; omega, fun k hk hne => (h.block k (by simp; omega) hne).trans (Below.heap_alloc w o k hk)⟩
theorem set_cell {w : World} {b o : Nat} {v u : Value} (h : w.cell? ⟨b, o, none⟩ = some v) : (w.setCell ⟨b, o, none⟩ u).cell? ⟨b, o, none⟩ = some u := World.cell?_setCell_same _ _ _ h
theorem set_cell_other {w : World} {b o b' o' : Nat} {u : Value} (h : ¬ (b' = b ∧ o' = o)) : (w.setCell ⟨b, o, none⟩ u).cell? ⟨b', o', none⟩ = w.cell? ⟨b', o', none⟩ :=
  World.cell?_setCell_other _ _ _ _ (by intro e; simp only [Addr.mk.injEq] at e; omega)

set_option maxRecDepth 10000 in
set_option maxHeartbeats 1000000 in
theorem decode_rd (w : World) (r : Nat) (st : Option (List UInt8)) (h : Cd.Rd w r st) :
    Calls Try.prog 81 #[.pointer (some ⟨r, 0, none⟩)] w fun e w' => e = .returned (.tuple #[vid (decV st).1.1 ((decV st).1.2 : Nat), .bool (decV st).2.isSome]) ∧ Cd.Rd w' r (decV st).2 ∧ w.grownBy w' (some r) := by
  have hrl := h.lt
  have h1 := rd_alloc h (.cells #[.int .u64 0, .int .i64 0] 24)
  have hu := Cd.uint_rd _ r st h1
  have hlt := Cd.rUint_lt st
  have hgr := fun W => great_any W (Cd.rUint st).1
  have hint := fun W (hW : Cd.Rd W r (Cd.rUint st).2) => Cd.int_rd W r (Cd.rUint st).2 hW (if (Cd.rUint st).1 = 0 then 0 else 15) (by split <;> omega) (by split <;> omega)
  have HD : Hid (decV st = match (Cd.rInt (Cd.rUint st).2 (if (Cd.rUint st).1 = 0 then 0 else 15)).2 with
    | none => ((0, 0), none)
    | some ys => (((Cd.rUint st).1, (Cd.rInt (Cd.rUint st).2 (if (Cd.rUint st).1 = 0 then 0 else 15)).1), some ys)) := rfl
  generalize (Cd.rUint st).1 = N at *
  generalize (Cd.rUint st).2 = st1 at *
  generalize (if N = 0 then (0 : Int) else 15) = mx at *
  generalize Cd.rInt st1 mx = ri at *
  obtain ⟨P, st2⟩ := ri
  simp only at HD hint
  unfold vid
  rw [HD.out]
  clear HD
  go_enter Try.func81, Try.ntmps81
  go_wp2_with fail
  refine hu.mono ?_
  rintro e w1 ⟨rfl, rd1, g1⟩
  go_wp2_with fail
  refine (hgr _).mono ?_
  rintro e w2 ⟨rfl, rfl⟩
  go_wp2_with fail
  refine (hint _ rd1).mono ?_
  rintro e w2 ⟨rfl, rd2, g2⟩
  have b0 := cell_box w #[Value.int .u64 0, .int .i64 0] 24 0 _ rfl
  have b1 := cell_box w #[Value.int .u64 0, .int .i64 0] 24 1 _ rfl
  have b0' := g2.cell (g1.cell b0 (by simp; omega)) (by simp; omega)
  have b1' := g2.cell (g1.cell b1 (by simp; omega)) (by simp; omega)
  clear hu hgr hint h1 rd1 b0 b1
  go_wp2_with fail
  refine (Cd.bad_rd _ _ _ rd2).mono ?_
  rintro e w3 ⟨rfl, rfl⟩
  have g3 := grown_alloc (Cd.grown_trans g1 g2)
  have f0 : w2.frozen? ⟨w.heap.size, 0, none⟩ = false := by
    rw [World.frozen?_of_block (w := w.alloc (.cells #[Value.int .u64 0, .int .i64 0] 24)) ((Cd.grown_trans g1 g2).block _ (by simp) (by simp; omega))]
    unfold World.frozen?; rw [show (w.alloc (.cells #[Value.int .u64 0, .int .i64 0] 24)).heap[w.heap.size]? = some (.cells #[Value.int .u64 0, .int .i64 0] 24 (0, 0)) from heap_alloc_new _ _]; simp
  have f1 : w2.frozen? ⟨w.heap.size, 1, none⟩ = false := by
    rw [World.frozen?_of_block (w := w.alloc (.cells #[Value.int .u64 0, .int .i64 0] 24)) ((Cd.grown_trans g1 g2).block _ (by simp) (by simp; omega))]
    unfold World.frozen?; rw [show (w.alloc (.cells #[Value.int .u64 0, .int .i64 0] 24)).heap[w.heap.size]? = some (.cells #[Value.int .u64 0, .int .i64 0] 24 (0, 0)) from heap_alloc_new _ _]; simp
  have fin : ∀ (x y : Nat), ((w2.setCell ⟨w.heap.size, 0, none⟩ (.int .u64 (x : Nat))).setCell ⟨w.heap.size, 1, none⟩ (.int .i64 (y : Nat))).cell? ⟨w.heap.size, 0, none⟩ = some (.int .u64 (x : Nat)) ∧
      ((w2.setCell ⟨w.heap.size, 0, none⟩ (.int .u64 (x : Nat))).setCell ⟨w.heap.size, 1, none⟩ (.int .i64 (y : Nat))).cell? ⟨w.heap.size, 1, none⟩ = some (.int .i64 (y : Nat)) ∧
      Hid (Cd.Rd ((w2.setCell ⟨w.heap.size, 0, none⟩ (.int .u64 (x : Nat))).setCell ⟨w.heap.size, 1, none⟩ (.int .i64 (y : Nat))) r st2 ∧ w.grownBy ((w2.setCell ⟨w.heap.size, 0, none⟩ (.int .u64 (x : Nat))).setCell ⟨w.heap.size, 1, none⟩ (.int .i64 (y : Nat))) (some r)) := by
    intro x y
    have e1 : (w2.setCell ⟨w.heap.size, 0, none⟩ (.int .u64 (x : Nat))).cell? ⟨w.heap.size, 1, none⟩ = some (.int .i64 0) := by rw [set_cell_other (by omega)]; exact b1'
    refine ⟨?_, set_cell e1, ?_, grown_set (grown_set g3 (Nat.le_refl _) _) (Nat.le_refl _) _⟩
    · rw [set_cell_other (by omega)]; exact set_cell b0'
    · exact rd_set (rd_set rd2 (by omega) _ b0' (by simp)) (by omega) _ e1 (by simp)
  clear g1 g2 g3 h
  cases st2 with
  | none =>
    obtain ⟨e0, e1, HE⟩ := fin 0 0
    have k0 : (w2.setCell ⟨w.heap.size, 0, none⟩ (.int .u64 0)).cell? ⟨w.heap.size, 0, none⟩ = some (.int .u64 0) := set_cell b0'
    have k1 : ((w2.setCell ⟨w.heap.size, 0, none⟩ (.int .u64 0)).setCell ⟨w.heap.size, 1, none⟩ (.int .i64 0)).cell? ⟨w.heap.size, 1, none⟩ = some (.int .i64 0) := e1
    clear fin rd2 e0 e1
    go_wp2
    exact bodyPost_ret (v := .tuple #[.agg #[.int .u64 0, .int .i64 0], .bool false]) (by simp [results, Try.results81, go_sem, k0, k1]) rfl ⟨rfl, HE.out⟩
  | some ys =>
    obtain ⟨e0, e1, HE⟩ := fin N P
    clear fin rd2
    go_wp2
    exact bodyPost_ret (v := .tuple #[.agg #[.int .u64 (N : Nat), .int .i64 (P : Nat)], .bool true]) (by simp [results, Try.results81, go_sem, e0, e1]) rfl ⟨rfl, HE.out⟩
end Go.Proofs.Ytfemjbaadnjanaa
namespace Go.Proofs.Ytfemjbaadnjanaa
open Go.RowKit
set_option linter.unusedVariables false

set_option maxRecDepth 10000 in
set_option maxHeartbeats 1000000 in
theorem refEncode_any (w : World) (N : Nat) (hN : N < 18446744073709551616) (p : Int) (hp0 : 0 ≤ p) (hp15 : p ≤ 15) :
    Calls Try.prog 30 #[vid N p] w fun e w' => ∃ v, e = .returned v ∧ w'.ownsRow w.heap.size 5 1 v ((Cd.enc N).length + 1) ((Cd.enc N ++ [pb p]).map Cd.by8) ∧ Below w.heap.size w w' := by
  obtain ⟨i0, hi0, hz0, hz1, hz2⟩ := info_parts info5
  have hpb := pb_num p hp0 hp15
  have hel := Cd.enc_length N
  have hwr : IntKind.u8.wrap p = p := IntWalk.u8_in _ (by omega)
  have hb0 : Below w.heap.size w (w.alloc (.cells #[Value.int .u64 (N : Nat), .int .i64 p] 24)) := (Below.refl _ _).alloc (Nat.le_refl _) _
  have c1 := cell_box w #[Value.int .u64 (N : Nat), .int .i64 p] 24 1 _ rfl
  have hru := Cd.refUint_any (w.alloc (.cells #[Value.int .u64 (N : Nat), .int .i64 p] 24)) N hN
  unfold vid
  go_enter Try.func30, Try.ntmps30
  go_wp2_with fail
  refine hru.mono ?_
  rintro e w1 ⟨v1, rfl, hown, hb1⟩
  have d1 := (hb1.cell (World.block_lt_of_cell? _ _ c1)).trans c1
  have bl1 := bl_step hb0 hb1
  obtain ⟨L, HL⟩ : ∃ L, Hid ((Cd.enc N).length = L) := ⟨_, rfl⟩
  rw [HL.out] at hown hel
  obtain ⟨ao1, cap1, hv1⟩ := row_shape hown
  subst hv1
  have hown1 := Cd.owns_mono hown (B' := w.heap.size) (by simp)
  clear hru hown hb1 c1 hb0
  go_wp2_with (first | (at_builtin; refine wpList_append_own_at _ rfl _ _ 33 rfl w.heap.size 5 i0 (.int .u8 0) 1 1 und34 hi0 hz0 hz1 hz2 rfl (by decide) (.slice ao1 L cap1) L ((Cd.enc N).map Cd.by8) rfl ?d1 ⟨w1.heap.size, 0, none⟩ 1 1 [.int .u8 p] rfl rfl ?d3 ?d4 ?d6 ?d7 ?d8 ?_))
  case d1 => exact hown1.alloc _
  case d3 => exact cell_one_new _ _ _
  case d4 => simp [Value.oneCell']
  case d6 => unfold maxLen; omega
  case d7 => omega
  case d8 => have := bl1.size; simp; omega
  intro v' w3 hown3 hgrow hnil hat
  have hbl3 := bl_grown (bl1.alloc bl1.size (.cells #[.int .u8 p] 5)) (by have := bl1.size; simp; omega) hgrow (fun g hg => (hown1.lt g hg).1)
  rw [← hpb] at hown3
  have HE : Hid (w3.ownsRow w.heap.size 5 1 v' ((Cd.enc N).length + 1) ((Cd.enc N ++ [pb p]).map Cd.by8) ∧ Below w.heap.size w w3) := ⟨by rw [HL.out]; simpa using hown3, hbl3⟩
  clear hown3 hgrow hnil hat hbl3 hown1 bl1
  go_wp2
  go_ret
  exact ⟨v', rfl, HE.out⟩

/-- What the document's reader makes of it is the same. -/
theorem dec_ref (st : Option (List UInt8)) : decV st = if (Cd.rInt (Cd.rUint st).2 15).2.isNone || !formV (Cd.rUint st).1 ((Cd.rInt (Cd.rUint st).2 15).1 : Nat) then ((0, 0), none) else (((Cd.rUint st).1, (Cd.rInt (Cd.rUint st).2 15).1), (Cd.rInt (Cd.rUint st).2 15).2) := by
  unfold decV
  generalize (Cd.rUint st).1 = N
  generalize (Cd.rUint st).2 = st1
  unfold Cd.rInt formV
  generalize (Cd.rUint st1).1 = x
  cases (Cd.rUint st1).2 with
  | none => simp
  | some ys =>
    simp only
    have cs : ∀ m : Int, 0 ≤ m → ((m < (x : Int) ∧ (if m < 0 ∨ m < (x : Int) then ((0 : Nat), (none : Option (List UInt8))) else (x, some ys)) = (0, none)) ∨ ((x : Int) ≤ m ∧ (if m < 0 ∨ m < (x : Int) then ((0 : Nat), (none : Option (List UInt8))) else (x, some ys)) = (x, some ys))) := by
      intro m hm
      by_cases h : m < (x : Int)
      · exact .inl ⟨h, if_pos (.inr h)⟩
      · exact .inr ⟨by omega, if_neg (by omega)⟩
    by_cases h0 : N = 0
    · subst h0
      simp only [if_true]
      rcases cs 0 (by omega) with ⟨a1, a2⟩ | ⟨a1, a2⟩
      · rcases cs 15 (by omega) with ⟨b1, b2⟩ | ⟨b1, b2⟩
        · simp only [a2, b2]; simp
        · simp only [a2, b2]; simp; omega
      · obtain rfl : x = 0 := by omega
        simp only [a2]; simp
    · simp only [if_neg h0]
      rcases cs 15 (by omega) with ⟨b1, b2⟩ | ⟨b1, b2⟩
      · simp only [b2]; simp
      · simp only [b2]; simp; omega
end Go.Proofs.Ytfemjbaadnjanaa
namespace Go.Proofs.Ytfemjbaadnjanaa
open Go.RowKit
set_option linter.unusedVariables false

/-- The document's reader and its bytes, behind a world. -/
def Gd (w W : World) (m : Nat) (ao : Option Addr) (n cap : Nat) (xs : List UInt8) (o : Option Nat) : Prop := Cd.RR W m ao n cap o ∧ Cd.Row W ao n cap xs ∧ w.grownBy W (some m) ∧ m < w.heap.size
section
variable {w W W' : World} {m : Nat} {ao : Option Addr} {n cap : Nat} {xs : List UInt8} {o o' : Option Nat}
theorem Gd.below (h : Gd w W m ao n cap xs o) (hb : Below W.heap.size W W') : Gd w W' m ao n cap xs o :=
  ⟨h.1.below hb, h.2.1.below hb (Nat.le_refl _), Cd.grown_trans h.2.2.1 (Cd.grown_of_below hb _), h.2.2.2⟩
theorem Gd.alloc (h : Gd w W m ao n cap xs o) (x : Obj) : Gd w (W.alloc x) m ao n cap xs o := h.below ((Below.refl _ _).alloc (Nat.le_refl _) _)
theorem Gd.step (h : Gd w W m ao n cap xs o) (hr : Cd.RR W' m ao n cap o') (g : W.grownBy W' (some m)) : Gd w W' m ao n cap xs o' :=
  ⟨hr, Cd.row_RR h.2.1 h.1 g, Cd.grown_trans h.2.2.1 g, h.2.2.2⟩
theorem Gd.set (h : Gd w W m ao n cap xs o) {B j : Nat} {v0 : Value} (u : Value) (hB : w.heap.size ≤ B) (hc : W.cell? ⟨B, j, none⟩ = some v0) (hv : ∀ k, v0 ≠ .int .u8 k) : Gd w (W.setCell ⟨B, j, none⟩ u) m ao n cap xs o := by
  have hm := h.2.2.2
  refine ⟨?_, row_set h.2.1 u hc hv, grown_set h.2.2.1 hB u, h.2.2.2⟩
  unfold Cd.RR
  rw [Below.heap_setCell _ _ _ _ (by show m ≠ B; omega)]
  exact h.1
theorem Gd.fault (h : Gd w W m ao n cap xs o) : Gd w (W.setCell ⟨m, 1, none⟩ (.int .i64 (-1))) m ao n cap xs none :=
  ⟨h.1.set none, row_set h.2.1 _ h.1.cells.2.1 (by simp), ⟨h.2.2.1.os, h.2.2.1.tape, h.2.2.1.output, by simpa [World.setCell] using h.2.2.1.size, fun k hk hne => (Below.heap_setCell _ _ _ _ (fun e => hne (by rw [e]))).trans (h.2.2.1.block k hk hne)⟩, h.2.2.2⟩
end

set_option maxRecDepth 10000 in
set_option maxHeartbeats 2000000 in
theorem refDecode_step (w : World) (m : Nat) (ao : Option Addr) (n cap : Nat) (xs : List UInt8) (o : Option Nat) (st : Option (List UInt8)) (hs : Cd.same xs o st) (h : Cd.RR w m ao n cap o) (hx : Cd.Row w ao n cap xs) (hn : n ≤ 140737488355328) :
    Calls Try.prog 40 #[.pointer (some ⟨m, 0, none⟩)] w fun e w' => e = .returned (vid (decV st).1.1 ((decV st).1.2 : Nat)) ∧ ∃ o', Cd.same xs o' (decV st).2 ∧ Cd.RR w' m ao n cap o' ∧ w.grownBy w' (some m) := by
  have hml := h.lt
  have g0 : Gd w w m ao n cap xs o := ⟨h, hx, Cd.grown_refl _ _, hml⟩
  have g1 := g0.alloc (.cells #[.int .u64 0, .int .i64 0] 24)
  have hu := Cd.refUint_step _ m ao n cap xs o st hs g1.1 g1.2.1 hn
  have hi := fun W o1 (hs1 : Cd.same xs o1 (Cd.rUint st).2) (hg : Gd w W m ao n cap xs o1) => Cd.refInt_step W m ao n cap xs o1 (Cd.rUint st).2 hs1 hg.1 hg.2.1 hn 15 (by omega) (by omega)
  have HD : Hid _ := dec_ref st
  have hlt := Cd.rUint_lt st
  generalize (Cd.rUint st).1 = N at *
  generalize (Cd.rUint st).2 = st1 at *
  generalize Cd.rInt st1 15 = ri at *
  obtain ⟨P, st2⟩ := ri
  simp only at HD hi
  have hform := fun W => refFormB_any W N (P : Int)
  unfold vid at *
  rw [HD.out]
  clear HD h hx g0
  go_enter Try.func40, Try.ntmps40
  go_wp2_with fail
  refine hu.mono ?_
  rintro e w1 ⟨rfl, o1, hs1, rr1, gr1⟩
  have g2 := g1.step rr1 gr1
  have b0 := gr1.cell (cell_box w #[Value.int .u64 0, .int .i64 0] 24 0 _ rfl) (by simp; omega)
  have b1 := gr1.cell (cell_box w #[Value.int .u64 0, .int .i64 0] 24 1 _ rfl) (by simp; omega)
  have f0 : ∀ j, w1.frozen? ⟨w.heap.size, j, none⟩ = false := fun j => by
    rw [World.frozen?_of_block (w := w.alloc (.cells #[Value.int .u64 0, .int .i64 0] 24)) (gr1.block _ (by simp) (by simp; omega))]
    unfold World.frozen?; rw [show (w.alloc (.cells #[Value.int .u64 0, .int .i64 0] 24)).heap[w.heap.size]? = some (.cells #[Value.int .u64 0, .int .i64 0] 24 (0, 0)) from heap_alloc_new _ _]; simp
  have hw1 : w.heap.size + 1 ≤ w1.heap.size := by have := gr1.size; simpa using this
  clear hu g1 rr1 gr1
  go_wp2_with fail
  have g3 := g2.alloc (.cells #[.int .u64 (N : Nat), .int .i64 0] 24)
  have up : ∀ {ad v}, w1.cell? ad = some v → (w1.alloc (.cells #[.int .u64 (N : Nat), .int .i64 0] 24)).cell? ad = some v := fun {ad v} hh => (((Below.refl _ w1).alloc (Nat.le_refl _) _).cell (World.block_lt_of_cell? w1 _ hh)).trans hh
  refine (hi _ o1 hs1 g3).mono ?_
  rintro e w3 ⟨rfl, o3, hs3, rr3, gr3⟩
  have g4 := g3.step rr3 gr3
  have c00 := gr3.cell (up b0) (by simp; omega)
  have c01 := gr3.cell (up b1) (by simp; omega)
  have c10 := gr3.cell (cell_box w1 #[Value.int .u64 (N : Nat), .int .i64 0] 24 0 _ rfl) (by simp; omega)
  have c11 := gr3.cell (cell_box w1 #[Value.int .u64 (N : Nat), .int .i64 0] 24 1 _ rfl) (by simp; omega)
  have e0 : ∀ j, w3.frozen? ⟨w.heap.size, j, none⟩ = false := fun j => by
    rw [World.frozen?_of_block (w := w1) ((gr3.block w.heap.size (by simp; omega) (by simp; omega)).trans (Below.heap_alloc w1 _ _ (by omega)))]; exact f0 j
  have e1 : ∀ j, w3.frozen? ⟨w1.heap.size, j, none⟩ = false := fun j => by
    rw [World.frozen?_of_block (w := w1.alloc (.cells #[Value.int .u64 (N : Nat), .int .i64 0] 24)) (gr3.block _ (by simp) (by simp; omega))]
    unfold World.frozen?; rw [show (w1.alloc (.cells #[Value.int .u64 (N : Nat), .int .i64 0] 24)).heap[w1.heap.size]? = some (.cells #[Value.int .u64 (N : Nat), .int .i64 0] 24 (0, 0)) from heap_alloc_new _ _]; simp
  have g5 := g4.set (B := w1.heap.size) (j := 1) (.int .i64 (P : Nat)) (by omega) c11 (by simp)
  have a00 : (w3.setCell ⟨w1.heap.size, 1, none⟩ (.int .i64 (P : Nat))).cell? ⟨w.heap.size, 0, none⟩ = some (.int .u64 0) := by rw [set_cell_other (by omega)]; exact c00
  have a01 : (w3.setCell ⟨w1.heap.size, 1, none⟩ (.int .i64 (P : Nat))).cell? ⟨w.heap.size, 1, none⟩ = some (.int .i64 0) := by rw [set_cell_other (by omega)]; exact c01
  have a10 : (w3.setCell ⟨w1.heap.size, 1, none⟩ (.int .i64 (P : Nat))).cell? ⟨w1.heap.size, 0, none⟩ = some (.int .u64 (N : Nat)) := by rw [set_cell_other (by omega)]; exact c10
  have a11 : (w3.setCell ⟨w1.heap.size, 1, none⟩ (.int .i64 (P : Nat))).cell? ⟨w1.heap.size, 1, none⟩ = some (.int .i64 (P : Nat)) := set_cell c11
  have af0 : ∀ j, (w3.setCell ⟨w1.heap.size, 1, none⟩ (.int .i64 (P : Nat))).frozen? ⟨w.heap.size, j, none⟩ = false := fun j => by rw [World.frozen?_setCell]; exact e0 j
  have ef := e1 1
  clear g3 g4 g2 hi up gr3 rr3 b0 b1 f0 e0 e1 c00 c01 c10
  go_upto_region 3 with fail
  generalize w3.setCell ⟨w1.heap.size, 1, none⟩ (.int .i64 (P : Nat)) = w4 at *
  have afm : w4.frozen? ⟨m, 1, none⟩ = false := g5.1.cells.2.2.2
  have am := g5.1.cells.2.1
  clear c11 ef
  -- the end behind a fault
  have bad : ∀ W, (∀ ad v, w4.cell? ad = some v → W.cell? ad = some v) → Gd w W m ao n cap xs o3 → (W.setCell ⟨m, 1, none⟩ (.int .i64 (-1))).cell? ⟨w.heap.size, 0, none⟩ = some (.int .u64 0) ∧ (W.setCell ⟨m, 1, none⟩ (.int .i64 (-1))).cell? ⟨w.heap.size, 1, none⟩ = some (.int .i64 0) ∧
      ((W.setCell ⟨m, 1, none⟩ (.int .i64 (-1))).setCell ⟨w.heap.size, 0, none⟩ (.int .u64 0)).cell? ⟨w.heap.size, 0, none⟩ = some (.int .u64 0) ∧
      (((W.setCell ⟨m, 1, none⟩ (.int .i64 (-1))).setCell ⟨w.heap.size, 0, none⟩ (.int .u64 0)).setCell ⟨w.heap.size, 1, none⟩ (.int .i64 0)).cell? ⟨w.heap.size, 1, none⟩ = some (.int .i64 0) ∧
      Hid (Cd.RR (((W.setCell ⟨m, 1, none⟩ (.int .i64 (-1))).setCell ⟨w.heap.size, 0, none⟩ (.int .u64 0)).setCell ⟨w.heap.size, 1, none⟩ (.int .i64 0)) m ao n cap none ∧ w.grownBy (((W.setCell ⟨m, 1, none⟩ (.int .i64 (-1))).setCell ⟨w.heap.size, 0, none⟩ (.int .u64 0)).setCell ⟨w.heap.size, 1, none⟩ (.int .i64 0)) (some m)) := by
    intro W hW hG
    have x0 : (W.setCell ⟨m, 1, none⟩ (.int .i64 (-1))).cell? ⟨w.heap.size, 0, none⟩ = some (.int .u64 0) := by rw [set_cell_other (by omega)]; exact hW _ _ a00
    have x1 : (W.setCell ⟨m, 1, none⟩ (.int .i64 (-1))).cell? ⟨w.heap.size, 1, none⟩ = some (.int .i64 0) := by rw [set_cell_other (by omega)]; exact hW _ _ a01
    have y1 : ((W.setCell ⟨m, 1, none⟩ (.int .i64 (-1))).setCell ⟨w.heap.size, 0, none⟩ (.int .u64 0)).cell? ⟨w.heap.size, 1, none⟩ = some (.int .i64 0) := by rw [set_cell_other (by omega)]; exact x1
    have gg := (hG.fault.set (B := w.heap.size) (j := 0) (.int .u64 0) (Nat.le_refl _) x0 (by simp)).set (B := w.heap.size) (j := 1) (.int .i64 0) (Nat.le_refl _) y1 (by simp)
    exact ⟨x0, x1, set_cell x0, set_cell y1, gg.1, gg.2.2.1⟩
  cases o3 with
  | none =>
    obtain rfl : st2 = none := by
      cases st2 with
      | none => rfl
      | some ys => exact absurd hs3 (by simp [Cd.same])
    obtain ⟨x0, x1, y0, y1, HE⟩ := bad w4 (fun _ _ hh => hh) g5
    have xf : ∀ j, (w4.setCell ⟨m, 1, none⟩ (.int .i64 (-1))).frozen? ⟨w.heap.size, j, none⟩ = false := fun j => by rw [World.frozen?_setCell]; exact af0 j
    have hat : Cd.atOf none = -1 := rfl
    rw [hat] at am
    clear bad g5 hat hform
    have af00 := af0 0
    have af01 := af0 1
    go_wp2
    refine bodyPost_ret (v := .agg #[.int .u64 0, .int .i64 0]) ?_ rfl ⟨?_, none, ?_, HE.out⟩
    · simp [results, Try.results40, go_sem, y0, y1]
    · simp
    · simp [Cd.same]
  | some k =>
    obtain ⟨ys, rfl⟩ : ∃ ys, st2 = some ys := by
      cases st2 with
      | none => exact absurd hs3 (by simp [Cd.same])
      | some ys => exact ⟨ys, rfl⟩
    have hat : Cd.atOf (some k) = (k : Int) := rfl
    rw [hat] at am
    clear hat
    have hk0 : ¬ ((k : Int) < 0) := by omega
    have hkd : decide ((k : Int) < 0) = false := by simp
    cases hfv : formV N (P : Int) with
    | false =>
      rw [hfv] at hform
      have bad' := fun W (hb : Below w4.heap.size w4 W) => bad W (fun ad v hh => (hb.cell (World.block_lt_of_cell? w4 _ hh)).trans hh) (g5.below hb)
      have frz : ∀ W, Below w4.heap.size w4 W → W.frozen? ⟨m, 1, none⟩ = false ∧ W.cell? ⟨m, 1, none⟩ = some (.int .i64 (k : Int)) ∧ ∀ j, (W.setCell ⟨m, 1, none⟩ (.int .i64 (-1))).frozen? ⟨w.heap.size, j, none⟩ = false := fun W hb =>
        ⟨(g5.below hb).1.cells.2.2.2, (g5.below hb).1.cells.2.1, fun j => by rw [World.frozen?_setCell, World.frozen?_of_block (w := w4) (a := ⟨w.heap.size, j, none⟩) (hb.block w.heap.size (World.block_lt_of_cell? w4 _ a00))]; exact af0 j⟩
      clear bad g5
      go_wp2_with fail
      refine (hform _).mono ?_
      rintro e w5 ⟨rfl, hb5⟩
      obtain ⟨x0, x1, y0, y1, HE⟩ := bad' w5 hb5
      obtain ⟨z1, z2, z3⟩ := frz w5 hb5
      have z30 := z3 0
      have z31 := z3 1
      clear bad' frz hb5 hform
      go_wp2
      all_goals
        refine bodyPost_ret (v := .agg #[.int .u64 0, .int .i64 0]) ?_ rfl ⟨?_, none, ?_, HE.out⟩
        · simp [results, Try.results40, go_sem, y0, y1]
        · simp
        · simp [Cd.same]
    | true =>
      rw [hfv] at hform
      have good : ∀ W, Below w4.heap.size w4 W → W.cell? ⟨w1.heap.size, 0, none⟩ = some (.int .u64 (N : Nat)) ∧ W.cell? ⟨w1.heap.size, 1, none⟩ = some (.int .i64 (P : Nat)) ∧ W.cell? ⟨w.heap.size, 0, none⟩ = some (.int .u64 0) ∧ W.cell? ⟨w.heap.size, 1, none⟩ = some (.int .i64 0) ∧ (∀ j, W.frozen? ⟨w.heap.size, j, none⟩ = false) ∧
          (W.setCell ⟨w.heap.size, 0, none⟩ (.int .u64 (N : Nat))).cell? ⟨w.heap.size, 0, none⟩ = some (.int .u64 (N : Nat)) ∧ ((W.setCell ⟨w.heap.size, 0, none⟩ (.int .u64 (N : Nat))).setCell ⟨w.heap.size, 1, none⟩ (.int .i64 (P : Nat))).cell? ⟨w.heap.size, 1, none⟩ = some (.int .i64 (P : Nat)) ∧
          Hid (Cd.RR ((W.setCell ⟨w.heap.size, 0, none⟩ (.int .u64 (N : Nat))).setCell ⟨w.heap.size, 1, none⟩ (.int .i64 (P : Nat))) m ao n cap (some k) ∧ w.grownBy ((W.setCell ⟨w.heap.size, 0, none⟩ (.int .u64 (N : Nat))).setCell ⟨w.heap.size, 1, none⟩ (.int .i64 (P : Nat))) (some m)) := by
        intro W hb
        have kp : ∀ {ad v}, w4.cell? ad = some v → W.cell? ad = some v := fun {ad v} hh => (hb.cell (World.block_lt_of_cell? w4 _ hh)).trans hh
        have y1 : (W.setCell ⟨w.heap.size, 0, none⟩ (.int .u64 (N : Nat))).cell? ⟨w.heap.size, 1, none⟩ = some (.int .i64 0) := by rw [set_cell_other (by omega)]; exact kp a01
        have gg := ((g5.below hb).set (B := w.heap.size) (j := 0) (.int .u64 (N : Nat)) (Nat.le_refl _) (kp a00) (by simp)).set (B := w.heap.size) (j := 1) (.int .i64 (P : Nat)) (Nat.le_refl _) y1 (by simp)
        exact ⟨kp a10, kp a11, kp a00, kp a01, fun j => by rw [World.frozen?_of_block (w := w4) (a := ⟨w.heap.size, j, none⟩) (hb.block w.heap.size (World.block_lt_of_cell? w4 _ a00))]; exact af0 j, set_cell (kp a00), set_cell y1, gg.1, gg.2.2.1⟩
      clear bad g5
      go_wp2_with fail
      refine (hform _).mono ?_
      rintro e w5 ⟨rfl, hb5⟩
      obtain ⟨z1, z2, z3, z4, z5, y0, y1, HE⟩ := good w5 hb5
      have z50 := z5 0
      have z51 := z5 1
      clear good hb5 hform
      go_wp2
      all_goals
        refine bodyPost_ret (v := .agg #[.int .u64 (N : Nat), .int .i64 (P : Nat)]) ?_ rfl ⟨?_, some k, ?_, HE.out⟩
        · simp [results, Try.results40, go_sem, y0, y1]
        · simp
        · simpa using hs3
end Go.Proofs.Ytfemjbaadnjanaa
