/-
  Texts of the walk, one behind the other.
-/
import Derived.Test.YtlaihgdfedalmaaGreatMix0
import Derived.Deep.Cut
import Derived.Laws.Tables
import Derived.Maps.AppendAt
import Derived.RangeFuncNested
import Derived.RangeFuncBound
import Derived.RangeFuncCalls
import Derived.RangeFuncLeaves
import Derived.Shelf.Abstract
import Derived.Shelf.RegionOpen
import Derived.WalkKit
import Derived.OwnWalkIn
import Derived.TacticsInMore
import Derived.LoopNIn
import Derived.LoopIn
/-
  Which views' numbers are right: nothing of old turns.
  Views' numbers as bytes, and back: Encode and Decode of package ident, and the document's answers.
  Decode of package ident, and the document's answers.
  The document's answers for views' numbers as bytes, and back.
  The document's Decode of a view's number.
  Labels as bytes: Encode of package label, and the document's answer.
  The document's bytes of a label.
  Labels out of bytes: Decode of package label.
  The document's Decode of a label.
-/
namespace Go.Proofs.YtlaihgdfedalmaaGreat
open Go.RowKit Go.Sort
set_option linter.unusedVariables false
theorem formB_any (w : World) (n : Nat) (p : Int) : Calls Tryz.prog 118 #[vid n p] w fun e w' => e = .returned (.bool (formV n p)) ∧ RowKit.Below w.heap.size w w' := (form_any w n p).mono fun _ _ h => ⟨h.1, h.2.bl⟩
theorem row_shape {w : World} {B e n : Nat} {v : Value} {xs : List Value} (h : w.ownsRow B e 1 v n xs) : ∃ ao cap, v = .slice ao n cap := by
  rcases h.2 with ⟨rfl, rfl⟩ | ⟨g, cap, cur, rfl, _⟩
  · exact ⟨_, _, rfl⟩
  · exact ⟨_, _, rfl⟩
end Go.Proofs.YtlaihgdfedalmaaGreat
namespace Go.Proofs.YtlaihgdfedalmaaGreat
open Go.RowKit
set_option linter.unusedVariables false

theorem und34 : Tryz.prog.underlying 37 = some (.slice 5) := by kernel_rfl
theorem info5 : (Tryz.prog.info? 5).map (fun i => (i.zero, i.size, i.bytes)) = some (some (.int .u8 0), 1, 1) := by kernel_rfl
/-- The byte of a node's number. -/
def pb (p : Int) : UInt8 := UInt8.ofNat p.toNat
theorem pb_num (p : Int) (h0 : 0 ≤ p) (h1 : p ≤ 15) : Cd.by8 (pb p) = .int .u8 p := by
  unfold Cd.by8 pb
  rw [Cd.ofNat_toNat _ (by omega), Int.toNat_of_nonneg h0]

/-- append of one byte to a row of one's own. -/
theorem append_byte {w : World} {B n : Nat} {ao : Option Addr} {cap : Nat} {xs : List UInt8} {b : UInt8} {ad : Addr} {c : Nat} {ty : TypeId} (h : w.ownsRow B 5 1 (.slice ao n cap) n (xs.map Cd.by8)) (hB : B ≤ w.heap.size) (hn : n + 1 ≤ 140737488355328) (hc : w.cell? ad = some (Cd.by8 b)) :
    ∃ v' w', (Builtin.append_ #[37, 37] ty #[.slice ao n cap, .slice (some ad) 1 c]).run Tryz.prog w = .ok v' w' ∧ w'.ownsRow B 5 1 v' (n + 1) ((xs ++ [b]).map Cd.by8) ∧ w.grownBy w' (Value.slice ao n cap).ownBlock := by
  obtain ⟨i0, hi0, hz0, hz1, hz2⟩ := info_parts info5
  obtain ⟨v', w', hr, h1, h2, _, _⟩ := run_append_own_at (P := Tryz.prog) w B 37 ty 5 i0 (.int .u8 0) 1 1 und34 hi0 hz0 hz1 hz2 rfl (by decide) (.slice ao n cap) n (xs.map Cd.by8) h ad 1 c [Cd.by8 b] rfl (by
    intro j u hj
    obtain ⟨e1, e2⟩ := List.getElem?_eq_some_iff.1 hj
    simp at e1 e2
    subst e1
    rw [← e2, show ad.add 0 = ad by unfold Addr.add; simp]
    exact hc) (by simp [Cd.by8, Value.oneCell']) (by unfold maxLen; omega) (by omega) hB
  exact ⟨v', w', hr, by simpa using h1, h2⟩

set_option maxRecDepth 10000 in
set_option maxHeartbeats 2000000 in
theorem encode_any (w : World) (ao : Option Addr) (n cap : Nat) (xs : List UInt8) (h : Cd.Row w ao n cap xs) (N : Nat) (hN : N < 18446744073709551616) (p : Int) (hf : formV N p = true) (hr : n + 11 ≤ 140737488355328) :
    Calls Tryz.prog 96 #[.slice ao n cap, vid N p] w fun e w' => ∃ v, e = .returned (.tuple #[v, .int .i64 0]) ∧ w'.ownsRow w.heap.size 5 1 v (n + (Cd.enc N).length + 1) ((xs ++ Cd.enc N ++ [pb p]).map Cd.by8) ∧ Below w.heap.size w w' := by
  have hform := fun W => formB_any W N p
  rw [hf] at hform
  have hp : 0 ≤ p ∧ p ≤ 15 := by
    unfold formV at hf
    simp only [Bool.and_eq_true, decide_eq_true_eq] at hf
    by_cases h0 : N = 0
    · rw [if_pos h0] at hf; omega
    · rw [if_neg h0] at hf; exact hf
  obtain ⟨hp0, hp15⟩ := hp
  have hpb := pb_num p hp0 hp15
  have hel := Cd.enc_length N
  have HROW : Hid (Cd.Row w ao n cap xs) := h
  clear h hf
  unfold vid at *
  go_enter Tryz.func96, Tryz.ntmps96
  go_wp2_with fail
  refine (hform _).mono ?_
  rintro e w1 ⟨rfl, hb1⟩
  have bl1 : Below w.heap.size w w1 := ((Below.refl _ _).alloc (Nat.le_refl _) _).trans (hb1.mono (by simp))
  have c0 : w1.cell? ⟨w.heap.size, 0, none⟩ = some (.int .u64 (N : Nat)) := (hb1.cell (by simp)).trans (cell_box w _ 33 0 _ rfl)
  have c1 : w1.cell? ⟨w.heap.size, 1, none⟩ = some (.int .i64 p) := (hb1.cell (by simp)).trans (cell_box w _ 33 1 _ rfl)
  have row1 : Cd.Row w1.drew ao n cap xs := HROW.out.below (w' := w1.drew) ⟨bl1.os, bl1.tape, bl1.output, bl1.size, bl1.block⟩ (Nat.le_refl _)
  have bl2 : Below w.heap.size w w1.drew := ⟨bl1.os, bl1.tape, bl1.output, bl1.size, bl1.block⟩
  have hwr : IntKind.u8.wrap p = p := IntWalk.u8_in _ (by omega)
  clear hb1 bl1 hform HROW
  obtain ⟨L, HL⟩ : ∃ L, Hid (n + (Cd.enc N).length = L) := ⟨_, rfl⟩
  have hLe : L + 1 ≤ 140737488355328 := by have := HL.out; omega
  have hwl : w.heap.size < w1.heap.size := World.block_lt_of_cell? w1 _ c0
  have fin : ∀ (W : World) (ao3 : Option Addr) (cap3 : Nat) (ad : Addr), W.ownsRow w1.heap.size 5 1 (.slice ao3 L cap3) L ((xs ++ Cd.enc N).map Cd.by8) → W.cell? ad = some (.int .u8 p) → (W.cell? ⟨w.heap.size, 0, none⟩ = some (.int .u64 (N : Nat)) ∧ W.cell? ⟨w.heap.size, 1, none⟩ = some (.int .i64 p)) → Below w.heap.size w W → w1.heap.size ≤ W.heap.size →
      ∃ v' w', (Builtin.append_ #[37, 37] 37 #[.slice ao3 L cap3, .slice (some ad) 1 1]).run Tryz.prog W = .ok v' w' ∧ (w'.cell? ⟨w.heap.size, 0, none⟩ = some (.int .u64 (N : Nat)) ∧ w'.cell? ⟨w.heap.size, 1, none⟩ = some (.int .i64 p)) ∧ Hid (w'.ownsRow w.heap.size 5 1 v' (n + (Cd.enc N).length + 1) ((xs ++ Cd.enc N ++ [pb p]).map Cd.by8) ∧ Below w.heap.size w w') := by
    intro W ao3 cap3 ad h1 h2 h3 h4 h5
    rw [← hpb] at h2
    obtain ⟨v', w', hrun, ho, hg⟩ := append_byte (ty := 37) (c := 1) h1 h5 hLe h2
    have hne : ∀ b, (Value.slice ao3 L cap3).ownBlock = some b → w1.heap.size ≤ b := fun b hb => (h1.lt b hb).1
    refine ⟨v', w', hrun, ⟨hg.cell h3.1 (fun e => by have := hne _ e.symm; simp at this; omega), hg.cell h3.2 (fun e => by have := hne _ e.symm; simp at this; omega)⟩, ?_, ?_⟩
    · rw [HL.out]; exact Cd.owns_mono ho (by omega)
    · exact bl_grown h4 (by omega) hg (fun b hb => by have := hne b hb; omega)
  go_wp2_with fail
  refine wp_region_noPanic ?_
  refine wp_region_held_drew (S := fun wx => wx.cell? ⟨w.heap.size, 0, none⟩ = some (.int .u64 (N : Nat)) ∧ wx.cell? ⟨w.heap.size, 1, none⟩ = some (.int .i64 p)) (by kernel_rfl) ⟨c0, c1⟩ (fun hHeld => ?_)
  refine take_first 0 (v := ?_) rfl (by kernel_rfl) (by kernel_rfl) (by kernel_rfl) (fun _ _ _ h => h) (Or.inl ⟨by rfl, by intro wx hSw; obtain ⟨hSw1, hSw2⟩ := hSw; go_simp; try with_reducible rfl⟩) (by assumption) ?_
  (try simp only [Act.put, List.setIfInBounds_toArray, List.set_cons_zero, List.set_cons_succ])
  refine take_first 1 (v := ?_) rfl (by kernel_rfl) (by kernel_rfl) (by kernel_rfl) (fun _ _ _ h => h) (Or.inl ⟨by rfl, by intro wx hSw; obtain ⟨hSw1, hSw2⟩ := hSw; go_simp; try with_reducible rfl⟩) (by assumption) ?_
  (try simp only [Act.put, List.setIfInBounds_toArray, List.set_cons_zero, List.set_cons_succ])
  refine take_first 2 (v := ?_) rfl (by kernel_rfl) (by kernel_rfl) (by kernel_rfl) (fun _ _ _ h => h) (Or.inl ⟨by rfl, by intro wx hSw; obtain ⟨hSw1, hSw2⟩ := hSw; go_simp; try with_reducible rfl⟩) (by assumption) ?_
  (try simp only [Act.put, List.setIfInBounds_toArray, List.set_cons_zero, List.set_cons_succ])
  refine take_first 4 (v := ?_) rfl (by kernel_rfl) (by kernel_rfl) (by kernel_rfl) (fun _ _ _ h => h) (Or.inl ⟨by rfl, by intro wx hSw; obtain ⟨hSw1, hSw2⟩ := hSw; go_simp; try with_reducible rfl⟩) (by assumption) ?_
  (try simp only [Act.put, List.setIfInBounds_toArray, List.set_cons_zero, List.set_cons_succ])
  refine take_first 5 (v := ?_) rfl (by kernel_rfl) (by kernel_rfl) (by kernel_rfl) (fun _ _ _ h => h) (Or.inl ⟨by rfl, by intro wx hSw; obtain ⟨hSw1, hSw2⟩ := hSw; go_simp; try with_reducible rfl⟩) (by assumption) ?_
  (try simp only [Act.put, List.setIfInBounds_toArray, List.set_cons_zero, List.set_cons_succ])
  refine take_first 6 (v := .int .u8 p) rfl (by kernel_rfl) (by kernel_rfl) (by kernel_rfl) (fun _ _ _ h => h) (Or.inl ⟨by rfl, by intro wx hSw; obtain ⟨hSw1, hSw2⟩ := hSw; go_simp; try with_reducible rfl⟩) (by assumption) ?_
  (try simp only [Act.put, List.setIfInBounds_toArray, List.set_cons_zero, List.set_cons_succ])
  refine comes_up2 3 7 rfl rfl (by kernel_rfl) (fun K hK => ?_) (fun K hK => ?_)
  · go_simp
    refine (Cd.uint_any _ ao n cap xs row1 N hN (by omega)).mono ?_
    rintro e w3 ⟨v3, rfl, hown3, hb3⟩
    rw [HL.out] at hown3
    obtain ⟨ao3, cap3, hv3⟩ := row_shape hown3
    subst hv3
    have hs3 := hb3.size
    have d0 : w3.cell? ⟨w.heap.size, 0, none⟩ = some (.int .u64 (N : Nat)) := (hb3.cell (p := ⟨w.heap.size, 0, none⟩) hwl).trans c0
    have d1 : w3.cell? ⟨w.heap.size, 1, none⟩ = some (.int .i64 p) := (hb3.cell (p := ⟨w.heap.size, 1, none⟩) hwl).trans c1
    have bl3 := bl_step bl2 hb3
    obtain ⟨v5, w5, hrun, hS5, HE⟩ := fin (w3.alloc (.cells #[.int .u8 p] 5)) ao3 cap3 ⟨w3.heap.size, 0, none⟩ (hown3.alloc _) (cell_box w3 _ 5 0 _ rfl)
      ⟨(((Below.refl _ w3).alloc (Nat.le_refl _) _).cell (World.block_lt_of_cell? w3 _ d0)).trans d0, (((Below.refl _ w3).alloc (Nat.le_refl _) _).cell (World.block_lt_of_cell? w3 _ d1)).trans d1⟩ (bl3.alloc bl3.size _) (by simp; exact Nat.le_succ_of_le hs3)
    have hS4 : (w3.alloc (.cells #[.int .u8 p] 5)).cell? ⟨w.heap.size, 0, none⟩ = some (.int .u64 (N : Nat)) ∧ (w3.alloc (.cells #[.int .u8 p] 5)).cell? ⟨w.heap.size, 1, none⟩ = some (.int .i64 p) :=
      ⟨(((Below.refl _ w3).alloc (Nat.le_refl _) _).cell (World.block_lt_of_cell? w3 _ d0)).trans d0, (((Below.refl _ w3).alloc (Nat.le_refl _) _).cell (World.block_lt_of_cell? w3 _ d1)).trans d1⟩
    clear fin hown3 hb3 bl2 row1 c0 c1
    go_wp2_with fail
    refine hK.out _ _ ⟨d0, d1⟩ (fun hHeld => ?_)
    clear hK K
    (try simp only [Act.put, List.setIfInBounds_toArray, List.set_cons_zero, List.set_cons_succ])
    refine comes_up 7 rfl (by kernel_rfl) (fun K hK => ?_)
    go_simp
    refine hK.out _ _ hS4 (fun hHeld => ?_)
    clear hK K
    (try simp only [Act.put, List.setIfInBounds_toArray, List.set_cons_zero, List.set_cons_succ])
    refine comes_up 8 rfl (by kernel_rfl) (fun K hK => ?_)
    refine step_append_run rfl (.tmp 12) (.tmp 16) 37 rfl (.slice ao3 L cap3) (.slice (some ⟨w3.heap.size, 0, none⟩) 1 1) v5 w5 (by simp [Act.eval]) (by simp [Act.eval]) hrun ?_
    refine hK.out _ _ hS5 (fun hHeld => ?_)
    clear hK K
    (try simp only [Act.put, List.setIfInBounds_toArray, List.set_cons_zero, List.set_cons_succ])
    refine take_first 9 (v := ?_) rfl (by kernel_rfl) (by kernel_rfl) (by kernel_rfl) (fun _ _ _ h => h) (Or.inl ⟨by rfl, by intro wx hSw; obtain ⟨hSw1, hSw2⟩ := hSw; go_simp; try with_reducible rfl⟩) (by assumption) ?_
    (try simp only [Act.put, List.setIfInBounds_toArray, List.set_cons_zero, List.set_cons_succ])
    refine take_first 10 (v := ?_) rfl (by kernel_rfl) (by kernel_rfl) (by kernel_rfl) (fun _ _ _ h => h) (Or.inl ⟨by rfl, by intro wx hSw; obtain ⟨hSw1, hSw2⟩ := hSw; go_simp; try with_reducible rfl⟩) (by assumption) ?_
    (try simp only [Act.put, List.setIfInBounds_toArray, List.set_cons_zero, List.set_cons_succ])
    refine wpAnyH_done (by kernel_rfl) ?_ _
    refine NoPanic.normal ?_
    go_wp2
    go_ret2
    exact ⟨v5, rfl, HE.out⟩
  · go_simp
    have hS4 : (w1.alloc (.cells #[.int .u8 p] 5)).drew.cell? ⟨w.heap.size, 0, none⟩ = some (.int .u64 (N : Nat)) ∧ (w1.alloc (.cells #[.int .u8 p] 5)).drew.cell? ⟨w.heap.size, 1, none⟩ = some (.int .i64 p) :=
      ⟨(((Below.refl _ w1).alloc (Nat.le_refl _) (.cells #[.int .u8 p] 5)).cell (World.block_lt_of_cell? w1 _ c0)).trans c0, (((Below.refl _ w1).alloc (Nat.le_refl _) (.cells #[.int .u8 p] 5)).cell (World.block_lt_of_cell? w1 _ c1)).trans c1⟩
    have blA : Below w.heap.size w (w1.alloc (.cells #[.int .u8 p] 5)).drew := by
      have := bl2.alloc (o := .cells #[.int .u8 p] 5) bl2.size
      exact ⟨this.os, this.tape, this.output, this.size, this.block⟩
    have row2 : Cd.Row (w1.alloc (.cells #[.int .u8 p] 5)).drew ao n cap xs := row1.below (B := w1.heap.size) (w' := (w1.alloc (.cells #[.int .u8 p] 5)).drew) ⟨rfl, rfl, rfl, by simp, fun k hk => Below.heap_alloc w1 _ k hk⟩ (Nat.le_refl _)
    have hbox := cell_box w1 #[.int .u8 p] 5 0 _ rfl
    refine hK.out _ _ hS4 (fun hHeld => ?_)
    clear hK K
    (try simp only [Act.put, List.setIfInBounds_toArray, List.set_cons_zero, List.set_cons_succ])
    refine comes_up 3 rfl (by kernel_rfl) (fun K hK => ?_)
    go_simp
    refine (Cd.uint_any _ ao n cap xs row2 N hN (by omega)).mono ?_
    rintro e w3 ⟨v3, rfl, hown3, hb3⟩
    rw [HL.out] at hown3
    obtain ⟨ao3, cap3, hv3⟩ := row_shape hown3
    subst hv3
    have hs3 := hb3.size
    have hsz : w1.heap.size + 1 ≤ w3.heap.size := by simpa using hs3
    have d0 : w3.cell? ⟨w.heap.size, 0, none⟩ = some (.int .u64 (N : Nat)) := (hb3.cell (World.block_lt_of_cell? _ _ hS4.1)).trans hS4.1
    have d1 : w3.cell? ⟨w.heap.size, 1, none⟩ = some (.int .i64 p) := (hb3.cell (World.block_lt_of_cell? _ _ hS4.2)).trans hS4.2
    have dx : w3.cell? ⟨w1.heap.size, 0, none⟩ = some (.int .u8 p) := (hb3.cell (p := ⟨w1.heap.size, 0, none⟩) (by simp)).trans hbox
    have bl3 := bl_step blA hb3
    obtain ⟨v5, w5, hrun, hS5, HE⟩ := fin w3 ao3 cap3 ⟨w1.heap.size, 0, none⟩ (Cd.owns_mono hown3 (by simp)) dx ⟨d0, d1⟩ bl3 (by omega)
    clear fin hown3 hb3 bl2 row1 row2 c0 c1 hS4 blA
    go_wp2_with fail
    refine hK.out _ _ ⟨d0, d1⟩ (fun hHeld => ?_)
    clear hK K
    (try simp only [Act.put, List.setIfInBounds_toArray, List.set_cons_zero, List.set_cons_succ])
    refine comes_up 8 rfl (by kernel_rfl) (fun K hK => ?_)
    refine step_append_run rfl (.tmp 12) (.tmp 16) 37 rfl (.slice ao3 L cap3) (.slice (some ⟨w1.heap.size, 0, none⟩) 1 1) v5 w5 (by simp [Act.eval]) (by simp [Act.eval]) hrun ?_
    refine hK.out _ _ hS5 (fun hHeld => ?_)
    clear hK K
    (try simp only [Act.put, List.setIfInBounds_toArray, List.set_cons_zero, List.set_cons_succ])
    refine take_first 9 (v := ?_) rfl (by kernel_rfl) (by kernel_rfl) (by kernel_rfl) (fun _ _ _ h => h) (Or.inl ⟨by rfl, by intro wx hSw; obtain ⟨hSw1, hSw2⟩ := hSw; go_simp; try with_reducible rfl⟩) (by assumption) ?_
    (try simp only [Act.put, List.setIfInBounds_toArray, List.set_cons_zero, List.set_cons_succ])
    refine take_first 10 (v := ?_) rfl (by kernel_rfl) (by kernel_rfl) (by kernel_rfl) (fun _ _ _ h => h) (Or.inl ⟨by rfl, by intro wx hSw; obtain ⟨hSw1, hSw2⟩ := hSw; go_simp; try with_reducible rfl⟩) (by assumption) ?_
    (try simp only [Act.put, List.setIfInBounds_toArray, List.set_cons_zero, List.set_cons_succ])
    refine wpAnyH_done (by kernel_rfl) ?_ _
    refine NoPanic.normal ?_
    go_wp2
    go_ret2
    exact ⟨v5, rfl, HE.out⟩
end Go.Proofs.YtlaihgdfedalmaaGreat
namespace Go.Proofs.YtlaihgdfedalmaaGreat
open Go.RowKit
set_option linter.unusedVariables false

/-- The next view's number of what is left, and what is left behind it. -/
def decV (st : Option (List UInt8)) : (Nat × Nat) × Option (List UInt8) :=
  match (Cd.rInt (Cd.rUint st).2 (if (Cd.rUint st).1 = 0 then 0 else 15)).2 with
  | none => ((0, 0), none)
  | some ys => (((Cd.rUint st).1, (Cd.rInt (Cd.rUint st).2 (if (Cd.rUint st).1 = 0 then 0 else 15)).1), some ys)

theorem rd_alloc {w : World} {r : Nat} {st : Option (List UInt8)} (h : Cd.Rd w r st) (o : Obj) : Cd.Rd (w.alloc o) r st := Cd.rd_below h ((Below.refl _ _).alloc (Nat.le_refl _) _)
/-- Bytes and a reader, while a cell is written that is no byte and no reader's. -/
theorem row_set {w : World} {ao : Option Addr} {n cap : Nat} {xs : List UInt8} (h : Cd.Row w ao n cap xs) {a : Addr} {v0 : Value} (u : Value) (hc : w.cell? a = some v0) (hv : ∀ k, v0 ≠ .int .u8 k) : Cd.Row (w.setCell a u) ao n cap xs := by
  obtain ⟨h1, h2, h3, h4, h5⟩ := h
  refine ⟨h1, h2, h3, h4, fun b hb i hi => ?_⟩
  rw [World.cell?_setCell_other]
  · exact h5 b hb i hi
  · intro e
    have := h5 b hb i hi
    rw [← e, hc] at this
    exact hv _ (Option.some.inj this)
theorem rd_set {w : World} {r B j : Nat} {st : Option (List UInt8)} (h : Cd.Rd w r st) (hb : r ≠ B) {v0 : Value} (u : Value) (hc : w.cell? ⟨B, j, none⟩ = some v0) (hv : ∀ k, v0 ≠ .int .u8 k) : Cd.Rd (w.setCell ⟨B, j, none⟩ u) r st := by
  have he : (w.setCell ⟨B, j, none⟩ u).heap[r]? = w.heap[r]? := Below.heap_setCell _ _ _ _ hb
  cases st with
  | none => exact he.trans h
  | some xs =>
    obtain ⟨ao, n, cap, h1, h2⟩ := h
    exact ⟨ao, n, cap, he.trans h1, row_set h2.1 u hc hv, h2.2⟩
theorem grown_set {w w' : World} {r B j : Nat} (h : w.grownBy w' (some r)) (hB : w.heap.size ≤ B) (u : Value) : w.grownBy (w'.setCell ⟨B, j, none⟩ u) (some r) :=
  ⟨h.os, h.tape, h.output, by simpa [World.setCell] using h.size, fun k hk hne => (Below.heap_setCell _ _ _ _ (by show k ≠ B; omega)).trans (h.block k hk hne)⟩
theorem grown_alloc {w w' : World} {r : Nat} {o : Obj} (h : (w.alloc o).grownBy w' (some r)) : w.grownBy w' (some r) :=
  ⟨h.os, h.tape, h.output, by have := h.size; simp at this; omega, fun k hk hne => (h.block k (by simp; omega) hne).trans (Below.heap_alloc w o k hk)⟩
theorem set_cell {w : World} {b o : Nat} {v u : Value} (h : w.cell? ⟨b, o, none⟩ = some v) : (w.setCell ⟨b, o, none⟩ u).cell? ⟨b, o, none⟩ = some u := World.cell?_setCell_same _ _ _ h
theorem set_cell_other {w : World} {b o b' o' : Nat} {u : Value} (h : ¬ (b' = b ∧ o' = o)) : (w.setCell ⟨b, o, none⟩ u).cell? ⟨b', o', none⟩ = w.cell? ⟨b', o', none⟩ :=
  World.cell?_setCell_other _ _ _ _ (by intro e; simp only [Addr.mk.injEq] at e; omega)

set_option maxRecDepth 10000 in
set_option maxHeartbeats 1000000 in
theorem decode_rd (w : World) (r : Nat) (st : Option (List UInt8)) (h : Cd.Rd w r st) :
    Calls Tryz.prog 159 #[.pointer (some ⟨r, 0, none⟩)] w fun e w' => e = .returned (.tuple #[vid (decV st).1.1 ((decV st).1.2 : Nat), .bool (decV st).2.isSome]) ∧ Cd.Rd w' r (decV st).2 ∧ w.grownBy w' (some r) := by
  have hrl := h.lt
  have h1 := rd_alloc h (.cells #[.int .u64 0, .int .i64 0] 33)
  have hu := Cd.uint_rd _ r st h1
  have hlt := Cd.rUint_lt st
  have hgr := fun W => great_any W (Cd.rUint st).1
  have hint := fun W (hW : Cd.Rd W r (Cd.rUint st).2) => Cd.int_rd W r (Cd.rUint st).2 hW (if (Cd.rUint st).1 = 0 then 0 else 15) (by split <;> omega) (by split <;> omega)
  have HD : Hid (decV st = match (Cd.rInt (Cd.rUint st).2 (if (Cd.rUint st).1 = 0 then 0 else 15)).2 with
    | none => ((0, 0), none)
    | some ys => (((Cd.rUint st).1, (Cd.rInt (Cd.rUint st).2 (if (Cd.rUint st).1 = 0 then 0 else 15)).1), some ys)) := rfl
  generalize (Cd.rUint st).1 = N at *
  generalize (Cd.rUint st).2 = st1 at *
  generalize (if N = 0 then (0 : Int) else 15) = mx at *
  generalize Cd.rInt st1 mx = ri at *
  obtain ⟨P, st2⟩ := ri
  simp only at HD hint
  unfold vid
  rw [HD.out]
  clear HD
  go_enter Tryz.func159, Tryz.ntmps159
  go_wp2_with fail
  refine hu.mono ?_
  rintro e w1 ⟨rfl, rd1, g1⟩
  go_wp2_with fail
  refine (hgr _).mono ?_
  rintro e w2 ⟨rfl, rfl⟩
  go_wp2_with fail
  refine (hint _ rd1).mono ?_
  rintro e w2 ⟨rfl, rd2, g2⟩
  have b0 := cell_box w #[Value.int .u64 0, .int .i64 0] 33 0 _ rfl
  have b1 := cell_box w #[Value.int .u64 0, .int .i64 0] 33 1 _ rfl
  have b0' := g2.cell (g1.cell b0 (by simp; omega)) (by simp; omega)
  have b1' := g2.cell (g1.cell b1 (by simp; omega)) (by simp; omega)
  clear hu hgr hint h1 rd1 b0 b1
  go_wp2_with fail
  refine (Cd.bad_rd _ _ _ rd2).mono ?_
  rintro e w3 ⟨rfl, rfl⟩
  have g3 := grown_alloc (Cd.grown_trans g1 g2)
  have f0 : w2.frozen? ⟨w.heap.size, 0, none⟩ = false := by
    rw [World.frozen?_of_block (w := w.alloc (.cells #[Value.int .u64 0, .int .i64 0] 33)) ((Cd.grown_trans g1 g2).block _ (by simp) (by simp; omega))]
    unfold World.frozen?; rw [show (w.alloc (.cells #[Value.int .u64 0, .int .i64 0] 33)).heap[w.heap.size]? = some (.cells #[Value.int .u64 0, .int .i64 0] 33 (0, 0)) from heap_alloc_new _ _]; simp
  have f1 : w2.frozen? ⟨w.heap.size, 1, none⟩ = false := by
    rw [World.frozen?_of_block (w := w.alloc (.cells #[Value.int .u64 0, .int .i64 0] 33)) ((Cd.grown_trans g1 g2).block _ (by simp) (by simp; omega))]
    unfold World.frozen?; rw [show (w.alloc (.cells #[Value.int .u64 0, .int .i64 0] 33)).heap[w.heap.size]? = some (.cells #[Value.int .u64 0, .int .i64 0] 33 (0, 0)) from heap_alloc_new _ _]; simp
  have fin : ∀ (x y : Nat), ((w2.setCell ⟨w.heap.size, 0, none⟩ (.int .u64 (x : Nat))).setCell ⟨w.heap.size, 1, none⟩ (.int .i64 (y : Nat))).cell? ⟨w.heap.size, 0, none⟩ = some (.int .u64 (x : Nat)) ∧
      ((w2.setCell ⟨w.heap.size, 0, none⟩ (.int .u64 (x : Nat))).setCell ⟨w.heap.size, 1, none⟩ (.int .i64 (y : Nat))).cell? ⟨w.heap.size, 1, none⟩ = some (.int .i64 (y : Nat)) ∧
      Hid (Cd.Rd ((w2.setCell ⟨w.heap.size, 0, none⟩ (.int .u64 (x : Nat))).setCell ⟨w.heap.size, 1, none⟩ (.int .i64 (y : Nat))) r st2 ∧ w.grownBy ((w2.setCell ⟨w.heap.size, 0, none⟩ (.int .u64 (x : Nat))).setCell ⟨w.heap.size, 1, none⟩ (.int .i64 (y : Nat))) (some r)) := by
    intro x y
    have e1 : (w2.setCell ⟨w.heap.size, 0, none⟩ (.int .u64 (x : Nat))).cell? ⟨w.heap.size, 1, none⟩ = some (.int .i64 0) := by rw [set_cell_other (by omega)]; exact b1'
    refine ⟨?_, set_cell e1, ?_, grown_set (grown_set g3 (Nat.le_refl _) _) (Nat.le_refl _) _⟩
    · rw [set_cell_other (by omega)]; exact set_cell b0'
    · exact rd_set (rd_set rd2 (by omega) _ b0' (by simp)) (by omega) _ e1 (by simp)
  clear g1 g2 g3 h
  cases st2 with
  | none =>
    obtain ⟨e0, e1, HE⟩ := fin 0 0
    have k0 : (w2.setCell ⟨w.heap.size, 0, none⟩ (.int .u64 0)).cell? ⟨w.heap.size, 0, none⟩ = some (.int .u64 0) := set_cell b0'
    have k1 : ((w2.setCell ⟨w.heap.size, 0, none⟩ (.int .u64 0)).setCell ⟨w.heap.size, 1, none⟩ (.int .i64 0)).cell? ⟨w.heap.size, 1, none⟩ = some (.int .i64 0) := e1
    clear fin rd2 e0 e1
    go_wp2
    exact bodyPost_ret (v := .tuple #[.agg #[.int .u64 0, .int .i64 0], .bool false]) (by simp [results, Tryz.results159, go_sem, k0, k1]) rfl ⟨rfl, HE.out⟩
  | some ys =>
    obtain ⟨e0, e1, HE⟩ := fin N P
    clear fin rd2
    go_wp2
    exact bodyPost_ret (v := .tuple #[.agg #[.int .u64 (N : Nat), .int .i64 (P : Nat)], .bool true]) (by simp [results, Tryz.results159, go_sem, e0, e1]) rfl ⟨rfl, HE.out⟩
end Go.Proofs.YtlaihgdfedalmaaGreat
namespace Go.Proofs.YtlaihgdfedalmaaGreat
open Go.RowKit
set_option linter.unusedVariables false

end Go.Proofs.YtlaihgdfedalmaaGreat
namespace Go.Proofs.YtlaihgdfedalmaaGreat
open Go.RowKit
set_option linter.unusedVariables false

/-- The document's reader and its bytes, behind a world. -/
def Gd (w W : World) (m : Nat) (ao : Option Addr) (n cap : Nat) (xs : List UInt8) (o : Option Nat) : Prop := Cd.RR W m ao n cap o ∧ Cd.Row W ao n cap xs ∧ w.grownBy W (some m) ∧ m < w.heap.size
section
variable {w W W' : World} {m : Nat} {ao : Option Addr} {n cap : Nat} {xs : List UInt8} {o o' : Option Nat}
theorem Gd.below (h : Gd w W m ao n cap xs o) (hb : Below W.heap.size W W') : Gd w W' m ao n cap xs o :=
  ⟨h.1.below hb, h.2.1.below hb (Nat.le_refl _), Cd.grown_trans h.2.2.1 (Cd.grown_of_below hb _), h.2.2.2⟩
theorem Gd.alloc (h : Gd w W m ao n cap xs o) (x : Obj) : Gd w (W.alloc x) m ao n cap xs o := h.below ((Below.refl _ _).alloc (Nat.le_refl _) _)
theorem Gd.step (h : Gd w W m ao n cap xs o) (hr : Cd.RR W' m ao n cap o') (g : W.grownBy W' (some m)) : Gd w W' m ao n cap xs o' :=
  ⟨hr, Cd.row_RR h.2.1 h.1 g, Cd.grown_trans h.2.2.1 g, h.2.2.2⟩
theorem Gd.set (h : Gd w W m ao n cap xs o) {B j : Nat} {v0 : Value} (u : Value) (hB : w.heap.size ≤ B) (hc : W.cell? ⟨B, j, none⟩ = some v0) (hv : ∀ k, v0 ≠ .int .u8 k) : Gd w (W.setCell ⟨B, j, none⟩ u) m ao n cap xs o := by
  have hm := h.2.2.2
  refine ⟨?_, row_set h.2.1 u hc hv, grown_set h.2.2.1 hB u, h.2.2.2⟩
  unfold Cd.RR
  rw [Below.heap_setCell _ _ _ _ (by show m ≠ B; omega)]
  exact h.1
theorem Gd.fault (h : Gd w W m ao n cap xs o) : Gd w (W.setCell ⟨m, 1, none⟩ (.int .i64 (-1))) m ao n cap xs none :=
  ⟨h.1.set none, row_set h.2.1 _ h.1.cells.2.1 (by simp), ⟨h.2.2.1.os, h.2.2.1.tape, h.2.2.1.output, by simpa [World.setCell] using h.2.2.1.size, fun k hk hne => (Below.heap_setCell _ _ _ _ (fun e => hne (by rw [e]))).trans (h.2.2.1.block k hk hne)⟩, h.2.2.2⟩
end

end Go.Proofs.YtlaihgdfedalmaaGreat
namespace Go.Proofs.YtlaihgdfedalmaaGreat
open Go.RowKit
set_option linter.unusedVariables false

/-- A label's bytes. -/
def encL (x : Lb) : List UInt8 := Cd.enc x.1 ++ [pb x.2.1] ++ Cd.enc x.2.2.1 ++ [pb x.2.2.2]
theorem formL_parts {x : Lb} (h : formL x = true) : formV x.1 x.2.1 = true ∧ 0 < x.1 ∧ 0 < x.2.2.1 ∧ 0 ≤ x.2.2.2 ∧ x.2.2.2 ≤ 15 := by
  unfold formL at h
  simp only [Bool.and_eq_true, decide_eq_true_eq] at h
  exact ⟨h.1.1.1.1, h.1.1.1.2, h.1.1.2, h.1.2, h.2⟩
theorem formV_p {n : Nat} {p : Int} (h : formV n p = true) : 0 ≤ p ∧ p ≤ 15 := by
  unfold formV at h
  simp only [Bool.and_eq_true, decide_eq_true_eq] at h
  by_cases h0 : n = 0
  · rw [if_pos h0] at h; omega
  · rw [if_neg h0] at h; exact h

/-- Any bytes behind a row of bytes of one's own. -/
theorem wpList_append_bytes {w : World} {ops : Array Oper} {rest : List Oper} {o : Oper} {a : Act} {Q : Exit → Act → World → Prop} (hgd : o.guard = none) (s x : Operand)
    (ho : o.op = .call { callee := .builtin .append, args := #[s, x], argTypes := #[37, 37] }) (base : Nat)
    (v : Value) (n : Nat) (xs : List UInt8) (hs : a.eval s = v) (hown : w.ownsRow base 5 1 v n (xs.map Cd.by8))
    (ad : Addr) (m c : Nat) (ys : List UInt8) (hx : a.eval x = .slice (some ad) m c) (hl : ys.length = m) (hc : ∀ j u, (ys.map Cd.by8)[j]? = some u → w.cell? (ad.add j) = some u)
    (hnm : n + m ≤ 140737488355328) (hbase : base ≤ w.heap.size)
    (h : ∀ v' w', w'.ownsRow base 5 1 v' (n + m) ((xs ++ ys).map Cd.by8) → w.grownBy w' v.ownBlock → wpList Tryz.prog ops Q rest (a.put o.dst v') w') :
    wpList Tryz.prog ops Q (o :: rest) a w := by
  obtain ⟨i0, hi0, hz0, hz1, hz2⟩ := info_parts info5
  refine wpList_append_own_at _ hgd s x 37 ho base 5 i0 (.int .u8 0) 1 1 und34 hi0 hz0 hz1 hz2 rfl (by decide) v n (xs.map Cd.by8) hs hown ad m c (ys.map Cd.by8) hx (by simpa using hl) hc (fun u hu => ?_) (by unfold maxLen; omega) (by omega) hbase (fun v' w' a b _ _ => h v' w' (by simpa using a) b)
  obtain ⟨b, _, rfl⟩ := List.mem_map.1 hu
  rfl
theorem enc_pos (N : Nat) : 0 < (Cd.enc N).length := by
  unfold Cd.enc Cd.encF
  split <;> simp
theorem row_some {w : World} {B n : Nat} {v : Value} {xs : List Value} (h : w.ownsRow B 5 1 v n xs) (hn : 0 < n) : ∃ g cap, v = .slice (some ⟨g, 0, none⟩) n cap ∧ B ≤ g := by
  rcases h.2 with ⟨_, h1⟩ | ⟨g, cap, cur, rfl, hB, _⟩
  · omega
  · exact ⟨g, cap, rfl, hB⟩
theorem own_bytes_below {w w' : World} {B n : Nat} {v : Value} {xs : List Value} (h : w.ownsRow B 5 1 v n xs) (u : Below w.heap.size w w') : w'.ownsRow B 5 1 v n xs := by
  refine h.kept (row := none) ⟨u.os, u.tape, u.output, u.size, fun i hi _ => u.block i hi⟩ ?_
  cases v.ownBlock with
  | none => exact Or.inl rfl
  | some g => exact Or.inr (by simp)

set_option maxRecDepth 10000 in
set_option maxHeartbeats 1000000 in
theorem encodeL_any (w : World) (ao : Option Addr) (n cap : Nat) (xs : List UInt8) (h : Cd.Row w ao n cap xs) (x : Lb) (hx : x.1 < 18446744073709551616) (hx2 : x.2.2.1 < 18446744073709551616) (hf : formL x = true) (hr : n + 30 ≤ 140737488355328) :
    Calls Tryz.prog 121 #[.slice ao n cap, lab x] w fun e w' => ∃ v, e = .returned (.tuple #[v, .int .i64 0]) ∧ w'.ownsRow w.heap.size 5 1 v (n + (encL x).length) ((xs ++ encL x).map Cd.by8) ∧ Below w.heap.size w w' := by
  obtain ⟨hv, _, _, hq0, hq15⟩ := formL_parts hf
  have hb0 : Below w.heap.size w (w.alloc (.cells #[.int .u64 (x.1 : Nat), .int .i64 x.2.1, .int .u64 (x.2.2.1 : Nat), .int .i64 x.2.2.2] 39)) := bl1 _ _
  have b0 := bx_new w x.1 x.2.1 x.2.2.1 x.2.2.2 39
  have hrow := h.below hb0 (Nat.le_refl _)
  have hform := fun W => formL_any W x
  rw [hf] at hform
  have he := encode_any (w.alloc (.cells #[.int .u64 (x.1 : Nat), .int .i64 x.2.1, .int .u64 (x.2.2.1 : Nat), .int .i64 x.2.2.2] 39)) ao n cap xs hrow x.1 hx x.2.1 hv (by omega)
  have hun := fun W => Cd.uint_any W none 0 0 [] ⟨rfl, Nat.le_refl _, by unfold maxLen; omega, fun _ => ⟨rfl, rfl⟩, fun a ha => by cases ha⟩ x.2.2.1 hx2 (by omega)
  have hpb := pb_num x.2.2.2 hq0 hq15
  have hwr : IntKind.u8.wrap x.2.2.2 = x.2.2.2 := IntWalk.u8_in _ (by omega)
  have hl1 := Cd.enc_length x.1
  have hl2 := Cd.enc_length x.2.2.1
  have hl3 := enc_pos x.2.2.1
  have HEL : Hid (xs ++ encL x = (xs ++ Cd.enc x.1 ++ [pb x.2.1]) ++ Cd.enc x.2.2.1 ++ [pb x.2.2.2] ∧ n + (encL x).length = n + (Cd.enc x.1).length + 1 + (Cd.enc x.2.2.1).length + 1) := by
    unfold encL
    refine ⟨by simp, by simp; omega⟩
  obtain ⟨E, HE0⟩ : ∃ E, Hid (Cd.enc x.2.2.1 = E) := ⟨_, rfl⟩
  obtain ⟨A, HA⟩ : ∃ A, Hid (xs ++ Cd.enc x.1 ++ [pb x.2.1] = A) := ⟨_, rfl⟩
  obtain ⟨L, HLL⟩ : ∃ L, Hid (n + (Cd.enc x.1).length + 1 = L) := ⟨_, rfl⟩
  have hLb : L + 19 ≤ 140737488355328 := by have := HLL.out; omega
  unfold vid at he
  rw [HA.out, HLL.out] at he
  simp only [Nat.zero_add, List.nil_append] at hun
  rw [HE0.out] at hun hl2 hl3
  unfold lab at *
  clear hrow h hv hl1
  go_enter Tryz.func121, Tryz.ntmps121
  go_wp2_with fail
  refine he.mono ?_
  rintro e w1 ⟨v1, rfl, hown1, hb1⟩
  have hbb := bl_step hb0 hb1
  have d := (show Bx w.heap.size x.1 x.2.1 x.2.2.1 x.2.2.2 w1 from ⟨(hb1.cell (World.block_lt_of_cell? _ _ b0.1)).trans b0.1, (hb1.cell (World.block_lt_of_cell? _ _ b0.2.1)).trans b0.2.1, (hb1.cell (World.block_lt_of_cell? _ _ b0.2.2.1)).trans b0.2.2.1, (hb1.cell (World.block_lt_of_cell? _ _ b0.2.2.2)).trans b0.2.2.2⟩)
  obtain ⟨d0, d1, d2, d3⟩ := d
  have hsb := hb0.size
  have HO1 : Hid (w1.ownsRow (w.heap.size + 1) 5 1 v1 L (A.map Cd.by8)) := Cd.owns_mono hown1 (by simp)
  obtain ⟨ao1, cp1, hv1⟩ := row_shape hown1
  subst hv1
  clear he hb1 hb0 b0 hown1
  go_wp2_with fail
  refine (hform _).mono ?_
  rintro e w2 ⟨rfl, hu2⟩
  have hbb2 := bl_step hbb hu2.bl
  have HO2 : Hid (w2.ownsRow (w.heap.size + 1) 5 1 (.slice ao1 L cp1) L (A.map Cd.by8)) := own_bytes_below HO1.out hu2.bl
  obtain ⟨d0, d1, d2, d3⟩ := (⟨hu2.cell d0, hu2.cell d1, hu2.cell d2, hu2.cell d3⟩ : _ ∧ _ ∧ _ ∧ _)
  clear hform hu2 hbb HO1
  go_wp2_with fail
  refine (hun _).mono ?_
  rintro e w3 ⟨v3, rfl, hown3, hb3⟩
  have hbb3 := bl_step hbb2 hb3
  have ho3 : w3.ownsRow (w.heap.size + 1) 5 1 (.slice ao1 L cp1) L (A.map Cd.by8) := own_bytes_below HO2.out hb3
  obtain ⟨g, cg, hv3, _⟩ := row_some hown3 (by omega)
  subst hv3
  have hcs := hown3.cells (g := g) rfl
  have hlt3 : ∀ k, (Value.slice ao1 L cp1).ownBlock = some k → w.heap.size + 1 ≤ k := fun k hk => (ho3.lt k hk).1
  obtain ⟨e0, e1, e2, e3⟩ := (⟨(hb3.cell (World.block_lt_of_cell? _ _ d0)).trans d0, (hb3.cell (World.block_lt_of_cell? _ _ d1)).trans d1, (hb3.cell (World.block_lt_of_cell? _ _ d2)).trans d2, (hb3.cell (World.block_lt_of_cell? _ _ d3)).trans d3⟩ : _ ∧ _ ∧ _ ∧ _)
  have hs3 : w.heap.size + 1 ≤ w3.heap.size := by have := World.block_lt_of_cell? w3 _ e0; simp at this; omega
  clear hun hown3 hb3 hbb2 HO2 d0 d1 d2 d3
  go_wp2_with (at_builtin; refine wpList_append_bytes rfl (.tmp 22) (.tmp 25) rfl (w.heap.size + 1) _ L A rfl ?d1 ⟨g, 0, none⟩ E.length cg E rfl rfl ?d2 ?d3 ?d4 ?_)
  case d1 => exact ho3
  case d2 => exact hcs
  case d3 => omega
  case d4 => exact hs3
  intro v4 w4 hown4 hg4
  have hbb4 : Below w.heap.size w w4 := bl_grown hbb3 hbb3.size hg4 (fun k hk => by have := hlt3 k hk; omega)
  have k3 := hg4.cell e3 (fun e => by have := hlt3 _ e.symm; simp at this; omega)
  have hs4 : w.heap.size + 1 ≤ w4.heap.size := by have := World.block_lt_of_cell? w4 _ k3; simp at this; omega
  obtain ⟨ao4, cp4, hv4⟩ := row_shape hown4
  subst hv4
  have hlt4 : ∀ k, (Value.slice ao4 (L + E.length) cp4).ownBlock = some k → w.heap.size + 1 ≤ k := fun k hk => (hown4.lt k hk).1
  obtain ⟨AE, HAE⟩ : ∃ AE, Hid (A ++ E = AE) := ⟨_, rfl⟩
  have hown4' : w4.ownsRow (w.heap.size + 1) 5 1 (.slice ao4 (L + E.length) cp4) (L + E.length) (AE.map Cd.by8) := by rw [← HAE.out]; simpa using hown4
  have ho4 := fun o => hown4'.alloc o
  have hone := cell_box w4 #[Value.int .u8 x.2.2.2] 5 0 _ rfl
  clear hg4 hcs ho3 hlt3 e0 e1 e2 e3 hbb3 hs3
  go_wp2_with (at_builtin; refine wpList_append_bytes rfl (.tmp 27) (.tmp 31) rfl (w.heap.size + 1) _ (L + E.length) AE rfl ?d1 ⟨w4.heap.size, 0, none⟩ 1 1 [pb x.2.2.2] rfl rfl ?d2 ?d3 ?d4 ?_)
  case d1 => exact ho4 _
  case d2 =>
    intro j u hj
    obtain rfl : j = 0 := by have := (List.getElem?_eq_some_iff.1 hj).1; simp at this; omega
    simp only [List.map_cons, List.map_nil, List.getElem?_cons_zero, Option.some.injEq] at hj
    subst hj
    rw [hpb]
    exact hone
  case d3 => omega
  case d4 => simp; omega
  intro v5 w5 hown5 hg5
  have hbb5 : Below w.heap.size w w5 := bl_grown (hbb4.alloc hbb4.size _) (by have := hbb4.size; simp; omega) hg5 (fun k hk => by have := hlt4 k hk; omega)
  have HE : Hid (w5.ownsRow w.heap.size 5 1 v5 (n + (encL x).length) ((xs ++ encL x).map Cd.by8) ∧ Below w.heap.size w w5) := by
    rw [HEL.out.1, HEL.out.2, HE0.out, HA.out, HLL.out, HAE.out]
    refine ⟨Cd.owns_mono (B := w.heap.size + 1) ?_ (by omega), hbb5⟩
    rw [← hpb] at hown5
    simpa using hown5
  clear hown4 hown4' hown5 hg5 hlt4 ho4 hone k3 hbb4 hbb5
  go_wp2
  go_ret2
  exact ⟨v5, rfl, HE.out⟩
end Go.Proofs.YtlaihgdfedalmaaGreat
namespace Go.Proofs.YtlaihgdfedalmaaGreat
open Go.RowKit
set_option linter.unusedVariables false

end Go.Proofs.YtlaihgdfedalmaaGreat
namespace Go.Proofs.YtlaihgdfedalmaaGreat
open Go.RowKit
set_option linter.unusedVariables false
set_option linter.unusedSimpArgs false

/-- The next label of what is left, and what is left behind it. -/
def decL (st : Option (List UInt8)) : Lb × Option (List UInt8) :=
  match formL ((decV st).1.1, ((decV st).1.2 : Int), (Cd.rUint (decV st).2).1, ((Cd.rInt (Cd.rUint (decV st).2).2 15).1 : Int)), (Cd.rInt (Cd.rUint (decV st).2).2 15).2 with
  | true, some ys => (((decV st).1.1, ((decV st).1.2 : Int), (Cd.rUint (decV st).2).1, ((Cd.rInt (Cd.rUint (decV st).2).2 15).1 : Int)), some ys)
  | _, _ => ((0, 0, 0, 0), none)

theorem step_store_row {P : Program} {ops : Array Oper} {o : Oper} {a : Act} {w : World} {K : Act → World → Prop} {Q : Exit → Act → World → Prop} {E : Prop} (hgd : o.guard = none) (ty : TypeId) (x y : Operand) (ho : o.op = .store ty x y)
    (g : Nat) (cells : Array Value) (hx : a.eval x = .pointer (some ⟨g, 0, none⟩)) (hy : a.eval y = .agg cells) (t : TypeId) (old : Array Value) (hg : w.heap[g]? = some (.cells old t (0, 0))) (hi : (P.info? ty).map (·.size) = some cells.size)
    (hold : old.size = cells.size) (h1 : cells.all (·.oneCell') = true) (h : K (a.put o.dst undef) (w.setRow g cells)) : if Region.wanted o (yielded ops a.tmps) = true then Oper.wp P o a w K Q else E := by
  have hw : Region.wanted o (yielded ops a.tmps) = true := by simp [Region.wanted, hgd]
  rw [if_pos hw]
  exact wp_store_row ty x y ho g cells hx hy t old hg hi hold h1 h
theorem infoS26 : (Tryz.prog.info? 39).map (·.size) = some 4 := by kernel_rfl

/-- Cells of which none is a byte. -/
def noByte (c : Array Value) : Prop := ∀ v ∈ c.toList, ∀ k, v ≠ .int .u8 k
theorem row_setRow {w : World} {ao : Option Addr} {n cap B : Nat} {xs : List UInt8} {old new : Array Value} {t : TypeId} (h : Cd.Row w ao n cap xs) (hB : w.heap[B]? = some (.cells old t (0, 0))) (ho : noByte old) : Cd.Row (w.setRow B new) ao n cap xs := by
  obtain ⟨h1, h2, h3, h4, h5⟩ := h
  refine ⟨h1, h2, h3, h4, fun b hb i hi => ?_⟩
  have hc := h5 b hb i hi
  have hs := World.cell?_spot hc
  generalize hba : b.add i = ba at *
  obtain ⟨blk, off, spot⟩ := ba
  simp only at hs
  subst hs
  by_cases e : blk = B
  · exfalso
    subst e
    rw [cell_of_row w blk off _ t (0, 0) hB] at hc
    obtain ⟨hm1, hm2⟩ := Array.getElem?_eq_some_iff.1 hc
    exact ho _ (by rw [← hm2]; simp) _ rfl
  · rw [cell_setRow_other _ _ _ _ e]
    exact hc
theorem rd_setRow {w : World} {r B : Nat} {st : Option (List UInt8)} {old new : Array Value} {t : TypeId} (h : Cd.Rd w r st) (hr : r ≠ B) (hB : w.heap[B]? = some (.cells old t (0, 0))) (ho : noByte old) : Cd.Rd (w.setRow B new) r st := by
  have he : (w.setRow B new).heap[r]? = w.heap[r]? := setRow_other _ _ _ _ hr
  cases st with
  | none => exact he.trans h
  | some xs =>
    obtain ⟨ao, n, cap, h1, h2⟩ := h
    exact ⟨ao, n, cap, he.trans h1, row_setRow h2.1 hB ho, h2.2⟩
theorem gr_row {w W : World} {r B : Nat} (h : w.grownBy W (some r)) (hB : w.heap.size ≤ B) (cs : Array Value) : w.grownBy (W.setRow B cs) (some r) :=
  ⟨h.os, h.tape, h.output, by simpa using h.size, fun k hk hne => (setRow_other _ _ _ _ (by omega)).trans (h.block k hk hne)⟩
theorem gr_of {w W : World} (h : Below w.heap.size w W) (r : Option Nat) : w.grownBy W r := ⟨h.os, h.tape, h.output, h.size, fun k hk _ => h.block k hk⟩
theorem rInt_neg (st : Option (List UInt8)) : Cd.rInt st (-1) = (0, none) := by
  unfold Cd.rInt
  cases (Cd.rUint st).2 with
  | none => rfl
  | some ys => simp

/-- What the call holds of memory: its reader, its answer's place, and the label that it has read. -/
structure Gl (w W : World) (r D : Nat) (x : Lb) (st : Option (List UInt8)) : Prop where
  rd : Cd.Rd W r st
  ans : W.heap[w.heap.size]? = some (.cells #[.int .u64 0, .int .i64 0, .int .u64 0, .int .i64 0] 39 (0, 0))
  got : W.heap[D]? = some (.cells #[.int .u64 (x.1 : Nat), .int .i64 x.2.1, .int .u64 (x.2.2.1 : Nat), .int .i64 x.2.2.2] 39 (0, 0))
  gr : w.grownBy W (some r)
  rl : r < w.heap.size
  dl : w.heap.size < D
theorem Gl.below {w W W' : World} {r D : Nat} {x : Lb} {st : Option (List UInt8)} (h : Gl w W r D x st) (hb : Below W.heap.size W W') : Gl w W' r D x st where
  rd := Cd.rd_below h.rd hb
  ans := (hb.block _ (Array.getElem?_eq_some_iff.1 h.ans).1).trans h.ans
  got := (hb.block _ (Array.getElem?_eq_some_iff.1 h.got).1).trans h.got
  gr := Cd.grown_trans h.gr (gr_of hb _)
  rl := h.rl
  dl := h.dl
theorem Gl.step {w W W' : World} {r D : Nat} {x : Lb} {st st' : Option (List UInt8)} (h : Gl w W r D x st) (hr : Cd.Rd W' r st') (g : W.grownBy W' (some r)) : Gl w W' r D x st' where
  rd := hr
  ans := (g.block _ (Array.getElem?_eq_some_iff.1 h.ans).1 (by have := h.rl; simp; omega)).trans h.ans
  got := (g.block _ (Array.getElem?_eq_some_iff.1 h.got).1 (by have := h.rl; have := h.dl; simp; omega)).trans h.got
  gr := Cd.grown_trans h.gr g
  rl := h.rl
  dl := h.dl
theorem Gl.cells {w W : World} {r D : Nat} {x : Lb} {st : Option (List UInt8)} (h : Gl w W r D x st) : W.cell? ⟨D, 0, none⟩ = some (.int .u64 (x.1 : Nat)) ∧ W.cell? ⟨D, 1, none⟩ = some (.int .i64 x.2.1) ∧ W.cell? ⟨D, 2, none⟩ = some (.int .u64 (x.2.2.1 : Nat)) ∧ W.cell? ⟨D, 3, none⟩ = some (.int .i64 x.2.2.2) :=
  ⟨by rw [cell_of_row W D 0 _ 39 (0, 0) h.got]; rfl, by rw [cell_of_row W D 1 _ 39 (0, 0) h.got]; rfl, by rw [cell_of_row W D 2 _ 39 (0, 0) h.got]; rfl, by rw [cell_of_row W D 3 _ 39 (0, 0) h.got]; rfl⟩
theorem noByte_lab (n : Int) (p s q : Int) : noByte #[.int .u64 n, .int .i64 p, .int .u64 s, .int .i64 q] := by
  intro v hv k
  simp at hv
  rcases hv with rfl | rfl | rfl | rfl <;> simp
/-- The answer laid. -/
theorem Gl.told {w W : World} {r D : Nat} {x : Lb} {st : Option (List UInt8)} (h : Gl w W r D x st) (n p s q : Int) : (∀ j v, #[Value.int .u64 n, .int .i64 p, .int .u64 s, .int .i64 q][j]? = some v → (W.setRow w.heap.size #[.int .u64 n, .int .i64 p, .int .u64 s, .int .i64 q]).cell? ⟨w.heap.size, j, none⟩ = some v) ∧
    Hid (Cd.Rd (W.setRow w.heap.size #[.int .u64 n, .int .i64 p, .int .u64 s, .int .i64 q]) r st ∧ w.grownBy (W.setRow w.heap.size #[.int .u64 n, .int .i64 p, .int .u64 s, .int .i64 q]) (some r)) := by
  refine ⟨fun j v hj => ?_, rd_setRow h.rd (by have := h.rl; omega) h.ans (noByte_lab _ _ _ _), gr_row h.gr (Nat.le_refl _) _⟩
  rw [cell_setRow_same _ _ _ _ _ _ _ h.ans]
  exact hj
/-- The label laid. -/
theorem Gl.laid {w W : World} {r D : Nat} {st : Option (List UInt8)} {old : Array Value} (x : Lb) (rd : Cd.Rd W r st) (ans : W.heap[w.heap.size]? = some (.cells #[.int .u64 0, .int .i64 0, .int .u64 0, .int .i64 0] 39 (0, 0))) (hD : W.heap[D]? = some (.cells old 39 (0, 0))) (ho : noByte old) (gr : w.grownBy W (some r)) (rl : r < w.heap.size) (dl : w.heap.size < D) :
    Gl w (W.setRow D #[.int .u64 (x.1 : Nat), .int .i64 x.2.1, .int .u64 (x.2.2.1 : Nat), .int .i64 x.2.2.2]) r D x st where
  rd := rd_setRow rd (by omega) hD ho
  ans := (setRow_other _ _ _ _ (by omega)).trans ans
  got := setRow_heap _ _ _ _ _ _ hD
  gr := gr_row gr (by omega) _
  rl := rl
  dl := dl

set_option maxRecDepth 10000 in
set_option maxHeartbeats 2000000 in
theorem decodeL_rd (w : World) (r : Nat) (st : Option (List UInt8)) (h : Cd.Rd w r st) :
    Calls Tryz.prog 174 #[.pointer (some ⟨r, 0, none⟩)] w fun e w' => e = .returned (.tuple #[lab (decL st).1, .bool (decL st).2.isSome]) ∧ Cd.Rd w' r (decL st).2 ∧ w.grownBy w' (some r) := by
  have hrl := h.lt
  have h1 := rd_alloc h (.cells #[.int .u64 0, .int .i64 0, .int .u64 0, .int .i64 0] 39)
  have hdv := decode_rd _ r st h1
  have huv := fun W (hW : Cd.Rd W r (decV st).2) => Cd.uint_rd W r (decV st).2 hW
  have hiv := fun W (hW : Cd.Rd W r (Cd.rUint (decV st).2).2) => Cd.int_rd W r (Cd.rUint (decV st).2).2 hW 15 (by omega) (by omega)
  have HD : Hid (decL st = match formL ((decV st).1.1, ((decV st).1.2 : Int), (Cd.rUint (decV st).2).1, ((Cd.rInt (Cd.rUint (decV st).2).2 15).1 : Int)), (Cd.rInt (Cd.rUint (decV st).2).2 15).2 with
    | true, some ys => (((decV st).1.1, ((decV st).1.2 : Int), (Cd.rUint (decV st).2).1, ((Cd.rInt (Cd.rUint (decV st).2).2 15).1 : Int)), some ys)
    | _, _ => ((0, 0, 0, 0), none)) := rfl
  generalize decL st = dl at *
  generalize (Cd.rInt (Cd.rUint (decV st).2).2 15) = ri at *
  obtain ⟨Q, st3⟩ := ri
  generalize (Cd.rUint (decV st).2) = ru at *
  obtain ⟨S, st2⟩ := ru
  generalize decV st = dv at *
  obtain ⟨⟨N, P⟩, st1⟩ := dv
  simp only at HD hdv huv hiv
  have hng := fun W (hW : Cd.Rd W r st3) => Cd.int_rd W r st3 hW (-1) (by omega) (by omega)
  simp only [rInt_neg] at hng
  unfold vid at hdv
  have hform := fun W => formL_any W (N, (P : Int), S, (Q : Int))
  have HF : Hid _ := hform
  generalize hfm : formL (N, (P : Int), S, (Q : Int)) = fm at *
  have hans0 : (w.alloc (.cells #[.int .u64 0, .int .i64 0, .int .u64 0, .int .i64 0] 39)).heap[w.heap.size]? = some (.cells #[.int .u64 0, .int .i64 0, .int .u64 0, .int .i64 0] 39 (0, 0)) := heap_alloc_new _ _
  have gr0 : w.grownBy (w.alloc (.cells #[.int .u64 0, .int .i64 0, .int .u64 0, .int .i64 0] 39)) (some r) := gr_of (bl1 _ _) _
  clear HF hfm
  go_enter Tryz.func174, Tryz.ntmps174
  go_wp2_with fail
  refine hdv.mono ?_
  rintro e w1 ⟨rfl, rd1, g1⟩
  have ans1 := (g1.block _ (by simp) (by simp; omega)).trans hans0
  have gr1 := Cd.grown_trans gr0 g1
  have hw1 : w.heap.size < w1.heap.size := (Array.getElem?_eq_some_iff.1 ans1).1
  have rd2 := rd_alloc rd1 (.cells #[.int .u64 (N : Nat), .int .i64 (P : Nat)] 33)
  have ub : Below w1.heap.size w1 (w1.alloc (.cells #[.int .u64 (N : Nat), .int .i64 (P : Nat)] 33)) := bl1 _ _
  have ans2 := (ub.block _ hw1).trans ans1
  have gr2 := Cd.grown_trans gr1 (gr_of ub _)
  have c20 := cell_box w1 #[Value.int .u64 (N : Nat), .int .i64 (P : Nat)] 33 0 _ rfl
  have c21 := cell_box w1 #[Value.int .u64 (N : Nat), .int .i64 (P : Nat)] 33 1 _ rfl
  have huv2 := huv _ rd2
  clear hdv huv h h1 rd1 g1 ans1 gr1 ub hans0 gr0 rd2
  go_wp2_with fail
  refine huv2.mono ?_
  rintro e w3 ⟨rfl, rd3, g3⟩
  have ans3 := (g3.block _ (by simp; omega) (by simp; omega)).trans ans2
  have gr3 := Cd.grown_trans gr2 g3
  have c30 := g3.cell c20 (by simp; omega)
  have c31 := g3.cell c21 (by simp; omega)
  have hw3 : w1.heap.size < w3.heap.size := World.block_lt_of_cell? w3 _ c30
  clear huv2 g3 ans2 gr2 c20 c21
  go_wp2_with fail
  refine wp_region_noPanic ?_
  refine wp_region_held_drew (S := fun wx => wx.cell? ⟨w1.heap.size, 0, none⟩ = some (.int .u64 (N : Nat)) ∧ wx.cell? ⟨w1.heap.size, 1, none⟩ = some (.int .i64 (P : Nat))) (by kernel_rfl) ⟨c30, c31⟩ (fun hHeld => ?_)
  refine take_first 0 (v := ?_) rfl (by kernel_rfl) (by kernel_rfl) (by kernel_rfl) (fun _ _ _ h => h) (Or.inl ⟨by rfl, by intro wx hSw; obtain ⟨a0, a1⟩ := hSw; go_simp; try with_reducible rfl⟩) (by assumption) ?_
  (try simp only [Act.put, List.setIfInBounds_toArray, List.set_cons_zero, List.set_cons_succ])
  refine take_first 1 (v := ?_) rfl (by kernel_rfl) (by kernel_rfl) (by kernel_rfl) (fun _ _ _ h => h) (Or.inl ⟨by rfl, by intro wx hSw; obtain ⟨a0, a1⟩ := hSw; go_simp; try with_reducible rfl⟩) (by assumption) ?_
  (try simp only [Act.put, List.setIfInBounds_toArray, List.set_cons_zero, List.set_cons_succ])
  refine take_first 2 (v := ?_) rfl (by kernel_rfl) (by kernel_rfl) (by kernel_rfl) (fun _ _ _ h => h) (Or.inl ⟨by rfl, by intro wx hSw; obtain ⟨a0, a1⟩ := hSw; go_simp; try with_reducible rfl⟩) (by assumption) ?_
  (try simp only [Act.put, List.setIfInBounds_toArray, List.set_cons_zero, List.set_cons_succ])
  refine comes_up2 3 5 rfl rfl (by kernel_rfl) (fun K hK => ?_) (fun K hK => ?_)
  · go_simp
    refine (hiv w3.drew rd3).mono ?_
    rintro e w4 ⟨rfl, rd4, g4⟩
    have ans4 := (g4.block _ (by show _ < w3.heap.size; omega) (by simp; omega)).trans ans3
    have gr4 := Cd.grown_trans (show w.grownBy w3.drew (some r) from ⟨gr3.os, gr3.tape, gr3.output, gr3.size, gr3.block⟩) g4
    have hS4 : w4.cell? ⟨w1.heap.size, 0, none⟩ = some (.int .u64 (N : Nat)) ∧ w4.cell? ⟨w1.heap.size, 1, none⟩ = some (.int .i64 (P : Nat)) := ⟨g4.cell (show w3.drew.cell? _ = _ from c30) (by simp; omega), g4.cell (show w3.drew.cell? _ = _ from c31) (by simp; omega)⟩
    have hw4 : w.heap.size < w4.heap.size := (Array.getElem?_eq_some_iff.1 ans4).1
    have ua : Below w4.heap.size w4 (w4.alloc (.cells #[.int .u64 0, .int .i64 0, .int .u64 0, .int .i64 0] 39)) := bl1 _ _
    have hS5 : (w4.alloc (.cells #[.int .u64 0, .int .i64 0, .int .u64 0, .int .i64 0] 39)).cell? ⟨w1.heap.size, 0, none⟩ = some (.int .u64 (N : Nat)) ∧ (w4.alloc (.cells #[.int .u64 0, .int .i64 0, .int .u64 0, .int .i64 0] 39)).cell? ⟨w1.heap.size, 1, none⟩ = some (.int .i64 (P : Nat)) :=
      ⟨(ua.cell (World.block_lt_of_cell? w4 _ hS4.1)).trans hS4.1, (ua.cell (World.block_lt_of_cell? w4 _ hS4.2)).trans hS4.2⟩
    have hD5 : (w4.alloc (.cells #[.int .u64 0, .int .i64 0, .int .u64 0, .int .i64 0] 39)).heap[w4.heap.size]? = some (.cells #[.int .u64 0, .int .i64 0, .int .u64 0, .int .i64 0] 39 (0, 0)) := heap_alloc_new _ _
    have hw14 : w1.heap.size < w4.heap.size := World.block_lt_of_cell? w4 _ hS4.1
    have G := Gl.laid (w := w) (N, (P : Int), S, (Q : Int)) (rd_alloc rd4 (.cells #[.int .u64 0, .int .i64 0, .int .u64 0, .int .i64 0] 39)) ((ua.block _ hw4).trans ans4) hD5 (noByte_lab _ _ _ _) (Cd.grown_trans gr4 (gr_of ua _)) hrl hw4
    have hS6 : ((w4.alloc (.cells #[.int .u64 0, .int .i64 0, .int .u64 0, .int .i64 0] 39)).setRow w4.heap.size #[.int .u64 (N : Nat), .int .i64 (P : Nat), .int .u64 (S : Nat), .int .i64 (Q : Nat)]).cell? ⟨w1.heap.size, 0, none⟩ = some (.int .u64 (N : Nat)) ∧ ((w4.alloc (.cells #[.int .u64 0, .int .i64 0, .int .u64 0, .int .i64 0] 39)).setRow w4.heap.size #[.int .u64 (N : Nat), .int .i64 (P : Nat), .int .u64 (S : Nat), .int .i64 (Q : Nat)]).cell? ⟨w1.heap.size, 1, none⟩ = some (.int .i64 (P : Nat)) :=
      ⟨(cell_setRow_other _ _ _ _ (by show w1.heap.size ≠ w4.heap.size; omega)).trans hS5.1, (cell_setRow_other _ _ _ _ (by show w1.heap.size ≠ w4.heap.size; omega)).trans hS5.2⟩
    simp only at G
    clear hiv g4 rd4 ans4 gr4 rd3 ans3 gr3 c30 c31 hHeld ua
    go_wp2_with fail
    refine hK.out _ _ hS4 (fun hHeld => ?_)
    clear hK K
    (try simp only [Act.put, List.setIfInBounds_toArray, List.set_cons_zero, List.set_cons_succ])
    refine take_first 4 (v := ?_) rfl (by kernel_rfl) (by kernel_rfl) (by kernel_rfl) (fun _ _ _ h => h) (Or.inl ⟨by rfl, by intro wx hSw; obtain ⟨a0, a1⟩ := hSw; go_simp; try with_reducible rfl⟩) (by assumption) ?_
    (try simp only [Act.put, List.setIfInBounds_toArray, List.set_cons_zero, List.set_cons_succ])
    refine comes_up 5 rfl (by kernel_rfl) (fun K hK => ?_)
    go_simp
    refine hK.out _ _ hS5 (fun hHeld => ?_)
    clear hK K
    (try simp only [Act.put, List.setIfInBounds_toArray, List.set_cons_zero, List.set_cons_succ])
    refine comes_up 6 rfl (by kernel_rfl) (fun K hK => ?_)
    refine step_store_row rfl 39 (.tmp 7) (.tmp 19) rfl w4.heap.size #[.int .u64 (N : Nat), .int .i64 (P : Nat), .int .u64 (S : Nat), .int .i64 (Q : Nat)] (by simp [Act.eval]) (by simp [Act.eval]) 39 _ hD5 infoS26 rfl (by simp [Value.oneCell']) ?_
    refine hK.out _ _ hS6 (fun hHeld => ?_)
    clear hK K
    (try simp only [Act.put, List.setIfInBounds_toArray, List.set_cons_zero, List.set_cons_succ])
    refine wpAnyH_done (by kernel_rfl) ?_ _
    refine NoPanic.normal ?_
    clear hS4 hS5 hS6 hHeld hD5
    generalize hD : w4.heap.size = D at G ⊢
    generalize hW5 : (w4.alloc (.cells #[.int .u64 0, .int .i64 0, .int .u64 0, .int .i64 0] 39)).setRow D #[.int .u64 (N : Nat), .int .i64 (P : Nat), .int .u64 (S : Nat), .int .i64 (Q : Nat)] = W5 at G ⊢
    clear hW5 hD hw4 hw14
    obtain ⟨d0, d1, d2, d3⟩ := G.cells
    simp only at d0 d1 d2 d3
    unfold lab at hform
    simp only at hform
    cases fm with
    | false =>
      have HR : Hid (dl = ((0, 0, 0, 0), none)) := by
        show _ = _
        rw [HD.out]
      go_wp2_with fail
      refine (hform _).mono ?_
      rintro e w6 ⟨rfl, hu6⟩
      have G6 := G.below hu6.bl
      clear G hform hu6 d0 d1 d2 d3
      have hng6 := hng _ G6.rd
      go_wp2_with fail
      refine hng6.mono ?_
      rintro e w7 ⟨rfl, rd7, g7⟩
      have G7 := G6.step rd7 g7
      clear hng hng6 g7 G6 rd7
      have hb7 := Cd.bad_rd _ _ _ G7.rd
      go_wp2_with fail
      refine hb7.mono ?_
      rintro e w8 ⟨rfl, rfl⟩
      obtain ⟨hc, HE⟩ := G7.told 0 0 0 0
      have k0 := hc 0 _ rfl
      have k1 := hc 1 _ rfl
      have k2 := hc 2 _ rfl
      have k3 := hc 3 _ rfl
      have hans := G7.ans
      clear hb7 G7 hc
      go_wp2_with (first | (refine wpList_store_row rfl 39 (.tmp 2) (.tmp 27) rfl w.heap.size #[.int .u64 0, .int .i64 0, .int .u64 0, .int .i64 0] rfl rfl 39 _ hans infoS26 rfl (by simp [Value.oneCell']) ?_))
      refine bodyPost_ret (v := .tuple #[.agg #[.int .u64 0, .int .i64 0, .int .u64 0, .int .i64 0], .bool false]) ?_ rfl ?_
      · simp [results, Tryz.results174, go_sem, k0, k1, k2, k3]
      · rw [HR.out]
        exact ⟨rfl, HE.out⟩
    | true =>
      go_wp2_with fail
      refine (hform _).mono ?_
      rintro e w6 ⟨rfl, hu6⟩
      have G6 := G.below hu6.bl
      clear G hform hu6 d0 d1 d2 d3 hng
      have hb7 := Cd.bad_rd _ _ _ G6.rd
      cases st3 with
      | none =>
        have HR : Hid (dl = ((0, 0, 0, 0), none)) := by
          show _ = _
          rw [HD.out]
        go_wp2_with fail
        refine hb7.mono ?_
        rintro e w8 ⟨rfl, rfl⟩
        obtain ⟨hc, HE⟩ := G6.told 0 0 0 0
        have k0 := hc 0 _ rfl
        have k1 := hc 1 _ rfl
        have k2 := hc 2 _ rfl
        have k3 := hc 3 _ rfl
        have hans := G6.ans
        clear hb7 G6 hc
        go_wp2_with (first | (refine wpList_store_row rfl 39 (.tmp 2) (.tmp 27) rfl w.heap.size #[.int .u64 0, .int .i64 0, .int .u64 0, .int .i64 0] rfl rfl 39 _ hans infoS26 rfl (by simp [Value.oneCell']) ?_))
        refine bodyPost_ret (v := .tuple #[.agg #[.int .u64 0, .int .i64 0, .int .u64 0, .int .i64 0], .bool false]) ?_ rfl ?_
        · simp [results, Tryz.results174, go_sem, k0, k1, k2, k3]
        · rw [HR.out]
          exact ⟨rfl, HE.out⟩
      | some ys =>
        have HR : Hid (dl = ((N, (P : Int), S, (Q : Int)), some ys)) := by
          show _ = _
          rw [HD.out]
        go_wp2_with fail
        refine hb7.mono ?_
        rintro e w8 ⟨rfl, rfl⟩
        obtain ⟨hc, HE⟩ := G6.told (N : Nat) (P : Nat) (S : Nat) (Q : Nat)
        have k0 := hc 0 _ rfl
        have k1 := hc 1 _ rfl
        have k2 := hc 2 _ rfl
        have k3 := hc 3 _ rfl
        have hans := G6.ans
        obtain ⟨d0, d1, d2, d3⟩ := G6.cells
        simp only at d0 d1 d2 d3
        clear hb7 G6 hc
        go_wp2_with (first | (refine wpList_store_row rfl 39 (.tmp 2) (.tmp 28) rfl w.heap.size #[.int .u64 (N : Nat), .int .i64 (P : Nat), .int .u64 (S : Nat), .int .i64 (Q : Nat)] rfl rfl 39 _ hans infoS26 rfl (by simp [Value.oneCell']) ?_))
        refine bodyPost_ret (v := .tuple #[.agg #[.int .u64 (N : Nat), .int .i64 (P : Nat), .int .u64 (S : Nat), .int .i64 (Q : Nat)], .bool true]) ?_ rfl ?_
        · simp [results, Tryz.results174, go_sem, k0, k1, k2, k3]
        · rw [HR.out]
          exact ⟨rfl, HE.out⟩
  · go_simp
    have ua : Below w3.heap.size w3 (w3.alloc (.cells #[.int .u64 0, .int .i64 0, .int .u64 0, .int .i64 0] 39)) := bl1 _ _
    have rd3' : Cd.Rd (w3.alloc (.cells #[.int .u64 0, .int .i64 0, .int .u64 0, .int .i64 0] 39)).drew r st2 := rd_alloc rd3 (.cells #[.int .u64 0, .int .i64 0, .int .u64 0, .int .i64 0] 39)
    have hS4 : (w3.alloc (.cells #[.int .u64 0, .int .i64 0, .int .u64 0, .int .i64 0] 39)).drew.cell? ⟨w1.heap.size, 0, none⟩ = some (.int .u64 (N : Nat)) ∧ (w3.alloc (.cells #[.int .u64 0, .int .i64 0, .int .u64 0, .int .i64 0] 39)).drew.cell? ⟨w1.heap.size, 1, none⟩ = some (.int .i64 (P : Nat)) :=
      ⟨(ua.cell (World.block_lt_of_cell? w3 _ c30)).trans c30, (ua.cell (World.block_lt_of_cell? w3 _ c31)).trans c31⟩
    have hD3 : (w3.alloc (.cells #[.int .u64 0, .int .i64 0, .int .u64 0, .int .i64 0] 39)).drew.heap[w3.heap.size]? = some (.cells #[.int .u64 0, .int .i64 0, .int .u64 0, .int .i64 0] 39 (0, 0)) := heap_alloc_new _ _
    have ans3' : (w3.alloc (.cells #[.int .u64 0, .int .i64 0, .int .u64 0, .int .i64 0] 39)).drew.heap[w.heap.size]? = some (.cells #[.int .u64 0, .int .i64 0, .int .u64 0, .int .i64 0] 39 (0, 0)) := (ua.block _ (by omega)).trans ans3
    have gr3' : w.grownBy (w3.alloc (.cells #[.int .u64 0, .int .i64 0, .int .u64 0, .int .i64 0] 39)).drew (some r) := by
      have q := Cd.grown_trans gr3 (gr_of ua _)
      exact ⟨q.os, q.tape, q.output, q.size, q.block⟩
    have hiv3 := hiv _ rd3'
    have hsz3 : (w3.alloc (.cells #[.int .u64 0, .int .i64 0, .int .u64 0, .int .i64 0] 39)).drew.heap.size = w3.heap.size + 1 := by show (w3.alloc _).heap.size = _; simp
    clear hHeld hiv rd3 ans3 gr3 ua
    refine hK.out _ _ hS4 (fun hHeld => ?_)
    clear hK K
    (try simp only [Act.put, List.setIfInBounds_toArray, List.set_cons_zero, List.set_cons_succ])
    refine comes_up 3 rfl (by kernel_rfl) (fun K hK => ?_)
    go_simp
    refine hiv3.mono ?_
    rintro e w4 ⟨rfl, rd4, g4⟩
    have ans4 := (g4.block _ (by rw [hsz3]; omega) (by simp; omega)).trans ans3'
    have hD4 := (g4.block w3.heap.size (by rw [hsz3]; omega) (by simp; omega)).trans hD3
    have gr4 := Cd.grown_trans gr3' g4
    have hS5 : w4.cell? ⟨w1.heap.size, 0, none⟩ = some (.int .u64 (N : Nat)) ∧ w4.cell? ⟨w1.heap.size, 1, none⟩ = some (.int .i64 (P : Nat)) := ⟨g4.cell hS4.1 (by simp; omega), g4.cell hS4.2 (by simp; omega)⟩
    have G := Gl.laid (w := w) (N, (P : Int), S, (Q : Int)) rd4 ans4 hD4 (noByte_lab _ _ _ _) gr4 hrl (by omega)
    have hS6 : (w4.setRow w3.heap.size #[.int .u64 (N : Nat), .int .i64 (P : Nat), .int .u64 (S : Nat), .int .i64 (Q : Nat)]).cell? ⟨w1.heap.size, 0, none⟩ = some (.int .u64 (N : Nat)) ∧ (w4.setRow w3.heap.size #[.int .u64 (N : Nat), .int .i64 (P : Nat), .int .u64 (S : Nat), .int .i64 (Q : Nat)]).cell? ⟨w1.heap.size, 1, none⟩ = some (.int .i64 (P : Nat)) :=
      ⟨(cell_setRow_other _ _ _ _ (by show w1.heap.size ≠ w3.heap.size; omega)).trans hS5.1, (cell_setRow_other _ _ _ _ (by show w1.heap.size ≠ w3.heap.size; omega)).trans hS5.2⟩
    simp only at G
    clear hiv3 g4 rd4 ans4 gr4 hS4 hHeld ans3' gr3' hD3 c30 c31 rd3'
    go_wp2_with fail
    refine hK.out _ _ hS5 (fun hHeld => ?_)
    clear hK K
    (try simp only [Act.put, List.setIfInBounds_toArray, List.set_cons_zero, List.set_cons_succ])
    refine take_first 4 (v := ?_) rfl (by kernel_rfl) (by kernel_rfl) (by kernel_rfl) (fun _ _ _ h => h) (Or.inl ⟨by rfl, by intro wx hSw; obtain ⟨a0, a1⟩ := hSw; go_simp; try with_reducible rfl⟩) (by assumption) ?_
    (try simp only [Act.put, List.setIfInBounds_toArray, List.set_cons_zero, List.set_cons_succ])
    refine comes_up 6 rfl (by kernel_rfl) (fun K hK => ?_)
    refine step_store_row rfl 39 (.tmp 7) (.tmp 19) rfl w3.heap.size #[.int .u64 (N : Nat), .int .i64 (P : Nat), .int .u64 (S : Nat), .int .i64 (Q : Nat)] (by simp [Act.eval]) (by simp [Act.eval]) 39 _ hD4 infoS26 rfl (by simp [Value.oneCell']) ?_
    refine hK.out _ _ hS6 (fun hHeld => ?_)
    clear hK K
    (try simp only [Act.put, List.setIfInBounds_toArray, List.set_cons_zero, List.set_cons_succ])
    refine wpAnyH_done (by kernel_rfl) ?_ _
    refine NoPanic.normal ?_
    clear hS5 hS6 hHeld hD4
    generalize hD : w3.heap.size = D at G ⊢
    generalize hW5 : w4.setRow D #[.int .u64 (N : Nat), .int .i64 (P : Nat), .int .u64 (S : Nat), .int .i64 (Q : Nat)] = W5 at G ⊢
    clear hW5 hD hw3 hsz3
    obtain ⟨d0, d1, d2, d3⟩ := G.cells
    simp only at d0 d1 d2 d3
    unfold lab at hform
    simp only at hform
    cases fm with
    | false =>
      have HR : Hid (dl = ((0, 0, 0, 0), none)) := by
        show _ = _
        rw [HD.out]
      go_wp2_with fail
      refine (hform _).mono ?_
      rintro e w6 ⟨rfl, hu6⟩
      have G6 := G.below hu6.bl
      clear G hform hu6 d0 d1 d2 d3
      have hng6 := hng _ G6.rd
      go_wp2_with fail
      refine hng6.mono ?_
      rintro e w7 ⟨rfl, rd7, g7⟩
      have G7 := G6.step rd7 g7
      clear hng hng6 g7 G6 rd7
      have hb7 := Cd.bad_rd _ _ _ G7.rd
      go_wp2_with fail
      refine hb7.mono ?_
      rintro e w8 ⟨rfl, rfl⟩
      obtain ⟨hc, HE⟩ := G7.told 0 0 0 0
      have k0 := hc 0 _ rfl
      have k1 := hc 1 _ rfl
      have k2 := hc 2 _ rfl
      have k3 := hc 3 _ rfl
      have hans := G7.ans
      clear hb7 G7 hc
      go_wp2_with (first | (refine wpList_store_row rfl 39 (.tmp 2) (.tmp 27) rfl w.heap.size #[.int .u64 0, .int .i64 0, .int .u64 0, .int .i64 0] rfl rfl 39 _ hans infoS26 rfl (by simp [Value.oneCell']) ?_))
      refine bodyPost_ret (v := .tuple #[.agg #[.int .u64 0, .int .i64 0, .int .u64 0, .int .i64 0], .bool false]) ?_ rfl ?_
      · simp [results, Tryz.results174, go_sem, k0, k1, k2, k3]
      · rw [HR.out]
        exact ⟨rfl, HE.out⟩
    | true =>
      go_wp2_with fail
      refine (hform _).mono ?_
      rintro e w6 ⟨rfl, hu6⟩
      have G6 := G.below hu6.bl
      clear G hform hu6 d0 d1 d2 d3 hng
      have hb7 := Cd.bad_rd _ _ _ G6.rd
      cases st3 with
      | none =>
        have HR : Hid (dl = ((0, 0, 0, 0), none)) := by
          show _ = _
          rw [HD.out]
        go_wp2_with fail
        refine hb7.mono ?_
        rintro e w8 ⟨rfl, rfl⟩
        obtain ⟨hc, HE⟩ := G6.told 0 0 0 0
        have k0 := hc 0 _ rfl
        have k1 := hc 1 _ rfl
        have k2 := hc 2 _ rfl
        have k3 := hc 3 _ rfl
        have hans := G6.ans
        clear hb7 G6 hc
        go_wp2_with (first | (refine wpList_store_row rfl 39 (.tmp 2) (.tmp 27) rfl w.heap.size #[.int .u64 0, .int .i64 0, .int .u64 0, .int .i64 0] rfl rfl 39 _ hans infoS26 rfl (by simp [Value.oneCell']) ?_))
        refine bodyPost_ret (v := .tuple #[.agg #[.int .u64 0, .int .i64 0, .int .u64 0, .int .i64 0], .bool false]) ?_ rfl ?_
        · simp [results, Tryz.results174, go_sem, k0, k1, k2, k3]
        · rw [HR.out]
          exact ⟨rfl, HE.out⟩
      | some ys =>
        have HR : Hid (dl = ((N, (P : Int), S, (Q : Int)), some ys)) := by
          show _ = _
          rw [HD.out]
        go_wp2_with fail
        refine hb7.mono ?_
        rintro e w8 ⟨rfl, rfl⟩
        obtain ⟨hc, HE⟩ := G6.told (N : Nat) (P : Nat) (S : Nat) (Q : Nat)
        have k0 := hc 0 _ rfl
        have k1 := hc 1 _ rfl
        have k2 := hc 2 _ rfl
        have k3 := hc 3 _ rfl
        have hans := G6.ans
        obtain ⟨d0, d1, d2, d3⟩ := G6.cells
        simp only at d0 d1 d2 d3
        clear hb7 G6 hc
        go_wp2_with (first | (refine wpList_store_row rfl 39 (.tmp 2) (.tmp 28) rfl w.heap.size #[.int .u64 (N : Nat), .int .i64 (P : Nat), .int .u64 (S : Nat), .int .i64 (Q : Nat)] rfl rfl 39 _ hans infoS26 rfl (by simp [Value.oneCell']) ?_))
        refine bodyPost_ret (v := .tuple #[.agg #[.int .u64 (N : Nat), .int .i64 (P : Nat), .int .u64 (S : Nat), .int .i64 (Q : Nat)], .bool true]) ?_ rfl ?_
        · simp [results, Tryz.results174, go_sem, k0, k1, k2, k3]
        · rw [HR.out]
          exact ⟨rfl, HE.out⟩
end Go.Proofs.YtlaihgdfedalmaaGreat
namespace Go.Proofs.YtlaihgdfedalmaaGreat
open Go.RowKit
set_option linter.unusedVariables false
set_option linter.unusedSimpArgs false

/-- What the call holds of memory: its reader, its answer's place, and the label that it has read. -/
structure Gq (w W : World) (m : Nat) (ao : Option Addr) (n cap : Nat) (xs : List UInt8) (o : Option Nat) (C : Nat) (a b c d : Int) : Prop where
  rr : Cd.RR W m ao n cap o
  row : Cd.Row W ao n cap xs
  ans : W.heap[w.heap.size]? = some (.cells #[.int .u64 0, .int .i64 0, .int .u64 0, .int .i64 0] 39 (0, 0))
  got : W.heap[C]? = some (.cells #[.int .u64 a, .int .i64 b, .int .u64 c, .int .i64 d] 39 (0, 0))
  gr : w.grownBy W (some m)
  ml : m < w.heap.size
  cl : w.heap.size < C
section
variable {w W W' : World} {m : Nat} {ao : Option Addr} {n cap : Nat} {xs : List UInt8} {o o' : Option Nat} {C : Nat} {a b c d : Int}
theorem Gq.below (h : Gq w W m ao n cap xs o C a b c d) (hb : Below W.heap.size W W') : Gq w W' m ao n cap xs o C a b c d where
  rr := h.rr.below hb
  row := h.row.below hb (Nat.le_refl _)
  ans := (hb.block _ (Array.getElem?_eq_some_iff.1 h.ans).1).trans h.ans
  got := (hb.block _ (Array.getElem?_eq_some_iff.1 h.got).1).trans h.got
  gr := Cd.grown_trans h.gr (gr_of hb _)
  ml := h.ml
  cl := h.cl
theorem Gq.step (h : Gq w W m ao n cap xs o C a b c d) (hr : Cd.RR W' m ao n cap o') (g : W.grownBy W' (some m)) : Gq w W' m ao n cap xs o' C a b c d where
  rr := hr
  row := Cd.row_RR h.row h.rr g
  ans := (g.block _ (Array.getElem?_eq_some_iff.1 h.ans).1 (by have := h.ml; simp; omega)).trans h.ans
  got := (g.block _ (Array.getElem?_eq_some_iff.1 h.got).1 (by have := h.ml; have := h.cl; simp; omega)).trans h.got
  gr := Cd.grown_trans h.gr g
  ml := h.ml
  cl := h.cl
theorem Gq.cells (h : Gq w W m ao n cap xs o C a b c d) : W.cell? ⟨C, 0, none⟩ = some (.int .u64 a) ∧ W.cell? ⟨C, 1, none⟩ = some (.int .i64 b) ∧ W.cell? ⟨C, 2, none⟩ = some (.int .u64 c) ∧ W.cell? ⟨C, 3, none⟩ = some (.int .i64 d) :=
  ⟨by rw [cell_of_row W C 0 _ 39 (0, 0) h.got]; rfl, by rw [cell_of_row W C 1 _ 39 (0, 0) h.got]; rfl, by rw [cell_of_row W C 2 _ 39 (0, 0) h.got]; rfl, by rw [cell_of_row W C 3 _ 39 (0, 0) h.got]; rfl⟩
theorem Gq.free (h : Gq w W m ao n cap xs o C a b c d) (j : Nat) : W.frozen? ⟨C, j, none⟩ = false := frozen_of_row W C j _ 39 h.got
theorem Gq.seq (h : Gq w W m ao n cap xs o C a b c d) (c' : Int) : Gq w (W.setCell ⟨C, 2, none⟩ (.int .u64 c')) m ao n cap xs o C a b c' d where
  rr := by unfold Cd.RR; rw [Below.heap_setCell _ _ _ _ (by have := h.ml; have := h.cl; show m ≠ C; omega)]; exact h.rr
  row := row_set h.row _ h.cells.2.2.1 (by simp)
  ans := (Below.heap_setCell _ _ _ _ (by have := h.cl; show w.heap.size ≠ C; omega)).trans h.ans
  got := by rw [setCell_eq_setRow W C 2 _ 39 (0, 0) _ h.got, setRow_heap _ _ _ _ _ _ h.got]; rfl
  gr := grown_set h.gr (by have := h.cl; omega) _
  ml := h.ml
  cl := h.cl
theorem Gq.who (h : Gq w W m ao n cap xs o C a b c d) (d' : Int) : Gq w (W.setCell ⟨C, 3, none⟩ (.int .i64 d')) m ao n cap xs o C a b c d' where
  rr := by unfold Cd.RR; rw [Below.heap_setCell _ _ _ _ (by have := h.ml; have := h.cl; show m ≠ C; omega)]; exact h.rr
  row := row_set h.row _ h.cells.2.2.2 (by simp)
  ans := (Below.heap_setCell _ _ _ _ (by have := h.cl; show w.heap.size ≠ C; omega)).trans h.ans
  got := by rw [setCell_eq_setRow W C 3 _ 39 (0, 0) _ h.got, setRow_heap _ _ _ _ _ _ h.got]; rfl
  gr := grown_set h.gr (by have := h.cl; omega) _
  ml := h.ml
  cl := h.cl
theorem Gq.fault (h : Gq w W m ao n cap xs o C a b c d) : Gq w (W.setCell ⟨m, 1, none⟩ (.int .i64 (-1))) m ao n cap xs none C a b c d where
  rr := h.rr.set none
  row := row_set h.row _ h.rr.cells.2.1 (by simp)
  ans := (Below.heap_setCell _ _ _ _ (by have := h.ml; show w.heap.size ≠ m; omega)).trans h.ans
  got := (Below.heap_setCell _ _ _ _ (by have := h.ml; have := h.cl; show C ≠ m; omega)).trans h.got
  gr := ⟨h.gr.os, h.gr.tape, h.gr.output, by simpa [World.setCell] using h.gr.size, fun k hk hne => (Below.heap_setCell _ _ _ _ (fun e => hne (by rw [e]))).trans (h.gr.block k hk hne)⟩
  ml := h.ml
  cl := h.cl
/-- The answer laid. -/
theorem Gq.told (h : Gq w W m ao n cap xs o C a b c d) (n' p s q : Int) : (∀ j v, #[Value.int .u64 n', .int .i64 p, .int .u64 s, .int .i64 q][j]? = some v → (W.setRow w.heap.size #[.int .u64 n', .int .i64 p, .int .u64 s, .int .i64 q]).cell? ⟨w.heap.size, j, none⟩ = some v) ∧
    Hid (Cd.RR (W.setRow w.heap.size #[.int .u64 n', .int .i64 p, .int .u64 s, .int .i64 q]) m ao n cap o ∧ w.grownBy (W.setRow w.heap.size #[.int .u64 n', .int .i64 p, .int .u64 s, .int .i64 q]) (some m)) := by
  refine ⟨fun j v hj => ?_, ?_, gr_row h.gr (Nat.le_refl _) _⟩
  · rw [cell_setRow_same _ _ _ _ _ _ _ h.ans]
    exact hj
  · unfold Cd.RR
    rw [setRow_other _ _ _ _ (by have := h.ml; show m ≠ w.heap.size; omega)]
    exact h.rr
end

end Go.Proofs.YtlaihgdfedalmaaGreat

/-
  Entries as bytes: what is laid behind bytes of one's own.
-/
namespace Go.Proofs.YtlaihgdfedalmaaGreat
open Go.RowKit
set_option linter.unusedVariables false

/-- Bytes of one's own that were laid on: what lay there besides is as it was. -/
structure Adds (B : Nat) (w w' : World) (v v' : Value) (xs : List UInt8) : Prop where
  own : w'.ownsRow B 5 1 v' xs.length (xs.map Cd.by8)
  gr : w.grownBy w' v.ownBlock
  at_ : ∀ k, v'.ownBlock = some k → v.ownBlock = some k ∨ w.heap.size ≤ k
theorem Adds.trans {B : Nat} {w w1 w2 : World} {v v1 v2 : Value} {xs ys : List UInt8} (h : Adds B w w1 v v1 xs) (k : Adds B w1 w2 v1 v2 ys) : Adds B w w2 v v2 ys where
  own := k.own
  gr := ⟨k.gr.os.trans h.gr.os, k.gr.tape.trans h.gr.tape, k.gr.output.trans h.gr.output, Nat.le_trans h.gr.size k.gr.size, fun i hi hne => (k.gr.block i (Nat.lt_of_lt_of_le hi h.gr.size) (fun e => by
    rcases h.at_ i e.symm with h1 | h1
    · exact hne h1.symm
    · omega)).trans (h.gr.block i hi hne)⟩
  at_ := fun i hi => by
    rcases k.at_ i hi with h1 | h1
    · exact h.at_ i h1
    · exact .inr (Nat.le_trans h.gr.size h1)
theorem Adds.after {B : Nat} {w w1 w2 : World} {v v2 : Value} {ys : List UInt8} (h : Below w.heap.size w w1) (k : Adds B w1 w2 v v2 ys) : Adds B w w2 v v2 ys where
  own := k.own
  gr := ⟨k.gr.os.trans h.os, k.gr.tape.trans h.tape, k.gr.output.trans h.output, Nat.le_trans h.size k.gr.size, fun i hi hne => (k.gr.block i (Nat.lt_of_lt_of_le hi h.size) hne).trans (h.block i hi)⟩
  at_ := fun i hi => by
    rcases k.at_ i hi with h1 | h1
    · exact .inl h1
    · exact .inr (Nat.le_trans h.size h1)
theorem Adds.below {B : Nat} {w w' : World} {v v' : Value} {xs : List UInt8} (h : Adds B w w' v v' xs) (hB : B ≤ w.heap.size) (hv : ∀ k, v.ownBlock = some k → B ≤ k) : Below B w w' :=
  bl_grown (Below.refl _ _) hB h.gr hv
theorem own_lt {w : World} {B n : Nat} {v : Value} {xs : List Value} (h : w.ownsRow B 5 1 v n xs) : ∀ k, v.ownBlock = some k → B ≤ k ∧ k < w.heap.size := fun k hk => ⟨(h.lt k hk).1, (h.lt k hk).2⟩
theorem ex_gr {B b : Nat} {x : Lb} {s : Value} {w w' : World} {r : Option Nat} (h : Ex b x s w) (g : w.grownBy w' r) (hr : r ≠ some b) : Ex b x s w' :=
  have hlt := h.lt
  have key : ∀ j v, w.cell? ⟨b, j, none⟩ = some v → w'.cell? ⟨b, j, none⟩ = some v := fun j v hc => (World.cell?_of_block (a := ⟨b, j, none⟩) (g.block b hlt (fun e => hr e.symm))).trans hc
  ⟨key _ _ h.1, key _ _ h.2.1, key _ _ h.2.2.1, key _ _ h.2.2.2.1, key _ _ h.2.2.2.2⟩
/-- Any bytes behind a row of bytes of one's own, and where they lie then. -/
theorem wpList_append_adds {w : World} {ops : Array Oper} {rest : List Oper} {o : Oper} {a : Act} {Q : Exit → Act → World → Prop} (hgd : o.guard = none) (s x : Operand)
    (ho : o.op = .call { callee := .builtin .append, args := #[s, x], argTypes := #[37, 37] }) (base : Nat)
    (v : Value) (xs : List UInt8) (hs : a.eval s = v) (hown : w.ownsRow base 5 1 v xs.length (xs.map Cd.by8))
    (ad : Addr) (m c : Nat) (ys : List UInt8) (hx : a.eval x = .slice (some ad) m c) (hl : ys.length = m) (hc : ∀ j u, (ys.map Cd.by8)[j]? = some u → w.cell? (ad.add j) = some u)
    (hnm : xs.length + m ≤ 140737488355328) (hbase : base ≤ w.heap.size)
    (h : ∀ v' w', Adds base w w' v v' (xs ++ ys) → wpList Tryz.prog ops Q rest (a.put o.dst v') w') :
    wpList Tryz.prog ops Q (o :: rest) a w := by
  obtain ⟨i0, hi0, hz0, hz1, hz2⟩ := info_parts info5
  refine wpList_append_own_at _ hgd s x 37 ho base 5 i0 (.int .u8 0) 1 1 und34 hi0 hz0 hz1 hz2 rfl (by decide) v xs.length (xs.map Cd.by8) hs hown ad m c (ys.map Cd.by8) hx (by simpa using hl) hc (fun u hu => ?_) (by unfold maxLen; omega) (by omega) hbase (fun v' w' a b _ d => h v' w' ⟨by simpa [hl] using a, b, fun k hk => ?_⟩)
  · obtain ⟨b, _, rfl⟩ := List.mem_map.1 hu
    rfl
  · rcases d with d | d
    · exact .inl (by rw [← d]; exact hk)
    · rw [d] at hk
      cases hk
      exact .inr (Nat.le_refl _)

set_option maxRecDepth 10000 in
set_option maxHeartbeats 1000000 in
theorem addLabel_any (w : World) (B : Nat) (hB : B ≤ w.heap.size) (v : Value) (xs : List UInt8) (hv : w.ownsRow B 5 1 v xs.length (xs.map Cd.by8)) (x : Lb) (hx : x.1 < 18446744073709551616) (hx2 : x.2.2.1 < 18446744073709551616) (hf : formL x = true) (hr : xs.length + 100 ≤ 140737488355328) :
    Calls Tryz.prog 95 #[v, lab x] w fun e w' => ∃ v', e = .returned v' ∧ Adds B w w' v v' (xs ++ encL x) := by
  obtain ⟨ao, cap, rfl⟩ := row_shape hv
  have hb0 : Below w.heap.size w (w.alloc (.cells #[.int .u64 (x.1 : Nat), .int .i64 x.2.1, .int .u64 (x.2.2.1 : Nat), .int .i64 x.2.2.2] 39)) := bl1 _ _
  have bx := bx_new w x.1 x.2.1 x.2.2.1 x.2.2.2 39
  have hv0 := own_bytes_below hv hb0
  have he := encodeL_any (w.alloc (.cells #[.int .u64 (x.1 : Nat), .int .i64 x.2.1, .int .u64 (x.2.2.1 : Nat), .int .i64 x.2.2.2] 39)) none 0 0 [] ⟨rfl, Nat.le_refl _, by unfold maxLen; omega, fun _ => ⟨rfl, rfl⟩, fun a ha => (by cases ha)⟩ x hx hx2 hf (by omega)
  have hlen : (encL x).length ≤ 22 ∧ 0 < (encL x).length := by
    have h1 := Cd.enc_length x.1
    have h2 := Cd.enc_length x.2.2.1
    unfold encL
    simp
    omega
  simp only [Nat.zero_add, List.nil_append] at he
  obtain ⟨E, HE⟩ : ∃ E, Hid (encL x = E) := ⟨_, rfl⟩
  rw [HE.out] at he hlen ⊢
  obtain ⟨d0, d1, d2, d3⟩ := bx
  obtain ⟨HB0, HV0⟩ : Hid (Below w.heap.size w (w.alloc (.cells #[.int .u64 (x.1 : Nat), .int .i64 x.2.1, .int .u64 (x.2.2.1 : Nat), .int .i64 x.2.2.2] 39))) ∧ Hid True := ⟨hb0, trivial⟩
  unfold lab at *
  clear hf hx hx2
  go_enter Tryz.func95, Tryz.ntmps95
  go_wp2_with fail
  refine he.mono ?_
  rintro e w1 ⟨v1, rfl, ho1, hb1⟩
  have hbb := bl_step HB0.out hb1
  have hv1 := own_bytes_below hv0 hb1
  obtain ⟨g, cg, hg1, _⟩ := row_some ho1 hlen.2
  subst hg1
  have hcs := ho1.cells (g := g) rfl
  have hs1 : B ≤ w1.heap.size := Nat.le_trans hB hbb.size
  clear he hb1 hb0 hv0 d0 d1 d2 d3 ho1 HB0 HV0 hv
  go_wp2_with (at_builtin; refine wpList_append_adds rfl (.tmp 12) (.tmp 13) rfl B _ xs rfl ?d1 ⟨g, 0, none⟩ E.length cg E rfl rfl ?d2 ?d3 ?d4 ?_)
  case d1 => exact hv1
  case d2 => exact hcs
  case d3 => omega
  case d4 => exact hs1
  intro v2 w2 ha
  have hab := Adds.after hbb ha
  clear ha hcs hv1 hbb hs1
  go_wp2
  go_ret
  exact ⟨v2, rfl, hab⟩

/-- An entry's bytes. -/
def encE (x : Lb) (m : List UInt8) : List UInt8 := encL x ++ (Cd.enc m.length ++ m)
theorem run_append_adds {w : World} {B : Nat} {v : Value} {xs ys : List UInt8} {ad : Addr} {m c : Nat} {ty : TypeId} (h : w.ownsRow B 5 1 v xs.length (xs.map Cd.by8)) (hB : B ≤ w.heap.size) (hl : ys.length = m) (hn : xs.length + m ≤ 140737488355328) (hc : ∀ j u, (ys.map Cd.by8)[j]? = some u → w.cell? (ad.add j) = some u) :
    ∃ v' w', (Builtin.append_ #[37, 37] ty #[v, .slice (some ad) m c]).run Tryz.prog w = .ok v' w' ∧ Adds B w w' v v' (xs ++ ys) := by
  obtain ⟨i0, hi0, hz0, hz1, hz2⟩ := info_parts info5
  obtain ⟨v', w', hr, h1, h2, _, d⟩ := run_append_own_at (P := Tryz.prog) w B 37 ty 5 i0 (.int .u8 0) 1 1 und34 hi0 hz0 hz1 hz2 rfl (by decide) v xs.length (xs.map Cd.by8) h ad m c (ys.map Cd.by8) (by simpa using hl) hc (fun u hu => by obtain ⟨b, _, rfl⟩ := List.mem_map.1 hu; rfl) (by unfold maxLen; omega) (by omega) hB
  refine ⟨v', w', hr, by simpa [hl] using h1, h2, fun k hk => ?_⟩
  rcases d with d | d
  · exact .inl (by rw [← d]; exact hk)
  · rw [d] at hk
    cases hk
    exact .inr (Nat.le_refl _)
theorem row_bl {B : Nat} {w w' : World} {ao : Option Addr} {n cap : Nat} {xs : List UInt8} (h : Cd.Row w ao n cap xs) (u : Below B w w') (hB : ∀ a, ao = some a → 0 < n → a.block < B) : Cd.Row w' ao n cap xs :=
  ⟨h.1, h.2.1, h.2.2.1, h.2.2.2.1, fun a ha i hi => (u.cell (p := a.add i) (by have := hB a ha (by omega); unfold Addr.add; split <;> exact this)).trans (h.2.2.2.2 a ha i hi)⟩
theorem row_lt {w : World} {ao : Option Addr} {n cap : Nat} {xs : List UInt8} (h : Cd.Row w ao n cap xs) : ∀ a, ao = some a → 0 < n → a.block < w.heap.size := fun a ha hn => by
  have := World.block_lt_of_cell? w _ (h.2.2.2.2 a ha 0 hn)
  simpa [Addr.add] using this
theorem nil_row (w : World) : Cd.Row w none 0 0 [] := ⟨rfl, Nat.le_refl _, by unfold maxLen; omega, fun _ => ⟨rfl, rfl⟩, fun a ha => (by cases ha)⟩
theorem encL_len (x : Lb) : (encL x).length ≤ 22 ∧ 0 < (encL x).length := by
  have h1 := Cd.enc_length x.1
  have h2 := Cd.enc_length x.2.2.1
  unfold encL
  simp
  omega

set_option maxRecDepth 10000 in
set_option maxHeartbeats 1000000 in
theorem addEntry_any (w : World) (B : Nat) (hB : B ≤ w.heap.size) (v : Value) (xs : List UInt8) (hv : w.ownsRow B 5 1 v xs.length (xs.map Cd.by8)) (x : Lb) (hx : x.1 < 18446744073709551616) (hx2 : x.2.2.1 < 18446744073709551616) (hf : formL x = true)
    (bo : Option Addr) (m bcap : Nat) (ys : List UInt8) (hy : Cd.Row w bo m bcap ys) (hyB : ∀ a, bo = some a → 0 < m → a.block < B) (hm : m ≤ 64) (hr : xs.length + 1000 ≤ 140737488355328) :
    Calls Tryz.prog 94 #[v, ent x (.slice bo m bcap)] w fun e w' => ∃ v', e = .returned v' ∧ Adds B w w' v v' (xs ++ encE x ys) := by
  obtain ⟨ao, cap, rfl⟩ := row_shape hv
  have hb0 : Below w.heap.size w (w.alloc (.cells #[.int .u64 (x.1 : Nat), .int .i64 x.2.1, .int .u64 (x.2.2.1 : Nat), .int .i64 x.2.2.2, .slice bo m bcap] 41)) := bl1 _ _
  have ex0 := ex_new w x (.slice bo m bcap) 41
  have hlen := encL_len x
  have hel := Cd.enc_length m
  have hep := Cd.enc_pos m
  have hyl := hy.1
  have key : ∀ W, Below w.heap.size w W → Ex w.heap.size x (.slice bo m bcap) W → Calls Tryz.prog 95 #[.slice ao xs.length cap, lab x] W (fun e w' => ∃ v' ao' cap', e = .returned (.slice ao' (xs ++ encL x).length cap') ∧ v' = Value.slice ao' (xs ++ encL x).length cap' ∧ Adds B w w' (.slice ao xs.length cap) v' (xs ++ encL x) ∧ Ex w.heap.size x (.slice bo m bcap) w' ∧ Cd.Row w' bo m bcap ys ∧ B ≤ w'.heap.size ∧ (∀ k, v'.ownBlock = some k → k ≠ w.heap.size)) := by
    intro W hW hE
    refine (addLabel_any W B (Nat.le_trans hB hW.size) _ xs (own_bytes_below hv hW) x hx hx2 hf (by omega)).mono ?_
    rintro e w1 ⟨v1, rfl, ha⟩
    obtain ⟨ao', cap', rfl⟩ := row_shape ha.own
    have hab := Adds.after hW ha
    have hbl := hab.below hB (fun k hk => (own_lt hv k hk).1)
    exact ⟨_, _, _, rfl, rfl, hab, ex_gr (B := B) hE ha.gr (fun e => by have := (own_lt hv _ e).2; omega), row_bl hy hbl hyB, Nat.le_trans hB hbl.size, fun k hk => by
      have hlt := hE.lt
      rcases ha.at_ k hk with h | h
      · have := (own_lt hv _ h).2; omega
      · omega⟩
  have key2 : ∀ W, Cd.Row W bo m bcap ys → Calls Tryz.prog 120 #[.slice none 0 0, .slice bo m bcap] W (fun e w' => ∃ g cg, e = .returned (.slice (some ⟨g, 0, none⟩) (Cd.enc ys.length ++ ys).length cg) ∧ (∀ j u, ((Cd.enc ys.length ++ ys).map Cd.by8)[j]? = some u → w'.cell? ((⟨g, 0, none⟩ : Addr).add j) = some u) ∧ Below W.heap.size W w') := by
    intro W hW
    refine (Cd.bytes_any W none 0 0 [] (nil_row W) bo m bcap ys hW (by omega) (by omega)).mono ?_
    rintro e w1 ⟨v1, rfl, ho, hb⟩
    obtain ⟨g, cg, rfl, _⟩ := row_some ho (by omega)
    have hcs := ho.cells (g := g) rfl
    refine ⟨g, cg, by simp [hyl], ?_, hb⟩
    simpa [hyl] using hcs
  have HX : Hid (xs ++ encE x ys = xs ++ encL x ++ (Cd.enc ys.length ++ ys) ∧ (xs ++ encL x).length + (Cd.enc ys.length ++ ys).length ≤ 140737488355328) := by
    refine ⟨by simp [encE], ?_⟩
    simp
    rw [hyl]
    omega
  generalize xs ++ encL x = zs at *
  generalize Cd.enc ys.length ++ ys = us at *
  have HY : Hid (B ≤ w.heap.size) := hB
  have k0 := key _ (show Below w.heap.size w (w.alloc (.cells #[.int .u64 (x.1 : Nat), .int .i64 x.2.1, .int .u64 (x.2.2.1 : Nat), .int .i64 x.2.2.2, .slice bo m bcap] 41)).drew from hb0.drew) (show Ex w.heap.size x (.slice bo m bcap) (w.alloc (.cells #[.int .u64 (x.1 : Nat), .int .i64 x.2.1, .int .u64 (x.2.2.1 : Nat), .int .i64 x.2.2.2, .slice bo m bcap] 41)).drew from ex0)
  clear key hx hx2 hf hr hm hyB hy hlen hel hep hyl hv hB hb0
  unfold ent
  unfold lab at k0
  go_enter Tryz.func94, Tryz.ntmps94
  go_wp2_with fail
  refine wp_region_noPanic ?_
  refine wp_region_held_drew (S := Ex w.heap.size x (.slice bo m bcap)) (by kernel_rfl) ex0 (fun hHeld => ?_)
  unfold Ex at hHeld
  refine tq 0 ?_
  refine tq 1 ?_
  refine tq 2 ?_
  refine tq 4 ?_
  refine tq 5 ?_
  refine comes_up 3 rfl (by kernel_rfl) (fun K hK => ?_)
  go_simp
  refine k0.mono ?_
  rintro e w1 ⟨v1, ao1, cap1, rfl, rfl, ha1, ex1, hy1, hB1, hne1⟩
  clear k0 ex0
  go_wp2_with fail
  refine hK.out _ _ ex1 (fun hHeld => ?_)
  clear hK K
  (try simp only [Act.put, List.setIfInBounds_toArray, List.set_cons_zero, List.set_cons_succ])
  refine comes_up 6 rfl (by kernel_rfl) (fun K hK => ?_)
  go_simp
  refine (key2 _ hy1).mono ?_
  rintro e w2 ⟨g, cg, rfl, hcs, hb2⟩
  obtain ⟨v3, w3, hrun, ha3⟩ := run_append_adds (ty := 37) (c := cg) (m := us.length) (own_bytes_below ha1.own hb2) (Nat.le_trans hB1 hb2.size) rfl HX.out.2 hcs
  have ex2 := ex1.bl hb2
  have ex3 : Ex w.heap.size x (.slice bo m bcap) w3 := ex_gr (B := B) ex2 ha3.gr (fun e => hne1 _ e rfl)
  have HF : Hid (Adds B w w3 (.slice ao xs.length cap) v3 (xs ++ encE x ys)) := by
    rw [HX.out.1]
    exact ha1.trans (Adds.after hb2 ha3)
  clear key2 hcs hb2 ha1 ha3 hne1 hy1 hB1 HX ex1
  go_wp2_with fail
  refine hK.out _ _ ex2 (fun hHeld => ?_)
  clear hK K
  (try simp only [Act.put, List.setIfInBounds_toArray, List.set_cons_zero, List.set_cons_succ])
  refine comes_up 7 rfl (by kernel_rfl) (fun K hK => ?_)
  refine step_append_run rfl (.tmp 8) (.tmp 11) 37 rfl (.slice ao1 zs.length cap1) (.slice (some ⟨g, 0, none⟩) us.length cg) v3 w3 (by simp [Act.eval]) (by simp [Act.eval]) hrun ?_
  refine hK.out _ _ ex3 (fun hHeld => ?_)
  clear hK K
  (try simp only [Act.put, List.setIfInBounds_toArray, List.set_cons_zero, List.set_cons_succ])
  refine tq 8 ?_
  refine wpAnyH_done (by kernel_rfl) ?_ _
  refine NoPanic.normal ?_
  go_wp2
  go_ret
  exact ⟨v3, rfl, HF.out⟩
end Go.Proofs.YtlaihgdfedalmaaGreat

/-
  Entries in memory.
-/
namespace Go.Proofs.YtlaihgdfedalmaaGreat
open Go.RowKit
set_option linter.unusedVariables false

/-- An entry's five cells, and its message, in blocks of p. -/
def EC (p : Nat → Prop) (w : World) (b off : Nat) (e : Lb × List UInt8) : Prop :=
  ∃ so sn sc, w.cell? ⟨b, off, none⟩ = some (.int .u64 (e.1.1 : Nat)) ∧ w.cell? ⟨b, off + 1, none⟩ = some (.int .i64 e.1.2.1) ∧ w.cell? ⟨b, off + 2, none⟩ = some (.int .u64 (e.1.2.2.1 : Nat)) ∧ w.cell? ⟨b, off + 3, none⟩ = some (.int .i64 e.1.2.2.2) ∧ w.cell? ⟨b, off + 4, none⟩ = some (.slice so sn sc) ∧ Cd.Row w so sn sc e.2 ∧ ∀ a, so = some a → 0 < sn → p a.block
/-- Entries in memory, in blocks of p. -/
def ER (p : Nat → Prop) (w : World) (ao : Option Addr) (n : Nat) (es : List (Lb × List UInt8)) : Prop :=
  es.length = n ∧ n ≤ 9223372036854775807 ∧ (0 < n → ∃ b off, ao = some ⟨b, off, none⟩ ∧ p b ∧ ∀ j e, es[j]? = some e → EC p w b (off + j * 5) e)
/-- What lies in blocks of p is read as before. -/
def Kp (p : Nat → Prop) (w w' : World) : Prop := ∀ ad v, p ad.block → w.cell? ad = some v → w'.cell? ad = some v
theorem Kp.trans {p : Nat → Prop} {a b c : World} (h : Kp p a b) (k : Kp p b c) : Kp p a c := fun ad v hp hv => k ad v hp (h ad v hp hv)
theorem Kp.refl (p : Nat → Prop) (a : World) : Kp p a a := fun _ _ _ h => h
theorem Kp.bl {p : Nat → Prop} {w w' : World} (u : Below w.heap.size w w') : Kp p w w' := fun ad v _ hv => bl_cell u hv
theorem Kp.base {B : Nat} {w w' : World} (u : Below B w w') : Kp (· < B) w w' := fun ad v hp hv => (u.cell hp).trans hv
theorem Kp.mono {p q : Nat → Prop} {a b : World} (h : Kp p a b) (hq : ∀ k, q k → p k) : Kp q a b := fun ad v hp hv => h ad v (hq _ hp) hv
theorem add_block (a : Addr) (i : Nat) : (a.add i).block = a.block := by unfold Addr.add; split <;> rfl
theorem row_kp {p : Nat → Prop} {w w' : World} {ao : Option Addr} {n cap : Nat} {xs : List UInt8} (h : Cd.Row w ao n cap xs) (hp : ∀ a, ao = some a → 0 < n → p a.block) (k : Kp p w w') : Cd.Row w' ao n cap xs :=
  ⟨h.1, h.2.1, h.2.2.1, h.2.2.2.1, fun a ha i hi => k _ _ (by rw [add_block]; exact hp a ha (by omega)) (h.2.2.2.2 a ha i hi)⟩
theorem EC.kp {p : Nat → Prop} {w w' : World} {b off : Nat} {e : Lb × List UInt8} (h : EC p w b off e) (hb : p b) (k : Kp p w w') : EC p w' b off e := by
  obtain ⟨so, sn, sc, h0, h1, h2, h3, h4, h5, h6⟩ := h
  exact ⟨so, sn, sc, k _ _ hb h0, k _ _ hb h1, k _ _ hb h2, k _ _ hb h3, k _ _ hb h4, row_kp h5 h6 k, h6⟩
theorem EC.mono {p q : Nat → Prop} {w : World} {b off : Nat} {e : Lb × List UInt8} (h : EC p w b off e) (hq : ∀ k, p k → q k) : EC q w b off e := by
  obtain ⟨so, sn, sc, h0, h1, h2, h3, h4, h5, h6⟩ := h
  exact ⟨so, sn, sc, h0, h1, h2, h3, h4, h5, fun a ha hn => hq _ (h6 a ha hn)⟩
theorem ER.kp {p : Nat → Prop} {w w' : World} {ao : Option Addr} {n : Nat} {es : List (Lb × List UInt8)} (h : ER p w ao n es) (k : Kp p w w') : ER p w' ao n es := by
  refine ⟨h.1, h.2.1, fun hn => ?_⟩
  obtain ⟨b, off, e, hp, hh⟩ := h.2.2 hn
  exact ⟨b, off, e, hp, fun j x hj => (hh j x hj).kp hp k⟩
theorem ER.mono {p q : Nat → Prop} {w : World} {ao : Option Addr} {n : Nat} {es : List (Lb × List UInt8)} (h : ER p w ao n es) (hq : ∀ k, p k → q k) : ER q w ao n es := by
  refine ⟨h.1, h.2.1, fun hn => ?_⟩
  obtain ⟨b, off, e, hp, hh⟩ := h.2.2 hn
  exact ⟨b, off, e, hq _ hp, fun j x hj => (hh j x hj).mono hq⟩
theorem ER.bl {p : Nat → Prop} {w w' : World} {ao : Option Addr} {n : Nat} {es : List (Lb × List UInt8)} (h : ER p w ao n es) (u : Below w.heap.size w w') : ER p w' ao n es := h.kp (Kp.bl u)
theorem ER.nil (p : Nat → Prop) (w : World) (ao : Option Addr) : ER p w ao 0 [] := ⟨rfl, by omega, fun h => by omega⟩
/-- All of it lies in blocks that are there. -/
theorem ER.here {p : Nat → Prop} {w : World} {ao : Option Addr} {n : Nat} {es : List (Lb × List UInt8)} (h : ER p w ao n es) : ER (fun k => p k ∧ k < w.heap.size) w ao n es := by
  refine ⟨h.1, h.2.1, fun hn => ?_⟩
  obtain ⟨b, off, e, hp, hh⟩ := h.2.2 hn
  have hlen : 0 < es.length := by have := h.1; omega
  have h0 : es[0]? = some (es[0]'hlen) := List.getElem?_eq_getElem hlen
  obtain ⟨_, _, _, hc, _⟩ := hh 0 _ h0
  refine ⟨b, off, e, ⟨hp, World.block_lt_of_cell? w _ hc⟩, fun j x hj => ?_⟩
  obtain ⟨so, sn, sc, k0, k1, k2, k3, k4, k5, k6⟩ := hh j x hj
  exact ⟨so, sn, sc, k0, k1, k2, k3, k4, k5, fun a ha hn => ⟨k6 a ha hn, row_lt k5 a ha hn⟩⟩
end Go.Proofs.YtlaihgdfedalmaaGreat

/-
  Entries by their labels: one more, and what stands at a label.
-/
namespace Go.Proofs.YtlaihgdfedalmaaGreat
open Go.RowKit
set_option linter.unusedVariables false

abbrev En := Lb × List UInt8
def ltL (x y : Lb) : Prop := x.1 < y.1 ∨ x.1 = y.1 ∧ (x.2.1 < y.2.1 ∨ x.2.1 = y.2.1 ∧ (x.2.2.1 < y.2.2.1 ∨ x.2.2.1 = y.2.2.1 ∧ x.2.2.2 < y.2.2.2))
instance (x y : Lb) : Decidable (ltL x y) := by unfold ltL; infer_instance
theorem cmpL_lt (x y : Lb) : cmpL x y < 0 ↔ ltL x y := by
  obtain ⟨n1, p1, s1, q1⟩ := x
  obtain ⟨n2, p2, s2, q2⟩ := y
  unfold cmpL cmpV sgn ltL
  simp only
  repeat' split
  all_goals omega
theorem ltL_irr (x : Lb) : ¬ ltL x x := by unfold ltL; omega
theorem ltL_trans {x y z : Lb} (h : ltL x y) (k : ltL y z) : ltL x z := by unfold ltL at *; omega
theorem ltL_ntrans {x y z : Lb} (h : ¬ ltL x y) (k : ltL z y) : ¬ ltL x z := by unfold ltL at *; omega
theorem ltL_tri {x y : Lb} (h : ¬ ltL x y) (hne : y ≠ x) : ltL y x := by
  obtain ⟨n1, p1, s1, q1⟩ := x
  obtain ⟨n2, p2, s2, q2⟩ := y
  simp only [ne_eq, Prod.mk.injEq] at hne
  unfold ltL at *
  simp only at *
  omega
/-- One more entry, ahead of the first that is greater. -/
def insR (e : En) : List En → List En
  | [] => [e]
  | y :: r => if ltL e.1 y.1 then e :: y :: r else y :: insR e r
theorem insR_mem (e : En) : ∀ (l : List En) (z : En), z ∈ insR e l ↔ z = e ∨ z ∈ l
  | [], z => by simp [insR]
  | y :: r, z => by
    unfold insR
    split
    · simp
    · simp only [List.mem_cons, insR_mem e r z]
      constructor
      · rintro (h | h | h) <;> simp [h]
      · rintro (h | h | h) <;> simp [h]
def Asc (l : List En) : Prop := l.Pairwise (fun a b => ltL a.1 b.1)
theorem insR_asc (e : En) : ∀ (l : List En), Asc l → (∀ y ∈ l, y.1 ≠ e.1) → Asc (insR e l)
  | [], _, _ => by simp [insR, Asc]
  | y :: r, h, hn => by
    have h' := List.pairwise_cons.1 h
    unfold insR
    split
    · rename_i hlt
      refine List.pairwise_cons.2 ⟨fun z hz => ?_, h⟩
      rcases List.mem_cons.1 hz with rfl | hz
      · exact hlt
      · exact ltL_trans hlt (h'.1 z hz)
    · rename_i hlt
      refine List.pairwise_cons.2 ⟨fun z hz => ?_, insR_asc e r h'.2 (fun z hz => hn z (by simp [hz]))⟩
      rcases (insR_mem e r z).1 hz with rfl | hz
      · exact ltL_tri hlt (hn y (by simp))
      · exact h'.1 z hz
theorem insR_len (e : En) : ∀ (l : List En), (insR e l).length = l.length + 1
  | [] => rfl
  | y :: r => by
    unfold insR
    split
    · simp
    · simp [insR_len e r]
/-- The message of a label. -/
def findE (l : List En) (x : Lb) : Option (List UInt8) := (l.find? (fun e => decide (e.1 = x))).map (·.2)
def mstep (l : List En) (e : En) : List En := if (findE l e.1).isSome then l else insR e l
def mergeE (l more : List En) : List En := more.foldl mstep l
theorem findE_none {l : List En} {x : Lb} (h : findE l x = none) : ∀ y ∈ l, y.1 ≠ x := by
  unfold findE at h
  rw [Option.map_eq_none_iff, List.find?_eq_none] at h
  intro y hy e
  exact h y hy (by simpa using e)
theorem mstep_asc {l : List En} {e : En} (h : Asc l) : Asc (mstep l e) := by
  unfold mstep
  split
  · exact h
  · rename_i hn
    refine insR_asc e l h (findE_none ?_)
    cases hf : findE l e.1 with
    | none => rfl
    | some m => rw [hf] at hn; simp at hn
theorem mstep_len (l : List En) (e : En) : (mstep l e).length ≤ l.length + 1 := by
  unfold mstep
  split
  · omega
  · rw [insR_len]; omega
theorem mergeE_asc : ∀ (more l : List En), Asc l → Asc (mergeE l more)
  | [], l, h => h
  | e :: more, l, h => mergeE_asc more (mstep l e) (mstep_asc h)
theorem mergeE_len : ∀ (more l : List En), (mergeE l more).length ≤ l.length + more.length
  | [], l => by simp [mergeE]
  | e :: more, l => by
    have h1 := mergeE_len more (mstep l e)
    have h2 := mstep_len l e
    have : mergeE l (e :: more) = mergeE (mstep l e) more := rfl
    rw [this, List.length_cons]
    omega
end Go.Proofs.YtlaihgdfedalmaaGreat

/-
  Which of two entries comes first.
-/
namespace Go.Proofs.YtlaihgdfedalmaaGreat
open Go.RowKit
set_option linter.unusedVariables false
set_option maxRecDepth 10000 in
set_option maxHeartbeats 1000000 in
theorem compareE_any (w : World) (x y : Lb) (s t : Value) : Calls Tryz.prog 143 #[ent x s, ent y t] w fun e w' => e = .returned (.int .i64 (cmpL x y)) ∧ Up w w' := by
  have c1 := fun W => compareL_any W x y
  have up0 : Up w ((w.alloc (.cells #[.int .u64 (x.1 : Nat), .int .i64 x.2.1, .int .u64 (x.2.2.1 : Nat), .int .i64 x.2.2.2, s] 41)).alloc (.cells #[.int .u64 (y.1 : Nat), .int .i64 y.2.1, .int .u64 (y.2.2.1 : Nat), .int .i64 y.2.2.2, t] 41)) := ((Up.refl _).alloc _).alloc _
  have ex := (ex_new w x s 41).bl (bl1 _ (.cells #[.int .u64 (y.1 : Nat), .int .i64 y.2.1, .int .u64 (y.2.2.1 : Nat), .int .i64 y.2.2.2, t] 41))
  have ey := ex_new (w.alloc (.cells #[.int .u64 (x.1 : Nat), .int .i64 x.2.1, .int .u64 (x.2.2.1 : Nat), .int .i64 x.2.2.2, s] 41)) y t 41
  have hsz : (w.alloc (.cells #[.int .u64 (x.1 : Nat), .int .i64 x.2.1, .int .u64 (x.2.2.1 : Nat), .int .i64 x.2.2.2, s] 41)).heap.size = w.heap.size + 1 := by simp
  rw [hsz] at ey
  generalize cmpL x y = C at *
  obtain ⟨a, b, c, d⟩ := x
  obtain ⟨a', b', c', d'⟩ := y
  unfold lab at c1
  unfold ent
  simp only at c1 up0 ex ey ⊢
  obtain ⟨x0, x1, x2, x3, x4⟩ := ex
  obtain ⟨y0, y1, y2, y3, y4⟩ := ey
  clear hsz
  go_enter Tryz.func143, Tryz.ntmps143
  go_wp2_with fail
  refine (c1 _).mono ?_
  rintro e w1 ⟨rfl, hb⟩
  have up1 := up0.trans hb
  clear hb c1 up0 x0 x1 x2 x3 x4 y0 y1 y2 y3 y4
  go_wp2
  go_ret
  exact ⟨rfl, up1⟩
end Go.Proofs.YtlaihgdfedalmaaGreat

/-
  climb: it goes through entries, and tells of each whether its label is above that of the one ahead of it.
-/
namespace Go.Proofs.YtlaihgdfedalmaaGreat
open Go.RowKit Go.Shelf
set_option linter.unusedVariables false
set_option linter.unusedSimpArgs false
attribute [local go_sem] Oper.semAt_some

abbrev Sl := Option Addr × Nat × Nat
def dsl : Lb × Sl := ((0, 0, 0, 0), (none, 0, 0))
/-- Is the k-th label above the one ahead of it? -/
def abv (xs : List (Lb × Sl)) (k : Nat) : Bool := decide (k = 0) || decide (0 < cmpL (xs.getD k dsl).1 (xs.getD (k - 1) dsl).1)
def entS (e : Lb × Sl) : Value := ent e.1 (.slice e.2.1 e.2.2.1 e.2.2.2)
def encs (xs : List (Lb × Sl)) (k : { k : Nat // k < xs.length }) : Array Value := #[entS (xs.getD k.1 dsl), .bool (abv xs k.1)]
/-- Five cells of an entry. -/
def C5 (w : World) (b off : Nat) (e : Lb × Sl) : Prop :=
  w.cell? ⟨b, off, none⟩ = some (.int .u64 (e.1.1 : Nat)) ∧ w.cell? ⟨b, off + 1, none⟩ = some (.int .i64 e.1.2.1) ∧ w.cell? ⟨b, off + 2, none⟩ = some (.int .u64 (e.1.2.2.1 : Nat)) ∧ w.cell? ⟨b, off + 3, none⟩ = some (.int .i64 e.1.2.2.2) ∧ w.cell? ⟨b, off + 4, none⟩ = some (.slice e.2.1 e.2.2.1 e.2.2.2)
/-- What a round must keep: the entries' block, and the box of their list. -/
def Kb (b Bs : Nat) (W W' : World) : Prop := W'.heap[b]? = W.heap[b]? ∧ W'.heap[Bs]? = W.heap[Bs]?
theorem Kb.trans {b Bs : Nat} {A B C : World} (h : Kb b Bs A B) (k : Kb b Bs B C) : Kb b Bs A C := ⟨k.1.trans h.1, k.2.trans h.2⟩
theorem Kb.bl {b Bs : Nat} {A B : World} (u : Below A.heap.size A B) (h1 : b < A.heap.size) (h2 : Bs < A.heap.size) : Kb b Bs A B := ⟨u.block b h1, u.block Bs h2⟩
theorem Kb.cell {b Bs : Nat} {A B : World} (h : Kb b Bs A B) {j : Nat} {v : Value} (hc : A.cell? ⟨b, j, none⟩ = some v) : B.cell? ⟨b, j, none⟩ = some v := (World.cell?_of_block (a := ⟨b, j, none⟩) h.1).trans hc
theorem Kb.cells {b Bs : Nat} {A B : World} (h : Kb b Bs A B) {j : Nat} {v : Value} (hc : A.cell? ⟨Bs, j, none⟩ = some v) : B.cell? ⟨Bs, j, none⟩ = some v := (World.cell?_of_block (a := ⟨Bs, j, none⟩) h.2).trans hc
theorem C5.kb {b Bs off : Nat} {A B : World} {e : Lb × Sl} (h : Kb b Bs A B) (c : C5 A b off e) : C5 B b off e := ⟨h.cell c.1, h.cell c.2.1, h.cell c.2.2.1, h.cell c.2.2.2.1, h.cell c.2.2.2.2⟩
/-- The first k places. -/
def firsts (n : Nat) : (k : Nat) → k ≤ n → List { k : Nat // k < n }
  | 0, _ => []
  | k + 1, h => firsts n k (by omega) ++ [⟨k, by omega⟩]
theorem firsts_len (n : Nat) : ∀ (k : Nat) (h : k ≤ n), (firsts n k h).length = k
  | 0, _ => rfl
  | k + 1, h => by simp [firsts, firsts_len n k]
/-- What a round reads of the list. -/
def Sc (Bs b off cap : Nat) (g : Nat) (k n : Nat) (x : Lb) (s : Sl) (y : Lb) (t : Sl) (w : World) : Prop :=
  w.cell? ⟨Bs, 0, none⟩ = some (.slice (some ⟨b, off, none⟩) n cap) ∧
  w.cell? ⟨g, 0, none⟩ = some (.int .u64 (x.1 : Nat)) ∧ w.cell? ⟨g, 1, none⟩ = some (.int .i64 x.2.1) ∧ w.cell? ⟨g, 2, none⟩ = some (.int .u64 (x.2.2.1 : Nat)) ∧ w.cell? ⟨g, 3, none⟩ = some (.int .i64 x.2.2.2) ∧ w.cell? ⟨g, 4, none⟩ = some (.slice s.1 s.2.1 s.2.2) ∧
  w.cell? ⟨b, off + k * 5, none⟩ = some (.int .u64 (y.1 : Nat)) ∧ w.cell? ⟨b, off + k * 5 + 1, none⟩ = some (.int .i64 y.2.1) ∧ w.cell? ⟨b, off + k * 5 + 2, none⟩ = some (.int .u64 (y.2.2.1 : Nat)) ∧ w.cell? ⟨b, off + k * 5 + 3, none⟩ = some (.int .i64 y.2.2.2) ∧ w.cell? ⟨b, off + k * 5 + 4, none⟩ = some (.slice t.1 t.2.1 t.2.2)

set_option maxRecDepth 100000 in
set_option maxHeartbeats 2000000 in
theorem climb1_in (m : Nat) (hm : 1 ≤ m) (l Bs b off cap : Nat) (xs : List (Lb × Sl)) (hmax : xs.length ≤ 140737488355328) (J Jx : List { k : Nat // k < xs.length } → World → Prop)
    (hY : ∀ pre x W, J pre W → pre.length < xs.length → YieldAt Fence.wide (m - 1) Tryz.prog l (encs xs x) W fun e W' => (e = .returned (.bool true) ∧ J (pre ++ [x]) W' ∧ Kb b Bs W W') ∨ (e = .returned (.bool false) ∧ Jx (pre ++ [x]) W'))
    (W : World) (hJ : ∀ s A B, J s A → A.grownBy B none → J s B) (hBs : W.cell? ⟨Bs, 0, none⟩ = some (.slice (some ⟨b, off, none⟩) xs.length cap)) (hc : ∀ j e, xs[j]? = some e → C5 W b (off + j * 5) e) (h0 : J [] W) :
    CallsIn Fence.wide m Tryz.prog 171 #[.func (.yield l) #[] #[], .pointer (some ⟨Bs, 0, none⟩)] W fun e W' => (∃ v, e = .returned v) ∧
      ((∃ ys, ys = firsts xs.length xs.length (Nat.le_refl _) ∧ J ys W') ∨ (∃ pre, (∃ k h, pre = firsts xs.length k h) ∧ Jx pre W')) := by
  refine callsIn_of_wp Tryz.func171 rfl trivial ?_ rfl
  simp only [Tryz.ntmps171, List.size_toArray, List.length_cons, List.length_nil, Nat.reduceAdd, Nat.reduceSub, Array.replicate_succ, Array.replicate_zero, List.push_toArray, List.append_toArray, List.nil_append, List.cons_append]
  gi_wp2
  gi_loopw [8] (fun i wr => ∃ k : Nat, ∃ h : k ≤ xs.length, i = .int .i64 k ∧ J (firsts xs.length k h) wr ∧ Kb b Bs W wr)
    (fun i _ => xs.length - (intOf i).toNat)
  case atStart => exact ⟨0, Nat.zero_le _, rfl, h0, rfl, rfl⟩
  case round =>
    obtain ⟨k, hk, rfl, hJs, hnx⟩ := hrel
    by_cases hlt : k < xs.length
    · obtain ⟨x, hx⟩ : ∃ x, xs[k]? = some x := ⟨xs[k]'hlt, List.getElem?_eq_getElem hlt⟩
      have hxd : xs.getD k dsl = x := by simp [List.getD, hx]
      have hcx := (hc k x hx).kb hnx
      have hbx := hnx.cells hBs
      have hltI : (k : Int) < (xs.length : Int) := by omega
      have hk0 : ¬ ((k : Int) < 0) := by omega
      obtain ⟨⟨a0, a1, a2, a3⟩, so, sn, sc⟩ := x
      obtain ⟨c0, c1, c2, c3, c4⟩ := id hcx
      simp only at c0 c1 c2 c3 c4
      have hbl : b < wr.heap.size := World.block_lt_of_cell? wr _ c0
      have hBl : Bs < wr.heap.size := World.block_lt_of_cell? wr _ hbx
      have u0 : Below wr.heap.size wr (wr.alloc (.cells #[.int .u64 (a0 : Nat), .int .i64 a1, .int .u64 (a2 : Nat), .int .i64 a3, .slice so sn sc] 41)).drew := (bl1 _ _).drew
      have ex0 : Ex wr.heap.size (a0, a1, a2, a3) (.slice so sn sc) (wr.alloc (.cells #[.int .u64 (a0 : Nat), .int .i64 a1, .int .u64 (a2 : Nat), .int .i64 a3, .slice so sn sc] 41)).drew := ex_new wr (a0, a1, a2, a3) (.slice so sn sc) 41
      have fin : ∀ (W5 : World) (ab : Bool), Below wr.heap.size wr W5 → Ex wr.heap.size (a0, a1, a2, a3) (.slice so sn sc) W5 → abv xs k = ab → YieldAt Fence.wide (m - 1) Tryz.prog l #[.agg #[.int .u64 (a0 : Nat), .int .i64 a1, .int .u64 (a2 : Nat), .int .i64 a3, .slice so sn sc], .bool ab] W5 (fun e W' => (e = .returned (.bool true) ∧ J (firsts xs.length (k + 1) hlt) W' ∧ Kb b Bs W W') ∨ (e = .returned (.bool false) ∧ Jx (firsts xs.length (k + 1) hlt) W')) := by
        intro W5 ab hu hE hab
        have h5 := hY (firsts xs.length k hk) ⟨k, hlt⟩ W5 (hJ _ _ _ hJs ⟨hu.os, hu.tape, hu.output, hu.size, fun i hi _ => hu.block i hi⟩) (by rw [firsts_len]; exact hlt)
        have he : encs xs ⟨k, hlt⟩ = #[.agg #[.int .u64 (a0 : Nat), .int .i64 a1, .int .u64 (a2 : Nat), .int .i64 a3, .slice so sn sc], .bool ab] := by
          unfold encs entS ent
          rw [hxd, hab]
        rw [he] at h5
        obtain ⟨f1, f2, f3, f4, f5, f6⟩ := h5
        refine ⟨f1, f2, f3, f4, f5, f6.mono ?_⟩
        rintro e W' (⟨h1, h2, h3⟩ | h)
        · exact .inl ⟨h1, h2, (hnx.trans (Kb.bl hu hbl hBl)).trans h3⟩
        · exact .inr h
      cases k with
      | zero =>
        have hab : abv xs 0 = true := by simp [abv]
        simp only [Nat.zero_mul, Nat.add_zero] at c0 c1 c2 c3 c4
        gi_wp2_with fail
        refine wpIn_wide.2 ?_
        refine wp_region_noPanic ?_
        refine wp_region_held_drew (S := Ex wr.heap.size (a0, a1, a2, a3) (.slice so sn sc)) (by kernel_rfl) ex0 (fun hHeld => ?_)
        unfold Ex at hHeld
        refine tq 0 ?_
        refine tq 1 ?_
        refine tq 2 ?_
        refine tqS 3 ?_
        refine tqS 4 ?_
        refine tqS 5 ?_
        refine tqS 6 ?_
        refine tqS 7 ?_
        refine tqS 8 ?_
        refine tqS 9 ?_
        refine tqS 10 ?_
        refine tq 11 ?_
        refine tq 12 ?_
        refine wpAnyH_done (by kernel_rfl) ?_ _
        refine NoPanic.normal ?_
        clear hHeld
        obtain ⟨fn, tmps, assign, body, hy, hR⟩ := fin _ true u0 ex0 hab
        obtain ⟨x0, x1, x2, x3, x4⟩ := ex0
        simp only at x0 x1 x2 x3 x4
        gi_wp2
        refine hR.mono ?_
        rintro e W3 (⟨rfl, hJ3, hk3⟩ | ⟨rfl, hJx3⟩)
        · clear fin hY hR
          gi_wp2
          go_roundw
          case rel => exact ⟨0 + 1, hlt, by simp, hJ3, hk3⟩
          case measure => simp [intOf]; omega
        · clear fin hY hR
          gi_wp2
          refine bodyPost_ret (results_none rfl _ _ _) rfl ?_
          exact ⟨⟨_, rfl⟩, .inr ⟨_, ⟨0 + 1, hlt, rfl⟩, hJx3⟩⟩
      | succ k =>
        obtain ⟨y, hy⟩ : ∃ y, xs[k]? = some y := ⟨xs[k]'(by omega), List.getElem?_eq_getElem (by omega)⟩
        have hyd : xs.getD k dsl = y := by simp [List.getD, hy]
        have hcy := (hc k y hy).kb hnx
        have hab : abv xs (k + 1) = decide (0 < cmpL (a0, a1, a2, a3) y.1) := by
          unfold abv
          rw [hxd, show k + 1 - 1 = k by omega, hyd]
          simp
        have hsub : ((k + 1 : Nat) : Int) - 1 = (k : Nat) := by omega
        have hk1 : ((k + 1 : Nat) : Int) ≠ 0 := by omega
        have hkl : ((k : Nat) : Int) < (xs.length : Int) := by omega
        have hkn : ¬ (((k : Nat) : Int) < 0) := by omega
        have hwk : IntKind.i64.wrap (k : Int) = (k : Int) := IntWalk.i64_in _ (by omega)
        have hk00 : (0 : Int) ≤ (k : Int) := by omega
        have hkb : ((k : Int) + 1 == 0) = false := by simp; omega
        obtain ⟨y, t⟩ := y
        have HS : Hid (∀ W', Below wr.heap.size wr W' → Ex wr.heap.size (a0, a1, a2, a3) (.slice so sn sc) W' → Sc Bs b off cap wr.heap.size k xs.length (a0, a1, a2, a3) (so, sn, sc) y t W') := fun W' u e => by
          exact ⟨bl_cell u hbx, e.1, e.2.1, e.2.2.1, e.2.2.2.1, e.2.2.2.2, bl_cell u hcy.1, bl_cell u hcy.2.1, bl_cell u hcy.2.2.1, bl_cell u hcy.2.2.2.1, bl_cell u hcy.2.2.2.2⟩
        have s0 := HS.out _ u0 ex0
        have hcmp := fun W' => compareE_any W' (a0, a1, a2, a3) y (.slice so sn sc) (.slice t.1 t.2.1 t.2.2)
        unfold ent at hcmp
        clear hcy hyd hy
        gi_wp2_with fail
        refine wpIn_wide.2 ?_
        refine wp_region_noPanic ?_
        refine wp_region_held_drew (S := Sc Bs b off cap wr.heap.size k xs.length (a0, a1, a2, a3) (so, sn, sc) y t) (by kernel_rfl) s0 (fun hHeld => ?_)
        unfold Sc at hHeld
        refine tq 0 ?_
        refine tq 1 ?_
        refine tq 2 ?_
        refine tq 3 ?_
        refine tq 4 ?_
        refine tq 5 ?_
        refine tq 6 ?_
        refine tq 7 ?_
        refine tq 8 ?_
        refine comes_up 9 rfl (by kernel_rfl) (fun K hK => ?_)
        go_simp
        refine (hcmp _).mono ?_
        rintro e W2 ⟨rfl, hu2⟩
        have u2 := bl_step u0 hu2.bl
        have ex2 := ex0.bl hu2.bl
        clear hcmp hu2 s0
        go_wp2_with fail
        refine hK.out _ _ (HS.out _ u2 ex2) (fun hHeld => ?_)
        clear hK K
        (try simp only [Act.put, List.setIfInBounds_toArray, List.set_cons_zero, List.set_cons_succ])
        unfold Sc at hHeld
        refine tq 10 ?_
        refine tq 11 ?_
        refine tq 12 ?_
        refine wpAnyH_done (by kernel_rfl) ?_ _
        refine NoPanic.normal ?_
        clear hHeld
        obtain ⟨fn, tmps, assign, body, hy, hR⟩ := fin _ _ u2 ex2 hab
        clear ex0 u0
        obtain ⟨x0, x1, x2, x3, x4⟩ := ex2
        simp only at x0 x1 x2 x3 x4
        gi_wp2
        refine hR.mono ?_
        rintro e W3 (⟨rfl, hJ3, hk3⟩ | ⟨rfl, hJx3⟩)
        · clear fin hY hR
          gi_wp2
          go_roundw
          case rel => exact ⟨k + 1 + 1, hlt, by simp, hJ3, hk3⟩
          case measure => simp [intOf]; omega
        · clear fin hY hR
          gi_wp2
          refine bodyPost_ret (results_none rfl _ _ _) rfl ?_
          exact ⟨⟨_, rfl⟩, .inr ⟨_, ⟨k + 1 + 1, hlt, rfl⟩, hJx3⟩⟩
    · obtain rfl : k = xs.length := by omega
      gi_wp2
      go_end0
      exact ⟨⟨_, rfl⟩, .inl ⟨_, rfl, hJs⟩⟩
set_option maxRecDepth 100000 in
set_option maxHeartbeats 1000000 in
/-- .. of nothing: no round. -/
theorem climb1_nil (m : Nat) (l Bs : Nat) (ao : Option Addr) (cap : Nat) (J : List { k : Nat // k < ([] : List (Lb × Sl)).length } → World → Prop) (W : World) (hBs : W.cell? ⟨Bs, 0, none⟩ = some (.slice ao 0 cap)) (h0 : J [] W) :
    CallsIn Fence.wide m Tryz.prog 171 #[.func (.yield l) #[] #[], .pointer (some ⟨Bs, 0, none⟩)] W fun e W' => (∃ v, e = .returned v) ∧ J [] W' := by
  refine callsIn_of_wp Tryz.func171 rfl trivial ?_ rfl
  simp only [Tryz.ntmps171, List.size_toArray, List.length_cons, List.length_nil, Nat.reduceAdd, Nat.reduceSub, Array.replicate_succ, Array.replicate_zero, List.push_toArray, List.append_toArray, List.nil_append, List.cons_append]
  gi_wp2
  gi_loopw [8] (fun i wr => i = .int .i64 0 ∧ J [] wr) (fun _ _ => 0)
  case atStart => exact ⟨rfl, h0⟩
  case round =>
    obtain ⟨rfl, hJs⟩ := hrel
    gi_wp2
    go_end0
    exact ⟨⟨_, rfl⟩, hJs⟩
set_option maxHeartbeats 1000000 in
theorem climb_any (w : World) (ao : Option Addr) (n cap : Nat) : Calls Tryz.prog 144 #[.slice ao n cap] w fun e w' => e = .returned (.func (.func 171) #[] #[.pointer (some ⟨w.heap.size, 0, none⟩)]) ∧ w' = w.alloc (.cells #[.slice ao n cap] 42) := by
  go_enter Tryz.func144, Tryz.ntmps144
  go_wp2
  go_ret
  exact ⟨rfl, rfl⟩
/-- climb's answer tells all entries in their order, or a beginning of them. -/
theorem climb_stops (m : Nat) (hm : 1 ≤ m) (Bs b off cap : Nat) (ao : Option Addr) (xs : List (Lb × Sl)) (hmax : xs.length ≤ 140737488355328) (w : World) (hBs : w.cell? ⟨Bs, 0, none⟩ = some (.slice ao xs.length cap)) (hao : 0 < xs.length → ao = some ⟨b, off, none⟩) (hc : ∀ j e, xs[j]? = some e → C5 w b (off + j * 5) e) :
    SeqStopsK Fence.wide m Tryz.prog 171 #[.pointer (some ⟨Bs, 0, none⟩)] (encs xs) (Kb b Bs) (fun ys => ys = firsts xs.length xs.length (Nat.le_refl _)) (fun pre => ∃ k h, pre = firsts xs.length k h) xs.length w := fun l J Jx W hW hJ hJx hY h0 => by
  have hc' := bl_cell hW hBs
  by_cases h0l : xs.length = 0
  · have e : xs = [] := List.eq_nil_of_length_eq_zero h0l
    subst e
    exact (climb1_nil m l Bs ao cap J W hc' h0).mono fun e W' ⟨he, hj⟩ => ⟨he, .inl ⟨_, rfl, hj⟩⟩
  · rw [hao (by omega)] at hc'
    refine climb1_in m hm l Bs b off cap xs hmax J Jx hY W (fun s A B hs hg => hJ s A B none hs hg (fun r hr => by cases hr)) hc' (fun j e hj => ?_) h0
    obtain ⟨c0, c1, c2, c3, c4⟩ := hc j e hj
    exact ⟨bl_cell hW c0, bl_cell hW c1, bl_cell hW c2, bl_cell hW c3, bl_cell hW c4⟩
end Go.Proofs.YtlaihgdfedalmaaGreat

/-
  rightEntries: are entries right, by their labels?
-/
namespace Go.Proofs.YtlaihgdfedalmaaGreat
open Go.RowKit Go.Shelf
set_option linter.unusedVariables false
set_option linter.unusedSimpArgs false
attribute [local go_sem] Oper.semAt_some

theorem pick_lt {α : Type} [Inhabited α] {P : Nat → α → Prop} {n : Nat} (h : ∀ i, i < n → ∃ a, P i a) : ∃ f : Nat → α, ∀ i, i < n → P i (f i) := by
  classical
  refine ⟨fun i => if hi : i < n then (h i hi).choose else default, fun i hi => ?_⟩
  simp only [hi, dif_pos]
  exact (h i hi).choose_spec
/-- Where the messages of entries lie. -/
theorem ER.split {p : Nat → Prop} {w : World} {ao : Option Addr} {n : Nat} {es : List (Lb × List UInt8)} (h : ER p w ao n es) :
    ∃ xs : List (Lb × Sl), xs.length = n ∧ (∀ (j : Nat) (e : Lb × List UInt8) (x : Lb × Sl), es[j]? = some e → xs[j]? = some x → x.1 = e.1 ∧ Cd.Row w x.2.1 x.2.2.1 x.2.2.2 e.2 ∧ ∀ a, x.2.1 = some a → 0 < x.2.2.1 → p a.block) ∧
      ∃ b off, (0 < n → ao = some ⟨b, off, none⟩ ∧ p b) ∧ ∀ (j : Nat) x, xs[j]? = some x → C5 w b (off + j * 5) x := by
  by_cases hn : 0 < n
  · obtain ⟨b, off, hao, hp, hc⟩ := h.2.2 hn
    have hl := h.1
    obtain ⟨f, hf⟩ := pick_lt (α := Lb × Sl) (P := fun j x => ∃ e, es[j]? = some e ∧ C5 w b (off + j * 5) x ∧ x.1 = e.1 ∧ Cd.Row w x.2.1 x.2.2.1 x.2.2.2 e.2 ∧ ∀ a, x.2.1 = some a → 0 < x.2.2.1 → p a.block) (n := n) (fun j hj => by
      have he : es[j]? = some (es[j]'(by omega)) := List.getElem?_eq_getElem (by omega)
      obtain ⟨so, sn, sc, c0, c1, c2, c3, c4, c5, c6⟩ := hc j _ he
      exact ⟨((es[j]'(by omega)).1, so, sn, sc), _, he, ⟨c0, c1, c2, c3, c4⟩, rfl, c5, c6⟩)
    have hx : ∀ (j : Nat) x, ((List.range n).map f)[j]? = some x → j < n ∧ x = f j := fun j x hx => by
      obtain ⟨h1, h2⟩ := List.getElem?_eq_some_iff.1 hx
      simp at h1 h2
      exact ⟨h1, h2.symm⟩
    refine ⟨(List.range n).map f, by simp, fun j e x he hj => ?_, b, off, fun _ => ⟨hao, hp⟩, fun j x hj => ?_⟩
    · obtain ⟨h1, rfl⟩ := hx j x hj
      obtain ⟨e', he', _, h2⟩ := hf j h1
      rw [he] at he'
      cases he'
      exact h2
    · obtain ⟨h1, rfl⟩ := hx j x hj
      obtain ⟨_, _, h2, _⟩ := hf j h1
      exact h2
  · obtain rfl : n = 0 := by omega
    exact ⟨[], rfl, fun j e x he hx => (by simp at hx), 0, 0, fun h => absurd h (by omega), fun j x hx => (by simp at hx)⟩
/-- Is the k-th entry right, and above the one ahead of it? -/
def goodE (xs : List (Lb × Sl)) (k : Nat) : Bool := abv xs k && formE (xs.getD k dsl).1 (xs.getD k dsl).2.2.1
def goodAll (xs : List (Lb × Sl)) : Bool := (List.range xs.length).all (goodE xs)
theorem keeps_bl {B : Nat} {W W' : World} (u : Below W.heap.size W W') : KeepsFrom B W W' := ⟨u.size, fun k o _ hk _ => (u.block k (Array.getElem?_eq_some_iff.1 hk).1).trans hk⟩
theorem bl_row {B : Nat} {w W : World} (h : Below B w W) {g : Nat} (hg : B ≤ g) (cs : Array Value) : Below B w (W.setRow g cs) :=
  ⟨h.os, h.tape, h.output, by simpa using h.size, fun k hk => (setRow_other _ _ _ _ (by omega)).trans (h.block k hk)⟩
theorem firsts_mem (n : Nat) : ∀ (k : Nat) (h : k ≤ n) (j : Nat) (hj : j < k), (⟨j, by omega⟩ : { k : Nat // k < n }) ∈ firsts n k h
  | 0, _, j, hj => by omega
  | k + 1, h, j, hj => by
    unfold firsts
    by_cases e : j = k
    · subst e; simp
    · exact List.mem_append_left _ (firsts_mem n k (by omega) j (by omega))

set_option maxRecDepth 100000 in
set_option maxHeartbeats 2000000 in
theorem rightEntries_any (w : World) (ao : Option Addr) (cap b off : Nat) (xs : List (Lb × Sl)) (hmax : xs.length ≤ 140737488355328) (hao : 0 < xs.length → ao = some ⟨b, off, none⟩) (hc : ∀ j x, xs[j]? = some x → C5 w b (off + j * 5) x) :
    Calls Tryz.prog 116 #[.slice ao xs.length cap] w fun e w' => e = .returned (.bool (goodAll xs)) ∧ Below w.heap.size w w' := by
  have hmax' := hmax
  refine (callsIn_wide (n := 6)).1 ?_
  refine callsIn_of_wp_marks Tryz.func116 rfl trivial ?_ rfl
  simp only [Tryz.ntmps116, List.size_toArray, List.length_cons, List.length_nil, Nat.reduceAdd, Nat.reduceSub, Array.replicate_succ, Array.replicate_zero, List.push_toArray, List.append_toArray, List.nil_append, List.cons_append]
  gi_wp2_with (refine ⟨trivial, ?_⟩; gi_at_call 144; refine (callsIn_wide.2 (climb_any _ _ _ _)).mono ?_; rintro e w' ⟨rfl, rfl⟩)
  obtain ⟨W0, hW0⟩ : ∃ W0, (w.alloc (.cells #[.bool false] 4)).alloc (.cells #[.slice ao xs.length cap] 42) = W0 := ⟨_, rfl⟩
  have hB0 : Below w.heap.size w W0 := by rw [← hW0]; exact bl2 _ _ _
  have hsz : W0.heap.size = w.heap.size + 2 := by rw [← hW0]; simp
  have hR0 : W0.heap[w.heap.size]? = some (.cells #[.bool false] 4 (0, 0)) := by
    rw [← hW0]
    exact (Below.heap_alloc _ _ _ (by simp)).trans (heap_alloc_new _ _)
  have hBs0 : W0.cell? ⟨w.heap.size + 1, 0, none⟩ = some (.slice ao xs.length cap) := by
    rw [← hW0]
    have hs1 : (w.alloc (.cells #[.bool false] 4)).heap.size = w.heap.size + 1 := by simp
    have := cell_box (w.alloc (.cells #[.bool false] 4)) #[.slice ao xs.length cap] 42 0 _ rfl
    rw [hs1] at this
    exact this
  have hc0 : ∀ j x, xs[j]? = some x → C5 W0 b (off + j * 5) x := fun j x hj => by
    obtain ⟨c0, c1, c2, c3, c4⟩ := hc j x hj
    exact ⟨bl_cell hB0 c0, bl_cell hB0 c1, bl_cell hB0 c2, bl_cell hB0 c3, bl_cell hB0 c4⟩
  have hbl : 0 < xs.length → b < w.heap.size := fun h => World.block_lt_of_cell? w _ (hc 0 _ (List.getElem?_eq_getElem h)).1
  rw [hW0]
  have hRk : ∀ (A B : World) (row : Option Nat), A.heap[w.heap.size]? = some (.cells #[.bool false] 4 (0, 0)) → A.grownBy B row → (∀ r, row = some r → W0.heap.size ≤ r ∧ ∃ o : Obj, A.heap[r]? = some o ∧ o.isCells = false) → B.heap[w.heap.size]? = some (.cells #[.bool false] 4 (0, 0)) := fun A B row h hg hr =>
    (hg.block _ (Array.getElem?_eq_some_iff.1 h).1 (fun e => by have := (hr _ e.symm).1; omega)).trans h
  have hBk : ∀ (A B : World) (row : Option Nat), Below w.heap.size w A → A.grownBy B row → (∀ r, row = some r → W0.heap.size ≤ r ∧ ∃ o : Obj, A.heap[r]? = some o ∧ o.isCells = false) → Below w.heap.size w B := fun A B row h hg hr =>
    bl_grown h h.size hg (fun k hk => by have := (hr _ hk).1; omega)
  obtain ⟨b, hbl', hao, hc0⟩ : ∃ b, b < w.heap.size + 1 ∧ (0 < xs.length → ao = some ⟨b, off, none⟩) ∧ ∀ j x, xs[j]? = some x → C5 W0 b (off + j * 5) x := by
    by_cases h0 : xs.length = 0
    · have e : xs = [] := List.eq_nil_of_length_eq_zero h0
      subst e
      exact ⟨0, by omega, fun h => absurd h (by simp), fun j x hx => (by simp at hx)⟩
    · exact ⟨b, by have := hbl (by omega); omega, hao, hc0⟩
  clear hc hbl hW0 hmax'
  refine wpIn_rangeFunc_ownH rfl (by omega) (gf := 171) (lb := #[.pointer (some ⟨w.heap.size + 1, 0, none⟩)]) rfl trivial (enters_of Tryz.func171 (by kernel_rfl) rfl)
    (climb_stops 5 (by omega) (w.heap.size + 1) b off cap ao xs hmax W0 hBs0 hao hc0) (fun h k => Kb.trans h k)
    (fun W l o o' hl ho _ _ => ⟨World.putObj_heap_other (by omega), World.putObj_heap_other (by omega)⟩) (Below.refl _ _) (fun _ => rfl)
    (fun pre W => (Below w.heap.size w W ∧ W0.heap.size ≤ W.heap.size) ∧ W.heap[w.heap.size]? = some (.cells #[.bool false] 4 (0, 0)) ∧ ∀ x ∈ pre, goodE xs x.1 = true)
    (fun c pre W => c = .ret ∧ Below w.heap.size w W ∧ W.heap[w.heap.size]? = some (.cells #[.bool false] 4 (0, 0)) ∧ ∃ x ∈ pre, goodE xs x.1 = false)
    (fun s A B row hs hg hr => ⟨⟨hBk A B row hs.1.1 hg hr, Nat.le_trans hs.1.2 hg.size⟩, hRk A B row hs.2.1 hg hr, hs.2.2⟩)
    (fun c s A B row hs hg hr => ⟨hs.1, hBk A B row hs.2.1 hg hr, hRk A B row hs.2.2.1 hg hr, hs.2.2.2⟩)
    ⟨⟨hB0, Nat.le_refl _⟩, hR0, by simp⟩
    (fun x a' W => ∃ Bx, W0.heap.size ≤ Bx ∧ W.heap[Bx]? = some (.cells (entS (xs.getD x.1 dsl)).cells 41 (0, 0)) ∧ a' = { tmps := #[.slice ao xs.length cap, undef, .pointer (some ⟨w.heap.size, 0, none⟩), .pointer (some ⟨Bx, 0, none⟩), .bool (abv xs x.1), .slice ao xs.length cap, .func (.func 171) #[] #[.pointer (some ⟨w.heap.size + 1, 0, none⟩)], entS (xs.getD x.1 dsl), .bool (abv xs x.1), undef, undef, undef, undef, undef, undef, undef], defers := [] })
    (fun x a' _ A B row hs hg hr => by
      obtain ⟨Bx, e1, e2, e3⟩ := hs
      refine ⟨Bx, e1, (hg.block _ (Array.getElem?_eq_some_iff.1 e2).1 (fun e => ?_)).trans e2, e3⟩
      obtain ⟨_, o, h1, h2⟩ := hr _ e.symm
      rw [e2] at h1
      cases h1
      cases h2)
    ?assign ?body ?done ?stop
  case assign =>
    rintro l pre x W K ⟨⟨hb1, hz1⟩, hr1, hp1⟩ hK
    unfold encs
    generalize hE : xs.getD x.1 dsl = E at hK ⊢
    obtain ⟨⟨a0, a1, a2, a3⟩, so, sn, sc⟩ := E
    unfold entS ent at hK ⊢
    simp only [Value.cells] at hK ⊢
    gi_wp2
    have hs1 := hb1.size
    have hrl := (Array.getElem?_eq_some_iff.1 hr1).1
    exact hK _ _ (keeps_bl (bl1 _ _)) ⟨Below.heap_alloc _ _ _ (by omega), Below.heap_alloc _ _ _ (by omega)⟩ ⟨⟨bl_step hb1 (bl1 _ _), by simp; omega⟩, (Below.heap_alloc _ _ _ hrl).trans hr1, hp1⟩ ⟨W.heap.size, hz1, heap_alloc_new _ _, rfl⟩
  case body =>
    rintro l pre x a' W hl ⟨r, hr⟩ ⟨⟨hb1, hz1⟩, hr1, hp1⟩ ⟨Bx, hBx, hX, rfl⟩ hlt
    have hgE : goodE xs x.1 = (abv xs x.1 && formE (xs.getD x.1 dsl).1 (xs.getD x.1 dsl).2.2.1) := rfl
    generalize xs.getD x.1 dsl = E at *
    obtain ⟨⟨a0, a1, a2, a3⟩, so, sn, sc⟩ := E
    unfold entS ent at *
    simp only [Value.cells] at *
    have hfm := fun W' => formE_any W' (a0, a1, a2, a3) so sn sc
    unfold ent at hfm
    simp only at hfm
    have kX := fun j => cell_of_row W Bx j _ 41 (0, 0) hX
    have k0 := kX 0
    have k1 := kX 1
    have k2 := kX 2
    have k3 := kX 3
    have k4 := kX 4
    simp at k0 k1 k2 k3 k4
    have kR := cell_of_row W w.heap.size 0 _ 4 (0, 0) hr1
    have zR := frozen_of_row W w.heap.size 0 _ 4 hr1
    simp at kR
    have h66 : 1 ≤ 6 - 1 - 1 := by omega
    have bad : ∀ W', Below W.heap.size W W' → goodE xs x.1 = false → Hid (KeepsFrom W0.heap.size W (W'.setCell ⟨w.heap.size, 0, none⟩ (.bool false)) ∧ (Code.ret = .ret ∧ Below w.heap.size w (W'.setCell ⟨w.heap.size, 0, none⟩ (.bool false)) ∧ (W'.setCell ⟨w.heap.size, 0, none⟩ (.bool false)).heap[w.heap.size]? = some (.cells #[.bool false] 4 (0, 0)) ∧ ∃ y ∈ pre ++ [x], goodE xs y.1 = false)) := by
      intro W' u hg
      have hr' : W'.heap[w.heap.size]? = some (.cells #[.bool false] 4 (0, 0)) := (u.block _ (Array.getElem?_eq_some_iff.1 hr1).1).trans hr1
      have he := setCell_eq_setRow W' w.heap.size 0 _ 4 (0, 0) (.bool false) hr'
      refine ⟨(keeps_bl u).trans ((KeepsOthers.setCell _ _ _).from _), rfl, ?_, ?_, x, by simp, hg⟩
      · rw [he]
        exact bl_row (bl_step hb1 u) (Nat.le_refl _) _
      · rw [he]
        exact setRow_heap _ _ _ _ _ _ hr'
    cases hab : abv xs x.1 with
    | false =>
      rw [hab] at hgE
      have bd := bad W (Below.refl _ _) (by rw [hgE]; rfl)
      clear bad hfm hgE
      gi_wp2
      refine ⟨trivial, ?_⟩
      gi_wp2
      exact ⟨bd.out.1, rfl, bd.out.2.2⟩
    | true =>
      rw [hab] at hgE
      simp only [Bool.true_and] at hgE
      cases hf : formE (a0, a1, a2, a3) sn with
      | false =>
        rw [hf] at hfm hgE
        have kk : ∀ W', Below W.heap.size W W' → W'.cell? ⟨w.heap.size, 0, none⟩ = some (.bool false) ∧ W'.frozen? ⟨w.heap.size, 0, none⟩ = false := fun W' u => by
          have hr' : W'.heap[w.heap.size]? = some (.cells #[.bool false] 4 (0, 0)) := (u.block _ (Array.getElem?_eq_some_iff.1 hr1).1).trans hr1
          exact ⟨cell_of_row W' w.heap.size 0 _ 4 (0, 0) hr', frozen_of_row W' w.heap.size 0 _ 4 hr'⟩
        have bd := fun W' u => bad W' u hgE
        clear bad hgE
        gi_wp2_with (refine ⟨trivial, ?_⟩; gi_at_call 97; refine (CallsIn.inRound l (callsIn_wide.2 (hfm _))).mono ?_; rintro e w' ⟨rfl, hu⟩; have bd' := bd _ hu.bl; obtain ⟨q1, q2⟩ := kk _ hu.bl; clear bd kk hfm)
        exact ⟨bd'.out.1, rfl, bd'.out.2.2⟩
      | true =>
        rw [hf] at hfm hgE
        have fin : ∀ W', Below W.heap.size W W' → KeepsFrom W0.heap.size W W' ∧ Kb b (w.heap.size + 1) W W' ∧ (Below w.heap.size w W' ∧ W0.heap.size ≤ W'.heap.size) ∧ W'.heap[w.heap.size]? = some (.cells #[.bool false] 4 (0, 0)) ∧ ∀ y ∈ pre ++ [x], goodE xs y.1 = true := fun W' u =>
          ⟨keeps_bl u, Kb.bl u (by omega) (by omega), ⟨bl_step hb1 u, Nat.le_trans hz1 u.size⟩, (u.block _ (Array.getElem?_eq_some_iff.1 hr1).1).trans hr1, fun y hy => by
            rcases List.mem_append.1 hy with h | h
            · exact hp1 y h
            · obtain rfl := List.mem_singleton.1 h
              exact hgE⟩
        clear bad hgE
        gi_wp2_with (refine ⟨trivial, ?_⟩; gi_at_call 97; refine (CallsIn.inRound l (callsIn_wide.2 (hfm _))).mono ?_; rintro e w' ⟨rfl, hu⟩; have fin' := fin _ hu.bl; clear fin hfm)
        exact fin'
  case done =>
    rintro D ys W hD rfl ⟨⟨hb, hz⟩, hr, hp⟩ hK
    have kR := cell_of_row W w.heap.size 0 _ 4 (0, 0) hr
    have zR := frozen_of_row W w.heap.size 0 _ 4 hr
    simp at kR
    have hgood : goodAll xs = true := by
      unfold goodAll
      rw [List.all_eq_true]
      intro k hk
      exact hp _ (firsts_mem xs.length xs.length (Nat.le_refl _) k (by simpa using hk))
    have hDl := (Array.getElem?_eq_some_iff.1 hK).1
    have he := setCell_eq_setRow W w.heap.size 0 _ 4 (0, 0) (.bool true) hr
    have hK' : (W.setCell ⟨w.heap.size, 0, none⟩ (.bool true)).heap[D]? = some (.deferred (some [])) := by
      rw [he]
      exact (setRow_other _ _ _ _ (by omega)).trans hK
    have hB' : Below w.heap.size w ((W.setCell ⟨w.heap.size, 0, none⟩ (.bool true)).putObj D (.deferred none)) := by
      have h1 : Below w.heap.size w (W.setCell ⟨w.heap.size, 0, none⟩ (.bool true)) := by
        rw [he]
        exact bl_row hb (Nat.le_refl _) _
      exact h1.trans (belowK_b (w := w) (Nat.le_refl _) _ D _ _ (by omega) hK' rfl rfl)
    have hc' : ((W.setCell ⟨w.heap.size, 0, none⟩ (.bool true)).putObj D (.deferred none)).cell? ⟨w.heap.size, 0, none⟩ = some (.bool true) := by
      have h1 : ((W.setCell ⟨w.heap.size, 0, none⟩ (.bool true)).putObj D (.deferred none)).heap[w.heap.size]? = some (.cells #[.bool true] 4 (0, 0)) := by
        rw [World.putObj_heap_other (by omega), he]
        exact setRow_heap _ _ _ _ _ _ hr
      exact cell_of_row _ w.heap.size 0 _ 4 (0, 0) h1
    clear he
    gi_wp2
    refine ⟨by simp, .inl ⟨_, _, rfl, run_takeDeferred hK', ?_⟩⟩
    refine ⟨.bool true, ?_, by rw [hgood], hB'⟩
    simp [results, Tryz.results116, go_sem, hc']
  case stop =>
    rintro D c pre W hD hpre ⟨rfl, hb, hr, hbad⟩ hK
    have kR := cell_of_row W w.heap.size 0 _ 4 (0, 0) hr
    simp at kR
    have hgood : goodAll xs = false := by
      unfold goodAll
      obtain ⟨x, _, hx⟩ := hbad
      rw [List.all_eq_false]
      exact ⟨x.1, by simpa using x.2, by simp [hx]⟩
    have hDl := (Array.getElem?_eq_some_iff.1 hK).1
    have hB' : Below w.heap.size w (W.putObj D (.deferred none)) := hb.trans (belowK_b (w := w) (Nat.le_refl _) _ D _ _ (by omega) hK rfl rfl)
    have hc' : (W.putObj D (.deferred none)).cell? ⟨w.heap.size, 0, none⟩ = some (.bool false) := by
      have h1 : (W.putObj D (.deferred none)).heap[w.heap.size]? = some (.cells #[.bool false] 4 (0, 0)) := by
        rw [World.putObj_heap_other (by omega)]
        exact hr
      exact cell_of_row _ w.heap.size 0 _ 4 (0, 0) h1
    gi_wp2
    refine ⟨by simp, .inl ⟨_, _, rfl, run_takeDeferred hK, ?_⟩⟩
    refine ⟨.bool false, ?_, by rw [hgood], hB'⟩
    simp [results, Tryz.results116, go_sem, hc']
end Go.Proofs.YtlaihgdfedalmaaGreat

/-
  Rows of entries of one's own.
-/
namespace Go.Proofs.YtlaihgdfedalmaaGreat
open Go.RowKit
set_option linter.unusedVariables false
set_option linter.unusedSimpArgs false

def cells5 (x : Lb × Sl) : List Value := [.int .u64 (x.1.1 : Nat), .int .i64 x.1.2.1, .int .u64 (x.1.2.2.1 : Nat), .int .i64 x.1.2.2.2, .slice x.2.1 x.2.2.1 x.2.2.2]
def flatE (xs : List (Lb × Sl)) : List Value := xs.flatMap cells5
theorem flatE_cons (x : Lb × Sl) (xs : List (Lb × Sl)) : flatE (x :: xs) = cells5 x ++ flatE xs := by simp [flatE]
theorem flatE_snoc (xs : List (Lb × Sl)) (x : Lb × Sl) : flatE (xs ++ [x]) = flatE xs ++ cells5 x := by simp [flatE]
theorem flatE_get : ∀ (xs : List (Lb × Sl)) (j : Nat) (x : Lb × Sl) (i : Nat), xs[j]? = some x → i < 5 → (flatE xs)[5 * j + i]? = (cells5 x)[i]?
  | [], j, x, i, h, hi => by simp at h
  | a :: r, 0, x, i, h, hi => by
    simp at h; subst h
    rw [flatE_cons, List.getElem?_append_left (by simp [cells5]; omega)]; simp
  | a :: r, j + 1, x, i, h, hi => by
    rw [flatE_cons, List.getElem?_append_right (by simp [cells5]; omega), show 5 * (j + 1) + i - (cells5 a).length = 5 * j + i by simp [cells5]; omega]
    exact flatE_get r j x i (by simpa using h) hi
theorem infoE29 : (Tryz.prog.info? 41).map (fun i => (i.zero, i.size, i.bytes)) = some (some (.agg #[.int .u64 0, .int .i64 0, .int .u64 0, .int .i64 0, .slice none 0 0]), 5, 56) := by kernel_rfl
theorem und35 : Tryz.prog.underlying 42 = some (.slice 41) := by kernel_rfl

/-- A row of entries of one's own: its block and its messages' lie at B or behind it. -/
def EO (B : Nat) (w : World) (v : Value) (es : List (Lb × List UInt8)) : Prop :=
  ∃ xs : List (Lb × Sl), xs.length = es.length ∧ w.ownsRow B 41 5 v es.length (flatE xs) ∧ ∀ (j : Nat) e x, es[j]? = some e → xs[j]? = some x → x.1 = e.1 ∧ Cd.Row w x.2.1 x.2.2.1 x.2.2.2 e.2 ∧ ∀ a, x.2.1 = some a → 0 < x.2.2.1 → B ≤ a.block ∧ a.block < w.heap.size ∧ v.ownBlock ≠ some a.block
theorem EO.nil (B : Nat) (w : World) : EO B w (.slice none 0 0) [] := ⟨[], rfl, World.ownsRow_nil _ _ _ _, fun j e x he => by simp at he⟩
theorem ownE_lt {w : World} {B n : Nat} {v : Value} {xs : List Value} (h : w.ownsRow B 41 5 v n xs) : ∀ k, v.ownBlock = some k → B ≤ k ∧ k < w.heap.size := fun k hk => ⟨(h.lt k hk).1, (h.lt k hk).2⟩
theorem row_grown {w w' : World} {ao : Option Addr} {n cap : Nat} {xs : List UInt8} {row : Option Nat} (h : Cd.Row w ao n cap xs) (g : w.grownBy w' row) (hne : ∀ a, ao = some a → 0 < n → row ≠ some a.block) : Cd.Row w' ao n cap xs :=
  ⟨h.1, h.2.1, h.2.2.1, h.2.2.2.1, fun a ha i hi => by
    have hc := h.2.2.2.2 a ha i hi
    refine (World.cell?_of_block (a := a.add i) (g.block _ (World.block_lt_of_cell? w _ hc) ?_)).trans hc
    rw [add_block]
    exact fun e => hne a ha (by omega) e.symm⟩
/-- Others' blocks turn. -/
theorem EO.gr {B : Nat} {w w' : World} {v : Value} {es : List (Lb × List UInt8)} {row : Option Nat} (h : EO B w v es) (g : w.grownBy w' row) (hr : ∀ k, row = some k → k < B) : EO B w' v es := by
  obtain ⟨xs, hl, ho, hm⟩ := h
  refine ⟨xs, hl, ho.kept (row := row) g ?_, fun j e x he hx => ?_⟩
  · cases hv : v.ownBlock with
    | none => exact Or.inl rfl
    | some k =>
      refine Or.inr (fun e => ?_)
      have h1 := (ownE_lt ho k hv).1
      have h2 := hr k (by rw [← e])
      omega
  · obtain ⟨h1, h2, h3⟩ := hm j e x he hx
    refine ⟨h1, row_grown h2 g (fun a ha hn e => ?_), fun a ha hn => ⟨(h3 a ha hn).1, Nat.lt_of_lt_of_le (h3 a ha hn).2.1 g.size, (h3 a ha hn).2.2⟩⟩
    have := hr _ e
    have := (h3 a ha hn).1
    omega
theorem EO.bl {B : Nat} {w w' : World} {v : Value} {es : List (Lb × List UInt8)} (h : EO B w v es) (u : Below w.heap.size w w') : EO B w' v es :=
  h.gr (row := none) ⟨u.os, u.tape, u.output, u.size, fun i hi _ => u.block i hi⟩ (fun k hk => by cases hk)
/-- One more entry is laid behind. -/
theorem EO.snoc {B : Nat} {w w' : World} {v v' : Value} {es : List (Lb × List UInt8)} {e : Lb × List UInt8} {s : Sl} {xs : List (Lb × Sl)} (hl : xs.length = es.length)
    (hm : ∀ (j : Nat) e x, es[j]? = some e → xs[j]? = some x → x.1 = e.1 ∧ Cd.Row w x.2.1 x.2.2.1 x.2.2.2 e.2 ∧ ∀ a, x.2.1 = some a → 0 < x.2.2.1 → B ≤ a.block ∧ a.block < w.heap.size ∧ v.ownBlock ≠ some a.block)
    (hrow : Cd.Row w s.1 s.2.1 s.2.2 e.2) (hb : ∀ a, s.1 = some a → 0 < s.2.1 → B ≤ a.block ∧ v.ownBlock ≠ some a.block)
    (hown : w'.ownsRow B 41 5 v' (es.length + 1) (flatE xs ++ cells5 (e.1, s)))
    (hg : w.grownBy w' v.ownBlock) (hat : v'.ownBlock = v.ownBlock ∨ v'.ownBlock = some w.heap.size) : EO B w' v' (es ++ [e]) := by
  have hne : ∀ a : Addr, a.block < w.heap.size → v.ownBlock ≠ some a.block → v'.ownBlock ≠ some a.block := fun a h1 h2 h3 => by
    rcases hat with h4 | h4
    · exact h2 (by rw [← h4]; exact h3)
    · rw [h4] at h3; simp at h3; omega
  refine ⟨xs ++ [(e.1, s)], by simp [hl], ?_, fun j e' x he hx => ?_⟩
  · rw [flatE_snoc, List.length_append]
    exact hown
  · by_cases hj : j < es.length
    · rw [List.getElem?_append_left hj] at he
      rw [List.getElem?_append_left (by omega)] at hx
      obtain ⟨h1, h2, h3⟩ := hm j e' x he hx
      exact ⟨h1, row_grown h2 hg (fun a ha hn => (h3 a ha hn).2.2), fun a ha hn => ⟨(h3 a ha hn).1, Nat.lt_of_lt_of_le (h3 a ha hn).2.1 hg.size, hne a (h3 a ha hn).2.1 (h3 a ha hn).2.2⟩⟩
    · have hje : j = es.length := by
        have := (List.getElem?_eq_some_iff.1 he).1
        simp at this
        omega
      subst hje
      rw [List.getElem?_append_right (by omega)] at he
      rw [List.getElem?_append_right (by omega)] at hx
      simp [hl] at he hx
      subst he hx
      exact ⟨rfl, row_grown hrow hg (fun a ha hn => (hb a ha hn).2), fun a ha hn => ⟨(hb a ha hn).1, Nat.lt_of_lt_of_le (row_lt hrow a ha hn) hg.size, hne a (row_lt hrow a ha hn) (hb a ha hn).2⟩⟩
/-- Such a row is read as a list. -/
theorem EO.er {B : Nat} {w : World} {v : Value} {es : List (Lb × List UInt8)} (h : EO B w v es) : ∃ ao cap, v = .slice ao es.length cap ∧ (ao = none → es.length = 0) ∧ es.length ≤ cap ∧ ER (B ≤ ·) w ao es.length es := by
  obtain ⟨xs, hl, ho, hm⟩ := h
  rcases id ho.2 with ⟨rfl, h0⟩ | ⟨g, cap, cur, rfl, hg, hh, hnc, hcm, hcs, htk⟩
  · refine ⟨none, 0, by rw [h0], fun _ => h0, by omega, rfl, by omega, fun hn => by omega⟩
  · refine ⟨_, _, rfl, (fun e => by cases e), hnc, rfl, by unfold maxLen at hcm; omega, fun hn => ⟨g, 0, rfl, hg, fun j e he => ?_⟩⟩
    have hj : j < es.length := (List.getElem?_eq_some_iff.1 he).1
    obtain ⟨x, hx⟩ : ∃ x, xs[j]? = some x := ⟨xs[j]'(by omega), List.getElem?_eq_getElem (by omega)⟩
    obtain ⟨h1, h2, h3⟩ := hm j e x he hx
    have hcell : ∀ i, i < 5 → w.cell? ⟨g, 0 + j * 5 + i, none⟩ = (cells5 x)[i]? := fun i hi => by
      have e := flatE_get xs j x i hx hi
      have hlt : i < (cells5 x).length := by simpa [cells5] using hi
      rw [List.getElem?_eq_getElem hlt] at e ⊢
      have := ho.cells (g := g) rfl (5 * j + i) _ e
      rw [Addr.add_lit] at this
      rw [show 0 + j * 5 + i = 0 + (5 * j + i) by omega]
      exact this
    obtain ⟨x1, so, sn, sc⟩ := x
    simp only at h1
    subst h1
    exact ⟨so, sn, sc, hcell 0 (by omega), hcell 1 (by omega), hcell 2 (by omega), hcell 3 (by omega), hcell 4 (by omega), h2, fun a ha hn => (h3 a ha hn).1⟩
end Go.Proofs.YtlaihgdfedalmaaGreat
