/-
  Which views' numbers are right: nothing of old turns.
  Views' numbers as bytes, and back: Encode and Decode of package ident, and the document's answers.
  Decode of package ident, and the document's answers.
  The document's answers for views' numbers as bytes, and back.
  The document's Decode of a view's number.
  Labels as bytes: Encode of package label, and the document's answer.
  The document's bytes of a label.
  Labels out of bytes: Decode of package label.
  The document's Decode of a label.
-/
import Derived.Test.YtpdgoalbknopiaaLAll
import Derived.Test.YtpdgoalbknopiaaCdAll
import Derived.Deep.Cut
import Derived.Laws.Tables
namespace Go.Proofs.Ytpdgoalbknopiaa
open Go.RowKit Go.Sort
set_option linter.unusedVariables false
theorem formB_any (w : World) (n : Nat) (p : Int) : Calls Try.prog 33 #[vid n p] w fun e w' => e = .returned (.bool (formV n p)) ∧ RowKit.Below w.heap.size w w' := (form_any w n p).mono fun _ _ h => ⟨h.1, h.2.bl⟩
theorem refFormB_any (w : World) (n : Nat) (p : Int) : Calls Try.prog 36 #[vid n p] w fun e w' => e = .returned (.bool (formV n p)) ∧ RowKit.Below w.heap.size w w' := (refForm_any w n p).mono fun _ _ h => ⟨h.1, h.2.bl⟩
theorem row_shape {w : World} {B e n : Nat} {v : Value} {xs : List Value} (h : w.ownsRow B e 1 v n xs) : ∃ ao cap, v = .slice ao n cap := by
  rcases h.2 with ⟨rfl, rfl⟩ | ⟨g, cap, cur, rfl, _⟩
  · exact ⟨_, _, rfl⟩
  · exact ⟨_, _, rfl⟩
end Go.Proofs.Ytpdgoalbknopiaa
namespace Go.Proofs.Ytpdgoalbknopiaa
open Go.RowKit
set_option linter.unusedVariables false

theorem und34 : Try.prog.underlying 27 = some (.slice 5) := by kernel_rfl
theorem info5 : (Try.prog.info? 5).map (fun i => (i.zero, i.size, i.bytes)) = some (some (.int .u8 0), 1, 1) := by kernel_rfl
/-- The byte of a node's number. -/
def pb (p : Int) : UInt8 := UInt8.ofNat p.toNat
theorem pb_num (p : Int) (h0 : 0 ≤ p) (h1 : p ≤ 15) : Cd.by8 (pb p) = .int .u8 p := by
  unfold Cd.by8 pb
  rw [Cd.ofNat_toNat _ (by omega), Int.toNat_of_nonneg h0]

/-- append of one byte to a row of one's own. -/
theorem append_byte {w : World} {B n : Nat} {ao : Option Addr} {cap : Nat} {xs : List UInt8} {b : UInt8} {ad : Addr} {c : Nat} {ty : TypeId} (h : w.ownsRow B 5 1 (.slice ao n cap) n (xs.map Cd.by8)) (hB : B ≤ w.heap.size) (hn : n + 1 ≤ 140737488355328) (hc : w.cell? ad = some (Cd.by8 b)) :
    ∃ v' w', (Builtin.append_ #[27, 27] ty #[.slice ao n cap, .slice (some ad) 1 c]).run Try.prog w = .ok v' w' ∧ w'.ownsRow B 5 1 v' (n + 1) ((xs ++ [b]).map Cd.by8) ∧ w.grownBy w' (Value.slice ao n cap).ownBlock := by
  obtain ⟨i0, hi0, hz0, hz1, hz2⟩ := info_parts info5
  obtain ⟨v', w', hr, h1, h2, _, _⟩ := run_append_own_at (P := Try.prog) w B 27 ty 5 i0 (.int .u8 0) 1 1 und34 hi0 hz0 hz1 hz2 rfl (by decide) (.slice ao n cap) n (xs.map Cd.by8) h ad 1 c [Cd.by8 b] rfl (by
    intro j u hj
    obtain ⟨e1, e2⟩ := List.getElem?_eq_some_iff.1 hj
    simp at e1 e2
    subst e1
    rw [← e2, show ad.add 0 = ad by unfold Addr.add; simp]
    exact hc) (by simp [Cd.by8, Value.oneCell']) (by unfold maxLen; omega) (by omega) hB
  exact ⟨v', w', hr, by simpa using h1, h2⟩

theorem encode_bad (w : World) (ao : Option Addr) (n cap : Nat) (N : Nat) (p : Int) (hf : formV N p = false) :
    Calls Try.prog 39 #[.slice ao n cap, vid N p] w fun e w' => e = .returned (.tuple #[.slice none 0 0, .int .i64 3]) ∧ Below w.heap.size w w' := by
  have hform := fun W => formB_any W N p
  rw [hf] at hform
  unfold vid at *
  go_enter Try.func39, Try.ntmps39
  go_wp2_with fail
  refine (hform _).mono ?_
  rintro e w1 ⟨rfl, hb⟩
  go_wp2
  go_ret2
  exact ⟨rfl, ((Below.refl _ _).alloc (Nat.le_refl _) _).trans (hb.mono (by simp))⟩

set_option maxRecDepth 10000 in
set_option maxHeartbeats 2000000 in
theorem encode_any (w : World) (ao : Option Addr) (n cap : Nat) (xs : List UInt8) (h : Cd.Row w ao n cap xs) (N : Nat) (hN : N < 18446744073709551616) (p : Int) (hf : formV N p = true) (hr : n + 11 ≤ 140737488355328) :
    Calls Try.prog 39 #[.slice ao n cap, vid N p] w fun e w' => ∃ v, e = .returned (.tuple #[v, .int .i64 0]) ∧ w'.ownsRow w.heap.size 5 1 v (n + (Cd.enc N).length + 1) ((xs ++ Cd.enc N ++ [pb p]).map Cd.by8) ∧ Below w.heap.size w w' := by
  have hform := fun W => formB_any W N p
  rw [hf] at hform
  have hp : 0 ≤ p ∧ p ≤ 15 := by
    unfold formV at hf
    simp only [Bool.and_eq_true, decide_eq_true_eq] at hf
    by_cases h0 : N = 0
    · rw [if_pos h0] at hf; omega
    · rw [if_neg h0] at hf; exact hf
  obtain ⟨hp0, hp15⟩ := hp
  have hpb := pb_num p hp0 hp15
  have hel := Cd.enc_length N
  have HROW : Hid (Cd.Row w ao n cap xs) := h
  clear h hf
  unfold vid at *
  go_enter Try.func39, Try.ntmps39
  go_wp2_with fail
  refine (hform _).mono ?_
  rintro e w1 ⟨rfl, hb1⟩
  have bl1 : Below w.heap.size w w1 := ((Below.refl _ _).alloc (Nat.le_refl _) _).trans (hb1.mono (by simp))
  have c0 : w1.cell? ⟨w.heap.size, 0, none⟩ = some (.int .u64 (N : Nat)) := (hb1.cell (by simp)).trans (cell_box w _ 24 0 _ rfl)
  have c1 : w1.cell? ⟨w.heap.size, 1, none⟩ = some (.int .i64 p) := (hb1.cell (by simp)).trans (cell_box w _ 24 1 _ rfl)
  have row1 : Cd.Row w1.drew ao n cap xs := HROW.out.below (w' := w1.drew) ⟨bl1.os, bl1.tape, bl1.output, bl1.size, bl1.block⟩ (Nat.le_refl _)
  have bl2 : Below w.heap.size w w1.drew := ⟨bl1.os, bl1.tape, bl1.output, bl1.size, bl1.block⟩
  have hwr : IntKind.u8.wrap p = p := IntWalk.u8_in _ (by omega)
  clear hb1 bl1 hform HROW
  obtain ⟨L, HL⟩ : ∃ L, Hid (n + (Cd.enc N).length = L) := ⟨_, rfl⟩
  have hLe : L + 1 ≤ 140737488355328 := by have := HL.out; omega
  have hwl : w.heap.size < w1.heap.size := World.block_lt_of_cell? w1 _ c0
  have fin : ∀ (W : World) (ao3 : Option Addr) (cap3 : Nat) (ad : Addr), W.ownsRow w1.heap.size 5 1 (.slice ao3 L cap3) L ((xs ++ Cd.enc N).map Cd.by8) → W.cell? ad = some (.int .u8 p) → (W.cell? ⟨w.heap.size, 0, none⟩ = some (.int .u64 (N : Nat)) ∧ W.cell? ⟨w.heap.size, 1, none⟩ = some (.int .i64 p)) → Below w.heap.size w W → w1.heap.size ≤ W.heap.size →
      ∃ v' w', (Builtin.append_ #[27, 27] 27 #[.slice ao3 L cap3, .slice (some ad) 1 1]).run Try.prog W = .ok v' w' ∧ (w'.cell? ⟨w.heap.size, 0, none⟩ = some (.int .u64 (N : Nat)) ∧ w'.cell? ⟨w.heap.size, 1, none⟩ = some (.int .i64 p)) ∧ Hid (w'.ownsRow w.heap.size 5 1 v' (n + (Cd.enc N).length + 1) ((xs ++ Cd.enc N ++ [pb p]).map Cd.by8) ∧ Below w.heap.size w w') := by
    intro W ao3 cap3 ad h1 h2 h3 h4 h5
    rw [← hpb] at h2
    obtain ⟨v', w', hrun, ho, hg⟩ := append_byte (ty := 27) (c := 1) h1 h5 hLe h2
    have hne : ∀ b, (Value.slice ao3 L cap3).ownBlock = some b → w1.heap.size ≤ b := fun b hb => (h1.lt b hb).1
    refine ⟨v', w', hrun, ⟨hg.cell h3.1 (fun e => by have := hne _ e.symm; simp at this; omega), hg.cell h3.2 (fun e => by have := hne _ e.symm; simp at this; omega)⟩, ?_, ?_⟩
    · rw [HL.out]; exact Cd.owns_mono ho (by omega)
    · exact bl_grown h4 (by omega) hg (fun b hb => by have := hne b hb; omega)
  go_wp2_with fail
  refine wp_region_noPanic ?_
  refine wp_region_held_drew (S := fun wx => wx.cell? ⟨w.heap.size, 0, none⟩ = some (.int .u64 (N : Nat)) ∧ wx.cell? ⟨w.heap.size, 1, none⟩ = some (.int .i64 p)) (by kernel_rfl) ⟨c0, c1⟩ (fun hHeld => ?_)
  refine take_first 0 (v := ?_) rfl (by kernel_rfl) (by kernel_rfl) (by kernel_rfl) (fun _ _ _ h => h) (Or.inl ⟨by rfl, by intro wx hSw; obtain ⟨hSw1, hSw2⟩ := hSw; go_simp; try with_reducible rfl⟩) (by assumption) ?_
  (try simp only [Act.put, List.setIfInBounds_toArray, List.set_cons_zero, List.set_cons_succ])
  refine take_first 1 (v := ?_) rfl (by kernel_rfl) (by kernel_rfl) (by kernel_rfl) (fun _ _ _ h => h) (Or.inl ⟨by rfl, by intro wx hSw; obtain ⟨hSw1, hSw2⟩ := hSw; go_simp; try with_reducible rfl⟩) (by assumption) ?_
  (try simp only [Act.put, List.setIfInBounds_toArray, List.set_cons_zero, List.set_cons_succ])
  refine take_first 2 (v := ?_) rfl (by kernel_rfl) (by kernel_rfl) (by kernel_rfl) (fun _ _ _ h => h) (Or.inl ⟨by rfl, by intro wx hSw; obtain ⟨hSw1, hSw2⟩ := hSw; go_simp; try with_reducible rfl⟩) (by assumption) ?_
  (try simp only [Act.put, List.setIfInBounds_toArray, List.set_cons_zero, List.set_cons_succ])
  refine take_first 4 (v := ?_) rfl (by kernel_rfl) (by kernel_rfl) (by kernel_rfl) (fun _ _ _ h => h) (Or.inl ⟨by rfl, by intro wx hSw; obtain ⟨hSw1, hSw2⟩ := hSw; go_simp; try with_reducible rfl⟩) (by assumption) ?_
  (try simp only [Act.put, List.setIfInBounds_toArray, List.set_cons_zero, List.set_cons_succ])
  refine take_first 5 (v := ?_) rfl (by kernel_rfl) (by kernel_rfl) (by kernel_rfl) (fun _ _ _ h => h) (Or.inl ⟨by rfl, by intro wx hSw; obtain ⟨hSw1, hSw2⟩ := hSw; go_simp; try with_reducible rfl⟩) (by assumption) ?_
  (try simp only [Act.put, List.setIfInBounds_toArray, List.set_cons_zero, List.set_cons_succ])
  refine take_first 6 (v := .int .u8 p) rfl (by kernel_rfl) (by kernel_rfl) (by kernel_rfl) (fun _ _ _ h => h) (Or.inl ⟨by rfl, by intro wx hSw; obtain ⟨hSw1, hSw2⟩ := hSw; go_simp; try with_reducible rfl⟩) (by assumption) ?_
  (try simp only [Act.put, List.setIfInBounds_toArray, List.set_cons_zero, List.set_cons_succ])
  refine comes_up2 3 7 rfl rfl (by kernel_rfl) (fun K hK => ?_) (fun K hK => ?_)
  · go_simp
    refine (Cd.uint_any _ ao n cap xs row1 N hN (by omega)).mono ?_
    rintro e w3 ⟨v3, rfl, hown3, hb3⟩
    rw [HL.out] at hown3
    obtain ⟨ao3, cap3, hv3⟩ := row_shape hown3
    subst hv3
    have hs3 := hb3.size
    have d0 : w3.cell? ⟨w.heap.size, 0, none⟩ = some (.int .u64 (N : Nat)) := (hb3.cell (p := ⟨w.heap.size, 0, none⟩) hwl).trans c0
    have d1 : w3.cell? ⟨w.heap.size, 1, none⟩ = some (.int .i64 p) := (hb3.cell (p := ⟨w.heap.size, 1, none⟩) hwl).trans c1
    have bl3 := bl_step bl2 hb3
    obtain ⟨v5, w5, hrun, hS5, HE⟩ := fin (w3.alloc (.cells #[.int .u8 p] 5)) ao3 cap3 ⟨w3.heap.size, 0, none⟩ (hown3.alloc _) (cell_box w3 _ 5 0 _ rfl)
      ⟨(((Below.refl _ w3).alloc (Nat.le_refl _) _).cell (World.block_lt_of_cell? w3 _ d0)).trans d0, (((Below.refl _ w3).alloc (Nat.le_refl _) _).cell (World.block_lt_of_cell? w3 _ d1)).trans d1⟩ (bl3.alloc bl3.size _) (by simp; exact Nat.le_succ_of_le hs3)
    have hS4 : (w3.alloc (.cells #[.int .u8 p] 5)).cell? ⟨w.heap.size, 0, none⟩ = some (.int .u64 (N : Nat)) ∧ (w3.alloc (.cells #[.int .u8 p] 5)).cell? ⟨w.heap.size, 1, none⟩ = some (.int .i64 p) :=
      ⟨(((Below.refl _ w3).alloc (Nat.le_refl _) _).cell (World.block_lt_of_cell? w3 _ d0)).trans d0, (((Below.refl _ w3).alloc (Nat.le_refl _) _).cell (World.block_lt_of_cell? w3 _ d1)).trans d1⟩
    clear fin hown3 hb3 bl2 row1 c0 c1
    go_wp2_with fail
    refine hK.out _ _ ⟨d0, d1⟩ (fun hHeld => ?_)
    clear hK K
    (try simp only [Act.put, List.setIfInBounds_toArray, List.set_cons_zero, List.set_cons_succ])
    refine comes_up 7 rfl (by kernel_rfl) (fun K hK => ?_)
    go_simp
    refine hK.out _ _ hS4 (fun hHeld => ?_)
    clear hK K
    (try simp only [Act.put, List.setIfInBounds_toArray, List.set_cons_zero, List.set_cons_succ])
    refine comes_up 8 rfl (by kernel_rfl) (fun K hK => ?_)
    refine step_append_run rfl (.tmp 12) (.tmp 16) 27 rfl (.slice ao3 L cap3) (.slice (some ⟨w3.heap.size, 0, none⟩) 1 1) v5 w5 (by simp [Act.eval]) (by simp [Act.eval]) hrun ?_
    refine hK.out _ _ hS5 (fun hHeld => ?_)
    clear hK K
    (try simp only [Act.put, List.setIfInBounds_toArray, List.set_cons_zero, List.set_cons_succ])
    refine take_first 9 (v := ?_) rfl (by kernel_rfl) (by kernel_rfl) (by kernel_rfl) (fun _ _ _ h => h) (Or.inl ⟨by rfl, by intro wx hSw; obtain ⟨hSw1, hSw2⟩ := hSw; go_simp; try with_reducible rfl⟩) (by assumption) ?_
    (try simp only [Act.put, List.setIfInBounds_toArray, List.set_cons_zero, List.set_cons_succ])
    refine take_first 10 (v := ?_) rfl (by kernel_rfl) (by kernel_rfl) (by kernel_rfl) (fun _ _ _ h => h) (Or.inl ⟨by rfl, by intro wx hSw; obtain ⟨hSw1, hSw2⟩ := hSw; go_simp; try with_reducible rfl⟩) (by assumption) ?_
    (try simp only [Act.put, List.setIfInBounds_toArray, List.set_cons_zero, List.set_cons_succ])
    refine wpAnyH_done (by kernel_rfl) ?_ _
    refine NoPanic.normal ?_
    go_wp2
    go_ret2
    exact ⟨v5, rfl, HE.out⟩
  · go_simp
    have hS4 : (w1.alloc (.cells #[.int .u8 p] 5)).drew.cell? ⟨w.heap.size, 0, none⟩ = some (.int .u64 (N : Nat)) ∧ (w1.alloc (.cells #[.int .u8 p] 5)).drew.cell? ⟨w.heap.size, 1, none⟩ = some (.int .i64 p) :=
      ⟨(((Below.refl _ w1).alloc (Nat.le_refl _) (.cells #[.int .u8 p] 5)).cell (World.block_lt_of_cell? w1 _ c0)).trans c0, (((Below.refl _ w1).alloc (Nat.le_refl _) (.cells #[.int .u8 p] 5)).cell (World.block_lt_of_cell? w1 _ c1)).trans c1⟩
    have blA : Below w.heap.size w (w1.alloc (.cells #[.int .u8 p] 5)).drew := by
      have := bl2.alloc (o := .cells #[.int .u8 p] 5) bl2.size
      exact ⟨this.os, this.tape, this.output, this.size, this.block⟩
    have row2 : Cd.Row (w1.alloc (.cells #[.int .u8 p] 5)).drew ao n cap xs := row1.below (B := w1.heap.size) (w' := (w1.alloc (.cells #[.int .u8 p] 5)).drew) ⟨rfl, rfl, rfl, by simp, fun k hk => Below.heap_alloc w1 _ k hk⟩ (Nat.le_refl _)
    have hbox := cell_box w1 #[.int .u8 p] 5 0 _ rfl
    refine hK.out _ _ hS4 (fun hHeld => ?_)
    clear hK K
    (try simp only [Act.put, List.setIfInBounds_toArray, List.set_cons_zero, List.set_cons_succ])
    refine comes_up 3 rfl (by kernel_rfl) (fun K hK => ?_)
    go_simp
    refine (Cd.uint_any _ ao n cap xs row2 N hN (by omega)).mono ?_
    rintro e w3 ⟨v3, rfl, hown3, hb3⟩
    rw [HL.out] at hown3
    obtain ⟨ao3, cap3, hv3⟩ := row_shape hown3
    subst hv3
    have hs3 := hb3.size
    have hsz : w1.heap.size + 1 ≤ w3.heap.size := by simpa using hs3
    have d0 : w3.cell? ⟨w.heap.size, 0, none⟩ = some (.int .u64 (N : Nat)) := (hb3.cell (World.block_lt_of_cell? _ _ hS4.1)).trans hS4.1
    have d1 : w3.cell? ⟨w.heap.size, 1, none⟩ = some (.int .i64 p) := (hb3.cell (World.block_lt_of_cell? _ _ hS4.2)).trans hS4.2
    have dx : w3.cell? ⟨w1.heap.size, 0, none⟩ = some (.int .u8 p) := (hb3.cell (p := ⟨w1.heap.size, 0, none⟩) (by simp)).trans hbox
    have bl3 := bl_step blA hb3
    obtain ⟨v5, w5, hrun, hS5, HE⟩ := fin w3 ao3 cap3 ⟨w1.heap.size, 0, none⟩ (Cd.owns_mono hown3 (by simp)) dx ⟨d0, d1⟩ bl3 (by omega)
    clear fin hown3 hb3 bl2 row1 row2 c0 c1 hS4 blA
    go_wp2_with fail
    refine hK.out _ _ ⟨d0, d1⟩ (fun hHeld => ?_)
    clear hK K
    (try simp only [Act.put, List.setIfInBounds_toArray, List.set_cons_zero, List.set_cons_succ])
    refine comes_up 8 rfl (by kernel_rfl) (fun K hK => ?_)
    refine step_append_run rfl (.tmp 12) (.tmp 16) 27 rfl (.slice ao3 L cap3) (.slice (some ⟨w1.heap.size, 0, none⟩) 1 1) v5 w5 (by simp [Act.eval]) (by simp [Act.eval]) hrun ?_
    refine hK.out _ _ hS5 (fun hHeld => ?_)
    clear hK K
    (try simp only [Act.put, List.setIfInBounds_toArray, List.set_cons_zero, List.set_cons_succ])
    refine take_first 9 (v := ?_) rfl (by kernel_rfl) (by kernel_rfl) (by kernel_rfl) (fun _ _ _ h => h) (Or.inl ⟨by rfl, by intro wx hSw; obtain ⟨hSw1, hSw2⟩ := hSw; go_simp; try with_reducible rfl⟩) (by assumption) ?_
    (try simp only [Act.put, List.setIfInBounds_toArray, List.set_cons_zero, List.set_cons_succ])
    refine take_first 10 (v := ?_) rfl (by kernel_rfl) (by kernel_rfl) (by kernel_rfl) (fun _ _ _ h => h) (Or.inl ⟨by rfl, by intro wx hSw; obtain ⟨hSw1, hSw2⟩ := hSw; go_simp; try with_reducible rfl⟩) (by assumption) ?_
    (try simp only [Act.put, List.setIfInBounds_toArray, List.set_cons_zero, List.set_cons_succ])
    refine wpAnyH_done (by kernel_rfl) ?_ _
    refine NoPanic.normal ?_
    go_wp2
    go_ret2
    exact ⟨v5, rfl, HE.out⟩
end Go.Proofs.Ytpdgoalbknopiaa
namespace Go.Proofs.Ytpdgoalbknopiaa
open Go.RowKit
set_option linter.unusedVariables false

/-- The next view's number of what is left, and what is left behind it. -/
def decV (st : Option (List UInt8)) : (Nat × Nat) × Option (List UInt8) :=
  match (Cd.rInt (Cd.rUint st).2 (if (Cd.rUint st).1 = 0 then 0 else 15)).2 with
  | none => ((0, 0), none)
  | some ys => (((Cd.rUint st).1, (Cd.rInt (Cd.rUint st).2 (if (Cd.rUint st).1 = 0 then 0 else 15)).1), some ys)

theorem rd_alloc {w : World} {r : Nat} {st : Option (List UInt8)} (h : Cd.Rd w r st) (o : Obj) : Cd.Rd (w.alloc o) r st := Cd.rd_below h ((Below.refl _ _).alloc (Nat.le_refl _) _)
/-- Bytes and a reader, while a cell is written that is no byte and no reader's. -/
theorem row_set {w : World} {ao : Option Addr} {n cap : Nat} {xs : List UInt8} (h : Cd.Row w ao n cap xs) {a : Addr} {v0 : Value} (u : Value) (hc : w.cell? a = some v0) (hv : ∀ k, v0 ≠ .int .u8 k) : Cd.Row (w.setCell a u) ao n cap xs := by
  obtain ⟨h1, h2, h3, h4, h5⟩ := h
  refine ⟨h1, h2, h3, h4, fun b hb i hi => ?_⟩
  rw [World.cell?_setCell_other]
  · exact h5 b hb i hi
  · intro e
    have := h5 b hb i hi
    rw [← e, hc] at this
    exact hv _ (Option.some.inj this)
theorem rd_set {w : World} {r B j : Nat} {st : Option (List UInt8)} (h : Cd.Rd w r st) (hb : r ≠ B) {v0 : Value} (u : Value) (hc : w.cell? ⟨B, j, none⟩ = some v0) (hv : ∀ k, v0 ≠ .int .u8 k) : Cd.Rd (w.setCell ⟨B, j, none⟩ u) r st := by
  have he : (w.setCell ⟨B, j, none⟩ u).heap[r]? = w.heap[r]? := Below.heap_setCell _ _ _ _ hb
  cases st with
  | none => exact he.trans h
  | some xs =>
    obtain ⟨ao, n, cap, h1, h2⟩ := h
    exact ⟨ao, n, cap, he.trans h1, row_set h2.1 u hc hv, h2.2⟩
theorem grown_set {w w' : World} {r B j : Nat} (h : w.grownBy w' (some r)) (hB : w.heap.size ≤ B) (u : Value) : w.grownBy (w'.setCell ⟨B, j, none⟩ u) (some r) :=
  ⟨h.os, h.tape, h.output, by simpa [World.setCell] using h.size, fun k hk hne => (Below.heap_setCell _ _ _ _ (by show k ≠ B; omega)).trans (h.block k hk hne)⟩
theorem grown_alloc {w w' : World} {r : Nat} {o : Obj} (h : (w.alloc o).grownBy w' (some r)) : w.grownBy w' (some r) :=
  ⟨h.os, h.tape, h.output, by have := h.size; simp at this; omega, fun k hk hne => (h.block k (by simp; omega) hne).trans (Below.heap_alloc w o k hk)⟩
theorem set_cell {w : World} {b o : Nat} {v u : Value} (h : w.cell? ⟨b, o, none⟩ = some v) : (w.setCell ⟨b, o, none⟩ u).cell? ⟨b, o, none⟩ = some u := World.cell?_setCell_same _ _ _ h
theorem set_cell_other {w : World} {b o b' o' : Nat} {u : Value} (h : ¬ (b' = b ∧ o' = o)) : (w.setCell ⟨b, o, none⟩ u).cell? ⟨b', o', none⟩ = w.cell? ⟨b', o', none⟩ :=
  World.cell?_setCell_other _ _ _ _ (by intro e; simp only [Addr.mk.injEq] at e; omega)

set_option maxRecDepth 10000 in
set_option maxHeartbeats 1000000 in
theorem decode_rd (w : World) (r : Nat) (st : Option (List UInt8)) (h : Cd.Rd w r st) :
    Calls Try.prog 54 #[.pointer (some ⟨r, 0, none⟩)] w fun e w' => e = .returned (.tuple #[vid (decV st).1.1 ((decV st).1.2 : Nat), .bool (decV st).2.isSome]) ∧ Cd.Rd w' r (decV st).2 ∧ w.grownBy w' (some r) := by
  have hrl := h.lt
  have h1 := rd_alloc h (.cells #[.int .u64 0, .int .i64 0] 24)
  have hu := Cd.uint_rd _ r st h1
  have hlt := Cd.rUint_lt st
  have hgr := fun W => great_any W (Cd.rUint st).1
  have hint := fun W (hW : Cd.Rd W r (Cd.rUint st).2) => Cd.int_rd W r (Cd.rUint st).2 hW (if (Cd.rUint st).1 = 0 then 0 else 15) (by split <;> omega) (by split <;> omega)
  have HD : Hid (decV st = match (Cd.rInt (Cd.rUint st).2 (if (Cd.rUint st).1 = 0 then 0 else 15)).2 with
    | none => ((0, 0), none)
    | some ys => (((Cd.rUint st).1, (Cd.rInt (Cd.rUint st).2 (if (Cd.rUint st).1 = 0 then 0 else 15)).1), some ys)) := rfl
  generalize (Cd.rUint st).1 = N at *
  generalize (Cd.rUint st).2 = st1 at *
  generalize (if N = 0 then (0 : Int) else 15) = mx at *
  generalize Cd.rInt st1 mx = ri at *
  obtain ⟨P, st2⟩ := ri
  simp only at HD hint
  unfold vid
  rw [HD.out]
  clear HD
  go_enter Try.func54, Try.ntmps54
  go_wp2_with fail
  refine hu.mono ?_
  rintro e w1 ⟨rfl, rd1, g1⟩
  go_wp2_with fail
  refine (hgr _).mono ?_
  rintro e w2 ⟨rfl, rfl⟩
  go_wp2_with fail
  refine (hint _ rd1).mono ?_
  rintro e w2 ⟨rfl, rd2, g2⟩
  have b0 := cell_box w #[Value.int .u64 0, .int .i64 0] 24 0 _ rfl
  have b1 := cell_box w #[Value.int .u64 0, .int .i64 0] 24 1 _ rfl
  have b0' := g2.cell (g1.cell b0 (by simp; omega)) (by simp; omega)
  have b1' := g2.cell (g1.cell b1 (by simp; omega)) (by simp; omega)
  clear hu hgr hint h1 rd1 b0 b1
  go_wp2_with fail
  refine (Cd.bad_rd _ _ _ rd2).mono ?_
  rintro e w3 ⟨rfl, rfl⟩
  have g3 := grown_alloc (Cd.grown_trans g1 g2)
  have f0 : w2.frozen? ⟨w.heap.size, 0, none⟩ = false := by
    rw [World.frozen?_of_block (w := w.alloc (.cells #[Value.int .u64 0, .int .i64 0] 24)) ((Cd.grown_trans g1 g2).block _ (by simp) (by simp; omega))]
    unfold World.frozen?; rw [show (w.alloc (.cells #[Value.int .u64 0, .int .i64 0] 24)).heap[w.heap.size]? = some (.cells #[Value.int .u64 0, .int .i64 0] 24 (0, 0)) from heap_alloc_new _ _]; simp
  have f1 : w2.frozen? ⟨w.heap.size, 1, none⟩ = false := by
    rw [World.frozen?_of_block (w := w.alloc (.cells #[Value.int .u64 0, .int .i64 0] 24)) ((Cd.grown_trans g1 g2).block _ (by simp) (by simp; omega))]
    unfold World.frozen?; rw [show (w.alloc (.cells #[Value.int .u64 0, .int .i64 0] 24)).heap[w.heap.size]? = some (.cells #[Value.int .u64 0, .int .i64 0] 24 (0, 0)) from heap_alloc_new _ _]; simp
  have fin : ∀ (x y : Nat), ((w2.setCell ⟨w.heap.size, 0, none⟩ (.int .u64 (x : Nat))).setCell ⟨w.heap.size, 1, none⟩ (.int .i64 (y : Nat))).cell? ⟨w.heap.size, 0, none⟩ = some (.int .u64 (x : Nat)) ∧
      ((w2.setCell ⟨w.heap.size, 0, none⟩ (.int .u64 (x : Nat))).setCell ⟨w.heap.size, 1, none⟩ (.int .i64 (y : Nat))).cell? ⟨w.heap.size, 1, none⟩ = some (.int .i64 (y : Nat)) ∧
      Hid (Cd.Rd ((w2.setCell ⟨w.heap.size, 0, none⟩ (.int .u64 (x : Nat))).setCell ⟨w.heap.size, 1, none⟩ (.int .i64 (y : Nat))) r st2 ∧ w.grownBy ((w2.setCell ⟨w.heap.size, 0, none⟩ (.int .u64 (x : Nat))).setCell ⟨w.heap.size, 1, none⟩ (.int .i64 (y : Nat))) (some r)) := by
    intro x y
    have e1 : (w2.setCell ⟨w.heap.size, 0, none⟩ (.int .u64 (x : Nat))).cell? ⟨w.heap.size, 1, none⟩ = some (.int .i64 0) := by rw [set_cell_other (by omega)]; exact b1'
    refine ⟨?_, set_cell e1, ?_, grown_set (grown_set g3 (Nat.le_refl _) _) (Nat.le_refl _) _⟩
    · rw [set_cell_other (by omega)]; exact set_cell b0'
    · exact rd_set (rd_set rd2 (by omega) _ b0' (by simp)) (by omega) _ e1 (by simp)
  clear g1 g2 g3 h
  cases st2 with
  | none =>
    obtain ⟨e0, e1, HE⟩ := fin 0 0
    have k0 : (w2.setCell ⟨w.heap.size, 0, none⟩ (.int .u64 0)).cell? ⟨w.heap.size, 0, none⟩ = some (.int .u64 0) := set_cell b0'
    have k1 : ((w2.setCell ⟨w.heap.size, 0, none⟩ (.int .u64 0)).setCell ⟨w.heap.size, 1, none⟩ (.int .i64 0)).cell? ⟨w.heap.size, 1, none⟩ = some (.int .i64 0) := e1
    clear fin rd2 e0 e1
    go_wp2
    exact bodyPost_ret (v := .tuple #[.agg #[.int .u64 0, .int .i64 0], .bool false]) (by simp [results, Try.results54, go_sem, k0, k1]) rfl ⟨rfl, HE.out⟩
  | some ys =>
    obtain ⟨e0, e1, HE⟩ := fin N P
    clear fin rd2
    go_wp2
    exact bodyPost_ret (v := .tuple #[.agg #[.int .u64 (N : Nat), .int .i64 (P : Nat)], .bool true]) (by simp [results, Try.results54, go_sem, e0, e1]) rfl ⟨rfl, HE.out⟩
end Go.Proofs.Ytpdgoalbknopiaa
namespace Go.Proofs.Ytpdgoalbknopiaa
open Go.RowKit
set_option linter.unusedVariables false

set_option maxRecDepth 10000 in
set_option maxHeartbeats 1000000 in
theorem refEncode_any (w : World) (N : Nat) (hN : N < 18446744073709551616) (p : Int) (hp0 : 0 ≤ p) (hp15 : p ≤ 15) :
    Calls Try.prog 42 #[vid N p] w fun e w' => ∃ v, e = .returned v ∧ w'.ownsRow w.heap.size 5 1 v ((Cd.enc N).length + 1) ((Cd.enc N ++ [pb p]).map Cd.by8) ∧ Below w.heap.size w w' := by
  obtain ⟨i0, hi0, hz0, hz1, hz2⟩ := info_parts info5
  have hpb := pb_num p hp0 hp15
  have hel := Cd.enc_length N
  have hwr : IntKind.u8.wrap p = p := IntWalk.u8_in _ (by omega)
  have hb0 : Below w.heap.size w (w.alloc (.cells #[Value.int .u64 (N : Nat), .int .i64 p] 24)) := (Below.refl _ _).alloc (Nat.le_refl _) _
  have c1 := cell_box w #[Value.int .u64 (N : Nat), .int .i64 p] 24 1 _ rfl
  have hru := Cd.refUint_any (w.alloc (.cells #[Value.int .u64 (N : Nat), .int .i64 p] 24)) N hN
  unfold vid
  go_enter Try.func42, Try.ntmps42
  go_wp2_with fail
  refine hru.mono ?_
  rintro e w1 ⟨v1, rfl, hown, hb1⟩
  have d1 := (hb1.cell (World.block_lt_of_cell? _ _ c1)).trans c1
  have bl1 := bl_step hb0 hb1
  obtain ⟨L, HL⟩ : ∃ L, Hid ((Cd.enc N).length = L) := ⟨_, rfl⟩
  rw [HL.out] at hown hel
  obtain ⟨ao1, cap1, hv1⟩ := row_shape hown
  subst hv1
  have hown1 := Cd.owns_mono hown (B' := w.heap.size) (by simp)
  clear hru hown hb1 c1 hb0
  go_wp2_with (first | (at_builtin; refine wpList_append_own_at _ rfl _ _ 27 rfl w.heap.size 5 i0 (.int .u8 0) 1 1 und34 hi0 hz0 hz1 hz2 rfl (by decide) (.slice ao1 L cap1) L ((Cd.enc N).map Cd.by8) rfl ?d1 ⟨w1.heap.size, 0, none⟩ 1 1 [.int .u8 p] rfl rfl ?d3 ?d4 ?d6 ?d7 ?d8 ?_))
  case d1 => exact hown1.alloc _
  case d3 => exact cell_one_new _ _ _
  case d4 => simp [Value.oneCell']
  case d6 => unfold maxLen; omega
  case d7 => omega
  case d8 => have := bl1.size; simp; omega
  intro v' w3 hown3 hgrow hnil hat
  have hbl3 := bl_grown (bl1.alloc bl1.size (.cells #[.int .u8 p] 5)) (by have := bl1.size; simp; omega) hgrow (fun g hg => (hown1.lt g hg).1)
  rw [← hpb] at hown3
  have HE : Hid (w3.ownsRow w.heap.size 5 1 v' ((Cd.enc N).length + 1) ((Cd.enc N ++ [pb p]).map Cd.by8) ∧ Below w.heap.size w w3) := ⟨by rw [HL.out]; simpa using hown3, hbl3⟩
  clear hown3 hgrow hnil hat hbl3 hown1 bl1
  go_wp2
  go_ret
  exact ⟨v', rfl, HE.out⟩

/-- What the document's reader makes of it is the same. -/
theorem dec_ref (st : Option (List UInt8)) : decV st = if (Cd.rInt (Cd.rUint st).2 15).2.isNone || !formV (Cd.rUint st).1 ((Cd.rInt (Cd.rUint st).2 15).1 : Nat) then ((0, 0), none) else (((Cd.rUint st).1, (Cd.rInt (Cd.rUint st).2 15).1), (Cd.rInt (Cd.rUint st).2 15).2) := by
  unfold decV
  generalize (Cd.rUint st).1 = N
  generalize (Cd.rUint st).2 = st1
  unfold Cd.rInt formV
  generalize (Cd.rUint st1).1 = x
  cases (Cd.rUint st1).2 with
  | none => simp
  | some ys =>
    simp only
    have cs : ∀ m : Int, 0 ≤ m → ((m < (x : Int) ∧ (if m < 0 ∨ m < (x : Int) then ((0 : Nat), (none : Option (List UInt8))) else (x, some ys)) = (0, none)) ∨ ((x : Int) ≤ m ∧ (if m < 0 ∨ m < (x : Int) then ((0 : Nat), (none : Option (List UInt8))) else (x, some ys)) = (x, some ys))) := by
      intro m hm
      by_cases h : m < (x : Int)
      · exact .inl ⟨h, if_pos (.inr h)⟩
      · exact .inr ⟨by omega, if_neg (by omega)⟩
    by_cases h0 : N = 0
    · subst h0
      simp only [if_true]
      rcases cs 0 (by omega) with ⟨a1, a2⟩ | ⟨a1, a2⟩
      · rcases cs 15 (by omega) with ⟨b1, b2⟩ | ⟨b1, b2⟩
        · simp only [a2, b2]; simp
        · simp only [a2, b2]; simp; omega
      · obtain rfl : x = 0 := by omega
        simp only [a2]; simp
    · simp only [if_neg h0]
      rcases cs 15 (by omega) with ⟨b1, b2⟩ | ⟨b1, b2⟩
      · simp only [b2]; simp
      · simp only [b2]; simp; omega
end Go.Proofs.Ytpdgoalbknopiaa
namespace Go.Proofs.Ytpdgoalbknopiaa
open Go.RowKit
set_option linter.unusedVariables false

/-- The document's reader and its bytes, behind a world. -/
def Gd (w W : World) (m : Nat) (ao : Option Addr) (n cap : Nat) (xs : List UInt8) (o : Option Nat) : Prop := Cd.RR W m ao n cap o ∧ Cd.Row W ao n cap xs ∧ w.grownBy W (some m) ∧ m < w.heap.size
section
variable {w W W' : World} {m : Nat} {ao : Option Addr} {n cap : Nat} {xs : List UInt8} {o o' : Option Nat}
theorem Gd.below (h : Gd w W m ao n cap xs o) (hb : Below W.heap.size W W') : Gd w W' m ao n cap xs o :=
  ⟨h.1.below hb, h.2.1.below hb (Nat.le_refl _), Cd.grown_trans h.2.2.1 (Cd.grown_of_below hb _), h.2.2.2⟩
theorem Gd.alloc (h : Gd w W m ao n cap xs o) (x : Obj) : Gd w (W.alloc x) m ao n cap xs o := h.below ((Below.refl _ _).alloc (Nat.le_refl _) _)
theorem Gd.step (h : Gd w W m ao n cap xs o) (hr : Cd.RR W' m ao n cap o') (g : W.grownBy W' (some m)) : Gd w W' m ao n cap xs o' :=
  ⟨hr, Cd.row_RR h.2.1 h.1 g, Cd.grown_trans h.2.2.1 g, h.2.2.2⟩
theorem Gd.set (h : Gd w W m ao n cap xs o) {B j : Nat} {v0 : Value} (u : Value) (hB : w.heap.size ≤ B) (hc : W.cell? ⟨B, j, none⟩ = some v0) (hv : ∀ k, v0 ≠ .int .u8 k) : Gd w (W.setCell ⟨B, j, none⟩ u) m ao n cap xs o := by
  have hm := h.2.2.2
  refine ⟨?_, row_set h.2.1 u hc hv, grown_set h.2.2.1 hB u, h.2.2.2⟩
  unfold Cd.RR
  rw [Below.heap_setCell _ _ _ _ (by show m ≠ B; omega)]
  exact h.1
theorem Gd.fault (h : Gd w W m ao n cap xs o) : Gd w (W.setCell ⟨m, 1, none⟩ (.int .i64 (-1))) m ao n cap xs none :=
  ⟨h.1.set none, row_set h.2.1 _ h.1.cells.2.1 (by simp), ⟨h.2.2.1.os, h.2.2.1.tape, h.2.2.1.output, by simpa [World.setCell] using h.2.2.1.size, fun k hk hne => (Below.heap_setCell _ _ _ _ (fun e => hne (by rw [e]))).trans (h.2.2.1.block k hk hne)⟩, h.2.2.2⟩
end

set_option maxRecDepth 10000 in
set_option maxHeartbeats 2000000 in
theorem refDecode_step (w : World) (m : Nat) (ao : Option Addr) (n cap : Nat) (xs : List UInt8) (o : Option Nat) (st : Option (List UInt8)) (hs : Cd.same xs o st) (h : Cd.RR w m ao n cap o) (hx : Cd.Row w ao n cap xs) (hn : n ≤ 140737488355328) :
    Calls Try.prog 46 #[.pointer (some ⟨m, 0, none⟩)] w fun e w' => e = .returned (vid (decV st).1.1 ((decV st).1.2 : Nat)) ∧ ∃ o', Cd.same xs o' (decV st).2 ∧ Cd.RR w' m ao n cap o' ∧ w.grownBy w' (some m) := by
  have hml := h.lt
  have g0 : Gd w w m ao n cap xs o := ⟨h, hx, Cd.grown_refl _ _, hml⟩
  have g1 := g0.alloc (.cells #[.int .u64 0, .int .i64 0] 24)
  have hu := Cd.refUint_step _ m ao n cap xs o st hs g1.1 g1.2.1 hn
  have hi := fun W o1 (hs1 : Cd.same xs o1 (Cd.rUint st).2) (hg : Gd w W m ao n cap xs o1) => Cd.refInt_step W m ao n cap xs o1 (Cd.rUint st).2 hs1 hg.1 hg.2.1 hn 15 (by omega) (by omega)
  have HD : Hid _ := dec_ref st
  have hlt := Cd.rUint_lt st
  generalize (Cd.rUint st).1 = N at *
  generalize (Cd.rUint st).2 = st1 at *
  generalize Cd.rInt st1 15 = ri at *
  obtain ⟨P, st2⟩ := ri
  simp only at HD hi
  have hform := fun W => refFormB_any W N (P : Int)
  unfold vid at *
  rw [HD.out]
  clear HD h hx g0
  go_enter Try.func46, Try.ntmps46
  go_wp2_with fail
  refine hu.mono ?_
  rintro e w1 ⟨rfl, o1, hs1, rr1, gr1⟩
  have g2 := g1.step rr1 gr1
  have b0 := gr1.cell (cell_box w #[Value.int .u64 0, .int .i64 0] 24 0 _ rfl) (by simp; omega)
  have b1 := gr1.cell (cell_box w #[Value.int .u64 0, .int .i64 0] 24 1 _ rfl) (by simp; omega)
  have f0 : ∀ j, w1.frozen? ⟨w.heap.size, j, none⟩ = false := fun j => by
    rw [World.frozen?_of_block (w := w.alloc (.cells #[Value.int .u64 0, .int .i64 0] 24)) (gr1.block _ (by simp) (by simp; omega))]
    unfold World.frozen?; rw [show (w.alloc (.cells #[Value.int .u64 0, .int .i64 0] 24)).heap[w.heap.size]? = some (.cells #[Value.int .u64 0, .int .i64 0] 24 (0, 0)) from heap_alloc_new _ _]; simp
  have hw1 : w.heap.size + 1 ≤ w1.heap.size := by have := gr1.size; simpa using this
  clear hu g1 rr1 gr1
  go_wp2_with fail
  have g3 := g2.alloc (.cells #[.int .u64 (N : Nat), .int .i64 0] 24)
  have up : ∀ {ad v}, w1.cell? ad = some v → (w1.alloc (.cells #[.int .u64 (N : Nat), .int .i64 0] 24)).cell? ad = some v := fun {ad v} hh => (((Below.refl _ w1).alloc (Nat.le_refl _) _).cell (World.block_lt_of_cell? w1 _ hh)).trans hh
  refine (hi _ o1 hs1 g3).mono ?_
  rintro e w3 ⟨rfl, o3, hs3, rr3, gr3⟩
  have g4 := g3.step rr3 gr3
  have c00 := gr3.cell (up b0) (by simp; omega)
  have c01 := gr3.cell (up b1) (by simp; omega)
  have c10 := gr3.cell (cell_box w1 #[Value.int .u64 (N : Nat), .int .i64 0] 24 0 _ rfl) (by simp; omega)
  have c11 := gr3.cell (cell_box w1 #[Value.int .u64 (N : Nat), .int .i64 0] 24 1 _ rfl) (by simp; omega)
  have e0 : ∀ j, w3.frozen? ⟨w.heap.size, j, none⟩ = false := fun j => by
    rw [World.frozen?_of_block (w := w1) ((gr3.block w.heap.size (by simp; omega) (by simp; omega)).trans (Below.heap_alloc w1 _ _ (by omega)))]; exact f0 j
  have e1 : ∀ j, w3.frozen? ⟨w1.heap.size, j, none⟩ = false := fun j => by
    rw [World.frozen?_of_block (w := w1.alloc (.cells #[Value.int .u64 (N : Nat), .int .i64 0] 24)) (gr3.block _ (by simp) (by simp; omega))]
    unfold World.frozen?; rw [show (w1.alloc (.cells #[Value.int .u64 (N : Nat), .int .i64 0] 24)).heap[w1.heap.size]? = some (.cells #[Value.int .u64 (N : Nat), .int .i64 0] 24 (0, 0)) from heap_alloc_new _ _]; simp
  have g5 := g4.set (B := w1.heap.size) (j := 1) (.int .i64 (P : Nat)) (by omega) c11 (by simp)
  have a00 : (w3.setCell ⟨w1.heap.size, 1, none⟩ (.int .i64 (P : Nat))).cell? ⟨w.heap.size, 0, none⟩ = some (.int .u64 0) := by rw [set_cell_other (by omega)]; exact c00
  have a01 : (w3.setCell ⟨w1.heap.size, 1, none⟩ (.int .i64 (P : Nat))).cell? ⟨w.heap.size, 1, none⟩ = some (.int .i64 0) := by rw [set_cell_other (by omega)]; exact c01
  have a10 : (w3.setCell ⟨w1.heap.size, 1, none⟩ (.int .i64 (P : Nat))).cell? ⟨w1.heap.size, 0, none⟩ = some (.int .u64 (N : Nat)) := by rw [set_cell_other (by omega)]; exact c10
  have a11 : (w3.setCell ⟨w1.heap.size, 1, none⟩ (.int .i64 (P : Nat))).cell? ⟨w1.heap.size, 1, none⟩ = some (.int .i64 (P : Nat)) := set_cell c11
  have af0 : ∀ j, (w3.setCell ⟨w1.heap.size, 1, none⟩ (.int .i64 (P : Nat))).frozen? ⟨w.heap.size, j, none⟩ = false := fun j => by rw [World.frozen?_setCell]; exact e0 j
  have ef := e1 1
  clear g3 g4 g2 hi up gr3 rr3 b0 b1 f0 e0 e1 c00 c01 c10
  go_upto_region 3 with fail
  generalize w3.setCell ⟨w1.heap.size, 1, none⟩ (.int .i64 (P : Nat)) = w4 at *
  have afm : w4.frozen? ⟨m, 1, none⟩ = false := g5.1.cells.2.2.2
  have am := g5.1.cells.2.1
  clear c11 ef
  -- the end behind a fault
  have bad : ∀ W, (∀ ad v, w4.cell? ad = some v → W.cell? ad = some v) → Gd w W m ao n cap xs o3 → (W.setCell ⟨m, 1, none⟩ (.int .i64 (-1))).cell? ⟨w.heap.size, 0, none⟩ = some (.int .u64 0) ∧ (W.setCell ⟨m, 1, none⟩ (.int .i64 (-1))).cell? ⟨w.heap.size, 1, none⟩ = some (.int .i64 0) ∧
      ((W.setCell ⟨m, 1, none⟩ (.int .i64 (-1))).setCell ⟨w.heap.size, 0, none⟩ (.int .u64 0)).cell? ⟨w.heap.size, 0, none⟩ = some (.int .u64 0) ∧
      (((W.setCell ⟨m, 1, none⟩ (.int .i64 (-1))).setCell ⟨w.heap.size, 0, none⟩ (.int .u64 0)).setCell ⟨w.heap.size, 1, none⟩ (.int .i64 0)).cell? ⟨w.heap.size, 1, none⟩ = some (.int .i64 0) ∧
      Hid (Cd.RR (((W.setCell ⟨m, 1, none⟩ (.int .i64 (-1))).setCell ⟨w.heap.size, 0, none⟩ (.int .u64 0)).setCell ⟨w.heap.size, 1, none⟩ (.int .i64 0)) m ao n cap none ∧ w.grownBy (((W.setCell ⟨m, 1, none⟩ (.int .i64 (-1))).setCell ⟨w.heap.size, 0, none⟩ (.int .u64 0)).setCell ⟨w.heap.size, 1, none⟩ (.int .i64 0)) (some m)) := by
    intro W hW hG
    have x0 : (W.setCell ⟨m, 1, none⟩ (.int .i64 (-1))).cell? ⟨w.heap.size, 0, none⟩ = some (.int .u64 0) := by rw [set_cell_other (by omega)]; exact hW _ _ a00
    have x1 : (W.setCell ⟨m, 1, none⟩ (.int .i64 (-1))).cell? ⟨w.heap.size, 1, none⟩ = some (.int .i64 0) := by rw [set_cell_other (by omega)]; exact hW _ _ a01
    have y1 : ((W.setCell ⟨m, 1, none⟩ (.int .i64 (-1))).setCell ⟨w.heap.size, 0, none⟩ (.int .u64 0)).cell? ⟨w.heap.size, 1, none⟩ = some (.int .i64 0) := by rw [set_cell_other (by omega)]; exact x1
    have gg := (hG.fault.set (B := w.heap.size) (j := 0) (.int .u64 0) (Nat.le_refl _) x0 (by simp)).set (B := w.heap.size) (j := 1) (.int .i64 0) (Nat.le_refl _) y1 (by simp)
    exact ⟨x0, x1, set_cell x0, set_cell y1, gg.1, gg.2.2.1⟩
  cases o3 with
  | none =>
    obtain rfl : st2 = none := by
      cases st2 with
      | none => rfl
      | some ys => exact absurd hs3 (by simp [Cd.same])
    obtain ⟨x0, x1, y0, y1, HE⟩ := bad w4 (fun _ _ hh => hh) g5
    have xf : ∀ j, (w4.setCell ⟨m, 1, none⟩ (.int .i64 (-1))).frozen? ⟨w.heap.size, j, none⟩ = false := fun j => by rw [World.frozen?_setCell]; exact af0 j
    have hat : Cd.atOf none = -1 := rfl
    rw [hat] at am
    clear bad g5 hat hform
    have af00 := af0 0
    have af01 := af0 1
    go_wp2
    refine bodyPost_ret (v := .agg #[.int .u64 0, .int .i64 0]) ?_ rfl ⟨?_, none, ?_, HE.out⟩
    · simp [results, Try.results46, go_sem, y0, y1]
    · simp
    · simp [Cd.same]
  | some k =>
    obtain ⟨ys, rfl⟩ : ∃ ys, st2 = some ys := by
      cases st2 with
      | none => exact absurd hs3 (by simp [Cd.same])
      | some ys => exact ⟨ys, rfl⟩
    have hat : Cd.atOf (some k) = (k : Int) := rfl
    rw [hat] at am
    clear hat
    have hk0 : ¬ ((k : Int) < 0) := by omega
    have hkd : decide ((k : Int) < 0) = false := by simp
    cases hfv : formV N (P : Int) with
    | false =>
      rw [hfv] at hform
      have bad' := fun W (hb : Below w4.heap.size w4 W) => bad W (fun ad v hh => (hb.cell (World.block_lt_of_cell? w4 _ hh)).trans hh) (g5.below hb)
      have frz : ∀ W, Below w4.heap.size w4 W → W.frozen? ⟨m, 1, none⟩ = false ∧ W.cell? ⟨m, 1, none⟩ = some (.int .i64 (k : Int)) ∧ ∀ j, (W.setCell ⟨m, 1, none⟩ (.int .i64 (-1))).frozen? ⟨w.heap.size, j, none⟩ = false := fun W hb =>
        ⟨(g5.below hb).1.cells.2.2.2, (g5.below hb).1.cells.2.1, fun j => by rw [World.frozen?_setCell, World.frozen?_of_block (w := w4) (a := ⟨w.heap.size, j, none⟩) (hb.block w.heap.size (World.block_lt_of_cell? w4 _ a00))]; exact af0 j⟩
      clear bad g5
      go_wp2_with fail
      refine (hform _).mono ?_
      rintro e w5 ⟨rfl, hb5⟩
      obtain ⟨x0, x1, y0, y1, HE⟩ := bad' w5 hb5
      obtain ⟨z1, z2, z3⟩ := frz w5 hb5
      have z30 := z3 0
      have z31 := z3 1
      clear bad' frz hb5 hform
      go_wp2
      all_goals
        refine bodyPost_ret (v := .agg #[.int .u64 0, .int .i64 0]) ?_ rfl ⟨?_, none, ?_, HE.out⟩
        · simp [results, Try.results46, go_sem, y0, y1]
        · simp
        · simp [Cd.same]
    | true =>
      rw [hfv] at hform
      have good : ∀ W, Below w4.heap.size w4 W → W.cell? ⟨w1.heap.size, 0, none⟩ = some (.int .u64 (N : Nat)) ∧ W.cell? ⟨w1.heap.size, 1, none⟩ = some (.int .i64 (P : Nat)) ∧ W.cell? ⟨w.heap.size, 0, none⟩ = some (.int .u64 0) ∧ W.cell? ⟨w.heap.size, 1, none⟩ = some (.int .i64 0) ∧ (∀ j, W.frozen? ⟨w.heap.size, j, none⟩ = false) ∧
          (W.setCell ⟨w.heap.size, 0, none⟩ (.int .u64 (N : Nat))).cell? ⟨w.heap.size, 0, none⟩ = some (.int .u64 (N : Nat)) ∧ ((W.setCell ⟨w.heap.size, 0, none⟩ (.int .u64 (N : Nat))).setCell ⟨w.heap.size, 1, none⟩ (.int .i64 (P : Nat))).cell? ⟨w.heap.size, 1, none⟩ = some (.int .i64 (P : Nat)) ∧
          Hid (Cd.RR ((W.setCell ⟨w.heap.size, 0, none⟩ (.int .u64 (N : Nat))).setCell ⟨w.heap.size, 1, none⟩ (.int .i64 (P : Nat))) m ao n cap (some k) ∧ w.grownBy ((W.setCell ⟨w.heap.size, 0, none⟩ (.int .u64 (N : Nat))).setCell ⟨w.heap.size, 1, none⟩ (.int .i64 (P : Nat))) (some m)) := by
        intro W hb
        have kp : ∀ {ad v}, w4.cell? ad = some v → W.cell? ad = some v := fun {ad v} hh => (hb.cell (World.block_lt_of_cell? w4 _ hh)).trans hh
        have y1 : (W.setCell ⟨w.heap.size, 0, none⟩ (.int .u64 (N : Nat))).cell? ⟨w.heap.size, 1, none⟩ = some (.int .i64 0) := by rw [set_cell_other (by omega)]; exact kp a01
        have gg := ((g5.below hb).set (B := w.heap.size) (j := 0) (.int .u64 (N : Nat)) (Nat.le_refl _) (kp a00) (by simp)).set (B := w.heap.size) (j := 1) (.int .i64 (P : Nat)) (Nat.le_refl _) y1 (by simp)
        exact ⟨kp a10, kp a11, kp a00, kp a01, fun j => by rw [World.frozen?_of_block (w := w4) (a := ⟨w.heap.size, j, none⟩) (hb.block w.heap.size (World.block_lt_of_cell? w4 _ a00))]; exact af0 j, set_cell (kp a00), set_cell y1, gg.1, gg.2.2.1⟩
      clear bad g5
      go_wp2_with fail
      refine (hform _).mono ?_
      rintro e w5 ⟨rfl, hb5⟩
      obtain ⟨z1, z2, z3, z4, z5, y0, y1, HE⟩ := good w5 hb5
      have z50 := z5 0
      have z51 := z5 1
      clear good hb5 hform
      go_wp2
      all_goals
        refine bodyPost_ret (v := .agg #[.int .u64 (N : Nat), .int .i64 (P : Nat)]) ?_ rfl ⟨?_, some k, ?_, HE.out⟩
        · simp [results, Try.results46, go_sem, y0, y1]
        · simp
        · simpa using hs3
end Go.Proofs.Ytpdgoalbknopiaa
namespace Go.Proofs.Ytpdgoalbknopiaa
open Go.RowKit
set_option linter.unusedVariables false

/-- A label's bytes. -/
def encL (x : Lb) : List UInt8 := Cd.enc x.1 ++ [pb x.2.1] ++ Cd.enc x.2.2.1 ++ [pb x.2.2.2]
theorem formL_parts {x : Lb} (h : formL x = true) : formV x.1 x.2.1 = true ∧ 0 < x.1 ∧ 0 < x.2.2.1 ∧ 0 ≤ x.2.2.2 ∧ x.2.2.2 ≤ 15 := by
  unfold formL at h
  simp only [Bool.and_eq_true, decide_eq_true_eq] at h
  exact ⟨h.1.1.1.1, h.1.1.1.2, h.1.1.2, h.1.2, h.2⟩
theorem formV_p {n : Nat} {p : Int} (h : formV n p = true) : 0 ≤ p ∧ p ≤ 15 := by
  unfold formV at h
  simp only [Bool.and_eq_true, decide_eq_true_eq] at h
  by_cases h0 : n = 0
  · rw [if_pos h0] at h; omega
  · rw [if_neg h0] at h; exact h

/-- Any bytes behind a row of bytes of one's own. -/
theorem wpList_append_bytes {w : World} {ops : Array Oper} {rest : List Oper} {o : Oper} {a : Act} {Q : Exit → Act → World → Prop} (hgd : o.guard = none) (s x : Operand)
    (ho : o.op = .call { callee := .builtin .append, args := #[s, x], argTypes := #[27, 27] }) (base : Nat)
    (v : Value) (n : Nat) (xs : List UInt8) (hs : a.eval s = v) (hown : w.ownsRow base 5 1 v n (xs.map Cd.by8))
    (ad : Addr) (m c : Nat) (ys : List UInt8) (hx : a.eval x = .slice (some ad) m c) (hl : ys.length = m) (hc : ∀ j u, (ys.map Cd.by8)[j]? = some u → w.cell? (ad.add j) = some u)
    (hnm : n + m ≤ 140737488355328) (hbase : base ≤ w.heap.size)
    (h : ∀ v' w', w'.ownsRow base 5 1 v' (n + m) ((xs ++ ys).map Cd.by8) → w.grownBy w' v.ownBlock → wpList Try.prog ops Q rest (a.put o.dst v') w') :
    wpList Try.prog ops Q (o :: rest) a w := by
  obtain ⟨i0, hi0, hz0, hz1, hz2⟩ := info_parts info5
  refine wpList_append_own_at _ hgd s x 27 ho base 5 i0 (.int .u8 0) 1 1 und34 hi0 hz0 hz1 hz2 rfl (by decide) v n (xs.map Cd.by8) hs hown ad m c (ys.map Cd.by8) hx (by simpa using hl) hc (fun u hu => ?_) (by unfold maxLen; omega) (by omega) hbase (fun v' w' a b _ _ => h v' w' (by simpa using a) b)
  obtain ⟨b, _, rfl⟩ := List.mem_map.1 hu
  rfl
theorem enc_pos (N : Nat) : 0 < (Cd.enc N).length := by
  unfold Cd.enc Cd.encF
  split <;> simp
theorem row_some {w : World} {B n : Nat} {v : Value} {xs : List Value} (h : w.ownsRow B 5 1 v n xs) (hn : 0 < n) : ∃ g cap, v = .slice (some ⟨g, 0, none⟩) n cap ∧ B ≤ g := by
  rcases h.2 with ⟨_, h1⟩ | ⟨g, cap, cur, rfl, hB, _⟩
  · omega
  · exact ⟨g, cap, rfl, hB⟩
theorem own_bytes_below {w w' : World} {B n : Nat} {v : Value} {xs : List Value} (h : w.ownsRow B 5 1 v n xs) (u : Below w.heap.size w w') : w'.ownsRow B 5 1 v n xs := by
  refine h.kept (row := none) ⟨u.os, u.tape, u.output, u.size, fun i hi _ => u.block i hi⟩ ?_
  cases v.ownBlock with
  | none => exact Or.inl rfl
  | some g => exact Or.inr (by simp)

set_option maxRecDepth 10000 in
set_option maxHeartbeats 1000000 in
theorem encodeL_bad (w : World) (ao : Option Addr) (n cap : Nat) (xs : List UInt8) (h : Cd.Row w ao n cap xs) (x : Lb) (hx : x.1 < 18446744073709551616) (hf : formL x = false) (hr : n + 11 ≤ 140737488355328) :
    Calls Try.prog 63 #[.slice ao n cap, lab x] w fun e w' => e = .returned (.tuple #[.slice none 0 0, .int .i64 3]) ∧ Below w.heap.size w w' := by
  have hb0 : Below w.heap.size w (w.alloc (.cells #[.int .u64 (x.1 : Nat), .int .i64 x.2.1, .int .u64 (x.2.2.1 : Nat), .int .i64 x.2.2.2] 26)) := bl1 _ _
  have b0 := bx_new w x.1 x.2.1 x.2.2.1 x.2.2.2 26
  have hrow := h.below hb0 (Nat.le_refl _)
  have hform := fun W => formL_any W x
  rw [hf] at hform
  unfold lab at *
  cases hv : formV x.1 x.2.1 with
  | false =>
    have he := encode_bad (w.alloc (.cells #[.int .u64 (x.1 : Nat), .int .i64 x.2.1, .int .u64 (x.2.2.1 : Nat), .int .i64 x.2.2.2] 26)) ao n cap x.1 x.2.1 hv
    unfold vid at he
    clear hform hrow h b0
    go_enter Try.func63, Try.ntmps63
    go_wp2_with fail
    refine he.mono ?_
    rintro e w1 ⟨rfl, hb1⟩
    have hbb := bl_step hb0 hb1
    clear he hb1 hb0
    go_wp2
    go_ret2
    exact ⟨rfl, hbb⟩
  | true =>
    have he := encode_any (w.alloc (.cells #[.int .u64 (x.1 : Nat), .int .i64 x.2.1, .int .u64 (x.2.2.1 : Nat), .int .i64 x.2.2.2] 26)) ao n cap xs hrow x.1 hx x.2.1 hv hr
    unfold vid at he
    clear hrow h
    go_enter Try.func63, Try.ntmps63
    go_wp2_with fail
    refine he.mono ?_
    rintro e w1 ⟨v1, rfl, _, hb1⟩
    have hbb := bl_step hb0 hb1
    obtain ⟨d0, d1, d2, d3⟩ := (show Bx w.heap.size x.1 x.2.1 x.2.2.1 x.2.2.2 w1 from ⟨(hb1.cell (World.block_lt_of_cell? _ _ b0.1)).trans b0.1, (hb1.cell (World.block_lt_of_cell? _ _ b0.2.1)).trans b0.2.1, (hb1.cell (World.block_lt_of_cell? _ _ b0.2.2.1)).trans b0.2.2.1, (hb1.cell (World.block_lt_of_cell? _ _ b0.2.2.2)).trans b0.2.2.2⟩)
    clear he hb1 hb0 b0
    go_wp2_with fail
    refine (hform _).mono ?_
    rintro e w2 ⟨rfl, hu2⟩
    have hbb2 := bl_step hbb hu2.bl
    clear hform hu2 hbb d0 d1 d2 d3
    go_wp2
    go_ret2
    exact ⟨rfl, hbb2⟩

set_option maxRecDepth 10000 in
set_option maxHeartbeats 1000000 in
theorem encodeL_any (w : World) (ao : Option Addr) (n cap : Nat) (xs : List UInt8) (h : Cd.Row w ao n cap xs) (x : Lb) (hx : x.1 < 18446744073709551616) (hx2 : x.2.2.1 < 18446744073709551616) (hf : formL x = true) (hr : n + 30 ≤ 140737488355328) :
    Calls Try.prog 63 #[.slice ao n cap, lab x] w fun e w' => ∃ v, e = .returned (.tuple #[v, .int .i64 0]) ∧ w'.ownsRow w.heap.size 5 1 v (n + (encL x).length) ((xs ++ encL x).map Cd.by8) ∧ Below w.heap.size w w' := by
  obtain ⟨hv, _, _, hq0, hq15⟩ := formL_parts hf
  have hb0 : Below w.heap.size w (w.alloc (.cells #[.int .u64 (x.1 : Nat), .int .i64 x.2.1, .int .u64 (x.2.2.1 : Nat), .int .i64 x.2.2.2] 26)) := bl1 _ _
  have b0 := bx_new w x.1 x.2.1 x.2.2.1 x.2.2.2 26
  have hrow := h.below hb0 (Nat.le_refl _)
  have hform := fun W => formL_any W x
  rw [hf] at hform
  have he := encode_any (w.alloc (.cells #[.int .u64 (x.1 : Nat), .int .i64 x.2.1, .int .u64 (x.2.2.1 : Nat), .int .i64 x.2.2.2] 26)) ao n cap xs hrow x.1 hx x.2.1 hv (by omega)
  have hun := fun W => Cd.uint_any W none 0 0 [] ⟨rfl, Nat.le_refl _, by unfold maxLen; omega, fun _ => ⟨rfl, rfl⟩, fun a ha => by cases ha⟩ x.2.2.1 hx2 (by omega)
  have hpb := pb_num x.2.2.2 hq0 hq15
  have hwr : IntKind.u8.wrap x.2.2.2 = x.2.2.2 := IntWalk.u8_in _ (by omega)
  have hl1 := Cd.enc_length x.1
  have hl2 := Cd.enc_length x.2.2.1
  have hl3 := enc_pos x.2.2.1
  have HEL : Hid (xs ++ encL x = (xs ++ Cd.enc x.1 ++ [pb x.2.1]) ++ Cd.enc x.2.2.1 ++ [pb x.2.2.2] ∧ n + (encL x).length = n + (Cd.enc x.1).length + 1 + (Cd.enc x.2.2.1).length + 1) := by
    unfold encL
    refine ⟨by simp, by simp; omega⟩
  obtain ⟨E, HE0⟩ : ∃ E, Hid (Cd.enc x.2.2.1 = E) := ⟨_, rfl⟩
  obtain ⟨A, HA⟩ : ∃ A, Hid (xs ++ Cd.enc x.1 ++ [pb x.2.1] = A) := ⟨_, rfl⟩
  obtain ⟨L, HLL⟩ : ∃ L, Hid (n + (Cd.enc x.1).length + 1 = L) := ⟨_, rfl⟩
  have hLb : L + 19 ≤ 140737488355328 := by have := HLL.out; omega
  unfold vid at he
  rw [HA.out, HLL.out] at he
  simp only [Nat.zero_add, List.nil_append] at hun
  rw [HE0.out] at hun hl2 hl3
  unfold lab at *
  clear hrow h hv hl1
  go_enter Try.func63, Try.ntmps63
  go_wp2_with fail
  refine he.mono ?_
  rintro e w1 ⟨v1, rfl, hown1, hb1⟩
  have hbb := bl_step hb0 hb1
  have d := (show Bx w.heap.size x.1 x.2.1 x.2.2.1 x.2.2.2 w1 from ⟨(hb1.cell (World.block_lt_of_cell? _ _ b0.1)).trans b0.1, (hb1.cell (World.block_lt_of_cell? _ _ b0.2.1)).trans b0.2.1, (hb1.cell (World.block_lt_of_cell? _ _ b0.2.2.1)).trans b0.2.2.1, (hb1.cell (World.block_lt_of_cell? _ _ b0.2.2.2)).trans b0.2.2.2⟩)
  obtain ⟨d0, d1, d2, d3⟩ := d
  have hsb := hb0.size
  have HO1 : Hid (w1.ownsRow (w.heap.size + 1) 5 1 v1 L (A.map Cd.by8)) := Cd.owns_mono hown1 (by simp)
  obtain ⟨ao1, cp1, hv1⟩ := row_shape hown1
  subst hv1
  clear he hb1 hb0 b0 hown1
  go_wp2_with fail
  refine (hform _).mono ?_
  rintro e w2 ⟨rfl, hu2⟩
  have hbb2 := bl_step hbb hu2.bl
  have HO2 : Hid (w2.ownsRow (w.heap.size + 1) 5 1 (.slice ao1 L cp1) L (A.map Cd.by8)) := own_bytes_below HO1.out hu2.bl
  obtain ⟨d0, d1, d2, d3⟩ := (⟨hu2.cell d0, hu2.cell d1, hu2.cell d2, hu2.cell d3⟩ : _ ∧ _ ∧ _ ∧ _)
  clear hform hu2 hbb HO1
  go_wp2_with fail
  refine (hun _).mono ?_
  rintro e w3 ⟨v3, rfl, hown3, hb3⟩
  have hbb3 := bl_step hbb2 hb3
  have ho3 : w3.ownsRow (w.heap.size + 1) 5 1 (.slice ao1 L cp1) L (A.map Cd.by8) := own_bytes_below HO2.out hb3
  obtain ⟨g, cg, hv3, _⟩ := row_some hown3 (by omega)
  subst hv3
  have hcs := hown3.cells (g := g) rfl
  have hlt3 : ∀ k, (Value.slice ao1 L cp1).ownBlock = some k → w.heap.size + 1 ≤ k := fun k hk => (ho3.lt k hk).1
  obtain ⟨e0, e1, e2, e3⟩ := (⟨(hb3.cell (World.block_lt_of_cell? _ _ d0)).trans d0, (hb3.cell (World.block_lt_of_cell? _ _ d1)).trans d1, (hb3.cell (World.block_lt_of_cell? _ _ d2)).trans d2, (hb3.cell (World.block_lt_of_cell? _ _ d3)).trans d3⟩ : _ ∧ _ ∧ _ ∧ _)
  have hs3 : w.heap.size + 1 ≤ w3.heap.size := by have := World.block_lt_of_cell? w3 _ e0; simp at this; omega
  clear hun hown3 hb3 hbb2 HO2 d0 d1 d2 d3
  go_wp2_with (at_builtin; refine wpList_append_bytes rfl (.tmp 22) (.tmp 25) rfl (w.heap.size + 1) _ L A rfl ?d1 ⟨g, 0, none⟩ E.length cg E rfl rfl ?d2 ?d3 ?d4 ?_)
  case d1 => exact ho3
  case d2 => exact hcs
  case d3 => omega
  case d4 => exact hs3
  intro v4 w4 hown4 hg4
  have hbb4 : Below w.heap.size w w4 := bl_grown hbb3 hbb3.size hg4 (fun k hk => by have := hlt3 k hk; omega)
  have k3 := hg4.cell e3 (fun e => by have := hlt3 _ e.symm; simp at this; omega)
  have hs4 : w.heap.size + 1 ≤ w4.heap.size := by have := World.block_lt_of_cell? w4 _ k3; simp at this; omega
  obtain ⟨ao4, cp4, hv4⟩ := row_shape hown4
  subst hv4
  have hlt4 : ∀ k, (Value.slice ao4 (L + E.length) cp4).ownBlock = some k → w.heap.size + 1 ≤ k := fun k hk => (hown4.lt k hk).1
  obtain ⟨AE, HAE⟩ : ∃ AE, Hid (A ++ E = AE) := ⟨_, rfl⟩
  have hown4' : w4.ownsRow (w.heap.size + 1) 5 1 (.slice ao4 (L + E.length) cp4) (L + E.length) (AE.map Cd.by8) := by rw [← HAE.out]; simpa using hown4
  have ho4 := fun o => hown4'.alloc o
  have hone := cell_box w4 #[Value.int .u8 x.2.2.2] 5 0 _ rfl
  clear hg4 hcs ho3 hlt3 e0 e1 e2 e3 hbb3 hs3
  go_wp2_with (at_builtin; refine wpList_append_bytes rfl (.tmp 27) (.tmp 31) rfl (w.heap.size + 1) _ (L + E.length) AE rfl ?d1 ⟨w4.heap.size, 0, none⟩ 1 1 [pb x.2.2.2] rfl rfl ?d2 ?d3 ?d4 ?_)
  case d1 => exact ho4 _
  case d2 =>
    intro j u hj
    obtain rfl : j = 0 := by have := (List.getElem?_eq_some_iff.1 hj).1; simp at this; omega
    simp only [List.map_cons, List.map_nil, List.getElem?_cons_zero, Option.some.injEq] at hj
    subst hj
    rw [hpb]
    exact hone
  case d3 => omega
  case d4 => simp; omega
  intro v5 w5 hown5 hg5
  have hbb5 : Below w.heap.size w w5 := bl_grown (hbb4.alloc hbb4.size _) (by have := hbb4.size; simp; omega) hg5 (fun k hk => by have := hlt4 k hk; omega)
  have HE : Hid (w5.ownsRow w.heap.size 5 1 v5 (n + (encL x).length) ((xs ++ encL x).map Cd.by8) ∧ Below w.heap.size w w5) := by
    rw [HEL.out.1, HEL.out.2, HE0.out, HA.out, HLL.out, HAE.out]
    refine ⟨Cd.owns_mono (B := w.heap.size + 1) ?_ (by omega), hbb5⟩
    rw [← hpb] at hown5
    simpa using hown5
  clear hown4 hown4' hown5 hg5 hlt4 ho4 hone k3 hbb4 hbb5
  go_wp2
  go_ret2
  exact ⟨v5, rfl, HE.out⟩
end Go.Proofs.Ytpdgoalbknopiaa
namespace Go.Proofs.Ytpdgoalbknopiaa
open Go.RowKit
set_option linter.unusedVariables false

set_option maxRecDepth 10000 in
set_option maxHeartbeats 1000000 in
theorem refEncodeL_any (w : World) (x : Lb) (hx : x.1 < 18446744073709551616) (hx2 : x.2.2.1 < 18446744073709551616) (hf : formL x = true) :
    Calls Try.prog 41 #[lab x] w fun e w' => ∃ v, e = .returned v ∧ w'.ownsRow w.heap.size 5 1 v (encL x).length ((encL x).map Cd.by8) ∧ Below w.heap.size w w' := by
  obtain ⟨hv, _, _, hq0, hq15⟩ := formL_parts hf
  obtain ⟨hp0, hp15⟩ := formV_p hv
  have hb0 : Below w.heap.size w (w.alloc (.cells #[.int .u64 (x.1 : Nat), .int .i64 x.2.1, .int .u64 (x.2.2.1 : Nat), .int .i64 x.2.2.2] 26)) := bl1 _ _
  have b0 := bx_new w x.1 x.2.1 x.2.2.1 x.2.2.2 26
  have he := refEncode_any (w.alloc (.cells #[.int .u64 (x.1 : Nat), .int .i64 x.2.1, .int .u64 (x.2.2.1 : Nat), .int .i64 x.2.2.2] 26)) x.1 hx x.2.1 hp0 hp15
  have hun := fun W => Cd.refUint_any W x.2.2.1 hx2
  have hpb := pb_num x.2.2.2 hq0 hq15
  have hwr : IntKind.u8.wrap x.2.2.2 = x.2.2.2 := IntWalk.u8_in _ (by omega)
  have hl1 := Cd.enc_length x.1
  have hl2 := Cd.enc_length x.2.2.1
  have hl3 := enc_pos x.2.2.1
  have HEL : Hid (encL x = (Cd.enc x.1 ++ [pb x.2.1]) ++ Cd.enc x.2.2.1 ++ [pb x.2.2.2] ∧ (encL x).length = (Cd.enc x.1).length + 1 + (Cd.enc x.2.2.1).length + 1) := by
    unfold encL
    refine ⟨by simp, by simp; omega⟩
  obtain ⟨E, HE0⟩ : ∃ E, Hid (Cd.enc x.2.2.1 = E) := ⟨_, rfl⟩
  obtain ⟨A, HA⟩ : ∃ A, Hid (Cd.enc x.1 ++ [pb x.2.1] = A) := ⟨_, rfl⟩
  obtain ⟨L, HLL⟩ : ∃ L, Hid ((Cd.enc x.1).length + 1 = L) := ⟨_, rfl⟩
  have hLb : L + 19 ≤ 100 := by have := HLL.out; omega
  unfold vid at he
  rw [HA.out, HLL.out] at he
  rw [HE0.out] at hun hl2 hl3
  unfold lab at *
  clear hv hl1
  go_enter Try.func41, Try.ntmps41
  go_wp2_with fail
  refine he.mono ?_
  rintro e w1 ⟨v1, rfl, hown1, hb1⟩
  have hbb := bl_step hb0 hb1
  obtain ⟨d0, d1, d2, d3⟩ := (show Bx w.heap.size x.1 x.2.1 x.2.2.1 x.2.2.2 w1 from ⟨(hb1.cell (World.block_lt_of_cell? _ _ b0.1)).trans b0.1, (hb1.cell (World.block_lt_of_cell? _ _ b0.2.1)).trans b0.2.1, (hb1.cell (World.block_lt_of_cell? _ _ b0.2.2.1)).trans b0.2.2.1, (hb1.cell (World.block_lt_of_cell? _ _ b0.2.2.2)).trans b0.2.2.2⟩)
  have HO1 : Hid (w1.ownsRow (w.heap.size + 1) 5 1 v1 L (A.map Cd.by8)) := Cd.owns_mono hown1 (by simp)
  obtain ⟨ao1, cp1, hv1⟩ := row_shape hown1
  subst hv1
  clear he hb1 hb0 b0 hown1
  go_wp2_with fail
  refine (hun _).mono ?_
  rintro e w3 ⟨v3, rfl, hown3, hb3⟩
  have hbb3 := bl_step hbb hb3
  have ho3 : w3.ownsRow (w.heap.size + 1) 5 1 (.slice ao1 L cp1) L (A.map Cd.by8) := own_bytes_below HO1.out hb3
  obtain ⟨g, cg, hv3, _⟩ := row_some hown3 (by omega)
  subst hv3
  have hcs := hown3.cells (g := g) rfl
  have hlt3 : ∀ k, (Value.slice ao1 L cp1).ownBlock = some k → w.heap.size + 1 ≤ k := fun k hk => (ho3.lt k hk).1
  obtain ⟨e0, e1, e2, e3⟩ := (⟨(hb3.cell (World.block_lt_of_cell? _ _ d0)).trans d0, (hb3.cell (World.block_lt_of_cell? _ _ d1)).trans d1, (hb3.cell (World.block_lt_of_cell? _ _ d2)).trans d2, (hb3.cell (World.block_lt_of_cell? _ _ d3)).trans d3⟩ : _ ∧ _ ∧ _ ∧ _)
  have hs3 : w.heap.size + 1 ≤ w3.heap.size := by have := World.block_lt_of_cell? w3 _ e0; simp at this; omega
  clear hun hown3 hb3 hbb HO1 d0 d1 d2 d3
  go_wp2_with (at_builtin; refine wpList_append_bytes rfl (.tmp 7) (.tmp 10) rfl (w.heap.size + 1) _ L A rfl ?d1 ⟨g, 0, none⟩ E.length cg E rfl rfl ?d2 ?d3 ?d4 ?_)
  case d1 => exact ho3
  case d2 => exact hcs
  case d3 => omega
  case d4 => exact hs3
  intro v4 w4 hown4 hg4
  have hbb4 : Below w.heap.size w w4 := bl_grown hbb3 hbb3.size hg4 (fun k hk => by have := hlt3 k hk; omega)
  have k3 := hg4.cell e3 (fun e => by have := hlt3 _ e.symm; simp at this; omega)
  have hs4 : w.heap.size + 1 ≤ w4.heap.size := by have := World.block_lt_of_cell? w4 _ k3; simp at this; omega
  obtain ⟨ao4, cp4, hv4⟩ := row_shape hown4
  subst hv4
  have hlt4 : ∀ k, (Value.slice ao4 (L + E.length) cp4).ownBlock = some k → w.heap.size + 1 ≤ k := fun k hk => (hown4.lt k hk).1
  obtain ⟨AE, HAE⟩ : ∃ AE, Hid (A ++ E = AE) := ⟨_, rfl⟩
  have hown4' : w4.ownsRow (w.heap.size + 1) 5 1 (.slice ao4 (L + E.length) cp4) (L + E.length) (AE.map Cd.by8) := by rw [← HAE.out]; simpa using hown4
  have ho4 := fun o => hown4'.alloc o
  have hone := cell_box w4 #[Value.int .u8 x.2.2.2] 5 0 _ rfl
  clear hg4 hcs ho3 hlt3 e0 e1 e2 e3 hbb3 hs3
  go_wp2_with (at_builtin; refine wpList_append_bytes rfl (.tmp 12) (.tmp 16) rfl (w.heap.size + 1) _ (L + E.length) AE rfl ?d1 ⟨w4.heap.size, 0, none⟩ 1 1 [pb x.2.2.2] rfl rfl ?d2 ?d3 ?d4 ?_)
  case d1 => exact ho4 _
  case d2 =>
    intro j u hj
    obtain rfl : j = 0 := by have := (List.getElem?_eq_some_iff.1 hj).1; simp at this; omega
    simp only [List.map_cons, List.map_nil, List.getElem?_cons_zero, Option.some.injEq] at hj
    subst hj
    rw [hpb]
    exact hone
  case d3 => omega
  case d4 => simp; omega
  intro v5 w5 hown5 hg5
  have hbb5 : Below w.heap.size w w5 := bl_grown (hbb4.alloc hbb4.size _) (by have := hbb4.size; simp; omega) hg5 (fun k hk => by have := hlt4 k hk; omega)
  have HE : Hid (w5.ownsRow w.heap.size 5 1 v5 (encL x).length ((encL x).map Cd.by8) ∧ Below w.heap.size w w5) := by
    rw [HEL.out.2, HEL.out.1, HE0.out, HA.out, HLL.out, HAE.out]
    refine ⟨Cd.owns_mono (B := w.heap.size + 1) ?_ (by omega), hbb5⟩
    rw [← hpb] at hown5
    simpa using hown5
  clear hown4 hown4' hown5 hg5 hlt4 ho4 hone k3 hbb4 hbb5
  go_wp2
  go_ret
  exact ⟨v5, rfl, HE.out⟩
end Go.Proofs.Ytpdgoalbknopiaa
namespace Go.Proofs.Ytpdgoalbknopiaa
open Go.RowKit
set_option linter.unusedVariables false
set_option linter.unusedSimpArgs false

/-- The next label of what is left, and what is left behind it. -/
def decL (st : Option (List UInt8)) : Lb × Option (List UInt8) :=
  match formL ((decV st).1.1, ((decV st).1.2 : Int), (Cd.rUint (decV st).2).1, ((Cd.rInt (Cd.rUint (decV st).2).2 15).1 : Int)), (Cd.rInt (Cd.rUint (decV st).2).2 15).2 with
  | true, some ys => (((decV st).1.1, ((decV st).1.2 : Int), (Cd.rUint (decV st).2).1, ((Cd.rInt (Cd.rUint (decV st).2).2 15).1 : Int)), some ys)
  | _, _ => ((0, 0, 0, 0), none)

theorem step_store_row {P : Program} {ops : Array Oper} {o : Oper} {a : Act} {w : World} {K : Act → World → Prop} {Q : Exit → Act → World → Prop} {E : Prop} (hgd : o.guard = none) (ty : TypeId) (x y : Operand) (ho : o.op = .store ty x y)
    (g : Nat) (cells : Array Value) (hx : a.eval x = .pointer (some ⟨g, 0, none⟩)) (hy : a.eval y = .agg cells) (t : TypeId) (old : Array Value) (hg : w.heap[g]? = some (.cells old t (0, 0))) (hi : (P.info? ty).map (·.size) = some cells.size)
    (hold : old.size = cells.size) (h1 : cells.all (·.oneCell') = true) (h : K (a.put o.dst undef) (w.setRow g cells)) : if Region.wanted o (yielded ops a.tmps) = true then Oper.wp P o a w K Q else E := by
  have hw : Region.wanted o (yielded ops a.tmps) = true := by simp [Region.wanted, hgd]
  rw [if_pos hw]
  exact wp_store_row ty x y ho g cells hx hy t old hg hi hold h1 h
theorem infoS26 : (Try.prog.info? 26).map (·.size) = some 4 := by kernel_rfl

def zeroLab : Array Value := #[.int .u64 0, .int .i64 0, .int .u64 0, .int .i64 0]
/-- Cells of which none is a byte. -/
def noByte (c : Array Value) : Prop := ∀ v ∈ c.toList, ∀ k, v ≠ .int .u8 k
theorem row_setRow {w : World} {ao : Option Addr} {n cap B : Nat} {xs : List UInt8} {old new : Array Value} {t : TypeId} (h : Cd.Row w ao n cap xs) (hB : w.heap[B]? = some (.cells old t (0, 0))) (ho : noByte old) : Cd.Row (w.setRow B new) ao n cap xs := by
  obtain ⟨h1, h2, h3, h4, h5⟩ := h
  refine ⟨h1, h2, h3, h4, fun b hb i hi => ?_⟩
  have hc := h5 b hb i hi
  have hs := World.cell?_spot hc
  generalize hba : b.add i = ba at *
  obtain ⟨blk, off, spot⟩ := ba
  simp only at hs
  subst hs
  by_cases e : blk = B
  · exfalso
    subst e
    rw [cell_of_row w blk off _ t (0, 0) hB] at hc
    obtain ⟨hm1, hm2⟩ := Array.getElem?_eq_some_iff.1 hc
    exact ho _ (by rw [← hm2]; simp) _ rfl
  · rw [cell_setRow_other _ _ _ _ e]
    exact hc
theorem rd_setRow {w : World} {r B : Nat} {st : Option (List UInt8)} {old new : Array Value} {t : TypeId} (h : Cd.Rd w r st) (hr : r ≠ B) (hB : w.heap[B]? = some (.cells old t (0, 0))) (ho : noByte old) : Cd.Rd (w.setRow B new) r st := by
  have he : (w.setRow B new).heap[r]? = w.heap[r]? := setRow_other _ _ _ _ hr
  cases st with
  | none => exact he.trans h
  | some xs =>
    obtain ⟨ao, n, cap, h1, h2⟩ := h
    exact ⟨ao, n, cap, he.trans h1, row_setRow h2.1 hB ho, h2.2⟩
theorem gr_row {w W : World} {r B : Nat} (h : w.grownBy W (some r)) (hB : w.heap.size ≤ B) (cs : Array Value) : w.grownBy (W.setRow B cs) (some r) :=
  ⟨h.os, h.tape, h.output, by simpa using h.size, fun k hk hne => (setRow_other _ _ _ _ (by omega)).trans (h.block k hk hne)⟩
theorem gr_of {w W : World} (h : Below w.heap.size w W) (r : Option Nat) : w.grownBy W r := ⟨h.os, h.tape, h.output, h.size, fun k hk _ => h.block k hk⟩
theorem rInt_neg (st : Option (List UInt8)) : Cd.rInt st (-1) = (0, none) := by
  unfold Cd.rInt
  cases (Cd.rUint st).2 with
  | none => rfl
  | some ys => simp

/-- What the call holds of memory: its reader, its answer's place, and the label that it has read. -/
structure Gl (w W : World) (r D : Nat) (x : Lb) (st : Option (List UInt8)) : Prop where
  rd : Cd.Rd W r st
  ans : W.heap[w.heap.size]? = some (.cells #[.int .u64 0, .int .i64 0, .int .u64 0, .int .i64 0] 26 (0, 0))
  got : W.heap[D]? = some (.cells #[.int .u64 (x.1 : Nat), .int .i64 x.2.1, .int .u64 (x.2.2.1 : Nat), .int .i64 x.2.2.2] 26 (0, 0))
  gr : w.grownBy W (some r)
  rl : r < w.heap.size
  dl : w.heap.size < D
theorem Gl.below {w W W' : World} {r D : Nat} {x : Lb} {st : Option (List UInt8)} (h : Gl w W r D x st) (hb : Below W.heap.size W W') : Gl w W' r D x st where
  rd := Cd.rd_below h.rd hb
  ans := (hb.block _ (Array.getElem?_eq_some_iff.1 h.ans).1).trans h.ans
  got := (hb.block _ (Array.getElem?_eq_some_iff.1 h.got).1).trans h.got
  gr := Cd.grown_trans h.gr (gr_of hb _)
  rl := h.rl
  dl := h.dl
theorem Gl.step {w W W' : World} {r D : Nat} {x : Lb} {st st' : Option (List UInt8)} (h : Gl w W r D x st) (hr : Cd.Rd W' r st') (g : W.grownBy W' (some r)) : Gl w W' r D x st' where
  rd := hr
  ans := (g.block _ (Array.getElem?_eq_some_iff.1 h.ans).1 (by have := h.rl; simp; omega)).trans h.ans
  got := (g.block _ (Array.getElem?_eq_some_iff.1 h.got).1 (by have := h.rl; have := h.dl; simp; omega)).trans h.got
  gr := Cd.grown_trans h.gr g
  rl := h.rl
  dl := h.dl
theorem Gl.cells {w W : World} {r D : Nat} {x : Lb} {st : Option (List UInt8)} (h : Gl w W r D x st) : W.cell? ⟨D, 0, none⟩ = some (.int .u64 (x.1 : Nat)) ∧ W.cell? ⟨D, 1, none⟩ = some (.int .i64 x.2.1) ∧ W.cell? ⟨D, 2, none⟩ = some (.int .u64 (x.2.2.1 : Nat)) ∧ W.cell? ⟨D, 3, none⟩ = some (.int .i64 x.2.2.2) :=
  ⟨by rw [cell_of_row W D 0 _ 26 (0, 0) h.got]; rfl, by rw [cell_of_row W D 1 _ 26 (0, 0) h.got]; rfl, by rw [cell_of_row W D 2 _ 26 (0, 0) h.got]; rfl, by rw [cell_of_row W D 3 _ 26 (0, 0) h.got]; rfl⟩
theorem noByte_lab (n : Int) (p s q : Int) : noByte #[.int .u64 n, .int .i64 p, .int .u64 s, .int .i64 q] := by
  intro v hv k
  simp at hv
  rcases hv with rfl | rfl | rfl | rfl <;> simp
/-- The answer laid. -/
theorem Gl.told {w W : World} {r D : Nat} {x : Lb} {st : Option (List UInt8)} (h : Gl w W r D x st) (n p s q : Int) : (∀ j v, #[Value.int .u64 n, .int .i64 p, .int .u64 s, .int .i64 q][j]? = some v → (W.setRow w.heap.size #[.int .u64 n, .int .i64 p, .int .u64 s, .int .i64 q]).cell? ⟨w.heap.size, j, none⟩ = some v) ∧
    Hid (Cd.Rd (W.setRow w.heap.size #[.int .u64 n, .int .i64 p, .int .u64 s, .int .i64 q]) r st ∧ w.grownBy (W.setRow w.heap.size #[.int .u64 n, .int .i64 p, .int .u64 s, .int .i64 q]) (some r)) := by
  refine ⟨fun j v hj => ?_, rd_setRow h.rd (by have := h.rl; omega) h.ans (noByte_lab _ _ _ _), gr_row h.gr (Nat.le_refl _) _⟩
  rw [cell_setRow_same _ _ _ _ _ _ _ h.ans]
  exact hj
/-- The label laid. -/
theorem Gl.laid {w W : World} {r D : Nat} {st : Option (List UInt8)} {old : Array Value} (x : Lb) (rd : Cd.Rd W r st) (ans : W.heap[w.heap.size]? = some (.cells #[.int .u64 0, .int .i64 0, .int .u64 0, .int .i64 0] 26 (0, 0))) (hD : W.heap[D]? = some (.cells old 26 (0, 0))) (ho : noByte old) (gr : w.grownBy W (some r)) (rl : r < w.heap.size) (dl : w.heap.size < D) :
    Gl w (W.setRow D #[.int .u64 (x.1 : Nat), .int .i64 x.2.1, .int .u64 (x.2.2.1 : Nat), .int .i64 x.2.2.2]) r D x st where
  rd := rd_setRow rd (by omega) hD ho
  ans := (setRow_other _ _ _ _ (by omega)).trans ans
  got := setRow_heap _ _ _ _ _ _ hD
  gr := gr_row gr (by omega) _
  rl := rl
  dl := dl

set_option maxRecDepth 10000 in
set_option maxHeartbeats 2000000 in
theorem decodeL_rd (w : World) (r : Nat) (st : Option (List UInt8)) (h : Cd.Rd w r st) :
    Calls Try.prog 67 #[.pointer (some ⟨r, 0, none⟩)] w fun e w' => e = .returned (.tuple #[lab (decL st).1, .bool (decL st).2.isSome]) ∧ Cd.Rd w' r (decL st).2 ∧ w.grownBy w' (some r) := by
  have hrl := h.lt
  have h1 := rd_alloc h (.cells #[.int .u64 0, .int .i64 0, .int .u64 0, .int .i64 0] 26)
  have hdv := decode_rd _ r st h1
  have huv := fun W (hW : Cd.Rd W r (decV st).2) => Cd.uint_rd W r (decV st).2 hW
  have hiv := fun W (hW : Cd.Rd W r (Cd.rUint (decV st).2).2) => Cd.int_rd W r (Cd.rUint (decV st).2).2 hW 15 (by omega) (by omega)
  have HD : Hid (decL st = match formL ((decV st).1.1, ((decV st).1.2 : Int), (Cd.rUint (decV st).2).1, ((Cd.rInt (Cd.rUint (decV st).2).2 15).1 : Int)), (Cd.rInt (Cd.rUint (decV st).2).2 15).2 with
    | true, some ys => (((decV st).1.1, ((decV st).1.2 : Int), (Cd.rUint (decV st).2).1, ((Cd.rInt (Cd.rUint (decV st).2).2 15).1 : Int)), some ys)
    | _, _ => ((0, 0, 0, 0), none)) := rfl
  generalize decL st = dl at *
  generalize (Cd.rInt (Cd.rUint (decV st).2).2 15) = ri at *
  obtain ⟨Q, st3⟩ := ri
  generalize (Cd.rUint (decV st).2) = ru at *
  obtain ⟨S, st2⟩ := ru
  generalize decV st = dv at *
  obtain ⟨⟨N, P⟩, st1⟩ := dv
  simp only at HD hdv huv hiv
  have hng := fun W (hW : Cd.Rd W r st3) => Cd.int_rd W r st3 hW (-1) (by omega) (by omega)
  simp only [rInt_neg] at hng
  unfold vid at hdv
  have hform := fun W => formL_any W (N, (P : Int), S, (Q : Int))
  have HF : Hid _ := hform
  generalize hfm : formL (N, (P : Int), S, (Q : Int)) = fm at *
  have hans0 : (w.alloc (.cells #[.int .u64 0, .int .i64 0, .int .u64 0, .int .i64 0] 26)).heap[w.heap.size]? = some (.cells #[.int .u64 0, .int .i64 0, .int .u64 0, .int .i64 0] 26 (0, 0)) := heap_alloc_new _ _
  have gr0 : w.grownBy (w.alloc (.cells #[.int .u64 0, .int .i64 0, .int .u64 0, .int .i64 0] 26)) (some r) := gr_of (bl1 _ _) _
  clear HF hfm
  go_enter Try.func67, Try.ntmps67
  go_wp2_with fail
  refine hdv.mono ?_
  rintro e w1 ⟨rfl, rd1, g1⟩
  have ans1 := (g1.block _ (by simp) (by simp; omega)).trans hans0
  have gr1 := Cd.grown_trans gr0 g1
  have hw1 : w.heap.size < w1.heap.size := (Array.getElem?_eq_some_iff.1 ans1).1
  have rd2 := rd_alloc rd1 (.cells #[.int .u64 (N : Nat), .int .i64 (P : Nat)] 24)
  have ub : Below w1.heap.size w1 (w1.alloc (.cells #[.int .u64 (N : Nat), .int .i64 (P : Nat)] 24)) := bl1 _ _
  have ans2 := (ub.block _ hw1).trans ans1
  have gr2 := Cd.grown_trans gr1 (gr_of ub _)
  have c20 := cell_box w1 #[Value.int .u64 (N : Nat), .int .i64 (P : Nat)] 24 0 _ rfl
  have c21 := cell_box w1 #[Value.int .u64 (N : Nat), .int .i64 (P : Nat)] 24 1 _ rfl
  have huv2 := huv _ rd2
  clear hdv huv h h1 rd1 g1 ans1 gr1 ub hans0 gr0 rd2
  go_wp2_with fail
  refine huv2.mono ?_
  rintro e w3 ⟨rfl, rd3, g3⟩
  have ans3 := (g3.block _ (by simp; omega) (by simp; omega)).trans ans2
  have gr3 := Cd.grown_trans gr2 g3
  have c30 := g3.cell c20 (by simp; omega)
  have c31 := g3.cell c21 (by simp; omega)
  have hw3 : w1.heap.size < w3.heap.size := World.block_lt_of_cell? w3 _ c30
  clear huv2 g3 ans2 gr2 c20 c21
  go_wp2_with fail
  refine wp_region_noPanic ?_
  refine wp_region_held_drew (S := fun wx => wx.cell? ⟨w1.heap.size, 0, none⟩ = some (.int .u64 (N : Nat)) ∧ wx.cell? ⟨w1.heap.size, 1, none⟩ = some (.int .i64 (P : Nat))) (by kernel_rfl) ⟨c30, c31⟩ (fun hHeld => ?_)
  refine take_first 0 (v := ?_) rfl (by kernel_rfl) (by kernel_rfl) (by kernel_rfl) (fun _ _ _ h => h) (Or.inl ⟨by rfl, by intro wx hSw; obtain ⟨a0, a1⟩ := hSw; go_simp; try with_reducible rfl⟩) (by assumption) ?_
  (try simp only [Act.put, List.setIfInBounds_toArray, List.set_cons_zero, List.set_cons_succ])
  refine take_first 1 (v := ?_) rfl (by kernel_rfl) (by kernel_rfl) (by kernel_rfl) (fun _ _ _ h => h) (Or.inl ⟨by rfl, by intro wx hSw; obtain ⟨a0, a1⟩ := hSw; go_simp; try with_reducible rfl⟩) (by assumption) ?_
  (try simp only [Act.put, List.setIfInBounds_toArray, List.set_cons_zero, List.set_cons_succ])
  refine take_first 2 (v := ?_) rfl (by kernel_rfl) (by kernel_rfl) (by kernel_rfl) (fun _ _ _ h => h) (Or.inl ⟨by rfl, by intro wx hSw; obtain ⟨a0, a1⟩ := hSw; go_simp; try with_reducible rfl⟩) (by assumption) ?_
  (try simp only [Act.put, List.setIfInBounds_toArray, List.set_cons_zero, List.set_cons_succ])
  refine comes_up2 3 5 rfl rfl (by kernel_rfl) (fun K hK => ?_) (fun K hK => ?_)
  · go_simp
    refine (hiv w3.drew rd3).mono ?_
    rintro e w4 ⟨rfl, rd4, g4⟩
    have ans4 := (g4.block _ (by show _ < w3.heap.size; omega) (by simp; omega)).trans ans3
    have gr4 := Cd.grown_trans (show w.grownBy w3.drew (some r) from ⟨gr3.os, gr3.tape, gr3.output, gr3.size, gr3.block⟩) g4
    have hS4 : w4.cell? ⟨w1.heap.size, 0, none⟩ = some (.int .u64 (N : Nat)) ∧ w4.cell? ⟨w1.heap.size, 1, none⟩ = some (.int .i64 (P : Nat)) := ⟨g4.cell (show w3.drew.cell? _ = _ from c30) (by simp; omega), g4.cell (show w3.drew.cell? _ = _ from c31) (by simp; omega)⟩
    have hw4 : w.heap.size < w4.heap.size := (Array.getElem?_eq_some_iff.1 ans4).1
    have ua : Below w4.heap.size w4 (w4.alloc (.cells #[.int .u64 0, .int .i64 0, .int .u64 0, .int .i64 0] 26)) := bl1 _ _
    have hS5 : (w4.alloc (.cells #[.int .u64 0, .int .i64 0, .int .u64 0, .int .i64 0] 26)).cell? ⟨w1.heap.size, 0, none⟩ = some (.int .u64 (N : Nat)) ∧ (w4.alloc (.cells #[.int .u64 0, .int .i64 0, .int .u64 0, .int .i64 0] 26)).cell? ⟨w1.heap.size, 1, none⟩ = some (.int .i64 (P : Nat)) :=
      ⟨(ua.cell (World.block_lt_of_cell? w4 _ hS4.1)).trans hS4.1, (ua.cell (World.block_lt_of_cell? w4 _ hS4.2)).trans hS4.2⟩
    have hD5 : (w4.alloc (.cells #[.int .u64 0, .int .i64 0, .int .u64 0, .int .i64 0] 26)).heap[w4.heap.size]? = some (.cells #[.int .u64 0, .int .i64 0, .int .u64 0, .int .i64 0] 26 (0, 0)) := heap_alloc_new _ _
    have hw14 : w1.heap.size < w4.heap.size := World.block_lt_of_cell? w4 _ hS4.1
    have G := Gl.laid (w := w) (N, (P : Int), S, (Q : Int)) (rd_alloc rd4 (.cells #[.int .u64 0, .int .i64 0, .int .u64 0, .int .i64 0] 26)) ((ua.block _ hw4).trans ans4) hD5 (noByte_lab _ _ _ _) (Cd.grown_trans gr4 (gr_of ua _)) hrl hw4
    have hS6 : ((w4.alloc (.cells #[.int .u64 0, .int .i64 0, .int .u64 0, .int .i64 0] 26)).setRow w4.heap.size #[.int .u64 (N : Nat), .int .i64 (P : Nat), .int .u64 (S : Nat), .int .i64 (Q : Nat)]).cell? ⟨w1.heap.size, 0, none⟩ = some (.int .u64 (N : Nat)) ∧ ((w4.alloc (.cells #[.int .u64 0, .int .i64 0, .int .u64 0, .int .i64 0] 26)).setRow w4.heap.size #[.int .u64 (N : Nat), .int .i64 (P : Nat), .int .u64 (S : Nat), .int .i64 (Q : Nat)]).cell? ⟨w1.heap.size, 1, none⟩ = some (.int .i64 (P : Nat)) :=
      ⟨(cell_setRow_other _ _ _ _ (by show w1.heap.size ≠ w4.heap.size; omega)).trans hS5.1, (cell_setRow_other _ _ _ _ (by show w1.heap.size ≠ w4.heap.size; omega)).trans hS5.2⟩
    simp only at G
    clear hiv g4 rd4 ans4 gr4 rd3 ans3 gr3 c30 c31 hHeld ua
    go_wp2_with fail
    refine hK.out _ _ hS4 (fun hHeld => ?_)
    clear hK K
    (try simp only [Act.put, List.setIfInBounds_toArray, List.set_cons_zero, List.set_cons_succ])
    refine take_first 4 (v := ?_) rfl (by kernel_rfl) (by kernel_rfl) (by kernel_rfl) (fun _ _ _ h => h) (Or.inl ⟨by rfl, by intro wx hSw; obtain ⟨a0, a1⟩ := hSw; go_simp; try with_reducible rfl⟩) (by assumption) ?_
    (try simp only [Act.put, List.setIfInBounds_toArray, List.set_cons_zero, List.set_cons_succ])
    refine comes_up 5 rfl (by kernel_rfl) (fun K hK => ?_)
    go_simp
    refine hK.out _ _ hS5 (fun hHeld => ?_)
    clear hK K
    (try simp only [Act.put, List.setIfInBounds_toArray, List.set_cons_zero, List.set_cons_succ])
    refine comes_up 6 rfl (by kernel_rfl) (fun K hK => ?_)
    refine step_store_row rfl 26 (.tmp 7) (.tmp 19) rfl w4.heap.size #[.int .u64 (N : Nat), .int .i64 (P : Nat), .int .u64 (S : Nat), .int .i64 (Q : Nat)] (by simp [Act.eval]) (by simp [Act.eval]) 26 _ hD5 infoS26 rfl (by simp [Value.oneCell']) ?_
    refine hK.out _ _ hS6 (fun hHeld => ?_)
    clear hK K
    (try simp only [Act.put, List.setIfInBounds_toArray, List.set_cons_zero, List.set_cons_succ])
    refine wpAnyH_done (by kernel_rfl) ?_ _
    refine NoPanic.normal ?_
    clear hS4 hS5 hS6 hHeld hD5
    generalize hD : w4.heap.size = D at G ⊢
    generalize hW5 : (w4.alloc (.cells #[.int .u64 0, .int .i64 0, .int .u64 0, .int .i64 0] 26)).setRow D #[.int .u64 (N : Nat), .int .i64 (P : Nat), .int .u64 (S : Nat), .int .i64 (Q : Nat)] = W5 at G ⊢
    clear hW5 hD hw4 hw14
    obtain ⟨d0, d1, d2, d3⟩ := G.cells
    simp only at d0 d1 d2 d3
    unfold lab at hform
    simp only at hform
    cases fm with
    | false =>
      have HR : Hid (dl = ((0, 0, 0, 0), none)) := by
        show _ = _
        rw [HD.out]
      go_wp2_with fail
      refine (hform _).mono ?_
      rintro e w6 ⟨rfl, hu6⟩
      have G6 := G.below hu6.bl
      clear G hform hu6 d0 d1 d2 d3
      have hng6 := hng _ G6.rd
      go_wp2_with fail
      refine hng6.mono ?_
      rintro e w7 ⟨rfl, rd7, g7⟩
      have G7 := G6.step rd7 g7
      clear hng hng6 g7 G6 rd7
      have hb7 := Cd.bad_rd _ _ _ G7.rd
      go_wp2_with fail
      refine hb7.mono ?_
      rintro e w8 ⟨rfl, rfl⟩
      obtain ⟨hc, HE⟩ := G7.told 0 0 0 0
      have k0 := hc 0 _ rfl
      have k1 := hc 1 _ rfl
      have k2 := hc 2 _ rfl
      have k3 := hc 3 _ rfl
      have hans := G7.ans
      clear hb7 G7 hc
      go_wp2_with (first | (refine wpList_store_row rfl 26 (.tmp 2) (.tmp 27) rfl w.heap.size #[.int .u64 0, .int .i64 0, .int .u64 0, .int .i64 0] rfl rfl 26 _ hans infoS26 rfl (by simp [Value.oneCell']) ?_))
      refine bodyPost_ret (v := .tuple #[.agg #[.int .u64 0, .int .i64 0, .int .u64 0, .int .i64 0], .bool false]) ?_ rfl ?_
      · simp [results, Try.results67, go_sem, k0, k1, k2, k3]
      · rw [HR.out]
        exact ⟨rfl, HE.out⟩
    | true =>
      go_wp2_with fail
      refine (hform _).mono ?_
      rintro e w6 ⟨rfl, hu6⟩
      have G6 := G.below hu6.bl
      clear G hform hu6 d0 d1 d2 d3 hng
      have hb7 := Cd.bad_rd _ _ _ G6.rd
      cases st3 with
      | none =>
        have HR : Hid (dl = ((0, 0, 0, 0), none)) := by
          show _ = _
          rw [HD.out]
        go_wp2_with fail
        refine hb7.mono ?_
        rintro e w8 ⟨rfl, rfl⟩
        obtain ⟨hc, HE⟩ := G6.told 0 0 0 0
        have k0 := hc 0 _ rfl
        have k1 := hc 1 _ rfl
        have k2 := hc 2 _ rfl
        have k3 := hc 3 _ rfl
        have hans := G6.ans
        clear hb7 G6 hc
        go_wp2_with (first | (refine wpList_store_row rfl 26 (.tmp 2) (.tmp 27) rfl w.heap.size #[.int .u64 0, .int .i64 0, .int .u64 0, .int .i64 0] rfl rfl 26 _ hans infoS26 rfl (by simp [Value.oneCell']) ?_))
        refine bodyPost_ret (v := .tuple #[.agg #[.int .u64 0, .int .i64 0, .int .u64 0, .int .i64 0], .bool false]) ?_ rfl ?_
        · simp [results, Try.results67, go_sem, k0, k1, k2, k3]
        · rw [HR.out]
          exact ⟨rfl, HE.out⟩
      | some ys =>
        have HR : Hid (dl = ((N, (P : Int), S, (Q : Int)), some ys)) := by
          show _ = _
          rw [HD.out]
        go_wp2_with fail
        refine hb7.mono ?_
        rintro e w8 ⟨rfl, rfl⟩
        obtain ⟨hc, HE⟩ := G6.told (N : Nat) (P : Nat) (S : Nat) (Q : Nat)
        have k0 := hc 0 _ rfl
        have k1 := hc 1 _ rfl
        have k2 := hc 2 _ rfl
        have k3 := hc 3 _ rfl
        have hans := G6.ans
        obtain ⟨d0, d1, d2, d3⟩ := G6.cells
        simp only at d0 d1 d2 d3
        clear hb7 G6 hc
        go_wp2_with (first | (refine wpList_store_row rfl 26 (.tmp 2) (.tmp 28) rfl w.heap.size #[.int .u64 (N : Nat), .int .i64 (P : Nat), .int .u64 (S : Nat), .int .i64 (Q : Nat)] rfl rfl 26 _ hans infoS26 rfl (by simp [Value.oneCell']) ?_))
        refine bodyPost_ret (v := .tuple #[.agg #[.int .u64 (N : Nat), .int .i64 (P : Nat), .int .u64 (S : Nat), .int .i64 (Q : Nat)], .bool true]) ?_ rfl ?_
        · simp [results, Try.results67, go_sem, k0, k1, k2, k3]
        · rw [HR.out]
          exact ⟨rfl, HE.out⟩
  · go_simp
    have ua : Below w3.heap.size w3 (w3.alloc (.cells #[.int .u64 0, .int .i64 0, .int .u64 0, .int .i64 0] 26)) := bl1 _ _
    have rd3' : Cd.Rd (w3.alloc (.cells #[.int .u64 0, .int .i64 0, .int .u64 0, .int .i64 0] 26)).drew r st2 := rd_alloc rd3 (.cells #[.int .u64 0, .int .i64 0, .int .u64 0, .int .i64 0] 26)
    have hS4 : (w3.alloc (.cells #[.int .u64 0, .int .i64 0, .int .u64 0, .int .i64 0] 26)).drew.cell? ⟨w1.heap.size, 0, none⟩ = some (.int .u64 (N : Nat)) ∧ (w3.alloc (.cells #[.int .u64 0, .int .i64 0, .int .u64 0, .int .i64 0] 26)).drew.cell? ⟨w1.heap.size, 1, none⟩ = some (.int .i64 (P : Nat)) :=
      ⟨(ua.cell (World.block_lt_of_cell? w3 _ c30)).trans c30, (ua.cell (World.block_lt_of_cell? w3 _ c31)).trans c31⟩
    have hD3 : (w3.alloc (.cells #[.int .u64 0, .int .i64 0, .int .u64 0, .int .i64 0] 26)).drew.heap[w3.heap.size]? = some (.cells #[.int .u64 0, .int .i64 0, .int .u64 0, .int .i64 0] 26 (0, 0)) := heap_alloc_new _ _
    have ans3' : (w3.alloc (.cells #[.int .u64 0, .int .i64 0, .int .u64 0, .int .i64 0] 26)).drew.heap[w.heap.size]? = some (.cells #[.int .u64 0, .int .i64 0, .int .u64 0, .int .i64 0] 26 (0, 0)) := (ua.block _ (by omega)).trans ans3
    have gr3' : w.grownBy (w3.alloc (.cells #[.int .u64 0, .int .i64 0, .int .u64 0, .int .i64 0] 26)).drew (some r) := by
      have q := Cd.grown_trans gr3 (gr_of ua _)
      exact ⟨q.os, q.tape, q.output, q.size, q.block⟩
    have hiv3 := hiv _ rd3'
    have hsz3 : (w3.alloc (.cells #[.int .u64 0, .int .i64 0, .int .u64 0, .int .i64 0] 26)).drew.heap.size = w3.heap.size + 1 := by show (w3.alloc _).heap.size = _; simp
    clear hHeld hiv rd3 ans3 gr3 ua
    refine hK.out _ _ hS4 (fun hHeld => ?_)
    clear hK K
    (try simp only [Act.put, List.setIfInBounds_toArray, List.set_cons_zero, List.set_cons_succ])
    refine comes_up 3 rfl (by kernel_rfl) (fun K hK => ?_)
    go_simp
    refine hiv3.mono ?_
    rintro e w4 ⟨rfl, rd4, g4⟩
    have ans4 := (g4.block _ (by rw [hsz3]; omega) (by simp; omega)).trans ans3'
    have hD4 := (g4.block w3.heap.size (by rw [hsz3]; omega) (by simp; omega)).trans hD3
    have gr4 := Cd.grown_trans gr3' g4
    have hS5 : w4.cell? ⟨w1.heap.size, 0, none⟩ = some (.int .u64 (N : Nat)) ∧ w4.cell? ⟨w1.heap.size, 1, none⟩ = some (.int .i64 (P : Nat)) := ⟨g4.cell hS4.1 (by simp; omega), g4.cell hS4.2 (by simp; omega)⟩
    have G := Gl.laid (w := w) (N, (P : Int), S, (Q : Int)) rd4 ans4 hD4 (noByte_lab _ _ _ _) gr4 hrl (by omega)
    have hS6 : (w4.setRow w3.heap.size #[.int .u64 (N : Nat), .int .i64 (P : Nat), .int .u64 (S : Nat), .int .i64 (Q : Nat)]).cell? ⟨w1.heap.size, 0, none⟩ = some (.int .u64 (N : Nat)) ∧ (w4.setRow w3.heap.size #[.int .u64 (N : Nat), .int .i64 (P : Nat), .int .u64 (S : Nat), .int .i64 (Q : Nat)]).cell? ⟨w1.heap.size, 1, none⟩ = some (.int .i64 (P : Nat)) :=
      ⟨(cell_setRow_other _ _ _ _ (by show w1.heap.size ≠ w3.heap.size; omega)).trans hS5.1, (cell_setRow_other _ _ _ _ (by show w1.heap.size ≠ w3.heap.size; omega)).trans hS5.2⟩
    simp only at G
    clear hiv3 g4 rd4 ans4 gr4 hS4 hHeld ans3' gr3' hD3 c30 c31 rd3'
    go_wp2_with fail
    refine hK.out _ _ hS5 (fun hHeld => ?_)
    clear hK K
    (try simp only [Act.put, List.setIfInBounds_toArray, List.set_cons_zero, List.set_cons_succ])
    refine take_first 4 (v := ?_) rfl (by kernel_rfl) (by kernel_rfl) (by kernel_rfl) (fun _ _ _ h => h) (Or.inl ⟨by rfl, by intro wx hSw; obtain ⟨a0, a1⟩ := hSw; go_simp; try with_reducible rfl⟩) (by assumption) ?_
    (try simp only [Act.put, List.setIfInBounds_toArray, List.set_cons_zero, List.set_cons_succ])
    refine comes_up 6 rfl (by kernel_rfl) (fun K hK => ?_)
    refine step_store_row rfl 26 (.tmp 7) (.tmp 19) rfl w3.heap.size #[.int .u64 (N : Nat), .int .i64 (P : Nat), .int .u64 (S : Nat), .int .i64 (Q : Nat)] (by simp [Act.eval]) (by simp [Act.eval]) 26 _ hD4 infoS26 rfl (by simp [Value.oneCell']) ?_
    refine hK.out _ _ hS6 (fun hHeld => ?_)
    clear hK K
    (try simp only [Act.put, List.setIfInBounds_toArray, List.set_cons_zero, List.set_cons_succ])
    refine wpAnyH_done (by kernel_rfl) ?_ _
    refine NoPanic.normal ?_
    clear hS5 hS6 hHeld hD4
    generalize hD : w3.heap.size = D at G ⊢
    generalize hW5 : w4.setRow D #[.int .u64 (N : Nat), .int .i64 (P : Nat), .int .u64 (S : Nat), .int .i64 (Q : Nat)] = W5 at G ⊢
    clear hW5 hD hw3 hsz3
    obtain ⟨d0, d1, d2, d3⟩ := G.cells
    simp only at d0 d1 d2 d3
    unfold lab at hform
    simp only at hform
    cases fm with
    | false =>
      have HR : Hid (dl = ((0, 0, 0, 0), none)) := by
        show _ = _
        rw [HD.out]
      go_wp2_with fail
      refine (hform _).mono ?_
      rintro e w6 ⟨rfl, hu6⟩
      have G6 := G.below hu6.bl
      clear G hform hu6 d0 d1 d2 d3
      have hng6 := hng _ G6.rd
      go_wp2_with fail
      refine hng6.mono ?_
      rintro e w7 ⟨rfl, rd7, g7⟩
      have G7 := G6.step rd7 g7
      clear hng hng6 g7 G6 rd7
      have hb7 := Cd.bad_rd _ _ _ G7.rd
      go_wp2_with fail
      refine hb7.mono ?_
      rintro e w8 ⟨rfl, rfl⟩
      obtain ⟨hc, HE⟩ := G7.told 0 0 0 0
      have k0 := hc 0 _ rfl
      have k1 := hc 1 _ rfl
      have k2 := hc 2 _ rfl
      have k3 := hc 3 _ rfl
      have hans := G7.ans
      clear hb7 G7 hc
      go_wp2_with (first | (refine wpList_store_row rfl 26 (.tmp 2) (.tmp 27) rfl w.heap.size #[.int .u64 0, .int .i64 0, .int .u64 0, .int .i64 0] rfl rfl 26 _ hans infoS26 rfl (by simp [Value.oneCell']) ?_))
      refine bodyPost_ret (v := .tuple #[.agg #[.int .u64 0, .int .i64 0, .int .u64 0, .int .i64 0], .bool false]) ?_ rfl ?_
      · simp [results, Try.results67, go_sem, k0, k1, k2, k3]
      · rw [HR.out]
        exact ⟨rfl, HE.out⟩
    | true =>
      go_wp2_with fail
      refine (hform _).mono ?_
      rintro e w6 ⟨rfl, hu6⟩
      have G6 := G.below hu6.bl
      clear G hform hu6 d0 d1 d2 d3 hng
      have hb7 := Cd.bad_rd _ _ _ G6.rd
      cases st3 with
      | none =>
        have HR : Hid (dl = ((0, 0, 0, 0), none)) := by
          show _ = _
          rw [HD.out]
        go_wp2_with fail
        refine hb7.mono ?_
        rintro e w8 ⟨rfl, rfl⟩
        obtain ⟨hc, HE⟩ := G6.told 0 0 0 0
        have k0 := hc 0 _ rfl
        have k1 := hc 1 _ rfl
        have k2 := hc 2 _ rfl
        have k3 := hc 3 _ rfl
        have hans := G6.ans
        clear hb7 G6 hc
        go_wp2_with (first | (refine wpList_store_row rfl 26 (.tmp 2) (.tmp 27) rfl w.heap.size #[.int .u64 0, .int .i64 0, .int .u64 0, .int .i64 0] rfl rfl 26 _ hans infoS26 rfl (by simp [Value.oneCell']) ?_))
        refine bodyPost_ret (v := .tuple #[.agg #[.int .u64 0, .int .i64 0, .int .u64 0, .int .i64 0], .bool false]) ?_ rfl ?_
        · simp [results, Try.results67, go_sem, k0, k1, k2, k3]
        · rw [HR.out]
          exact ⟨rfl, HE.out⟩
      | some ys =>
        have HR : Hid (dl = ((N, (P : Int), S, (Q : Int)), some ys)) := by
          show _ = _
          rw [HD.out]
        go_wp2_with fail
        refine hb7.mono ?_
        rintro e w8 ⟨rfl, rfl⟩
        obtain ⟨hc, HE⟩ := G6.told (N : Nat) (P : Nat) (S : Nat) (Q : Nat)
        have k0 := hc 0 _ rfl
        have k1 := hc 1 _ rfl
        have k2 := hc 2 _ rfl
        have k3 := hc 3 _ rfl
        have hans := G6.ans
        obtain ⟨d0, d1, d2, d3⟩ := G6.cells
        simp only at d0 d1 d2 d3
        clear hb7 G6 hc
        go_wp2_with (first | (refine wpList_store_row rfl 26 (.tmp 2) (.tmp 28) rfl w.heap.size #[.int .u64 (N : Nat), .int .i64 (P : Nat), .int .u64 (S : Nat), .int .i64 (Q : Nat)] rfl rfl 26 _ hans infoS26 rfl (by simp [Value.oneCell']) ?_))
        refine bodyPost_ret (v := .tuple #[.agg #[.int .u64 (N : Nat), .int .i64 (P : Nat), .int .u64 (S : Nat), .int .i64 (Q : Nat)], .bool true]) ?_ rfl ?_
        · simp [results, Try.results67, go_sem, k0, k1, k2, k3]
        · rw [HR.out]
          exact ⟨rfl, HE.out⟩
end Go.Proofs.Ytpdgoalbknopiaa
namespace Go.Proofs.Ytpdgoalbknopiaa
open Go.RowKit
set_option linter.unusedVariables false
set_option linter.unusedSimpArgs false

/-- What the call holds of memory: its reader, its answer's place, and the label that it has read. -/
structure Gq (w W : World) (m : Nat) (ao : Option Addr) (n cap : Nat) (xs : List UInt8) (o : Option Nat) (C : Nat) (a b c d : Int) : Prop where
  rr : Cd.RR W m ao n cap o
  row : Cd.Row W ao n cap xs
  ans : W.heap[w.heap.size]? = some (.cells #[.int .u64 0, .int .i64 0, .int .u64 0, .int .i64 0] 26 (0, 0))
  got : W.heap[C]? = some (.cells #[.int .u64 a, .int .i64 b, .int .u64 c, .int .i64 d] 26 (0, 0))
  gr : w.grownBy W (some m)
  ml : m < w.heap.size
  cl : w.heap.size < C
section
variable {w W W' : World} {m : Nat} {ao : Option Addr} {n cap : Nat} {xs : List UInt8} {o o' : Option Nat} {C : Nat} {a b c d : Int}
theorem Gq.below (h : Gq w W m ao n cap xs o C a b c d) (hb : Below W.heap.size W W') : Gq w W' m ao n cap xs o C a b c d where
  rr := h.rr.below hb
  row := h.row.below hb (Nat.le_refl _)
  ans := (hb.block _ (Array.getElem?_eq_some_iff.1 h.ans).1).trans h.ans
  got := (hb.block _ (Array.getElem?_eq_some_iff.1 h.got).1).trans h.got
  gr := Cd.grown_trans h.gr (gr_of hb _)
  ml := h.ml
  cl := h.cl
theorem Gq.step (h : Gq w W m ao n cap xs o C a b c d) (hr : Cd.RR W' m ao n cap o') (g : W.grownBy W' (some m)) : Gq w W' m ao n cap xs o' C a b c d where
  rr := hr
  row := Cd.row_RR h.row h.rr g
  ans := (g.block _ (Array.getElem?_eq_some_iff.1 h.ans).1 (by have := h.ml; simp; omega)).trans h.ans
  got := (g.block _ (Array.getElem?_eq_some_iff.1 h.got).1 (by have := h.ml; have := h.cl; simp; omega)).trans h.got
  gr := Cd.grown_trans h.gr g
  ml := h.ml
  cl := h.cl
theorem Gq.cells (h : Gq w W m ao n cap xs o C a b c d) : W.cell? ⟨C, 0, none⟩ = some (.int .u64 a) ∧ W.cell? ⟨C, 1, none⟩ = some (.int .i64 b) ∧ W.cell? ⟨C, 2, none⟩ = some (.int .u64 c) ∧ W.cell? ⟨C, 3, none⟩ = some (.int .i64 d) :=
  ⟨by rw [cell_of_row W C 0 _ 26 (0, 0) h.got]; rfl, by rw [cell_of_row W C 1 _ 26 (0, 0) h.got]; rfl, by rw [cell_of_row W C 2 _ 26 (0, 0) h.got]; rfl, by rw [cell_of_row W C 3 _ 26 (0, 0) h.got]; rfl⟩
theorem Gq.free (h : Gq w W m ao n cap xs o C a b c d) (j : Nat) : W.frozen? ⟨C, j, none⟩ = false := frozen_of_row W C j _ 26 h.got
theorem Gq.seq (h : Gq w W m ao n cap xs o C a b c d) (c' : Int) : Gq w (W.setCell ⟨C, 2, none⟩ (.int .u64 c')) m ao n cap xs o C a b c' d where
  rr := by unfold Cd.RR; rw [Below.heap_setCell _ _ _ _ (by have := h.ml; have := h.cl; show m ≠ C; omega)]; exact h.rr
  row := row_set h.row _ h.cells.2.2.1 (by simp)
  ans := (Below.heap_setCell _ _ _ _ (by have := h.cl; show w.heap.size ≠ C; omega)).trans h.ans
  got := by rw [setCell_eq_setRow W C 2 _ 26 (0, 0) _ h.got, setRow_heap _ _ _ _ _ _ h.got]; rfl
  gr := grown_set h.gr (by have := h.cl; omega) _
  ml := h.ml
  cl := h.cl
theorem Gq.who (h : Gq w W m ao n cap xs o C a b c d) (d' : Int) : Gq w (W.setCell ⟨C, 3, none⟩ (.int .i64 d')) m ao n cap xs o C a b c d' where
  rr := by unfold Cd.RR; rw [Below.heap_setCell _ _ _ _ (by have := h.ml; have := h.cl; show m ≠ C; omega)]; exact h.rr
  row := row_set h.row _ h.cells.2.2.2 (by simp)
  ans := (Below.heap_setCell _ _ _ _ (by have := h.cl; show w.heap.size ≠ C; omega)).trans h.ans
  got := by rw [setCell_eq_setRow W C 3 _ 26 (0, 0) _ h.got, setRow_heap _ _ _ _ _ _ h.got]; rfl
  gr := grown_set h.gr (by have := h.cl; omega) _
  ml := h.ml
  cl := h.cl
theorem Gq.fault (h : Gq w W m ao n cap xs o C a b c d) : Gq w (W.setCell ⟨m, 1, none⟩ (.int .i64 (-1))) m ao n cap xs none C a b c d where
  rr := h.rr.set none
  row := row_set h.row _ h.rr.cells.2.1 (by simp)
  ans := (Below.heap_setCell _ _ _ _ (by have := h.ml; show w.heap.size ≠ m; omega)).trans h.ans
  got := (Below.heap_setCell _ _ _ _ (by have := h.ml; have := h.cl; show C ≠ m; omega)).trans h.got
  gr := ⟨h.gr.os, h.gr.tape, h.gr.output, by simpa [World.setCell] using h.gr.size, fun k hk hne => (Below.heap_setCell _ _ _ _ (fun e => hne (by rw [e]))).trans (h.gr.block k hk hne)⟩
  ml := h.ml
  cl := h.cl
/-- The answer laid. -/
theorem Gq.told (h : Gq w W m ao n cap xs o C a b c d) (n' p s q : Int) : (∀ j v, #[Value.int .u64 n', .int .i64 p, .int .u64 s, .int .i64 q][j]? = some v → (W.setRow w.heap.size #[.int .u64 n', .int .i64 p, .int .u64 s, .int .i64 q]).cell? ⟨w.heap.size, j, none⟩ = some v) ∧
    Hid (Cd.RR (W.setRow w.heap.size #[.int .u64 n', .int .i64 p, .int .u64 s, .int .i64 q]) m ao n cap o ∧ w.grownBy (W.setRow w.heap.size #[.int .u64 n', .int .i64 p, .int .u64 s, .int .i64 q]) (some m)) := by
  refine ⟨fun j v hj => ?_, ?_, gr_row h.gr (Nat.le_refl _) _⟩
  · rw [cell_setRow_same _ _ _ _ _ _ _ h.ans]
    exact hj
  · unfold Cd.RR
    rw [setRow_other _ _ _ _ (by have := h.ml; show m ≠ w.heap.size; omega)]
    exact h.rr
end

set_option maxRecDepth 10000 in
set_option maxHeartbeats 2000000 in
theorem refDecodeL_step (w : World) (m : Nat) (ao : Option Addr) (n cap : Nat) (xs : List UInt8) (o : Option Nat) (st : Option (List UInt8)) (hs : Cd.same xs o st) (h : Cd.RR w m ao n cap o) (hx : Cd.Row w ao n cap xs) (hn : n ≤ 140737488355328) :
    Calls Try.prog 45 #[.pointer (some ⟨m, 0, none⟩)] w fun e w' => e = .returned (lab (decL st).1) ∧ ∃ o', Cd.same xs o' (decL st).2 ∧ Cd.RR w' m ao n cap o' ∧ w.grownBy w' (some m) := by
  have hml := h.lt
  have ub : Below w.heap.size w (w.alloc (.cells #[.int .u64 0, .int .i64 0, .int .u64 0, .int .i64 0] 26)) := bl1 _ _
  have hans0 : (w.alloc (.cells #[.int .u64 0, .int .i64 0, .int .u64 0, .int .i64 0] 26)).heap[w.heap.size]? = some (.cells #[.int .u64 0, .int .i64 0, .int .u64 0, .int .i64 0] 26 (0, 0)) := heap_alloc_new _ _
  have hdv := refDecode_step _ m ao n cap xs o st hs (h.below ub) (hx.below ub (Nat.le_refl _)) hn
  have huv := fun W o1 (hs1 : Cd.same xs o1 (decV st).2) (hr : Cd.RR W m ao n cap o1) (hw : Cd.Row W ao n cap xs) => Cd.refUint_step W m ao n cap xs o1 (decV st).2 hs1 hr hw hn
  have hiv := fun W o1 (hs1 : Cd.same xs o1 (Cd.rUint (decV st).2).2) (hr : Cd.RR W m ao n cap o1) (hw : Cd.Row W ao n cap xs) => Cd.refInt_step W m ao n cap xs o1 (Cd.rUint (decV st).2).2 hs1 hr hw hn 15 (by omega) (by omega)
  have HD : Hid (decL st = match formL ((decV st).1.1, ((decV st).1.2 : Int), (Cd.rUint (decV st).2).1, ((Cd.rInt (Cd.rUint (decV st).2).2 15).1 : Int)), (Cd.rInt (Cd.rUint (decV st).2).2 15).2 with
    | true, some ys => (((decV st).1.1, ((decV st).1.2 : Int), (Cd.rUint (decV st).2).1, ((Cd.rInt (Cd.rUint (decV st).2).2 15).1 : Int)), some ys)
    | _, _ => ((0, 0, 0, 0), none)) := rfl
  generalize decL st = dl at *
  generalize (Cd.rInt (Cd.rUint (decV st).2).2 15) = ri at *
  obtain ⟨Q, st3⟩ := ri
  generalize (Cd.rUint (decV st).2) = ru at *
  obtain ⟨S, st2⟩ := ru
  generalize decV st = dv at *
  obtain ⟨⟨N, P⟩, st1⟩ := dv
  simp only at HD hdv huv hiv
  unfold vid at hdv
  have hform := fun W => refFormL_any W (N, (P : Int), S, (Q : Int))
  generalize formL (N, (P : Int), S, (Q : Int)) = fm at *
  unfold lab at hform
  simp only at hform
  go_enter Try.func45, Try.ntmps45
  go_wp2_with fail
  refine hdv.mono ?_
  rintro e w1 ⟨rfl, o1, hs1, rr1, g1⟩
  have row1 : Cd.Row w1 ao n cap xs := Cd.row_RR (hx.below ub (Nat.le_refl _)) (h.below ub) g1
  have ans1 := (g1.block _ (by simp) (by simp; omega)).trans hans0
  have gr1 := Cd.grown_trans (gr_of ub (some m)) g1
  have hw1 : w.heap.size < w1.heap.size := (Array.getElem?_eq_some_iff.1 ans1).1
  have ub1 : Below w1.heap.size w1 (w1.alloc (.cells #[.int .u64 (N : Nat), .int .i64 (P : Nat), .int .u64 0, .int .i64 0] 26)) := bl1 _ _
  have G1 : Gq w (w1.alloc (.cells #[.int .u64 (N : Nat), .int .i64 (P : Nat), .int .u64 0, .int .i64 0] 26)) m ao n cap xs o1 w1.heap.size (N : Nat) (P : Nat) 0 0 :=
    ⟨rr1.below ub1, row1.below ub1 (Nat.le_refl _), (ub1.block _ hw1).trans ans1, heap_alloc_new _ _, Cd.grown_trans gr1 (gr_of ub1 _), hml, hw1⟩
  have hu1 := huv _ o1 hs1 G1.rr G1.row
  clear hdv huv h hx ub hans0 rr1 g1 row1 ans1 gr1 ub1 hs hs1
  go_wp2_with fail
  refine hu1.mono ?_
  rintro e w2 ⟨rfl, o2, hs2, rr2, g2⟩
  have G2 := G1.step rr2 g2
  obtain ⟨a0, a1, a2, a3⟩ := G2.cells
  have f2 := G2.free 2
  have G3 := G2.seq (S : Nat)
  have hi3 := hiv _ o2 hs2 G3.rr G3.row
  clear hu1 hiv G1 rr2 g2 hs2 G2
  go_wp2_with fail
  refine hi3.mono ?_
  rintro e w4 ⟨rfl, o4, hs4, rr4, g4⟩
  have G4 := G3.step rr4 g4
  clear a0 a1 a2 a3 f2
  obtain ⟨a0, a1, a2, a3⟩ := G4.cells
  have f3 := G4.free 3
  have G5 := G4.who (Q : Nat)
  obtain ⟨d0, d1, d2, d3⟩ := G5.cells
  have am := G5.rr.cells.2.1
  clear hi3 G3 rr4 g4 G4
  go_upto_region 4 with fail
  generalize w4.setCell ⟨w1.heap.size, 3, none⟩ (.int .i64 (Q : Nat)) = w5 at *
  clear a0 a1 a2 a3 f3
  cases o4 with
  | none =>
    obtain rfl : st3 = none := by
      cases st3 with
      | none => rfl
      | some ys => exact absurd hs4 (by simp [Cd.same])
    have HR : Hid (dl = ((0, 0, 0, 0), none)) := by
      show _ = _
      rw [HD.out]
      cases fm <;> rfl
    have hat : Cd.atOf none = -1 := rfl
    rw [hat] at am
    have fm1 := G5.rr.cells.2.2.2
    have G6 := G5.fault
    obtain ⟨hc, HE⟩ := G6.told 0 0 0 0
    have k0 := hc 0 _ rfl
    have k1 := hc 1 _ rfl
    have k2 := hc 2 _ rfl
    have k3 := hc 3 _ rfl
    have hans := G6.ans
    clear G5 G6 hc hform hat
    go_wp2_with (first | (refine wpList_store_row rfl 26 (.tmp 2) (.tmp 26) rfl w.heap.size #[.int .u64 0, .int .i64 0, .int .u64 0, .int .i64 0] rfl rfl 26 _ hans infoS26 rfl (by simp [Value.oneCell']) ?_))
    refine bodyPost_ret (v := .agg #[.int .u64 0, .int .i64 0, .int .u64 0, .int .i64 0]) ?_ rfl ?_
    · simp [results, Try.results45, go_sem, k0, k1, k2, k3]
    · rw [HR.out]
      exact ⟨rfl, none, by simp [Cd.same], HE.out⟩
  | some k =>
    obtain ⟨ys, rfl⟩ : ∃ ys, st3 = some ys := by
      cases st3 with
      | none => exact absurd hs4 (by simp [Cd.same])
      | some ys => exact ⟨ys, rfl⟩
    have hat : Cd.atOf (some k) = (k : Int) := rfl
    rw [hat] at am
    clear hat
    have hk0 : ¬ ((k : Int) < 0) := by omega
    have hkd : decide ((k : Int) < 0) = false := by simp
    cases fm with
    | false =>
      have HR : Hid (dl = ((0, 0, 0, 0), none)) := by
        show _ = _
        rw [HD.out]
      go_wp2_with fail
      refine (hform _).mono ?_
      rintro e w6 ⟨rfl, hu6⟩
      have G6 := G5.below hu6.bl
      have am6 := G6.rr.cells.2.1
      have fm6 := G6.rr.cells.2.2.2
      have G7 := G6.fault
      obtain ⟨hc, HE⟩ := G7.told 0 0 0 0
      have k0 := hc 0 _ rfl
      have k1 := hc 1 _ rfl
      have k2 := hc 2 _ rfl
      have k3 := hc 3 _ rfl
      have hans := G7.ans
      clear hform hu6 G5 G6 G7 hc am d0 d1 d2 d3
      go_wp2_with (first | (refine wpList_store_row rfl 26 (.tmp 2) (.tmp 26) rfl w.heap.size #[.int .u64 0, .int .i64 0, .int .u64 0, .int .i64 0] rfl rfl 26 _ hans infoS26 rfl (by simp [Value.oneCell']) ?_))
      refine bodyPost_ret (v := .agg #[.int .u64 0, .int .i64 0, .int .u64 0, .int .i64 0]) ?_ rfl ?_
      · simp [results, Try.results45, go_sem, k0, k1, k2, k3]
      · rw [HR.out]
        exact ⟨rfl, none, by simp [Cd.same], HE.out⟩
    | true =>
      have HR : Hid (dl = ((N, (P : Int), S, (Q : Int)), some ys)) := by
        show _ = _
        rw [HD.out]
      go_wp2_with fail
      refine (hform _).mono ?_
      rintro e w6 ⟨rfl, hu6⟩
      have G6 := G5.below hu6.bl
      obtain ⟨hc, HE⟩ := G6.told (N : Nat) (P : Nat) (S : Nat) (Q : Nat)
      have k0 := hc 0 _ rfl
      have k1 := hc 1 _ rfl
      have k2 := hc 2 _ rfl
      have k3 := hc 3 _ rfl
      have hans := G6.ans
      obtain ⟨e0, e1, e2, e3⟩ := G6.cells
      clear hform hu6 G5 G6 hc am d0 d1 d2 d3
      go_wp2_with (first | (refine wpList_store_row rfl 26 (.tmp 2) (.tmp 27) rfl w.heap.size #[.int .u64 (N : Nat), .int .i64 (P : Nat), .int .u64 (S : Nat), .int .i64 (Q : Nat)] rfl rfl 26 _ hans infoS26 rfl (by simp [Value.oneCell']) ?_))
      refine bodyPost_ret (v := .agg #[.int .u64 (N : Nat), .int .i64 (P : Nat), .int .u64 (S : Nat), .int .i64 (Q : Nat)]) ?_ rfl ?_
      · simp [results, Try.results45, go_sem, k0, k1, k2, k3]
      · rw [HR.out]
        exact ⟨rfl, some k, hs4, HE.out⟩
end Go.Proofs.Ytpdgoalbknopiaa
