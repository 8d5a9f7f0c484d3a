/-
  Which views' numbers are right: nothing of old turns.
  Views' numbers as bytes, and back: Encode and Decode of package ident, and the document's answers.
  Decode of package ident, and the document's answers.
  The document's answers for views' numbers as bytes, and back.
  The document's Decode of a view's number.
  Labels as bytes: Encode of package label, and the document's answer.
  The document's bytes of a label.
  Labels out of bytes: Decode of package label.
  The document's Decode of a label.
-/
import Derived.Test.YtlaihgdfedalmaaGreatLAll
import Derived.Test.YtlaihgdfedalmaaGreatCdAll
import Derived.Deep.Cut
import Derived.Laws.Tables
namespace Go.Proofs.YtlaihgdfedalmaaGreat
open Go.RowKit Go.Sort
set_option linter.unusedVariables false
theorem formB_any (w : World) (n : Nat) (p : Int) : Calls Tryz.prog 118 #[vid n p] w fun e w' => e = .returned (.bool (formV n p)) ∧ RowKit.Below w.heap.size w w' := (form_any w n p).mono fun _ _ h => ⟨h.1, h.2.bl⟩
theorem row_shape {w : World} {B e n : Nat} {v : Value} {xs : List Value} (h : w.ownsRow B e 1 v n xs) : ∃ ao cap, v = .slice ao n cap := by
  rcases h.2 with ⟨rfl, rfl⟩ | ⟨g, cap, cur, rfl, _⟩
  · exact ⟨_, _, rfl⟩
  · exact ⟨_, _, rfl⟩
end Go.Proofs.YtlaihgdfedalmaaGreat
namespace Go.Proofs.YtlaihgdfedalmaaGreat
open Go.RowKit
set_option linter.unusedVariables false

theorem und34 : Tryz.prog.underlying 37 = some (.slice 5) := by kernel_rfl
theorem info5 : (Tryz.prog.info? 5).map (fun i => (i.zero, i.size, i.bytes)) = some (some (.int .u8 0), 1, 1) := by kernel_rfl
/-- The byte of a node's number. -/
def pb (p : Int) : UInt8 := UInt8.ofNat p.toNat
theorem pb_num (p : Int) (h0 : 0 ≤ p) (h1 : p ≤ 15) : Cd.by8 (pb p) = .int .u8 p := by
  unfold Cd.by8 pb
  rw [Cd.ofNat_toNat _ (by omega), Int.toNat_of_nonneg h0]

/-- append of one byte to a row of one's own. -/
theorem append_byte {w : World} {B n : Nat} {ao : Option Addr} {cap : Nat} {xs : List UInt8} {b : UInt8} {ad : Addr} {c : Nat} {ty : TypeId} (h : w.ownsRow B 5 1 (.slice ao n cap) n (xs.map Cd.by8)) (hB : B ≤ w.heap.size) (hn : n + 1 ≤ 140737488355328) (hc : w.cell? ad = some (Cd.by8 b)) :
    ∃ v' w', (Builtin.append_ #[37, 37] ty #[.slice ao n cap, .slice (some ad) 1 c]).run Tryz.prog w = .ok v' w' ∧ w'.ownsRow B 5 1 v' (n + 1) ((xs ++ [b]).map Cd.by8) ∧ w.grownBy w' (Value.slice ao n cap).ownBlock := by
  obtain ⟨i0, hi0, hz0, hz1, hz2⟩ := info_parts info5
  obtain ⟨v', w', hr, h1, h2, _, _⟩ := run_append_own_at (P := Tryz.prog) w B 37 ty 5 i0 (.int .u8 0) 1 1 und34 hi0 hz0 hz1 hz2 rfl (by decide) (.slice ao n cap) n (xs.map Cd.by8) h ad 1 c [Cd.by8 b] rfl (by
    intro j u hj
    obtain ⟨e1, e2⟩ := List.getElem?_eq_some_iff.1 hj
    simp at e1 e2
    subst e1
    rw [← e2, show ad.add 0 = ad by unfold Addr.add; simp]
    exact hc) (by simp [Cd.by8, Value.oneCell']) (by unfold maxLen; omega) (by omega) hB
  exact ⟨v', w', hr, by simpa using h1, h2⟩

set_option maxRecDepth 10000 in
set_option maxHeartbeats 2000000 in
theorem encode_any (w : World) (ao : Option Addr) (n cap : Nat) (xs : List UInt8) (h : Cd.Row w ao n cap xs) (N : Nat) (hN : N < 18446744073709551616) (p : Int) (hf : formV N p = true) (hr : n + 11 ≤ 140737488355328) :
    Calls Tryz.prog 96 #[.slice ao n cap, vid N p] w fun e w' => ∃ v, e = .returned (.tuple #[v, .int .i64 0]) ∧ w'.ownsRow w.heap.size 5 1 v (n + (Cd.enc N).length + 1) ((xs ++ Cd.enc N ++ [pb p]).map Cd.by8) ∧ Below w.heap.size w w' := by
  have hform := fun W => formB_any W N p
  rw [hf] at hform
  have hp : 0 ≤ p ∧ p ≤ 15 := by
    unfold formV at hf
    simp only [Bool.and_eq_true, decide_eq_true_eq] at hf
    by_cases h0 : N = 0
    · rw [if_pos h0] at hf; omega
    · rw [if_neg h0] at hf; exact hf
  obtain ⟨hp0, hp15⟩ := hp
  have hpb := pb_num p hp0 hp15
  have hel := Cd.enc_length N
  have HROW : Hid (Cd.Row w ao n cap xs) := h
  clear h hf
  unfold vid at *
  go_enter Tryz.func96, Tryz.ntmps96
  go_wp2_with fail
  refine (hform _).mono ?_
  rintro e w1 ⟨rfl, hb1⟩
  have bl1 : Below w.heap.size w w1 := ((Below.refl _ _).alloc (Nat.le_refl _) _).trans (hb1.mono (by simp))
  have c0 : w1.cell? ⟨w.heap.size, 0, none⟩ = some (.int .u64 (N : Nat)) := (hb1.cell (by simp)).trans (cell_box w _ 33 0 _ rfl)
  have c1 : w1.cell? ⟨w.heap.size, 1, none⟩ = some (.int .i64 p) := (hb1.cell (by simp)).trans (cell_box w _ 33 1 _ rfl)
  have row1 : Cd.Row w1.drew ao n cap xs := HROW.out.below (w' := w1.drew) ⟨bl1.os, bl1.tape, bl1.output, bl1.size, bl1.block⟩ (Nat.le_refl _)
  have bl2 : Below w.heap.size w w1.drew := ⟨bl1.os, bl1.tape, bl1.output, bl1.size, bl1.block⟩
  have hwr : IntKind.u8.wrap p = p := IntWalk.u8_in _ (by omega)
  clear hb1 bl1 hform HROW
  obtain ⟨L, HL⟩ : ∃ L, Hid (n + (Cd.enc N).length = L) := ⟨_, rfl⟩
  have hLe : L + 1 ≤ 140737488355328 := by have := HL.out; omega
  have hwl : w.heap.size < w1.heap.size := World.block_lt_of_cell? w1 _ c0
  have fin : ∀ (W : World) (ao3 : Option Addr) (cap3 : Nat) (ad : Addr), W.ownsRow w1.heap.size 5 1 (.slice ao3 L cap3) L ((xs ++ Cd.enc N).map Cd.by8) → W.cell? ad = some (.int .u8 p) → (W.cell? ⟨w.heap.size, 0, none⟩ = some (.int .u64 (N : Nat)) ∧ W.cell? ⟨w.heap.size, 1, none⟩ = some (.int .i64 p)) → Below w.heap.size w W → w1.heap.size ≤ W.heap.size →
      ∃ v' w', (Builtin.append_ #[37, 37] 37 #[.slice ao3 L cap3, .slice (some ad) 1 1]).run Tryz.prog W = .ok v' w' ∧ (w'.cell? ⟨w.heap.size, 0, none⟩ = some (.int .u64 (N : Nat)) ∧ w'.cell? ⟨w.heap.size, 1, none⟩ = some (.int .i64 p)) ∧ Hid (w'.ownsRow w.heap.size 5 1 v' (n + (Cd.enc N).length + 1) ((xs ++ Cd.enc N ++ [pb p]).map Cd.by8) ∧ Below w.heap.size w w') := by
    intro W ao3 cap3 ad h1 h2 h3 h4 h5
    rw [← hpb] at h2
    obtain ⟨v', w', hrun, ho, hg⟩ := append_byte (ty := 37) (c := 1) h1 h5 hLe h2
    have hne : ∀ b, (Value.slice ao3 L cap3).ownBlock = some b → w1.heap.size ≤ b := fun b hb => (h1.lt b hb).1
    refine ⟨v', w', hrun, ⟨hg.cell h3.1 (fun e => by have := hne _ e.symm; simp at this; omega), hg.cell h3.2 (fun e => by have := hne _ e.symm; simp at this; omega)⟩, ?_, ?_⟩
    · rw [HL.out]; exact Cd.owns_mono ho (by omega)
    · exact bl_grown h4 (by omega) hg (fun b hb => by have := hne b hb; omega)
  go_wp2_with fail
  refine wp_region_noPanic ?_
  refine wp_region_held_drew (S := fun wx => wx.cell? ⟨w.heap.size, 0, none⟩ = some (.int .u64 (N : Nat)) ∧ wx.cell? ⟨w.heap.size, 1, none⟩ = some (.int .i64 p)) (by kernel_rfl) ⟨c0, c1⟩ (fun hHeld => ?_)
  refine take_first 0 (v := ?_) rfl (by kernel_rfl) (by kernel_rfl) (by kernel_rfl) (fun _ _ _ h => h) (Or.inl ⟨by rfl, by intro wx hSw; obtain ⟨hSw1, hSw2⟩ := hSw; go_simp; try with_reducible rfl⟩) (by assumption) ?_
  (try simp only [Act.put, List.setIfInBounds_toArray, List.set_cons_zero, List.set_cons_succ])
  refine take_first 1 (v := ?_) rfl (by kernel_rfl) (by kernel_rfl) (by kernel_rfl) (fun _ _ _ h => h) (Or.inl ⟨by rfl, by intro wx hSw; obtain ⟨hSw1, hSw2⟩ := hSw; go_simp; try with_reducible rfl⟩) (by assumption) ?_
  (try simp only [Act.put, List.setIfInBounds_toArray, List.set_cons_zero, List.set_cons_succ])
  refine take_first 2 (v := ?_) rfl (by kernel_rfl) (by kernel_rfl) (by kernel_rfl) (fun _ _ _ h => h) (Or.inl ⟨by rfl, by intro wx hSw; obtain ⟨hSw1, hSw2⟩ := hSw; go_simp; try with_reducible rfl⟩) (by assumption) ?_
  (try simp only [Act.put, List.setIfInBounds_toArray, List.set_cons_zero, List.set_cons_succ])
  refine take_first 4 (v := ?_) rfl (by kernel_rfl) (by kernel_rfl) (by kernel_rfl) (fun _ _ _ h => h) (Or.inl ⟨by rfl, by intro wx hSw; obtain ⟨hSw1, hSw2⟩ := hSw; go_simp; try with_reducible rfl⟩) (by assumption) ?_
  (try simp only [Act.put, List.setIfInBounds_toArray, List.set_cons_zero, List.set_cons_succ])
  refine take_first 5 (v := ?_) rfl (by kernel_rfl) (by kernel_rfl) (by kernel_rfl) (fun _ _ _ h => h) (Or.inl ⟨by rfl, by intro wx hSw; obtain ⟨hSw1, hSw2⟩ := hSw; go_simp; try with_reducible rfl⟩) (by assumption) ?_
  (try simp only [Act.put, List.setIfInBounds_toArray, List.set_cons_zero, List.set_cons_succ])
  refine take_first 6 (v := .int .u8 p) rfl (by kernel_rfl) (by kernel_rfl) (by kernel_rfl) (fun _ _ _ h => h) (Or.inl ⟨by rfl, by intro wx hSw; obtain ⟨hSw1, hSw2⟩ := hSw; go_simp; try with_reducible rfl⟩) (by assumption) ?_
  (try simp only [Act.put, List.setIfInBounds_toArray, List.set_cons_zero, List.set_cons_succ])
  refine comes_up2 3 7 rfl rfl (by kernel_rfl) (fun K hK => ?_) (fun K hK => ?_)
  · go_simp
    refine (Cd.uint_any _ ao n cap xs row1 N hN (by omega)).mono ?_
    rintro e w3 ⟨v3, rfl, hown3, hb3⟩
    rw [HL.out] at hown3
    obtain ⟨ao3, cap3, hv3⟩ := row_shape hown3
    subst hv3
    have hs3 := hb3.size
    have d0 : w3.cell? ⟨w.heap.size, 0, none⟩ = some (.int .u64 (N : Nat)) := (hb3.cell (p := ⟨w.heap.size, 0, none⟩) hwl).trans c0
    have d1 : w3.cell? ⟨w.heap.size, 1, none⟩ = some (.int .i64 p) := (hb3.cell (p := ⟨w.heap.size, 1, none⟩) hwl).trans c1
    have bl3 := bl_step bl2 hb3
    obtain ⟨v5, w5, hrun, hS5, HE⟩ := fin (w3.alloc (.cells #[.int .u8 p] 5)) ao3 cap3 ⟨w3.heap.size, 0, none⟩ (hown3.alloc _) (cell_box w3 _ 5 0 _ rfl)
      ⟨(((Below.refl _ w3).alloc (Nat.le_refl _) _).cell (World.block_lt_of_cell? w3 _ d0)).trans d0, (((Below.refl _ w3).alloc (Nat.le_refl _) _).cell (World.block_lt_of_cell? w3 _ d1)).trans d1⟩ (bl3.alloc bl3.size _) (by simp; exact Nat.le_succ_of_le hs3)
    have hS4 : (w3.alloc (.cells #[.int .u8 p] 5)).cell? ⟨w.heap.size, 0, none⟩ = some (.int .u64 (N : Nat)) ∧ (w3.alloc (.cells #[.int .u8 p] 5)).cell? ⟨w.heap.size, 1, none⟩ = some (.int .i64 p) :=
      ⟨(((Below.refl _ w3).alloc (Nat.le_refl _) _).cell (World.block_lt_of_cell? w3 _ d0)).trans d0, (((Below.refl _ w3).alloc (Nat.le_refl _) _).cell (World.block_lt_of_cell? w3 _ d1)).trans d1⟩
    clear fin hown3 hb3 bl2 row1 c0 c1
    go_wp2_with fail
    refine hK.out _ _ ⟨d0, d1⟩ (fun hHeld => ?_)
    clear hK K
    (try simp only [Act.put, List.setIfInBounds_toArray, List.set_cons_zero, List.set_cons_succ])
    refine comes_up 7 rfl (by kernel_rfl) (fun K hK => ?_)
    go_simp
    refine hK.out _ _ hS4 (fun hHeld => ?_)
    clear hK K
    (try simp only [Act.put, List.setIfInBounds_toArray, List.set_cons_zero, List.set_cons_succ])
    refine comes_up 8 rfl (by kernel_rfl) (fun K hK => ?_)
    refine step_append_run rfl (.tmp 12) (.tmp 16) 37 rfl (.slice ao3 L cap3) (.slice (some ⟨w3.heap.size, 0, none⟩) 1 1) v5 w5 (by simp [Act.eval]) (by simp [Act.eval]) hrun ?_
    refine hK.out _ _ hS5 (fun hHeld => ?_)
    clear hK K
    (try simp only [Act.put, List.setIfInBounds_toArray, List.set_cons_zero, List.set_cons_succ])
    refine take_first 9 (v := ?_) rfl (by kernel_rfl) (by kernel_rfl) (by kernel_rfl) (fun _ _ _ h => h) (Or.inl ⟨by rfl, by intro wx hSw; obtain ⟨hSw1, hSw2⟩ := hSw; go_simp; try with_reducible rfl⟩) (by assumption) ?_
    (try simp only [Act.put, List.setIfInBounds_toArray, List.set_cons_zero, List.set_cons_succ])
    refine take_first 10 (v := ?_) rfl (by kernel_rfl) (by kernel_rfl) (by kernel_rfl) (fun _ _ _ h => h) (Or.inl ⟨by rfl, by intro wx hSw; obtain ⟨hSw1, hSw2⟩ := hSw; go_simp; try with_reducible rfl⟩) (by assumption) ?_
    (try simp only [Act.put, List.setIfInBounds_toArray, List.set_cons_zero, List.set_cons_succ])
    refine wpAnyH_done (by kernel_rfl) ?_ _
    refine NoPanic.normal ?_
    go_wp2
    go_ret2
    exact ⟨v5, rfl, HE.out⟩
  · go_simp
    have hS4 : (w1.alloc (.cells #[.int .u8 p] 5)).drew.cell? ⟨w.heap.size, 0, none⟩ = some (.int .u64 (N : Nat)) ∧ (w1.alloc (.cells #[.int .u8 p] 5)).drew.cell? ⟨w.heap.size, 1, none⟩ = some (.int .i64 p) :=
      ⟨(((Below.refl _ w1).alloc (Nat.le_refl _) (.cells #[.int .u8 p] 5)).cell (World.block_lt_of_cell? w1 _ c0)).trans c0, (((Below.refl _ w1).alloc (Nat.le_refl _) (.cells #[.int .u8 p] 5)).cell (World.block_lt_of_cell? w1 _ c1)).trans c1⟩
    have blA : Below w.heap.size w (w1.alloc (.cells #[.int .u8 p] 5)).drew := by
      have := bl2.alloc (o := .cells #[.int .u8 p] 5) bl2.size
      exact ⟨this.os, this.tape, this.output, this.size, this.block⟩
    have row2 : Cd.Row (w1.alloc (.cells #[.int .u8 p] 5)).drew ao n cap xs := row1.below (B := w1.heap.size) (w' := (w1.alloc (.cells #[.int .u8 p] 5)).drew) ⟨rfl, rfl, rfl, by simp, fun k hk => Below.heap_alloc w1 _ k hk⟩ (Nat.le_refl _)
    have hbox := cell_box w1 #[.int .u8 p] 5 0 _ rfl
    refine hK.out _ _ hS4 (fun hHeld => ?_)
    clear hK K
    (try simp only [Act.put, List.setIfInBounds_toArray, List.set_cons_zero, List.set_cons_succ])
    refine comes_up 3 rfl (by kernel_rfl) (fun K hK => ?_)
    go_simp
    refine (Cd.uint_any _ ao n cap xs row2 N hN (by omega)).mono ?_
    rintro e w3 ⟨v3, rfl, hown3, hb3⟩
    rw [HL.out] at hown3
    obtain ⟨ao3, cap3, hv3⟩ := row_shape hown3
    subst hv3
    have hs3 := hb3.size
    have hsz : w1.heap.size + 1 ≤ w3.heap.size := by simpa using hs3
    have d0 : w3.cell? ⟨w.heap.size, 0, none⟩ = some (.int .u64 (N : Nat)) := (hb3.cell (World.block_lt_of_cell? _ _ hS4.1)).trans hS4.1
    have d1 : w3.cell? ⟨w.heap.size, 1, none⟩ = some (.int .i64 p) := (hb3.cell (World.block_lt_of_cell? _ _ hS4.2)).trans hS4.2
    have dx : w3.cell? ⟨w1.heap.size, 0, none⟩ = some (.int .u8 p) := (hb3.cell (p := ⟨w1.heap.size, 0, none⟩) (by simp)).trans hbox
    have bl3 := bl_step blA hb3
    obtain ⟨v5, w5, hrun, hS5, HE⟩ := fin w3 ao3 cap3 ⟨w1.heap.size, 0, none⟩ (Cd.owns_mono hown3 (by simp)) dx ⟨d0, d1⟩ bl3 (by omega)
    clear fin hown3 hb3 bl2 row1 row2 c0 c1 hS4 blA
    go_wp2_with fail
    refine hK.out _ _ ⟨d0, d1⟩ (fun hHeld => ?_)
    clear hK K
    (try simp only [Act.put, List.setIfInBounds_toArray, List.set_cons_zero, List.set_cons_succ])
    refine comes_up 8 rfl (by kernel_rfl) (fun K hK => ?_)
    refine step_append_run rfl (.tmp 12) (.tmp 16) 37 rfl (.slice ao3 L cap3) (.slice (some ⟨w1.heap.size, 0, none⟩) 1 1) v5 w5 (by simp [Act.eval]) (by simp [Act.eval]) hrun ?_
    refine hK.out _ _ hS5 (fun hHeld => ?_)
    clear hK K
    (try simp only [Act.put, List.setIfInBounds_toArray, List.set_cons_zero, List.set_cons_succ])
    refine take_first 9 (v := ?_) rfl (by kernel_rfl) (by kernel_rfl) (by kernel_rfl) (fun _ _ _ h => h) (Or.inl ⟨by rfl, by intro wx hSw; obtain ⟨hSw1, hSw2⟩ := hSw; go_simp; try with_reducible rfl⟩) (by assumption) ?_
    (try simp only [Act.put, List.setIfInBounds_toArray, List.set_cons_zero, List.set_cons_succ])
    refine take_first 10 (v := ?_) rfl (by kernel_rfl) (by kernel_rfl) (by kernel_rfl) (fun _ _ _ h => h) (Or.inl ⟨by rfl, by intro wx hSw; obtain ⟨hSw1, hSw2⟩ := hSw; go_simp; try with_reducible rfl⟩) (by assumption) ?_
    (try simp only [Act.put, List.setIfInBounds_toArray, List.set_cons_zero, List.set_cons_succ])
    refine wpAnyH_done (by kernel_rfl) ?_ _
    refine NoPanic.normal ?_
    go_wp2
    go_ret2
    exact ⟨v5, rfl, HE.out⟩
end Go.Proofs.YtlaihgdfedalmaaGreat
namespace Go.Proofs.YtlaihgdfedalmaaGreat
open Go.RowKit
set_option linter.unusedVariables false

/-- The next view's number of what is left, and what is left behind it. -/
def decV (st : Option (List UInt8)) : (Nat × Nat) × Option (List UInt8) :=
  match (Cd.rInt (Cd.rUint st).2 (if (Cd.rUint st).1 = 0 then 0 else 15)).2 with
  | none => ((0, 0), none)
  | some ys => (((Cd.rUint st).1, (Cd.rInt (Cd.rUint st).2 (if (Cd.rUint st).1 = 0 then 0 else 15)).1), some ys)

theorem rd_alloc {w : World} {r : Nat} {st : Option (List UInt8)} (h : Cd.Rd w r st) (o : Obj) : Cd.Rd (w.alloc o) r st := Cd.rd_below h ((Below.refl _ _).alloc (Nat.le_refl _) _)
/-- Bytes and a reader, while a cell is written that is no byte and no reader's. -/
theorem row_set {w : World} {ao : Option Addr} {n cap : Nat} {xs : List UInt8} (h : Cd.Row w ao n cap xs) {a : Addr} {v0 : Value} (u : Value) (hc : w.cell? a = some v0) (hv : ∀ k, v0 ≠ .int .u8 k) : Cd.Row (w.setCell a u) ao n cap xs := by
  obtain ⟨h1, h2, h3, h4, h5⟩ := h
  refine ⟨h1, h2, h3, h4, fun b hb i hi => ?_⟩
  rw [World.cell?_setCell_other]
  · exact h5 b hb i hi
  · intro e
    have := h5 b hb i hi
    rw [← e, hc] at this
    exact hv _ (Option.some.inj this)
theorem rd_set {w : World} {r B j : Nat} {st : Option (List UInt8)} (h : Cd.Rd w r st) (hb : r ≠ B) {v0 : Value} (u : Value) (hc : w.cell? ⟨B, j, none⟩ = some v0) (hv : ∀ k, v0 ≠ .int .u8 k) : Cd.Rd (w.setCell ⟨B, j, none⟩ u) r st := by
  have he : (w.setCell ⟨B, j, none⟩ u).heap[r]? = w.heap[r]? := Below.heap_setCell _ _ _ _ hb
  cases st with
  | none => exact he.trans h
  | some xs =>
    obtain ⟨ao, n, cap, h1, h2⟩ := h
    exact ⟨ao, n, cap, he.trans h1, row_set h2.1 u hc hv, h2.2⟩
theorem grown_set {w w' : World} {r B j : Nat} (h : w.grownBy w' (some r)) (hB : w.heap.size ≤ B) (u : Value) : w.grownBy (w'.setCell ⟨B, j, none⟩ u) (some r) :=
  ⟨h.os, h.tape, h.output, by simpa [World.setCell] using h.size, fun k hk hne => (Below.heap_setCell _ _ _ _ (by show k ≠ B; omega)).trans (h.block k hk hne)⟩
theorem grown_alloc {w w' : World} {r : Nat} {o : Obj} (h : (w.alloc o).grownBy w' (some r)) : w.grownBy w' (some r) :=
  ⟨h.os, h.tape, h.output, by have := h.size; simp at this; omega, fun k hk hne => (h.block k (by simp; omega) hne).trans (Below.heap_alloc w o k hk)⟩
theorem set_cell {w : World} {b o : Nat} {v u : Value} (h : w.cell? ⟨b, o, none⟩ = some v) : (w.setCell ⟨b, o, none⟩ u).cell? ⟨b, o, none⟩ = some u := World.cell?_setCell_same _ _ _ h
theorem set_cell_other {w : World} {b o b' o' : Nat} {u : Value} (h : ¬ (b' = b ∧ o' = o)) : (w.setCell ⟨b, o, none⟩ u).cell? ⟨b', o', none⟩ = w.cell? ⟨b', o', none⟩ :=
  World.cell?_setCell_other _ _ _ _ (by intro e; simp only [Addr.mk.injEq] at e; omega)

set_option maxRecDepth 10000 in
set_option maxHeartbeats 1000000 in
theorem decode_rd (w : World) (r : Nat) (st : Option (List UInt8)) (h : Cd.Rd w r st) :
    Calls Tryz.prog 159 #[.pointer (some ⟨r, 0, none⟩)] w fun e w' => e = .returned (.tuple #[vid (decV st).1.1 ((decV st).1.2 : Nat), .bool (decV st).2.isSome]) ∧ Cd.Rd w' r (decV st).2 ∧ w.grownBy w' (some r) := by
  have hrl := h.lt
  have h1 := rd_alloc h (.cells #[.int .u64 0, .int .i64 0] 33)
  have hu := Cd.uint_rd _ r st h1
  have hlt := Cd.rUint_lt st
  have hgr := fun W => great_any W (Cd.rUint st).1
  have hint := fun W (hW : Cd.Rd W r (Cd.rUint st).2) => Cd.int_rd W r (Cd.rUint st).2 hW (if (Cd.rUint st).1 = 0 then 0 else 15) (by split <;> omega) (by split <;> omega)
  have HD : Hid (decV st = match (Cd.rInt (Cd.rUint st).2 (if (Cd.rUint st).1 = 0 then 0 else 15)).2 with
    | none => ((0, 0), none)
    | some ys => (((Cd.rUint st).1, (Cd.rInt (Cd.rUint st).2 (if (Cd.rUint st).1 = 0 then 0 else 15)).1), some ys)) := rfl
  generalize (Cd.rUint st).1 = N at *
  generalize (Cd.rUint st).2 = st1 at *
  generalize (if N = 0 then (0 : Int) else 15) = mx at *
  generalize Cd.rInt st1 mx = ri at *
  obtain ⟨P, st2⟩ := ri
  simp only at HD hint
  unfold vid
  rw [HD.out]
  clear HD
  go_enter Tryz.func159, Tryz.ntmps159
  go_wp2_with fail
  refine hu.mono ?_
  rintro e w1 ⟨rfl, rd1, g1⟩
  go_wp2_with fail
  refine (hgr _).mono ?_
  rintro e w2 ⟨rfl, rfl⟩
  go_wp2_with fail
  refine (hint _ rd1).mono ?_
  rintro e w2 ⟨rfl, rd2, g2⟩
  have b0 := cell_box w #[Value.int .u64 0, .int .i64 0] 33 0 _ rfl
  have b1 := cell_box w #[Value.int .u64 0, .int .i64 0] 33 1 _ rfl
  have b0' := g2.cell (g1.cell b0 (by simp; omega)) (by simp; omega)
  have b1' := g2.cell (g1.cell b1 (by simp; omega)) (by simp; omega)
  clear hu hgr hint h1 rd1 b0 b1
  go_wp2_with fail
  refine (Cd.bad_rd _ _ _ rd2).mono ?_
  rintro e w3 ⟨rfl, rfl⟩
  have g3 := grown_alloc (Cd.grown_trans g1 g2)
  have f0 : w2.frozen? ⟨w.heap.size, 0, none⟩ = false := by
    rw [World.frozen?_of_block (w := w.alloc (.cells #[Value.int .u64 0, .int .i64 0] 33)) ((Cd.grown_trans g1 g2).block _ (by simp) (by simp; omega))]
    unfold World.frozen?; rw [show (w.alloc (.cells #[Value.int .u64 0, .int .i64 0] 33)).heap[w.heap.size]? = some (.cells #[Value.int .u64 0, .int .i64 0] 33 (0, 0)) from heap_alloc_new _ _]; simp
  have f1 : w2.frozen? ⟨w.heap.size, 1, none⟩ = false := by
    rw [World.frozen?_of_block (w := w.alloc (.cells #[Value.int .u64 0, .int .i64 0] 33)) ((Cd.grown_trans g1 g2).block _ (by simp) (by simp; omega))]
    unfold World.frozen?; rw [show (w.alloc (.cells #[Value.int .u64 0, .int .i64 0] 33)).heap[w.heap.size]? = some (.cells #[Value.int .u64 0, .int .i64 0] 33 (0, 0)) from heap_alloc_new _ _]; simp
  have fin : ∀ (x y : Nat), ((w2.setCell ⟨w.heap.size, 0, none⟩ (.int .u64 (x : Nat))).setCell ⟨w.heap.size, 1, none⟩ (.int .i64 (y : Nat))).cell? ⟨w.heap.size, 0, none⟩ = some (.int .u64 (x : Nat)) ∧
      ((w2.setCell ⟨w.heap.size, 0, none⟩ (.int .u64 (x : Nat))).setCell ⟨w.heap.size, 1, none⟩ (.int .i64 (y : Nat))).cell? ⟨w.heap.size, 1, none⟩ = some (.int .i64 (y : Nat)) ∧
      Hid (Cd.Rd ((w2.setCell ⟨w.heap.size, 0, none⟩ (.int .u64 (x : Nat))).setCell ⟨w.heap.size, 1, none⟩ (.int .i64 (y : Nat))) r st2 ∧ w.grownBy ((w2.setCell ⟨w.heap.size, 0, none⟩ (.int .u64 (x : Nat))).setCell ⟨w.heap.size, 1, none⟩ (.int .i64 (y : Nat))) (some r)) := by
    intro x y
    have e1 : (w2.setCell ⟨w.heap.size, 0, none⟩ (.int .u64 (x : Nat))).cell? ⟨w.heap.size, 1, none⟩ = some (.int .i64 0) := by rw [set_cell_other (by omega)]; exact b1'
    refine ⟨?_, set_cell e1, ?_, grown_set (grown_set g3 (Nat.le_refl _) _) (Nat.le_refl _) _⟩
    · rw [set_cell_other (by omega)]; exact set_cell b0'
    · exact rd_set (rd_set rd2 (by omega) _ b0' (by simp)) (by omega) _ e1 (by simp)
  clear g1 g2 g3 h
  cases st2 with
  | none =>
    obtain ⟨e0, e1, HE⟩ := fin 0 0
    have k0 : (w2.setCell ⟨w.heap.size, 0, none⟩ (.int .u64 0)).cell? ⟨w.heap.size, 0, none⟩ = some (.int .u64 0) := set_cell b0'
    have k1 : ((w2.setCell ⟨w.heap.size, 0, none⟩ (.int .u64 0)).setCell ⟨w.heap.size, 1, none⟩ (.int .i64 0)).cell? ⟨w.heap.size, 1, none⟩ = some (.int .i64 0) := e1
    clear fin rd2 e0 e1
    go_wp2
    exact bodyPost_ret (v := .tuple #[.agg #[.int .u64 0, .int .i64 0], .bool false]) (by simp [results, Tryz.results159, go_sem, k0, k1]) rfl ⟨rfl, HE.out⟩
  | some ys =>
    obtain ⟨e0, e1, HE⟩ := fin N P
    clear fin rd2
    go_wp2
    exact bodyPost_ret (v := .tuple #[.agg #[.int .u64 (N : Nat), .int .i64 (P : Nat)], .bool true]) (by simp [results, Tryz.results159, go_sem, e0, e1]) rfl ⟨rfl, HE.out⟩
end Go.Proofs.YtlaihgdfedalmaaGreat
namespace Go.Proofs.YtlaihgdfedalmaaGreat
open Go.RowKit
set_option linter.unusedVariables false

end Go.Proofs.YtlaihgdfedalmaaGreat
namespace Go.Proofs.YtlaihgdfedalmaaGreat
open Go.RowKit
set_option linter.unusedVariables false

/-- The document's reader and its bytes, behind a world. -/
def Gd (w W : World) (m : Nat) (ao : Option Addr) (n cap : Nat) (xs : List UInt8) (o : Option Nat) : Prop := Cd.RR W m ao n cap o ∧ Cd.Row W ao n cap xs ∧ w.grownBy W (some m) ∧ m < w.heap.size
section
variable {w W W' : World} {m : Nat} {ao : Option Addr} {n cap : Nat} {xs : List UInt8} {o o' : Option Nat}
theorem Gd.below (h : Gd w W m ao n cap xs o) (hb : Below W.heap.size W W') : Gd w W' m ao n cap xs o :=
  ⟨h.1.below hb, h.2.1.below hb (Nat.le_refl _), Cd.grown_trans h.2.2.1 (Cd.grown_of_below hb _), h.2.2.2⟩
theorem Gd.alloc (h : Gd w W m ao n cap xs o) (x : Obj) : Gd w (W.alloc x) m ao n cap xs o := h.below ((Below.refl _ _).alloc (Nat.le_refl _) _)
theorem Gd.step (h : Gd w W m ao n cap xs o) (hr : Cd.RR W' m ao n cap o') (g : W.grownBy W' (some m)) : Gd w W' m ao n cap xs o' :=
  ⟨hr, Cd.row_RR h.2.1 h.1 g, Cd.grown_trans h.2.2.1 g, h.2.2.2⟩
theorem Gd.set (h : Gd w W m ao n cap xs o) {B j : Nat} {v0 : Value} (u : Value) (hB : w.heap.size ≤ B) (hc : W.cell? ⟨B, j, none⟩ = some v0) (hv : ∀ k, v0 ≠ .int .u8 k) : Gd w (W.setCell ⟨B, j, none⟩ u) m ao n cap xs o := by
  have hm := h.2.2.2
  refine ⟨?_, row_set h.2.1 u hc hv, grown_set h.2.2.1 hB u, h.2.2.2⟩
  unfold Cd.RR
  rw [Below.heap_setCell _ _ _ _ (by show m ≠ B; omega)]
  exact h.1
theorem Gd.fault (h : Gd w W m ao n cap xs o) : Gd w (W.setCell ⟨m, 1, none⟩ (.int .i64 (-1))) m ao n cap xs none :=
  ⟨h.1.set none, row_set h.2.1 _ h.1.cells.2.1 (by simp), ⟨h.2.2.1.os, h.2.2.1.tape, h.2.2.1.output, by simpa [World.setCell] using h.2.2.1.size, fun k hk hne => (Below.heap_setCell _ _ _ _ (fun e => hne (by rw [e]))).trans (h.2.2.1.block k hk hne)⟩, h.2.2.2⟩
end

end Go.Proofs.YtlaihgdfedalmaaGreat
namespace Go.Proofs.YtlaihgdfedalmaaGreat
open Go.RowKit
set_option linter.unusedVariables false

/-- A label's bytes. -/
def encL (x : Lb) : List UInt8 := Cd.enc x.1 ++ [pb x.2.1] ++ Cd.enc x.2.2.1 ++ [pb x.2.2.2]
theorem formL_parts {x : Lb} (h : formL x = true) : formV x.1 x.2.1 = true ∧ 0 < x.1 ∧ 0 < x.2.2.1 ∧ 0 ≤ x.2.2.2 ∧ x.2.2.2 ≤ 15 := by
  unfold formL at h
  simp only [Bool.and_eq_true, decide_eq_true_eq] at h
  exact ⟨h.1.1.1.1, h.1.1.1.2, h.1.1.2, h.1.2, h.2⟩
theorem formV_p {n : Nat} {p : Int} (h : formV n p = true) : 0 ≤ p ∧ p ≤ 15 := by
  unfold formV at h
  simp only [Bool.and_eq_true, decide_eq_true_eq] at h
  by_cases h0 : n = 0
  · rw [if_pos h0] at h; omega
  · rw [if_neg h0] at h; exact h

/-- Any bytes behind a row of bytes of one's own. -/
theorem wpList_append_bytes {w : World} {ops : Array Oper} {rest : List Oper} {o : Oper} {a : Act} {Q : Exit → Act → World → Prop} (hgd : o.guard = none) (s x : Operand)
    (ho : o.op = .call { callee := .builtin .append, args := #[s, x], argTypes := #[37, 37] }) (base : Nat)
    (v : Value) (n : Nat) (xs : List UInt8) (hs : a.eval s = v) (hown : w.ownsRow base 5 1 v n (xs.map Cd.by8))
    (ad : Addr) (m c : Nat) (ys : List UInt8) (hx : a.eval x = .slice (some ad) m c) (hl : ys.length = m) (hc : ∀ j u, (ys.map Cd.by8)[j]? = some u → w.cell? (ad.add j) = some u)
    (hnm : n + m ≤ 140737488355328) (hbase : base ≤ w.heap.size)
    (h : ∀ v' w', w'.ownsRow base 5 1 v' (n + m) ((xs ++ ys).map Cd.by8) → w.grownBy w' v.ownBlock → wpList Tryz.prog ops Q rest (a.put o.dst v') w') :
    wpList Tryz.prog ops Q (o :: rest) a w := by
  obtain ⟨i0, hi0, hz0, hz1, hz2⟩ := info_parts info5
  refine wpList_append_own_at _ hgd s x 37 ho base 5 i0 (.int .u8 0) 1 1 und34 hi0 hz0 hz1 hz2 rfl (by decide) v n (xs.map Cd.by8) hs hown ad m c (ys.map Cd.by8) hx (by simpa using hl) hc (fun u hu => ?_) (by unfold maxLen; omega) (by omega) hbase (fun v' w' a b _ _ => h v' w' (by simpa using a) b)
  obtain ⟨b, _, rfl⟩ := List.mem_map.1 hu
  rfl
theorem enc_pos (N : Nat) : 0 < (Cd.enc N).length := by
  unfold Cd.enc Cd.encF
  split <;> simp
theorem row_some {w : World} {B n : Nat} {v : Value} {xs : List Value} (h : w.ownsRow B 5 1 v n xs) (hn : 0 < n) : ∃ g cap, v = .slice (some ⟨g, 0, none⟩) n cap ∧ B ≤ g := by
  rcases h.2 with ⟨_, h1⟩ | ⟨g, cap, cur, rfl, hB, _⟩
  · omega
  · exact ⟨g, cap, rfl, hB⟩
theorem own_bytes_below {w w' : World} {B n : Nat} {v : Value} {xs : List Value} (h : w.ownsRow B 5 1 v n xs) (u : Below w.heap.size w w') : w'.ownsRow B 5 1 v n xs := by
  refine h.kept (row := none) ⟨u.os, u.tape, u.output, u.size, fun i hi _ => u.block i hi⟩ ?_
  cases v.ownBlock with
  | none => exact Or.inl rfl
  | some g => exact Or.inr (by simp)

set_option maxRecDepth 10000 in
set_option maxHeartbeats 1000000 in
theorem encodeL_any (w : World) (ao : Option Addr) (n cap : Nat) (xs : List UInt8) (h : Cd.Row w ao n cap xs) (x : Lb) (hx : x.1 < 18446744073709551616) (hx2 : x.2.2.1 < 18446744073709551616) (hf : formL x = true) (hr : n + 30 ≤ 140737488355328) :
    Calls Tryz.prog 121 #[.slice ao n cap, lab x] w fun e w' => ∃ v, e = .returned (.tuple #[v, .int .i64 0]) ∧ w'.ownsRow w.heap.size 5 1 v (n + (encL x).length) ((xs ++ encL x).map Cd.by8) ∧ Below w.heap.size w w' := by
  obtain ⟨hv, _, _, hq0, hq15⟩ := formL_parts hf
  have hb0 : Below w.heap.size w (w.alloc (.cells #[.int .u64 (x.1 : Nat), .int .i64 x.2.1, .int .u64 (x.2.2.1 : Nat), .int .i64 x.2.2.2] 39)) := bl1 _ _
  have b0 := bx_new w x.1 x.2.1 x.2.2.1 x.2.2.2 39
  have hrow := h.below hb0 (Nat.le_refl _)
  have hform := fun W => formL_any W x
  rw [hf] at hform
  have he := encode_any (w.alloc (.cells #[.int .u64 (x.1 : Nat), .int .i64 x.2.1, .int .u64 (x.2.2.1 : Nat), .int .i64 x.2.2.2] 39)) ao n cap xs hrow x.1 hx x.2.1 hv (by omega)
  have hun := fun W => Cd.uint_any W none 0 0 [] ⟨rfl, Nat.le_refl _, by unfold maxLen; omega, fun _ => ⟨rfl, rfl⟩, fun a ha => by cases ha⟩ x.2.2.1 hx2 (by omega)
  have hpb := pb_num x.2.2.2 hq0 hq15
  have hwr : IntKind.u8.wrap x.2.2.2 = x.2.2.2 := IntWalk.u8_in _ (by omega)
  have hl1 := Cd.enc_length x.1
  have hl2 := Cd.enc_length x.2.2.1
  have hl3 := enc_pos x.2.2.1
  have HEL : Hid (xs ++ encL x = (xs ++ Cd.enc x.1 ++ [pb x.2.1]) ++ Cd.enc x.2.2.1 ++ [pb x.2.2.2] ∧ n + (encL x).length = n + (Cd.enc x.1).length + 1 + (Cd.enc x.2.2.1).length + 1) := by
    unfold encL
    refine ⟨by simp, by simp; omega⟩
  obtain ⟨E, HE0⟩ : ∃ E, Hid (Cd.enc x.2.2.1 = E) := ⟨_, rfl⟩
  obtain ⟨A, HA⟩ : ∃ A, Hid (xs ++ Cd.enc x.1 ++ [pb x.2.1] = A) := ⟨_, rfl⟩
  obtain ⟨L, HLL⟩ : ∃ L, Hid (n + (Cd.enc x.1).length + 1 = L) := ⟨_, rfl⟩
  have hLb : L + 19 ≤ 140737488355328 := by have := HLL.out; omega
  unfold vid at he
  rw [HA.out, HLL.out] at he
  simp only [Nat.zero_add, List.nil_append] at hun
  rw [HE0.out] at hun hl2 hl3
  unfold lab at *
  clear hrow h hv hl1
  go_enter Tryz.func121, Tryz.ntmps121
  go_wp2_with fail
  refine he.mono ?_
  rintro e w1 ⟨v1, rfl, hown1, hb1⟩
  have hbb := bl_step hb0 hb1
  have d := (show Bx w.heap.size x.1 x.2.1 x.2.2.1 x.2.2.2 w1 from ⟨(hb1.cell (World.block_lt_of_cell? _ _ b0.1)).trans b0.1, (hb1.cell (World.block_lt_of_cell? _ _ b0.2.1)).trans b0.2.1, (hb1.cell (World.block_lt_of_cell? _ _ b0.2.2.1)).trans b0.2.2.1, (hb1.cell (World.block_lt_of_cell? _ _ b0.2.2.2)).trans b0.2.2.2⟩)
  obtain ⟨d0, d1, d2, d3⟩ := d
  have hsb := hb0.size
  have HO1 : Hid (w1.ownsRow (w.heap.size + 1) 5 1 v1 L (A.map Cd.by8)) := Cd.owns_mono hown1 (by simp)
  obtain ⟨ao1, cp1, hv1⟩ := row_shape hown1
  subst hv1
  clear he hb1 hb0 b0 hown1
  go_wp2_with fail
  refine (hform _).mono ?_
  rintro e w2 ⟨rfl, hu2⟩
  have hbb2 := bl_step hbb hu2.bl
  have HO2 : Hid (w2.ownsRow (w.heap.size + 1) 5 1 (.slice ao1 L cp1) L (A.map Cd.by8)) := own_bytes_below HO1.out hu2.bl
  obtain ⟨d0, d1, d2, d3⟩ := (⟨hu2.cell d0, hu2.cell d1, hu2.cell d2, hu2.cell d3⟩ : _ ∧ _ ∧ _ ∧ _)
  clear hform hu2 hbb HO1
  go_wp2_with fail
  refine (hun _).mono ?_
  rintro e w3 ⟨v3, rfl, hown3, hb3⟩
  have hbb3 := bl_step hbb2 hb3
  have ho3 : w3.ownsRow (w.heap.size + 1) 5 1 (.slice ao1 L cp1) L (A.map Cd.by8) := own_bytes_below HO2.out hb3
  obtain ⟨g, cg, hv3, _⟩ := row_some hown3 (by omega)
  subst hv3
  have hcs := hown3.cells (g := g) rfl
  have hlt3 : ∀ k, (Value.slice ao1 L cp1).ownBlock = some k → w.heap.size + 1 ≤ k := fun k hk => (ho3.lt k hk).1
  obtain ⟨e0, e1, e2, e3⟩ := (⟨(hb3.cell (World.block_lt_of_cell? _ _ d0)).trans d0, (hb3.cell (World.block_lt_of_cell? _ _ d1)).trans d1, (hb3.cell (World.block_lt_of_cell? _ _ d2)).trans d2, (hb3.cell (World.block_lt_of_cell? _ _ d3)).trans d3⟩ : _ ∧ _ ∧ _ ∧ _)
  have hs3 : w.heap.size + 1 ≤ w3.heap.size := by have := World.block_lt_of_cell? w3 _ e0; simp at this; omega
  clear hun hown3 hb3 hbb2 HO2 d0 d1 d2 d3
  go_wp2_with (at_builtin; refine wpList_append_bytes rfl (.tmp 22) (.tmp 25) rfl (w.heap.size + 1) _ L A rfl ?d1 ⟨g, 0, none⟩ E.length cg E rfl rfl ?d2 ?d3 ?d4 ?_)
  case d1 => exact ho3
  case d2 => exact hcs
  case d3 => omega
  case d4 => exact hs3
  intro v4 w4 hown4 hg4
  have hbb4 : Below w.heap.size w w4 := bl_grown hbb3 hbb3.size hg4 (fun k hk => by have := hlt3 k hk; omega)
  have k3 := hg4.cell e3 (fun e => by have := hlt3 _ e.symm; simp at this; omega)
  have hs4 : w.heap.size + 1 ≤ w4.heap.size := by have := World.block_lt_of_cell? w4 _ k3; simp at this; omega
  obtain ⟨ao4, cp4, hv4⟩ := row_shape hown4
  subst hv4
  have hlt4 : ∀ k, (Value.slice ao4 (L + E.length) cp4).ownBlock = some k → w.heap.size + 1 ≤ k := fun k hk => (hown4.lt k hk).1
  obtain ⟨AE, HAE⟩ : ∃ AE, Hid (A ++ E = AE) := ⟨_, rfl⟩
  have hown4' : w4.ownsRow (w.heap.size + 1) 5 1 (.slice ao4 (L + E.length) cp4) (L + E.length) (AE.map Cd.by8) := by rw [← HAE.out]; simpa using hown4
  have ho4 := fun o => hown4'.alloc o
  have hone := cell_box w4 #[Value.int .u8 x.2.2.2] 5 0 _ rfl
  clear hg4 hcs ho3 hlt3 e0 e1 e2 e3 hbb3 hs3
  go_wp2_with (at_builtin; refine wpList_append_bytes rfl (.tmp 27) (.tmp 31) rfl (w.heap.size + 1) _ (L + E.length) AE rfl ?d1 ⟨w4.heap.size, 0, none⟩ 1 1 [pb x.2.2.2] rfl rfl ?d2 ?d3 ?d4 ?_)
  case d1 => exact ho4 _
  case d2 =>
    intro j u hj
    obtain rfl : j = 0 := by have := (List.getElem?_eq_some_iff.1 hj).1; simp at this; omega
    simp only [List.map_cons, List.map_nil, List.getElem?_cons_zero, Option.some.injEq] at hj
    subst hj
    rw [hpb]
    exact hone
  case d3 => omega
  case d4 => simp; omega
  intro v5 w5 hown5 hg5
  have hbb5 : Below w.heap.size w w5 := bl_grown (hbb4.alloc hbb4.size _) (by have := hbb4.size; simp; omega) hg5 (fun k hk => by have := hlt4 k hk; omega)
  have HE : Hid (w5.ownsRow w.heap.size 5 1 v5 (n + (encL x).length) ((xs ++ encL x).map Cd.by8) ∧ Below w.heap.size w w5) := by
    rw [HEL.out.1, HEL.out.2, HE0.out, HA.out, HLL.out, HAE.out]
    refine ⟨Cd.owns_mono (B := w.heap.size + 1) ?_ (by omega), hbb5⟩
    rw [← hpb] at hown5
    simpa using hown5
  clear hown4 hown4' hown5 hg5 hlt4 ho4 hone k3 hbb4 hbb5
  go_wp2
  go_ret2
  exact ⟨v5, rfl, HE.out⟩
end Go.Proofs.YtlaihgdfedalmaaGreat
namespace Go.Proofs.YtlaihgdfedalmaaGreat
open Go.RowKit
set_option linter.unusedVariables false

end Go.Proofs.YtlaihgdfedalmaaGreat
namespace Go.Proofs.YtlaihgdfedalmaaGreat
open Go.RowKit
set_option linter.unusedVariables false
set_option linter.unusedSimpArgs false

/-- The next label of what is left, and what is left behind it. -/
def decL (st : Option (List UInt8)) : Lb × Option (List UInt8) :=
  match formL ((decV st).1.1, ((decV st).1.2 : Int), (Cd.rUint (decV st).2).1, ((Cd.rInt (Cd.rUint (decV st).2).2 15).1 : Int)), (Cd.rInt (Cd.rUint (decV st).2).2 15).2 with
  | true, some ys => (((decV st).1.1, ((decV st).1.2 : Int), (Cd.rUint (decV st).2).1, ((Cd.rInt (Cd.rUint (decV st).2).2 15).1 : Int)), some ys)
  | _, _ => ((0, 0, 0, 0), none)

theorem step_store_row {P : Program} {ops : Array Oper} {o : Oper} {a : Act} {w : World} {K : Act → World → Prop} {Q : Exit → Act → World → Prop} {E : Prop} (hgd : o.guard = none) (ty : TypeId) (x y : Operand) (ho : o.op = .store ty x y)
    (g : Nat) (cells : Array Value) (hx : a.eval x = .pointer (some ⟨g, 0, none⟩)) (hy : a.eval y = .agg cells) (t : TypeId) (old : Array Value) (hg : w.heap[g]? = some (.cells old t (0, 0))) (hi : (P.info? ty).map (·.size) = some cells.size)
    (hold : old.size = cells.size) (h1 : cells.all (·.oneCell') = true) (h : K (a.put o.dst undef) (w.setRow g cells)) : if Region.wanted o (yielded ops a.tmps) = true then Oper.wp P o a w K Q else E := by
  have hw : Region.wanted o (yielded ops a.tmps) = true := by simp [Region.wanted, hgd]
  rw [if_pos hw]
  exact wp_store_row ty x y ho g cells hx hy t old hg hi hold h1 h
theorem infoS26 : (Tryz.prog.info? 39).map (·.size) = some 4 := by kernel_rfl

/-- Cells of which none is a byte. -/
def noByte (c : Array Value) : Prop := ∀ v ∈ c.toList, ∀ k, v ≠ .int .u8 k
theorem row_setRow {w : World} {ao : Option Addr} {n cap B : Nat} {xs : List UInt8} {old new : Array Value} {t : TypeId} (h : Cd.Row w ao n cap xs) (hB : w.heap[B]? = some (.cells old t (0, 0))) (ho : noByte old) : Cd.Row (w.setRow B new) ao n cap xs := by
  obtain ⟨h1, h2, h3, h4, h5⟩ := h
  refine ⟨h1, h2, h3, h4, fun b hb i hi => ?_⟩
  have hc := h5 b hb i hi
  have hs := World.cell?_spot hc
  generalize hba : b.add i = ba at *
  obtain ⟨blk, off, spot⟩ := ba
  simp only at hs
  subst hs
  by_cases e : blk = B
  · exfalso
    subst e
    rw [cell_of_row w blk off _ t (0, 0) hB] at hc
    obtain ⟨hm1, hm2⟩ := Array.getElem?_eq_some_iff.1 hc
    exact ho _ (by rw [← hm2]; simp) _ rfl
  · rw [cell_setRow_other _ _ _ _ e]
    exact hc
theorem rd_setRow {w : World} {r B : Nat} {st : Option (List UInt8)} {old new : Array Value} {t : TypeId} (h : Cd.Rd w r st) (hr : r ≠ B) (hB : w.heap[B]? = some (.cells old t (0, 0))) (ho : noByte old) : Cd.Rd (w.setRow B new) r st := by
  have he : (w.setRow B new).heap[r]? = w.heap[r]? := setRow_other _ _ _ _ hr
  cases st with
  | none => exact he.trans h
  | some xs =>
    obtain ⟨ao, n, cap, h1, h2⟩ := h
    exact ⟨ao, n, cap, he.trans h1, row_setRow h2.1 hB ho, h2.2⟩
theorem gr_row {w W : World} {r B : Nat} (h : w.grownBy W (some r)) (hB : w.heap.size ≤ B) (cs : Array Value) : w.grownBy (W.setRow B cs) (some r) :=
  ⟨h.os, h.tape, h.output, by simpa using h.size, fun k hk hne => (setRow_other _ _ _ _ (by omega)).trans (h.block k hk hne)⟩
theorem gr_of {w W : World} (h : Below w.heap.size w W) (r : Option Nat) : w.grownBy W r := ⟨h.os, h.tape, h.output, h.size, fun k hk _ => h.block k hk⟩
theorem rInt_neg (st : Option (List UInt8)) : Cd.rInt st (-1) = (0, none) := by
  unfold Cd.rInt
  cases (Cd.rUint st).2 with
  | none => rfl
  | some ys => simp

/-- What the call holds of memory: its reader, its answer's place, and the label that it has read. -/
structure Gl (w W : World) (r D : Nat) (x : Lb) (st : Option (List UInt8)) : Prop where
  rd : Cd.Rd W r st
  ans : W.heap[w.heap.size]? = some (.cells #[.int .u64 0, .int .i64 0, .int .u64 0, .int .i64 0] 39 (0, 0))
  got : W.heap[D]? = some (.cells #[.int .u64 (x.1 : Nat), .int .i64 x.2.1, .int .u64 (x.2.2.1 : Nat), .int .i64 x.2.2.2] 39 (0, 0))
  gr : w.grownBy W (some r)
  rl : r < w.heap.size
  dl : w.heap.size < D
theorem Gl.below {w W W' : World} {r D : Nat} {x : Lb} {st : Option (List UInt8)} (h : Gl w W r D x st) (hb : Below W.heap.size W W') : Gl w W' r D x st where
  rd := Cd.rd_below h.rd hb
  ans := (hb.block _ (Array.getElem?_eq_some_iff.1 h.ans).1).trans h.ans
  got := (hb.block _ (Array.getElem?_eq_some_iff.1 h.got).1).trans h.got
  gr := Cd.grown_trans h.gr (gr_of hb _)
  rl := h.rl
  dl := h.dl
theorem Gl.step {w W W' : World} {r D : Nat} {x : Lb} {st st' : Option (List UInt8)} (h : Gl w W r D x st) (hr : Cd.Rd W' r st') (g : W.grownBy W' (some r)) : Gl w W' r D x st' where
  rd := hr
  ans := (g.block _ (Array.getElem?_eq_some_iff.1 h.ans).1 (by have := h.rl; simp; omega)).trans h.ans
  got := (g.block _ (Array.getElem?_eq_some_iff.1 h.got).1 (by have := h.rl; have := h.dl; simp; omega)).trans h.got
  gr := Cd.grown_trans h.gr g
  rl := h.rl
  dl := h.dl
theorem Gl.cells {w W : World} {r D : Nat} {x : Lb} {st : Option (List UInt8)} (h : Gl w W r D x st) : W.cell? ⟨D, 0, none⟩ = some (.int .u64 (x.1 : Nat)) ∧ W.cell? ⟨D, 1, none⟩ = some (.int .i64 x.2.1) ∧ W.cell? ⟨D, 2, none⟩ = some (.int .u64 (x.2.2.1 : Nat)) ∧ W.cell? ⟨D, 3, none⟩ = some (.int .i64 x.2.2.2) :=
  ⟨by rw [cell_of_row W D 0 _ 39 (0, 0) h.got]; rfl, by rw [cell_of_row W D 1 _ 39 (0, 0) h.got]; rfl, by rw [cell_of_row W D 2 _ 39 (0, 0) h.got]; rfl, by rw [cell_of_row W D 3 _ 39 (0, 0) h.got]; rfl⟩
theorem noByte_lab (n : Int) (p s q : Int) : noByte #[.int .u64 n, .int .i64 p, .int .u64 s, .int .i64 q] := by
  intro v hv k
  simp at hv
  rcases hv with rfl | rfl | rfl | rfl <;> simp
/-- The answer laid. -/
theorem Gl.told {w W : World} {r D : Nat} {x : Lb} {st : Option (List UInt8)} (h : Gl w W r D x st) (n p s q : Int) : (∀ j v, #[Value.int .u64 n, .int .i64 p, .int .u64 s, .int .i64 q][j]? = some v → (W.setRow w.heap.size #[.int .u64 n, .int .i64 p, .int .u64 s, .int .i64 q]).cell? ⟨w.heap.size, j, none⟩ = some v) ∧
    Hid (Cd.Rd (W.setRow w.heap.size #[.int .u64 n, .int .i64 p, .int .u64 s, .int .i64 q]) r st ∧ w.grownBy (W.setRow w.heap.size #[.int .u64 n, .int .i64 p, .int .u64 s, .int .i64 q]) (some r)) := by
  refine ⟨fun j v hj => ?_, rd_setRow h.rd (by have := h.rl; omega) h.ans (noByte_lab _ _ _ _), gr_row h.gr (Nat.le_refl _) _⟩
  rw [cell_setRow_same _ _ _ _ _ _ _ h.ans]
  exact hj
/-- The label laid. -/
theorem Gl.laid {w W : World} {r D : Nat} {st : Option (List UInt8)} {old : Array Value} (x : Lb) (rd : Cd.Rd W r st) (ans : W.heap[w.heap.size]? = some (.cells #[.int .u64 0, .int .i64 0, .int .u64 0, .int .i64 0] 39 (0, 0))) (hD : W.heap[D]? = some (.cells old 39 (0, 0))) (ho : noByte old) (gr : w.grownBy W (some r)) (rl : r < w.heap.size) (dl : w.heap.size < D) :
    Gl w (W.setRow D #[.int .u64 (x.1 : Nat), .int .i64 x.2.1, .int .u64 (x.2.2.1 : Nat), .int .i64 x.2.2.2]) r D x st where
  rd := rd_setRow rd (by omega) hD ho
  ans := (setRow_other _ _ _ _ (by omega)).trans ans
  got := setRow_heap _ _ _ _ _ _ hD
  gr := gr_row gr (by omega) _
  rl := rl
  dl := dl

set_option maxRecDepth 10000 in
set_option maxHeartbeats 2000000 in
theorem decodeL_rd (w : World) (r : Nat) (st : Option (List UInt8)) (h : Cd.Rd w r st) :
    Calls Tryz.prog 174 #[.pointer (some ⟨r, 0, none⟩)] w fun e w' => e = .returned (.tuple #[lab (decL st).1, .bool (decL st).2.isSome]) ∧ Cd.Rd w' r (decL st).2 ∧ w.grownBy w' (some r) := by
  have hrl := h.lt
  have h1 := rd_alloc h (.cells #[.int .u64 0, .int .i64 0, .int .u64 0, .int .i64 0] 39)
  have hdv := decode_rd _ r st h1
  have huv := fun W (hW : Cd.Rd W r (decV st).2) => Cd.uint_rd W r (decV st).2 hW
  have hiv := fun W (hW : Cd.Rd W r (Cd.rUint (decV st).2).2) => Cd.int_rd W r (Cd.rUint (decV st).2).2 hW 15 (by omega) (by omega)
  have HD : Hid (decL st = match formL ((decV st).1.1, ((decV st).1.2 : Int), (Cd.rUint (decV st).2).1, ((Cd.rInt (Cd.rUint (decV st).2).2 15).1 : Int)), (Cd.rInt (Cd.rUint (decV st).2).2 15).2 with
    | true, some ys => (((decV st).1.1, ((decV st).1.2 : Int), (Cd.rUint (decV st).2).1, ((Cd.rInt (Cd.rUint (decV st).2).2 15).1 : Int)), some ys)
    | _, _ => ((0, 0, 0, 0), none)) := rfl
  generalize decL st = dl at *
  generalize (Cd.rInt (Cd.rUint (decV st).2).2 15) = ri at *
  obtain ⟨Q, st3⟩ := ri
  generalize (Cd.rUint (decV st).2) = ru at *
  obtain ⟨S, st2⟩ := ru
  generalize decV st = dv at *
  obtain ⟨⟨N, P⟩, st1⟩ := dv
  simp only at HD hdv huv hiv
  have hng := fun W (hW : Cd.Rd W r st3) => Cd.int_rd W r st3 hW (-1) (by omega) (by omega)
  simp only [rInt_neg] at hng
  unfold vid at hdv
  have hform := fun W => formL_any W (N, (P : Int), S, (Q : Int))
  have HF : Hid _ := hform
  generalize hfm : formL (N, (P : Int), S, (Q : Int)) = fm at *
  have hans0 : (w.alloc (.cells #[.int .u64 0, .int .i64 0, .int .u64 0, .int .i64 0] 39)).heap[w.heap.size]? = some (.cells #[.int .u64 0, .int .i64 0, .int .u64 0, .int .i64 0] 39 (0, 0)) := heap_alloc_new _ _
  have gr0 : w.grownBy (w.alloc (.cells #[.int .u64 0, .int .i64 0, .int .u64 0, .int .i64 0] 39)) (some r) := gr_of (bl1 _ _) _
  clear HF hfm
  go_enter Tryz.func174, Tryz.ntmps174
  go_wp2_with fail
  refine hdv.mono ?_
  rintro e w1 ⟨rfl, rd1, g1⟩
  have ans1 := (g1.block _ (by simp) (by simp; omega)).trans hans0
  have gr1 := Cd.grown_trans gr0 g1
  have hw1 : w.heap.size < w1.heap.size := (Array.getElem?_eq_some_iff.1 ans1).1
  have rd2 := rd_alloc rd1 (.cells #[.int .u64 (N : Nat), .int .i64 (P : Nat)] 33)
  have ub : Below w1.heap.size w1 (w1.alloc (.cells #[.int .u64 (N : Nat), .int .i64 (P : Nat)] 33)) := bl1 _ _
  have ans2 := (ub.block _ hw1).trans ans1
  have gr2 := Cd.grown_trans gr1 (gr_of ub _)
  have c20 := cell_box w1 #[Value.int .u64 (N : Nat), .int .i64 (P : Nat)] 33 0 _ rfl
  have c21 := cell_box w1 #[Value.int .u64 (N : Nat), .int .i64 (P : Nat)] 33 1 _ rfl
  have huv2 := huv _ rd2
  clear hdv huv h h1 rd1 g1 ans1 gr1 ub hans0 gr0 rd2
  go_wp2_with fail
  refine huv2.mono ?_
  rintro e w3 ⟨rfl, rd3, g3⟩
  have ans3 := (g3.block _ (by simp; omega) (by simp; omega)).trans ans2
  have gr3 := Cd.grown_trans gr2 g3
  have c30 := g3.cell c20 (by simp; omega)
  have c31 := g3.cell c21 (by simp; omega)
  have hw3 : w1.heap.size < w3.heap.size := World.block_lt_of_cell? w3 _ c30
  clear huv2 g3 ans2 gr2 c20 c21
  go_wp2_with fail
  refine wp_region_noPanic ?_
  refine wp_region_held_drew (S := fun wx => wx.cell? ⟨w1.heap.size, 0, none⟩ = some (.int .u64 (N : Nat)) ∧ wx.cell? ⟨w1.heap.size, 1, none⟩ = some (.int .i64 (P : Nat))) (by kernel_rfl) ⟨c30, c31⟩ (fun hHeld => ?_)
  refine take_first 0 (v := ?_) rfl (by kernel_rfl) (by kernel_rfl) (by kernel_rfl) (fun _ _ _ h => h) (Or.inl ⟨by rfl, by intro wx hSw; obtain ⟨a0, a1⟩ := hSw; go_simp; try with_reducible rfl⟩) (by assumption) ?_
  (try simp only [Act.put, List.setIfInBounds_toArray, List.set_cons_zero, List.set_cons_succ])
  refine take_first 1 (v := ?_) rfl (by kernel_rfl) (by kernel_rfl) (by kernel_rfl) (fun _ _ _ h => h) (Or.inl ⟨by rfl, by intro wx hSw; obtain ⟨a0, a1⟩ := hSw; go_simp; try with_reducible rfl⟩) (by assumption) ?_
  (try simp only [Act.put, List.setIfInBounds_toArray, List.set_cons_zero, List.set_cons_succ])
  refine take_first 2 (v := ?_) rfl (by kernel_rfl) (by kernel_rfl) (by kernel_rfl) (fun _ _ _ h => h) (Or.inl ⟨by rfl, by intro wx hSw; obtain ⟨a0, a1⟩ := hSw; go_simp; try with_reducible rfl⟩) (by assumption) ?_
  (try simp only [Act.put, List.setIfInBounds_toArray, List.set_cons_zero, List.set_cons_succ])
  refine comes_up2 3 5 rfl rfl (by kernel_rfl) (fun K hK => ?_) (fun K hK => ?_)
  · go_simp
    refine (hiv w3.drew rd3).mono ?_
    rintro e w4 ⟨rfl, rd4, g4⟩
    have ans4 := (g4.block _ (by show _ < w3.heap.size; omega) (by simp; omega)).trans ans3
    have gr4 := Cd.grown_trans (show w.grownBy w3.drew (some r) from ⟨gr3.os, gr3.tape, gr3.output, gr3.size, gr3.block⟩) g4
    have hS4 : w4.cell? ⟨w1.heap.size, 0, none⟩ = some (.int .u64 (N : Nat)) ∧ w4.cell? ⟨w1.heap.size, 1, none⟩ = some (.int .i64 (P : Nat)) := ⟨g4.cell (show w3.drew.cell? _ = _ from c30) (by simp; omega), g4.cell (show w3.drew.cell? _ = _ from c31) (by simp; omega)⟩
    have hw4 : w.heap.size < w4.heap.size := (Array.getElem?_eq_some_iff.1 ans4).1
    have ua : Below w4.heap.size w4 (w4.alloc (.cells #[.int .u64 0, .int .i64 0, .int .u64 0, .int .i64 0] 39)) := bl1 _ _
    have hS5 : (w4.alloc (.cells #[.int .u64 0, .int .i64 0, .int .u64 0, .int .i64 0] 39)).cell? ⟨w1.heap.size, 0, none⟩ = some (.int .u64 (N : Nat)) ∧ (w4.alloc (.cells #[.int .u64 0, .int .i64 0, .int .u64 0, .int .i64 0] 39)).cell? ⟨w1.heap.size, 1, none⟩ = some (.int .i64 (P : Nat)) :=
      ⟨(ua.cell (World.block_lt_of_cell? w4 _ hS4.1)).trans hS4.1, (ua.cell (World.block_lt_of_cell? w4 _ hS4.2)).trans hS4.2⟩
    have hD5 : (w4.alloc (.cells #[.int .u64 0, .int .i64 0, .int .u64 0, .int .i64 0] 39)).heap[w4.heap.size]? = some (.cells #[.int .u64 0, .int .i64 0, .int .u64 0, .int .i64 0] 39 (0, 0)) := heap_alloc_new _ _
    have hw14 : w1.heap.size < w4.heap.size := World.block_lt_of_cell? w4 _ hS4.1
    have G := Gl.laid (w := w) (N, (P : Int), S, (Q : Int)) (rd_alloc rd4 (.cells #[.int .u64 0, .int .i64 0, .int .u64 0, .int .i64 0] 39)) ((ua.block _ hw4).trans ans4) hD5 (noByte_lab _ _ _ _) (Cd.grown_trans gr4 (gr_of ua _)) hrl hw4
    have hS6 : ((w4.alloc (.cells #[.int .u64 0, .int .i64 0, .int .u64 0, .int .i64 0] 39)).setRow w4.heap.size #[.int .u64 (N : Nat), .int .i64 (P : Nat), .int .u64 (S : Nat), .int .i64 (Q : Nat)]).cell? ⟨w1.heap.size, 0, none⟩ = some (.int .u64 (N : Nat)) ∧ ((w4.alloc (.cells #[.int .u64 0, .int .i64 0, .int .u64 0, .int .i64 0] 39)).setRow w4.heap.size #[.int .u64 (N : Nat), .int .i64 (P : Nat), .int .u64 (S : Nat), .int .i64 (Q : Nat)]).cell? ⟨w1.heap.size, 1, none⟩ = some (.int .i64 (P : Nat)) :=
      ⟨(cell_setRow_other _ _ _ _ (by show w1.heap.size ≠ w4.heap.size; omega)).trans hS5.1, (cell_setRow_other _ _ _ _ (by show w1.heap.size ≠ w4.heap.size; omega)).trans hS5.2⟩
    simp only at G
    clear hiv g4 rd4 ans4 gr4 rd3 ans3 gr3 c30 c31 hHeld ua
    go_wp2_with fail
    refine hK.out _ _ hS4 (fun hHeld => ?_)
    clear hK K
    (try simp only [Act.put, List.setIfInBounds_toArray, List.set_cons_zero, List.set_cons_succ])
    refine take_first 4 (v := ?_) rfl (by kernel_rfl) (by kernel_rfl) (by kernel_rfl) (fun _ _ _ h => h) (Or.inl ⟨by rfl, by intro wx hSw; obtain ⟨a0, a1⟩ := hSw; go_simp; try with_reducible rfl⟩) (by assumption) ?_
    (try simp only [Act.put, List.setIfInBounds_toArray, List.set_cons_zero, List.set_cons_succ])
    refine comes_up 5 rfl (by kernel_rfl) (fun K hK => ?_)
    go_simp
    refine hK.out _ _ hS5 (fun hHeld => ?_)
    clear hK K
    (try simp only [Act.put, List.setIfInBounds_toArray, List.set_cons_zero, List.set_cons_succ])
    refine comes_up 6 rfl (by kernel_rfl) (fun K hK => ?_)
    refine step_store_row rfl 39 (.tmp 7) (.tmp 19) rfl w4.heap.size #[.int .u64 (N : Nat), .int .i64 (P : Nat), .int .u64 (S : Nat), .int .i64 (Q : Nat)] (by simp [Act.eval]) (by simp [Act.eval]) 39 _ hD5 infoS26 rfl (by simp [Value.oneCell']) ?_
    refine hK.out _ _ hS6 (fun hHeld => ?_)
    clear hK K
    (try simp only [Act.put, List.setIfInBounds_toArray, List.set_cons_zero, List.set_cons_succ])
    refine wpAnyH_done (by kernel_rfl) ?_ _
    refine NoPanic.normal ?_
    clear hS4 hS5 hS6 hHeld hD5
    generalize hD : w4.heap.size = D at G ⊢
    generalize hW5 : (w4.alloc (.cells #[.int .u64 0, .int .i64 0, .int .u64 0, .int .i64 0] 39)).setRow D #[.int .u64 (N : Nat), .int .i64 (P : Nat), .int .u64 (S : Nat), .int .i64 (Q : Nat)] = W5 at G ⊢
    clear hW5 hD hw4 hw14
    obtain ⟨d0, d1, d2, d3⟩ := G.cells
    simp only at d0 d1 d2 d3
    unfold lab at hform
    simp only at hform
    cases fm with
    | false =>
      have HR : Hid (dl = ((0, 0, 0, 0), none)) := by
        show _ = _
        rw [HD.out]
      go_wp2_with fail
      refine (hform _).mono ?_
      rintro e w6 ⟨rfl, hu6⟩
      have G6 := G.below hu6.bl
      clear G hform hu6 d0 d1 d2 d3
      have hng6 := hng _ G6.rd
      go_wp2_with fail
      refine hng6.mono ?_
      rintro e w7 ⟨rfl, rd7, g7⟩
      have G7 := G6.step rd7 g7
      clear hng hng6 g7 G6 rd7
      have hb7 := Cd.bad_rd _ _ _ G7.rd
      go_wp2_with fail
      refine hb7.mono ?_
      rintro e w8 ⟨rfl, rfl⟩
      obtain ⟨hc, HE⟩ := G7.told 0 0 0 0
      have k0 := hc 0 _ rfl
      have k1 := hc 1 _ rfl
      have k2 := hc 2 _ rfl
      have k3 := hc 3 _ rfl
      have hans := G7.ans
      clear hb7 G7 hc
      go_wp2_with (first | (refine wpList_store_row rfl 39 (.tmp 2) (.tmp 27) rfl w.heap.size #[.int .u64 0, .int .i64 0, .int .u64 0, .int .i64 0] rfl rfl 39 _ hans infoS26 rfl (by simp [Value.oneCell']) ?_))
      refine bodyPost_ret (v := .tuple #[.agg #[.int .u64 0, .int .i64 0, .int .u64 0, .int .i64 0], .bool false]) ?_ rfl ?_
      · simp [results, Tryz.results174, go_sem, k0, k1, k2, k3]
      · rw [HR.out]
        exact ⟨rfl, HE.out⟩
    | true =>
      go_wp2_with fail
      refine (hform _).mono ?_
      rintro e w6 ⟨rfl, hu6⟩
      have G6 := G.below hu6.bl
      clear G hform hu6 d0 d1 d2 d3 hng
      have hb7 := Cd.bad_rd _ _ _ G6.rd
      cases st3 with
      | none =>
        have HR : Hid (dl = ((0, 0, 0, 0), none)) := by
          show _ = _
          rw [HD.out]
        go_wp2_with fail
        refine hb7.mono ?_
        rintro e w8 ⟨rfl, rfl⟩
        obtain ⟨hc, HE⟩ := G6.told 0 0 0 0
        have k0 := hc 0 _ rfl
        have k1 := hc 1 _ rfl
        have k2 := hc 2 _ rfl
        have k3 := hc 3 _ rfl
        have hans := G6.ans
        clear hb7 G6 hc
        go_wp2_with (first | (refine wpList_store_row rfl 39 (.tmp 2) (.tmp 27) rfl w.heap.size #[.int .u64 0, .int .i64 0, .int .u64 0, .int .i64 0] rfl rfl 39 _ hans infoS26 rfl (by simp [Value.oneCell']) ?_))
        refine bodyPost_ret (v := .tuple #[.agg #[.int .u64 0, .int .i64 0, .int .u64 0, .int .i64 0], .bool false]) ?_ rfl ?_
        · simp [results, Tryz.results174, go_sem, k0, k1, k2, k3]
        · rw [HR.out]
          exact ⟨rfl, HE.out⟩
      | some ys =>
        have HR : Hid (dl = ((N, (P : Int), S, (Q : Int)), some ys)) := by
          show _ = _
          rw [HD.out]
        go_wp2_with fail
        refine hb7.mono ?_
        rintro e w8 ⟨rfl, rfl⟩
        obtain ⟨hc, HE⟩ := G6.told (N : Nat) (P : Nat) (S : Nat) (Q : Nat)
        have k0 := hc 0 _ rfl
        have k1 := hc 1 _ rfl
        have k2 := hc 2 _ rfl
        have k3 := hc 3 _ rfl
        have hans := G6.ans
        obtain ⟨d0, d1, d2, d3⟩ := G6.cells
        simp only at d0 d1 d2 d3
        clear hb7 G6 hc
        go_wp2_with (first | (refine wpList_store_row rfl 39 (.tmp 2) (.tmp 28) rfl w.heap.size #[.int .u64 (N : Nat), .int .i64 (P : Nat), .int .u64 (S : Nat), .int .i64 (Q : Nat)] rfl rfl 39 _ hans infoS26 rfl (by simp [Value.oneCell']) ?_))
        refine bodyPost_ret (v := .tuple #[.agg #[.int .u64 (N : Nat), .int .i64 (P : Nat), .int .u64 (S : Nat), .int .i64 (Q : Nat)], .bool true]) ?_ rfl ?_
        · simp [results, Tryz.results174, go_sem, k0, k1, k2, k3]
        · rw [HR.out]
          exact ⟨rfl, HE.out⟩
  · go_simp
    have ua : Below w3.heap.size w3 (w3.alloc (.cells #[.int .u64 0, .int .i64 0, .int .u64 0, .int .i64 0] 39)) := bl1 _ _
    have rd3' : Cd.Rd (w3.alloc (.cells #[.int .u64 0, .int .i64 0, .int .u64 0, .int .i64 0] 39)).drew r st2 := rd_alloc rd3 (.cells #[.int .u64 0, .int .i64 0, .int .u64 0, .int .i64 0] 39)
    have hS4 : (w3.alloc (.cells #[.int .u64 0, .int .i64 0, .int .u64 0, .int .i64 0] 39)).drew.cell? ⟨w1.heap.size, 0, none⟩ = some (.int .u64 (N : Nat)) ∧ (w3.alloc (.cells #[.int .u64 0, .int .i64 0, .int .u64 0, .int .i64 0] 39)).drew.cell? ⟨w1.heap.size, 1, none⟩ = some (.int .i64 (P : Nat)) :=
      ⟨(ua.cell (World.block_lt_of_cell? w3 _ c30)).trans c30, (ua.cell (World.block_lt_of_cell? w3 _ c31)).trans c31⟩
    have hD3 : (w3.alloc (.cells #[.int .u64 0, .int .i64 0, .int .u64 0, .int .i64 0] 39)).drew.heap[w3.heap.size]? = some (.cells #[.int .u64 0, .int .i64 0, .int .u64 0, .int .i64 0] 39 (0, 0)) := heap_alloc_new _ _
    have ans3' : (w3.alloc (.cells #[.int .u64 0, .int .i64 0, .int .u64 0, .int .i64 0] 39)).drew.heap[w.heap.size]? = some (.cells #[.int .u64 0, .int .i64 0, .int .u64 0, .int .i64 0] 39 (0, 0)) := (ua.block _ (by omega)).trans ans3
    have gr3' : w.grownBy (w3.alloc (.cells #[.int .u64 0, .int .i64 0, .int .u64 0, .int .i64 0] 39)).drew (some r) := by
      have q := Cd.grown_trans gr3 (gr_of ua _)
      exact ⟨q.os, q.tape, q.output, q.size, q.block⟩
    have hiv3 := hiv _ rd3'
    have hsz3 : (w3.alloc (.cells #[.int .u64 0, .int .i64 0, .int .u64 0, .int .i64 0] 39)).drew.heap.size = w3.heap.size + 1 := by show (w3.alloc _).heap.size = _; simp
    clear hHeld hiv rd3 ans3 gr3 ua
    refine hK.out _ _ hS4 (fun hHeld => ?_)
    clear hK K
    (try simp only [Act.put, List.setIfInBounds_toArray, List.set_cons_zero, List.set_cons_succ])
    refine comes_up 3 rfl (by kernel_rfl) (fun K hK => ?_)
    go_simp
    refine hiv3.mono ?_
    rintro e w4 ⟨rfl, rd4, g4⟩
    have ans4 := (g4.block _ (by rw [hsz3]; omega) (by simp; omega)).trans ans3'
    have hD4 := (g4.block w3.heap.size (by rw [hsz3]; omega) (by simp; omega)).trans hD3
    have gr4 := Cd.grown_trans gr3' g4
    have hS5 : w4.cell? ⟨w1.heap.size, 0, none⟩ = some (.int .u64 (N : Nat)) ∧ w4.cell? ⟨w1.heap.size, 1, none⟩ = some (.int .i64 (P : Nat)) := ⟨g4.cell hS4.1 (by simp; omega), g4.cell hS4.2 (by simp; omega)⟩
    have G := Gl.laid (w := w) (N, (P : Int), S, (Q : Int)) rd4 ans4 hD4 (noByte_lab _ _ _ _) gr4 hrl (by omega)
    have hS6 : (w4.setRow w3.heap.size #[.int .u64 (N : Nat), .int .i64 (P : Nat), .int .u64 (S : Nat), .int .i64 (Q : Nat)]).cell? ⟨w1.heap.size, 0, none⟩ = some (.int .u64 (N : Nat)) ∧ (w4.setRow w3.heap.size #[.int .u64 (N : Nat), .int .i64 (P : Nat), .int .u64 (S : Nat), .int .i64 (Q : Nat)]).cell? ⟨w1.heap.size, 1, none⟩ = some (.int .i64 (P : Nat)) :=
      ⟨(cell_setRow_other _ _ _ _ (by show w1.heap.size ≠ w3.heap.size; omega)).trans hS5.1, (cell_setRow_other _ _ _ _ (by show w1.heap.size ≠ w3.heap.size; omega)).trans hS5.2⟩
    simp only at G
    clear hiv3 g4 rd4 ans4 gr4 hS4 hHeld ans3' gr3' hD3 c30 c31 rd3'
    go_wp2_with fail
    refine hK.out _ _ hS5 (fun hHeld => ?_)
    clear hK K
    (try simp only [Act.put, List.setIfInBounds_toArray, List.set_cons_zero, List.set_cons_succ])
    refine take_first 4 (v := ?_) rfl (by kernel_rfl) (by kernel_rfl) (by kernel_rfl) (fun _ _ _ h => h) (Or.inl ⟨by rfl, by intro wx hSw; obtain ⟨a0, a1⟩ := hSw; go_simp; try with_reducible rfl⟩) (by assumption) ?_
    (try simp only [Act.put, List.setIfInBounds_toArray, List.set_cons_zero, List.set_cons_succ])
    refine comes_up 6 rfl (by kernel_rfl) (fun K hK => ?_)
    refine step_store_row rfl 39 (.tmp 7) (.tmp 19) rfl w3.heap.size #[.int .u64 (N : Nat), .int .i64 (P : Nat), .int .u64 (S : Nat), .int .i64 (Q : Nat)] (by simp [Act.eval]) (by simp [Act.eval]) 39 _ hD4 infoS26 rfl (by simp [Value.oneCell']) ?_
    refine hK.out _ _ hS6 (fun hHeld => ?_)
    clear hK K
    (try simp only [Act.put, List.setIfInBounds_toArray, List.set_cons_zero, List.set_cons_succ])
    refine wpAnyH_done (by kernel_rfl) ?_ _
    refine NoPanic.normal ?_
    clear hS5 hS6 hHeld hD4
    generalize hD : w3.heap.size = D at G ⊢
    generalize hW5 : w4.setRow D #[.int .u64 (N : Nat), .int .i64 (P : Nat), .int .u64 (S : Nat), .int .i64 (Q : Nat)] = W5 at G ⊢
    clear hW5 hD hw3 hsz3
    obtain ⟨d0, d1, d2, d3⟩ := G.cells
    simp only at d0 d1 d2 d3
    unfold lab at hform
    simp only at hform
    cases fm with
    | false =>
      have HR : Hid (dl = ((0, 0, 0, 0), none)) := by
        show _ = _
        rw [HD.out]
      go_wp2_with fail
      refine (hform _).mono ?_
      rintro e w6 ⟨rfl, hu6⟩
      have G6 := G.below hu6.bl
      clear G hform hu6 d0 d1 d2 d3
      have hng6 := hng _ G6.rd
      go_wp2_with fail
      refine hng6.mono ?_
      rintro e w7 ⟨rfl, rd7, g7⟩
      have G7 := G6.step rd7 g7
      clear hng hng6 g7 G6 rd7
      have hb7 := Cd.bad_rd _ _ _ G7.rd
      go_wp2_with fail
      refine hb7.mono ?_
      rintro e w8 ⟨rfl, rfl⟩
      obtain ⟨hc, HE⟩ := G7.told 0 0 0 0
      have k0 := hc 0 _ rfl
      have k1 := hc 1 _ rfl
      have k2 := hc 2 _ rfl
      have k3 := hc 3 _ rfl
      have hans := G7.ans
      clear hb7 G7 hc
      go_wp2_with (first | (refine wpList_store_row rfl 39 (.tmp 2) (.tmp 27) rfl w.heap.size #[.int .u64 0, .int .i64 0, .int .u64 0, .int .i64 0] rfl rfl 39 _ hans infoS26 rfl (by simp [Value.oneCell']) ?_))
      refine bodyPost_ret (v := .tuple #[.agg #[.int .u64 0, .int .i64 0, .int .u64 0, .int .i64 0], .bool false]) ?_ rfl ?_
      · simp [results, Tryz.results174, go_sem, k0, k1, k2, k3]
      · rw [HR.out]
        exact ⟨rfl, HE.out⟩
    | true =>
      go_wp2_with fail
      refine (hform _).mono ?_
      rintro e w6 ⟨rfl, hu6⟩
      have G6 := G.below hu6.bl
      clear G hform hu6 d0 d1 d2 d3 hng
      have hb7 := Cd.bad_rd _ _ _ G6.rd
      cases st3 with
      | none =>
        have HR : Hid (dl = ((0, 0, 0, 0), none)) := by
          show _ = _
          rw [HD.out]
        go_wp2_with fail
        refine hb7.mono ?_
        rintro e w8 ⟨rfl, rfl⟩
        obtain ⟨hc, HE⟩ := G6.told 0 0 0 0
        have k0 := hc 0 _ rfl
        have k1 := hc 1 _ rfl
        have k2 := hc 2 _ rfl
        have k3 := hc 3 _ rfl
        have hans := G6.ans
        clear hb7 G6 hc
        go_wp2_with (first | (refine wpList_store_row rfl 39 (.tmp 2) (.tmp 27) rfl w.heap.size #[.int .u64 0, .int .i64 0, .int .u64 0, .int .i64 0] rfl rfl 39 _ hans infoS26 rfl (by simp [Value.oneCell']) ?_))
        refine bodyPost_ret (v := .tuple #[.agg #[.int .u64 0, .int .i64 0, .int .u64 0, .int .i64 0], .bool false]) ?_ rfl ?_
        · simp [results, Tryz.results174, go_sem, k0, k1, k2, k3]
        · rw [HR.out]
          exact ⟨rfl, HE.out⟩
      | some ys =>
        have HR : Hid (dl = ((N, (P : Int), S, (Q : Int)), some ys)) := by
          show _ = _
          rw [HD.out]
        go_wp2_with fail
        refine hb7.mono ?_
        rintro e w8 ⟨rfl, rfl⟩
        obtain ⟨hc, HE⟩ := G6.told (N : Nat) (P : Nat) (S : Nat) (Q : Nat)
        have k0 := hc 0 _ rfl
        have k1 := hc 1 _ rfl
        have k2 := hc 2 _ rfl
        have k3 := hc 3 _ rfl
        have hans := G6.ans
        obtain ⟨d0, d1, d2, d3⟩ := G6.cells
        simp only at d0 d1 d2 d3
        clear hb7 G6 hc
        go_wp2_with (first | (refine wpList_store_row rfl 39 (.tmp 2) (.tmp 28) rfl w.heap.size #[.int .u64 (N : Nat), .int .i64 (P : Nat), .int .u64 (S : Nat), .int .i64 (Q : Nat)] rfl rfl 39 _ hans infoS26 rfl (by simp [Value.oneCell']) ?_))
        refine bodyPost_ret (v := .tuple #[.agg #[.int .u64 (N : Nat), .int .i64 (P : Nat), .int .u64 (S : Nat), .int .i64 (Q : Nat)], .bool true]) ?_ rfl ?_
        · simp [results, Tryz.results174, go_sem, k0, k1, k2, k3]
        · rw [HR.out]
          exact ⟨rfl, HE.out⟩
end Go.Proofs.YtlaihgdfedalmaaGreat
namespace Go.Proofs.YtlaihgdfedalmaaGreat
open Go.RowKit
set_option linter.unusedVariables false
set_option linter.unusedSimpArgs false

/-- What the call holds of memory: its reader, its answer's place, and the label that it has read. -/
structure Gq (w W : World) (m : Nat) (ao : Option Addr) (n cap : Nat) (xs : List UInt8) (o : Option Nat) (C : Nat) (a b c d : Int) : Prop where
  rr : Cd.RR W m ao n cap o
  row : Cd.Row W ao n cap xs
  ans : W.heap[w.heap.size]? = some (.cells #[.int .u64 0, .int .i64 0, .int .u64 0, .int .i64 0] 39 (0, 0))
  got : W.heap[C]? = some (.cells #[.int .u64 a, .int .i64 b, .int .u64 c, .int .i64 d] 39 (0, 0))
  gr : w.grownBy W (some m)
  ml : m < w.heap.size
  cl : w.heap.size < C
section
variable {w W W' : World} {m : Nat} {ao : Option Addr} {n cap : Nat} {xs : List UInt8} {o o' : Option Nat} {C : Nat} {a b c d : Int}
theorem Gq.below (h : Gq w W m ao n cap xs o C a b c d) (hb : Below W.heap.size W W') : Gq w W' m ao n cap xs o C a b c d where
  rr := h.rr.below hb
  row := h.row.below hb (Nat.le_refl _)
  ans := (hb.block _ (Array.getElem?_eq_some_iff.1 h.ans).1).trans h.ans
  got := (hb.block _ (Array.getElem?_eq_some_iff.1 h.got).1).trans h.got
  gr := Cd.grown_trans h.gr (gr_of hb _)
  ml := h.ml
  cl := h.cl
theorem Gq.step (h : Gq w W m ao n cap xs o C a b c d) (hr : Cd.RR W' m ao n cap o') (g : W.grownBy W' (some m)) : Gq w W' m ao n cap xs o' C a b c d where
  rr := hr
  row := Cd.row_RR h.row h.rr g
  ans := (g.block _ (Array.getElem?_eq_some_iff.1 h.ans).1 (by have := h.ml; simp; omega)).trans h.ans
  got := (g.block _ (Array.getElem?_eq_some_iff.1 h.got).1 (by have := h.ml; have := h.cl; simp; omega)).trans h.got
  gr := Cd.grown_trans h.gr g
  ml := h.ml
  cl := h.cl
theorem Gq.cells (h : Gq w W m ao n cap xs o C a b c d) : W.cell? ⟨C, 0, none⟩ = some (.int .u64 a) ∧ W.cell? ⟨C, 1, none⟩ = some (.int .i64 b) ∧ W.cell? ⟨C, 2, none⟩ = some (.int .u64 c) ∧ W.cell? ⟨C, 3, none⟩ = some (.int .i64 d) :=
  ⟨by rw [cell_of_row W C 0 _ 39 (0, 0) h.got]; rfl, by rw [cell_of_row W C 1 _ 39 (0, 0) h.got]; rfl, by rw [cell_of_row W C 2 _ 39 (0, 0) h.got]; rfl, by rw [cell_of_row W C 3 _ 39 (0, 0) h.got]; rfl⟩
theorem Gq.free (h : Gq w W m ao n cap xs o C a b c d) (j : Nat) : W.frozen? ⟨C, j, none⟩ = false := frozen_of_row W C j _ 39 h.got
theorem Gq.seq (h : Gq w W m ao n cap xs o C a b c d) (c' : Int) : Gq w (W.setCell ⟨C, 2, none⟩ (.int .u64 c')) m ao n cap xs o C a b c' d where
  rr := by unfold Cd.RR; rw [Below.heap_setCell _ _ _ _ (by have := h.ml; have := h.cl; show m ≠ C; omega)]; exact h.rr
  row := row_set h.row _ h.cells.2.2.1 (by simp)
  ans := (Below.heap_setCell _ _ _ _ (by have := h.cl; show w.heap.size ≠ C; omega)).trans h.ans
  got := by rw [setCell_eq_setRow W C 2 _ 39 (0, 0) _ h.got, setRow_heap _ _ _ _ _ _ h.got]; rfl
  gr := grown_set h.gr (by have := h.cl; omega) _
  ml := h.ml
  cl := h.cl
theorem Gq.who (h : Gq w W m ao n cap xs o C a b c d) (d' : Int) : Gq w (W.setCell ⟨C, 3, none⟩ (.int .i64 d')) m ao n cap xs o C a b c d' where
  rr := by unfold Cd.RR; rw [Below.heap_setCell _ _ _ _ (by have := h.ml; have := h.cl; show m ≠ C; omega)]; exact h.rr
  row := row_set h.row _ h.cells.2.2.2 (by simp)
  ans := (Below.heap_setCell _ _ _ _ (by have := h.cl; show w.heap.size ≠ C; omega)).trans h.ans
  got := by rw [setCell_eq_setRow W C 3 _ 39 (0, 0) _ h.got, setRow_heap _ _ _ _ _ _ h.got]; rfl
  gr := grown_set h.gr (by have := h.cl; omega) _
  ml := h.ml
  cl := h.cl
theorem Gq.fault (h : Gq w W m ao n cap xs o C a b c d) : Gq w (W.setCell ⟨m, 1, none⟩ (.int .i64 (-1))) m ao n cap xs none C a b c d where
  rr := h.rr.set none
  row := row_set h.row _ h.rr.cells.2.1 (by simp)
  ans := (Below.heap_setCell _ _ _ _ (by have := h.ml; show w.heap.size ≠ m; omega)).trans h.ans
  got := (Below.heap_setCell _ _ _ _ (by have := h.ml; have := h.cl; show C ≠ m; omega)).trans h.got
  gr := ⟨h.gr.os, h.gr.tape, h.gr.output, by simpa [World.setCell] using h.gr.size, fun k hk hne => (Below.heap_setCell _ _ _ _ (fun e => hne (by rw [e]))).trans (h.gr.block k hk hne)⟩
  ml := h.ml
  cl := h.cl
/-- The answer laid. -/
theorem Gq.told (h : Gq w W m ao n cap xs o C a b c d) (n' p s q : Int) : (∀ j v, #[Value.int .u64 n', .int .i64 p, .int .u64 s, .int .i64 q][j]? = some v → (W.setRow w.heap.size #[.int .u64 n', .int .i64 p, .int .u64 s, .int .i64 q]).cell? ⟨w.heap.size, j, none⟩ = some v) ∧
    Hid (Cd.RR (W.setRow w.heap.size #[.int .u64 n', .int .i64 p, .int .u64 s, .int .i64 q]) m ao n cap o ∧ w.grownBy (W.setRow w.heap.size #[.int .u64 n', .int .i64 p, .int .u64 s, .int .i64 q]) (some m)) := by
  refine ⟨fun j v hj => ?_, ?_, gr_row h.gr (Nat.le_refl _) _⟩
  · rw [cell_setRow_same _ _ _ _ _ _ _ h.ans]
    exact hj
  · unfold Cd.RR
    rw [setRow_other _ _ _ _ (by have := h.ml; show m ≠ w.heap.size; omega)]
    exact h.rr
end

end Go.Proofs.YtlaihgdfedalmaaGreat
