/-
  Frames that a node sends (proposal.ask, commit, Member.out).
  What a node sends to the other nodes of its proposal's set (Member.toOthers).
  What a node sends to the other nodes, more.
  What a node sends to the other nodes, more.
  A tick (Member.remind, Tick).
-/
import Derived.Test.YtlonbbepoamnmaaDoorMJoin
namespace Go.Proofs.YtlonbbepoamnmaaDoor
open Go.RowKit
set_option linter.unusedVariables false

theorem step_store_row {P : Program} {ops : Array Oper} {o : Oper} {a : Act} {w : World} {K : Act → World → Prop} {Q : Exit → Act → World → Prop} {E : Prop} (hgd : o.guard = none) (ty : TypeId) (x y : Operand) (ho : o.op = .store ty x y)
    (g : Nat) (cells : Array Value) (hx : a.eval x = .pointer (some ⟨g, 0, none⟩)) (hy : a.eval y = .agg cells) (t : TypeId) (old : Array Value) (hg : w.heap[g]? = some (.cells old t (0, 0))) (hi : (P.info? ty).map (·.size) = some cells.size)
    (hold : old.size = cells.size) (h1 : cells.all (·.oneCell') = true) (h : K (a.put o.dst undef) (w.setRow g cells)) : if Region.wanted o (yielded ops a.tmps) = true then Oper.wp P o a w K Q else E := by
  have hw : Region.wanted o (yielded ops a.tmps) = true := by simp [Region.wanted, hgd]
  rw [if_pos hw]
  exact wp_store_row ty x y ho g cells hx hy t old hg hi hold h1 h
theorem info43 : (Tryd.prog.info? 43).map (·.size) = some 15 := by kernel_rfl
theorem info87 : (Tryd.prog.info? 87).map (·.size) = some 16 := by kernel_rfl
def askF (P : Pp) : PF := { zeroF with kind := 2, idN := P.id.1, idP := P.id.2, set := P.set }
def commitF (P : Pp) : PF := { zeroF with kind := 5, idN := P.id.1, idP := P.id.2, set := P.set, st := joinD P.sts }
def PF.by_ (F : PF) (s : Nat) : PF := { F with frm := (s : Int) }
def ocells (t : Nat) (F : PF) (a : Fa) : List Value := Value.int .i64 (t : Nat) :: (fcells F a).toList
def oval (t : Nat) (F : PF) (a : Fa) : Value := .agg (ocells t F a).toArray
theorem bl_row {w w' : World} {B g : Nat} {cs : Array Value} (h : Below B w w') (hg : B ≤ g) : Below B w (w'.setRow g cs) :=
  ⟨h.os, h.tape, h.output, by rw [size_setRow]; exact h.size, fun k hk => by rw [setRow_other _ _ _ _ (by omega)]; exact h.block k hk⟩
theorem cell_row {w : World} {g b j : Nat} {cs : Array Value} {v : Value} (h : w.cell? ⟨b, j, none⟩ = some v) (hne : b ≠ g) : (w.setRow g cs).cell? ⟨b, j, none⟩ = some v := by
  rw [World.cell?_of_block (w := w) (setRow_other _ _ _ _ hne)]; exact h
theorem kp_row {w : World} {g : Nat} {cs : Array Value} {p : Nat → Prop} (hp : ∀ b, p b → b ≠ g) : Kp p w (w.setRow g cs) := fun ad v hb hc => by
  rw [World.cell?_of_block (w := w) (setRow_other _ _ _ _ (hp _ hb))]; exact hc

section
variable {w : World} {F Z : Nat → Prop} {q p : Nat} {M : Mm} {P : Pp} {o : Option Nat}

set_option maxRecDepth 10000 in
theorem ask_any (hp : Pb w F Z q p P) (hpl : p < w.heap.size) : Calls Tryd.prog 65 #[.pointer (some ⟨p, 0, none⟩)] w fun e w' => e = .returned (fval (askF P) Fa.none) ∧ Below w.heap.size w w' := by
  obtain ⟨w1, hw1⟩ : ∃ w1, (w.alloc (.cells #[.int .u8 0, .int .i64 0, .int .u64 0, .int .i64 0, .int .u16 0, .int .u64 0, .int .i64 0, .int .u64 0, .int .i64 0, .slice none 0 0, .int .u64 0, .slice none 0 0, .slice none 0 0, .int .u64 0, .int .u64 0] 43)).drew = w1 := ⟨_, rfl⟩
  have hb1 : Below w.heap.size w w1 := by rw [← hw1]; exact (bl1 w _).drew
  have hB : w1.heap[w.heap.size]? = some (.cells #[.int .u8 0, .int .i64 0, .int .u64 0, .int .i64 0, .int .u16 0, .int .u64 0, .int .i64 0, .int .u64 0, .int .i64 0, .slice none 0 0, .int .u64 0, .slice none 0 0, .slice none 0 0, .int .u64 0, .int .u64 0] 43 (0, 0)) := by rw [← hw1]; exact heap_alloc_new _ _
  have hS : w1.cell? ⟨p, 0, none⟩ = some (.int .u64 (P.id.1 : Nat)) ∧ w1.cell? ⟨p, 1, none⟩ = some (.int .i64 P.id.2) ∧ w1.cell? ⟨p, 2, none⟩ = some (.int .u16 (P.set : Nat)) := ⟨bl_cell hb1 hp.c0, bl_cell hb1 hp.c1, bl_cell hb1 hp.c2⟩
  have hS2 : (w1.setRow w.heap.size #[.int .u8 2, .int .i64 0, .int .u64 (P.id.1 : Nat), .int .i64 P.id.2, .int .u16 (P.set : Nat), .int .u64 0, .int .i64 0, .int .u64 0, .int .i64 0, .slice none 0 0, .int .u64 0, .slice none 0 0, .slice none 0 0, .int .u64 0, .int .u64 0]).cell? ⟨p, 0, none⟩ = some (.int .u64 (P.id.1 : Nat)) ∧ (w1.setRow w.heap.size #[.int .u8 2, .int .i64 0, .int .u64 (P.id.1 : Nat), .int .i64 P.id.2, .int .u16 (P.set : Nat), .int .u64 0, .int .i64 0, .int .u64 0, .int .i64 0, .slice none 0 0, .int .u64 0, .slice none 0 0, .slice none 0 0, .int .u64 0, .int .u64 0]).cell? ⟨p, 1, none⟩ = some (.int .i64 P.id.2) ∧ (w1.setRow w.heap.size #[.int .u8 2, .int .i64 0, .int .u64 (P.id.1 : Nat), .int .i64 P.id.2, .int .u16 (P.set : Nat), .int .u64 0, .int .i64 0, .int .u64 0, .int .i64 0, .slice none 0 0, .int .u64 0, .slice none 0 0, .slice none 0 0, .int .u64 0, .int .u64 0]).cell? ⟨p, 2, none⟩ = some (.int .u16 (P.set : Nat)) := ⟨cell_row hS.1 (by omega), cell_row hS.2.1 (by omega), cell_row hS.2.2 (by omega)⟩
  have hset := setRow_heap w1 w.heap.size _ #[.int .u8 2, .int .i64 0, .int .u64 (P.id.1 : Nat), .int .i64 P.id.2, .int .u16 (P.set : Nat), .int .u64 0, .int .i64 0, .int .u64 0, .int .i64 0, .slice none 0 0, .int .u64 0, .slice none 0 0, .slice none 0 0, .int .u64 0, .int .u64 0] 43 (0, 0) hB
  have HE : Hid (Below w.heap.size w (w1.setRow w.heap.size #[.int .u8 2, .int .i64 0, .int .u64 (P.id.1 : Nat), .int .i64 P.id.2, .int .u16 (P.set : Nat), .int .u64 0, .int .i64 0, .int .u64 0, .int .i64 0, .slice none 0 0, .int .u64 0, .slice none 0 0, .slice none 0 0, .int .u64 0, .int .u64 0])) := bl_row hb1 (Nat.le_refl _)
  have HW : Hid ((w.alloc (.cells #[.int .u8 0, .int .i64 0, .int .u64 0, .int .i64 0, .int .u16 0, .int .u64 0, .int .i64 0, .int .u64 0, .int .i64 0, .slice none 0 0, .int .u64 0, .slice none 0 0, .slice none 0 0, .int .u64 0, .int .u64 0] 43)).drew = w1) := hw1
  clear hp hb1 hpl hw1
  go_enter Tryd.func65, Tryd.ntmps65
  go_wp2_with fail
  refine wp_region_noPanic ?_
  refine wp_region_held_drew (S := fun wx => wx.cell? ⟨p, 0, none⟩ = some (.int .u64 (P.id.1 : Nat)) ∧ wx.cell? ⟨p, 1, none⟩ = some (.int .i64 P.id.2) ∧ wx.cell? ⟨p, 2, none⟩ = some (.int .u16 (P.set : Nat))) (by kernel_rfl) (by rw [HW.out]; exact hS) (fun hHeld => ?_)
  rw [HW.out] at hHeld ⊢
  clear HW
  refine take_first 0 (v := ?_) rfl (by kernel_rfl) (by kernel_rfl) (by kernel_rfl) (fun _ _ _ h => h) (Or.inl ⟨by rfl, by intro wx hSw; (try dsimp only at hSw); obtain ⟨a1, a2, a3⟩ := hSw; go_simp; try with_reducible rfl⟩) (by assumption) ?_
  (try simp only [Act.put, List.setIfInBounds_toArray, List.set_cons_zero, List.set_cons_succ])
  refine take_first 1 (v := ?_) rfl (by kernel_rfl) (by kernel_rfl) (by kernel_rfl) (fun _ _ _ h => h) (Or.inl ⟨by rfl, by intro wx hSw; (try dsimp only at hSw); obtain ⟨a1, a2, a3⟩ := hSw; go_simp; try with_reducible rfl⟩) (by assumption) ?_
  (try simp only [Act.put, List.setIfInBounds_toArray, List.set_cons_zero, List.set_cons_succ])
  refine take_first 2 (v := ?_) rfl (by kernel_rfl) (by kernel_rfl) (by kernel_rfl) (fun _ _ _ h => h) (Or.inl ⟨by rfl, by intro wx hSw; (try dsimp only at hSw); obtain ⟨a1, a2, a3⟩ := hSw; go_simp; try with_reducible rfl⟩) (by assumption) ?_
  (try simp only [Act.put, List.setIfInBounds_toArray, List.set_cons_zero, List.set_cons_succ])
  refine take_first 3 (v := ?_) rfl (by kernel_rfl) (by kernel_rfl) (by kernel_rfl) (fun _ _ _ h => h) (Or.inl ⟨by rfl, by intro wx hSw; (try dsimp only at hSw); obtain ⟨a1, a2, a3⟩ := hSw; go_simp; try with_reducible rfl⟩) (by assumption) ?_
  (try simp only [Act.put, List.setIfInBounds_toArray, List.set_cons_zero, List.set_cons_succ])
  refine take_first 4 (v := ?_) rfl (by kernel_rfl) (by kernel_rfl) (by kernel_rfl) (fun _ _ _ h => h) (Or.inl ⟨by rfl, by intro wx hSw; (try dsimp only at hSw); obtain ⟨a1, a2, a3⟩ := hSw; go_simp; try with_reducible rfl⟩) (by assumption) ?_
  (try simp only [Act.put, List.setIfInBounds_toArray, List.set_cons_zero, List.set_cons_succ])
  refine take_first 5 (v := ?_) rfl (by kernel_rfl) (by kernel_rfl) (by kernel_rfl) (fun _ _ _ h => h) (Or.inl ⟨by rfl, by intro wx hSw; (try dsimp only at hSw); obtain ⟨a1, a2, a3⟩ := hSw; go_simp; try with_reducible rfl⟩) (by assumption) ?_
  (try simp only [Act.put, List.setIfInBounds_toArray, List.set_cons_zero, List.set_cons_succ])
  refine take_first 6 (v := ?_) rfl (by kernel_rfl) (by kernel_rfl) (by kernel_rfl) (fun _ _ _ h => h) (Or.inl ⟨by rfl, by intro wx hSw; (try dsimp only at hSw); obtain ⟨a1, a2, a3⟩ := hSw; go_simp; try with_reducible rfl⟩) (by assumption) ?_
  (try simp only [Act.put, List.setIfInBounds_toArray, List.set_cons_zero, List.set_cons_succ])
  refine take_first 7 (v := ?_) rfl (by kernel_rfl) (by kernel_rfl) (by kernel_rfl) (fun _ _ _ h => h) (Or.inl ⟨by rfl, by intro wx hSw; (try dsimp only at hSw); obtain ⟨a1, a2, a3⟩ := hSw; go_simp; try with_reducible rfl⟩) (by assumption) ?_
  (try simp only [Act.put, List.setIfInBounds_toArray, List.set_cons_zero, List.set_cons_succ])
  refine take_first 8 (v := ?_) rfl (by kernel_rfl) (by kernel_rfl) (by kernel_rfl) (fun _ _ _ h => h) (Or.inl ⟨by rfl, by intro wx hSw; (try dsimp only at hSw); obtain ⟨a1, a2, a3⟩ := hSw; go_simp; try with_reducible rfl⟩) (by assumption) ?_
  (try simp only [Act.put, List.setIfInBounds_toArray, List.set_cons_zero, List.set_cons_succ])
  refine take_first 9 (v := ?_) rfl (by kernel_rfl) (by kernel_rfl) (by kernel_rfl) (fun _ _ _ h => h) (Or.inl ⟨by rfl, by intro wx hSw; (try dsimp only at hSw); obtain ⟨a1, a2, a3⟩ := hSw; go_simp; try with_reducible rfl⟩) (by assumption) ?_
  (try simp only [Act.put, List.setIfInBounds_toArray, List.set_cons_zero, List.set_cons_succ])
  refine take_first 10 (v := ?_) rfl (by kernel_rfl) (by kernel_rfl) (by kernel_rfl) (fun _ _ _ h => h) (Or.inl ⟨by rfl, by intro wx hSw; (try dsimp only at hSw); obtain ⟨a1, a2, a3⟩ := hSw; go_simp; try with_reducible rfl⟩) (by assumption) ?_
  (try simp only [Act.put, List.setIfInBounds_toArray, List.set_cons_zero, List.set_cons_succ])
  refine comes_up 11 rfl (by kernel_rfl) (fun K hK => ?_)
  refine step_store_row rfl 43 (.tmp 2) (.tmp 13) rfl w.heap.size #[.int .u8 2, .int .i64 0, .int .u64 (P.id.1 : Nat), .int .i64 P.id.2, .int .u16 (P.set : Nat), .int .u64 0, .int .i64 0, .int .u64 0, .int .i64 0, .slice none 0 0, .int .u64 0, .slice none 0 0, .slice none 0 0, .int .u64 0, .int .u64 0] rfl rfl 43 _ hB info43 rfl (by simp [Value.oneCell']) ?_
  refine hK.out _ _ hS2 (fun hHeld => ?_)
  clear hK K
  (try simp only [Act.put])
  refine wpAnyH_done (by kernel_rfl) ?_ _
  refine NoPanic.normal ?_
  go_wp2
  refine bodyPost_ret (results_cell1 (g := w.heap.size) Tryd.results65 rfl (run_loadVar_row _ w.heap.size 43 43 _ (0, 0) _ hset Tryd.underlying43 rfl info43)) rfl ?_
  exact ⟨rfl, HE.out⟩

set_option maxRecDepth 10000 in
set_option maxHeartbeats 1000000 in
theorem commit_any (hp : Pb w F Z q p P) (hpl : ∀ b, F b → b < w.heap.size) (h0 : ∀ b, Z b → b < w.heap.size) : Calls Tryd.prog 63 #[.pointer (some ⟨p, 0, none⟩)] w fun e w' => ∃ so sc, e = .returned (fval (commitF P) ⟨so, sc, none, 0, none, 0⟩) ∧ Ss (fun b => w.heap.size ≤ b) w' so (joinD P.sts).length (joinD P.sts) ∧ Below w.heap.size w w' := by
  obtain ⟨w1, hw1⟩ : ∃ w1, (w.alloc (.cells #[.int .u8 0, .int .i64 0, .int .u64 0, .int .i64 0, .int .u16 0, .int .u64 0, .int .i64 0, .int .u64 0, .int .i64 0, .slice none 0 0, .int .u64 0, .slice none 0 0, .slice none 0 0, .int .u64 0, .int .u64 0] 43)).drew = w1 := ⟨_, rfl⟩
  have hb1 : Below w.heap.size w w1 := by rw [← hw1]; exact (bl1 w _).drew
  have s1 : w1.heap.size = w.heap.size + 1 := by rw [← hw1]; show (w.alloc _).heap.size = _; simp
  have hB : w1.heap[w.heap.size]? = some (.cells #[.int .u8 0, .int .i64 0, .int .u64 0, .int .i64 0, .int .u16 0, .int .u64 0, .int .i64 0, .int .u64 0, .int .i64 0, .slice none 0 0, .int .u64 0, .slice none 0 0, .slice none 0 0, .int .u64 0, .int .u64 0] 43 (0, 0)) := by rw [← hw1]; exact heap_alloc_new _ _
  have hp1 : Pb w1 F Z q p P := hp.frame (fun b hb => hb1.block b (hpl b hb)) (Kp.up hb1) (fun _ h => h)
  have hS : w1.cell? ⟨p, 0, none⟩ = some (.int .u64 (P.id.1 : Nat)) ∧ w1.cell? ⟨p, 1, none⟩ = some (.int .i64 P.id.2) ∧ w1.cell? ⟨p, 2, none⟩ = some (.int .u16 (P.set : Nat)) := ⟨hp1.c0, hp1.c1, hp1.c2⟩
  have hj := joined_any hp1
  have HX : Hid (w1.heap.size = w.heap.size + 1 ∧ p < w.heap.size ∧ Below w.heap.size w w1) := ⟨s1, hpl p hp.fp, hb1⟩
  have HW : Hid ((w.alloc (.cells #[.int .u8 0, .int .i64 0, .int .u64 0, .int .i64 0, .int .u16 0, .int .u64 0, .int .i64 0, .int .u64 0, .int .i64 0, .slice none 0 0, .int .u64 0, .slice none 0 0, .slice none 0 0, .int .u64 0, .int .u64 0] 43)).drew = w1) := hw1
  clear hp hb1 hpl hw1 s1 hp1 h0
  go_enter Tryd.func63, Tryd.ntmps63
  go_wp2_with fail
  refine wp_region_noPanic ?_
  refine wp_region_held_drew (S := fun wx => wx.cell? ⟨p, 0, none⟩ = some (.int .u64 (P.id.1 : Nat)) ∧ wx.cell? ⟨p, 1, none⟩ = some (.int .i64 P.id.2) ∧ wx.cell? ⟨p, 2, none⟩ = some (.int .u16 (P.set : Nat))) (by kernel_rfl) (by rw [HW.out]; exact hS) (fun hHeld => ?_)
  rw [HW.out] at hHeld ⊢
  clear HW
  refine take_first 0 (v := ?_) rfl (by kernel_rfl) (by kernel_rfl) (by kernel_rfl) (fun _ _ _ h => h) (Or.inl ⟨by rfl, by intro wx hSw; (try dsimp only at hSw); obtain ⟨a1, a2, a3⟩ := hSw; go_simp; try with_reducible rfl⟩) (by assumption) ?_
  (try simp only [Act.put, List.setIfInBounds_toArray, List.set_cons_zero, List.set_cons_succ])
  refine take_first 1 (v := ?_) rfl (by kernel_rfl) (by kernel_rfl) (by kernel_rfl) (fun _ _ _ h => h) (Or.inl ⟨by rfl, by intro wx hSw; (try dsimp only at hSw); obtain ⟨a1, a2, a3⟩ := hSw; go_simp; try with_reducible rfl⟩) (by assumption) ?_
  (try simp only [Act.put, List.setIfInBounds_toArray, List.set_cons_zero, List.set_cons_succ])
  refine take_first 2 (v := ?_) rfl (by kernel_rfl) (by kernel_rfl) (by kernel_rfl) (fun _ _ _ h => h) (Or.inl ⟨by rfl, by intro wx hSw; (try dsimp only at hSw); obtain ⟨a1, a2, a3⟩ := hSw; go_simp; try with_reducible rfl⟩) (by assumption) ?_
  (try simp only [Act.put, List.setIfInBounds_toArray, List.set_cons_zero, List.set_cons_succ])
  refine take_first 3 (v := ?_) rfl (by kernel_rfl) (by kernel_rfl) (by kernel_rfl) (fun _ _ _ h => h) (Or.inl ⟨by rfl, by intro wx hSw; (try dsimp only at hSw); obtain ⟨a1, a2, a3⟩ := hSw; go_simp; try with_reducible rfl⟩) (by assumption) ?_
  (try simp only [Act.put, List.setIfInBounds_toArray, List.set_cons_zero, List.set_cons_succ])
  refine take_first 4 (v := ?_) rfl (by kernel_rfl) (by kernel_rfl) (by kernel_rfl) (fun _ _ _ h => h) (Or.inl ⟨by rfl, by intro wx hSw; (try dsimp only at hSw); obtain ⟨a1, a2, a3⟩ := hSw; go_simp; try with_reducible rfl⟩) (by assumption) ?_
  (try simp only [Act.put, List.setIfInBounds_toArray, List.set_cons_zero, List.set_cons_succ])
  refine take_first 5 (v := ?_) rfl (by kernel_rfl) (by kernel_rfl) (by kernel_rfl) (fun _ _ _ h => h) (Or.inl ⟨by rfl, by intro wx hSw; (try dsimp only at hSw); obtain ⟨a1, a2, a3⟩ := hSw; go_simp; try with_reducible rfl⟩) (by assumption) ?_
  (try simp only [Act.put, List.setIfInBounds_toArray, List.set_cons_zero, List.set_cons_succ])
  refine take_first 6 (v := ?_) rfl (by kernel_rfl) (by kernel_rfl) (by kernel_rfl) (fun _ _ _ h => h) (Or.inl ⟨by rfl, by intro wx hSw; (try dsimp only at hSw); obtain ⟨a1, a2, a3⟩ := hSw; go_simp; try with_reducible rfl⟩) (by assumption) ?_
  (try simp only [Act.put, List.setIfInBounds_toArray, List.set_cons_zero, List.set_cons_succ])
  refine take_first 7 (v := ?_) rfl (by kernel_rfl) (by kernel_rfl) (by kernel_rfl) (fun _ _ _ h => h) (Or.inl ⟨by rfl, by intro wx hSw; (try dsimp only at hSw); obtain ⟨a1, a2, a3⟩ := hSw; go_simp; try with_reducible rfl⟩) (by assumption) ?_
  (try simp only [Act.put, List.setIfInBounds_toArray, List.set_cons_zero, List.set_cons_succ])
  refine take_first 8 (v := ?_) rfl (by kernel_rfl) (by kernel_rfl) (by kernel_rfl) (fun _ _ _ h => h) (Or.inl ⟨by rfl, by intro wx hSw; (try dsimp only at hSw); obtain ⟨a1, a2, a3⟩ := hSw; go_simp; try with_reducible rfl⟩) (by assumption) ?_
  (try simp only [Act.put, List.setIfInBounds_toArray, List.set_cons_zero, List.set_cons_succ])
  refine take_first 9 (v := ?_) rfl (by kernel_rfl) (by kernel_rfl) (by kernel_rfl) (fun _ _ _ h => h) (Or.inl ⟨by rfl, by intro wx hSw; (try dsimp only at hSw); obtain ⟨a1, a2, a3⟩ := hSw; go_simp; try with_reducible rfl⟩) (by assumption) ?_
  (try simp only [Act.put, List.setIfInBounds_toArray, List.set_cons_zero, List.set_cons_succ])
  refine take_first 10 (v := ?_) rfl (by kernel_rfl) (by kernel_rfl) (by kernel_rfl) (fun _ _ _ h => h) (Or.inl ⟨by rfl, by intro wx hSw; (try dsimp only at hSw); obtain ⟨a1, a2, a3⟩ := hSw; go_simp; try with_reducible rfl⟩) (by assumption) ?_
  (try simp only [Act.put, List.setIfInBounds_toArray, List.set_cons_zero, List.set_cons_succ])
  refine comes_up 11 rfl (by kernel_rfl) (fun K hK => ?_)
  go_simp
  refine hj.mono ?_
  rintro e w2 ⟨so, sc, rfl, hss, hb2⟩
  obtain ⟨x1, x2, x3⟩ := HX.out
  have hS2 : w2.cell? ⟨p, 0, none⟩ = some (.int .u64 (P.id.1 : Nat)) ∧ w2.cell? ⟨p, 1, none⟩ = some (.int .i64 P.id.2) ∧ w2.cell? ⟨p, 2, none⟩ = some (.int .u16 (P.set : Nat)) := ⟨bl_cell hb2 hS.1, bl_cell hb2 hS.2.1, bl_cell hb2 hS.2.2⟩
  have hB2 := (hb2.block w.heap.size (by omega)).trans hB
  have hS3 : (w2.setRow w.heap.size #[.int .u8 5, .int .i64 0, .int .u64 (P.id.1 : Nat), .int .i64 P.id.2, .int .u16 (P.set : Nat), .int .u64 0, .int .i64 0, .int .u64 0, .int .i64 0, .slice so (joinD P.sts).length sc, .int .u64 0, .slice none 0 0, .slice none 0 0, .int .u64 0, .int .u64 0]).cell? ⟨p, 0, none⟩ = some (.int .u64 (P.id.1 : Nat)) ∧ (w2.setRow w.heap.size #[.int .u8 5, .int .i64 0, .int .u64 (P.id.1 : Nat), .int .i64 P.id.2, .int .u16 (P.set : Nat), .int .u64 0, .int .i64 0, .int .u64 0, .int .i64 0, .slice so (joinD P.sts).length sc, .int .u64 0, .slice none 0 0, .slice none 0 0, .int .u64 0, .int .u64 0]).cell? ⟨p, 1, none⟩ = some (.int .i64 P.id.2) ∧ (w2.setRow w.heap.size #[.int .u8 5, .int .i64 0, .int .u64 (P.id.1 : Nat), .int .i64 P.id.2, .int .u16 (P.set : Nat), .int .u64 0, .int .i64 0, .int .u64 0, .int .i64 0, .slice so (joinD P.sts).length sc, .int .u64 0, .slice none 0 0, .slice none 0 0, .int .u64 0, .int .u64 0]).cell? ⟨p, 2, none⟩ = some (.int .u16 (P.set : Nat)) := ⟨cell_row hS2.1 (by omega), cell_row hS2.2.1 (by omega), cell_row hS2.2.2 (by omega)⟩
  have hset := setRow_heap w2 w.heap.size _ #[.int .u8 5, .int .i64 0, .int .u64 (P.id.1 : Nat), .int .i64 P.id.2, .int .u16 (P.set : Nat), .int .u64 0, .int .i64 0, .int .u64 0, .int .i64 0, .slice so (joinD P.sts).length sc, .int .u64 0, .slice none 0 0, .slice none 0 0, .int .u64 0, .int .u64 0] 43 (0, 0) hB2
  have HE : Hid (Ss (fun b => w.heap.size ≤ b) (w2.setRow w.heap.size #[.int .u8 5, .int .i64 0, .int .u64 (P.id.1 : Nat), .int .i64 P.id.2, .int .u16 (P.set : Nat), .int .u64 0, .int .i64 0, .int .u64 0, .int .i64 0, .slice so (joinD P.sts).length sc, .int .u64 0, .slice none 0 0, .slice none 0 0, .int .u64 0, .int .u64 0]) so (joinD P.sts).length (joinD P.sts) ∧ Below w.heap.size w (w2.setRow w.heap.size #[.int .u8 5, .int .i64 0, .int .u64 (P.id.1 : Nat), .int .i64 P.id.2, .int .u16 (P.set : Nat), .int .u64 0, .int .i64 0, .int .u64 0, .int .i64 0, .slice so (joinD P.sts).length sc, .int .u64 0, .slice none 0 0, .slice none 0 0, .int .u64 0, .int .u64 0])) :=
    ⟨(hss.keep (kp_row (fun b hb => by have hb' : w1.heap.size ≤ b := hb; omega))).imp (fun b _ hb => by have hb' : w1.heap.size ≤ b := hb; omega), bl_row (bl_step x3 hb2) (Nat.le_refl _)⟩
  have HF : Hid (fval (commitF P) ⟨so, sc, none, 0, none, 0⟩ = .agg #[.int .u8 5, .int .i64 0, .int .u64 (P.id.1 : Nat), .int .i64 P.id.2, .int .u16 (P.set : Nat), .int .u64 0, .int .i64 0, .int .u64 0, .int .i64 0, .slice so (joinD P.sts).length sc, .int .u64 0, .slice none 0 0, .slice none 0 0, .int .u64 0, .int .u64 0]) := rfl
  clear hj hss hb2 HX hS hB x1 x2 x3
  go_wp2_with fail
  refine hK.out _ _ hS2 (fun hHeld => ?_)
  clear hK K
  (try simp only [Act.put, List.setIfInBounds_toArray, List.set_cons_zero, List.set_cons_succ])
  refine take_first 12 (v := ?_) rfl (by kernel_rfl) (by kernel_rfl) (by kernel_rfl) (fun _ _ _ h => h) (Or.inl ⟨by rfl, by intro wx hSw; (try dsimp only at hSw); obtain ⟨a1, a2, a3⟩ := hSw; go_simp; try with_reducible rfl⟩) (by assumption) ?_
  (try simp only [Act.put, List.setIfInBounds_toArray, List.set_cons_zero, List.set_cons_succ])
  refine comes_up 13 rfl (by kernel_rfl) (fun K hK => ?_)
  refine step_store_row rfl 43 (.tmp 2) (.tmp 15) rfl w.heap.size #[.int .u8 5, .int .i64 0, .int .u64 (P.id.1 : Nat), .int .i64 P.id.2, .int .u16 (P.set : Nat), .int .u64 0, .int .i64 0, .int .u64 0, .int .i64 0, .slice so (joinD P.sts).length sc, .int .u64 0, .slice none 0 0, .slice none 0 0, .int .u64 0, .int .u64 0] rfl rfl 43 _ hB2 info43 rfl (by simp [Value.oneCell']) ?_
  refine hK.out _ _ hS3 (fun hHeld => ?_)
  clear hK K
  (try simp only [Act.put])
  refine wpAnyH_done (by kernel_rfl) ?_ _
  refine NoPanic.normal ?_
  go_wp2
  refine bodyPost_ret (results_cell1 (g := w.heap.size) Tryd.results63 rfl (run_loadVar_row _ w.heap.size 43 43 _ (0, 0) _ hset Tryd.underlying43 rfl info43)) rfl ?_
  exact ⟨so, sc, by rw [HF.out], HE.out⟩

set_option maxRecDepth 10000 in
set_option maxHeartbeats 1000000 in
theorem out_any (h : Mb w F Z q M o) (t : Nat) (Fr : PF) (a : Fa) : Calls Tryd.prog 72 #[.pointer (some ⟨q, 0, none⟩), .int .i64 (t : Nat), fval Fr a] w fun e w' => e = .returned (oval t (Fr.by_ M.self) a) ∧ Below w.heap.size w w' := by
  have k1 := (h.still (bl2 w (.cells #[.int .u8 (Fr.kind : Nat), .int .i64 Fr.frm, .int .u64 (Fr.idN : Nat), .int .i64 Fr.idP, .int .u16 (Fr.set : Nat), .int .u64 (Fr.curN : Nat), .int .i64 Fr.curP, .int .u64 (Fr.promN : Nat), .int .i64 Fr.promP, .slice a.so Fr.st.length a.sc, .int .u64 (Fr.base : Nat), .slice a.mo Fr.ms.length a.mc, .slice a.io Fr.it.length a.ic, .int .u64 (Fr.ack : Nat), .int .u64 (Fr.safe : Nat)] 43) (.cells #[.int .i64 0, .int .u8 0, .int .i64 0, .int .u64 0, .int .i64 0, .int .u16 0, .int .u64 0, .int .i64 0, .int .u64 0, .int .i64 0, .slice none 0 0, .int .u64 0, .slice none 0 0, .slice none 0 0, .int .u64 0, .int .u64 0] 87))).cell 1 (by omega)
  unfold mcell at k1
  have hset : ((w.alloc (.cells #[.int .u8 (Fr.kind : Nat), .int .i64 (M.self : Nat), .int .u64 (Fr.idN : Nat), .int .i64 Fr.idP, .int .u16 (Fr.set : Nat), .int .u64 (Fr.curN : Nat), .int .i64 Fr.curP, .int .u64 (Fr.promN : Nat), .int .i64 Fr.promP, .slice a.so Fr.st.length a.sc, .int .u64 (Fr.base : Nat), .slice a.mo Fr.ms.length a.mc, .slice a.io Fr.it.length a.ic, .int .u64 (Fr.ack : Nat), .int .u64 (Fr.safe : Nat)] 43)).alloc (.cells #[.int .i64 (t : Nat), .int .u8 (Fr.kind : Nat), .int .i64 (M.self : Nat), .int .u64 (Fr.idN : Nat), .int .i64 Fr.idP, .int .u16 (Fr.set : Nat), .int .u64 (Fr.curN : Nat), .int .i64 Fr.curP, .int .u64 (Fr.promN : Nat), .int .i64 Fr.promP, .slice a.so Fr.st.length a.sc, .int .u64 (Fr.base : Nat), .slice a.mo Fr.ms.length a.mc, .slice a.io Fr.it.length a.ic, .int .u64 (Fr.ack : Nat), .int .u64 (Fr.safe : Nat)] 87)).heap[w.heap.size + 1]? = some (.cells #[.int .i64 (t : Nat), .int .u8 (Fr.kind : Nat), .int .i64 (M.self : Nat), .int .u64 (Fr.idN : Nat), .int .i64 Fr.idP, .int .u16 (Fr.set : Nat), .int .u64 (Fr.curN : Nat), .int .i64 Fr.curP, .int .u64 (Fr.promN : Nat), .int .i64 Fr.promP, .slice a.so Fr.st.length a.sc, .int .u64 (Fr.base : Nat), .slice a.mo Fr.ms.length a.mc, .slice a.io Fr.it.length a.ic, .int .u64 (Fr.ack : Nat), .int .u64 (Fr.safe : Nat)] 87 (0, 0)) := by
    have := heap_alloc_new (w.alloc (.cells #[.int .u8 (Fr.kind : Nat), .int .i64 (M.self : Nat), .int .u64 (Fr.idN : Nat), .int .i64 Fr.idP, .int .u16 (Fr.set : Nat), .int .u64 (Fr.curN : Nat), .int .i64 Fr.curP, .int .u64 (Fr.promN : Nat), .int .i64 Fr.promP, .slice a.so Fr.st.length a.sc, .int .u64 (Fr.base : Nat), .slice a.mo Fr.ms.length a.mc, .slice a.io Fr.it.length a.ic, .int .u64 (Fr.ack : Nat), .int .u64 (Fr.safe : Nat)] 43)) (.cells #[.int .i64 (t : Nat), .int .u8 (Fr.kind : Nat), .int .i64 (M.self : Nat), .int .u64 (Fr.idN : Nat), .int .i64 Fr.idP, .int .u16 (Fr.set : Nat), .int .u64 (Fr.curN : Nat), .int .i64 Fr.curP, .int .u64 (Fr.promN : Nat), .int .i64 Fr.promP, .slice a.so Fr.st.length a.sc, .int .u64 (Fr.base : Nat), .slice a.mo Fr.ms.length a.mc, .slice a.io Fr.it.length a.ic, .int .u64 (Fr.ack : Nat), .int .u64 (Fr.safe : Nat)] 87)
    simpa using this
  have HE : Hid (Below w.heap.size w ((w.alloc (.cells #[.int .u8 (Fr.kind : Nat), .int .i64 (M.self : Nat), .int .u64 (Fr.idN : Nat), .int .i64 Fr.idP, .int .u16 (Fr.set : Nat), .int .u64 (Fr.curN : Nat), .int .i64 Fr.curP, .int .u64 (Fr.promN : Nat), .int .i64 Fr.promP, .slice a.so Fr.st.length a.sc, .int .u64 (Fr.base : Nat), .slice a.mo Fr.ms.length a.mc, .slice a.io Fr.it.length a.ic, .int .u64 (Fr.ack : Nat), .int .u64 (Fr.safe : Nat)] 43)).alloc (.cells #[.int .i64 (t : Nat), .int .u8 (Fr.kind : Nat), .int .i64 (M.self : Nat), .int .u64 (Fr.idN : Nat), .int .i64 Fr.idP, .int .u16 (Fr.set : Nat), .int .u64 (Fr.curN : Nat), .int .i64 Fr.curP, .int .u64 (Fr.promN : Nat), .int .i64 Fr.promP, .slice a.so Fr.st.length a.sc, .int .u64 (Fr.base : Nat), .slice a.mo Fr.ms.length a.mc, .slice a.io Fr.it.length a.ic, .int .u64 (Fr.ack : Nat), .int .u64 (Fr.safe : Nat)] 87))) := bl2 _ _ _
  have HF : Hid (oval t (Fr.by_ M.self) a = .agg #[.int .i64 (t : Nat), .int .u8 (Fr.kind : Nat), .int .i64 (M.self : Nat), .int .u64 (Fr.idN : Nat), .int .i64 Fr.idP, .int .u16 (Fr.set : Nat), .int .u64 (Fr.curN : Nat), .int .i64 Fr.curP, .int .u64 (Fr.promN : Nat), .int .i64 Fr.promP, .slice a.so Fr.st.length a.sc, .int .u64 (Fr.base : Nat), .slice a.mo Fr.ms.length a.mc, .slice a.io Fr.it.length a.ic, .int .u64 (Fr.ack : Nat), .int .u64 (Fr.safe : Nat)]) := rfl
  clear h
  rw [HF.out]
  clear HF
  unfold fval fcells
  go_enter Tryd.func72, Tryd.ntmps72
  go_wp2
  refine bodyPost_ret (results_cell1 (g := w.heap.size + 1) Tryd.results72 rfl (run_loadVar_row _ (w.heap.size + 1) 87 87 _ (0, 0) _ hset Tryd.underlying87 rfl info87)) rfl ?_
  exact ⟨rfl, HE.out⟩
end
end Go.Proofs.YtlonbbepoamnmaaDoor
namespace Go.Proofs.YtlonbbepoamnmaaDoor
open Go.RowKit
set_option linter.unusedVariables false

/-- Frames to be sent, as they lie in memory. -/
abbrev Ox := Nat × PF × Fa
def flatO (L : List Ox) : List Value := L.flatMap (fun x => ocells x.1 x.2.1 x.2.2)
def plainO (L : List Ox) : List (Nat × PF) := L.map (fun x => (x.1, x.2.1))
def OIn (p : Nat → Prop) (w : World) (L : List Ox) : Prop := ∀ x ∈ L, Ss p w x.2.2.so x.2.1.st.length x.2.1.st
theorem OIn.keep {p : Nat → Prop} {w w' : World} {L : List Ox} (h : OIn p w L) (k : Kp p w w') : OIn p w' L := fun x hx => (h x hx).keep k
theorem OIn.imp {p q : Nat → Prop} {w : World} {L : List Ox} (h : OIn p w L) (k : ∀ b, b < w.heap.size → p b → q b) : OIn q w L := fun x hx => (h x hx).imp k
theorem flatO_app (A B : List Ox) : flatO (A ++ B) = flatO A ++ flatO B := by simp [flatO]
theorem flatO_one (x : Ox) : flatO [x] = ocells x.1 x.2.1 x.2.2 := by simp [flatO]
theorem ocells_len (t : Nat) (F : PF) (a : Fa) : (ocells t F a).length = 16 := rfl
theorem ocells_one (t : Nat) (F : PF) (a : Fa) : ∀ u ∈ ocells t F a, u.oneCell' = true := by
  intro u hu
  simp only [ocells, fcells, List.mem_cons, List.not_mem_nil, or_false] at hu
  rcases hu with rfl | rfl | rfl | rfl | rfl | rfl | rfl | rfl | rfl | rfl | rfl | rfl | rfl | rfl | rfl | rfl <;> rfl
theorem info87z : (Tryd.prog.info? 87).map (fun i => (i.zero, i.size, i.bytes)) = some (some (.agg #[.int .i64 0, .int .u8 0, .int .i64 0, .int .u64 0, .int .i64 0, .int .u16 0, .int .u64 0, .int .i64 0, .int .u64 0, .int .i64 0, .slice none 0 0, .int .u64 0, .slice none 0 0, .slice none 0 0, .int .u64 0, .int .u64 0]), 16, 176) := by kernel_rfl
theorem und49 : Tryd.prog.underlying 49 = some (.slice 87) := by kernel_rfl
theorem own_lower {w : World} {B B' e size n : Nat} {v : Value} {xs : List Value} (h : w.ownsRow B e size v n xs) (hB : B' ≤ B) : w.ownsRow B' e size v n xs := by
  refine ⟨h.1, ?_⟩
  rcases h.2 with hn | ⟨g, cap, cur, rfl, hbg, r⟩
  · exact .inl hn
  · exact .inr ⟨g, cap, cur, rfl, Nat.le_trans hB hbg, r⟩
/-- What is answered where frames are to be sent. -/
def OutsPost (ex : List (Nat × PF)) (w : World) (e : Ending) (w' : World) : Prop := ∃ v L, e = .returned v ∧ plainO L = ex ∧ w'.ownsRow w.heap.size 87 16 v L.length (flatO L) ∧ OIn (fun b => w.heap.size ≤ b ∧ v.ownBlock ≠ some b) w' L ∧ Below w.heap.size w w'
/-- One more frame. -/
theorem row_more {w wr w2 w3 w4 : World} {v v' : Value} {L : List Ox} {t : Nat} {Fr : PF} {a : Fa} {ob : Obj} (hown : wr.ownsRow w.heap.size 87 16 v L.length (flatO L)) (hin : OIn (fun b => w.heap.size ≤ b ∧ v.ownBlock ≠ some b) wr L) (hb : Below w.heap.size w wr)
    (hss : Ss (fun b => wr.heap.size ≤ b) w2 a.so Fr.st.length Fr.st) (b2 : Below wr.heap.size wr w2) (b3 : Below w2.heap.size w2 w3) (hown4 : w4.ownsRow w.heap.size 87 16 v' (L.length + 1) (flatO L ++ ocells t Fr a)) (hgr : (w3.alloc ob).grownBy w4 v.ownBlock) (hat : v'.ownBlock = v.ownBlock ∨ v'.ownBlock = some (w3.alloc ob).heap.size) :
    w4.ownsRow w.heap.size 87 16 v' (L ++ [(t, Fr, a)]).length (flatO (L ++ [(t, Fr, a)])) ∧ OIn (fun b => w.heap.size ≤ b ∧ v'.ownBlock ≠ some b) w4 (L ++ [(t, Fr, a)]) ∧ Below w.heap.size w w4 := by
  have s2 := b2.size
  have s3 := b3.size
  have s0 := hb.size
  have s4 : (w3.alloc ob).heap.size = w3.heap.size + 1 := by simp
  have s5 := hgr.size
  have hvl : ∀ b, v.ownBlock = some b → w.heap.size ≤ b ∧ b < wr.heap.size := fun b hb => hown.lt b hb
  have blk : ∀ b, b < w3.heap.size → v.ownBlock ≠ some b → w4.heap[b]? = w3.heap[b]? := fun b hb hne => (hgr.block b (by omega) (fun e => hne e.symm)).trans (Below.heap_alloc _ _ _ hb)
  refine ⟨?_, ?_, ?_⟩
  · rw [flatO_app, flatO_one, List.length_append]
    exact hown4
  · intro x hx
    rcases List.mem_append.1 hx with hx | hx
    · refine (((hin x hx).imp (q := fun b => w.heap.size ≤ b ∧ v.ownBlock ≠ some b ∧ b < wr.heap.size) (fun b hl h => ⟨h.1, h.2, hl⟩)).keep (fun ad u hz hc => ?_)).imp (fun b _ h => ⟨h.1, fun e => ?_⟩)
      · rw [World.cell?_of_block (w := wr) ((blk _ (by have := hz.2.2; omega) hz.2.1).trans ((b3.block _ (by have := hz.2.2; omega)).trans (b2.block _ hz.2.2)))]; exact hc
      · rcases hat with e' | e'
        · exact h.2.1 (e'.symm.trans e)
        · rw [e'] at e
          have : (w3.alloc ob).heap.size = b := by simpa using e
          have := h.2.2
          omega
    · rw [List.mem_singleton] at hx
      subst hx
      refine ((hss.imp (q := fun b => wr.heap.size ≤ b ∧ b < w2.heap.size) (fun b hl h => ⟨h, hl⟩)).keep (fun ad u hz hc => ?_)).imp (fun b _ h => ⟨by have := h.1; omega, fun e => ?_⟩)
      · rw [World.cell?_of_block (w := w2) ((blk _ (by have := hz.2; omega) (fun e => by have := (hvl _ e).2; have := hz.1; omega)).trans (b3.block _ hz.2))]; exact hc
      · rcases hat with e' | e'
        · have := (hvl b (e'.symm.trans e)).2
          have := h.1
          omega
        · rw [e'] at e
          have : (w3.alloc ob).heap.size = b := by simpa using e
          have := h.2
          omega
  · exact bl_grown ((bl_step (bl_step hb b2) b3).alloc (by omega) ob) (by omega) hgr (fun k hk => (hvl k hk).1)

section
variable {w : World} {F Z : Nat → Prop} {q p : Nat} {M : Mm} {P : Pp} {o : Option Nat}

theorem acc1_any (w : World) (i : Int) : Calls Tryd.prog 75 #[.int .i64 i] w fun e w' => e = .returned (.bool true) ∧ Below w.heap.size w w' := by
  go_enter Tryd.func75, Tryd.ntmps75
  go_wp2
  go_ret
  exact ⟨rfl, Below.refl _ _⟩
theorem remind2_any (hp : Pb w F Z q p P) (B2 : Nat) (b2 : w.cell? ⟨B2, 0, none⟩ = some (.pointer (some ⟨p, 0, none⟩))) (i : Nat) : Calls Tryd.prog 66 #[.int .i64 (i : Nat), .pointer (some ⟨B2, 0, none⟩)] w fun e w' => e = .returned (.bool (!hasN P.acc (i : Nat))) ∧ Below w.heap.size w w' := by
  have c3 := hp.c3
  have hh := fun W => has_any W P.acc hp.a16 ((i : Nat) : Int)
  clear hp
  generalize hasN P.acc ((i : Nat) : Int) = r at *
  go_enter Tryd.func66, Tryd.ntmps66
  go_wp2_with fail
  refine (hh _).mono ?_
  rintro e w1 ⟨rfl, rfl⟩
  go_wp2
  go_ret
  exact ⟨rfl, Below.refl _ _⟩
theorem vid_eq2 (v u : Vid) : decide (v.1 = u.1 ∧ v.2 = u.2) = decide (v = u) := by
  apply decide_eq_decide.2
  exact ⟨fun h => Prod.ext h.1 h.2, fun h => ⟨by rw [h], by rw [h]⟩⟩
theorem remind1_any (h : Mb w F Z q M (some p)) (hp : Pb w F Z q p P) (B1 B2 : Nat) (b1 : w.cell? ⟨B1, 0, none⟩ = some (.pointer (some ⟨q, 0, none⟩))) (b2 : w.cell? ⟨B2, 0, none⟩ = some (.pointer (some ⟨p, 0, none⟩))) (i : Nat) (hi : i < 16) :
    Calls Tryd.prog 64 #[.int .i64 (i : Nat), .pointer (some ⟨B1, 0, none⟩), .pointer (some ⟨B2, 0, none⟩)] w fun e w' => e = .returned (.bool (!decide ((M.told i).1 = P.id))) ∧ Below w.heap.size w w' := by
  have t0 : w.cell? ⟨q, 9 + i * 4, none⟩ = some (.int .u64 ((M.told i).1.1 : Nat)) := by rw [show 9 + i * 4 = 9 + i * 4 + 0 by omega, h.cell _ (by omega), mcell_told _ _ _ _ (by omega)]; rfl
  have t1 : w.cell? ⟨q, 9 + i * 4 + 1, none⟩ = some (.int .i64 (M.told i).1.2) := by rw [h.cell _ (by omega), mcell_told _ _ _ _ (by omega)]; rfl
  have hq := fun W => vid_equal (M.told i).1.1 (M.told i).1.2 P.id.1 P.id.2 W
  rw [← vid_eq2]
  generalize decide ((M.told i).1.1 = P.id.1 ∧ (M.told i).1.2 = P.id.2) = r at *
  generalize (M.told i).1.1 = n1 at *
  generalize (M.told i).1.2 = p1 at *
  have hS : w.drew.cell? ⟨B1, 0, none⟩ = some (.pointer (some ⟨q, 0, none⟩)) ∧ w.drew.cell? ⟨B2, 0, none⟩ = some (.pointer (some ⟨p, 0, none⟩)) ∧ w.drew.cell? ⟨q, 9 + i * 4, none⟩ = some (.int .u64 (n1 : Nat)) ∧ w.drew.cell? ⟨q, 9 + i * 4 + 1, none⟩ = some (.int .i64 p1) ∧ w.drew.cell? ⟨p, 0, none⟩ = some (.int .u64 (P.id.1 : Nat)) ∧ w.drew.cell? ⟨p, 1, none⟩ = some (.int .i64 P.id.2) := ⟨b1, b2, t0, t1, hp.c0, hp.c1⟩
  have i0 : ¬ ((i : Int) < 0) := by omega
  have i1 : (i : Int) < 16 := by omega
  clear h hp b1 b2 t0 t1
  go_enter Tryd.func64, Tryd.ntmps64
  go_wp2_with fail
  refine wp_region_noPanic ?_
  refine wp_region_held_drew (S := fun wx => wx.cell? ⟨B1, 0, none⟩ = some (.pointer (some ⟨q, 0, none⟩)) ∧ wx.cell? ⟨B2, 0, none⟩ = some (.pointer (some ⟨p, 0, none⟩)) ∧ wx.cell? ⟨q, 9 + i * 4, none⟩ = some (.int .u64 (n1 : Nat)) ∧ wx.cell? ⟨q, 9 + i * 4 + 1, none⟩ = some (.int .i64 p1) ∧ wx.cell? ⟨p, 0, none⟩ = some (.int .u64 (P.id.1 : Nat)) ∧ wx.cell? ⟨p, 1, none⟩ = some (.int .i64 P.id.2)) (by kernel_rfl) hS (fun hHeld => ?_)
  refine take_first 0 (v := ?_) rfl (by kernel_rfl) (by kernel_rfl) (by kernel_rfl) (fun _ _ _ h => h) (Or.inl ⟨by rfl, by intro wx hSw; (try dsimp only at hSw); obtain ⟨a1, a2, a3, a4, a5, a6⟩ := hSw; go_simp; try with_reducible rfl⟩) (by assumption) ?_
  (try simp only [Act.put, List.setIfInBounds_toArray, List.set_cons_zero, List.set_cons_succ])
  refine take_first 1 (v := ?_) rfl (by kernel_rfl) (by kernel_rfl) (by kernel_rfl) (fun _ _ _ h => h) (Or.inl ⟨by rfl, by intro wx hSw; (try dsimp only at hSw); obtain ⟨a1, a2, a3, a4, a5, a6⟩ := hSw; go_simp; try with_reducible rfl⟩) (by assumption) ?_
  (try simp only [Act.put, List.setIfInBounds_toArray, List.set_cons_zero, List.set_cons_succ])
  refine take_first 2 (v := ?_) rfl (by kernel_rfl) (by kernel_rfl) (by kernel_rfl) (fun _ _ _ h => h) (Or.inl ⟨by rfl, by intro wx hSw; (try dsimp only at hSw); obtain ⟨a1, a2, a3, a4, a5, a6⟩ := hSw; go_simp; try with_reducible rfl⟩) (by assumption) ?_
  (try simp only [Act.put, List.setIfInBounds_toArray, List.set_cons_zero, List.set_cons_succ])
  refine take_first 3 (v := ?_) rfl (by kernel_rfl) (by kernel_rfl) (by kernel_rfl) (fun _ _ _ h => h) (Or.inl ⟨by rfl, by intro wx hSw; (try dsimp only at hSw); obtain ⟨a1, a2, a3, a4, a5, a6⟩ := hSw; go_simp; try with_reducible rfl⟩) (by assumption) ?_
  (try simp only [Act.put, List.setIfInBounds_toArray, List.set_cons_zero, List.set_cons_succ])
  refine take_first 4 (v := ?_) rfl (by kernel_rfl) (by kernel_rfl) (by kernel_rfl) (fun _ _ _ h => h) (Or.inl ⟨by rfl, by intro wx hSw; (try dsimp only at hSw); obtain ⟨a1, a2, a3, a4, a5, a6⟩ := hSw; go_simp; try with_reducible rfl⟩) (by assumption) ?_
  (try simp only [Act.put, List.setIfInBounds_toArray, List.set_cons_zero, List.set_cons_succ])
  refine take_first 5 (v := ?_) rfl (by kernel_rfl) (by kernel_rfl) (by kernel_rfl) (fun _ _ _ h => h) (Or.inl ⟨by rfl, by intro wx hSw; (try dsimp only at hSw); obtain ⟨a1, a2, a3, a4, a5, a6⟩ := hSw; go_simp; try with_reducible rfl⟩) (by assumption) ?_
  (try simp only [Act.put, List.setIfInBounds_toArray, List.set_cons_zero, List.set_cons_succ])
  refine take_first 6 (v := ?_) rfl (by kernel_rfl) (by kernel_rfl) (by kernel_rfl) (fun _ _ _ h => h) (Or.inl ⟨by rfl, by intro wx hSw; (try dsimp only at hSw); obtain ⟨a1, a2, a3, a4, a5, a6⟩ := hSw; go_simp; try with_reducible rfl⟩) (by assumption) ?_
  (try simp only [Act.put, List.setIfInBounds_toArray, List.set_cons_zero, List.set_cons_succ])
  refine take_first 7 (v := ?_) rfl (by kernel_rfl) (by kernel_rfl) (by kernel_rfl) (fun _ _ _ h => h) (Or.inl ⟨by rfl, by intro wx hSw; (try dsimp only at hSw); obtain ⟨a1, a2, a3, a4, a5, a6⟩ := hSw; go_simp; try with_reducible rfl⟩) (by assumption) ?_
  (try simp only [Act.put, List.setIfInBounds_toArray, List.set_cons_zero, List.set_cons_succ])
  refine take_first 8 (v := ?_) rfl (by kernel_rfl) (by kernel_rfl) (by kernel_rfl) (fun _ _ _ h => h) (Or.inl ⟨by rfl, by intro wx hSw; (try dsimp only at hSw); obtain ⟨a1, a2, a3, a4, a5, a6⟩ := hSw; go_simp; try with_reducible rfl⟩) (by assumption) ?_
  (try simp only [Act.put, List.setIfInBounds_toArray, List.set_cons_zero, List.set_cons_succ])
  refine take_first 9 (v := ?_) rfl (by kernel_rfl) (by kernel_rfl) (by kernel_rfl) (fun _ _ _ h => h) (Or.inl ⟨by rfl, by intro wx hSw; (try dsimp only at hSw); obtain ⟨a1, a2, a3, a4, a5, a6⟩ := hSw; go_simp; try with_reducible rfl⟩) (by assumption) ?_
  (try simp only [Act.put, List.setIfInBounds_toArray, List.set_cons_zero, List.set_cons_succ])
  refine take_first 10 (v := ?_) rfl (by kernel_rfl) (by kernel_rfl) (by kernel_rfl) (fun _ _ _ h => h) (Or.inl ⟨by rfl, by intro wx hSw; (try dsimp only at hSw); obtain ⟨a1, a2, a3, a4, a5, a6⟩ := hSw; go_simp; try with_reducible rfl⟩) (by assumption) ?_
  (try simp only [Act.put, List.setIfInBounds_toArray, List.set_cons_zero, List.set_cons_succ])
  refine take_first 11 (v := ?_) rfl (by kernel_rfl) (by kernel_rfl) (by kernel_rfl) (fun _ _ _ h => h) (Or.inl ⟨by rfl, by intro wx hSw; (try dsimp only at hSw); obtain ⟨a1, a2, a3, a4, a5, a6⟩ := hSw; go_simp; try with_reducible rfl⟩) (by assumption) ?_
  (try simp only [Act.put, List.setIfInBounds_toArray, List.set_cons_zero, List.set_cons_succ])
  refine take_first 12 (v := ?_) rfl (by kernel_rfl) (by kernel_rfl) (by kernel_rfl) (fun _ _ _ h => h) (Or.inl ⟨by rfl, by intro wx hSw; (try dsimp only at hSw); obtain ⟨a1, a2, a3, a4, a5, a6⟩ := hSw; go_simp; try with_reducible rfl⟩) (by assumption) ?_
  (try simp only [Act.put, List.setIfInBounds_toArray, List.set_cons_zero, List.set_cons_succ])
  refine take_first 13 (v := ?_) rfl (by kernel_rfl) (by kernel_rfl) (by kernel_rfl) (fun _ _ _ h => h) (Or.inl ⟨by rfl, by intro wx hSw; (try dsimp only at hSw); obtain ⟨a1, a2, a3, a4, a5, a6⟩ := hSw; go_simp; try with_reducible rfl⟩) (by assumption) ?_
  (try simp only [Act.put, List.setIfInBounds_toArray, List.set_cons_zero, List.set_cons_succ])
  refine wpAnyH_done (by kernel_rfl) ?_ _
  refine NoPanic.normal ?_
  go_wp2
  go_ret
  exact ⟨rfl, (Below.refl _ _).drew⟩
theorem askA_any (hp : Pb w F Z q p P) (hpl : p < w.heap.size) : Calls Tryd.prog 65 #[.pointer (some ⟨p, 0, none⟩)] w fun e w' => ∃ a : Fa, e = .returned (fval (askF P) a) ∧ Ss (fun b => w.heap.size ≤ b) w' a.so (askF P).st.length (askF P).st ∧ Below w.heap.size w w' := by
  refine (ask_any hp hpl).mono ?_
  rintro e w' ⟨h1, h2⟩
  exact ⟨Fa.none, h1, Ss.nil _ _, h2⟩
theorem commitA_any (hp : Pb w F Z q p P) (hpl : ∀ b, F b → b < w.heap.size) (h0 : ∀ b, Z b → b < w.heap.size) : Calls Tryd.prog 63 #[.pointer (some ⟨p, 0, none⟩)] w fun e w' => ∃ a : Fa, e = .returned (fval (commitF P) a) ∧ Ss (fun b => w.heap.size ≤ b) w' a.so (commitF P).st.length (commitF P).st ∧ Below w.heap.size w w' := by
  refine (commit_any hp hpl h0).mono ?_
  rintro e w' ⟨so, sc, h1, h2, h3⟩
  exact ⟨⟨so, sc, none, 0, none, 0⟩, h1, h2, h3⟩

set_option maxRecDepth 20000 in
set_option maxHeartbeats 2000000 in
theorem toOthersA_any (h : Mb w F Z q M (some p)) (hM : M.own = some P) (B2 : Nat) (b2 : w.cell? ⟨B2, 0, none⟩ = some (.pointer (some ⟨p, 0, none⟩))) :
    Calls Tryd.prog 62 #[.pointer (some ⟨q, 0, none⟩), .func (.func 65) #[.pointer (some ⟨p, 0, none⟩)] #[], .func (.func 66) #[] #[.pointer (some ⟨B2, 0, none⟩)]] w fun e w' => OutsPost (((M.others P).filter (fun i => !hasN P.acc (i : Nat))).map (fun i => (i, (askF P).by_ M.self))) w e w' := by
  obtain ⟨EX, hEX⟩ : ∃ EX, ((M.others P).filter (fun i => !hasN P.acc (i : Nat))).map (fun i => (i, (askF P).by_ M.self)) = EX := ⟨_, rfl⟩
  have HEX : Hid (((M.others P).filter (fun i => !hasN P.acc (i : Nat))).map (fun i => (i, (askF P).by_ M.self)) = EX) := hEX
  rw [hEX]
  clear hEX
  obtain ⟨_, hpe, hp⟩ := h.ownSome hM
  cases hpe
  obtain ⟨i0, hi0, hz0, hz1, hz2⟩ := info_parts info87z
  have hself16 : M.self < 16 := Nat.lt_of_lt_of_le h.sn h.n16
  have c8 := h.cell 8 (by omega)
  have c1 := h.cell 1 (by omega)
  unfold mcell at c8 c1
  unfold ptr at c8
  simp only [Option.map_some] at c8
  have hS : w.drew.cell? ⟨q, 8, none⟩ = some (.pointer (some ⟨p, 0, none⟩)) ∧ w.drew.cell? ⟨q, 1, none⟩ = some (.int .i64 (M.self : Nat)) ∧ w.drew.cell? ⟨p, 2, none⟩ = some (.int .u16 (P.set : Nat)) := ⟨c8, c1, hp.c2⟩
  have hwo := fun W => without_any W P.set hp.s16 ((M.self : Nat) : Int)
  have hw16 := withoutN_lt P.set hp.s16 ((M.self : Nat) : Int)
  have hli := list_any w.drew (withoutN P.set ((M.self : Nat) : Int)) hw16
  have HM : Hid (Mb w F Z q M (some p) ∧ Pb w F Z q p P ∧ w.cell? ⟨B2, 0, none⟩ = some (.pointer (some ⟨p, 0, none⟩))) := ⟨h, hp, b2⟩
  have HF : Hid (∀ b, F b → b < w.heap.size) := h.lt
  have HO : Hid (M.others P = nodes (withoutN P.set ((M.self : Nat) : Int)) 16) := rfl
  obtain ⟨L0, hL0⟩ : ∃ L0, nodes (withoutN P.set ((M.self : Nat) : Int)) 16 = L0 := ⟨_, rfl⟩
  obtain ⟨S0, hS0⟩ : ∃ S0, withoutN P.set ((M.self : Nat) : Int) = S0 := ⟨_, rfl⟩
  have HX : Hid (∀ k x, L0[k]? = some x → x < 16) := fun k x hk => nodes_lt (hL0 ▸ hk)
  rw [hL0] at HO hli
  rw [hS0] at hli hwo
  clear h hp c8 c1 hM hw16 hL0 hS0 b2
  go_enter Tryd.func62, Tryd.ntmps62
  go_wp2_with fail
  refine wp_region_noPanic ?_
  refine wp_region_held_drew (S := fun wx => wx.cell? ⟨q, 8, none⟩ = some (.pointer (some ⟨p, 0, none⟩)) ∧ wx.cell? ⟨q, 1, none⟩ = some (.int .i64 (M.self : Nat)) ∧ wx.cell? ⟨p, 2, none⟩ = some (.int .u16 (P.set : Nat))) (by kernel_rfl) hS (fun hHeld => ?_)
  refine take_first 0 (v := ?_) rfl (by kernel_rfl) (by kernel_rfl) (by kernel_rfl) (fun _ _ _ h => h) (Or.inl ⟨by rfl, by intro wx hSw; (try dsimp only at hSw); obtain ⟨a1, a2, a3⟩ := hSw; go_simp; try with_reducible rfl⟩) (by assumption) ?_
  (try simp only [Act.put, List.setIfInBounds_toArray, List.set_cons_zero, List.set_cons_succ])
  refine take_first 1 (v := ?_) rfl (by kernel_rfl) (by kernel_rfl) (by kernel_rfl) (fun _ _ _ h => h) (Or.inl ⟨by rfl, by intro wx hSw; (try dsimp only at hSw); obtain ⟨a1, a2, a3⟩ := hSw; go_simp; try with_reducible rfl⟩) (by assumption) ?_
  (try simp only [Act.put, List.setIfInBounds_toArray, List.set_cons_zero, List.set_cons_succ])
  refine take_first 2 (v := ?_) rfl (by kernel_rfl) (by kernel_rfl) (by kernel_rfl) (fun _ _ _ h => h) (Or.inl ⟨by rfl, by intro wx hSw; (try dsimp only at hSw); obtain ⟨a1, a2, a3⟩ := hSw; go_simp; try with_reducible rfl⟩) (by assumption) ?_
  (try simp only [Act.put, List.setIfInBounds_toArray, List.set_cons_zero, List.set_cons_succ])
  refine take_first 3 (v := ?_) rfl (by kernel_rfl) (by kernel_rfl) (by kernel_rfl) (fun _ _ _ h => h) (Or.inl ⟨by rfl, by intro wx hSw; (try dsimp only at hSw); obtain ⟨a1, a2, a3⟩ := hSw; go_simp; try with_reducible rfl⟩) (by assumption) ?_
  (try simp only [Act.put, List.setIfInBounds_toArray, List.set_cons_zero, List.set_cons_succ])
  refine take_first 4 (v := ?_) rfl (by kernel_rfl) (by kernel_rfl) (by kernel_rfl) (fun _ _ _ h => h) (Or.inl ⟨by rfl, by intro wx hSw; (try dsimp only at hSw); obtain ⟨a1, a2, a3⟩ := hSw; go_simp; try with_reducible rfl⟩) (by assumption) ?_
  (try simp only [Act.put, List.setIfInBounds_toArray, List.set_cons_zero, List.set_cons_succ])
  refine take_first 5 (v := ?_) rfl (by kernel_rfl) (by kernel_rfl) (by kernel_rfl) (fun _ _ _ h => h) (Or.inl ⟨by rfl, by intro wx hSw; (try dsimp only at hSw); obtain ⟨a1, a2, a3⟩ := hSw; go_simp; try with_reducible rfl⟩) (by assumption) ?_
  (try simp only [Act.put, List.setIfInBounds_toArray, List.set_cons_zero, List.set_cons_succ])
  refine take_first 6 (v := ?_) rfl (by kernel_rfl) (by kernel_rfl) (by kernel_rfl) (fun _ _ _ h => h) (Or.inl ⟨by rfl, by intro wx hSw; (try dsimp only at hSw); obtain ⟨a1, a2, a3⟩ := hSw; go_simp; try with_reducible rfl⟩) (by assumption) ?_
  (try simp only [Act.put, List.setIfInBounds_toArray, List.set_cons_zero, List.set_cons_succ])
  refine take_first 7 (v := ?_) rfl (by kernel_rfl) (by kernel_rfl) (by kernel_rfl) (fun _ _ _ h => h) (Or.inl ⟨by rfl, by intro wx hSw; (try dsimp only at hSw); obtain ⟨a1, a2, a3⟩ := hSw; go_simp; try with_reducible rfl⟩) (by assumption) ?_
  (try simp only [Act.put, List.setIfInBounds_toArray, List.set_cons_zero, List.set_cons_succ])
  refine take_first 8 (v := ?_) rfl (by kernel_rfl) (by kernel_rfl) (by kernel_rfl) (fun _ _ _ h => h) (Or.inl ⟨by rfl, by intro wx hSw; (try dsimp only at hSw); obtain ⟨a1, a2, a3⟩ := hSw; go_simp; try with_reducible rfl⟩) (by assumption) ?_
  (try simp only [Act.put, List.setIfInBounds_toArray, List.set_cons_zero, List.set_cons_succ])
  refine take_first 9 (v := ?_) rfl (by kernel_rfl) (by kernel_rfl) (by kernel_rfl) (fun _ _ _ h => h) (Or.inl ⟨by rfl, by intro wx hSw; (try dsimp only at hSw); obtain ⟨a1, a2, a3⟩ := hSw; go_simp; try with_reducible rfl⟩) (by assumption) ?_
  (try simp only [Act.put, List.setIfInBounds_toArray, List.set_cons_zero, List.set_cons_succ])
  refine take_first 10 (v := ?_) rfl (by kernel_rfl) (by kernel_rfl) (by kernel_rfl) (fun _ _ _ h => h) (Or.inl ⟨by rfl, by intro wx hSw; (try dsimp only at hSw); obtain ⟨a1, a2, a3⟩ := hSw; go_simp; try with_reducible rfl⟩) (by assumption) ?_
  (try simp only [Act.put, List.setIfInBounds_toArray, List.set_cons_zero, List.set_cons_succ])
  refine take_first 11 (v := ?_) rfl (by kernel_rfl) (by kernel_rfl) (by kernel_rfl) (fun _ _ _ h => h) (Or.inl ⟨by rfl, by intro wx hSw; (try dsimp only at hSw); obtain ⟨a1, a2, a3⟩ := hSw; go_simp; try with_reducible rfl⟩) (by assumption) ?_
  (try simp only [Act.put, List.setIfInBounds_toArray, List.set_cons_zero, List.set_cons_succ])
  refine take_first 15 (v := ?_) rfl (by kernel_rfl) (by kernel_rfl) (by kernel_rfl) (fun _ _ _ h => h) (Or.inl ⟨by rfl, by intro wx hSw; (try dsimp only at hSw); obtain ⟨a1, a2, a3⟩ := hSw; go_simp; try with_reducible rfl⟩) (by assumption) ?_
  (try simp only [Act.put, List.setIfInBounds_toArray, List.set_cons_zero, List.set_cons_succ])
  refine comes_up 12 rfl (by kernel_rfl) (fun K hK => ?_)
  go_simp
  refine (hwo _).mono ?_
  rintro e w1 ⟨rfl, rfl⟩
  go_wp2_with fail
  refine hK.out _ _ hS (fun hHeld => ?_)
  clear hK K
  (try simp only [Act.put, List.setIfInBounds_toArray, List.set_cons_zero, List.set_cons_succ])
  refine comes_up 13 rfl (by kernel_rfl) (fun K hK => ?_)
  go_simp
  refine hli.mono ?_
  rintro e w1 ⟨v1, rfl, hown1, hb1⟩
  obtain ⟨hn1, ao1, cap1, rfl, hat1⟩ := ints_at hown1
  have hS1 : w1.cell? ⟨q, 8, none⟩ = some (.pointer (some ⟨p, 0, none⟩)) ∧ w1.cell? ⟨q, 1, none⟩ = some (.int .i64 (M.self : Nat)) ∧ w1.cell? ⟨p, 2, none⟩ = some (.int .u16 (P.set : Nat)) := ⟨bl_cell hb1 hS.1, bl_cell hb1 hS.2.1, bl_cell hb1 hS.2.2⟩
  obtain ⟨n, hn⟩ : ∃ n, cntF 16 S0 = n := ⟨_, rfl⟩
  rw [hn] at hn1 hown1
  have hn16 : n ≤ 16 := by rw [← hn]; exact cntF_le 16 S0
  have HN : Hid (L0.length = n) := hn1.symm
  have HA : Hid (∀ k x, L0[k]? = some x → ∃ g, ao1 = some ⟨g, 0, none⟩ ∧ w1.cell? ⟨g, k, none⟩ = some (.int .i64 (x : Nat))) := fun k x hk => by
    obtain ⟨g, e1, _, _, e2⟩ := hat1 k x hk
    exact ⟨g, e1, e2⟩
  have HB : Hid (Below w.heap.size w w1) := bl_step ((Below.refl _ w).drew) hb1
  rw [hn]
  clear hli hwo hown1 hat1 hb1 hn1 hS hn
  go_wp2_with fail
  refine hK.out _ _ hS1 (fun hHeld => ?_)
  clear hK K
  (try simp only [Act.put, List.setIfInBounds_toArray, List.set_cons_zero, List.set_cons_succ])
  refine take_first 14 (v := ?_) rfl (by kernel_rfl) (by kernel_rfl) (by kernel_rfl) (fun _ _ _ h => h) (Or.inl ⟨by rfl, by intro wx hSw; (try dsimp only at hSw); obtain ⟨a1, a2, a3⟩ := hSw; go_simp; try with_reducible rfl⟩) (by assumption) ?_
  (try simp only [Act.put, List.setIfInBounds_toArray, List.set_cons_zero, List.set_cons_succ])
  refine wpAnyH_done (by kernel_rfl) ?_ _
  refine NoPanic.normal ?_
  clear hS1
  go_wp2_with fail
  go_loopw [7, 9, 25] (fun lv _ kv wr => ∃ (k : Nat) (L : List Ox) (v : Value), k ≤ n ∧ kv = .int .i64 (k : Nat) ∧ lv = v ∧ plainO L = ((L0.take k).filter (fun i => !hasN P.acc (i : Nat))).map (fun i => (i, (askF P).by_ M.self)) ∧ L.length ≤ k ∧ wr.ownsRow w1.heap.size 87 16 v L.length (flatO L) ∧ OIn (fun b => w1.heap.size ≤ b ∧ v.ownBlock ≠ some b) wr L ∧ Below w1.heap.size w1 wr) (fun _ _ kv _ => n - (intOf kv).toNat)
  case atStart => exact ⟨0, [], _, by omega, rfl, rfl, rfl, Nat.le_refl _, World.ownsRow_nil _ _ _ _, (fun x hx => by cases hx), Below.refl _ _⟩
  case round =>
    obtain ⟨k, L, lv, hk, rfl, hlv, hpl, hLk, hown, hin, hb⟩ := hrel
    replace hlv := hlv.symm
    subst hlv
    have HL : Hid (plainO L = ((L0.take k).filter (fun i => !hasN P.acc (i : Nat))).map (fun i => (i, (askF P).by_ M.self)) ∧ wr.ownsRow w1.heap.size 87 16 lv L.length (flatO L) ∧ OIn (fun b => w1.heap.size ≤ b ∧ lv.ownBlock ≠ some b) wr L ∧ Below w1.heap.size w1 wr) := ⟨hpl, hown, hin, hb⟩
    by_cases hlt : k < n
    · have hltI : (k : Int) < (n : Int) := by omega
      have hkL : k < L0.length := by rw [HN.out]; exact hlt
      obtain ⟨t, ht⟩ : ∃ t, L0[k]? = some t := ⟨L0[k]'hkL, List.getElem?_eq_getElem hkL⟩
      obtain ⟨g, hg, hc⟩ := HA.out k t ht
      subst hg
      have ht16 := HX.out k t ht
      have hc' := bl_cell hb hc
      have HT : Hid (L0.take (k + 1) = L0.take k ++ [t]) := by unfold Hid; rw [List.take_add_one, ht]; rfl
      have hbw := bl_step HB.out hb
      have hmb := HM.out.1.still hbw
      have hpb := (HM.out.2.1.frame (w' := wr) (Z' := Z) (fun b hbb => hbw.block b (HF.out b hbb)) (Kp.up hbw) (fun _ h => h))
      have hpk := remind2_any hpb B2 (bl_cell hbw HM.out.2.2) t
      have hk0 : ¬ ((k : Int) < 0) := by omega
      obtain ⟨r, hr⟩ : ∃ r : Bool, (!hasN P.acc (t : Nat)) = r := ⟨_, rfl⟩
      have HR : Hid ((!hasN P.acc (t : Nat)) = r) := hr
      (try rw [hr] at hpk)
      clear hpl hin hb hkL ht hc hr hbw
      cases r with
      | false =>
        clear hown hmb hpb
        go_wp2_with fail
        refine hpk.mono ?_
        rintro e w2 ⟨rfl, b2⟩
        have HE : Hid (∃ L', plainO L' = ((L0.take (k + 1)).filter (fun i => !hasN P.acc (i : Nat))).map (fun i => (i, (askF P).by_ M.self)) ∧ L'.length ≤ k + 1 ∧ w2.ownsRow w1.heap.size 87 16 lv L'.length (flatO L') ∧ OIn (fun b => w1.heap.size ≤ b ∧ lv.ownBlock ≠ some b) w2 L' ∧ Below w1.heap.size w1 w2) := by
          obtain ⟨a1, a2, a3, a5⟩ := HL.out
          refine ⟨L, ?_, by omega, row_block a2 (fun b hb => b2.block b (a2.lt b hb).2), a3.keep (Kp.up b2), bl_step a5 b2⟩
          rw [HT.out, List.filter_append, List.map_append, ← a1]
          have hR := HR.out
          simp [List.filter, hR]
        clear hpk b2 HL hc'
        go_wp2_with fail
        go_roundw
        case rel =>
          obtain ⟨L', e1, e2, e3, e4, e5⟩ := HE.out
          first | exact ⟨k + 1, L', _, by omega, by go_num, rfl, e1, e2, e3, e4, e5⟩ | ((repeat apply Exists.intro); exact ⟨⟨k + 1, L', _, by omega, by go_num, rfl, e1, e2, e3, e4, e5⟩, rfl⟩)
        case measure => simp [intOf]; omega
      | true =>
        clear hmb hpb
        go_wp2_with fail
        refine hpk.mono ?_
        rintro e w2 ⟨rfl, b2⟩
        have hbw2 := bl_step (bl_step HB.out HL.out.2.2.2) b2
        have hpb2 := (HM.out.2.1.frame (w' := w2) (Z' := Z) (fun b hbb => hbw2.block b (HF.out b hbb)) (Kp.up hbw2) (fun _ h => h))
        have hmd := askA_any hpb2 (Nat.lt_of_lt_of_le (HF.out p hpb2.fp) hbw2.size)
        clear hpk hpb2
        go_wp2_with fail
        refine hmd.mono ?_
        rintro e w3 ⟨fa, rfl, hss, b3⟩
        have hbw3 := bl_step hbw2 b3
        have hou := out_any (HM.out.1.still hbw3) t (askF P) fa
        clear hmd hc'
        go_wp2_with fail
        refine hou.mono ?_
        rintro e w4 ⟨rfl, b4⟩
        have hown4 := row_block hown (fun b hb => (b4.block b (Nat.lt_of_lt_of_le (hown.lt b hb).2 (Nat.le_trans b2.size b3.size))).trans ((b3.block b (Nat.lt_of_lt_of_le (hown.lt b hb).2 b2.size)).trans (b2.block b (hown.lt b hb).2)))
        have hown5 := fun ob => hown4.alloc ob
        have HK : Hid (Ss (fun b => w2.heap.size ≤ b) w3 fa.so ((askF P)).st.length ((askF P)).st ∧ Below wr.heap.size wr w2 ∧ Below w2.heap.size w2 w3 ∧ Below w3.heap.size w3 w4 ∧ wr.ownsRow w1.heap.size 87 16 lv L.length (flatO L)) := ⟨hss, b2, b3, b4, hown⟩
        have hsz4 : w1.heap.size ≤ w4.heap.size := (bl_step (bl_step (bl_step HL.out.2.2.2 b2) b3) b4).size
        clear hou hss b2 b3 b4 hbw2 hbw3 hown hown4
        obtain ⟨nL, hnL⟩ : ∃ nL, L.length = nL := ⟨_, rfl⟩
        rw [hnL] at hown5 hLk
        have hnL16 : nL ≤ 16 := by omega
        have HNL : Hid (L.length = nL) := hnL
        clear hnL
        unfold oval ocells fcells
        obtain ⟨Fr, hFr⟩ : ∃ Fr, ((askF P)).by_ M.self = Fr := ⟨_, rfl⟩
        have HFR : Hid (((askF P)).by_ M.self = Fr) := hFr
        simp only [hFr]
        clear hFr
        go_wp2_with (at_builtin; refine wpList_append_own_at _ rfl _ _ 49 rfl w1.heap.size 87 i0 _ 16 176 und49 hi0 hz0 hz1 hz2 rfl (by decide) _ nL (flatO L) rfl ?d1 ⟨w4.heap.size, 0, none⟩ 1 1 (ocells t Fr fa) rfl ?d2 ?d3 ?d4 ?d6 ?d7 ?d8 ?_)
        case d1 => exact hown5 _
        case d2 => rfl
        case d3 => exact fun j u hj => by rw [Addr.add_lit, Nat.zero_add]; exact cell_box w4 _ _ j u (by simpa [ocells, fcells] using hj)
        case d4 => exact ocells_one t Fr fa
        case d6 => unfold maxLen; omega
        case d7 => omega
        case d8 => simp; omega
        intro v' w5 hown6 hgrow hnil hat
        have HE : Hid (∃ L', plainO L' = ((L0.take (k + 1)).filter (fun i => !hasN P.acc (i : Nat))).map (fun i => (i, (askF P).by_ M.self)) ∧ L'.length ≤ k + 1 ∧ w5.ownsRow w1.heap.size 87 16 v' L'.length (flatO L') ∧ OIn (fun b => w1.heap.size ≤ b ∧ v'.ownBlock ≠ some b) w5 L' ∧ Below w1.heap.size w1 w5) := by
          obtain ⟨a1, a2, a3, a5⟩ := HL.out
          obtain ⟨k1, k2, k3, k4, k5⟩ := HK.out
          have hL := HNL.out
          have hres := row_more (w := w1) (w2 := w3) (v' := v') (t := t) (Fr := Fr) (a := fa) k5 a3 a5 (by rw [← HFR.out]; exact k1.imp (fun b _ hb => Nat.le_trans k2.size hb)) (bl_step k2 k3) k4 (by rw [hL]; exact hown6) hgrow (by simpa using hat)
          refine ⟨L ++ [(t, Fr, fa)], ?_, by rw [List.length_append, hL]; simp; omega, hres.1, hres.2.1, hres.2.2⟩
          rw [HT.out, List.filter_append, List.map_append, ← a1]
          have hR := HR.out
          simp [List.filter, hR, plainO, HFR.out]
        clear hown5 hown6 hgrow hnil hat HL HK HFR
        go_wp2_with fail
        go_roundw
        case rel =>
          obtain ⟨L', e1, e2, e3, e4, e5⟩ := HE.out
          first | exact ⟨k + 1, L', _, by omega, by go_num, rfl, e1, e2, e3, e4, e5⟩ | ((repeat apply Exists.intro); exact ⟨⟨k + 1, L', _, by omega, by go_num, rfl, e1, e2, e3, e4, e5⟩, rfl⟩)
        case measure => simp [intOf]; omega
    · obtain rfl : k = n := by omega
      have hfull : L0.take k = L0 := List.take_of_length_le (by rw [HN.out]; exact Nat.le_refl _)
      rw [hfull] at HL
      have hs1 := HB.out.size
      have HE : Hid (plainO L = EX ∧ wr.ownsRow w.heap.size 87 16 lv L.length (flatO L) ∧ OIn (fun b => w.heap.size ≤ b ∧ lv.ownBlock ≠ some b) wr L ∧ Below w.heap.size w wr) :=
        ⟨by rw [← HEX.out, HO.out]; exact HL.out.1, own_lower HL.out.2.1 hs1, HL.out.2.2.1.imp (fun b _ h => ⟨Nat.le_trans hs1 h.1, h.2⟩), bl_step HB.out HL.out.2.2.2⟩
      clear hpl hown hin hb HL
      go_wp2
      go_ret
      exact ⟨_, L, rfl, HE.out⟩

end
end Go.Proofs.YtlonbbepoamnmaaDoor
namespace Go.Proofs.YtlonbbepoamnmaaDoor
open Go.RowKit
set_option linter.unusedVariables false
section
variable {w : World} {F Z : Nat → Prop} {q p : Nat} {M : Mm} {P : Pp} {o : Option Nat}

set_option maxRecDepth 20000 in
set_option maxHeartbeats 2000000 in
theorem toOthersC_any (h : Mb w F Z q M (some p)) (hM : M.own = some P) (B1 B2 : Nat) (b1 : w.cell? ⟨B1, 0, none⟩ = some (.pointer (some ⟨q, 0, none⟩))) (b2 : w.cell? ⟨B2, 0, none⟩ = some (.pointer (some ⟨p, 0, none⟩))) :
    Calls Tryd.prog 62 #[.pointer (some ⟨q, 0, none⟩), .func (.func 63) #[.pointer (some ⟨p, 0, none⟩)] #[], .func (.func 64) #[] #[.pointer (some ⟨B1, 0, none⟩), .pointer (some ⟨B2, 0, none⟩)]] w fun e w' => OutsPost (((M.others P).filter (fun i => !decide ((M.told i).1 = P.id))).map (fun i => (i, (commitF P).by_ M.self))) w e w' := by
  obtain ⟨EX, hEX⟩ : ∃ EX, ((M.others P).filter (fun i => !decide ((M.told i).1 = P.id))).map (fun i => (i, (commitF P).by_ M.self)) = EX := ⟨_, rfl⟩
  have HEX : Hid (((M.others P).filter (fun i => !decide ((M.told i).1 = P.id))).map (fun i => (i, (commitF P).by_ M.self)) = EX) := hEX
  rw [hEX]
  clear hEX
  obtain ⟨_, hpe, hp⟩ := h.ownSome hM
  cases hpe
  obtain ⟨i0, hi0, hz0, hz1, hz2⟩ := info_parts info87z
  have hself16 : M.self < 16 := Nat.lt_of_lt_of_le h.sn h.n16
  have c8 := h.cell 8 (by omega)
  have c1 := h.cell 1 (by omega)
  unfold mcell at c8 c1
  unfold ptr at c8
  simp only [Option.map_some] at c8
  have hS : w.drew.cell? ⟨q, 8, none⟩ = some (.pointer (some ⟨p, 0, none⟩)) ∧ w.drew.cell? ⟨q, 1, none⟩ = some (.int .i64 (M.self : Nat)) ∧ w.drew.cell? ⟨p, 2, none⟩ = some (.int .u16 (P.set : Nat)) := ⟨c8, c1, hp.c2⟩
  have hwo := fun W => without_any W P.set hp.s16 ((M.self : Nat) : Int)
  have hw16 := withoutN_lt P.set hp.s16 ((M.self : Nat) : Int)
  have hli := list_any w.drew (withoutN P.set ((M.self : Nat) : Int)) hw16
  have HM : Hid (Mb w F Z q M (some p) ∧ Pb w F Z q p P ∧ w.cell? ⟨B1, 0, none⟩ = some (.pointer (some ⟨q, 0, none⟩)) ∧ w.cell? ⟨B2, 0, none⟩ = some (.pointer (some ⟨p, 0, none⟩))) := ⟨h, hp, b1, b2⟩
  have HF : Hid (∀ b, F b → b < w.heap.size) := h.lt
  have HO : Hid (M.others P = nodes (withoutN P.set ((M.self : Nat) : Int)) 16) := rfl
  obtain ⟨L0, hL0⟩ : ∃ L0, nodes (withoutN P.set ((M.self : Nat) : Int)) 16 = L0 := ⟨_, rfl⟩
  obtain ⟨S0, hS0⟩ : ∃ S0, withoutN P.set ((M.self : Nat) : Int) = S0 := ⟨_, rfl⟩
  have HX : Hid (∀ k x, L0[k]? = some x → x < 16) := fun k x hk => nodes_lt (hL0 ▸ hk)
  rw [hL0] at HO hli
  rw [hS0] at hli hwo
  clear h hp c8 c1 hM hw16 hL0 hS0 b1 b2
  go_enter Tryd.func62, Tryd.ntmps62
  go_wp2_with fail
  refine wp_region_noPanic ?_
  refine wp_region_held_drew (S := fun wx => wx.cell? ⟨q, 8, none⟩ = some (.pointer (some ⟨p, 0, none⟩)) ∧ wx.cell? ⟨q, 1, none⟩ = some (.int .i64 (M.self : Nat)) ∧ wx.cell? ⟨p, 2, none⟩ = some (.int .u16 (P.set : Nat))) (by kernel_rfl) hS (fun hHeld => ?_)
  refine take_first 0 (v := ?_) rfl (by kernel_rfl) (by kernel_rfl) (by kernel_rfl) (fun _ _ _ h => h) (Or.inl ⟨by rfl, by intro wx hSw; (try dsimp only at hSw); obtain ⟨a1, a2, a3⟩ := hSw; go_simp; try with_reducible rfl⟩) (by assumption) ?_
  (try simp only [Act.put, List.setIfInBounds_toArray, List.set_cons_zero, List.set_cons_succ])
  refine take_first 1 (v := ?_) rfl (by kernel_rfl) (by kernel_rfl) (by kernel_rfl) (fun _ _ _ h => h) (Or.inl ⟨by rfl, by intro wx hSw; (try dsimp only at hSw); obtain ⟨a1, a2, a3⟩ := hSw; go_simp; try with_reducible rfl⟩) (by assumption) ?_
  (try simp only [Act.put, List.setIfInBounds_toArray, List.set_cons_zero, List.set_cons_succ])
  refine take_first 2 (v := ?_) rfl (by kernel_rfl) (by kernel_rfl) (by kernel_rfl) (fun _ _ _ h => h) (Or.inl ⟨by rfl, by intro wx hSw; (try dsimp only at hSw); obtain ⟨a1, a2, a3⟩ := hSw; go_simp; try with_reducible rfl⟩) (by assumption) ?_
  (try simp only [Act.put, List.setIfInBounds_toArray, List.set_cons_zero, List.set_cons_succ])
  refine take_first 3 (v := ?_) rfl (by kernel_rfl) (by kernel_rfl) (by kernel_rfl) (fun _ _ _ h => h) (Or.inl ⟨by rfl, by intro wx hSw; (try dsimp only at hSw); obtain ⟨a1, a2, a3⟩ := hSw; go_simp; try with_reducible rfl⟩) (by assumption) ?_
  (try simp only [Act.put, List.setIfInBounds_toArray, List.set_cons_zero, List.set_cons_succ])
  refine take_first 4 (v := ?_) rfl (by kernel_rfl) (by kernel_rfl) (by kernel_rfl) (fun _ _ _ h => h) (Or.inl ⟨by rfl, by intro wx hSw; (try dsimp only at hSw); obtain ⟨a1, a2, a3⟩ := hSw; go_simp; try with_reducible rfl⟩) (by assumption) ?_
  (try simp only [Act.put, List.setIfInBounds_toArray, List.set_cons_zero, List.set_cons_succ])
  refine take_first 5 (v := ?_) rfl (by kernel_rfl) (by kernel_rfl) (by kernel_rfl) (fun _ _ _ h => h) (Or.inl ⟨by rfl, by intro wx hSw; (try dsimp only at hSw); obtain ⟨a1, a2, a3⟩ := hSw; go_simp; try with_reducible rfl⟩) (by assumption) ?_
  (try simp only [Act.put, List.setIfInBounds_toArray, List.set_cons_zero, List.set_cons_succ])
  refine take_first 6 (v := ?_) rfl (by kernel_rfl) (by kernel_rfl) (by kernel_rfl) (fun _ _ _ h => h) (Or.inl ⟨by rfl, by intro wx hSw; (try dsimp only at hSw); obtain ⟨a1, a2, a3⟩ := hSw; go_simp; try with_reducible rfl⟩) (by assumption) ?_
  (try simp only [Act.put, List.setIfInBounds_toArray, List.set_cons_zero, List.set_cons_succ])
  refine take_first 7 (v := ?_) rfl (by kernel_rfl) (by kernel_rfl) (by kernel_rfl) (fun _ _ _ h => h) (Or.inl ⟨by rfl, by intro wx hSw; (try dsimp only at hSw); obtain ⟨a1, a2, a3⟩ := hSw; go_simp; try with_reducible rfl⟩) (by assumption) ?_
  (try simp only [Act.put, List.setIfInBounds_toArray, List.set_cons_zero, List.set_cons_succ])
  refine take_first 8 (v := ?_) rfl (by kernel_rfl) (by kernel_rfl) (by kernel_rfl) (fun _ _ _ h => h) (Or.inl ⟨by rfl, by intro wx hSw; (try dsimp only at hSw); obtain ⟨a1, a2, a3⟩ := hSw; go_simp; try with_reducible rfl⟩) (by assumption) ?_
  (try simp only [Act.put, List.setIfInBounds_toArray, List.set_cons_zero, List.set_cons_succ])
  refine take_first 9 (v := ?_) rfl (by kernel_rfl) (by kernel_rfl) (by kernel_rfl) (fun _ _ _ h => h) (Or.inl ⟨by rfl, by intro wx hSw; (try dsimp only at hSw); obtain ⟨a1, a2, a3⟩ := hSw; go_simp; try with_reducible rfl⟩) (by assumption) ?_
  (try simp only [Act.put, List.setIfInBounds_toArray, List.set_cons_zero, List.set_cons_succ])
  refine take_first 10 (v := ?_) rfl (by kernel_rfl) (by kernel_rfl) (by kernel_rfl) (fun _ _ _ h => h) (Or.inl ⟨by rfl, by intro wx hSw; (try dsimp only at hSw); obtain ⟨a1, a2, a3⟩ := hSw; go_simp; try with_reducible rfl⟩) (by assumption) ?_
  (try simp only [Act.put, List.setIfInBounds_toArray, List.set_cons_zero, List.set_cons_succ])
  refine take_first 11 (v := ?_) rfl (by kernel_rfl) (by kernel_rfl) (by kernel_rfl) (fun _ _ _ h => h) (Or.inl ⟨by rfl, by intro wx hSw; (try dsimp only at hSw); obtain ⟨a1, a2, a3⟩ := hSw; go_simp; try with_reducible rfl⟩) (by assumption) ?_
  (try simp only [Act.put, List.setIfInBounds_toArray, List.set_cons_zero, List.set_cons_succ])
  refine take_first 15 (v := ?_) rfl (by kernel_rfl) (by kernel_rfl) (by kernel_rfl) (fun _ _ _ h => h) (Or.inl ⟨by rfl, by intro wx hSw; (try dsimp only at hSw); obtain ⟨a1, a2, a3⟩ := hSw; go_simp; try with_reducible rfl⟩) (by assumption) ?_
  (try simp only [Act.put, List.setIfInBounds_toArray, List.set_cons_zero, List.set_cons_succ])
  refine comes_up 12 rfl (by kernel_rfl) (fun K hK => ?_)
  go_simp
  refine (hwo _).mono ?_
  rintro e w1 ⟨rfl, rfl⟩
  go_wp2_with fail
  refine hK.out _ _ hS (fun hHeld => ?_)
  clear hK K
  (try simp only [Act.put, List.setIfInBounds_toArray, List.set_cons_zero, List.set_cons_succ])
  refine comes_up 13 rfl (by kernel_rfl) (fun K hK => ?_)
  go_simp
  refine hli.mono ?_
  rintro e w1 ⟨v1, rfl, hown1, hb1⟩
  obtain ⟨hn1, ao1, cap1, rfl, hat1⟩ := ints_at hown1
  have hS1 : w1.cell? ⟨q, 8, none⟩ = some (.pointer (some ⟨p, 0, none⟩)) ∧ w1.cell? ⟨q, 1, none⟩ = some (.int .i64 (M.self : Nat)) ∧ w1.cell? ⟨p, 2, none⟩ = some (.int .u16 (P.set : Nat)) := ⟨bl_cell hb1 hS.1, bl_cell hb1 hS.2.1, bl_cell hb1 hS.2.2⟩
  obtain ⟨n, hn⟩ : ∃ n, cntF 16 S0 = n := ⟨_, rfl⟩
  rw [hn] at hn1 hown1
  have hn16 : n ≤ 16 := by rw [← hn]; exact cntF_le 16 S0
  have HN : Hid (L0.length = n) := hn1.symm
  have HA : Hid (∀ k x, L0[k]? = some x → ∃ g, ao1 = some ⟨g, 0, none⟩ ∧ w1.cell? ⟨g, k, none⟩ = some (.int .i64 (x : Nat))) := fun k x hk => by
    obtain ⟨g, e1, _, _, e2⟩ := hat1 k x hk
    exact ⟨g, e1, e2⟩
  have HB : Hid (Below w.heap.size w w1) := bl_step ((Below.refl _ w).drew) hb1
  rw [hn]
  clear hli hwo hown1 hat1 hb1 hn1 hS hn
  go_wp2_with fail
  refine hK.out _ _ hS1 (fun hHeld => ?_)
  clear hK K
  (try simp only [Act.put, List.setIfInBounds_toArray, List.set_cons_zero, List.set_cons_succ])
  refine take_first 14 (v := ?_) rfl (by kernel_rfl) (by kernel_rfl) (by kernel_rfl) (fun _ _ _ h => h) (Or.inl ⟨by rfl, by intro wx hSw; (try dsimp only at hSw); obtain ⟨a1, a2, a3⟩ := hSw; go_simp; try with_reducible rfl⟩) (by assumption) ?_
  (try simp only [Act.put, List.setIfInBounds_toArray, List.set_cons_zero, List.set_cons_succ])
  refine wpAnyH_done (by kernel_rfl) ?_ _
  refine NoPanic.normal ?_
  clear hS1
  go_wp2_with fail
  go_loopw [7, 9, 25] (fun lv _ kv wr => ∃ (k : Nat) (L : List Ox) (v : Value), k ≤ n ∧ kv = .int .i64 (k : Nat) ∧ lv = v ∧ plainO L = ((L0.take k).filter (fun i => !decide ((M.told i).1 = P.id))).map (fun i => (i, (commitF P).by_ M.self)) ∧ L.length ≤ k ∧ wr.ownsRow w1.heap.size 87 16 v L.length (flatO L) ∧ OIn (fun b => w1.heap.size ≤ b ∧ v.ownBlock ≠ some b) wr L ∧ Below w1.heap.size w1 wr) (fun _ _ kv _ => n - (intOf kv).toNat)
  case atStart => exact ⟨0, [], _, by omega, rfl, rfl, rfl, Nat.le_refl _, World.ownsRow_nil _ _ _ _, (fun x hx => by cases hx), Below.refl _ _⟩
  case round =>
    obtain ⟨k, L, lv, hk, rfl, hlv, hpl, hLk, hown, hin, hb⟩ := hrel
    replace hlv := hlv.symm
    subst hlv
    have HL : Hid (plainO L = ((L0.take k).filter (fun i => !decide ((M.told i).1 = P.id))).map (fun i => (i, (commitF P).by_ M.self)) ∧ wr.ownsRow w1.heap.size 87 16 lv L.length (flatO L) ∧ OIn (fun b => w1.heap.size ≤ b ∧ lv.ownBlock ≠ some b) wr L ∧ Below w1.heap.size w1 wr) := ⟨hpl, hown, hin, hb⟩
    by_cases hlt : k < n
    · have hltI : (k : Int) < (n : Int) := by omega
      have hkL : k < L0.length := by rw [HN.out]; exact hlt
      obtain ⟨t, ht⟩ : ∃ t, L0[k]? = some t := ⟨L0[k]'hkL, List.getElem?_eq_getElem hkL⟩
      obtain ⟨g, hg, hc⟩ := HA.out k t ht
      subst hg
      have ht16 := HX.out k t ht
      have hc' := bl_cell hb hc
      have HT : Hid (L0.take (k + 1) = L0.take k ++ [t]) := by unfold Hid; rw [List.take_add_one, ht]; rfl
      have hbw := bl_step HB.out hb
      have hmb := HM.out.1.still hbw
      have hpb := (HM.out.2.1.frame (w' := wr) (Z' := Z) (fun b hbb => hbw.block b (HF.out b hbb)) (Kp.up hbw) (fun _ h => h))
      have hpk := remind1_any hmb hpb B1 B2 (bl_cell hbw HM.out.2.2.1) (bl_cell hbw HM.out.2.2.2) t ht16
      have hk0 : ¬ ((k : Int) < 0) := by omega
      obtain ⟨r, hr⟩ : ∃ r : Bool, (!decide ((M.told t).1 = P.id)) = r := ⟨_, rfl⟩
      have HR : Hid ((!decide ((M.told t).1 = P.id)) = r) := hr
      (try rw [hr] at hpk)
      clear hpl hin hb hkL ht hc hr hbw
      cases r with
      | false =>
        clear hown hmb hpb
        go_wp2_with fail
        refine hpk.mono ?_
        rintro e w2 ⟨rfl, b2⟩
        have HE : Hid (∃ L', plainO L' = ((L0.take (k + 1)).filter (fun i => !decide ((M.told i).1 = P.id))).map (fun i => (i, (commitF P).by_ M.self)) ∧ L'.length ≤ k + 1 ∧ w2.ownsRow w1.heap.size 87 16 lv L'.length (flatO L') ∧ OIn (fun b => w1.heap.size ≤ b ∧ lv.ownBlock ≠ some b) w2 L' ∧ Below w1.heap.size w1 w2) := by
          obtain ⟨a1, a2, a3, a5⟩ := HL.out
          refine ⟨L, ?_, by omega, row_block a2 (fun b hb => b2.block b (a2.lt b hb).2), a3.keep (Kp.up b2), bl_step a5 b2⟩
          rw [HT.out, List.filter_append, List.map_append, ← a1]
          have hR := HR.out
          simp [List.filter, hR]
        clear hpk b2 HL hc'
        go_wp2_with fail
        go_roundw
        case rel =>
          obtain ⟨L', e1, e2, e3, e4, e5⟩ := HE.out
          first | exact ⟨k + 1, L', _, by omega, by go_num, rfl, e1, e2, e3, e4, e5⟩ | ((repeat apply Exists.intro); exact ⟨⟨k + 1, L', _, by omega, by go_num, rfl, e1, e2, e3, e4, e5⟩, rfl⟩)
        case measure => simp [intOf]; omega
      | true =>
        clear hmb hpb
        go_wp2_with fail
        refine hpk.mono ?_
        rintro e w2 ⟨rfl, b2⟩
        have hbw2 := bl_step (bl_step HB.out HL.out.2.2.2) b2
        have hpb2 := (HM.out.2.1.frame (w' := w2) (Z' := Z) (fun b hbb => hbw2.block b (HF.out b hbb)) (Kp.up hbw2) (fun _ h => h))
        have hmd := commitA_any hpb2 (fun b hb => Nat.lt_of_lt_of_le (HF.out b hb) hbw2.size) (fun b hb => Nat.lt_of_lt_of_le (HM.out.1.zl b hb) hbw2.size)
        clear hpk hpb2
        go_wp2_with fail
        refine hmd.mono ?_
        rintro e w3 ⟨fa, rfl, hss, b3⟩
        have hbw3 := bl_step hbw2 b3
        have hou := out_any (HM.out.1.still hbw3) t (commitF P) fa
        clear hmd hc'
        go_wp2_with fail
        refine hou.mono ?_
        rintro e w4 ⟨rfl, b4⟩
        have hown4 := row_block hown (fun b hb => (b4.block b (Nat.lt_of_lt_of_le (hown.lt b hb).2 (Nat.le_trans b2.size b3.size))).trans ((b3.block b (Nat.lt_of_lt_of_le (hown.lt b hb).2 b2.size)).trans (b2.block b (hown.lt b hb).2)))
        have hown5 := fun ob => hown4.alloc ob
        have HK : Hid (Ss (fun b => w2.heap.size ≤ b) w3 fa.so ((commitF P)).st.length ((commitF P)).st ∧ Below wr.heap.size wr w2 ∧ Below w2.heap.size w2 w3 ∧ Below w3.heap.size w3 w4 ∧ wr.ownsRow w1.heap.size 87 16 lv L.length (flatO L)) := ⟨hss, b2, b3, b4, hown⟩
        have hsz4 : w1.heap.size ≤ w4.heap.size := (bl_step (bl_step (bl_step HL.out.2.2.2 b2) b3) b4).size
        clear hou hss b2 b3 b4 hbw2 hbw3 hown hown4
        obtain ⟨nL, hnL⟩ : ∃ nL, L.length = nL := ⟨_, rfl⟩
        rw [hnL] at hown5 hLk
        have hnL16 : nL ≤ 16 := by omega
        have HNL : Hid (L.length = nL) := hnL
        clear hnL
        unfold oval ocells fcells
        obtain ⟨Fr, hFr⟩ : ∃ Fr, ((commitF P)).by_ M.self = Fr := ⟨_, rfl⟩
        have HFR : Hid (((commitF P)).by_ M.self = Fr) := hFr
        simp only [hFr]
        clear hFr
        go_wp2_with (at_builtin; refine wpList_append_own_at _ rfl _ _ 49 rfl w1.heap.size 87 i0 _ 16 176 und49 hi0 hz0 hz1 hz2 rfl (by decide) _ nL (flatO L) rfl ?d1 ⟨w4.heap.size, 0, none⟩ 1 1 (ocells t Fr fa) rfl ?d2 ?d3 ?d4 ?d6 ?d7 ?d8 ?_)
        case d1 => exact hown5 _
        case d2 => rfl
        case d3 => exact fun j u hj => by rw [Addr.add_lit, Nat.zero_add]; exact cell_box w4 _ _ j u (by simpa [ocells, fcells] using hj)
        case d4 => exact ocells_one t Fr fa
        case d6 => unfold maxLen; omega
        case d7 => omega
        case d8 => simp; omega
        intro v' w5 hown6 hgrow hnil hat
        have HE : Hid (∃ L', plainO L' = ((L0.take (k + 1)).filter (fun i => !decide ((M.told i).1 = P.id))).map (fun i => (i, (commitF P).by_ M.self)) ∧ L'.length ≤ k + 1 ∧ w5.ownsRow w1.heap.size 87 16 v' L'.length (flatO L') ∧ OIn (fun b => w1.heap.size ≤ b ∧ v'.ownBlock ≠ some b) w5 L' ∧ Below w1.heap.size w1 w5) := by
          obtain ⟨a1, a2, a3, a5⟩ := HL.out
          obtain ⟨k1, k2, k3, k4, k5⟩ := HK.out
          have hL := HNL.out
          have hres := row_more (w := w1) (w2 := w3) (v' := v') (t := t) (Fr := Fr) (a := fa) k5 a3 a5 (by rw [← HFR.out]; exact k1.imp (fun b _ hb => Nat.le_trans k2.size hb)) (bl_step k2 k3) k4 (by rw [hL]; exact hown6) hgrow (by simpa using hat)
          refine ⟨L ++ [(t, Fr, fa)], ?_, by rw [List.length_append, hL]; simp; omega, hres.1, hres.2.1, hres.2.2⟩
          rw [HT.out, List.filter_append, List.map_append, ← a1]
          have hR := HR.out
          simp [List.filter, hR, plainO, HFR.out]
        clear hown5 hown6 hgrow hnil hat HL HK HFR
        go_wp2_with fail
        go_roundw
        case rel =>
          obtain ⟨L', e1, e2, e3, e4, e5⟩ := HE.out
          first | exact ⟨k + 1, L', _, by omega, by go_num, rfl, e1, e2, e3, e4, e5⟩ | ((repeat apply Exists.intro); exact ⟨⟨k + 1, L', _, by omega, by go_num, rfl, e1, e2, e3, e4, e5⟩, rfl⟩)
        case measure => simp [intOf]; omega
    · obtain rfl : k = n := by omega
      have hfull : L0.take k = L0 := List.take_of_length_le (by rw [HN.out]; exact Nat.le_refl _)
      rw [hfull] at HL
      have hs1 := HB.out.size
      have HE : Hid (plainO L = EX ∧ wr.ownsRow w.heap.size 87 16 lv L.length (flatO L) ∧ OIn (fun b => w.heap.size ≤ b ∧ lv.ownBlock ≠ some b) wr L ∧ Below w.heap.size w wr) :=
        ⟨by rw [← HEX.out, HO.out]; exact HL.out.1, own_lower HL.out.2.1 hs1, HL.out.2.2.1.imp (fun b _ h => ⟨Nat.le_trans hs1 h.1, h.2⟩), bl_step HB.out HL.out.2.2.2⟩
      clear hpl hown hin hb HL
      go_wp2
      go_ret
      exact ⟨_, L, rfl, HE.out⟩

end
end Go.Proofs.YtlonbbepoamnmaaDoor
namespace Go.Proofs.YtlonbbepoamnmaaDoor
open Go.RowKit
set_option linter.unusedVariables false
section
variable {w : World} {F Z : Nat → Prop} {q p : Nat} {M : Mm} {P : Pp} {o : Option Nat}

set_option maxRecDepth 20000 in
set_option maxHeartbeats 2000000 in
theorem toOthersD_any (h : Mb w F Z q M (some p)) (hM : M.own = some P)  :
    Calls Tryd.prog 62 #[.pointer (some ⟨q, 0, none⟩), .func (.func 63) #[.pointer (some ⟨p, 0, none⟩)] #[], .func (.func 75) #[] #[]] w fun e w' => OutsPost (((M.others P).filter (fun i => (fun _ => true) i)).map (fun i => (i, (commitF P).by_ M.self))) w e w' := by
  obtain ⟨EX, hEX⟩ : ∃ EX, ((M.others P).filter (fun i => (fun _ => true) i)).map (fun i => (i, (commitF P).by_ M.self)) = EX := ⟨_, rfl⟩
  have HEX : Hid (((M.others P).filter (fun i => (fun _ => true) i)).map (fun i => (i, (commitF P).by_ M.self)) = EX) := hEX
  rw [hEX]
  clear hEX
  obtain ⟨_, hpe, hp⟩ := h.ownSome hM
  cases hpe
  obtain ⟨i0, hi0, hz0, hz1, hz2⟩ := info_parts info87z
  have hself16 : M.self < 16 := Nat.lt_of_lt_of_le h.sn h.n16
  have c8 := h.cell 8 (by omega)
  have c1 := h.cell 1 (by omega)
  unfold mcell at c8 c1
  unfold ptr at c8
  simp only [Option.map_some] at c8
  have hS : w.drew.cell? ⟨q, 8, none⟩ = some (.pointer (some ⟨p, 0, none⟩)) ∧ w.drew.cell? ⟨q, 1, none⟩ = some (.int .i64 (M.self : Nat)) ∧ w.drew.cell? ⟨p, 2, none⟩ = some (.int .u16 (P.set : Nat)) := ⟨c8, c1, hp.c2⟩
  have hwo := fun W => without_any W P.set hp.s16 ((M.self : Nat) : Int)
  have hw16 := withoutN_lt P.set hp.s16 ((M.self : Nat) : Int)
  have hli := list_any w.drew (withoutN P.set ((M.self : Nat) : Int)) hw16
  have HM : Hid (Mb w F Z q M (some p) ∧ Pb w F Z q p P ∧ True) := ⟨h, hp, trivial⟩
  have HF : Hid (∀ b, F b → b < w.heap.size) := h.lt
  have HO : Hid (M.others P = nodes (withoutN P.set ((M.self : Nat) : Int)) 16) := rfl
  obtain ⟨L0, hL0⟩ : ∃ L0, nodes (withoutN P.set ((M.self : Nat) : Int)) 16 = L0 := ⟨_, rfl⟩
  obtain ⟨S0, hS0⟩ : ∃ S0, withoutN P.set ((M.self : Nat) : Int) = S0 := ⟨_, rfl⟩
  have HX : Hid (∀ k x, L0[k]? = some x → x < 16) := fun k x hk => nodes_lt (hL0 ▸ hk)
  rw [hL0] at HO hli
  rw [hS0] at hli hwo
  clear h hp c8 c1 hM hw16 hL0 hS0
  go_enter Tryd.func62, Tryd.ntmps62
  go_wp2_with fail
  refine wp_region_noPanic ?_
  refine wp_region_held_drew (S := fun wx => wx.cell? ⟨q, 8, none⟩ = some (.pointer (some ⟨p, 0, none⟩)) ∧ wx.cell? ⟨q, 1, none⟩ = some (.int .i64 (M.self : Nat)) ∧ wx.cell? ⟨p, 2, none⟩ = some (.int .u16 (P.set : Nat))) (by kernel_rfl) hS (fun hHeld => ?_)
  refine take_first 0 (v := ?_) rfl (by kernel_rfl) (by kernel_rfl) (by kernel_rfl) (fun _ _ _ h => h) (Or.inl ⟨by rfl, by intro wx hSw; (try dsimp only at hSw); obtain ⟨a1, a2, a3⟩ := hSw; go_simp; try with_reducible rfl⟩) (by assumption) ?_
  (try simp only [Act.put, List.setIfInBounds_toArray, List.set_cons_zero, List.set_cons_succ])
  refine take_first 1 (v := ?_) rfl (by kernel_rfl) (by kernel_rfl) (by kernel_rfl) (fun _ _ _ h => h) (Or.inl ⟨by rfl, by intro wx hSw; (try dsimp only at hSw); obtain ⟨a1, a2, a3⟩ := hSw; go_simp; try with_reducible rfl⟩) (by assumption) ?_
  (try simp only [Act.put, List.setIfInBounds_toArray, List.set_cons_zero, List.set_cons_succ])
  refine take_first 2 (v := ?_) rfl (by kernel_rfl) (by kernel_rfl) (by kernel_rfl) (fun _ _ _ h => h) (Or.inl ⟨by rfl, by intro wx hSw; (try dsimp only at hSw); obtain ⟨a1, a2, a3⟩ := hSw; go_simp; try with_reducible rfl⟩) (by assumption) ?_
  (try simp only [Act.put, List.setIfInBounds_toArray, List.set_cons_zero, List.set_cons_succ])
  refine take_first 3 (v := ?_) rfl (by kernel_rfl) (by kernel_rfl) (by kernel_rfl) (fun _ _ _ h => h) (Or.inl ⟨by rfl, by intro wx hSw; (try dsimp only at hSw); obtain ⟨a1, a2, a3⟩ := hSw; go_simp; try with_reducible rfl⟩) (by assumption) ?_
  (try simp only [Act.put, List.setIfInBounds_toArray, List.set_cons_zero, List.set_cons_succ])
  refine take_first 4 (v := ?_) rfl (by kernel_rfl) (by kernel_rfl) (by kernel_rfl) (fun _ _ _ h => h) (Or.inl ⟨by rfl, by intro wx hSw; (try dsimp only at hSw); obtain ⟨a1, a2, a3⟩ := hSw; go_simp; try with_reducible rfl⟩) (by assumption) ?_
  (try simp only [Act.put, List.setIfInBounds_toArray, List.set_cons_zero, List.set_cons_succ])
  refine take_first 5 (v := ?_) rfl (by kernel_rfl) (by kernel_rfl) (by kernel_rfl) (fun _ _ _ h => h) (Or.inl ⟨by rfl, by intro wx hSw; (try dsimp only at hSw); obtain ⟨a1, a2, a3⟩ := hSw; go_simp; try with_reducible rfl⟩) (by assumption) ?_
  (try simp only [Act.put, List.setIfInBounds_toArray, List.set_cons_zero, List.set_cons_succ])
  refine take_first 6 (v := ?_) rfl (by kernel_rfl) (by kernel_rfl) (by kernel_rfl) (fun _ _ _ h => h) (Or.inl ⟨by rfl, by intro wx hSw; (try dsimp only at hSw); obtain ⟨a1, a2, a3⟩ := hSw; go_simp; try with_reducible rfl⟩) (by assumption) ?_
  (try simp only [Act.put, List.setIfInBounds_toArray, List.set_cons_zero, List.set_cons_succ])
  refine take_first 7 (v := ?_) rfl (by kernel_rfl) (by kernel_rfl) (by kernel_rfl) (fun _ _ _ h => h) (Or.inl ⟨by rfl, by intro wx hSw; (try dsimp only at hSw); obtain ⟨a1, a2, a3⟩ := hSw; go_simp; try with_reducible rfl⟩) (by assumption) ?_
  (try simp only [Act.put, List.setIfInBounds_toArray, List.set_cons_zero, List.set_cons_succ])
  refine take_first 8 (v := ?_) rfl (by kernel_rfl) (by kernel_rfl) (by kernel_rfl) (fun _ _ _ h => h) (Or.inl ⟨by rfl, by intro wx hSw; (try dsimp only at hSw); obtain ⟨a1, a2, a3⟩ := hSw; go_simp; try with_reducible rfl⟩) (by assumption) ?_
  (try simp only [Act.put, List.setIfInBounds_toArray, List.set_cons_zero, List.set_cons_succ])
  refine take_first 9 (v := ?_) rfl (by kernel_rfl) (by kernel_rfl) (by kernel_rfl) (fun _ _ _ h => h) (Or.inl ⟨by rfl, by intro wx hSw; (try dsimp only at hSw); obtain ⟨a1, a2, a3⟩ := hSw; go_simp; try with_reducible rfl⟩) (by assumption) ?_
  (try simp only [Act.put, List.setIfInBounds_toArray, List.set_cons_zero, List.set_cons_succ])
  refine take_first 10 (v := ?_) rfl (by kernel_rfl) (by kernel_rfl) (by kernel_rfl) (fun _ _ _ h => h) (Or.inl ⟨by rfl, by intro wx hSw; (try dsimp only at hSw); obtain ⟨a1, a2, a3⟩ := hSw; go_simp; try with_reducible rfl⟩) (by assumption) ?_
  (try simp only [Act.put, List.setIfInBounds_toArray, List.set_cons_zero, List.set_cons_succ])
  refine take_first 11 (v := ?_) rfl (by kernel_rfl) (by kernel_rfl) (by kernel_rfl) (fun _ _ _ h => h) (Or.inl ⟨by rfl, by intro wx hSw; (try dsimp only at hSw); obtain ⟨a1, a2, a3⟩ := hSw; go_simp; try with_reducible rfl⟩) (by assumption) ?_
  (try simp only [Act.put, List.setIfInBounds_toArray, List.set_cons_zero, List.set_cons_succ])
  refine take_first 15 (v := ?_) rfl (by kernel_rfl) (by kernel_rfl) (by kernel_rfl) (fun _ _ _ h => h) (Or.inl ⟨by rfl, by intro wx hSw; (try dsimp only at hSw); obtain ⟨a1, a2, a3⟩ := hSw; go_simp; try with_reducible rfl⟩) (by assumption) ?_
  (try simp only [Act.put, List.setIfInBounds_toArray, List.set_cons_zero, List.set_cons_succ])
  refine comes_up 12 rfl (by kernel_rfl) (fun K hK => ?_)
  go_simp
  refine (hwo _).mono ?_
  rintro e w1 ⟨rfl, rfl⟩
  go_wp2_with fail
  refine hK.out _ _ hS (fun hHeld => ?_)
  clear hK K
  (try simp only [Act.put, List.setIfInBounds_toArray, List.set_cons_zero, List.set_cons_succ])
  refine comes_up 13 rfl (by kernel_rfl) (fun K hK => ?_)
  go_simp
  refine hli.mono ?_
  rintro e w1 ⟨v1, rfl, hown1, hb1⟩
  obtain ⟨hn1, ao1, cap1, rfl, hat1⟩ := ints_at hown1
  have hS1 : w1.cell? ⟨q, 8, none⟩ = some (.pointer (some ⟨p, 0, none⟩)) ∧ w1.cell? ⟨q, 1, none⟩ = some (.int .i64 (M.self : Nat)) ∧ w1.cell? ⟨p, 2, none⟩ = some (.int .u16 (P.set : Nat)) := ⟨bl_cell hb1 hS.1, bl_cell hb1 hS.2.1, bl_cell hb1 hS.2.2⟩
  obtain ⟨n, hn⟩ : ∃ n, cntF 16 S0 = n := ⟨_, rfl⟩
  rw [hn] at hn1 hown1
  have hn16 : n ≤ 16 := by rw [← hn]; exact cntF_le 16 S0
  have HN : Hid (L0.length = n) := hn1.symm
  have HA : Hid (∀ k x, L0[k]? = some x → ∃ g, ao1 = some ⟨g, 0, none⟩ ∧ w1.cell? ⟨g, k, none⟩ = some (.int .i64 (x : Nat))) := fun k x hk => by
    obtain ⟨g, e1, _, _, e2⟩ := hat1 k x hk
    exact ⟨g, e1, e2⟩
  have HB : Hid (Below w.heap.size w w1) := bl_step ((Below.refl _ w).drew) hb1
  rw [hn]
  clear hli hwo hown1 hat1 hb1 hn1 hS hn
  go_wp2_with fail
  refine hK.out _ _ hS1 (fun hHeld => ?_)
  clear hK K
  (try simp only [Act.put, List.setIfInBounds_toArray, List.set_cons_zero, List.set_cons_succ])
  refine take_first 14 (v := ?_) rfl (by kernel_rfl) (by kernel_rfl) (by kernel_rfl) (fun _ _ _ h => h) (Or.inl ⟨by rfl, by intro wx hSw; (try dsimp only at hSw); obtain ⟨a1, a2, a3⟩ := hSw; go_simp; try with_reducible rfl⟩) (by assumption) ?_
  (try simp only [Act.put, List.setIfInBounds_toArray, List.set_cons_zero, List.set_cons_succ])
  refine wpAnyH_done (by kernel_rfl) ?_ _
  refine NoPanic.normal ?_
  clear hS1
  go_wp2_with fail
  go_loopw [7, 9, 25] (fun lv _ kv wr => ∃ (k : Nat) (L : List Ox) (v : Value), k ≤ n ∧ kv = .int .i64 (k : Nat) ∧ lv = v ∧ plainO L = ((L0.take k).filter (fun i => (fun _ => true) i)).map (fun i => (i, (commitF P).by_ M.self)) ∧ L.length ≤ k ∧ wr.ownsRow w1.heap.size 87 16 v L.length (flatO L) ∧ OIn (fun b => w1.heap.size ≤ b ∧ v.ownBlock ≠ some b) wr L ∧ Below w1.heap.size w1 wr) (fun _ _ kv _ => n - (intOf kv).toNat)
  case atStart => exact ⟨0, [], _, by omega, rfl, rfl, rfl, Nat.le_refl _, World.ownsRow_nil _ _ _ _, (fun x hx => by cases hx), Below.refl _ _⟩
  case round =>
    obtain ⟨k, L, lv, hk, rfl, hlv, hpl, hLk, hown, hin, hb⟩ := hrel
    replace hlv := hlv.symm
    subst hlv
    have HL : Hid (plainO L = ((L0.take k).filter (fun i => (fun _ => true) i)).map (fun i => (i, (commitF P).by_ M.self)) ∧ wr.ownsRow w1.heap.size 87 16 lv L.length (flatO L) ∧ OIn (fun b => w1.heap.size ≤ b ∧ lv.ownBlock ≠ some b) wr L ∧ Below w1.heap.size w1 wr) := ⟨hpl, hown, hin, hb⟩
    by_cases hlt : k < n
    · have hltI : (k : Int) < (n : Int) := by omega
      have hkL : k < L0.length := by rw [HN.out]; exact hlt
      obtain ⟨t, ht⟩ : ∃ t, L0[k]? = some t := ⟨L0[k]'hkL, List.getElem?_eq_getElem hkL⟩
      obtain ⟨g, hg, hc⟩ := HA.out k t ht
      subst hg
      have ht16 := HX.out k t ht
      have hc' := bl_cell hb hc
      have HT : Hid (L0.take (k + 1) = L0.take k ++ [t]) := by unfold Hid; rw [List.take_add_one, ht]; rfl
      have hbw := bl_step HB.out hb
      have hmb := HM.out.1.still hbw
      have hpb := (HM.out.2.1.frame (w' := wr) (Z' := Z) (fun b hbb => hbw.block b (HF.out b hbb)) (Kp.up hbw) (fun _ h => h))
      have hpk := acc1_any wr (t : Nat)
      have hk0 : ¬ ((k : Int) < 0) := by omega
      obtain ⟨r, hr⟩ : ∃ r : Bool, ((fun (_ : Nat) => true) t) = r := ⟨_, rfl⟩
      have HR : Hid (((fun (_ : Nat) => true) t) = r) := hr
      (try rw [hr] at hpk)
      clear hpl hin hb hkL ht hc hr hbw
      cases r with
      | false =>
        exact absurd HR.out (by simp)
      | true =>
        clear hmb hpb
        go_wp2_with fail
        refine hpk.mono ?_
        rintro e w2 ⟨rfl, b2⟩
        have hbw2 := bl_step (bl_step HB.out HL.out.2.2.2) b2
        have hpb2 := (HM.out.2.1.frame (w' := w2) (Z' := Z) (fun b hbb => hbw2.block b (HF.out b hbb)) (Kp.up hbw2) (fun _ h => h))
        have hmd := commitA_any hpb2 (fun b hb => Nat.lt_of_lt_of_le (HF.out b hb) hbw2.size) (fun b hb => Nat.lt_of_lt_of_le (HM.out.1.zl b hb) hbw2.size)
        clear hpk hpb2
        go_wp2_with fail
        refine hmd.mono ?_
        rintro e w3 ⟨fa, rfl, hss, b3⟩
        have hbw3 := bl_step hbw2 b3
        have hou := out_any (HM.out.1.still hbw3) t (commitF P) fa
        clear hmd hc'
        go_wp2_with fail
        refine hou.mono ?_
        rintro e w4 ⟨rfl, b4⟩
        have hown4 := row_block hown (fun b hb => (b4.block b (Nat.lt_of_lt_of_le (hown.lt b hb).2 (Nat.le_trans b2.size b3.size))).trans ((b3.block b (Nat.lt_of_lt_of_le (hown.lt b hb).2 b2.size)).trans (b2.block b (hown.lt b hb).2)))
        have hown5 := fun ob => hown4.alloc ob
        have HK : Hid (Ss (fun b => w2.heap.size ≤ b) w3 fa.so ((commitF P)).st.length ((commitF P)).st ∧ Below wr.heap.size wr w2 ∧ Below w2.heap.size w2 w3 ∧ Below w3.heap.size w3 w4 ∧ wr.ownsRow w1.heap.size 87 16 lv L.length (flatO L)) := ⟨hss, b2, b3, b4, hown⟩
        have hsz4 : w1.heap.size ≤ w4.heap.size := (bl_step (bl_step (bl_step HL.out.2.2.2 b2) b3) b4).size
        clear hou hss b2 b3 b4 hbw2 hbw3 hown hown4
        obtain ⟨nL, hnL⟩ : ∃ nL, L.length = nL := ⟨_, rfl⟩
        rw [hnL] at hown5 hLk
        have hnL16 : nL ≤ 16 := by omega
        have HNL : Hid (L.length = nL) := hnL
        clear hnL
        unfold oval ocells fcells
        obtain ⟨Fr, hFr⟩ : ∃ Fr, ((commitF P)).by_ M.self = Fr := ⟨_, rfl⟩
        have HFR : Hid (((commitF P)).by_ M.self = Fr) := hFr
        simp only [hFr]
        clear hFr
        go_wp2_with (at_builtin; refine wpList_append_own_at _ rfl _ _ 49 rfl w1.heap.size 87 i0 _ 16 176 und49 hi0 hz0 hz1 hz2 rfl (by decide) _ nL (flatO L) rfl ?d1 ⟨w4.heap.size, 0, none⟩ 1 1 (ocells t Fr fa) rfl ?d2 ?d3 ?d4 ?d6 ?d7 ?d8 ?_)
        case d1 => exact hown5 _
        case d2 => rfl
        case d3 => exact fun j u hj => by rw [Addr.add_lit, Nat.zero_add]; exact cell_box w4 _ _ j u (by simpa [ocells, fcells] using hj)
        case d4 => exact ocells_one t Fr fa
        case d6 => unfold maxLen; omega
        case d7 => omega
        case d8 => simp; omega
        intro v' w5 hown6 hgrow hnil hat
        have HE : Hid (∃ L', plainO L' = ((L0.take (k + 1)).filter (fun i => (fun _ => true) i)).map (fun i => (i, (commitF P).by_ M.self)) ∧ L'.length ≤ k + 1 ∧ w5.ownsRow w1.heap.size 87 16 v' L'.length (flatO L') ∧ OIn (fun b => w1.heap.size ≤ b ∧ v'.ownBlock ≠ some b) w5 L' ∧ Below w1.heap.size w1 w5) := by
          obtain ⟨a1, a2, a3, a5⟩ := HL.out
          obtain ⟨k1, k2, k3, k4, k5⟩ := HK.out
          have hL := HNL.out
          have hres := row_more (w := w1) (w2 := w3) (v' := v') (t := t) (Fr := Fr) (a := fa) k5 a3 a5 (by rw [← HFR.out]; exact k1.imp (fun b _ hb => Nat.le_trans k2.size hb)) (bl_step k2 k3) k4 (by rw [hL]; exact hown6) hgrow (by simpa using hat)
          refine ⟨L ++ [(t, Fr, fa)], ?_, by rw [List.length_append, hL]; simp; omega, hres.1, hres.2.1, hres.2.2⟩
          rw [HT.out, List.filter_append, List.map_append, ← a1]
          simp [List.filter, plainO, HFR.out]
        clear hown5 hown6 hgrow hnil hat HL HK HFR
        go_wp2_with fail
        go_roundw
        case rel =>
          obtain ⟨L', e1, e2, e3, e4, e5⟩ := HE.out
          first | exact ⟨k + 1, L', _, by omega, by go_num, rfl, e1, e2, e3, e4, e5⟩ | ((repeat apply Exists.intro); exact ⟨⟨k + 1, L', _, by omega, by go_num, rfl, e1, e2, e3, e4, e5⟩, rfl⟩)
        case measure => simp [intOf]; omega
    · obtain rfl : k = n := by omega
      have hfull : L0.take k = L0 := List.take_of_length_le (by rw [HN.out]; exact Nat.le_refl _)
      rw [hfull] at HL
      have hs1 := HB.out.size
      have HE : Hid (plainO L = EX ∧ wr.ownsRow w.heap.size 87 16 lv L.length (flatO L) ∧ OIn (fun b => w.heap.size ≤ b ∧ lv.ownBlock ≠ some b) wr L ∧ Below w.heap.size w wr) :=
        ⟨by rw [← HEX.out, HO.out]; exact HL.out.1, own_lower HL.out.2.1 hs1, HL.out.2.2.1.imp (fun b _ h => ⟨Nat.le_trans hs1 h.1, h.2⟩), bl_step HB.out HL.out.2.2.2⟩
      clear hpl hown hin hb HL
      go_wp2
      go_ret
      exact ⟨_, L, rfl, HE.out⟩

end
end Go.Proofs.YtlonbbepoamnmaaDoor
namespace Go.Proofs.YtlonbbepoamnmaaDoor
open Go.RowKit
set_option linter.unusedVariables false

theorem OutsPost.base {ex : List (Nat × PF)} {w w2 w' : World} {e : Ending} (h : OutsPost ex w2 e w') (u : Below w.heap.size w w2) : OutsPost ex w e w' := by
  obtain ⟨v, L, h1, h2, h3, h4, h5⟩ := h
  exact ⟨v, L, h1, h2, own_lower h3 u.size, h4.imp (fun b _ hb => ⟨Nat.le_trans u.size hb.1, hb.2⟩), bl_step u h5⟩
/-- Frames to be sent, in memory that nobody writes to. -/
def OutsIs (w : World) (Z : Nat → Prop) (v : Value) (outs : List (Nat × PF)) : Prop := ∃ L, plainO L = outs ∧ w.ownsRow 1 87 16 v L.length (flatO L) ∧ (∀ b, v.ownBlock = some b → Z b) ∧ OIn Z w L
def InstIs (w : World) (Z : Nat → Prop) (iv : Value) : Option Ins → Prop
  | none => iv = .pointer none
  | some I => ∃ b, iv = .pointer (some ⟨b, 0, none⟩) ∧ Ib w Z b I
theorem OutsIs.nil (w : World) (Z : Nat → Prop) : OutsIs w Z (.slice none 0 0) [] := ⟨[], rfl, World.ownsRow_nil _ _ _ _, (fun b hb => by cases hb), (fun x hx => by cases hx)⟩
theorem OutsPost.is {ex : List (Nat × PF)} {w w' : World} {v : Value} {Z : Nat → Prop} (h : OutsPost ex w (.returned v) w') (h1 : 1 ≤ w.heap.size) : OutsIs w' (nz Z w w') v ex ∧ Below w.heap.size w w' := by
  obtain ⟨v', L, h0, h2, h3, h4, h5⟩ := h
  cases h0
  exact ⟨⟨L, h2, own_lower h3 h1, fun b hb => .inr (h3.lt b hb), h4.imp (fun b hl hb => .inr ⟨hb.1, hl⟩)⟩, h5⟩
theorem OutsIs.keep {w w' : World} {Z Z' : Nat → Prop} {v : Value} {outs : List (Nat × PF)} (h : OutsIs w Z v outs) (hb : ∀ b, Z b → b < w.heap.size → w'.heap[b]? = w.heap[b]?) (hz : ∀ b, Z b → Z' b) : OutsIs w' Z' v outs := by
  obtain ⟨L, h1, h2, h3, h4⟩ := h
  refine ⟨L, h1, row_block h2 (fun b hb' => hb b (h3 b hb') (h2.lt b hb').2), fun b hb' => hz b (h3 b hb'), (h4.keep (fun ad u hz' hc => ?_)).imp (fun b _ hb' => hz b hb')⟩
  rw [World.cell?_of_block (w := w) (hb _ hz' (World.block_lt_of_cell? w _ hc))]; exact hc

section
variable {w : World} {F Z : Nat → Prop} {q p : Nat} {M : Mm} {P : Pp} {o : Option Nat}

theorem remind_nil {M : Mm} (h : M.own = none) : M.remind = [] := by unfold Mm.remind; rw [h]
theorem remind_yes {M : Mm} {P : Pp} (h : M.own = some P) (hg : P.agreed = true) : M.remind = ((M.others P).filter (fun i => !decide ((M.told i).1 = P.id))).map (fun i => (i, (commitF P).by_ M.self)) := by
  unfold Mm.remind; rw [h]; simp only; rw [if_pos hg]; rfl
theorem remind_no {M : Mm} {P : Pp} (h : M.own = some P) (hg : P.agreed = false) : M.remind = ((M.others P).filter (fun i => !hasN P.acc (i : Nat))).map (fun i => (i, (askF P).by_ M.self)) := by
  unfold Mm.remind; rw [h]; simp only; rw [if_neg (by rw [hg]; simp)]; rfl

set_option maxRecDepth 10000 in
set_option maxHeartbeats 1000000 in
theorem remind_any (h : Mb w F Z q M o) : Calls Tryd.prog 34 #[.pointer (some ⟨q, 0, none⟩)] w fun e w' => OutsPost M.remind w e w' := by
  obtain ⟨pv, hpv⟩ : ∃ pv, ptr o = pv := ⟨_, rfl⟩
  obtain ⟨w2, hw2⟩ : ∃ w2, (w.alloc (.cells #[.pointer (some ⟨q, 0, none⟩)] 24)).alloc (.cells #[pv] 90) = w2 := ⟨_, rfl⟩
  have hb2 : Below w.heap.size w w2 := by rw [← hw2]; exact bl2 _ _ _
  have b1 : w2.cell? ⟨w.heap.size, 0, none⟩ = some (.pointer (some ⟨q, 0, none⟩)) := by rw [← hw2]; exact ((Up.refl _).alloc _).cell (cell_box w _ 24 0 _ rfl)
  have b2 : w2.cell? ⟨w.heap.size + 1, 0, none⟩ = some pv := by rw [← hw2]; exact cell_box2 w _ _ 24 90 0 _ rfl
  have k8 := (h.still (bl1 w (.cells #[.pointer (some ⟨q, 0, none⟩)] 24))).cell 8 (by omega)
  unfold mcell at k8
  rw [hpv] at k8
  have h2 := h.still hb2
  obtain ⟨EX, hEX⟩ : ∃ EX, M.remind = EX := ⟨_, rfl⟩
  rw [hEX]
  cases hM : M.own with
  | none =>
    obtain rfl := h.ownNone hM
    have HE : Hid ([] = EX ∧ Below w.heap.size w w2) := ⟨by rw [← hEX, remind_nil hM], hb2⟩
    unfold ptr at hpv
    simp only [Option.map_none] at hpv
    subst hpv
    clear h h2 hM hEX b1 b2
    have HW : Hid ((w.alloc (.cells #[.pointer (some ⟨q, 0, none⟩)] 24)).alloc (.cells #[.pointer none] 90) = w2) := hw2
    clear hw2 hb2
    go_enter Tryd.func34, Tryd.ntmps34
    go_wp2
    go_ret
    rw [HW.out]
    exact ⟨_, [], rfl, HE.out.1, World.ownsRow_nil _ _ _ _, (fun x hx => by cases hx), HE.out.2⟩
  | some P =>
    obtain ⟨p, rfl, -⟩ := h.ownSome hM
    obtain ⟨_, hpe, hp2⟩ := h2.ownSome hM
    cases hpe
    unfold ptr at hpv
    simp only [Option.map_some] at hpv
    subst hpv
    have ha := agreed_any hp2
    have HW : Hid ((w.alloc (.cells #[.pointer (some ⟨q, 0, none⟩)] 24)).alloc (.cells #[.pointer (some ⟨p, 0, none⟩)] 90) = w2 ∧ Below w.heap.size w w2) := ⟨hw2, hb2⟩
    have HM : Hid (Mb w2 F Z q M (some p)) := h2
    clear h h2 hp2 hb2 hw2
    cases hg : P.agreed with
    | true =>
      rw [hg] at ha
      have HX := remind_yes hM hg
      rw [hEX] at HX
      clear hEX hg
      go_enter Tryd.func34, Tryd.ntmps34
      go_wp2_with fail
      rw [HW.out.1]
      refine ha.mono ?_
      rintro e w3 ⟨rfl, u3⟩
      have c1 := u3.cell b1
      have c2 := u3.cell b2
      have ht := toOthersC_any (HM.out.still u3.bl) hM (w.heap.size) (w.heap.size + 1) c1 c2
      rw [← HX] at ht
      have HU : Hid (Below w.heap.size w w3) := bl_step HW.out.2 u3.bl
      clear ha u3 b1 b2 HX hM HW HM k8
      go_wp2_with fail
      refine ht.mono ?_
      intro e w4 hpost
      have hp4 := hpost.base HU.out
      clear hpost ht
      obtain ⟨v, L, rfl, r1, r2, r3, r4⟩ := hp4
      have HE : Hid (plainO L = EX ∧ w4.ownsRow w.heap.size 87 16 v L.length (flatO L) ∧ OIn (fun b => w.heap.size ≤ b ∧ v.ownBlock ≠ some b) w4 L ∧ Below w.heap.size w w4) := ⟨r1, r2, r3, r4⟩
      clear r1 r2 r3 r4
      go_wp2
      go_ret
      exact ⟨_, L, rfl, HE.out⟩
    | false =>
      rw [hg] at ha
      have HX := remind_no hM hg
      rw [hEX] at HX
      clear hEX hg
      go_enter Tryd.func34, Tryd.ntmps34
      go_wp2_with fail
      rw [HW.out.1]
      refine ha.mono ?_
      rintro e w3 ⟨rfl, u3⟩
      have c1 := u3.cell b1
      have c2 := u3.cell b2
      have ht := toOthersA_any (HM.out.still u3.bl) hM (w.heap.size + 1) c2
      rw [← HX] at ht
      have HU : Hid (Below w.heap.size w w3) := bl_step HW.out.2 u3.bl
      clear ha u3 b1 b2 HX hM HW HM k8
      go_wp2_with fail
      refine ht.mono ?_
      intro e w4 hpost
      have hp4 := hpost.base HU.out
      clear hpost ht
      obtain ⟨v, L, rfl, r1, r2, r3, r4⟩ := hp4
      have HE : Hid (plainO L = EX ∧ w4.ownsRow w.heap.size 87 16 v L.length (flatO L) ∧ OIn (fun b => w.heap.size ≤ b ∧ v.ownBlock ≠ some b) w4 L ∧ Below w.heap.size w w4) := ⟨r1, r2, r3, r4⟩
      clear r1 r2 r3 r4
      go_wp2
      go_ret
      exact ⟨_, L, rfl, HE.out⟩

/-- What a tick, or a frame that has come, leaves and answers. -/
def StepPost (w : World) (F Z : Nat → Prop) (q : Nat) (R : Res) (v iv : Value) (w' : World) : Prop := ∃ F' Z' o', Sp w F Z w' F' Z' ∧ Mb w' F' Z' q R.m o' ∧ OutsIs w' Z' v R.outs ∧ InstIs w' Z' iv R.inst
def TickPost (w : World) (F Z : Nat → Prop) (q : Nat) (R : Res) (e : Ending) (w' : World) : Prop := ∃ v iv, e = .returned (.tuple #[v, iv]) ∧ StepPost w F Z q R v iv w'
theorem tick_nil (w : World) (est : Nat) (x : Sx) : Calls Tryd.prog 14 #[.pointer none, .int .u16 (est : Nat), sta x] w fun e w' => e = .returned (.tuple #[.slice none 0 0, .pointer none]) ∧ Below w.heap.size w w' := by
  unfold sta
  go_enter Tryd.func14, Tryd.ntmps14
  go_wp2
  go_ret2
  exact ⟨rfl, bl1 _ _⟩

set_option maxRecDepth 10000 in
set_option maxHeartbeats 2000000 in
theorem tick_any (h : Mb w F Z q M o) (est : Nat) (hest : est < 65536) (x : Sx) (d : Sd) (hd : Si Z w x d) : Calls Tryd.prog 14 #[.pointer (some ⟨q, 0, none⟩), .int .u16 (est : Nat), sta x] w fun e w' => TickPost w F Z q (M.tick est d) e w' := by
  have hself16 : M.self < 16 := Nat.lt_of_lt_of_le h.sn h.n16
  have hpow : 2 ^ M.n ≤ 65536 := Nat.pow_le_pow_right (by omega) h.n16
  have hpos := Nat.one_le_two_pow (n := M.n)
  have h1z := h.tab.lt
  have hand := u16_and_nat est (2 ^ M.n - 1) hest (by omega)
  have handlt : est &&& (2 ^ M.n - 1) < 65536 := Nat.lt_of_le_of_lt Nat.and_le_left hest
  obtain ⟨w1, hw1⟩ : ∃ w1, (w.alloc (.cells #[.int .u64 (x.1 : Nat), .int .i64 x.2.1, .int .i64 x.2.2.1, .slice x.2.2.2.1 x.2.2.2.2.1 x.2.2.2.2.2] 45)).drew = w1 := ⟨_, rfl⟩
  have hb1 : Below w.heap.size w w1 := by rw [← hw1]; exact (bl1 w _).drew
  have h1 := h.still hb1
  have hbox : w1.heap[w.heap.size]? = some (.cells #[.int .u64 (x.1 : Nat), .int .i64 x.2.1, .int .i64 x.2.2.1, .slice x.2.2.2.1 x.2.2.2.2.1 x.2.2.2.2.2] 45 (0, 0)) := by rw [← hw1]; exact heap_alloc_new _ _
  have c0 := h1.cell 0 (by omega)
  have c1 := h1.cell 1 (by omega)
  unfold mcell at c0 c1
  have hwith := fun W => with_any W (est &&& (2 ^ M.n - 1)) handlt ((M.self : Nat) : Int)
  have he16 : M.estOf est < 65536 := withN_lt _ handlt _
  have hE : withN (est &&& (2 ^ M.n - 1)) ((M.self : Nat) : Int) = M.estOf est := rfl
  rw [hE] at hwith
  have HT : Hid (M.tick est d = if M.proposes (M.estOf est) = true then (if (M.prop (M.estOf est) d).agreed = true then (⟨(M.propose (M.estOf est) d).install (M.prop (M.estOf est) d), [], some (insOf (M.prop (M.estOf est) d)), 0⟩ : Res) else ⟨M.propose (M.estOf est) d, (M.propose (M.estOf est) d).remind, none, 0⟩) else ⟨M, M.remind, none, 0⟩) := rfl
  obtain ⟨R, hR⟩ : ∃ R, M.tick est d = R := ⟨_, rfl⟩
  rw [hR] at HT ⊢
  clear hE hR
  obtain ⟨e, hee⟩ : ∃ e, M.estOf est = e := ⟨_, rfl⟩
  rw [hee] at hwith he16 HT
  obtain ⟨N, hN⟩ : ∃ N, 2 ^ M.n - 1 = N := ⟨_, rfl⟩
  rw [hN] at hand c0 hwith
  obtain ⟨A, hA⟩ : ∃ A, est &&& N = A := ⟨_, rfl⟩
  rw [hA] at hand hwith
  have hS : w1.cell? ⟨q, 0, none⟩ = some (.int .u16 (N : Nat)) ∧ w1.cell? ⟨q, 1, none⟩ = some (.int .i64 (M.self : Nat)) := ⟨c0, c1⟩
  have hpro := proposes_any h1 e he16
  have HM : Hid (Mb w F Z q M o ∧ Mb w1 F Z q M o ∧ Below w.heap.size w w1 ∧ Si Z w x d ∧ w1.heap[w.heap.size]? = some (.cells #[.int .u64 (x.1 : Nat), .int .i64 x.2.1, .int .i64 x.2.2.1, .slice x.2.2.2.1 x.2.2.2.2.1 x.2.2.2.2.2] 45 (0, 0)) ∧ 0 < w.heap.size) := ⟨h, h1, hb1, hd, hbox, h1z⟩
  have HW : Hid ((w.alloc (.cells #[.int .u64 (x.1 : Nat), .int .i64 x.2.1, .int .i64 x.2.2.1, .slice x.2.2.2.1 x.2.2.2.2.1 x.2.2.2.2.2] 45)).drew = w1) := hw1
  clear h h1 hb1 hbox hd c0 c1 hw1 handlt hpow hpos h1z hN hA hee
  unfold sta
  go_enter Tryd.func14, Tryd.ntmps14
  go_wp2_with fail
  refine wp_region_noPanic ?_
  refine wp_region_held_drew (S := fun wx => wx.cell? ⟨q, 0, none⟩ = some (.int .u16 (N : Nat)) ∧ wx.cell? ⟨q, 1, none⟩ = some (.int .i64 (M.self : Nat))) (by kernel_rfl) (by rw [HW.out]; exact hS) (fun hHeld => ?_)
  rw [HW.out] at hHeld ⊢
  clear HW
  refine take_first 0 (v := ?_) rfl (by kernel_rfl) (by kernel_rfl) (by kernel_rfl) (fun _ _ _ h => h) (Or.inl ⟨by rfl, by intro wx hSw; (try dsimp only at hSw); obtain ⟨a1, a2⟩ := hSw; go_simp; try with_reducible rfl⟩) (by assumption) ?_
  (try simp only [Act.put, List.setIfInBounds_toArray, List.set_cons_zero, List.set_cons_succ])
  refine take_first 1 (v := ?_) rfl (by kernel_rfl) (by kernel_rfl) (by kernel_rfl) (fun _ _ _ h => h) (Or.inl ⟨by rfl, by intro wx hSw; (try dsimp only at hSw); obtain ⟨a1, a2⟩ := hSw; go_simp; try with_reducible rfl⟩) (by assumption) ?_
  (try simp only [Act.put, List.setIfInBounds_toArray, List.set_cons_zero, List.set_cons_succ])
  refine take_first 2 (v := ?_) rfl (by kernel_rfl) (by kernel_rfl) (by kernel_rfl) (fun _ _ _ h => h) (Or.inl ⟨by rfl, by intro wx hSw; (try dsimp only at hSw); obtain ⟨a1, a2⟩ := hSw; go_simp; try with_reducible rfl⟩) (by assumption) ?_
  (try simp only [Act.put, List.setIfInBounds_toArray, List.set_cons_zero, List.set_cons_succ])
  refine take_first 3 (v := ?_) rfl (by kernel_rfl) (by kernel_rfl) (by kernel_rfl) (fun _ _ _ h => h) (Or.inl ⟨by rfl, by intro wx hSw; (try dsimp only at hSw); obtain ⟨a1, a2⟩ := hSw; go_simp; try with_reducible rfl⟩) (by assumption) ?_
  (try simp only [Act.put, List.setIfInBounds_toArray, List.set_cons_zero, List.set_cons_succ])
  refine take_first 4 (v := ?_) rfl (by kernel_rfl) (by kernel_rfl) (by kernel_rfl) (fun _ _ _ h => h) (Or.inl ⟨by rfl, by intro wx hSw; (try dsimp only at hSw); obtain ⟨a1, a2⟩ := hSw; go_simp; try with_reducible rfl⟩) (by assumption) ?_
  (try simp only [Act.put, List.setIfInBounds_toArray, List.set_cons_zero, List.set_cons_succ])
  refine take_first 5 (v := ?_) rfl (by kernel_rfl) (by kernel_rfl) (by kernel_rfl) (fun _ _ _ h => h) (Or.inl ⟨by rfl, by intro wx hSw; (try dsimp only at hSw); obtain ⟨a1, a2⟩ := hSw; go_simp; try with_reducible rfl⟩) (by assumption) ?_
  (try simp only [Act.put, List.setIfInBounds_toArray, List.set_cons_zero, List.set_cons_succ])
  refine take_first 6 (v := ?_) rfl (by kernel_rfl) (by kernel_rfl) (by kernel_rfl) (fun _ _ _ h => h) (Or.inl ⟨by rfl, by intro wx hSw; (try dsimp only at hSw); obtain ⟨a1, a2⟩ := hSw; go_simp; try with_reducible rfl⟩) (by assumption) ?_
  (try simp only [Act.put, List.setIfInBounds_toArray, List.set_cons_zero, List.set_cons_succ])
  refine take_first 7 (v := ?_) rfl (by kernel_rfl) (by kernel_rfl) (by kernel_rfl) (fun _ _ _ h => h) (Or.inl ⟨by rfl, by intro wx hSw; (try dsimp only at hSw); obtain ⟨a1, a2⟩ := hSw; go_simp; try with_reducible rfl⟩) (by assumption) ?_
  (try simp only [Act.put, List.setIfInBounds_toArray, List.set_cons_zero, List.set_cons_succ])
  refine take_first 8 (v := ?_) rfl (by kernel_rfl) (by kernel_rfl) (by kernel_rfl) (fun _ _ _ h => h) (Or.inl ⟨by rfl, by intro wx hSw; (try dsimp only at hSw); obtain ⟨a1, a2⟩ := hSw; go_simp; try with_reducible rfl⟩) (by assumption) ?_
  (try simp only [Act.put, List.setIfInBounds_toArray, List.set_cons_zero, List.set_cons_succ])
  refine take_first 9 (v := ?_) rfl (by kernel_rfl) (by kernel_rfl) (by kernel_rfl) (fun _ _ _ h => h) (Or.inl ⟨by rfl, by intro wx hSw; (try dsimp only at hSw); obtain ⟨a1, a2⟩ := hSw; go_simp; try with_reducible rfl⟩) (by assumption) ?_
  (try simp only [Act.put, List.setIfInBounds_toArray, List.set_cons_zero, List.set_cons_succ])
  refine comes_up 10 rfl (by kernel_rfl) (fun K hK => ?_)
  go_simp
  refine (hwith _).mono ?_
  rintro r w2 ⟨rfl, rfl⟩
  clear hwith
  go_wp2_with fail
  refine hK.out _ _ hS (fun hHeld => ?_)
  clear hK K
  (try simp only [Act.put, List.setIfInBounds_toArray, List.set_cons_zero, List.set_cons_succ])
  refine take_first 11 (v := ?_) rfl (by kernel_rfl) (by kernel_rfl) (by kernel_rfl) (fun _ _ _ h => h) (Or.inl ⟨by rfl, by intro wx hSw; (try dsimp only at hSw); obtain ⟨a1, a2⟩ := hSw; go_simp; try with_reducible rfl⟩) (by assumption) ?_
  (try simp only [Act.put, List.setIfInBounds_toArray, List.set_cons_zero, List.set_cons_succ])
  refine wpAnyH_done (by kernel_rfl) ?_ _
  refine NoPanic.normal ?_
  clear hand hS
  go_wp2_with fail
  refine hpro.mono ?_
  rintro r w2 ⟨rfl, b2⟩
  have hm2 := HM.out.2.1.still b2
  have hbw2 := bl_step HM.out.2.2.1 b2
  have hbox2 := (b2.block w.heap.size (heap_lt HM.out.2.2.2.2.1)).trans HM.out.2.2.2.2.1
  have d0 := heap_cell (j := 0) hbox2 rfl
  have d1 := heap_cell (j := 1) hbox2 rfl
  have d2 := heap_cell (j := 2) hbox2 rfl
  have d3 := heap_cell (j := 3) hbox2 rfl
  have h1z := HM.out.2.2.2.2.2
  have sp2 : Sp w F Z w2 F Z := Sp.still hbw2 HM.out.1.zl
  have hsi2 := HM.out.2.2.2.1.keep (Kp.up hbw2)
  clear hpro b2 hbox2
  cases hpr : M.proposes e with
  | false =>
    have hRe : R = ⟨M, M.remind, none, 0⟩ := by rw [HT.out, hpr, if_neg (by simp)]
    have hre := remind_any hm2
    have HRE : Hid (R = ⟨M, M.remind, none, 0⟩) := hRe
    clear hRe HT
    have HK : Hid (Mb w2 F Z q M o ∧ Sp w F Z w2 F Z ∧ 1 ≤ w2.heap.size) := ⟨hm2, sp2, Nat.le_trans h1z hbw2.size⟩
    clear HM hm2 hbw2 sp2 hsi2 hpr
    go_wp2_with fail
    refine hre.mono ?_
    intro r w3 hpost
    obtain ⟨v, L, rfl, r1, r2, r3, r4⟩ := id hpost
    have HE : Hid (StepPost w F Z q R v (.pointer none) w3) := by
      rw [HRE.out]
      obtain ⟨o1, o2⟩ := OutsPost.is (Z := Z) hpost HK.out.2.2
      exact ⟨F, nz Z w2 w3, o, HK.out.2.1.trans (Sp.up o2 HK.out.1.zl), HK.out.1.up o2, o1, rfl⟩
    clear hre hpost r1 r2 r3 r4 HK d0 d1 d2 d3
    go_wp2
    go_ret2
    exact ⟨_, _, rfl, HE.out⟩
  | true =>
    have hRe1 : R = if (M.prop e d).agreed = true then (⟨(M.propose e d).install (M.prop e d), [], some (insOf (M.prop e d)), 0⟩ : Res) else ⟨M.propose e d, (M.propose e d).remind, none, 0⟩ := by rw [HT.out, hpr, if_pos rfl]
    have HR1 : Hid (R = if (M.prop e d).agreed = true then (⟨(M.propose e d).install (M.prop e d), [], some (insOf (M.prop e d)), 0⟩ : Res) else ⟨M.propose e d, (M.propose e d).remind, none, 0⟩) := hRe1
    clear hRe1 HT
    have hhigh : M.high < 18446744073709551615 := by
      unfold Mm.proposes at hpr
      simp only [Bool.and_eq_true, decide_eq_true_eq] at hpr
      exact hpr.2
    have hpp := propose_any hm2 e he16 hhigh x d hsi2
    have HK : Hid (Sp w F Z w2 F Z) := sp2
    unfold sta at hpp
    clear HM hm2 hbw2 sp2 hsi2 hpr hhigh
    go_wp2_with fail
    refine hpp.mono ?_
    rintro r w3 ⟨rfl, F3, Z3, p3, sp3, hm3⟩
    have hsp := HK.out.trans sp3
    clear hpp HK sp3 d0 d1 d2 d3
    cases hg : (M.prop e d).agreed with
    | true =>
      have HRe : Hid (R = ⟨(M.propose e d).install (M.prop e d), [], some (insOf (M.prop e d)), 0⟩) := by unfold Hid; rw [HR1.out, hg, if_pos rfl]
      have hin := install_any hm3 (P := M.prop e d) rfl hg
      have HK : Hid (Sp w F Z w3 F3 Z3) := hsp
      clear hm3 hsp hg
      go_wp2_with fail
      refine hin.mono ?_
      rintro r w4 ⟨b4, rfl, F4, Z4, sp4, hm4, hib⟩
      have HE : Hid (StepPost w F Z q R (.slice none 0 0) (.pointer (some ⟨b4, 0, none⟩)) w4) := by
        rw [HRe.out]
        exact ⟨F4, Z4, some p3, HK.out.trans sp4, hm4, OutsIs.nil _ _, b4, rfl, hib⟩
      clear hin sp4 hm4 hib HK
      go_wp2
      go_ret2
      exact ⟨_, _, rfl, HE.out⟩
    | false =>
      have HRe : Hid (R = ⟨M.propose e d, (M.propose e d).remind, none, 0⟩) := by unfold Hid; rw [HR1.out, hg, if_neg (by simp)]
      have hin := install_not hm3 (P := M.prop e d) rfl hg
      have HK : Hid (Sp w F Z w3 F3 Z3 ∧ Mb w3 F3 Z3 q (M.propose e d) (some p3)) := ⟨hsp, hm3⟩
      clear hm3 hsp hg
      go_wp2_with fail
      refine hin.mono ?_
      rintro r w4 ⟨rfl, b4⟩
      have hm4 := HK.out.2.still b4
      have hre := remind_any hm4
      have HK4 : Hid (Mb w4 F3 Z3 q (M.propose e d) (some p3) ∧ Sp w F Z w4 F3 Z3) := ⟨hm4, HK.out.1.trans (Sp.still b4 HK.out.2.zl)⟩
      clear hin b4 hm4 HK
      go_wp2_with fail
      refine hre.mono ?_
      intro r w5 hpost
      obtain ⟨v, L, rfl, r1, r2, r3, r4⟩ := id hpost
      have HE : Hid (StepPost w F Z q R v (.pointer none) w5) := by
        rw [HRe.out]
        obtain ⟨o1, o2⟩ := OutsPost.is (Z := Z3) hpost HK4.out.1.tab.lt
        exact ⟨F3, nz Z3 w4 w5, some p3, HK4.out.2.trans (Sp.up o2 HK4.out.1.zl), HK4.out.1.up o2, o1, rfl⟩
      clear hre hpost r1 r2 r3 r4 HK4
      go_wp2
      go_ret2
      exact ⟨_, _, rfl, HE.out⟩
end
end Go.Proofs.YtlonbbepoamnmaaDoor
