/-
  Frames that a node sends (proposal.ask, commit, Member.out).
-/
import Derived.Test.YtlonbbepoamnmaaDoorMJoin
namespace Go.Proofs.YtlonbbepoamnmaaDoor
open Go.RowKit
set_option linter.unusedVariables false

theorem step_store_row {P : Program} {ops : Array Oper} {o : Oper} {a : Act} {w : World} {K : Act → World → Prop} {Q : Exit → Act → World → Prop} {E : Prop} (hgd : o.guard = none) (ty : TypeId) (x y : Operand) (ho : o.op = .store ty x y)
    (g : Nat) (cells : Array Value) (hx : a.eval x = .pointer (some ⟨g, 0, none⟩)) (hy : a.eval y = .agg cells) (t : TypeId) (old : Array Value) (hg : w.heap[g]? = some (.cells old t (0, 0))) (hi : (P.info? ty).map (·.size) = some cells.size)
    (hold : old.size = cells.size) (h1 : cells.all (·.oneCell') = true) (h : K (a.put o.dst undef) (w.setRow g cells)) : if Region.wanted o (yielded ops a.tmps) = true then Oper.wp P o a w K Q else E := by
  have hw : Region.wanted o (yielded ops a.tmps) = true := by simp [Region.wanted, hgd]
  rw [if_pos hw]
  exact wp_store_row ty x y ho g cells hx hy t old hg hi hold h1 h
theorem info43 : (Tryd.prog.info? 43).map (·.size) = some 15 := by kernel_rfl
theorem info87 : (Tryd.prog.info? 87).map (·.size) = some 16 := by kernel_rfl
def askF (P : Pp) : PF := { zeroF with kind := 2, idN := P.id.1, idP := P.id.2, set := P.set }
def commitF (P : Pp) : PF := { zeroF with kind := 5, idN := P.id.1, idP := P.id.2, set := P.set, st := joinD P.sts }
def PF.by_ (F : PF) (s : Nat) : PF := { F with frm := (s : Int) }
def ocells (t : Nat) (F : PF) (a : Fa) : List Value := Value.int .i64 (t : Nat) :: (fcells F a).toList
def oval (t : Nat) (F : PF) (a : Fa) : Value := .agg (ocells t F a).toArray
theorem bl_row {w w' : World} {B g : Nat} {cs : Array Value} (h : Below B w w') (hg : B ≤ g) : Below B w (w'.setRow g cs) :=
  ⟨h.os, h.tape, h.output, by rw [size_setRow]; exact h.size, fun k hk => by rw [setRow_other _ _ _ _ (by omega)]; exact h.block k hk⟩
theorem cell_row {w : World} {g b j : Nat} {cs : Array Value} {v : Value} (h : w.cell? ⟨b, j, none⟩ = some v) (hne : b ≠ g) : (w.setRow g cs).cell? ⟨b, j, none⟩ = some v := by
  rw [World.cell?_of_block (w := w) (setRow_other _ _ _ _ hne)]; exact h
theorem kp_row {w : World} {g : Nat} {cs : Array Value} {p : Nat → Prop} (hp : ∀ b, p b → b ≠ g) : Kp p w (w.setRow g cs) := fun ad v hb hc => by
  rw [World.cell?_of_block (w := w) (setRow_other _ _ _ _ (hp _ hb))]; exact hc

section
variable {w : World} {F Z : Nat → Prop} {q p : Nat} {M : Mm} {P : Pp} {o : Option Nat}

set_option maxRecDepth 10000 in
theorem ask_any (hp : Pb w F Z q p P) (hpl : p < w.heap.size) : Calls Tryd.prog 65 #[.pointer (some ⟨p, 0, none⟩)] w fun e w' => e = .returned (fval (askF P) Fa.none) ∧ Below w.heap.size w w' := by
  obtain ⟨w1, hw1⟩ : ∃ w1, (w.alloc (.cells #[.int .u8 0, .int .i64 0, .int .u64 0, .int .i64 0, .int .u16 0, .int .u64 0, .int .i64 0, .int .u64 0, .int .i64 0, .slice none 0 0, .int .u64 0, .slice none 0 0, .slice none 0 0, .int .u64 0, .int .u64 0] 43)).drew = w1 := ⟨_, rfl⟩
  have hb1 : Below w.heap.size w w1 := by rw [← hw1]; exact (bl1 w _).drew
  have hB : w1.heap[w.heap.size]? = some (.cells #[.int .u8 0, .int .i64 0, .int .u64 0, .int .i64 0, .int .u16 0, .int .u64 0, .int .i64 0, .int .u64 0, .int .i64 0, .slice none 0 0, .int .u64 0, .slice none 0 0, .slice none 0 0, .int .u64 0, .int .u64 0] 43 (0, 0)) := by rw [← hw1]; exact heap_alloc_new _ _
  have hS : w1.cell? ⟨p, 0, none⟩ = some (.int .u64 (P.id.1 : Nat)) ∧ w1.cell? ⟨p, 1, none⟩ = some (.int .i64 P.id.2) ∧ w1.cell? ⟨p, 2, none⟩ = some (.int .u16 (P.set : Nat)) := ⟨bl_cell hb1 hp.c0, bl_cell hb1 hp.c1, bl_cell hb1 hp.c2⟩
  have hS2 : (w1.setRow w.heap.size #[.int .u8 2, .int .i64 0, .int .u64 (P.id.1 : Nat), .int .i64 P.id.2, .int .u16 (P.set : Nat), .int .u64 0, .int .i64 0, .int .u64 0, .int .i64 0, .slice none 0 0, .int .u64 0, .slice none 0 0, .slice none 0 0, .int .u64 0, .int .u64 0]).cell? ⟨p, 0, none⟩ = some (.int .u64 (P.id.1 : Nat)) ∧ (w1.setRow w.heap.size #[.int .u8 2, .int .i64 0, .int .u64 (P.id.1 : Nat), .int .i64 P.id.2, .int .u16 (P.set : Nat), .int .u64 0, .int .i64 0, .int .u64 0, .int .i64 0, .slice none 0 0, .int .u64 0, .slice none 0 0, .slice none 0 0, .int .u64 0, .int .u64 0]).cell? ⟨p, 1, none⟩ = some (.int .i64 P.id.2) ∧ (w1.setRow w.heap.size #[.int .u8 2, .int .i64 0, .int .u64 (P.id.1 : Nat), .int .i64 P.id.2, .int .u16 (P.set : Nat), .int .u64 0, .int .i64 0, .int .u64 0, .int .i64 0, .slice none 0 0, .int .u64 0, .slice none 0 0, .slice none 0 0, .int .u64 0, .int .u64 0]).cell? ⟨p, 2, none⟩ = some (.int .u16 (P.set : Nat)) := ⟨cell_row hS.1 (by omega), cell_row hS.2.1 (by omega), cell_row hS.2.2 (by omega)⟩
  have hset := setRow_heap w1 w.heap.size _ #[.int .u8 2, .int .i64 0, .int .u64 (P.id.1 : Nat), .int .i64 P.id.2, .int .u16 (P.set : Nat), .int .u64 0, .int .i64 0, .int .u64 0, .int .i64 0, .slice none 0 0, .int .u64 0, .slice none 0 0, .slice none 0 0, .int .u64 0, .int .u64 0] 43 (0, 0) hB
  have HE : Hid (Below w.heap.size w (w1.setRow w.heap.size #[.int .u8 2, .int .i64 0, .int .u64 (P.id.1 : Nat), .int .i64 P.id.2, .int .u16 (P.set : Nat), .int .u64 0, .int .i64 0, .int .u64 0, .int .i64 0, .slice none 0 0, .int .u64 0, .slice none 0 0, .slice none 0 0, .int .u64 0, .int .u64 0])) := bl_row hb1 (Nat.le_refl _)
  have HW : Hid ((w.alloc (.cells #[.int .u8 0, .int .i64 0, .int .u64 0, .int .i64 0, .int .u16 0, .int .u64 0, .int .i64 0, .int .u64 0, .int .i64 0, .slice none 0 0, .int .u64 0, .slice none 0 0, .slice none 0 0, .int .u64 0, .int .u64 0] 43)).drew = w1) := hw1
  clear hp hb1 hpl hw1
  go_enter Tryd.func65, Tryd.ntmps65
  go_wp2_with fail
  refine wp_region_noPanic ?_
  refine wp_region_held_drew (S := fun wx => wx.cell? ⟨p, 0, none⟩ = some (.int .u64 (P.id.1 : Nat)) ∧ wx.cell? ⟨p, 1, none⟩ = some (.int .i64 P.id.2) ∧ wx.cell? ⟨p, 2, none⟩ = some (.int .u16 (P.set : Nat))) (by kernel_rfl) (by rw [HW.out]; exact hS) (fun hHeld => ?_)
  rw [HW.out] at hHeld ⊢
  clear HW
  refine take_first 0 (v := ?_) rfl (by kernel_rfl) (by kernel_rfl) (by kernel_rfl) (fun _ _ _ h => h) (Or.inl ⟨by rfl, by intro wx hSw; (try dsimp only at hSw); obtain ⟨a1, a2, a3⟩ := hSw; go_simp; try with_reducible rfl⟩) (by assumption) ?_
  (try simp only [Act.put, List.setIfInBounds_toArray, List.set_cons_zero, List.set_cons_succ])
  refine take_first 1 (v := ?_) rfl (by kernel_rfl) (by kernel_rfl) (by kernel_rfl) (fun _ _ _ h => h) (Or.inl ⟨by rfl, by intro wx hSw; (try dsimp only at hSw); obtain ⟨a1, a2, a3⟩ := hSw; go_simp; try with_reducible rfl⟩) (by assumption) ?_
  (try simp only [Act.put, List.setIfInBounds_toArray, List.set_cons_zero, List.set_cons_succ])
  refine take_first 2 (v := ?_) rfl (by kernel_rfl) (by kernel_rfl) (by kernel_rfl) (fun _ _ _ h => h) (Or.inl ⟨by rfl, by intro wx hSw; (try dsimp only at hSw); obtain ⟨a1, a2, a3⟩ := hSw; go_simp; try with_reducible rfl⟩) (by assumption) ?_
  (try simp only [Act.put, List.setIfInBounds_toArray, List.set_cons_zero, List.set_cons_succ])
  refine take_first 3 (v := ?_) rfl (by kernel_rfl) (by kernel_rfl) (by kernel_rfl) (fun _ _ _ h => h) (Or.inl ⟨by rfl, by intro wx hSw; (try dsimp only at hSw); obtain ⟨a1, a2, a3⟩ := hSw; go_simp; try with_reducible rfl⟩) (by assumption) ?_
  (try simp only [Act.put, List.setIfInBounds_toArray, List.set_cons_zero, List.set_cons_succ])
  refine take_first 4 (v := ?_) rfl (by kernel_rfl) (by kernel_rfl) (by kernel_rfl) (fun _ _ _ h => h) (Or.inl ⟨by rfl, by intro wx hSw; (try dsimp only at hSw); obtain ⟨a1, a2, a3⟩ := hSw; go_simp; try with_reducible rfl⟩) (by assumption) ?_
  (try simp only [Act.put, List.setIfInBounds_toArray, List.set_cons_zero, List.set_cons_succ])
  refine take_first 5 (v := ?_) rfl (by kernel_rfl) (by kernel_rfl) (by kernel_rfl) (fun _ _ _ h => h) (Or.inl ⟨by rfl, by intro wx hSw; (try dsimp only at hSw); obtain ⟨a1, a2, a3⟩ := hSw; go_simp; try with_reducible rfl⟩) (by assumption) ?_
  (try simp only [Act.put, List.setIfInBounds_toArray, List.set_cons_zero, List.set_cons_succ])
  refine take_first 6 (v := ?_) rfl (by kernel_rfl) (by kernel_rfl) (by kernel_rfl) (fun _ _ _ h => h) (Or.inl ⟨by rfl, by intro wx hSw; (try dsimp only at hSw); obtain ⟨a1, a2, a3⟩ := hSw; go_simp; try with_reducible rfl⟩) (by assumption) ?_
  (try simp only [Act.put, List.setIfInBounds_toArray, List.set_cons_zero, List.set_cons_succ])
  refine take_first 7 (v := ?_) rfl (by kernel_rfl) (by kernel_rfl) (by kernel_rfl) (fun _ _ _ h => h) (Or.inl ⟨by rfl, by intro wx hSw; (try dsimp only at hSw); obtain ⟨a1, a2, a3⟩ := hSw; go_simp; try with_reducible rfl⟩) (by assumption) ?_
  (try simp only [Act.put, List.setIfInBounds_toArray, List.set_cons_zero, List.set_cons_succ])
  refine take_first 8 (v := ?_) rfl (by kernel_rfl) (by kernel_rfl) (by kernel_rfl) (fun _ _ _ h => h) (Or.inl ⟨by rfl, by intro wx hSw; (try dsimp only at hSw); obtain ⟨a1, a2, a3⟩ := hSw; go_simp; try with_reducible rfl⟩) (by assumption) ?_
  (try simp only [Act.put, List.setIfInBounds_toArray, List.set_cons_zero, List.set_cons_succ])
  refine take_first 9 (v := ?_) rfl (by kernel_rfl) (by kernel_rfl) (by kernel_rfl) (fun _ _ _ h => h) (Or.inl ⟨by rfl, by intro wx hSw; (try dsimp only at hSw); obtain ⟨a1, a2, a3⟩ := hSw; go_simp; try with_reducible rfl⟩) (by assumption) ?_
  (try simp only [Act.put, List.setIfInBounds_toArray, List.set_cons_zero, List.set_cons_succ])
  refine take_first 10 (v := ?_) rfl (by kernel_rfl) (by kernel_rfl) (by kernel_rfl) (fun _ _ _ h => h) (Or.inl ⟨by rfl, by intro wx hSw; (try dsimp only at hSw); obtain ⟨a1, a2, a3⟩ := hSw; go_simp; try with_reducible rfl⟩) (by assumption) ?_
  (try simp only [Act.put, List.setIfInBounds_toArray, List.set_cons_zero, List.set_cons_succ])
  refine comes_up 11 rfl (by kernel_rfl) (fun K hK => ?_)
  refine step_store_row rfl 43 (.tmp 2) (.tmp 13) rfl w.heap.size #[.int .u8 2, .int .i64 0, .int .u64 (P.id.1 : Nat), .int .i64 P.id.2, .int .u16 (P.set : Nat), .int .u64 0, .int .i64 0, .int .u64 0, .int .i64 0, .slice none 0 0, .int .u64 0, .slice none 0 0, .slice none 0 0, .int .u64 0, .int .u64 0] rfl rfl 43 _ hB info43 rfl (by simp [Value.oneCell']) ?_
  refine hK.out _ _ hS2 (fun hHeld => ?_)
  clear hK K
  (try simp only [Act.put])
  refine wpAnyH_done (by kernel_rfl) ?_ _
  refine NoPanic.normal ?_
  go_wp2
  refine bodyPost_ret (results_cell1 (g := w.heap.size) Tryd.results65 rfl (run_loadVar_row _ w.heap.size 43 43 _ (0, 0) _ hset Tryd.underlying43 rfl info43)) rfl ?_
  exact ⟨rfl, HE.out⟩

set_option maxRecDepth 10000 in
set_option maxHeartbeats 1000000 in
theorem commit_any (hp : Pb w F Z q p P) (hpl : ∀ b, F b → b < w.heap.size) (h0 : ∀ b, Z b → b < w.heap.size) : Calls Tryd.prog 63 #[.pointer (some ⟨p, 0, none⟩)] w fun e w' => ∃ so sc, e = .returned (fval (commitF P) ⟨so, sc, none, 0, none, 0⟩) ∧ Ss (fun b => w.heap.size ≤ b) w' so (joinD P.sts).length (joinD P.sts) ∧ Below w.heap.size w w' := by
  obtain ⟨w1, hw1⟩ : ∃ w1, (w.alloc (.cells #[.int .u8 0, .int .i64 0, .int .u64 0, .int .i64 0, .int .u16 0, .int .u64 0, .int .i64 0, .int .u64 0, .int .i64 0, .slice none 0 0, .int .u64 0, .slice none 0 0, .slice none 0 0, .int .u64 0, .int .u64 0] 43)).drew = w1 := ⟨_, rfl⟩
  have hb1 : Below w.heap.size w w1 := by rw [← hw1]; exact (bl1 w _).drew
  have s1 : w1.heap.size = w.heap.size + 1 := by rw [← hw1]; show (w.alloc _).heap.size = _; simp
  have hB : w1.heap[w.heap.size]? = some (.cells #[.int .u8 0, .int .i64 0, .int .u64 0, .int .i64 0, .int .u16 0, .int .u64 0, .int .i64 0, .int .u64 0, .int .i64 0, .slice none 0 0, .int .u64 0, .slice none 0 0, .slice none 0 0, .int .u64 0, .int .u64 0] 43 (0, 0)) := by rw [← hw1]; exact heap_alloc_new _ _
  have hp1 : Pb w1 F Z q p P := hp.frame (fun b hb => hb1.block b (hpl b hb)) (Kp.up hb1) (fun _ h => h)
  have hS : w1.cell? ⟨p, 0, none⟩ = some (.int .u64 (P.id.1 : Nat)) ∧ w1.cell? ⟨p, 1, none⟩ = some (.int .i64 P.id.2) ∧ w1.cell? ⟨p, 2, none⟩ = some (.int .u16 (P.set : Nat)) := ⟨hp1.c0, hp1.c1, hp1.c2⟩
  have hj := joined_any hp1
  have HX : Hid (w1.heap.size = w.heap.size + 1 ∧ p < w.heap.size ∧ Below w.heap.size w w1) := ⟨s1, hpl p hp.fp, hb1⟩
  have HW : Hid ((w.alloc (.cells #[.int .u8 0, .int .i64 0, .int .u64 0, .int .i64 0, .int .u16 0, .int .u64 0, .int .i64 0, .int .u64 0, .int .i64 0, .slice none 0 0, .int .u64 0, .slice none 0 0, .slice none 0 0, .int .u64 0, .int .u64 0] 43)).drew = w1) := hw1
  clear hp hb1 hpl hw1 s1 hp1 h0
  go_enter Tryd.func63, Tryd.ntmps63
  go_wp2_with fail
  refine wp_region_noPanic ?_
  refine wp_region_held_drew (S := fun wx => wx.cell? ⟨p, 0, none⟩ = some (.int .u64 (P.id.1 : Nat)) ∧ wx.cell? ⟨p, 1, none⟩ = some (.int .i64 P.id.2) ∧ wx.cell? ⟨p, 2, none⟩ = some (.int .u16 (P.set : Nat))) (by kernel_rfl) (by rw [HW.out]; exact hS) (fun hHeld => ?_)
  rw [HW.out] at hHeld ⊢
  clear HW
  refine take_first 0 (v := ?_) rfl (by kernel_rfl) (by kernel_rfl) (by kernel_rfl) (fun _ _ _ h => h) (Or.inl ⟨by rfl, by intro wx hSw; (try dsimp only at hSw); obtain ⟨a1, a2, a3⟩ := hSw; go_simp; try with_reducible rfl⟩) (by assumption) ?_
  (try simp only [Act.put, List.setIfInBounds_toArray, List.set_cons_zero, List.set_cons_succ])
  refine take_first 1 (v := ?_) rfl (by kernel_rfl) (by kernel_rfl) (by kernel_rfl) (fun _ _ _ h => h) (Or.inl ⟨by rfl, by intro wx hSw; (try dsimp only at hSw); obtain ⟨a1, a2, a3⟩ := hSw; go_simp; try with_reducible rfl⟩) (by assumption) ?_
  (try simp only [Act.put, List.setIfInBounds_toArray, List.set_cons_zero, List.set_cons_succ])
  refine take_first 2 (v := ?_) rfl (by kernel_rfl) (by kernel_rfl) (by kernel_rfl) (fun _ _ _ h => h) (Or.inl ⟨by rfl, by intro wx hSw; (try dsimp only at hSw); obtain ⟨a1, a2, a3⟩ := hSw; go_simp; try with_reducible rfl⟩) (by assumption) ?_
  (try simp only [Act.put, List.setIfInBounds_toArray, List.set_cons_zero, List.set_cons_succ])
  refine take_first 3 (v := ?_) rfl (by kernel_rfl) (by kernel_rfl) (by kernel_rfl) (fun _ _ _ h => h) (Or.inl ⟨by rfl, by intro wx hSw; (try dsimp only at hSw); obtain ⟨a1, a2, a3⟩ := hSw; go_simp; try with_reducible rfl⟩) (by assumption) ?_
  (try simp only [Act.put, List.setIfInBounds_toArray, List.set_cons_zero, List.set_cons_succ])
  refine take_first 4 (v := ?_) rfl (by kernel_rfl) (by kernel_rfl) (by kernel_rfl) (fun _ _ _ h => h) (Or.inl ⟨by rfl, by intro wx hSw; (try dsimp only at hSw); obtain ⟨a1, a2, a3⟩ := hSw; go_simp; try with_reducible rfl⟩) (by assumption) ?_
  (try simp only [Act.put, List.setIfInBounds_toArray, List.set_cons_zero, List.set_cons_succ])
  refine take_first 5 (v := ?_) rfl (by kernel_rfl) (by kernel_rfl) (by kernel_rfl) (fun _ _ _ h => h) (Or.inl ⟨by rfl, by intro wx hSw; (try dsimp only at hSw); obtain ⟨a1, a2, a3⟩ := hSw; go_simp; try with_reducible rfl⟩) (by assumption) ?_
  (try simp only [Act.put, List.setIfInBounds_toArray, List.set_cons_zero, List.set_cons_succ])
  refine take_first 6 (v := ?_) rfl (by kernel_rfl) (by kernel_rfl) (by kernel_rfl) (fun _ _ _ h => h) (Or.inl ⟨by rfl, by intro wx hSw; (try dsimp only at hSw); obtain ⟨a1, a2, a3⟩ := hSw; go_simp; try with_reducible rfl⟩) (by assumption) ?_
  (try simp only [Act.put, List.setIfInBounds_toArray, List.set_cons_zero, List.set_cons_succ])
  refine take_first 7 (v := ?_) rfl (by kernel_rfl) (by kernel_rfl) (by kernel_rfl) (fun _ _ _ h => h) (Or.inl ⟨by rfl, by intro wx hSw; (try dsimp only at hSw); obtain ⟨a1, a2, a3⟩ := hSw; go_simp; try with_reducible rfl⟩) (by assumption) ?_
  (try simp only [Act.put, List.setIfInBounds_toArray, List.set_cons_zero, List.set_cons_succ])
  refine take_first 8 (v := ?_) rfl (by kernel_rfl) (by kernel_rfl) (by kernel_rfl) (fun _ _ _ h => h) (Or.inl ⟨by rfl, by intro wx hSw; (try dsimp only at hSw); obtain ⟨a1, a2, a3⟩ := hSw; go_simp; try with_reducible rfl⟩) (by assumption) ?_
  (try simp only [Act.put, List.setIfInBounds_toArray, List.set_cons_zero, List.set_cons_succ])
  refine take_first 9 (v := ?_) rfl (by kernel_rfl) (by kernel_rfl) (by kernel_rfl) (fun _ _ _ h => h) (Or.inl ⟨by rfl, by intro wx hSw; (try dsimp only at hSw); obtain ⟨a1, a2, a3⟩ := hSw; go_simp; try with_reducible rfl⟩) (by assumption) ?_
  (try simp only [Act.put, List.setIfInBounds_toArray, List.set_cons_zero, List.set_cons_succ])
  refine take_first 10 (v := ?_) rfl (by kernel_rfl) (by kernel_rfl) (by kernel_rfl) (fun _ _ _ h => h) (Or.inl ⟨by rfl, by intro wx hSw; (try dsimp only at hSw); obtain ⟨a1, a2, a3⟩ := hSw; go_simp; try with_reducible rfl⟩) (by assumption) ?_
  (try simp only [Act.put, List.setIfInBounds_toArray, List.set_cons_zero, List.set_cons_succ])
  refine comes_up 11 rfl (by kernel_rfl) (fun K hK => ?_)
  go_simp
  refine hj.mono ?_
  rintro e w2 ⟨so, sc, rfl, hss, hb2⟩
  obtain ⟨x1, x2, x3⟩ := HX.out
  have hS2 : w2.cell? ⟨p, 0, none⟩ = some (.int .u64 (P.id.1 : Nat)) ∧ w2.cell? ⟨p, 1, none⟩ = some (.int .i64 P.id.2) ∧ w2.cell? ⟨p, 2, none⟩ = some (.int .u16 (P.set : Nat)) := ⟨bl_cell hb2 hS.1, bl_cell hb2 hS.2.1, bl_cell hb2 hS.2.2⟩
  have hB2 := (hb2.block w.heap.size (by omega)).trans hB
  have hS3 : (w2.setRow w.heap.size #[.int .u8 5, .int .i64 0, .int .u64 (P.id.1 : Nat), .int .i64 P.id.2, .int .u16 (P.set : Nat), .int .u64 0, .int .i64 0, .int .u64 0, .int .i64 0, .slice so (joinD P.sts).length sc, .int .u64 0, .slice none 0 0, .slice none 0 0, .int .u64 0, .int .u64 0]).cell? ⟨p, 0, none⟩ = some (.int .u64 (P.id.1 : Nat)) ∧ (w2.setRow w.heap.size #[.int .u8 5, .int .i64 0, .int .u64 (P.id.1 : Nat), .int .i64 P.id.2, .int .u16 (P.set : Nat), .int .u64 0, .int .i64 0, .int .u64 0, .int .i64 0, .slice so (joinD P.sts).length sc, .int .u64 0, .slice none 0 0, .slice none 0 0, .int .u64 0, .int .u64 0]).cell? ⟨p, 1, none⟩ = some (.int .i64 P.id.2) ∧ (w2.setRow w.heap.size #[.int .u8 5, .int .i64 0, .int .u64 (P.id.1 : Nat), .int .i64 P.id.2, .int .u16 (P.set : Nat), .int .u64 0, .int .i64 0, .int .u64 0, .int .i64 0, .slice so (joinD P.sts).length sc, .int .u64 0, .slice none 0 0, .slice none 0 0, .int .u64 0, .int .u64 0]).cell? ⟨p, 2, none⟩ = some (.int .u16 (P.set : Nat)) := ⟨cell_row hS2.1 (by omega), cell_row hS2.2.1 (by omega), cell_row hS2.2.2 (by omega)⟩
  have hset := setRow_heap w2 w.heap.size _ #[.int .u8 5, .int .i64 0, .int .u64 (P.id.1 : Nat), .int .i64 P.id.2, .int .u16 (P.set : Nat), .int .u64 0, .int .i64 0, .int .u64 0, .int .i64 0, .slice so (joinD P.sts).length sc, .int .u64 0, .slice none 0 0, .slice none 0 0, .int .u64 0, .int .u64 0] 43 (0, 0) hB2
  have HE : Hid (Ss (fun b => w.heap.size ≤ b) (w2.setRow w.heap.size #[.int .u8 5, .int .i64 0, .int .u64 (P.id.1 : Nat), .int .i64 P.id.2, .int .u16 (P.set : Nat), .int .u64 0, .int .i64 0, .int .u64 0, .int .i64 0, .slice so (joinD P.sts).length sc, .int .u64 0, .slice none 0 0, .slice none 0 0, .int .u64 0, .int .u64 0]) so (joinD P.sts).length (joinD P.sts) ∧ Below w.heap.size w (w2.setRow w.heap.size #[.int .u8 5, .int .i64 0, .int .u64 (P.id.1 : Nat), .int .i64 P.id.2, .int .u16 (P.set : Nat), .int .u64 0, .int .i64 0, .int .u64 0, .int .i64 0, .slice so (joinD P.sts).length sc, .int .u64 0, .slice none 0 0, .slice none 0 0, .int .u64 0, .int .u64 0])) :=
    ⟨(hss.keep (kp_row (fun b hb => by have hb' : w1.heap.size ≤ b := hb; omega))).imp (fun b _ hb => by have hb' : w1.heap.size ≤ b := hb; omega), bl_row (bl_step x3 hb2) (Nat.le_refl _)⟩
  have HF : Hid (fval (commitF P) ⟨so, sc, none, 0, none, 0⟩ = .agg #[.int .u8 5, .int .i64 0, .int .u64 (P.id.1 : Nat), .int .i64 P.id.2, .int .u16 (P.set : Nat), .int .u64 0, .int .i64 0, .int .u64 0, .int .i64 0, .slice so (joinD P.sts).length sc, .int .u64 0, .slice none 0 0, .slice none 0 0, .int .u64 0, .int .u64 0]) := rfl
  clear hj hss hb2 HX hS hB x1 x2 x3
  go_wp2_with fail
  refine hK.out _ _ hS2 (fun hHeld => ?_)
  clear hK K
  (try simp only [Act.put, List.setIfInBounds_toArray, List.set_cons_zero, List.set_cons_succ])
  refine take_first 12 (v := ?_) rfl (by kernel_rfl) (by kernel_rfl) (by kernel_rfl) (fun _ _ _ h => h) (Or.inl ⟨by rfl, by intro wx hSw; (try dsimp only at hSw); obtain ⟨a1, a2, a3⟩ := hSw; go_simp; try with_reducible rfl⟩) (by assumption) ?_
  (try simp only [Act.put, List.setIfInBounds_toArray, List.set_cons_zero, List.set_cons_succ])
  refine comes_up 13 rfl (by kernel_rfl) (fun K hK => ?_)
  refine step_store_row rfl 43 (.tmp 2) (.tmp 15) rfl w.heap.size #[.int .u8 5, .int .i64 0, .int .u64 (P.id.1 : Nat), .int .i64 P.id.2, .int .u16 (P.set : Nat), .int .u64 0, .int .i64 0, .int .u64 0, .int .i64 0, .slice so (joinD P.sts).length sc, .int .u64 0, .slice none 0 0, .slice none 0 0, .int .u64 0, .int .u64 0] rfl rfl 43 _ hB2 info43 rfl (by simp [Value.oneCell']) ?_
  refine hK.out _ _ hS3 (fun hHeld => ?_)
  clear hK K
  (try simp only [Act.put])
  refine wpAnyH_done (by kernel_rfl) ?_ _
  refine NoPanic.normal ?_
  go_wp2
  refine bodyPost_ret (results_cell1 (g := w.heap.size) Tryd.results63 rfl (run_loadVar_row _ w.heap.size 43 43 _ (0, 0) _ hset Tryd.underlying43 rfl info43)) rfl ?_
  exact ⟨so, sc, by rw [HF.out], HE.out⟩

set_option maxRecDepth 10000 in
set_option maxHeartbeats 1000000 in
theorem out_any (h : Mb w F Z q M o) (t : Nat) (Fr : PF) (a : Fa) : Calls Tryd.prog 72 #[.pointer (some ⟨q, 0, none⟩), .int .i64 (t : Nat), fval Fr a] w fun e w' => e = .returned (oval t (Fr.by_ M.self) a) ∧ Below w.heap.size w w' := by
  have k1 := (h.still (bl2 w (.cells #[.int .u8 (Fr.kind : Nat), .int .i64 Fr.frm, .int .u64 (Fr.idN : Nat), .int .i64 Fr.idP, .int .u16 (Fr.set : Nat), .int .u64 (Fr.curN : Nat), .int .i64 Fr.curP, .int .u64 (Fr.promN : Nat), .int .i64 Fr.promP, .slice a.so Fr.st.length a.sc, .int .u64 (Fr.base : Nat), .slice a.mo Fr.ms.length a.mc, .slice a.io Fr.it.length a.ic, .int .u64 (Fr.ack : Nat), .int .u64 (Fr.safe : Nat)] 43) (.cells #[.int .i64 0, .int .u8 0, .int .i64 0, .int .u64 0, .int .i64 0, .int .u16 0, .int .u64 0, .int .i64 0, .int .u64 0, .int .i64 0, .slice none 0 0, .int .u64 0, .slice none 0 0, .slice none 0 0, .int .u64 0, .int .u64 0] 87))).cell 1 (by omega)
  unfold mcell at k1
  have hset : ((w.alloc (.cells #[.int .u8 (Fr.kind : Nat), .int .i64 (M.self : Nat), .int .u64 (Fr.idN : Nat), .int .i64 Fr.idP, .int .u16 (Fr.set : Nat), .int .u64 (Fr.curN : Nat), .int .i64 Fr.curP, .int .u64 (Fr.promN : Nat), .int .i64 Fr.promP, .slice a.so Fr.st.length a.sc, .int .u64 (Fr.base : Nat), .slice a.mo Fr.ms.length a.mc, .slice a.io Fr.it.length a.ic, .int .u64 (Fr.ack : Nat), .int .u64 (Fr.safe : Nat)] 43)).alloc (.cells #[.int .i64 (t : Nat), .int .u8 (Fr.kind : Nat), .int .i64 (M.self : Nat), .int .u64 (Fr.idN : Nat), .int .i64 Fr.idP, .int .u16 (Fr.set : Nat), .int .u64 (Fr.curN : Nat), .int .i64 Fr.curP, .int .u64 (Fr.promN : Nat), .int .i64 Fr.promP, .slice a.so Fr.st.length a.sc, .int .u64 (Fr.base : Nat), .slice a.mo Fr.ms.length a.mc, .slice a.io Fr.it.length a.ic, .int .u64 (Fr.ack : Nat), .int .u64 (Fr.safe : Nat)] 87)).heap[w.heap.size + 1]? = some (.cells #[.int .i64 (t : Nat), .int .u8 (Fr.kind : Nat), .int .i64 (M.self : Nat), .int .u64 (Fr.idN : Nat), .int .i64 Fr.idP, .int .u16 (Fr.set : Nat), .int .u64 (Fr.curN : Nat), .int .i64 Fr.curP, .int .u64 (Fr.promN : Nat), .int .i64 Fr.promP, .slice a.so Fr.st.length a.sc, .int .u64 (Fr.base : Nat), .slice a.mo Fr.ms.length a.mc, .slice a.io Fr.it.length a.ic, .int .u64 (Fr.ack : Nat), .int .u64 (Fr.safe : Nat)] 87 (0, 0)) := by
    have := heap_alloc_new (w.alloc (.cells #[.int .u8 (Fr.kind : Nat), .int .i64 (M.self : Nat), .int .u64 (Fr.idN : Nat), .int .i64 Fr.idP, .int .u16 (Fr.set : Nat), .int .u64 (Fr.curN : Nat), .int .i64 Fr.curP, .int .u64 (Fr.promN : Nat), .int .i64 Fr.promP, .slice a.so Fr.st.length a.sc, .int .u64 (Fr.base : Nat), .slice a.mo Fr.ms.length a.mc, .slice a.io Fr.it.length a.ic, .int .u64 (Fr.ack : Nat), .int .u64 (Fr.safe : Nat)] 43)) (.cells #[.int .i64 (t : Nat), .int .u8 (Fr.kind : Nat), .int .i64 (M.self : Nat), .int .u64 (Fr.idN : Nat), .int .i64 Fr.idP, .int .u16 (Fr.set : Nat), .int .u64 (Fr.curN : Nat), .int .i64 Fr.curP, .int .u64 (Fr.promN : Nat), .int .i64 Fr.promP, .slice a.so Fr.st.length a.sc, .int .u64 (Fr.base : Nat), .slice a.mo Fr.ms.length a.mc, .slice a.io Fr.it.length a.ic, .int .u64 (Fr.ack : Nat), .int .u64 (Fr.safe : Nat)] 87)
    simpa using this
  have HE : Hid (Below w.heap.size w ((w.alloc (.cells #[.int .u8 (Fr.kind : Nat), .int .i64 (M.self : Nat), .int .u64 (Fr.idN : Nat), .int .i64 Fr.idP, .int .u16 (Fr.set : Nat), .int .u64 (Fr.curN : Nat), .int .i64 Fr.curP, .int .u64 (Fr.promN : Nat), .int .i64 Fr.promP, .slice a.so Fr.st.length a.sc, .int .u64 (Fr.base : Nat), .slice a.mo Fr.ms.length a.mc, .slice a.io Fr.it.length a.ic, .int .u64 (Fr.ack : Nat), .int .u64 (Fr.safe : Nat)] 43)).alloc (.cells #[.int .i64 (t : Nat), .int .u8 (Fr.kind : Nat), .int .i64 (M.self : Nat), .int .u64 (Fr.idN : Nat), .int .i64 Fr.idP, .int .u16 (Fr.set : Nat), .int .u64 (Fr.curN : Nat), .int .i64 Fr.curP, .int .u64 (Fr.promN : Nat), .int .i64 Fr.promP, .slice a.so Fr.st.length a.sc, .int .u64 (Fr.base : Nat), .slice a.mo Fr.ms.length a.mc, .slice a.io Fr.it.length a.ic, .int .u64 (Fr.ack : Nat), .int .u64 (Fr.safe : Nat)] 87))) := bl2 _ _ _
  have HF : Hid (oval t (Fr.by_ M.self) a = .agg #[.int .i64 (t : Nat), .int .u8 (Fr.kind : Nat), .int .i64 (M.self : Nat), .int .u64 (Fr.idN : Nat), .int .i64 Fr.idP, .int .u16 (Fr.set : Nat), .int .u64 (Fr.curN : Nat), .int .i64 Fr.curP, .int .u64 (Fr.promN : Nat), .int .i64 Fr.promP, .slice a.so Fr.st.length a.sc, .int .u64 (Fr.base : Nat), .slice a.mo Fr.ms.length a.mc, .slice a.io Fr.it.length a.ic, .int .u64 (Fr.ack : Nat), .int .u64 (Fr.safe : Nat)]) := rfl
  clear h
  rw [HF.out]
  clear HF
  unfold fval fcells
  go_enter Tryd.func72, Tryd.ntmps72
  go_wp2
  refine bodyPost_ret (results_cell1 (g := w.heap.size + 1) Tryd.results72 rfl (run_loadVar_row _ (w.heap.size + 1) 87 87 _ (0, 0) _ hset Tryd.underlying87 rfl info87)) rfl ?_
  exact ⟨rfl, HE.out⟩
end
end Go.Proofs.YtlonbbepoamnmaaDoor
