/-
  A commit (Member.committed).
-/
import Derived.Test.YtlonbbepoamnmaaDoorMIn2
namespace Go.Proofs.YtlonbbepoamnmaaDoor
open Go.RowKit
set_option linter.unusedVariables false
def CommitPost (w : World) (F Z : Nat → Prop) (q : Nat) (R : Res) (e : Ending) (w' : World) : Prop := ∃ iv, e = .returned (.tuple #[iv, .int .i64 (R.err : Nat)]) ∧ ∃ F' Z' o', Sp w F Z w' F' Z' ∧ Mb w' F' Z' q R.m o' ∧ InstIs w' Z' iv R.inst
theorem pr_keep {B q : Nat} {Fr : PF} {M : Mm} {w w' : World} (h : Pr B q Fr M w) (b : Below w.heap.size w w') : Pr B q Fr M w' := by
  obtain ⟨a1, a2, a3, a4, a5, a6, a7, a8, a9, a10⟩ := h
  exact ⟨bl_cell b a1, bl_cell b a2, bl_cell b a3, bl_cell b a4, bl_cell b a5, bl_cell b a6, bl_cell b a7, bl_cell b a8, bl_cell b a9, bl_cell b a10⟩
theorem committed_no {M : Mm} {Fr : PF} (h : Fr.id ≠ M.prom ∨ Fr.id = M.cur ∨ hasN Fr.set (M.self : Nat) = false ∨ Fr.idP ≠ Fr.frm) : M.committed Fr = ⟨M, [], none, 9⟩ := by unfold Mm.committed; rw [if_pos h]
theorem committed_yes {M : Mm} {Fr : PF} (h : ¬ (Fr.id ≠ M.prom ∨ Fr.id = M.cur ∨ hasN Fr.set (M.self : Nat) = false ∨ Fr.idP ≠ Fr.frm)) : M.committed Fr = ⟨{ M with cur := Fr.id, cset := Fr.set }, [], some ⟨Fr.id, Fr.set, Fr.st⟩, 0⟩ := by unfold Mm.committed; rw [if_neg h]
section
variable {w : World} {F Z : Nat → Prop} {q p : Nat} {M : Mm} {P : Pp} {o : Option Nat}

set_option maxRecDepth 10000 in
set_option maxHeartbeats 2000000 in
theorem committed_any (h : Mb w F Z q M o) (Fr : PF) (a : Fa) (hss : Ss Z w a.so Fr.st.length Fr.st) (hst : Fr.st.length ≤ 2932031007402) (hset : Fr.set < 65536) : Calls Tryd.prog 49 #[.pointer (some ⟨q, 0, none⟩), fval Fr a] w fun e w' => CommitPost w F Z q (M.committed Fr) e w' := by
  have hql := h.lt q h.fq
  obtain ⟨w1, hw1⟩ : ∃ w1, w.alloc (.cells (fcells Fr a) 43) = w1 := ⟨_, rfl⟩
  have hb1 : Below w.heap.size w w1 := by rw [← hw1]; exact bl1 _ _
  have h1 := h.still hb1
  have hB : w1.heap[w.heap.size]? = some (.cells (fcells Fr a) 43 (0, 0)) := by rw [← hw1]; exact heap_alloc_new _ _
  have hS : Pr w.heap.size q Fr M w1.drew := pr_of (h1.still ((Below.refl _ w1).drew)) hB
  have hhas := fun W => has_any W Fr.set hset ((M.self : Nat) : Int)
  have hq1 := fun W => vid_equal Fr.idN Fr.idP M.prom.1 M.prom.2 W
  have hv1 : decide (Fr.idN = M.prom.1 ∧ Fr.idP = M.prom.2) = decide (Fr.id = M.prom) := vid_eq2 Fr.id M.prom
  rw [hv1] at hq1
  have hq2 := fun W => vid_equal Fr.idN Fr.idP M.cur.1 M.cur.2 W
  have hv2 : decide (Fr.idN = M.cur.1 ∧ Fr.idP = M.cur.2) = decide (Fr.id = M.cur) := vid_eq2 Fr.id M.cur
  rw [hv2] at hq2
  have HM : Hid (Mb w1 F Z q M o ∧ Sp w F Z w1 F Z ∧ w1.heap[w.heap.size]? = some (.cells (fcells Fr a) 43 (0, 0)) ∧ Ss Z w1 a.so Fr.st.length Fr.st ∧ (¬ F w.heap.size)) := ⟨h1, Sp.still hb1 h.zl, hB, hss.keep (Kp.up hb1), fun hf => by have := h.lt _ hf; omega⟩
  have HW : Hid (w.alloc (.cells (fcells Fr a) 43) = w1) := hw1
  have HC : Hid (∀ W, Below w1.heap.size w1 W → M.committed Fr = ⟨M, [], none, 9⟩ → CommitPost w F Z q (M.committed Fr) (.returned (.tuple #[.pointer none, .int .i64 9])) W) := fun W u e => by
    rw [e]
    exact ⟨_, rfl, F, Z, o, HM.out.2.1.trans (Sp.still u HM.out.1.zl), HM.out.1.still u, rfl⟩
  clear h h1 hb1 hB hw1 hql hss hv1 hv2
  unfold fval
  have HW2 := HW.out
  unfold fcells at HW2 ⊢
  replace HW : Hid _ := HW2
  clear HW2
  by_cases e1 : Fr.id = M.prom
  · rw [show decide (Fr.id = M.prom) = true by simpa using e1] at hq1
    by_cases e2 : Fr.id = M.cur
    · rw [show decide (Fr.id = M.cur) = true by simpa using e2] at hq2
      have HE : Hid (CommitPost w F Z q (M.committed Fr) (.returned (.tuple #[.pointer none, .int .i64 9])) w1.drew) := HC.out _ ((Below.refl _ _).drew) (committed_no (.inr (.inl e2)))
      clear HC HM hhas e1 e2
      go_enter Tryd.func49, Tryd.ntmps49
      go_wp2_with fail
      rw [HW.out]
      refine wp_region_noPanic ?_
      refine wp_region_held_drew (S := fun wx => Pr w.heap.size q Fr M wx) (by kernel_rfl) hS (fun hHeld => ?_)
      refine tk 0 rfl (fun wx ⟨a1, a2, a3, a4, a5, a6, a7, a8, a9, a10⟩ => by go_simp; try with_reducible rfl) ?_
      refine tk 1 rfl (fun wx ⟨a1, a2, a3, a4, a5, a6, a7, a8, a9, a10⟩ => by go_simp; try with_reducible rfl) ?_
      refine tk 2 rfl (fun wx ⟨a1, a2, a3, a4, a5, a6, a7, a8, a9, a10⟩ => by go_simp; try with_reducible rfl) ?_
      refine tk 3 rfl (fun wx ⟨a1, a2, a3, a4, a5, a6, a7, a8, a9, a10⟩ => by go_simp; try with_reducible rfl) ?_
      refine tk 4 rfl (fun wx ⟨a1, a2, a3, a4, a5, a6, a7, a8, a9, a10⟩ => by go_simp; try with_reducible rfl) ?_
      refine tk 5 rfl (fun wx ⟨a1, a2, a3, a4, a5, a6, a7, a8, a9, a10⟩ => by go_simp; try with_reducible rfl) ?_
      refine tk 6 rfl (fun wx ⟨a1, a2, a3, a4, a5, a6, a7, a8, a9, a10⟩ => by go_simp; try with_reducible rfl) ?_
      refine tk 7 rfl (fun wx ⟨a1, a2, a3, a4, a5, a6, a7, a8, a9, a10⟩ => by go_simp; try with_reducible rfl) ?_
      refine tk 8 rfl (fun wx ⟨a1, a2, a3, a4, a5, a6, a7, a8, a9, a10⟩ => by go_simp; try with_reducible rfl) ?_
      refine tk 9 rfl (fun wx ⟨a1, a2, a3, a4, a5, a6, a7, a8, a9, a10⟩ => by go_simp; try with_reducible rfl) ?_
      refine tk 10 rfl (fun wx ⟨a1, a2, a3, a4, a5, a6, a7, a8, a9, a10⟩ => by go_simp; try with_reducible rfl) ?_
      refine tk 11 rfl (fun wx ⟨a1, a2, a3, a4, a5, a6, a7, a8, a9, a10⟩ => by go_simp; try with_reducible rfl) ?_
      refine tk 12 rfl (fun wx ⟨a1, a2, a3, a4, a5, a6, a7, a8, a9, a10⟩ => by go_simp; try with_reducible rfl) ?_
      refine tk 13 rfl (fun wx ⟨a1, a2, a3, a4, a5, a6, a7, a8, a9, a10⟩ => by go_simp; try with_reducible rfl) ?_
      refine tk 14 rfl (fun wx ⟨a1, a2, a3, a4, a5, a6, a7, a8, a9, a10⟩ => by go_simp; try with_reducible rfl) ?_
      refine tk 15 rfl (fun wx ⟨a1, a2, a3, a4, a5, a6, a7, a8, a9, a10⟩ => by go_simp; try with_reducible rfl) ?_
      refine tk 16 rfl (fun wx ⟨a1, a2, a3, a4, a5, a6, a7, a8, a9, a10⟩ => by go_simp; try with_reducible rfl) ?_
      refine tk 17 rfl (fun wx ⟨a1, a2, a3, a4, a5, a6, a7, a8, a9, a10⟩ => by go_simp; try with_reducible rfl) ?_
      refine take_first 18 (v := undef) rfl (by kernel_rfl) (by kernel_rfl) (by kernel_rfl) (fun _ _ _ h => h) (Or.inr ⟨by rfl, rfl⟩) (by assumption) ?_
      (try simp only [Act.put, List.setIfInBounds_toArray, List.set_cons_zero, List.set_cons_succ])
      refine take_first 19 (v := undef) rfl (by kernel_rfl) (by kernel_rfl) (by kernel_rfl) (fun _ _ _ h => h) (Or.inr ⟨by rfl, rfl⟩) (by assumption) ?_
      (try simp only [Act.put, List.setIfInBounds_toArray, List.set_cons_zero, List.set_cons_succ])
      refine take_first 20 (v := undef) rfl (by kernel_rfl) (by kernel_rfl) (by kernel_rfl) (fun _ _ _ h => h) (Or.inr ⟨by rfl, rfl⟩) (by assumption) ?_
      (try simp only [Act.put, List.setIfInBounds_toArray, List.set_cons_zero, List.set_cons_succ])
      refine take_first 21 (v := undef) rfl (by kernel_rfl) (by kernel_rfl) (by kernel_rfl) (fun _ _ _ h => h) (Or.inr ⟨by rfl, rfl⟩) (by assumption) ?_
      (try simp only [Act.put, List.setIfInBounds_toArray, List.set_cons_zero, List.set_cons_succ])
      refine take_first 22 (v := undef) rfl (by kernel_rfl) (by kernel_rfl) (by kernel_rfl) (fun _ _ _ h => h) (Or.inr ⟨by rfl, rfl⟩) (by assumption) ?_
      (try simp only [Act.put, List.setIfInBounds_toArray, List.set_cons_zero, List.set_cons_succ])
      refine take_first 23 (v := undef) rfl (by kernel_rfl) (by kernel_rfl) (by kernel_rfl) (fun _ _ _ h => h) (Or.inr ⟨by rfl, rfl⟩) (by assumption) ?_
      (try simp only [Act.put, List.setIfInBounds_toArray, List.set_cons_zero, List.set_cons_succ])
      refine take_first 24 (v := undef) rfl (by kernel_rfl) (by kernel_rfl) (by kernel_rfl) (fun _ _ _ h => h) (Or.inr ⟨by rfl, rfl⟩) (by assumption) ?_
      (try simp only [Act.put, List.setIfInBounds_toArray, List.set_cons_zero, List.set_cons_succ])
      refine take_first 25 (v := undef) rfl (by kernel_rfl) (by kernel_rfl) (by kernel_rfl) (fun _ _ _ h => h) (Or.inr ⟨by rfl, rfl⟩) (by assumption) ?_
      (try simp only [Act.put, List.setIfInBounds_toArray, List.set_cons_zero, List.set_cons_succ])
      refine tk 26 rfl (fun wx ⟨a1, a2, a3, a4, a5, a6, a7, a8, a9, a10⟩ => by go_simp; try with_reducible rfl) ?_
      refine tk 27 rfl (fun wx ⟨a1, a2, a3, a4, a5, a6, a7, a8, a9, a10⟩ => by go_simp; try with_reducible rfl) ?_
      refine take_first 28 (v := undef) rfl (by kernel_rfl) (by kernel_rfl) (by kernel_rfl) (fun _ _ _ h => h) (Or.inr ⟨by rfl, rfl⟩) (by assumption) ?_
      (try simp only [Act.put, List.setIfInBounds_toArray, List.set_cons_zero, List.set_cons_succ])
      refine take_first 29 (v := undef) rfl (by kernel_rfl) (by kernel_rfl) (by kernel_rfl) (fun _ _ _ h => h) (Or.inr ⟨by rfl, rfl⟩) (by assumption) ?_
      (try simp only [Act.put, List.setIfInBounds_toArray, List.set_cons_zero, List.set_cons_succ])
      refine take_first 30 (v := undef) rfl (by kernel_rfl) (by kernel_rfl) (by kernel_rfl) (fun _ _ _ h => h) (Or.inr ⟨by rfl, rfl⟩) (by assumption) ?_
      (try simp only [Act.put, List.setIfInBounds_toArray, List.set_cons_zero, List.set_cons_succ])
      refine take_first 31 (v := undef) rfl (by kernel_rfl) (by kernel_rfl) (by kernel_rfl) (fun _ _ _ h => h) (Or.inr ⟨by rfl, rfl⟩) (by assumption) ?_
      (try simp only [Act.put, List.setIfInBounds_toArray, List.set_cons_zero, List.set_cons_succ])
      refine take_first 32 (v := undef) rfl (by kernel_rfl) (by kernel_rfl) (by kernel_rfl) (fun _ _ _ h => h) (Or.inr ⟨by rfl, rfl⟩) (by assumption) ?_
      (try simp only [Act.put, List.setIfInBounds_toArray, List.set_cons_zero, List.set_cons_succ])
      refine take_first 33 (v := undef) rfl (by kernel_rfl) (by kernel_rfl) (by kernel_rfl) (fun _ _ _ h => h) (Or.inr ⟨by rfl, rfl⟩) (by assumption) ?_
      (try simp only [Act.put, List.setIfInBounds_toArray, List.set_cons_zero, List.set_cons_succ])
      refine tk 34 rfl (fun wx ⟨a1, a2, a3, a4, a5, a6, a7, a8, a9, a10⟩ => by go_simp; try with_reducible rfl) ?_
      refine wpAnyH_done (by kernel_rfl) ?_ _
      refine NoPanic.normal ?_
      clear hS
      go_wp2
      go_ret2
      exact HE.out
    · rw [show decide (Fr.id = M.cur) = false by simpa using e2] at hq2
      cases hs : hasN Fr.set ((M.self : Nat) : Int) with
      | false =>
        rw [hs] at hhas
        have HE : Hid (CommitPost w F Z q (M.committed Fr) (.returned (.tuple #[.pointer none, .int .i64 9])) w1.drew) := HC.out _ ((Below.refl _ _).drew) (committed_no (.inr (.inr (.inl hs))))
        clear HC HM e1 e2 hs
        go_enter Tryd.func49, Tryd.ntmps49
        go_wp2_with fail
        rw [HW.out]
        refine wp_region_noPanic ?_
        refine wp_region_held_drew (S := fun wx => Pr w.heap.size q Fr M wx) (by kernel_rfl) hS (fun hHeld => ?_)
        refine tk 0 rfl (fun wx ⟨a1, a2, a3, a4, a5, a6, a7, a8, a9, a10⟩ => by go_simp; try with_reducible rfl) ?_
        refine tk 1 rfl (fun wx ⟨a1, a2, a3, a4, a5, a6, a7, a8, a9, a10⟩ => by go_simp; try with_reducible rfl) ?_
        refine tk 2 rfl (fun wx ⟨a1, a2, a3, a4, a5, a6, a7, a8, a9, a10⟩ => by go_simp; try with_reducible rfl) ?_
        refine tk 3 rfl (fun wx ⟨a1, a2, a3, a4, a5, a6, a7, a8, a9, a10⟩ => by go_simp; try with_reducible rfl) ?_
        refine tk 4 rfl (fun wx ⟨a1, a2, a3, a4, a5, a6, a7, a8, a9, a10⟩ => by go_simp; try with_reducible rfl) ?_
        refine tk 5 rfl (fun wx ⟨a1, a2, a3, a4, a5, a6, a7, a8, a9, a10⟩ => by go_simp; try with_reducible rfl) ?_
        refine tk 6 rfl (fun wx ⟨a1, a2, a3, a4, a5, a6, a7, a8, a9, a10⟩ => by go_simp; try with_reducible rfl) ?_
        refine tk 7 rfl (fun wx ⟨a1, a2, a3, a4, a5, a6, a7, a8, a9, a10⟩ => by go_simp; try with_reducible rfl) ?_
        refine tk 8 rfl (fun wx ⟨a1, a2, a3, a4, a5, a6, a7, a8, a9, a10⟩ => by go_simp; try with_reducible rfl) ?_
        refine tk 9 rfl (fun wx ⟨a1, a2, a3, a4, a5, a6, a7, a8, a9, a10⟩ => by go_simp; try with_reducible rfl) ?_
        refine tk 10 rfl (fun wx ⟨a1, a2, a3, a4, a5, a6, a7, a8, a9, a10⟩ => by go_simp; try with_reducible rfl) ?_
        refine tk 11 rfl (fun wx ⟨a1, a2, a3, a4, a5, a6, a7, a8, a9, a10⟩ => by go_simp; try with_reducible rfl) ?_
        refine tk 12 rfl (fun wx ⟨a1, a2, a3, a4, a5, a6, a7, a8, a9, a10⟩ => by go_simp; try with_reducible rfl) ?_
        refine tk 13 rfl (fun wx ⟨a1, a2, a3, a4, a5, a6, a7, a8, a9, a10⟩ => by go_simp; try with_reducible rfl) ?_
        refine tk 14 rfl (fun wx ⟨a1, a2, a3, a4, a5, a6, a7, a8, a9, a10⟩ => by go_simp; try with_reducible rfl) ?_
        refine tk 15 rfl (fun wx ⟨a1, a2, a3, a4, a5, a6, a7, a8, a9, a10⟩ => by go_simp; try with_reducible rfl) ?_
        refine tk 16 rfl (fun wx ⟨a1, a2, a3, a4, a5, a6, a7, a8, a9, a10⟩ => by go_simp; try with_reducible rfl) ?_
        refine tk 17 rfl (fun wx ⟨a1, a2, a3, a4, a5, a6, a7, a8, a9, a10⟩ => by go_simp; try with_reducible rfl) ?_
        refine tk 18 rfl (fun wx ⟨a1, a2, a3, a4, a5, a6, a7, a8, a9, a10⟩ => by go_simp; try with_reducible rfl) ?_
        refine tk 19 rfl (fun wx ⟨a1, a2, a3, a4, a5, a6, a7, a8, a9, a10⟩ => by go_simp; try with_reducible rfl) ?_
        refine tk 20 rfl (fun wx ⟨a1, a2, a3, a4, a5, a6, a7, a8, a9, a10⟩ => by go_simp; try with_reducible rfl) ?_
        refine tk 21 rfl (fun wx ⟨a1, a2, a3, a4, a5, a6, a7, a8, a9, a10⟩ => by go_simp; try with_reducible rfl) ?_
        refine tk 22 rfl (fun wx ⟨a1, a2, a3, a4, a5, a6, a7, a8, a9, a10⟩ => by go_simp; try with_reducible rfl) ?_
        refine tk 23 rfl (fun wx ⟨a1, a2, a3, a4, a5, a6, a7, a8, a9, a10⟩ => by go_simp; try with_reducible rfl) ?_
        refine comes_up 24 rfl (by kernel_rfl) (fun K hK => ?_)
        go_simp
        refine (hhas _).mono ?_
        rintro e w2 ⟨rfl, rfl⟩
        go_wp2_with fail
        refine hK.out _ _ hS (fun hHeld => ?_)
        clear hK K
        (try simp only [Act.put, List.setIfInBounds_toArray, List.set_cons_zero, List.set_cons_succ])
        refine tk 25 rfl (fun wx ⟨a1, a2, a3, a4, a5, a6, a7, a8, a9, a10⟩ => by go_simp; try with_reducible rfl) ?_
        refine tk 26 rfl (fun wx ⟨a1, a2, a3, a4, a5, a6, a7, a8, a9, a10⟩ => by go_simp; try with_reducible rfl) ?_
        refine tk 27 rfl (fun wx ⟨a1, a2, a3, a4, a5, a6, a7, a8, a9, a10⟩ => by go_simp; try with_reducible rfl) ?_
        refine take_first 28 (v := undef) rfl (by kernel_rfl) (by kernel_rfl) (by kernel_rfl) (fun _ _ _ h => h) (Or.inr ⟨by rfl, rfl⟩) (by assumption) ?_
        (try simp only [Act.put, List.setIfInBounds_toArray, List.set_cons_zero, List.set_cons_succ])
        refine take_first 29 (v := undef) rfl (by kernel_rfl) (by kernel_rfl) (by kernel_rfl) (fun _ _ _ h => h) (Or.inr ⟨by rfl, rfl⟩) (by assumption) ?_
        (try simp only [Act.put, List.setIfInBounds_toArray, List.set_cons_zero, List.set_cons_succ])
        refine take_first 30 (v := undef) rfl (by kernel_rfl) (by kernel_rfl) (by kernel_rfl) (fun _ _ _ h => h) (Or.inr ⟨by rfl, rfl⟩) (by assumption) ?_
        (try simp only [Act.put, List.setIfInBounds_toArray, List.set_cons_zero, List.set_cons_succ])
        refine take_first 31 (v := undef) rfl (by kernel_rfl) (by kernel_rfl) (by kernel_rfl) (fun _ _ _ h => h) (Or.inr ⟨by rfl, rfl⟩) (by assumption) ?_
        (try simp only [Act.put, List.setIfInBounds_toArray, List.set_cons_zero, List.set_cons_succ])
        refine take_first 32 (v := undef) rfl (by kernel_rfl) (by kernel_rfl) (by kernel_rfl) (fun _ _ _ h => h) (Or.inr ⟨by rfl, rfl⟩) (by assumption) ?_
        (try simp only [Act.put, List.setIfInBounds_toArray, List.set_cons_zero, List.set_cons_succ])
        refine take_first 33 (v := undef) rfl (by kernel_rfl) (by kernel_rfl) (by kernel_rfl) (fun _ _ _ h => h) (Or.inr ⟨by rfl, rfl⟩) (by assumption) ?_
        (try simp only [Act.put, List.setIfInBounds_toArray, List.set_cons_zero, List.set_cons_succ])
        refine tk 34 rfl (fun wx ⟨a1, a2, a3, a4, a5, a6, a7, a8, a9, a10⟩ => by go_simp; try with_reducible rfl) ?_
        refine wpAnyH_done (by kernel_rfl) ?_ _
        refine NoPanic.normal ?_
        clear hS
        go_wp2
        go_ret2
        exact HE.out
      | true =>
        rw [hs] at hhas
        by_cases e3 : Fr.idP = Fr.frm
        · have hRy := committed_yes (M := M) (Fr := Fr) (by rintro (hh | hh | hh | hh); exact hh e1; exact e2 hh; (rw [hs] at hh; cases hh); exact hh e3)
          obtain ⟨R, hR⟩ : ∃ R, M.committed Fr = R := ⟨_, rfl⟩
          rw [hR] at hRy HC ⊢
          have HR : Hid (R = ⟨{ M with cur := Fr.id, cset := Fr.set }, [], some ⟨Fr.id, Fr.set, Fr.st⟩, 0⟩) := hRy
          have E3 : Hid (Fr.idP = Fr.frm) := e3
          clear HC e1 e2 hs hRy hR e3
          go_enter Tryd.func49, Tryd.ntmps49
          go_wp2_with fail
          rw [HW.out]
          refine wp_region_noPanic ?_
          refine wp_region_held_drew (S := fun wx => Pr w.heap.size q Fr M wx) (by kernel_rfl) hS (fun hHeld => ?_)
          refine tk 0 rfl (fun wx ⟨a1, a2, a3, a4, a5, a6, a7, a8, a9, a10⟩ => by go_simp; try with_reducible rfl) ?_
          refine tk 1 rfl (fun wx ⟨a1, a2, a3, a4, a5, a6, a7, a8, a9, a10⟩ => by go_simp; try with_reducible rfl) ?_
          refine tk 2 rfl (fun wx ⟨a1, a2, a3, a4, a5, a6, a7, a8, a9, a10⟩ => by go_simp; try with_reducible rfl) ?_
          refine tk 3 rfl (fun wx ⟨a1, a2, a3, a4, a5, a6, a7, a8, a9, a10⟩ => by go_simp; try with_reducible rfl) ?_
          refine tk 4 rfl (fun wx ⟨a1, a2, a3, a4, a5, a6, a7, a8, a9, a10⟩ => by go_simp; try with_reducible rfl) ?_
          refine tk 5 rfl (fun wx ⟨a1, a2, a3, a4, a5, a6, a7, a8, a9, a10⟩ => by go_simp; try with_reducible rfl) ?_
          refine tk 6 rfl (fun wx ⟨a1, a2, a3, a4, a5, a6, a7, a8, a9, a10⟩ => by go_simp; try with_reducible rfl) ?_
          refine tk 7 rfl (fun wx ⟨a1, a2, a3, a4, a5, a6, a7, a8, a9, a10⟩ => by go_simp; try with_reducible rfl) ?_
          refine tk 8 rfl (fun wx ⟨a1, a2, a3, a4, a5, a6, a7, a8, a9, a10⟩ => by go_simp; try with_reducible rfl) ?_
          refine tk 9 rfl (fun wx ⟨a1, a2, a3, a4, a5, a6, a7, a8, a9, a10⟩ => by go_simp; try with_reducible rfl) ?_
          refine tk 10 rfl (fun wx ⟨a1, a2, a3, a4, a5, a6, a7, a8, a9, a10⟩ => by go_simp; try with_reducible rfl) ?_
          refine tk 11 rfl (fun wx ⟨a1, a2, a3, a4, a5, a6, a7, a8, a9, a10⟩ => by go_simp; try with_reducible rfl) ?_
          refine tk 12 rfl (fun wx ⟨a1, a2, a3, a4, a5, a6, a7, a8, a9, a10⟩ => by go_simp; try with_reducible rfl) ?_
          refine tk 13 rfl (fun wx ⟨a1, a2, a3, a4, a5, a6, a7, a8, a9, a10⟩ => by go_simp; try with_reducible rfl) ?_
          refine tk 14 rfl (fun wx ⟨a1, a2, a3, a4, a5, a6, a7, a8, a9, a10⟩ => by go_simp; try with_reducible rfl) ?_
          refine tk 15 rfl (fun wx ⟨a1, a2, a3, a4, a5, a6, a7, a8, a9, a10⟩ => by go_simp; try with_reducible rfl) ?_
          refine tk 16 rfl (fun wx ⟨a1, a2, a3, a4, a5, a6, a7, a8, a9, a10⟩ => by go_simp; try with_reducible rfl) ?_
          refine tk 17 rfl (fun wx ⟨a1, a2, a3, a4, a5, a6, a7, a8, a9, a10⟩ => by go_simp; try with_reducible rfl) ?_
          refine tk 18 rfl (fun wx ⟨a1, a2, a3, a4, a5, a6, a7, a8, a9, a10⟩ => by go_simp; try with_reducible rfl) ?_
          refine tk 19 rfl (fun wx ⟨a1, a2, a3, a4, a5, a6, a7, a8, a9, a10⟩ => by go_simp; try with_reducible rfl) ?_
          refine tk 20 rfl (fun wx ⟨a1, a2, a3, a4, a5, a6, a7, a8, a9, a10⟩ => by go_simp; try with_reducible rfl) ?_
          refine tk 21 rfl (fun wx ⟨a1, a2, a3, a4, a5, a6, a7, a8, a9, a10⟩ => by go_simp; try with_reducible rfl) ?_
          refine tk 22 rfl (fun wx ⟨a1, a2, a3, a4, a5, a6, a7, a8, a9, a10⟩ => by go_simp; try with_reducible rfl) ?_
          refine tk 23 rfl (fun wx ⟨a1, a2, a3, a4, a5, a6, a7, a8, a9, a10⟩ => by go_simp; try with_reducible rfl) ?_
          refine comes_up 24 rfl (by kernel_rfl) (fun K hK => ?_)
          go_simp
          refine (hhas _).mono ?_
          rintro e w2 ⟨rfl, rfl⟩
          go_wp2_with fail
          refine hK.out _ _ hS (fun hHeld => ?_)
          clear hK K
          (try simp only [Act.put, List.setIfInBounds_toArray, List.set_cons_zero, List.set_cons_succ])
          refine tk 25 rfl (fun wx ⟨a1, a2, a3, a4, a5, a6, a7, a8, a9, a10⟩ => by go_simp; try with_reducible rfl) ?_
          refine tk 26 rfl (fun wx ⟨a1, a2, a3, a4, a5, a6, a7, a8, a9, a10⟩ => by go_simp; try with_reducible rfl) ?_
          refine tk 27 rfl (fun wx ⟨a1, a2, a3, a4, a5, a6, a7, a8, a9, a10⟩ => by go_simp; try with_reducible rfl) ?_
          refine tk 28 rfl (fun wx ⟨a1, a2, a3, a4, a5, a6, a7, a8, a9, a10⟩ => by go_simp; try with_reducible rfl) ?_
          refine tk 29 rfl (fun wx ⟨a1, a2, a3, a4, a5, a6, a7, a8, a9, a10⟩ => by go_simp; try with_reducible rfl) ?_
          refine tk 30 rfl (fun wx ⟨a1, a2, a3, a4, a5, a6, a7, a8, a9, a10⟩ => by go_simp; try with_reducible rfl) ?_
          refine tk 31 rfl (fun wx ⟨a1, a2, a3, a4, a5, a6, a7, a8, a9, a10⟩ => by go_simp; try with_reducible rfl) ?_
          refine tk 32 rfl (fun wx ⟨a1, a2, a3, a4, a5, a6, a7, a8, a9, a10⟩ => by go_simp; try with_reducible rfl) ?_
          refine take_first 33 (v := .bool false) rfl (by kernel_rfl) (by kernel_rfl) (by kernel_rfl) (fun _ _ _ h => h) (Or.inl ⟨by rfl, by intro wx hSw; obtain ⟨a1, a2, a3, a4, a5, a6, a7, a8, a9, a10⟩ := hSw; go_simp; all_goals simpa using E3.out⟩) (by assumption) ?_
          (try simp only [Act.put, List.setIfInBounds_toArray, List.set_cons_zero, List.set_cons_succ])
          refine tk 34 rfl (fun wx ⟨a1, a2, a3, a4, a5, a6, a7, a8, a9, a10⟩ => by go_simp; try with_reducible rfl) ?_
          refine wpAnyH_done (by kernel_rfl) ?_ _
          refine NoPanic.normal ?_
          clear hHeld
          obtain ⟨a1, a2, a3, a4, a5, a6, a7, a8, a9, a10⟩ := hS
          have a4q := (HM.out.1.cell 4 (by omega))
          unfold mcell at a4q
          have f2 := HM.out.1.fr 2
          have f3 := HM.out.1.fr 3
          have f4 := HM.out.1.fr 4
          have b4q : w1.drew.cell? ⟨q, 4, none⟩ = _ := a4q
          have g2 : w1.drew.frozen? ⟨q, 2, none⟩ = false := f2
          have g3 : w1.drew.frozen? ⟨q, 3, none⟩ = false := f3
          have g4 : w1.drew.frozen? ⟨q, 4, none⟩ = false := f4
          have hd1 : Mb w1.drew F Z q M o := HM.out.1.still ((Below.refl _ _).drew)
          have spd : Sp w F Z w1.drew F Z := HM.out.2.1.trans (Sp.still ((Below.refl _ _).drew) HM.out.1.zl)
          obtain ⟨wd, hwd⟩ : ∃ wd, w1.drew = wd := ⟨_, rfl⟩
          rw [hwd] at hd1 spd a1 a2 a3 a4 a5 a6 a7 a8 a9 a10 b4q g2 g3 g4
          obtain ⟨w2, hw2⟩ : ∃ w2, ((wd.setCell ⟨q, 2, none⟩ (.int .u64 (Fr.idN : Nat))).setCell ⟨q, 3, none⟩ (.int .i64 Fr.idP)).setCell ⟨q, 4, none⟩ (.int .u16 (Fr.set : Nat)) = w2 := ⟨_, rfl⟩
          have h2 : Mb w2 F Z q { M with cur := Fr.id, cset := Fr.set } o := by rw [← hw2]; exact hd1.setCur Fr.id Fr.set
          have sp12 : Sp wd F Z w2 F Z := by rw [← hw2]; exact ((hd1.sp.setq hd1.fq _ _).setq hd1.fq _ _).setq hd1.fq _ _
          have hBd : wd.heap[w.heap.size]? = some (.cells (fcells Fr a) 43 (0, 0)) := by rw [← hwd]; exact HM.out.2.2.1
          have hB2 : w2.heap[w.heap.size]? = some (.cells (fcells Fr a) 43 (0, 0)) := (sp12.turned.block _ (heap_lt hBd) HM.out.2.2.2.2).trans hBd
          have hssd : Ss Z wd a.so Fr.st.length Fr.st := by rw [← hwd]; exact HM.out.2.2.2.1
          have hss2 : Ss Z w2.drew a.so Fr.st.length Fr.st := (hssd.keep (sp12.kp hd1.zf)).keep (Kp.up ((Below.refl _ w2).drew))
          have hca := copiedAll_any Z w2.drew a.so Fr.st.length a.sc Fr.st hss2 hst
          have m2 := h2.cell 2 (by omega)
          have m3 := h2.cell 3 (by omega)
          have m4 := h2.cell 4 (by omega)
          unfold mcell at m2 m3 m4
          have hS2 : w2.drew.cell? ⟨q, 2, none⟩ = some (.int .u64 (Fr.idN : Nat)) ∧ w2.drew.cell? ⟨q, 3, none⟩ = some (.int .i64 Fr.idP) ∧ w2.drew.cell? ⟨q, 4, none⟩ = some (.int .u16 (Fr.set : Nat)) ∧ w2.drew.cell? ⟨w.heap.size, 9, none⟩ = some (.slice a.so Fr.st.length a.sc) := ⟨m2, m3, m4, heap_cell (j := 9) hB2 rfl⟩
          have HM2 : Hid (Mb w2 F Z q { M with cur := Fr.id, cset := Fr.set } o ∧ Sp w F Z w2 F Z) := ⟨h2, spd.trans sp12⟩
          clear h2 sp12 hBd hB2 hssd hss2 m2 m3 m4 HM hd1 spd a4q f2 f3 f4 hq1 hq2 hhas
          simp only [hwd]
          clear hwd
          go_wp2_with fail
          (try simp only [hw2])
          clear hw2 a1 a2 a3 a4 a5 a6 a7 a8 a9 a10 b4q g2 g3 g4
          refine wp_region_noPanic ?_
          refine wp_region_held_drew (S := fun wx => wx.cell? ⟨q, 2, none⟩ = some (.int .u64 (Fr.idN : Nat)) ∧ wx.cell? ⟨q, 3, none⟩ = some (.int .i64 Fr.idP) ∧ wx.cell? ⟨q, 4, none⟩ = some (.int .u16 (Fr.set : Nat)) ∧ wx.cell? ⟨w.heap.size, 9, none⟩ = some (.slice a.so Fr.st.length a.sc)) (by kernel_rfl) hS2 (fun hHeld => ?_)
          refine tk 0 rfl (fun wx ⟨c1, c2, c3, c4⟩ => by go_simp; try with_reducible rfl) ?_
          refine tk 1 rfl (fun wx ⟨c1, c2, c3, c4⟩ => by go_simp; try with_reducible rfl) ?_
          refine tk 2 rfl (fun wx ⟨c1, c2, c3, c4⟩ => by go_simp; try with_reducible rfl) ?_
          refine tk 3 rfl (fun wx ⟨c1, c2, c3, c4⟩ => by go_simp; try with_reducible rfl) ?_
          refine tk 4 rfl (fun wx ⟨c1, c2, c3, c4⟩ => by go_simp; try with_reducible rfl) ?_
          refine tk 5 rfl (fun wx ⟨c1, c2, c3, c4⟩ => by go_simp; try with_reducible rfl) ?_
          refine comes_up 6 rfl (by kernel_rfl) (fun K hK => ?_)
          go_simp
          refine hca.mono ?_
          rintro e w3 ⟨ao3, cap3, rfl, hss3, hb3⟩
          have hb3' : Below w2.heap.size w2 w3 := ⟨hb3.os, hb3.tape, hb3.output, hb3.size, hb3.block⟩
          have hS3 : w3.cell? ⟨q, 2, none⟩ = some (.int .u64 (Fr.idN : Nat)) ∧ w3.cell? ⟨q, 3, none⟩ = some (.int .i64 Fr.idP) ∧ w3.cell? ⟨q, 4, none⟩ = some (.int .u16 (Fr.set : Nat)) ∧ w3.cell? ⟨w.heap.size, 9, none⟩ = some (.slice a.so Fr.st.length a.sc) := ⟨bl_cell hb3' hS2.1, bl_cell hb3' hS2.2.1, bl_cell hb3' hS2.2.2.1, bl_cell hb3' hS2.2.2.2⟩
          obtain ⟨o5, ho5⟩ : ∃ o5 : Obj, Obj.cells #[.int .u64 (Fr.idN : Nat), .int .i64 Fr.idP, .int .u16 (Fr.set : Nat), .slice ao3 Fr.st.length cap3] 82 = o5 := ⟨_, rfl⟩
          have hb5 : Below w2.heap.size w2 (w3.alloc o5) := hb3'.alloc hb3'.size o5
          have hS5 : (w3.alloc o5).cell? ⟨q, 2, none⟩ = some (.int .u64 (Fr.idN : Nat)) ∧ (w3.alloc o5).cell? ⟨q, 3, none⟩ = some (.int .i64 Fr.idP) ∧ (w3.alloc o5).cell? ⟨q, 4, none⟩ = some (.int .u16 (Fr.set : Nat)) ∧ (w3.alloc o5).cell? ⟨w.heap.size, 9, none⟩ = some (.slice a.so Fr.st.length a.sc) := ⟨bl_cell hb5 hS2.1, bl_cell hb5 hS2.2.1, bl_cell hb5 hS2.2.2.1, bl_cell hb5 hS2.2.2.2⟩
          have HE : Hid (CommitPost w F Z q R (.returned (.tuple #[.pointer (some ⟨w3.heap.size, 0, none⟩), .int .i64 0])) (w3.alloc o5)) := by
            rw [HR.out]
            refine ⟨_, rfl, F, nz Z w2 (w3.alloc o5), o, HM2.out.2.trans (Sp.up hb5 HM2.out.1.zl), HM2.out.1.up hb5, w3.heap.size, rfl, .inr ⟨hb3'.size, by simp⟩, ao3, cap3, ?_, ?_⟩
            · rw [← ho5]; exact heap_alloc_new _ _
            · exact ((hss3.imp (q := fun b => w2.heap.size ≤ b ∧ b < w3.heap.size) (fun b hl hb => ⟨hb, hl⟩)).keep (Kp.up (bl1 w3 o5))).imp (fun b _ hb => .inr ⟨hb.1, by simp; omega⟩)
          rw [← ho5] at hS5 HE
          clear ho5 hca hss3 hb3 hb3' hb5 HM2 hS2 HR
          go_wp2_with fail
          refine hK.out _ _ hS3 (fun hHeld => ?_)
          clear hK K
          (try simp only [Act.put, List.setIfInBounds_toArray, List.set_cons_zero, List.set_cons_succ])
          refine tk 7 rfl (fun wx ⟨c1, c2, c3, c4⟩ => by go_simp; try with_reducible rfl) ?_
          refine comes_up 8 rfl (by kernel_rfl) (fun K hK => ?_)
          go_simp
          refine hK.out _ _ hS5 (fun hHeld => ?_)
          clear hK K
          (try simp only [Act.put, List.setIfInBounds_toArray, List.set_cons_zero, List.set_cons_succ])
          refine tk 9 rfl (fun wx ⟨c1, c2, c3, c4⟩ => by go_simp; try with_reducible rfl) ?_
          refine tk 10 rfl (fun wx ⟨c1, c2, c3, c4⟩ => by go_simp; try with_reducible rfl) ?_
          refine wpAnyH_done (by kernel_rfl) ?_ _
          refine NoPanic.normal ?_
          clear hS3 hS5
          go_wp2
          go_ret2
          exact HE.out
        · have HE : Hid (CommitPost w F Z q (M.committed Fr) (.returned (.tuple #[.pointer none, .int .i64 9])) w1.drew) := HC.out _ ((Below.refl _ _).drew) (committed_no (.inr (.inr (.inr e3))))
          clear HC HM e1 e2 hs
          go_enter Tryd.func49, Tryd.ntmps49
          go_wp2_with fail
          rw [HW.out]
          refine wp_region_noPanic ?_
          refine wp_region_held_drew (S := fun wx => Pr w.heap.size q Fr M wx) (by kernel_rfl) hS (fun hHeld => ?_)
          refine tk 0 rfl (fun wx ⟨a1, a2, a3, a4, a5, a6, a7, a8, a9, a10⟩ => by go_simp; try with_reducible rfl) ?_
          refine tk 1 rfl (fun wx ⟨a1, a2, a3, a4, a5, a6, a7, a8, a9, a10⟩ => by go_simp; try with_reducible rfl) ?_
          refine tk 2 rfl (fun wx ⟨a1, a2, a3, a4, a5, a6, a7, a8, a9, a10⟩ => by go_simp; try with_reducible rfl) ?_
          refine tk 3 rfl (fun wx ⟨a1, a2, a3, a4, a5, a6, a7, a8, a9, a10⟩ => by go_simp; try with_reducible rfl) ?_
          refine tk 4 rfl (fun wx ⟨a1, a2, a3, a4, a5, a6, a7, a8, a9, a10⟩ => by go_simp; try with_reducible rfl) ?_
          refine tk 5 rfl (fun wx ⟨a1, a2, a3, a4, a5, a6, a7, a8, a9, a10⟩ => by go_simp; try with_reducible rfl) ?_
          refine tk 6 rfl (fun wx ⟨a1, a2, a3, a4, a5, a6, a7, a8, a9, a10⟩ => by go_simp; try with_reducible rfl) ?_
          refine tk 7 rfl (fun wx ⟨a1, a2, a3, a4, a5, a6, a7, a8, a9, a10⟩ => by go_simp; try with_reducible rfl) ?_
          refine tk 8 rfl (fun wx ⟨a1, a2, a3, a4, a5, a6, a7, a8, a9, a10⟩ => by go_simp; try with_reducible rfl) ?_
          refine tk 9 rfl (fun wx ⟨a1, a2, a3, a4, a5, a6, a7, a8, a9, a10⟩ => by go_simp; try with_reducible rfl) ?_
          refine tk 10 rfl (fun wx ⟨a1, a2, a3, a4, a5, a6, a7, a8, a9, a10⟩ => by go_simp; try with_reducible rfl) ?_
          refine tk 11 rfl (fun wx ⟨a1, a2, a3, a4, a5, a6, a7, a8, a9, a10⟩ => by go_simp; try with_reducible rfl) ?_
          refine tk 12 rfl (fun wx ⟨a1, a2, a3, a4, a5, a6, a7, a8, a9, a10⟩ => by go_simp; try with_reducible rfl) ?_
          refine tk 13 rfl (fun wx ⟨a1, a2, a3, a4, a5, a6, a7, a8, a9, a10⟩ => by go_simp; try with_reducible rfl) ?_
          refine tk 14 rfl (fun wx ⟨a1, a2, a3, a4, a5, a6, a7, a8, a9, a10⟩ => by go_simp; try with_reducible rfl) ?_
          refine tk 15 rfl (fun wx ⟨a1, a2, a3, a4, a5, a6, a7, a8, a9, a10⟩ => by go_simp; try with_reducible rfl) ?_
          refine tk 16 rfl (fun wx ⟨a1, a2, a3, a4, a5, a6, a7, a8, a9, a10⟩ => by go_simp; try with_reducible rfl) ?_
          refine tk 17 rfl (fun wx ⟨a1, a2, a3, a4, a5, a6, a7, a8, a9, a10⟩ => by go_simp; try with_reducible rfl) ?_
          refine tk 18 rfl (fun wx ⟨a1, a2, a3, a4, a5, a6, a7, a8, a9, a10⟩ => by go_simp; try with_reducible rfl) ?_
          refine tk 19 rfl (fun wx ⟨a1, a2, a3, a4, a5, a6, a7, a8, a9, a10⟩ => by go_simp; try with_reducible rfl) ?_
          refine tk 20 rfl (fun wx ⟨a1, a2, a3, a4, a5, a6, a7, a8, a9, a10⟩ => by go_simp; try with_reducible rfl) ?_
          refine tk 21 rfl (fun wx ⟨a1, a2, a3, a4, a5, a6, a7, a8, a9, a10⟩ => by go_simp; try with_reducible rfl) ?_
          refine tk 22 rfl (fun wx ⟨a1, a2, a3, a4, a5, a6, a7, a8, a9, a10⟩ => by go_simp; try with_reducible rfl) ?_
          refine tk 23 rfl (fun wx ⟨a1, a2, a3, a4, a5, a6, a7, a8, a9, a10⟩ => by go_simp; try with_reducible rfl) ?_
          refine comes_up 24 rfl (by kernel_rfl) (fun K hK => ?_)
          go_simp
          refine (hhas _).mono ?_
          rintro e w2 ⟨rfl, rfl⟩
          go_wp2_with fail
          refine hK.out _ _ hS (fun hHeld => ?_)
          clear hK K
          (try simp only [Act.put, List.setIfInBounds_toArray, List.set_cons_zero, List.set_cons_succ])
          refine tk 25 rfl (fun wx ⟨a1, a2, a3, a4, a5, a6, a7, a8, a9, a10⟩ => by go_simp; try with_reducible rfl) ?_
          refine tk 26 rfl (fun wx ⟨a1, a2, a3, a4, a5, a6, a7, a8, a9, a10⟩ => by go_simp; try with_reducible rfl) ?_
          refine tk 27 rfl (fun wx ⟨a1, a2, a3, a4, a5, a6, a7, a8, a9, a10⟩ => by go_simp; try with_reducible rfl) ?_
          refine tk 28 rfl (fun wx ⟨a1, a2, a3, a4, a5, a6, a7, a8, a9, a10⟩ => by go_simp; try with_reducible rfl) ?_
          refine tk 29 rfl (fun wx ⟨a1, a2, a3, a4, a5, a6, a7, a8, a9, a10⟩ => by go_simp; try with_reducible rfl) ?_
          refine tk 30 rfl (fun wx ⟨a1, a2, a3, a4, a5, a6, a7, a8, a9, a10⟩ => by go_simp; try with_reducible rfl) ?_
          refine tk 31 rfl (fun wx ⟨a1, a2, a3, a4, a5, a6, a7, a8, a9, a10⟩ => by go_simp; try with_reducible rfl) ?_
          refine tk 32 rfl (fun wx ⟨a1, a2, a3, a4, a5, a6, a7, a8, a9, a10⟩ => by go_simp; try with_reducible rfl) ?_
          refine take_first 33 (v := .bool true) rfl (by kernel_rfl) (by kernel_rfl) (by kernel_rfl) (fun _ _ _ h => h) (Or.inl ⟨by rfl, by intro wx hSw; obtain ⟨a1, a2, a3, a4, a5, a6, a7, a8, a9, a10⟩ := hSw; go_simp; all_goals simpa using e3⟩) (by assumption) ?_
          (try simp only [Act.put, List.setIfInBounds_toArray, List.set_cons_zero, List.set_cons_succ])
          refine tk 34 rfl (fun wx ⟨a1, a2, a3, a4, a5, a6, a7, a8, a9, a10⟩ => by go_simp; try with_reducible rfl) ?_
          refine wpAnyH_done (by kernel_rfl) ?_ _
          refine NoPanic.normal ?_
          clear hS
          go_wp2
          go_ret2
          exact HE.out
  · rw [show decide (Fr.id = M.prom) = false by simpa using e1] at hq1
    have HE : Hid (CommitPost w F Z q (M.committed Fr) (.returned (.tuple #[.pointer none, .int .i64 9])) w1.drew) := HC.out _ ((Below.refl _ _).drew) (committed_no (.inl e1))
    clear HC HM hhas e1 hq2
    go_enter Tryd.func49, Tryd.ntmps49
    go_wp2_with fail
    rw [HW.out]
    refine wp_region_noPanic ?_
    refine wp_region_held_drew (S := fun wx => Pr w.heap.size q Fr M wx) (by kernel_rfl) hS (fun hHeld => ?_)
    refine tk 0 rfl (fun wx ⟨a1, a2, a3, a4, a5, a6, a7, a8, a9, a10⟩ => by go_simp; try with_reducible rfl) ?_
    refine tk 1 rfl (fun wx ⟨a1, a2, a3, a4, a5, a6, a7, a8, a9, a10⟩ => by go_simp; try with_reducible rfl) ?_
    refine tk 2 rfl (fun wx ⟨a1, a2, a3, a4, a5, a6, a7, a8, a9, a10⟩ => by go_simp; try with_reducible rfl) ?_
    refine tk 3 rfl (fun wx ⟨a1, a2, a3, a4, a5, a6, a7, a8, a9, a10⟩ => by go_simp; try with_reducible rfl) ?_
    refine tk 4 rfl (fun wx ⟨a1, a2, a3, a4, a5, a6, a7, a8, a9, a10⟩ => by go_simp; try with_reducible rfl) ?_
    refine tk 5 rfl (fun wx ⟨a1, a2, a3, a4, a5, a6, a7, a8, a9, a10⟩ => by go_simp; try with_reducible rfl) ?_
    refine tk 6 rfl (fun wx ⟨a1, a2, a3, a4, a5, a6, a7, a8, a9, a10⟩ => by go_simp; try with_reducible rfl) ?_
    refine tk 7 rfl (fun wx ⟨a1, a2, a3, a4, a5, a6, a7, a8, a9, a10⟩ => by go_simp; try with_reducible rfl) ?_
    refine take_first 8 (v := undef) rfl (by kernel_rfl) (by kernel_rfl) (by kernel_rfl) (fun _ _ _ h => h) (Or.inr ⟨by rfl, rfl⟩) (by assumption) ?_
    (try simp only [Act.put, List.setIfInBounds_toArray, List.set_cons_zero, List.set_cons_succ])
    refine take_first 9 (v := undef) rfl (by kernel_rfl) (by kernel_rfl) (by kernel_rfl) (fun _ _ _ h => h) (Or.inr ⟨by rfl, rfl⟩) (by assumption) ?_
    (try simp only [Act.put, List.setIfInBounds_toArray, List.set_cons_zero, List.set_cons_succ])
    refine take_first 10 (v := undef) rfl (by kernel_rfl) (by kernel_rfl) (by kernel_rfl) (fun _ _ _ h => h) (Or.inr ⟨by rfl, rfl⟩) (by assumption) ?_
    (try simp only [Act.put, List.setIfInBounds_toArray, List.set_cons_zero, List.set_cons_succ])
    refine take_first 11 (v := undef) rfl (by kernel_rfl) (by kernel_rfl) (by kernel_rfl) (fun _ _ _ h => h) (Or.inr ⟨by rfl, rfl⟩) (by assumption) ?_
    (try simp only [Act.put, List.setIfInBounds_toArray, List.set_cons_zero, List.set_cons_succ])
    refine take_first 12 (v := undef) rfl (by kernel_rfl) (by kernel_rfl) (by kernel_rfl) (fun _ _ _ h => h) (Or.inr ⟨by rfl, rfl⟩) (by assumption) ?_
    (try simp only [Act.put, List.setIfInBounds_toArray, List.set_cons_zero, List.set_cons_succ])
    refine take_first 13 (v := undef) rfl (by kernel_rfl) (by kernel_rfl) (by kernel_rfl) (fun _ _ _ h => h) (Or.inr ⟨by rfl, rfl⟩) (by assumption) ?_
    (try simp only [Act.put, List.setIfInBounds_toArray, List.set_cons_zero, List.set_cons_succ])
    refine take_first 14 (v := undef) rfl (by kernel_rfl) (by kernel_rfl) (by kernel_rfl) (fun _ _ _ h => h) (Or.inr ⟨by rfl, rfl⟩) (by assumption) ?_
    (try simp only [Act.put, List.setIfInBounds_toArray, List.set_cons_zero, List.set_cons_succ])
    refine take_first 15 (v := undef) rfl (by kernel_rfl) (by kernel_rfl) (by kernel_rfl) (fun _ _ _ h => h) (Or.inr ⟨by rfl, rfl⟩) (by assumption) ?_
    (try simp only [Act.put, List.setIfInBounds_toArray, List.set_cons_zero, List.set_cons_succ])
    refine tk 16 rfl (fun wx ⟨a1, a2, a3, a4, a5, a6, a7, a8, a9, a10⟩ => by go_simp; try with_reducible rfl) ?_
    refine tk 17 rfl (fun wx ⟨a1, a2, a3, a4, a5, a6, a7, a8, a9, a10⟩ => by go_simp; try with_reducible rfl) ?_
    refine take_first 18 (v := undef) rfl (by kernel_rfl) (by kernel_rfl) (by kernel_rfl) (fun _ _ _ h => h) (Or.inr ⟨by rfl, rfl⟩) (by assumption) ?_
    (try simp only [Act.put, List.setIfInBounds_toArray, List.set_cons_zero, List.set_cons_succ])
    refine take_first 19 (v := undef) rfl (by kernel_rfl) (by kernel_rfl) (by kernel_rfl) (fun _ _ _ h => h) (Or.inr ⟨by rfl, rfl⟩) (by assumption) ?_
    (try simp only [Act.put, List.setIfInBounds_toArray, List.set_cons_zero, List.set_cons_succ])
    refine take_first 20 (v := undef) rfl (by kernel_rfl) (by kernel_rfl) (by kernel_rfl) (fun _ _ _ h => h) (Or.inr ⟨by rfl, rfl⟩) (by assumption) ?_
    (try simp only [Act.put, List.setIfInBounds_toArray, List.set_cons_zero, List.set_cons_succ])
    refine take_first 21 (v := undef) rfl (by kernel_rfl) (by kernel_rfl) (by kernel_rfl) (fun _ _ _ h => h) (Or.inr ⟨by rfl, rfl⟩) (by assumption) ?_
    (try simp only [Act.put, List.setIfInBounds_toArray, List.set_cons_zero, List.set_cons_succ])
    refine take_first 22 (v := undef) rfl (by kernel_rfl) (by kernel_rfl) (by kernel_rfl) (fun _ _ _ h => h) (Or.inr ⟨by rfl, rfl⟩) (by assumption) ?_
    (try simp only [Act.put, List.setIfInBounds_toArray, List.set_cons_zero, List.set_cons_succ])
    refine take_first 23 (v := undef) rfl (by kernel_rfl) (by kernel_rfl) (by kernel_rfl) (fun _ _ _ h => h) (Or.inr ⟨by rfl, rfl⟩) (by assumption) ?_
    (try simp only [Act.put, List.setIfInBounds_toArray, List.set_cons_zero, List.set_cons_succ])
    refine take_first 24 (v := undef) rfl (by kernel_rfl) (by kernel_rfl) (by kernel_rfl) (fun _ _ _ h => h) (Or.inr ⟨by rfl, rfl⟩) (by assumption) ?_
    (try simp only [Act.put, List.setIfInBounds_toArray, List.set_cons_zero, List.set_cons_succ])
    refine take_first 25 (v := undef) rfl (by kernel_rfl) (by kernel_rfl) (by kernel_rfl) (fun _ _ _ h => h) (Or.inr ⟨by rfl, rfl⟩) (by assumption) ?_
    (try simp only [Act.put, List.setIfInBounds_toArray, List.set_cons_zero, List.set_cons_succ])
    refine tk 26 rfl (fun wx ⟨a1, a2, a3, a4, a5, a6, a7, a8, a9, a10⟩ => by go_simp; try with_reducible rfl) ?_
    refine tk 27 rfl (fun wx ⟨a1, a2, a3, a4, a5, a6, a7, a8, a9, a10⟩ => by go_simp; try with_reducible rfl) ?_
    refine take_first 28 (v := undef) rfl (by kernel_rfl) (by kernel_rfl) (by kernel_rfl) (fun _ _ _ h => h) (Or.inr ⟨by rfl, rfl⟩) (by assumption) ?_
    (try simp only [Act.put, List.setIfInBounds_toArray, List.set_cons_zero, List.set_cons_succ])
    refine take_first 29 (v := undef) rfl (by kernel_rfl) (by kernel_rfl) (by kernel_rfl) (fun _ _ _ h => h) (Or.inr ⟨by rfl, rfl⟩) (by assumption) ?_
    (try simp only [Act.put, List.setIfInBounds_toArray, List.set_cons_zero, List.set_cons_succ])
    refine take_first 30 (v := undef) rfl (by kernel_rfl) (by kernel_rfl) (by kernel_rfl) (fun _ _ _ h => h) (Or.inr ⟨by rfl, rfl⟩) (by assumption) ?_
    (try simp only [Act.put, List.setIfInBounds_toArray, List.set_cons_zero, List.set_cons_succ])
    refine take_first 31 (v := undef) rfl (by kernel_rfl) (by kernel_rfl) (by kernel_rfl) (fun _ _ _ h => h) (Or.inr ⟨by rfl, rfl⟩) (by assumption) ?_
    (try simp only [Act.put, List.setIfInBounds_toArray, List.set_cons_zero, List.set_cons_succ])
    refine take_first 32 (v := undef) rfl (by kernel_rfl) (by kernel_rfl) (by kernel_rfl) (fun _ _ _ h => h) (Or.inr ⟨by rfl, rfl⟩) (by assumption) ?_
    (try simp only [Act.put, List.setIfInBounds_toArray, List.set_cons_zero, List.set_cons_succ])
    refine take_first 33 (v := undef) rfl (by kernel_rfl) (by kernel_rfl) (by kernel_rfl) (fun _ _ _ h => h) (Or.inr ⟨by rfl, rfl⟩) (by assumption) ?_
    (try simp only [Act.put, List.setIfInBounds_toArray, List.set_cons_zero, List.set_cons_succ])
    refine tk 34 rfl (fun wx ⟨a1, a2, a3, a4, a5, a6, a7, a8, a9, a10⟩ => by go_simp; try with_reducible rfl) ?_
    refine wpAnyH_done (by kernel_rfl) ?_ _
    refine NoPanic.normal ?_
    clear hS
    go_wp2
    go_ret2
    exact HE.out
end
end Go.Proofs.YtlonbbepoamnmaaDoor
