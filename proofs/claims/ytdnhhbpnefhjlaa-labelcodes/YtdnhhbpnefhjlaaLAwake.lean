/-
  The document's example of package label.
-/
import Derived.Test.YtdnhhbpnefhjlaaLRefB
namespace Go.Proofs.Ytdnhhbpnefhjlaa
open Go.RowKit Go.Sort
set_option linter.unusedVariables false

set_option maxRecDepth 10000 in
theorem of_any (w : World) (n : Nat) : Calls Try.prog 29 #[.int .u64 (n : Nat)] w fun e w' => e = .returned (.agg #[.int .u64 1, .int .i64 0, .int .u64 (n : Nat), .int .i64 0]) ∧ Up w w' := by
  go_enter Try.func29, Try.ntmps29
  go_wp2
  refine bodyPost_ret (v := .agg #[.int .u64 1, .int .i64 0, .int .u64 (n : Nat), .int .i64 0]) ?_ rfl ⟨rfl, (Up.refl _).alloc _⟩
  simp [results, Try.results29, go_sem]

theorem LR.build (w : World) (ls : List Lb) (hn : ls.length ≤ 1000) : LR (w.alloc (.cells (flat ls).toArray 26)) (some ⟨w.heap.size, 0, none⟩) ls.length ls := by
  refine ⟨rfl, by omega, fun _ => ⟨w.heap.size, 0, rfl, fun j x hj => ?_⟩⟩
  have key : ∀ i, i < 4 → (w.alloc (.cells (flat ls).toArray 26)).cell? ⟨w.heap.size, 0 + j * 4 + i, none⟩ = (cellsL x)[i]? := fun i hi => by
    have e := flat_get ls j x i hj hi
    have hlt : i < (cellsL x).length := by simpa [cellsL] using hi
    rw [List.getElem?_eq_getElem hlt] at e ⊢
    refine cell_box w _ 26 _ _ ?_
    rw [show 0 + j * 4 + i = 4 * j + i by omega]
    simpa using e
  exact ⟨key 0 (by omega), key 1 (by omega), key 2 (by omega), key 3 (by omega)⟩

def o1 : Lb := (1, 0, 1, 0)
def o2 : Lb := (1, 0, 2, 0)
def o3 : Lb := (1, 0, 3, 0)
def o4 : Lb := (1, 0, 4, 0)
theorem ok_o (n : Nat) (h : n < 18446744073709551616) : OkL (1, 0, n, 0) := by unfold OkL In; simp; omega
theorem awake_list {rs : List Lb} (h : rs.Pairwise ltL) (hm : ∀ x, x ∈ rs ↔ x ∈ [o3, o1, o4, o3]) : [o2, o1] ++ out [o2, o1] rs = [o2, o1, o3, o4] := by
  have e : rs = [o1, o3, o4] := by
    refine asc_eq h ?_ (fun x => ?_)
    · simp [o1, o3, o4, ltL]
    · rw [hm x]; simp only [List.mem_cons, List.not_mem_nil, or_false]
      constructor
      · rintro (a | a | a | a)
        · exact Or.inr (Or.inl a)
        · exact Or.inl a
        · exact Or.inr (Or.inr a)
        · exact Or.inr (Or.inl a)
      · rintro (a | a | a)
        · exact Or.inr (Or.inl a)
        · exact Or.inl a
        · exact Or.inr (Or.inr (Or.inl a))
  rw [e]
  decide

set_option maxRecDepth 10000 in
set_option maxHeartbeats 1000000 in
theorem awake_any (w : World) : Calls Try.prog 9 #[] w fun e w' => e = .returned (.bool true) ∧ Below w.heap.size w w' := by
  have f1 := fun W => of_any W 1
  have f2 := fun W => of_any W 2
  have f3 := fun W => of_any W 3
  have f4 := fun W => of_any W 4
  have l1 := fun W => LR.build W [o2, o1] (by simp)
  have l2 := fun W => LR.build W [o3, o1, o4, o3] (by simp)
  have l3 := fun W => LR.build W [o2, o1, o3, o4] (by simp)
  have HB : Hid (∀ W b1 b2, LR W (some b1) 2 [o2, o1] → LR W (some b2) 4 [o3, o1, o4, o3] → Calls Try.prog 19 #[.slice (some b1) 2 2, .slice (some b2) 4 4] W fun e w' => ∃ ao cap, e = .returned (.slice ao 4 cap) ∧ LR w' ao 4 [o2, o1, o3, o4] ∧ Below W.heap.size W w') := by
    intro W b1 b2 h1 h2
    have hok : ∀ x ∈ [o3, o1, o4, o3] ++ [o2, o1], OkL x := by
      intro x hx
      simp only [List.mem_append, List.mem_cons, List.not_mem_nil, or_false] at hx
      rcases hx with (rfl | rfl | rfl | rfl) | rfl | rfl
      all_goals exact ok_o _ (by omega)
    refine (behind_any W (some b1) 2 2 [o2, o1] h1 (fun e => by cases e) (fun x hx => hok x (List.mem_append_right _ hx)) (some b2) 4 4 [o3, o1, o4, o3] h2 (fun e => by cases e) (fun x hx => hok x (List.mem_append_left _ hx)) (by omega) (by omega)).mono ?_
    rintro e w' ⟨v, rs, rfl, hasc, hmem, hown, hb⟩
    have hlist := awake_list hasc hmem
    have hlen : 2 + (out [o2, o1] rs).length = 4 := by
      have := congrArg List.length hlist
      simp at this
      omega
    rw [hlist, hlen] at hown
    obtain ⟨ao, cap, rfl, hLR⟩ := LR.own hown
    exact ⟨ao, cap, rfl, hLR, hb⟩
  have HL : Hid _ := And.intro l1 (And.intro l2 l3)
  clear l1 l2 l3
  go_enter Try.func9, Try.ntmps9
  go_wp2_with fail
  refine (f2 _).mono ?_
  rintro e w1 ⟨rfl, u1⟩
  go_wp2_with fail
  refine (f1 _).mono ?_
  rintro e w2 ⟨rfl, u2⟩
  have b2 := (u1.trans u2).bl
  clear u1 u2
  go_wp2_with fail
  have r3 : LR (w2.alloc (.cells #[.int .u64 1, .int .i64 0, .int .u64 2, .int .i64 0, .int .u64 1, .int .i64 0, .int .u64 1, .int .i64 0] 26)) (some ⟨w2.heap.size, 0, none⟩) 2 [o2, o1] := HL.out.1 w2
  have b3 := b2.alloc b2.size (.cells #[.int .u64 1, .int .i64 0, .int .u64 2, .int .i64 0, .int .u64 1, .int .i64 0, .int .u64 1, .int .i64 0] 26)
  refine (f3 _).mono ?_
  rintro e w4 ⟨rfl, u4⟩
  have r4 := r3.up u4.bl
  have b4 := bl_step b3 u4.bl
  clear r3 b3 u4 b2
  go_wp2_with fail
  refine (f1 _).mono ?_
  rintro e w5 ⟨rfl, u5⟩
  have r5 := r4.up u5.bl
  have b5 := bl_step b4 u5.bl
  clear r4 b4 u5
  go_wp2_with fail
  refine (f4 _).mono ?_
  rintro e w6 ⟨rfl, u6⟩
  have r6 := r5.up u6.bl
  have b6 := bl_step b5 u6.bl
  clear r5 b5 u6
  go_wp2_with fail
  refine (f3 _).mono ?_
  rintro e w7 ⟨rfl, u7⟩
  have r7 := r6.up u7.bl
  have b7 := bl_step b6 u7.bl
  clear r6 b6 u7
  have r8 : LR (w7.alloc (.cells #[.int .u64 1, .int .i64 0, .int .u64 3, .int .i64 0, .int .u64 1, .int .i64 0, .int .u64 1, .int .i64 0, .int .u64 1, .int .i64 0, .int .u64 4, .int .i64 0, .int .u64 1, .int .i64 0, .int .u64 3, .int .i64 0] 26)) (some ⟨w7.heap.size, 0, none⟩) 4 [o3, o1, o4, o3] := HL.out.2.1 w7
  have ub8 : Below w7.heap.size w7 (w7.alloc (.cells #[.int .u64 1, .int .i64 0, .int .u64 3, .int .i64 0, .int .u64 1, .int .i64 0, .int .u64 1, .int .i64 0, .int .u64 1, .int .i64 0, .int .u64 4, .int .i64 0, .int .u64 1, .int .i64 0, .int .u64 3, .int .i64 0] 26)) := bl1 _ _
  have r9 := r7.up ub8
  have b8 := bl_step b7 ub8
  have hbh := HB.out _ _ _ r9 r8
  clear r7 r8 r9 ub8 b7 HB
  go_wp2_with fail
  refine hbh.mono ?_
  rintro e w9 ⟨ao, cap, rfl, r9, hb9⟩
  have b9 := bl_step b8 hb9
  clear hbh b8 hb9
  go_wp2_with fail
  refine (f2 _).mono ?_
  rintro e w10 ⟨rfl, u10⟩
  have r10 := r9.up u10.bl
  have b10 := bl_step b9 u10.bl
  clear r9 b9 u10
  go_wp2_with fail
  refine (f1 _).mono ?_
  rintro e w11 ⟨rfl, u11⟩
  have r11 := r10.up u11.bl
  have b11 := bl_step b10 u11.bl
  clear r10 b10 u11
  go_wp2_with fail
  refine (f3 _).mono ?_
  rintro e w12 ⟨rfl, u12⟩
  have r12 := r11.up u12.bl
  have b12 := bl_step b11 u12.bl
  clear r11 b11 u12
  go_wp2_with fail
  refine (f4 _).mono ?_
  rintro e w13 ⟨rfl, u13⟩
  have r13 := r12.up u13.bl
  have b13 := bl_step b12 u13.bl
  clear r12 b12 u13
  have r14 : LR (w13.alloc (.cells #[.int .u64 1, .int .i64 0, .int .u64 2, .int .i64 0, .int .u64 1, .int .i64 0, .int .u64 1, .int .i64 0, .int .u64 1, .int .i64 0, .int .u64 3, .int .i64 0, .int .u64 1, .int .i64 0, .int .u64 4, .int .i64 0] 26)) (some ⟨w13.heap.size, 0, none⟩) 4 [o2, o1, o3, o4] := HL.out.2.2 w13
  have ub14 : Below w13.heap.size w13 (w13.alloc (.cells #[.int .u64 1, .int .i64 0, .int .u64 2, .int .i64 0, .int .u64 1, .int .i64 0, .int .u64 1, .int .i64 0, .int .u64 1, .int .i64 0, .int .u64 3, .int .i64 0, .int .u64 1, .int .i64 0, .int .u64 4, .int .i64 0] 26)) := bl1 _ _
  have hsm := same_any _ ao 4 cap _ (r13.up ub14) _ 4 4 _ r14
  have b14 := bl_step b13 ub14
  have ht : decide ([o2, o1, o3, o4] = [o2, o1, o3, o4]) = true := by decide
  rw [ht] at hsm
  clear r13 r14 ub14 b13 HL ht f1 f2 f3 f4
  go_wp2_with fail
  refine hsm.mono ?_
  rintro e w15 ⟨rfl, u15⟩
  have b15 := bl_step b14 u15.bl
  clear hsm b14 u15
  go_wp2
  go_ret
  exact ⟨rfl, b15⟩
end Go.Proofs.Ytdnhhbpnefhjlaa
