/-
  A node proposes a view (Member.propose); states are joined (proposal.join, joined).
-/
import Derived.Test.YtlonbbepoamnmaaDoorMAcc
namespace Go.Proofs.YtlonbbepoamnmaaDoor
open Go.RowKit
set_option linter.unusedVariables false

section
variable {w : World} {F Z : Nat → Prop} {q p : Nat} {M : Mm} {P : Pp} {o : Option Nat}

/-- A new proposal, which nobody has accepted yet. -/
theorem Mb.newOwn (h : Mb w F Z q M o) (id : Vid) (e : Nat) (he : e < 65536) :
    Sp w F Z ((w.alloc (.cells #[.int .u64 (id.1 : Nat), .int .i64 id.2, .int .u16 (e : Nat), .int .u16 0, .slice none 0 0] 125)).setCell ⟨q, 8, none⟩ (.pointer (some ⟨w.heap.size, 0, none⟩))) (fun b => F b ∨ b = w.heap.size) Z ∧
    Mb ((w.alloc (.cells #[.int .u64 (id.1 : Nat), .int .i64 id.2, .int .u16 (e : Nat), .int .u16 0, .slice none 0 0] 125)).setCell ⟨q, 8, none⟩ (.pointer (some ⟨w.heap.size, 0, none⟩))) (fun b => F b ∨ b = w.heap.size) Z q { M with own := some ⟨id, e, 0, []⟩ } (some w.heap.size) := by
  have hql := h.lt q h.fq
  obtain ⟨ob, hob⟩ : ∃ ob : Obj, Obj.cells #[.int .u64 (id.1 : Nat), .int .i64 id.2, .int .u16 (e : Nat), .int .u16 0, .slice none 0 0] 125 = ob := ⟨_, rfl⟩
  have hs : (w.alloc ob).heap.size = w.heap.size + 1 := by simp
  have hnew : ((w.alloc ob).setCell ⟨q, 8, none⟩ (.pointer (some ⟨w.heap.size, 0, none⟩))).heap[w.heap.size]? = some (.cells #[.int .u64 (id.1 : Nat), .int .i64 id.2, .int .u16 (e : Nat), .int .u16 0, .slice none 0 0] 125 (0, 0)) := by
    rw [heap_setCell_other _ _ _ _ (by show w.heap.size ≠ q; omega), ← hob]; exact heap_alloc_new _ _
  rw [hob]
  have h1 : Mb (w.alloc ob) F Z q M o := h.still (bl1 w ob)
  refine ⟨⟨((Turned.refl F w).alloc ob).setCell (.inl h.fq) _, fun b hb => hb.elim .inl (fun e => .inr (by omega)), fun _ hz => hz, fun _ hz => .inl hz, fun b hz => by rw [World.size_setCell, hs]; have := h.zl b hz; omega⟩, ?_⟩
  refine { cell := fun k hk => ?_, fr := fun k => by rw [World.frozen?_setCell]; exact h1.fr k, fq := .inl h.fq, lt := ?_, f0 := ?_, zf := ?_, zl := fun b hb => by rw [World.size_setCell]; exact h1.zl b hb, tab := h1.tab.keep (heap_setCell_other _ _ _ _ (by have := h.q0; show 0 ≠ q; omega)), n16 := h.n16, sn := h.sn, own := ?_ }
  · by_cases e : k = 8
    · subst e; rw [set_cell (h1.cell 8 hk)]; rfl
    · rw [set_other e, h1.cell k hk]
      exact congrArg some (mcell_ne (M := { M with own := some ⟨id, _, 0, []⟩ }) (M' := M) (o := some w.heap.size) (o' := o) 8 (fun _ => rfl) (fun _ => rfl) (fun _ => rfl) (fun _ => rfl) (fun _ => rfl) (fun _ => rfl) (fun _ => rfl) (fun _ => rfl) (fun e => absurd rfl e) (fun _ _ _ _ _ => rfl) k hk e)
  · rintro b (hb | rfl)
    · rw [World.size_setCell]; exact h1.lt b hb
    · rw [World.size_setCell]; omega
  · rintro b (hb | rfl)
    · exact h.f0 b hb
    · exact h.tab.lt
  · rintro b hz (hb | rfl)
    · exact h.zf b hz hb
    · have := h.zl _ hz; omega
  · show Pb _ _ _ _ _ _
    exact { ne := by omega, fp := .inr rfl, c0 := heap_cell (j := 0) hnew rfl, c1 := heap_cell (j := 1) hnew rfl, c2 := heap_cell (j := 2) hnew rfl, c3 := heap_cell (j := 3) hnew rfl, fr := fun k => heap_free hnew k, s16 := he, a16 := by show 0 < 65536; omega, len := Nat.zero_le _, row := ⟨none, 0, [], heap_cell (j := 4) hnew rfl, World.ownsRow_nil _ _ _ _, (fun a ha => by cases ha), rfl, (fun j x d hx => by simp at hx)⟩ }

set_option maxRecDepth 10000 in
set_option maxHeartbeats 1000000 in
theorem propose_any (h : Mb w F Z q M o) (e : Nat) (he : e < 65536) (hh : M.high < 18446744073709551615) (x : Sx) (d : Sd) (hd : Si Z w x d) :
    Calls Tryd.prog 32 #[.pointer (some ⟨q, 0, none⟩), .int .u16 (e : Nat), sta x] w fun r w' => r = .returned (.tuple #[]) ∧ ∃ F' Z' p, Sp w F Z w' F' Z' ∧ Mb w' F' Z' q (M.propose e d) (some p) := by
  have hql := h.lt q h.fq
  have hself16 : M.self < 16 := Nat.lt_of_lt_of_le h.sn h.n16
  obtain ⟨o1, ho1⟩ : ∃ o1 : Obj, Obj.cells #[.int .u64 (x.1 : Nat), .int .i64 x.2.1, .int .i64 x.2.2.1, .slice x.2.2.2.1 x.2.2.2.2.1 x.2.2.2.2.2] 45 = o1 := ⟨_, rfl⟩
  have h1 : Mb (w.alloc o1) F Z q M o := h.still (bl1 w o1)
  have k7 := h1.cell 7 (by omega)
  unfold mcell at k7
  have f7 := h1.fr 7
  obtain ⟨w1, hw1⟩ : ∃ w1, (w.alloc o1).setCell ⟨q, 7, none⟩ (.int .u64 ((M.high + 1 : Nat) : Int)) = w1 := ⟨_, rfl⟩
  have hb1 : Mb w1 F Z q { M with high := M.high + 1 } o := by rw [← hw1]; exact h1.setHigh (M.high + 1)
  have sp1 : Sp w F Z w1 F Z := by rw [← hw1]; exact sp_set (w' := w) h1 (Sp.still (bl1 w o1) h.zl) 7 _
  have hbox : w1.heap[w.heap.size]? = some (.cells #[.int .u64 (x.1 : Nat), .int .i64 x.2.1, .int .i64 x.2.2.1, .slice x.2.2.2.1 x.2.2.2.2.1 x.2.2.2.2.2] 45 (0, 0)) := by
    rw [← hw1, heap_setCell_other _ _ _ _ (by show w.heap.size ≠ q; omega), ← ho1]; exact heap_alloc_new _ _
  obtain ⟨w2, hw2⟩ : ∃ w2, ((w1.setCell ⟨q, 5, none⟩ (.int .u64 ((M.high + 1 : Nat) : Int))).setCell ⟨q, 6, none⟩ (.int .i64 (M.self : Nat))).drew = w2 := ⟨_, rfl⟩
  have hb2 : Mb w2 F Z q { M with high := M.high + 1, prom := (M.high + 1, (M.self : Int)) } o := by
    rw [← hw2]
    exact (hb1.setProm (M.high + 1, (M.self : Int))).still ((Below.refl _ _).drew)
  have sp2 : Sp w F Z w2 F Z := by
    have a1 := sp_set (w' := w) hb1 sp1 5 (.int .u64 ((M.high + 1 : Nat) : Int))
    have a2 : Sp w F Z ((w1.setCell ⟨q, 5, none⟩ (.int .u64 ((M.high + 1 : Nat) : Int))).setCell ⟨q, 6, none⟩ (.int .i64 (M.self : Nat))) F Z :=
      a1.trans ⟨(Turned.refl F _).setCell (.inl h.fq) _, fun _ h => .inl h, fun _ h => h, fun _ h => .inl h, fun b hb => by rw [World.size_setCell]; exact a1.zlt b hb⟩
    rw [← hw2]
    exact a2.trans (Sp.still ((Below.refl _ _).drew) a2.zlt)
  have hbox2 : w2.heap[w.heap.size]? = some (.cells #[.int .u64 (x.1 : Nat), .int .i64 x.2.1, .int .i64 x.2.2.1, .slice x.2.2.2.1 x.2.2.2.2.1 x.2.2.2.2.2] 45 (0, 0)) := by
    rw [← hw2]
    show ((w1.setCell ⟨q, 5, none⟩ (.int .u64 ((M.high + 1 : Nat) : Int))).setCell ⟨q, 6, none⟩ (.int .i64 (M.self : Nat))).heap[w.heap.size]? = _
    rw [heap_setCell_other _ _ _ _ (by show w.heap.size ≠ q; omega), heap_setCell_other _ _ _ _ (by show w.heap.size ≠ q; omega)]; exact hbox
  obtain ⟨sp3', hb3⟩ := hb2.newOwn (M.high + 1, (M.self : Int)) e he
  obtain ⟨w3, hw3⟩ : ∃ w3, (w2.alloc (.cells #[.int .u64 ((M.high + 1 : Nat) : Int), .int .i64 (M.self : Nat), .int .u16 (e : Nat), .int .u16 0, .slice none 0 0] 125)).setCell ⟨q, 8, none⟩ (.pointer (some ⟨w2.heap.size, 0, none⟩)) = w3 := ⟨_, rfl⟩
  simp only [hw3] at sp3' hb3
  have sp3 := sp2.trans sp3'
  have hbox3 : w3.heap[w.heap.size]? = some (.cells #[.int .u64 (x.1 : Nat), .int .i64 x.2.1, .int .i64 x.2.2.1, .slice x.2.2.2.1 x.2.2.2.2.1 x.2.2.2.2.2] 45 (0, 0)) := by
    rw [← hw3, heap_setCell_other _ _ _ _ (by show w.heap.size ≠ q; omega), Below.heap_alloc _ _ _ (heap_lt hbox2)]; exact hbox2
  have hac := accept_any (hb3.still ((Below.refl _ w3).drew)) rfl M.self hself16 (by show (0 : Nat).testBit _ = false; simp) x d ((hd.keep (sp3.kp h.zf)).keep (Kp.up ((Below.refl _ w3).drew)))
  have j7 := hb1.cell 7 (by omega)
  have j1 := hb1.cell 1 (by omega)
  have j5 := hb1.cell 5 (by omega)
  have j6 := hb1.cell 6 (by omega)
  unfold mcell at j7 j1 j5 j6
  have f5 := hb1.fr 5
  have f6 := hb1.fr 6
  have hS : w1.drew.cell? ⟨q, 7, none⟩ = some (.int .u64 ((M.high + 1 : Nat) : Int)) ∧ w1.drew.cell? ⟨q, 1, none⟩ = some (.int .i64 (M.self : Nat)) ∧ w1.drew.cell? ⟨q, 5, none⟩ = some (.int .u64 (M.prom.1 : Nat)) ∧ w1.drew.cell? ⟨q, 6, none⟩ = some (.int .i64 M.prom.2) ∧ w1.drew.frozen? ⟨q, 5, none⟩ = false ∧ w1.drew.frozen? ⟨q, 6, none⟩ = false := ⟨j7, j1, j5, j6, f5, f6⟩
  have l5 := hb2.cell 5 (by omega)
  have l6 := hb2.cell 6 (by omega)
  have l8 := (hb2.still (bl1 w2 (.cells #[.int .u64 ((M.high + 1 : Nat) : Int), .int .i64 (M.self : Nat), .int .u16 (e : Nat), .int .u16 0, .slice none 0 0] 125))).cell 8 (by omega)
  have g8 := (hb2.still (bl1 w2 (.cells #[.int .u64 ((M.high + 1 : Nat) : Int), .int .i64 (M.self : Nat), .int .u16 (e : Nat), .int .u16 0, .slice none 0 0] 125))).fr 8
  unfold mcell at l5 l6 l8
  unfold ptr at l8
  simp only at l5 l6
  have m8 := hb3.cell 8 (by omega)
  have m1 := hb3.cell 1 (by omega)
  unfold mcell at m8 m1
  unfold ptr at m8
  simp only [Option.map_some] at m8 m1
  have hS3 : w3.drew.cell? ⟨q, 8, none⟩ = some (.pointer (some ⟨w2.heap.size, 0, none⟩)) ∧ w3.drew.cell? ⟨q, 1, none⟩ = some (.int .i64 (M.self : Nat)) ∧ w3.drew.cell? ⟨w.heap.size, 0, none⟩ = some (.int .u64 (x.1 : Nat)) ∧ w3.drew.cell? ⟨w.heap.size, 1, none⟩ = some (.int .i64 x.2.1) ∧ w3.drew.cell? ⟨w.heap.size, 2, none⟩ = some (.int .i64 x.2.2.1) ∧ w3.drew.cell? ⟨w.heap.size, 3, none⟩ = some (.slice x.2.2.2.1 x.2.2.2.2.1 x.2.2.2.2.2) :=
    ⟨m8, m1, heap_cell (j := 0) hbox3 rfl, heap_cell (j := 1) hbox3 rfl, heap_cell (j := 2) hbox3 rfl, heap_cell (j := 3) hbox3 rfl⟩
  have HR : Hid (∀ (w' : World) F' Z', Sp w3.drew (fun b => F b ∨ b = w2.heap.size) Z w' F' Z' → Mb w' F' Z' q { M with high := M.high + 1, prom := (M.high + 1, (M.self : Int)), own := some (Pp.more ⟨(M.high + 1, (M.self : Int)), e, 0, []⟩ (M.self : Nat) d) } (some w2.heap.size) → ∃ F' Z' p, Sp w F Z w' F' Z' ∧ Mb w' F' Z' q (M.propose e d) (some p)) := fun w' F' Z' s m =>
    ⟨F', Z', w2.heap.size, (sp3.trans (Sp.still ((Below.refl _ w3).drew) sp3.zlt)).trans s, m⟩
  have hH1 : ((M.high : Int) + 1) = ((M.high + 1 : Nat) : Int) := by omega
  clear h h1 hb1 sp1 hbox hb2 sp2 hbox2 sp3' hb3 sp3 hbox3 hd j7 j1 j5 j6 f5 f6 m8 m1
  generalize hN : M.high + 1 = N at *
  have hwr : (M.high : Int) + 1 = (N : Int) := hH1
  have hlt : N < 18446744073709551616 := by omega
  clear hH1 hN
  unfold sta at *
  go_enter Tryd.func32, Tryd.ntmps32
  go_wp2_with fail
  (try simp only [ho1, hw1])
  clear k7 f7 hw1 ho1 hwr
  refine wp_region_noPanic ?_
  refine beginE (fun wx => wx.cell? ⟨q, 7, none⟩ = some (.int .u64 (N : Nat)) ∧ wx.cell? ⟨q, 1, none⟩ = some (.int .i64 (M.self : Nat)) ∧ wx.cell? ⟨q, 5, none⟩ = some (.int .u64 (M.prom.1 : Nat)) ∧ wx.cell? ⟨q, 6, none⟩ = some (.int .i64 M.prom.2) ∧ wx.frozen? ⟨q, 5, none⟩ = false ∧ wx.frozen? ⟨q, 6, none⟩ = false) 12 (by kernel_rfl) hS (fun hHeld => ?_)
  refine takeE 0 (v := ?_) rfl (by kernel_rfl) (by kernel_rfl) (by kernel_rfl) (by kernel_rfl) (by kernel_rfl) (fun _ _ _ h => h) (Or.inl ⟨by rfl, by intro wx hSw; (try dsimp only at hSw); obtain ⟨a1, a2, a3, a4, a5, a6⟩ := hSw; go_simp; try with_reducible rfl⟩) (by assumption) ?_
  (try simp only [Act.put, List.setIfInBounds_toArray, List.set_cons_zero, List.set_cons_succ])
  refine takeE 1 (v := ?_) rfl (by kernel_rfl) (by kernel_rfl) (by kernel_rfl) (by kernel_rfl) (by kernel_rfl) (fun _ _ _ h => h) (Or.inl ⟨by rfl, by intro wx hSw; (try dsimp only at hSw); obtain ⟨a1, a2, a3, a4, a5, a6⟩ := hSw; go_simp; try with_reducible rfl⟩) (by assumption) ?_
  (try simp only [Act.put, List.setIfInBounds_toArray, List.set_cons_zero, List.set_cons_succ])
  refine takeE 2 (v := ?_) rfl (by kernel_rfl) (by kernel_rfl) (by kernel_rfl) (by kernel_rfl) (by kernel_rfl) (fun _ _ _ h => h) (Or.inl ⟨by rfl, by intro wx hSw; (try dsimp only at hSw); obtain ⟨a1, a2, a3, a4, a5, a6⟩ := hSw; go_simp; try with_reducible rfl⟩) (by assumption) ?_
  (try simp only [Act.put, List.setIfInBounds_toArray, List.set_cons_zero, List.set_cons_succ])
  refine takeE 3 (v := ?_) rfl (by kernel_rfl) (by kernel_rfl) (by kernel_rfl) (by kernel_rfl) (by kernel_rfl) (fun _ _ _ h => h) (Or.inl ⟨by rfl, by intro wx hSw; (try dsimp only at hSw); obtain ⟨a1, a2, a3, a4, a5, a6⟩ := hSw; go_simp; try with_reducible rfl⟩) (by assumption) ?_
  (try simp only [Act.put, List.setIfInBounds_toArray, List.set_cons_zero, List.set_cons_succ])
  refine takeE 4 (v := ?_) rfl (by kernel_rfl) (by kernel_rfl) (by kernel_rfl) (by kernel_rfl) (by kernel_rfl) (fun _ _ _ h => h) (Or.inl ⟨by rfl, by intro wx hSw; (try dsimp only at hSw); obtain ⟨a1, a2, a3, a4, a5, a6⟩ := hSw; go_simp; try with_reducible rfl⟩) (by assumption) ?_
  (try simp only [Act.put, List.setIfInBounds_toArray, List.set_cons_zero, List.set_cons_succ])
  refine takeE 5 (v := ?_) rfl (by kernel_rfl) (by kernel_rfl) (by kernel_rfl) (by kernel_rfl) (by kernel_rfl) (fun _ _ _ h => h) (Or.inl ⟨by rfl, by intro wx hSw; (try dsimp only at hSw); obtain ⟨a1, a2, a3, a4, a5, a6⟩ := hSw; go_simp; try with_reducible rfl⟩) (by assumption) ?_
  (try simp only [Act.put, List.setIfInBounds_toArray, List.set_cons_zero, List.set_cons_succ])
  refine takeE 6 (v := ?_) rfl (by kernel_rfl) (by kernel_rfl) (by kernel_rfl) (by kernel_rfl) (by kernel_rfl) (fun _ _ _ h => h) (Or.inl ⟨by rfl, by intro wx hSw; (try dsimp only at hSw); obtain ⟨a1, a2, a3, a4, a5, a6⟩ := hSw; go_simp; try with_reducible rfl⟩) (by assumption) ?_
  (try simp only [Act.put, List.setIfInBounds_toArray, List.set_cons_zero, List.set_cons_succ])
  refine takeE 7 (v := ?_) rfl (by kernel_rfl) (by kernel_rfl) (by kernel_rfl) (by kernel_rfl) (by kernel_rfl) (fun _ _ _ h => h) (Or.inl ⟨by rfl, by intro wx hSw; (try dsimp only at hSw); obtain ⟨a1, a2, a3, a4, a5, a6⟩ := hSw; go_simp; try with_reducible rfl⟩) (by assumption) ?_
  (try simp only [Act.put, List.setIfInBounds_toArray, List.set_cons_zero, List.set_cons_succ])
  refine takeE 8 (v := ?_) rfl (by kernel_rfl) (by kernel_rfl) (by kernel_rfl) (by kernel_rfl) (by kernel_rfl) (fun _ _ _ h => h) (Or.inl ⟨by rfl, by intro wx hSw; (try dsimp only at hSw); obtain ⟨a1, a2, a3, a4, a5, a6⟩ := hSw; go_simp; try with_reducible rfl⟩) (by assumption) ?_
  (try simp only [Act.put, List.setIfInBounds_toArray, List.set_cons_zero, List.set_cons_succ])
  refine takeE 9 (v := ?_) rfl (by kernel_rfl) (by kernel_rfl) (by kernel_rfl) (by kernel_rfl) (by kernel_rfl) (fun _ _ _ h => h) (Or.inl ⟨by rfl, by intro wx hSw; (try dsimp only at hSw); obtain ⟨a1, a2, a3, a4, a5, a6⟩ := hSw; go_simp; try with_reducible rfl⟩) (by assumption) ?_
  (try simp only [Act.put, List.setIfInBounds_toArray, List.set_cons_zero, List.set_cons_succ])
  refine pureE 10 (v := ?_) rfl (by kernel_rfl) (by kernel_rfl) (by kernel_rfl) (by kernel_rfl) (fun _ _ _ h => h) (Or.inl ⟨by rfl, by intro wx hSw; (try dsimp only at hSw); go_simp; try with_reducible rfl⟩) (by assumption) ?_
  (try simp only [Act.put, List.setIfInBounds_toArray, List.set_cons_zero, List.set_cons_succ])
  refine pureE 11 (v := ?_) rfl (by kernel_rfl) (by kernel_rfl) (by kernel_rfl) (by kernel_rfl) (fun _ _ _ h => h) (Or.inl ⟨by rfl, by intro wx hSw; (try dsimp only at hSw); go_simp; try with_reducible rfl⟩) (by assumption) ?_
  (try simp only [Act.put, List.setIfInBounds_toArray, List.set_cons_zero, List.set_cons_succ])
  obtain ⟨a1, a2, a3, a4, a5, a6⟩ := hS
  have n6 : (w1.setCell ⟨q, 5, none⟩ (.int .u64 (N : Nat))).drew.cell? ⟨q, 6, none⟩ = some (.int .i64 M.prom.2) := (set_other (by omega)).trans a4
  have z6 : (w1.setCell ⟨q, 5, none⟩ (.int .u64 (N : Nat))).drew.frozen? ⟨q, 6, none⟩ = false := by show (w1.setCell ⟨q, 5, none⟩ (.int .u64 (N : Nat))).frozen? _ = _; rw [World.frozen?_setCell]; exact a6
  refine lastE 12 rfl (by kernel_rfl) (by kernel_rfl) (fun K hK => ?_)
  go_simp
  refine hK.out _ _ ?_
  clear hK K
  (try simp only [Act.put, List.setIfInBounds_toArray, List.set_cons_zero, List.set_cons_succ])
  refine doneE (by kernel_rfl) ?_ _
  refine NoPanic.normal ?_
  (try simp only [hw2])
  clear a1 a2 a3 a4 a5 a6 n6 z6 hw2
  go_wp2_with fail
  (try simp only [hw3])
  clear hw3 l5 l6 l8 g8
  refine wp_region_noPanic ?_
  refine beginE (fun wx => wx.cell? ⟨q, 8, none⟩ = some (.pointer (some ⟨w2.heap.size, 0, none⟩)) ∧ wx.cell? ⟨q, 1, none⟩ = some (.int .i64 (M.self : Nat)) ∧ wx.cell? ⟨w.heap.size, 0, none⟩ = some (.int .u64 (x.1 : Nat)) ∧ wx.cell? ⟨w.heap.size, 1, none⟩ = some (.int .i64 x.2.1) ∧ wx.cell? ⟨w.heap.size, 2, none⟩ = some (.int .i64 x.2.2.1) ∧ wx.cell? ⟨w.heap.size, 3, none⟩ = some (.slice x.2.2.2.1 x.2.2.2.2.1 x.2.2.2.2.2)) 9 (by kernel_rfl) hS3 (fun hHeld => ?_)
  refine takeT 0 (v := ?_) rfl (by kernel_rfl) (by kernel_rfl) (by kernel_rfl) (by kernel_rfl) (by kernel_rfl) (by kernel_rfl) (by kernel_rfl) (fun _ _ _ h => h) (Or.inl ⟨by rfl, by intro wx hSw; (try dsimp only at hSw); obtain ⟨a1, a2, a3, a4, a5, a6⟩ := hSw; go_simp; try with_reducible rfl⟩) (by assumption) ?_
  (try simp only [Act.put, List.setIfInBounds_toArray, List.set_cons_zero, List.set_cons_succ])
  refine takeT 1 (v := ?_) rfl (by kernel_rfl) (by kernel_rfl) (by kernel_rfl) (by kernel_rfl) (by kernel_rfl) (by kernel_rfl) (by kernel_rfl) (fun _ _ _ h => h) (Or.inl ⟨by rfl, by intro wx hSw; (try dsimp only at hSw); obtain ⟨a1, a2, a3, a4, a5, a6⟩ := hSw; go_simp; try with_reducible rfl⟩) (by assumption) ?_
  (try simp only [Act.put, List.setIfInBounds_toArray, List.set_cons_zero, List.set_cons_succ])
  refine takeT 2 (v := ?_) rfl (by kernel_rfl) (by kernel_rfl) (by kernel_rfl) (by kernel_rfl) (by kernel_rfl) (by kernel_rfl) (by kernel_rfl) (fun _ _ _ h => h) (Or.inl ⟨by rfl, by intro wx hSw; (try dsimp only at hSw); obtain ⟨a1, a2, a3, a4, a5, a6⟩ := hSw; go_simp; try with_reducible rfl⟩) (by assumption) ?_
  (try simp only [Act.put, List.setIfInBounds_toArray, List.set_cons_zero, List.set_cons_succ])
  refine takeT 3 (v := ?_) rfl (by kernel_rfl) (by kernel_rfl) (by kernel_rfl) (by kernel_rfl) (by kernel_rfl) (by kernel_rfl) (by kernel_rfl) (fun _ _ _ h => h) (Or.inl ⟨by rfl, by intro wx hSw; (try dsimp only at hSw); obtain ⟨a1, a2, a3, a4, a5, a6⟩ := hSw; go_simp; try with_reducible rfl⟩) (by assumption) ?_
  (try simp only [Act.put, List.setIfInBounds_toArray, List.set_cons_zero, List.set_cons_succ])
  refine takeT 4 (v := ?_) rfl (by kernel_rfl) (by kernel_rfl) (by kernel_rfl) (by kernel_rfl) (by kernel_rfl) (by kernel_rfl) (by kernel_rfl) (fun _ _ _ h => h) (Or.inl ⟨by rfl, by intro wx hSw; (try dsimp only at hSw); obtain ⟨a1, a2, a3, a4, a5, a6⟩ := hSw; go_simp; try with_reducible rfl⟩) (by assumption) ?_
  (try simp only [Act.put, List.setIfInBounds_toArray, List.set_cons_zero, List.set_cons_succ])
  refine takeT 5 (v := ?_) rfl (by kernel_rfl) (by kernel_rfl) (by kernel_rfl) (by kernel_rfl) (by kernel_rfl) (by kernel_rfl) (by kernel_rfl) (fun _ _ _ h => h) (Or.inl ⟨by rfl, by intro wx hSw; (try dsimp only at hSw); obtain ⟨a1, a2, a3, a4, a5, a6⟩ := hSw; go_simp; try with_reducible rfl⟩) (by assumption) ?_
  (try simp only [Act.put, List.setIfInBounds_toArray, List.set_cons_zero, List.set_cons_succ])
  refine takeT 6 (v := ?_) rfl (by kernel_rfl) (by kernel_rfl) (by kernel_rfl) (by kernel_rfl) (by kernel_rfl) (by kernel_rfl) (by kernel_rfl) (fun _ _ _ h => h) (Or.inl ⟨by rfl, by intro wx hSw; (try dsimp only at hSw); obtain ⟨a1, a2, a3, a4, a5, a6⟩ := hSw; go_simp; try with_reducible rfl⟩) (by assumption) ?_
  (try simp only [Act.put, List.setIfInBounds_toArray, List.set_cons_zero, List.set_cons_succ])
  refine takeT 7 (v := ?_) rfl (by kernel_rfl) (by kernel_rfl) (by kernel_rfl) (by kernel_rfl) (by kernel_rfl) (by kernel_rfl) (by kernel_rfl) (fun _ _ _ h => h) (Or.inl ⟨by rfl, by intro wx hSw; (try dsimp only at hSw); obtain ⟨a1, a2, a3, a4, a5, a6⟩ := hSw; go_simp; try with_reducible rfl⟩) (by assumption) ?_
  (try simp only [Act.put, List.setIfInBounds_toArray, List.set_cons_zero, List.set_cons_succ])
  refine takeT 8 (v := ?_) rfl (by kernel_rfl) (by kernel_rfl) (by kernel_rfl) (by kernel_rfl) (by kernel_rfl) (by kernel_rfl) (by kernel_rfl) (fun _ _ _ h => h) (Or.inl ⟨by rfl, by intro wx hSw; (try dsimp only at hSw); obtain ⟨a1, a2, a3, a4, a5, a6⟩ := hSw; go_simp; try with_reducible rfl⟩) (by assumption) ?_
  (try simp only [Act.put, List.setIfInBounds_toArray, List.set_cons_zero, List.set_cons_succ])
  refine lastE 9 rfl (by kernel_rfl) (by kernel_rfl) (fun K hK => ?_)
  go_simp
  refine hac.mono ?_
  rintro r w4 ⟨rfl, F', Z', s4, m4⟩
  have HE := HR.out w4 F' Z' s4 m4
  clear hac s4 m4 HR hS3
  go_wp2_with fail
  refine hK.out _ _ ?_
  clear hK K
  (try simp only [Act.put, List.setIfInBounds_toArray, List.set_cons_zero, List.set_cons_succ])
  refine doneE (by kernel_rfl) ?_ _
  refine NoPanic.normal ?_
  go_wp2
  go_end0
  exact ⟨rfl, HE⟩
end
end Go.Proofs.YtlonbbepoamnmaaDoor
