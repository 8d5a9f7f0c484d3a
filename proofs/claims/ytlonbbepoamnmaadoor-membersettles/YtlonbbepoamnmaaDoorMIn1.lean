/-
  A frame has come: a counter was heard of, a beat, a refusal (Member.rise, beat, refused).
-/
import Derived.Test.YtlonbbepoamnmaaDoorMTk
namespace Go.Proofs.YtlonbbepoamnmaaDoor
open Go.RowKit
set_option linter.unusedVariables false

/-- What is read of a frame in a box, and of the node. -/
def Pr (B q : Nat) (Fr : PF) (M : Mm) (wx : World) : Prop :=
  wx.cell? ⟨B, 1, none⟩ = some (.int .i64 Fr.frm) ∧ wx.cell? ⟨B, 2, none⟩ = some (.int .u64 (Fr.idN : Nat)) ∧ wx.cell? ⟨B, 3, none⟩ = some (.int .i64 Fr.idP) ∧ wx.cell? ⟨B, 4, none⟩ = some (.int .u16 (Fr.set : Nat)) ∧
  wx.cell? ⟨q, 0, none⟩ = some (.int .u16 ((2 ^ M.n - 1 : Nat) : Int)) ∧ wx.cell? ⟨q, 1, none⟩ = some (.int .i64 (M.self : Nat)) ∧ wx.cell? ⟨q, 2, none⟩ = some (.int .u64 (M.cur.1 : Nat)) ∧ wx.cell? ⟨q, 3, none⟩ = some (.int .i64 M.cur.2) ∧ wx.cell? ⟨q, 5, none⟩ = some (.int .u64 (M.prom.1 : Nat)) ∧ wx.cell? ⟨q, 6, none⟩ = some (.int .i64 M.prom.2)
theorem pr_of {w : World} {F Z : Nat → Prop} {q B : Nat} {M : Mm} {o : Option Nat} {Fr : PF} {a : Fa} {t : TypeId} (h : Mb w F Z q M o) (hB : w.heap[B]? = some (.cells (fcells Fr a) t (0, 0))) : Pr B q Fr M w :=
  ⟨heap_cell (j := 1) hB rfl, heap_cell (j := 2) hB rfl, heap_cell (j := 3) hB rfl, heap_cell (j := 4) hB rfl, h.cell 0 (by omega), h.cell 1 (by omega), h.cell 2 (by omega), h.cell 3 (by omega), h.cell 5 (by omega), h.cell 6 (by omega)⟩

section
variable {w : World} {F Z : Nat → Prop} {q p : Nat} {M : Mm} {P : Pp} {o : Option Nat}

theorem Sp.setq {w0 W : World} {F0 Z0 : Nat → Prop} (s : Sp w0 F0 Z0 W F Z) (hq : F q) (k : Nat) (v : Value) : Sp w0 F0 Z0 (W.setCell ⟨q, k, none⟩ v) F Z :=
  s.trans ⟨(Turned.refl F _).setCell (.inl hq) _, fun _ h => .inl h, fun _ h => h, fun _ h => .inl h, fun b hb => by rw [World.size_setCell]; exact s.zlt b hb⟩

theorem rise_any (h : Mb w F Z q M o) (k : Nat) : Calls Tryd.prog 70 #[.pointer (some ⟨q, 0, none⟩), .int .u64 (k : Nat)] w fun e w' => e = .returned (.tuple #[]) ∧ Mb w' F Z q (M.rise k) o ∧ Sp w F Z w' F Z := by
  have c7 := h.cell 7 (by omega)
  unfold mcell at c7
  have f7 := h.fr 7
  have HE : Hid (Mb (w.setCell ⟨q, 7, none⟩ (.int .u64 ((max M.high k : Nat) : Int))) F Z q (M.rise k) o ∧ Sp w F Z (w.setCell ⟨q, 7, none⟩ (.int .u64 ((max M.high k : Nat) : Int))) F Z) := ⟨h.setHigh _, h.sp.setq h.fq _ _⟩
  clear h
  by_cases hk : M.high < k
  · have e1 : max M.high k = k := by omega
    rw [e1] at HE
    have hkI : (M.high : Int) < (k : Int) := by omega
    have hkI2 : ¬ ((k : Int) < (M.high : Int)) := by omega
    have hkI3 : max (M.high : Int) (k : Int) = (k : Int) := by omega
    clear e1 hk
    go_enter Tryd.func70, Tryd.ntmps70
    go_wp2
    go_end0
    exact ⟨rfl, HE.out⟩
  · have e1 : max M.high k = M.high := by omega
    rw [e1] at HE
    have hkI : ¬ ((M.high : Int) < (k : Int)) := by omega
    have hkI3 : max (M.high : Int) (k : Int) = (M.high : Int) := by omega
    clear e1 hk
    go_enter Tryd.func70, Tryd.ntmps70
    go_wp2
    go_end0
    exact ⟨rfl, HE.out⟩

set_option maxRecDepth 10000 in
set_option maxHeartbeats 1000000 in
theorem beat_any (h : Mb w F Z q M o) (Fr : PF) (a : Fa) (i : Nat) (hi : i < 16) (hfr : Fr.frm = (i : Int)) : Calls Tryd.prog 45 #[.pointer (some ⟨q, 0, none⟩), fval Fr a] w fun e w' => e = .returned (.tuple #[]) ∧ Mb w' F Z q (M.beat Fr) o ∧ Sp w F Z w' F Z := by
  have hql := h.lt q h.fq
  obtain ⟨w1, hw1⟩ : ∃ w1, w.alloc (.cells (fcells Fr a) 43) = w1 := ⟨_, rfl⟩
  have hb1 : Below w.heap.size w w1 := by rw [← hw1]; exact bl1 _ _
  have h1 := h.still hb1
  have hB : w1.heap[w.heap.size]? = some (.cells (fcells Fr a) 43 (0, 0)) := by rw [← hw1]; exact heap_alloc_new _ _
  have tc : ∀ c, c < 4 → ∃ u, w1.cell? ⟨q, 9 + i * 4 + c, none⟩ = some u := fun c hc => ⟨_, h1.cell _ (by omega)⟩
  obtain ⟨u0, t0⟩ := tc 0 (by omega)
  obtain ⟨u1, t1⟩ := tc 1 (by omega)
  obtain ⟨u2, t2⟩ := tc 2 (by omega)
  obtain ⟨u3, t3⟩ := tc 3 (by omega)
  simp only [Nat.add_zero] at t0
  have fz := h1.fr
  obtain ⟨w2, hw2⟩ : ∃ w2, ((((w1.setCell ⟨q, 9 + i * 4, none⟩ (.int .u64 (Fr.curN : Nat))).setCell ⟨q, 9 + i * 4 + 1, none⟩ (.int .i64 Fr.curP)).setCell ⟨q, 9 + i * 4 + 2, none⟩ (.int .u64 (Fr.promN : Nat))).setCell ⟨q, 9 + i * 4 + 3, none⟩ (.int .i64 Fr.promP)).drew = w2 := ⟨_, rfl⟩
  have h2 : Mb w2 F Z q { M with told := upd M.told i (Fr.cur, Fr.prom) } o := by
    rw [← hw2]
    exact (h1.setTold i hi (Fr.cur, Fr.prom)).still ((Below.refl _ _).drew)
  have sp2 : Sp w F Z w2 F Z := by
    have s1 := Sp.still (F := F) (Z := Z) hb1 h.zl
    have s2 := (((s1.setq h.fq (9 + i * 4) (.int .u64 (Fr.curN : Nat))).setq h.fq (9 + i * 4 + 1) (.int .i64 Fr.curP)).setq h.fq (9 + i * 4 + 2) (.int .u64 (Fr.promN : Nat))).setq h.fq (9 + i * 4 + 3) (.int .i64 Fr.promP)
    rw [← hw2]
    exact s2.trans (Sp.still ((Below.refl _ _).drew) s2.zlt)
  have hB2 : w2.heap[w.heap.size]? = some (.cells (fcells Fr a) 43 (0, 0)) := by
    rw [← hw2]
    show ((((w1.setCell ⟨q, 9 + i * 4, none⟩ (.int .u64 (Fr.curN : Nat))).setCell ⟨q, 9 + i * 4 + 1, none⟩ (.int .i64 Fr.curP)).setCell ⟨q, 9 + i * 4 + 2, none⟩ (.int .u64 (Fr.promN : Nat))).setCell ⟨q, 9 + i * 4 + 3, none⟩ (.int .i64 Fr.promP)).heap[w.heap.size]? = _
    rw [heap_setCell_other _ _ _ _ (by show w.heap.size ≠ q; omega), heap_setCell_other _ _ _ _ (by show w.heap.size ≠ q; omega), heap_setCell_other _ _ _ _ (by show w.heap.size ≠ q; omega), heap_setCell_other _ _ _ _ (by show w.heap.size ≠ q; omega)]; exact hB
  have hS : w1.drew.cell? ⟨w.heap.size, 1, none⟩ = some (.int .i64 (i : Nat)) ∧ w1.drew.cell? ⟨w.heap.size, 5, none⟩ = some (.int .u64 (Fr.curN : Nat)) ∧ w1.drew.cell? ⟨w.heap.size, 6, none⟩ = some (.int .i64 Fr.curP) ∧ w1.drew.cell? ⟨w.heap.size, 7, none⟩ = some (.int .u64 (Fr.promN : Nat)) ∧ w1.drew.cell? ⟨w.heap.size, 8, none⟩ = some (.int .i64 Fr.promP) := by
    rw [← hfr]
    exact ⟨heap_cell (j := 1) hB rfl, heap_cell (j := 5) hB rfl, heap_cell (j := 6) hB rfl, heap_cell (j := 7) hB rfl, heap_cell (j := 8) hB rfl⟩
  have r1 := rise_any h2 Fr.curN
  have HK : Hid (w2.heap[w.heap.size]? = some (.cells (fcells Fr a) 43 (0, 0)) ∧ Sp w F Z w2 F Z ∧ (¬ F w.heap.size)) := ⟨hB2, sp2, fun hf => by have := h.lt _ hf; omega⟩
  have HW : Hid (w.alloc (.cells (fcells Fr a) 43) = w1) := hw1
  have HBt : Hid (M.beat Fr = ({ M with told := upd M.told i (Fr.cur, Fr.prom) }.rise Fr.curN).rise Fr.promN) := by unfold Hid Mm.beat; rw [hfr, Int.toNat_natCast]
  have i0 : ¬ ((i : Int) < 0) := by omega
  have i1 : (i : Int) < 16 := by omega
  have d7 := heap_cell (j := 5) hB2 rfl
  have f0 := fz (9 + i * 4)
  have f1 := fz (9 + i * 4 + 1)
  have f2 := fz (9 + i * 4 + 2)
  have f3 := fz (9 + i * 4 + 3)
  have n1 : (w1.setCell ⟨q, 9 + i * 4, none⟩ (.int .u64 (Fr.curN : Nat))).drew.cell? ⟨q, 9 + i * 4 + 1, none⟩ = some u1 := (set_other (by omega)).trans t1
  have z1 : (w1.setCell ⟨q, 9 + i * 4, none⟩ (.int .u64 (Fr.curN : Nat))).drew.frozen? ⟨q, 9 + i * 4 + 1, none⟩ = false := by show (w1.setCell _ _).frozen? _ = _; rw [World.frozen?_setCell]; exact f1
  have n2 : ((w1.setCell ⟨q, 9 + i * 4, none⟩ (.int .u64 (Fr.curN : Nat))).setCell ⟨q, 9 + i * 4 + 1, none⟩ (.int .i64 Fr.curP)).drew.cell? ⟨q, 9 + i * 4 + 2, none⟩ = some u2 := (set_other (by omega)).trans ((set_other (by omega)).trans t2)
  have z2 : ((w1.setCell ⟨q, 9 + i * 4, none⟩ (.int .u64 (Fr.curN : Nat))).setCell ⟨q, 9 + i * 4 + 1, none⟩ (.int .i64 Fr.curP)).drew.frozen? ⟨q, 9 + i * 4 + 2, none⟩ = false := by show ((w1.setCell _ _).setCell _ _).frozen? _ = _; rw [World.frozen?_setCell, World.frozen?_setCell]; exact f2
  have n3 : (((w1.setCell ⟨q, 9 + i * 4, none⟩ (.int .u64 (Fr.curN : Nat))).setCell ⟨q, 9 + i * 4 + 1, none⟩ (.int .i64 Fr.curP)).setCell ⟨q, 9 + i * 4 + 2, none⟩ (.int .u64 (Fr.promN : Nat))).drew.cell? ⟨q, 9 + i * 4 + 3, none⟩ = some u3 := (set_other (by omega)).trans ((set_other (by omega)).trans ((set_other (by omega)).trans t3))
  have z3 : (((w1.setCell ⟨q, 9 + i * 4, none⟩ (.int .u64 (Fr.curN : Nat))).setCell ⟨q, 9 + i * 4 + 1, none⟩ (.int .i64 Fr.curP)).setCell ⟨q, 9 + i * 4 + 2, none⟩ (.int .u64 (Fr.promN : Nat))).drew.frozen? ⟨q, 9 + i * 4 + 3, none⟩ = false := by show (((w1.setCell _ _).setCell _ _).setCell _ _).frozen? _ = _; rw [World.frozen?_setCell, World.frozen?_setCell, World.frozen?_setCell]; exact f3
  rw [HBt.out]
  clear h h1 h2 hb1 hB hB2 sp2 hw1 tc fz hql hfr f1 f2 f3 HBt
  unfold fval fcells at *
  go_enter Tryd.func45, Tryd.ntmps45
  go_wp2_with fail
  rw [HW.out]
  clear HW
  refine wp_region_noPanic ?_
  refine beginE (fun wx => wx.cell? ⟨w.heap.size, 1, none⟩ = some (.int .i64 (i : Nat)) ∧ wx.cell? ⟨w.heap.size, 5, none⟩ = some (.int .u64 (Fr.curN : Nat)) ∧ wx.cell? ⟨w.heap.size, 6, none⟩ = some (.int .i64 Fr.curP) ∧ wx.cell? ⟨w.heap.size, 7, none⟩ = some (.int .u64 (Fr.promN : Nat)) ∧ wx.cell? ⟨w.heap.size, 8, none⟩ = some (.int .i64 Fr.promP)) 11 (by kernel_rfl) hS (fun hHeld => ?_)
  refine takeT 0 (v := ?_) rfl (by kernel_rfl) (by kernel_rfl) (by kernel_rfl) (by kernel_rfl) (by kernel_rfl) (by kernel_rfl) (by kernel_rfl) (fun _ _ _ h => h) (Or.inl ⟨by rfl, by intro wx hSw; (try dsimp only at hSw); obtain ⟨a1, a2, a3, a4, a5⟩ := hSw; go_simp; try with_reducible rfl⟩) (by assumption) ?_
  (try simp only [Act.put, List.setIfInBounds_toArray, List.set_cons_zero, List.set_cons_succ])
  refine takeT 1 (v := ?_) rfl (by kernel_rfl) (by kernel_rfl) (by kernel_rfl) (by kernel_rfl) (by kernel_rfl) (by kernel_rfl) (by kernel_rfl) (fun _ _ _ h => h) (Or.inl ⟨by rfl, by intro wx hSw; (try dsimp only at hSw); obtain ⟨a1, a2, a3, a4, a5⟩ := hSw; go_simp; try with_reducible rfl⟩) (by assumption) ?_
  (try simp only [Act.put, List.setIfInBounds_toArray, List.set_cons_zero, List.set_cons_succ])
  refine takeT 2 (v := ?_) rfl (by kernel_rfl) (by kernel_rfl) (by kernel_rfl) (by kernel_rfl) (by kernel_rfl) (by kernel_rfl) (by kernel_rfl) (fun _ _ _ h => h) (Or.inl ⟨by rfl, by intro wx hSw; (try dsimp only at hSw); obtain ⟨a1, a2, a3, a4, a5⟩ := hSw; go_simp; try with_reducible rfl⟩) (by assumption) ?_
  (try simp only [Act.put, List.setIfInBounds_toArray, List.set_cons_zero, List.set_cons_succ])
  refine takeT 3 (v := ?_) rfl (by kernel_rfl) (by kernel_rfl) (by kernel_rfl) (by kernel_rfl) (by kernel_rfl) (by kernel_rfl) (by kernel_rfl) (fun _ _ _ h => h) (Or.inl ⟨by rfl, by intro wx hSw; (try dsimp only at hSw); obtain ⟨a1, a2, a3, a4, a5⟩ := hSw; go_simp; try with_reducible rfl⟩) (by assumption) ?_
  (try simp only [Act.put, List.setIfInBounds_toArray, List.set_cons_zero, List.set_cons_succ])
  refine takeT 4 (v := ?_) rfl (by kernel_rfl) (by kernel_rfl) (by kernel_rfl) (by kernel_rfl) (by kernel_rfl) (by kernel_rfl) (by kernel_rfl) (fun _ _ _ h => h) (Or.inl ⟨by rfl, by intro wx hSw; (try dsimp only at hSw); obtain ⟨a1, a2, a3, a4, a5⟩ := hSw; go_simp; try with_reducible rfl⟩) (by assumption) ?_
  (try simp only [Act.put, List.setIfInBounds_toArray, List.set_cons_zero, List.set_cons_succ])
  refine takeT 5 (v := ?_) rfl (by kernel_rfl) (by kernel_rfl) (by kernel_rfl) (by kernel_rfl) (by kernel_rfl) (by kernel_rfl) (by kernel_rfl) (fun _ _ _ h => h) (Or.inl ⟨by rfl, by intro wx hSw; (try dsimp only at hSw); obtain ⟨a1, a2, a3, a4, a5⟩ := hSw; go_simp; try with_reducible rfl⟩) (by assumption) ?_
  (try simp only [Act.put, List.setIfInBounds_toArray, List.set_cons_zero, List.set_cons_succ])
  refine takeT 6 (v := ?_) rfl (by kernel_rfl) (by kernel_rfl) (by kernel_rfl) (by kernel_rfl) (by kernel_rfl) (by kernel_rfl) (by kernel_rfl) (fun _ _ _ h => h) (Or.inl ⟨by rfl, by intro wx hSw; (try dsimp only at hSw); obtain ⟨a1, a2, a3, a4, a5⟩ := hSw; go_simp; try with_reducible rfl⟩) (by assumption) ?_
  (try simp only [Act.put, List.setIfInBounds_toArray, List.set_cons_zero, List.set_cons_succ])
  refine takeT 7 (v := ?_) rfl (by kernel_rfl) (by kernel_rfl) (by kernel_rfl) (by kernel_rfl) (by kernel_rfl) (by kernel_rfl) (by kernel_rfl) (fun _ _ _ h => h) (Or.inl ⟨by rfl, by intro wx hSw; (try dsimp only at hSw); obtain ⟨a1, a2, a3, a4, a5⟩ := hSw; go_simp; try with_reducible rfl⟩) (by assumption) ?_
  (try simp only [Act.put, List.setIfInBounds_toArray, List.set_cons_zero, List.set_cons_succ])
  refine takeT 8 (v := ?_) rfl (by kernel_rfl) (by kernel_rfl) (by kernel_rfl) (by kernel_rfl) (by kernel_rfl) (by kernel_rfl) (by kernel_rfl) (fun _ _ _ h => h) (Or.inl ⟨by rfl, by intro wx hSw; (try dsimp only at hSw); obtain ⟨a1, a2, a3, a4, a5⟩ := hSw; go_simp; try with_reducible rfl⟩) (by assumption) ?_
  (try simp only [Act.put, List.setIfInBounds_toArray, List.set_cons_zero, List.set_cons_succ])
  refine takeT 9 (v := ?_) rfl (by kernel_rfl) (by kernel_rfl) (by kernel_rfl) (by kernel_rfl) (by kernel_rfl) (by kernel_rfl) (by kernel_rfl) (fun _ _ _ h => h) (Or.inl ⟨by rfl, by intro wx hSw; (try dsimp only at hSw); obtain ⟨a1, a2, a3, a4, a5⟩ := hSw; go_simp; try with_reducible rfl⟩) (by assumption) ?_
  (try simp only [Act.put, List.setIfInBounds_toArray, List.set_cons_zero, List.set_cons_succ])
  refine takeT 10 (v := ?_) rfl (by kernel_rfl) (by kernel_rfl) (by kernel_rfl) (by kernel_rfl) (by kernel_rfl) (by kernel_rfl) (by kernel_rfl) (fun _ _ _ h => h) (Or.inl ⟨by rfl, by intro wx hSw; (try dsimp only at hSw); obtain ⟨a1, a2, a3, a4, a5⟩ := hSw; go_simp; try with_reducible rfl⟩) (by assumption) ?_
  (try simp only [Act.put, List.setIfInBounds_toArray, List.set_cons_zero, List.set_cons_succ])
  have t0' : w1.drew.cell? ⟨q, 9 + i * 4, none⟩ = some u0 := t0
  have f0' : w1.drew.frozen? ⟨q, 9 + i * 4, none⟩ = false := f0
  refine lastE 11 rfl (by kernel_rfl) (by kernel_rfl) (fun K hK => ?_)
  go_simp
  refine hK.out _ _ ?_
  clear hK K
  (try simp only [Act.put, List.setIfInBounds_toArray, List.set_cons_zero, List.set_cons_succ])
  refine doneE (by kernel_rfl) ?_ _
  refine NoPanic.normal ?_
  (try simp only [hw2])
  clear hw2 t0 t1 t2 t3 t0' f0' f0 n1 z1 n2 z2 n3 z3 hS
  go_wp2_with fail
  refine r1.mono ?_
  rintro e w3 ⟨rfl, h3, sp3⟩
  have hB3 := (sp3.turned.block _ (heap_lt HK.out.1) HK.out.2.2).trans HK.out.1
  have d8 := heap_cell (j := 7) hB3 rfl
  have r2 := rise_any h3 Fr.promN
  have HK3 : Hid (Sp w F Z w3 F Z) := HK.out.2.1.trans sp3
  clear r1 h3 sp3 hB3 HK d7
  go_wp2_with fail
  refine r2.mono ?_
  rintro e w4 ⟨rfl, h4, sp4⟩
  have HE : Hid (Mb w4 F Z q (({ M with told := upd M.told i (Fr.cur, Fr.prom) }.rise Fr.curN).rise Fr.promN) o ∧ Sp w F Z w4 F Z) := ⟨h4, HK3.out.trans sp4⟩
  clear r2 h4 sp4 HK3 d8
  go_wp2
  go_end0
  exact ⟨rfl, HE.out⟩
end
end Go.Proofs.YtlonbbepoamnmaaDoor
