/-
  MemberAlone: the walk.
-/
import Derived.Test.YtlonbbepoamnmaaDoorMAwake
namespace Go.Proofs.YtlonbbepoamnmaaDoor
open Go.RowKit
set_option linter.unusedVariables false

theorem least_one : ∀ i : Fin 16, leastN (withN 0 (i.val : Int)) = (i.val : Int) := by decide
theorem others_one : ∀ i : Fin 16, nodes (withoutN (withN 0 (i.val : Int)) (i.val : Int)) 16 = [] := by decide
theorem est_one : ∀ k : Fin 17, ∀ i : Fin 16, i.val < k.val → withN (withN 0 (i.val : Int) &&& (2 ^ k.val - 1)) (i.val : Int) = withN 0 (i.val : Int) := by decide +kernel
def aloneM (k i : Nat) (d : Sd) : Mm := ⟨k, i, (1, (i : Int)), withN 0 (i : Int), (1, (i : Int)), 1, some ⟨(1, (i : Int)), withN 0 (i : Int), withN 0 (i : Int), joinD [d]⟩, fun _ => ((0, 0), (0, 0))⟩
theorem alone_first (k i : Nat) (hi : i < k) (hk : k ≤ 16) (d : Sd) : (newM k i).tick 0 d = ⟨aloneM k i d, [], some ⟨(1, (i : Int)), withN 0 (i : Int), joinD (joinD [d])⟩, 0⟩ := by
  have e0 : (newM k i).estOf 0 = withN 0 (i : Int) := by unfold Mm.estOf newM; simp
  have hp : (newM k i).proposes (withN 0 (i : Int)) = true := by
    unfold Mm.proposes Mm.needs Mm.stands Mm.opn newM
    simp [least_one ⟨i, by omega⟩]
  unfold Mm.tick
  rw [e0, if_pos hp, if_pos (by unfold Pp.agreed Mm.prop newM; simp)]
  rfl
theorem alone_more (k i : Nat) (hi : i < k) (hk : k ≤ 16) (d d' : Sd) : (aloneM k i d).tick (withN 0 (i : Int)) d' = ⟨aloneM k i d, [], none, 0⟩ := by
  have e0 : (aloneM k i d).estOf (withN 0 (i : Int)) = withN 0 (i : Int) := est_one ⟨k, by omega⟩ ⟨i, by omega⟩ hi
  have hp : ¬ (aloneM k i d).proposes (withN 0 (i : Int)) = true := by
    unfold Mm.proposes Mm.needs Mm.opn Mm.passed aloneM
    simp [vlt]
  have hr : (aloneM k i d).remind = [] := by
    unfold Mm.remind aloneM
    simp only [Pp.agreed, decide_true, if_true]
    unfold Mm.others
    rw [others_one ⟨i, by omega⟩]
    rfl
  unfold Mm.tick
  rw [e0, if_neg hp, hr]
theorem join_none : joinD [zd] = [] := rfl
theorem join_none2 : joinD (joinD [zd]) = [] := rfl

structure Al (w : World) (q k i : Nat) (wr : World) : Prop where
  ex : ∃ F Z o, Mb wr F Z q (aloneM k i zd) o ∧ Below w.heap.size w wr ∧ w.heap.size ≤ wr.heap.size ∧ ∀ b, F b → w.heap.size ≤ b
theorem Al.drew {w wr : World} {q k i : Nat} (h : Al w q k i wr) : Al w q k i wr.drew := by
  obtain ⟨F, Z, o, h1, h2, h3, h4⟩ := h.ex
  exact ⟨F, Z, o, h1.still ((Below.refl _ _).drew), h2.drew, h3, h4⟩
theorem field34_0 (n p s : Int) (W : World) : Sem.run Tryd.prog (Instr.field 34 (.agg #[.int .u64 n, .int .i64 p, .int .u16 s]) 0) W = .ok (.agg #[.int .u64 n, .int .i64 p]) W := by kernel_rfl
theorem field31_0 (n p : Int) (W : World) : Sem.run Tryd.prog (Instr.field 31 (.agg #[.int .u64 n, .int .i64 p]) 0) W = .ok (.int .u64 n) W := by kernel_rfl

set_option maxRecDepth 20000 in
set_option maxHeartbeats 4000000 in
theorem alone_walk (w : World) (tab : Tab w) (n0 : Nat) (hn0 : n0 < 256) (n1 : Nat) (hn1 : n1 < 256) (n2 : Nat) (hn2 : n2 < 256) : Calls Tryd.prog 8 #[.int .u8 (n0 : Nat), .int .u8 (n1 : Nat), .int .u8 (n2 : Nat)] w fun e w' => e = .returned (.bool true) ∧ Below w.heap.size w w' := by
  obtain ⟨k, hk⟩ : ∃ k, 1 + n0 % 16 = k := ⟨_, rfl⟩
  obtain ⟨i, hi⟩ : ∃ i, n1 % k = i := ⟨_, rfl⟩
  obtain ⟨t, ht⟩ : ∃ t, n2 % 30 = t := ⟨_, rfl⟩
  have k1 : 1 ≤ k := by omega
  have k16 : k ≤ 16 := by omega
  have hik : i < k := by rw [← hi]; exact Nat.mod_lt _ (by omega)
  have e1 : (1 : Int) + (n0 : Int) % 16 = (k : Int) := by omega
  have e2 : (n1 : Int) % (k : Int) = (i : Int) := by rw [← hi]; exact (Int.natCast_emod _ _).symm
  have r2 : (n2 : Int) % 30 = (t : Int) := by omega
  have HE : Hid ((1 : Int) + (n0 : Int) % 16 = (k : Int) ∧ (n1 : Int) % (k : Int) = (i : Int)) := ⟨e1, e2⟩
  have HR : Hid ((n2 : Int) % 30 = (t : Int)) := r2
  clear e1 e2 r2
  have k0 : ¬ ((k : Int) = 0) := by omega
  have t30 : t < 30 := by omega
  have ha := awake_any w tab
  have hw16 : withN 0 (i : Int) < 65536 := withN_lt 0 (by omega) _
  go_enter Tryd.func8, Tryd.ntmps8
  go_wp2_with fail
  refine ha.mono ?_
  rintro e w1 ⟨rfl, b1⟩
  have hnew := new_any w1 k i k1 k16 hik
  have tab1 : Tab w1 := tab.below b1 tab.lt
  clear ha
  go_wp2_with fail
  rw [HE.out.1, HE.out.2]
  refine hnew.mono ?_
  rintro e w2 ⟨q, rfl, hN⟩
  have h2 := hN.mb (fun _ => False) (fun b hb => hb.elim) tab1 (by omega) (by omega)
  have htk := tick_any h2 0 (by omega) (0, 0, 0, none, 0, 0) zd (Si.nil _ _ _ _ _ _)
  rw [alone_first k i hik k16 zd, join_none2] at htk
  unfold sta at htk
  have HB2 : Hid (Below w.heap.size w w2 ∧ w.heap.size ≤ w2.heap.size ∧ ∀ b, b = q → w.heap.size ≤ b) := ⟨Up.below b1 b1.size hN.b, Nat.le_trans b1.size hN.b.size, fun b hb => by have := hN.hq; have := b1.size; omega⟩
  clear hnew hN h2 b1
  go_wp2_with fail
  refine htk.mono ?_
  rintro e w3 ⟨v, iv, rfl, F3, Z3, o3, sp3, h3, ho3, hi3⟩
  have hiv : InstIs w3 Z3 iv (some ⟨(1, (i : Int)), withN 0 (i : Int), []⟩) := hi3
  obtain ⟨ib, rfl, hib⟩ := hiv
  obtain ⟨ao, cp, hcell, _⟩ := hib.cell
  have hv : v.ownBlock = none ∨ True := .inr trivial
  obtain ⟨cv, hv⟩ : ∃ (u : Option Addr × Nat), v = .slice u.1 0 u.2 := by
    obtain ⟨L, l1, l2, _⟩ := ho3
    match L, l1 with
    | [], _ =>
      obtain ⟨_, ⟨rfl, _⟩ | ⟨g, cap, cur, rfl, _⟩⟩ := l2
      · exact ⟨(none, 0), rfl⟩
      · exact ⟨(some ⟨g, 0, none⟩, cap), rfl⟩
  subst hv
  have HA3 : Hid (Al w q k i w3) := by
    obtain ⟨x1, x2, x3⟩ := below_sp HB2.out.1 HB2.out.2.1 sp3 HB2.out.2.2
    exact ⟨F3, Z3, o3, h3, x1, x2, x3⟩
  have hS : w3.drew.cell? ⟨ib, 0, none⟩ = some (.int .u64 1) ∧ w3.drew.cell? ⟨ib, 1, none⟩ = some (.int .i64 (i : Nat)) ∧ w3.drew.cell? ⟨ib, 2, none⟩ = some (.int .u16 (withN 0 (i : Int) : Nat)) ∧ w3.drew.cell? ⟨ib, 3, none⟩ = some (.slice ao 0 cp) :=
    ⟨heap_cell (j := 0) hcell rfl, heap_cell (j := 1) hcell rfl, heap_cell (j := 2) hcell rfl, heap_cell (j := 3) hcell rfl⟩
  have hwi := fun W => refWith_any W 0 (by omega) (i : Int)
  have vq := fun W => vid_equal 1 (i : Int) 1 (i : Int) W
  simp only [and_self, decide_true, Int.natCast_one] at vq
  clear htk hi3 hib hcell ho3 h3 sp3 HB2
  obtain ⟨u1, u2⟩ := cv
  go_wp2_with fail
  refine wp_region_noPanic ?_
  refine wp_region_held_drew (S := fun wx => wx.cell? ⟨ib, 0, none⟩ = some (.int .u64 1) ∧ wx.cell? ⟨ib, 1, none⟩ = some (.int .i64 (i : Nat)) ∧ wx.cell? ⟨ib, 2, none⟩ = some (.int .u16 (withN 0 (i : Int) : Nat)) ∧ wx.cell? ⟨ib, 3, none⟩ = some (.slice ao 0 cp)) (by kernel_rfl) hS (fun hHeld => ?_)
  refine take_first 0 (v := ?_) rfl (by kernel_rfl) (by kernel_rfl) (by kernel_rfl) (fun _ _ _ h => h) (Or.inl ⟨by rfl, by intro wx hSw; (try dsimp only at hSw); obtain ⟨a1, a2, a3, a4⟩ := hSw; go_simp; try with_reducible rfl⟩) (by assumption) ?_
  (try simp only [Act.put, List.setIfInBounds_toArray, List.set_cons_zero, List.set_cons_succ])
  refine take_first 1 (v := ?_) rfl (by kernel_rfl) (by kernel_rfl) (by kernel_rfl) (fun _ _ _ h => h) (Or.inl ⟨by rfl, by intro wx hSw; (try dsimp only at hSw); obtain ⟨a1, a2, a3, a4⟩ := hSw; go_simp; try with_reducible rfl⟩) (by assumption) ?_
  (try simp only [Act.put, List.setIfInBounds_toArray, List.set_cons_zero, List.set_cons_succ])
  refine take_first 2 (v := ?_) rfl (by kernel_rfl) (by kernel_rfl) (by kernel_rfl) (fun _ _ _ h => h) (Or.inl ⟨by rfl, by intro wx hSw; (try dsimp only at hSw); obtain ⟨a1, a2, a3, a4⟩ := hSw; go_simp; try with_reducible rfl⟩) (by assumption) ?_
  (try simp only [Act.put, List.setIfInBounds_toArray, List.set_cons_zero, List.set_cons_succ])
  refine take_first 3 (v := ?_) rfl (by kernel_rfl) (by kernel_rfl) (by kernel_rfl) (fun _ _ _ h => h) (Or.inl ⟨by rfl, by intro wx hSw; (try dsimp only at hSw); obtain ⟨a1, a2, a3, a4⟩ := hSw; go_simp; try with_reducible rfl⟩) (by assumption) ?_
  (try simp only [Act.put, List.setIfInBounds_toArray, List.set_cons_zero, List.set_cons_succ])
  refine take_first 4 (v := ?_) rfl (by kernel_rfl) (by kernel_rfl) (by kernel_rfl) (fun _ _ _ h => h) (Or.inl ⟨by rfl, by intro wx hSw; (try dsimp only at hSw); obtain ⟨a1, a2, a3, a4⟩ := hSw; go_simp; try with_reducible rfl⟩) (by assumption) ?_
  (try simp only [Act.put, List.setIfInBounds_toArray, List.set_cons_zero, List.set_cons_succ])
  refine take_first 5 (v := ?_) rfl (by kernel_rfl) (by kernel_rfl) (by kernel_rfl) (fun _ _ _ h => h) (Or.inl ⟨by rfl, by intro wx hSw; (try dsimp only at hSw); obtain ⟨a1, a2, a3, a4⟩ := hSw; go_simp; try with_reducible rfl⟩) (by assumption) ?_
  (try simp only [Act.put, List.setIfInBounds_toArray, List.set_cons_zero, List.set_cons_succ])
  refine take_first 6 (v := ?_) rfl (by kernel_rfl) (by kernel_rfl) (by kernel_rfl) (fun _ _ _ h => h) (Or.inl ⟨by rfl, by intro wx hSw; (try dsimp only at hSw); obtain ⟨a1, a2, a3, a4⟩ := hSw; go_simp; try with_reducible rfl⟩) (by assumption) ?_
  (try simp only [Act.put, List.setIfInBounds_toArray, List.set_cons_zero, List.set_cons_succ])
  refine take_first 7 (v := ?_) rfl (by kernel_rfl) (by kernel_rfl) (by kernel_rfl) (fun _ _ _ h => h) (Or.inl ⟨by rfl, by intro wx hSw; (try dsimp only at hSw); obtain ⟨a1, a2, a3, a4⟩ := hSw; go_simp; try with_reducible rfl⟩) (by assumption) ?_
  (try simp only [Act.put, List.setIfInBounds_toArray, List.set_cons_zero, List.set_cons_succ])
  refine take_first 8 (v := ?_) rfl (by kernel_rfl) (by kernel_rfl) (by kernel_rfl) (fun _ _ _ h => h) (Or.inl ⟨by rfl, by intro wx hSw; (try dsimp only at hSw); obtain ⟨a1, a2, a3, a4⟩ := hSw; go_simp; try with_reducible rfl⟩) (by assumption) ?_
  (try simp only [Act.put, List.setIfInBounds_toArray, List.set_cons_zero, List.set_cons_succ])
  refine take_first 9 (v := ?_) rfl (by kernel_rfl) (by kernel_rfl) (by kernel_rfl) (fun _ _ _ h => h) (Or.inl ⟨by rfl, by intro wx hSw; (try dsimp only at hSw); obtain ⟨a1, a2, a3, a4⟩ := hSw; go_simp; try with_reducible rfl⟩) (by assumption) ?_
  (try simp only [Act.put, List.setIfInBounds_toArray, List.set_cons_zero, List.set_cons_succ])
  refine take_first 10 (v := ?_) rfl (by kernel_rfl) (by kernel_rfl) (by kernel_rfl) (fun _ _ _ h => h) (Or.inl ⟨by rfl, by intro wx hSw; (try dsimp only at hSw); obtain ⟨a1, a2, a3, a4⟩ := hSw; go_simp; try with_reducible rfl⟩) (by assumption) ?_
  (try simp only [Act.put, List.setIfInBounds_toArray, List.set_cons_zero, List.set_cons_succ])
  refine take_first 11 (v := ?_) rfl (by kernel_rfl) (by kernel_rfl) (by kernel_rfl) (fun _ _ _ h => h) (Or.inl ⟨by rfl, by intro wx hSw; (try dsimp only at hSw); obtain ⟨a1, a2, a3, a4⟩ := hSw; go_simp; try with_reducible rfl⟩) (by assumption) ?_
  (try simp only [Act.put, List.setIfInBounds_toArray, List.set_cons_zero, List.set_cons_succ])
  refine take_first 12 (v := ?_) rfl (by kernel_rfl) (by kernel_rfl) (by kernel_rfl) (fun _ _ _ h => h) (Or.inl ⟨by rfl, by intro wx hSw; (try dsimp only at hSw); obtain ⟨a1, a2, a3, a4⟩ := hSw; go_simp; try with_reducible rfl⟩) (by assumption) ?_
  (try simp only [Act.put, List.setIfInBounds_toArray, List.set_cons_zero, List.set_cons_succ])
  refine take_first 13 (v := ?_) rfl (by kernel_rfl) (by kernel_rfl) (by kernel_rfl) (fun _ _ _ h => h) (Or.inl ⟨by rfl, by intro wx hSw; (try dsimp only at hSw); obtain ⟨a1, a2, a3, a4⟩ := hSw; go_simp; try with_reducible rfl⟩) (by assumption) ?_
  (try simp only [Act.put, List.setIfInBounds_toArray, List.set_cons_zero, List.set_cons_succ])
  refine comes_up 14 rfl (by kernel_rfl) (fun K hK => ?_)
  go_simp
  refine (hwi _).mono ?_
  rintro e w0 ⟨rfl, rfl⟩
  go_wp2_with fail
  refine hK.out _ _ hS (fun hHeld => ?_)
  clear hK K
  (try simp only [Act.put, List.setIfInBounds_toArray, List.set_cons_zero, List.set_cons_succ])
  refine take_first 15 (v := ?_) rfl (by kernel_rfl) (by kernel_rfl) (by kernel_rfl) (fun _ _ _ h => h) (Or.inl ⟨by rfl, by intro wx hSw; (try dsimp only at hSw); obtain ⟨a1, a2, a3, a4⟩ := hSw; go_simp; try with_reducible rfl⟩) (by assumption) ?_
  (try simp only [Act.put, List.setIfInBounds_toArray, List.set_cons_zero, List.set_cons_succ])
  refine take_first 16 (v := ?_) rfl (by kernel_rfl) (by kernel_rfl) (by kernel_rfl) (fun _ _ _ h => h) (Or.inl ⟨by rfl, by intro wx hSw; (try dsimp only at hSw); obtain ⟨a1, a2, a3, a4⟩ := hSw; go_simp; try with_reducible rfl⟩) (by assumption) ?_
  (try simp only [Act.put, List.setIfInBounds_toArray, List.set_cons_zero, List.set_cons_succ])
  refine take_first 17 (v := ?_) rfl (by kernel_rfl) (by kernel_rfl) (by kernel_rfl) (fun _ _ _ h => h) (Or.inl ⟨by rfl, by intro wx hSw; (try dsimp only at hSw); obtain ⟨a1, a2, a3, a4⟩ := hSw; go_simp; try with_reducible rfl⟩) (by assumption) ?_
  (try simp only [Act.put, List.setIfInBounds_toArray, List.set_cons_zero, List.set_cons_succ])
  refine take_first 18 (v := ?_) rfl (by kernel_rfl) (by kernel_rfl) (by kernel_rfl) (fun _ _ _ h => h) (Or.inl ⟨by rfl, by intro wx hSw; (try dsimp only at hSw); obtain ⟨a1, a2, a3, a4⟩ := hSw; go_simp; try with_reducible rfl⟩) (by assumption) ?_
  (try simp only [Act.put, List.setIfInBounds_toArray, List.set_cons_zero, List.set_cons_succ])
  refine take_first 19 (v := ?_) rfl (by kernel_rfl) (by kernel_rfl) (by kernel_rfl) (fun _ _ _ h => h) (Or.inl ⟨by rfl, by intro wx hSw; (try dsimp only at hSw); obtain ⟨a1, a2, a3, a4⟩ := hSw; go_simp; try with_reducible rfl⟩) (by assumption) ?_
  (try simp only [Act.put, List.setIfInBounds_toArray, List.set_cons_zero, List.set_cons_succ])
  refine take_first 20 (v := ?_) rfl (by kernel_rfl) (by kernel_rfl) (by kernel_rfl) (fun _ _ _ h => h) (Or.inl ⟨by rfl, by intro wx hSw; (try dsimp only at hSw); obtain ⟨a1, a2, a3, a4⟩ := hSw; go_simp; try with_reducible rfl⟩) (by assumption) ?_
  (try simp only [Act.put, List.setIfInBounds_toArray, List.set_cons_zero, List.set_cons_succ])
  refine take_first 21 (v := ?_) rfl (by kernel_rfl) (by kernel_rfl) (by kernel_rfl) (fun _ _ _ h => h) (Or.inl ⟨by rfl, by intro wx hSw; (try dsimp only at hSw); obtain ⟨a1, a2, a3, a4⟩ := hSw; go_simp; try with_reducible rfl⟩) (by assumption) ?_
  (try simp only [Act.put, List.setIfInBounds_toArray, List.set_cons_zero, List.set_cons_succ])
  refine take_first 22 (v := ?_) rfl (by kernel_rfl) (by kernel_rfl) (by kernel_rfl) (fun _ _ _ h => h) (Or.inl ⟨by rfl, by intro wx hSw; (try dsimp only at hSw); obtain ⟨a1, a2, a3, a4⟩ := hSw; go_simp; try with_reducible rfl⟩) (by assumption) ?_
  (try simp only [Act.put, List.setIfInBounds_toArray, List.set_cons_zero, List.set_cons_succ])
  refine take_first 23 (v := ?_) rfl (by kernel_rfl) (by kernel_rfl) (by kernel_rfl) (fun _ _ _ h => h) (Or.inl ⟨by rfl, by intro wx hSw; (try dsimp only at hSw); obtain ⟨a1, a2, a3, a4⟩ := hSw; go_simp; try with_reducible rfl⟩) (by assumption) ?_
  (try simp only [Act.put, List.setIfInBounds_toArray, List.set_cons_zero, List.set_cons_succ])
  refine take_first 24 (v := ?_) rfl (by kernel_rfl) (by kernel_rfl) (by kernel_rfl) (fun _ _ _ h => h) (Or.inl ⟨by rfl, by intro wx hSw; (try dsimp only at hSw); obtain ⟨a1, a2, a3, a4⟩ := hSw; go_simp; try with_reducible rfl⟩) (by assumption) ?_
  (try simp only [Act.put, List.setIfInBounds_toArray, List.set_cons_zero, List.set_cons_succ])
  refine take_first 25 (v := ?_) rfl (by kernel_rfl) (by kernel_rfl) (by kernel_rfl) (fun _ _ _ h => h) (Or.inl ⟨by rfl, by intro wx hSw; (try dsimp only at hSw); obtain ⟨a1, a2, a3, a4⟩ := hSw; go_simp; try with_reducible rfl⟩) (by assumption) ?_
  (try simp only [Act.put, List.setIfInBounds_toArray, List.set_cons_zero, List.set_cons_succ])
  refine take_first 26 (v := ?_) rfl (by kernel_rfl) (by kernel_rfl) (by kernel_rfl) (fun _ _ _ h => h) (Or.inl ⟨by rfl, by intro wx hSw; (try dsimp only at hSw); obtain ⟨a1, a2, a3, a4⟩ := hSw; go_simp; try with_reducible rfl⟩) (by assumption) ?_
  (try simp only [Act.put, List.setIfInBounds_toArray, List.set_cons_zero, List.set_cons_succ])
  refine take_first 27 (v := ?_) rfl (by kernel_rfl) (by kernel_rfl) (by kernel_rfl) (fun _ _ _ h => h) (Or.inl ⟨by rfl, by intro wx hSw; (try dsimp only at hSw); obtain ⟨a1, a2, a3, a4⟩ := hSw; go_simp; try with_reducible rfl⟩) (by assumption) ?_
  (try simp only [Act.put, List.setIfInBounds_toArray, List.set_cons_zero, List.set_cons_succ])
  refine take_first 28 (v := ?_) rfl (by kernel_rfl) (by kernel_rfl) (by kernel_rfl) (fun _ _ _ h => h) (Or.inl ⟨by rfl, by intro wx hSw; (try dsimp only at hSw); obtain ⟨a1, a2, a3, a4⟩ := hSw; go_simp; try with_reducible rfl⟩) (by assumption) ?_
  (try simp only [Act.put, List.setIfInBounds_toArray, List.set_cons_zero, List.set_cons_succ])
  refine take_first 29 (v := ?_) rfl (by kernel_rfl) (by kernel_rfl) (by kernel_rfl) (fun _ _ _ h => h) (Or.inl ⟨by rfl, by intro wx hSw; (try dsimp only at hSw); obtain ⟨a1, a2, a3, a4⟩ := hSw; go_simp; try with_reducible rfl⟩) (by assumption) ?_
  (try simp only [Act.put, List.setIfInBounds_toArray, List.set_cons_zero, List.set_cons_succ])
  refine take_first 30 (v := ?_) rfl (by kernel_rfl) (by kernel_rfl) (by kernel_rfl) (fun _ _ _ h => h) (Or.inl ⟨by rfl, by intro wx hSw; (try dsimp only at hSw); obtain ⟨a1, a2, a3, a4⟩ := hSw; go_simp; try with_reducible rfl⟩) (by assumption) ?_
  (try simp only [Act.put, List.setIfInBounds_toArray, List.set_cons_zero, List.set_cons_succ])
  refine take_first 31 (v := ?_) rfl (by kernel_rfl) (by kernel_rfl) (by kernel_rfl) (fun _ _ _ h => h) (Or.inl ⟨by rfl, by intro wx hSw; (try dsimp only at hSw); obtain ⟨a1, a2, a3, a4⟩ := hSw; go_simp; try with_reducible rfl⟩) (by assumption) ?_
  (try simp only [Act.put, List.setIfInBounds_toArray, List.set_cons_zero, List.set_cons_succ])
  refine take_first 32 (v := ?_) rfl (by kernel_rfl) (by kernel_rfl) (by kernel_rfl) (fun _ _ _ h => h) (Or.inl ⟨by rfl, by intro wx hSw; (try dsimp only at hSw); obtain ⟨a1, a2, a3, a4⟩ := hSw; go_simp; try with_reducible rfl⟩) (by assumption) ?_
  (try simp only [Act.put, List.setIfInBounds_toArray, List.set_cons_zero, List.set_cons_succ])
  refine take_first 33 (v := ?_) rfl (by kernel_rfl) (by kernel_rfl) (by kernel_rfl) (fun _ _ _ h => h) (Or.inl ⟨by rfl, by intro wx hSw; (try dsimp only at hSw); obtain ⟨a1, a2, a3, a4⟩ := hSw; go_simp; try with_reducible rfl⟩) (by assumption) ?_
  (try simp only [Act.put, List.setIfInBounds_toArray, List.set_cons_zero, List.set_cons_succ])
  refine take_first 34 (v := ?_) rfl (by kernel_rfl) (by kernel_rfl) (by kernel_rfl) (fun _ _ _ h => h) (Or.inl ⟨by rfl, by intro wx hSw; (try dsimp only at hSw); obtain ⟨a1, a2, a3, a4⟩ := hSw; go_simp; try with_reducible rfl⟩) (by assumption) ?_
  (try simp only [Act.put, List.setIfInBounds_toArray, List.set_cons_zero, List.set_cons_succ])
  refine wpAnyH_done (by kernel_rfl) ?_ _
  refine NoPanic.normal ?_
  clear hHeld hS
  go_wp2_with fail
  go_loopw [13, 14, 15] (fun iv lv mv wr => ∃ (j : Nat) (x y : Value), j ≤ t ∧ iv = .int .i64 (j : Nat) ∧ lv = x ∧ mv = y ∧ Hid (Al w q k i wr)) (fun iv _ _ _ => t - (intOf iv).toNat)
  case atStart => exact ⟨0, _, _, by omega, rfl, rfl, rfl, HA3.out.drew⟩
  case round =>
    obtain ⟨j, x, y, hj, rfl, hx, hy, hal⟩ := hrel
    replace hx := hx.symm
    replace hy := hy.symm
    subst hx
    subst hy
    obtain ⟨F4, Z4, o4, h4, b4, s4, f4⟩ := hal.out.ex
    have r2 := HR.out
    have q1 := fun W => field34_0 1 (i : Int) (withN 0 (i : Int) : Nat) W
    have q2 := fun W => field31_0 1 (i : Int) W
    by_cases hlt : j < t
    · have hltI : (j : Int) < (t : Int) := by omega
      have hcu := cur_any h4
      have HK : Hid (∀ w5, Up wr w5 → Calls Tryd.prog 14 #[.pointer (some ⟨q, 0, none⟩), .int .u16 (withN 0 (i : Int) : Nat), .agg #[.int .u64 1, .int .i64 (i : Nat), .int .i64 0, .slice none 0 0]] w5 fun e w6 => ∃ u1 u2, e = .returned (.tuple #[.slice u1 0 u2, .pointer none]) ∧ Al w q k i w6) := fun w5 u5 => by
        have htk := tick_any (h4.still u5.bl) (withN 0 (i : Int)) hw16 (1, (i : Int), 0, none, 0, 0) (1, (i : Int), 0, []) (Si.nil _ _ _ _ _ _)
        rw [alone_more k i hik k16] at htk
        unfold sta at htk
        refine htk.mono ?_
        rintro e w6 ⟨v6, iv6, rfl, F6, Z6, o6, sp6, h6, ho6, hi6⟩
        have hi6' : iv6 = .pointer none := hi6
        subst hi6'
        obtain ⟨x1, x2, x3⟩ := below_sp (Up.below b4 s4 u5.bl) (Nat.le_trans s4 u5.bl.size) sp6 f4
        obtain ⟨L, l1, l2, _⟩ := ho6
        match L, l1 with
        | [], _ =>
          obtain ⟨_, ⟨rfl, _⟩ | ⟨g, cap, cur, rfl, _⟩⟩ := l2
          · exact ⟨none, 0, rfl, ⟨F6, Z6, o6, h6, x1, x2, x3⟩⟩
          · exact ⟨some ⟨g, 0, none⟩, cap, rfl, ⟨F6, Z6, o6, h6, x1, x2, x3⟩⟩
      unfold vw aloneM at hcu
      clear h4 hal
      go_wp2_with fail
      refine (hwi _).mono ?_
      rintro e w0 ⟨rfl, rfl⟩
      go_wp2_with fail
      refine hcu.mono ?_
      rintro e w5 ⟨rfl, u5⟩
      go_wp2_with fail
      refine (HK.out w5 u5).mono ?_
      rintro e w6 ⟨u61, u62, rfl, hal6⟩
      have HA6 : Hid (Al w q k i w6) := hal6
      clear hal6 HK hcu
      go_wp2
      go_roundw
      case rel => exact ⟨j + 1, _, _, by omega, by go_num, rfl, rfl, HA6⟩
      case measure => simp [intOf]; omega
    · have hge : ¬ ((j : Int) < (t : Int)) := by omega
      have hop := open_any h4
      have HC : Hid (∀ w5, Up wr w5 → Calls Tryd.prog 20 #[.pointer (some ⟨q, 0, none⟩)] w5 fun e w6 => e = .returned (vw (1, (i : Int)) (withN 0 (i : Int))) ∧ Up w5 w6) := fun w5 u5 => cur_any (h4.still u5.bl)
      have eo : (aloneM k i zd).opn = true := by unfold Mm.opn aloneM; simp
      rw [eo] at hop
      unfold vw at HC
      have HB : Hid (Below w.heap.size w wr ∧ w.heap.size ≤ wr.heap.size) := ⟨b4, s4⟩
      clear h4 hal b4 s4 f4
      go_wp2_with fail
      refine hop.mono ?_
      rintro e w5 ⟨rfl, u5⟩
      go_wp2_with fail
      refine (HC.out w5 u5).mono ?_
      rintro e w6 ⟨rfl, u6⟩
      go_wp2
      go_ret
      exact ⟨rfl, Up.below HB.out.1 HB.out.2 (u5.trans u6).bl⟩
end Go.Proofs.YtlonbbepoamnmaaDoor
