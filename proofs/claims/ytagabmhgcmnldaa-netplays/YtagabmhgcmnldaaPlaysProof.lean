/-
  Proved: for all n and all scripts, NetPlays(n, script) returns true: the net answers each call as the document's does, and it counts, hears and holds the same. No condition.
-/
import Derived.Test.YtagabmhgcmnldaaMNew
namespace Go.Proofs.Ytagabmhgcmnldaa.netPlays
open Go.ChangeShapes Go.WideShapes Go.ChangeAt Go.RowKit
open Go.ChangeMaps (open_string shut_string)
set_option linter.unusedVariables false
set_option linter.unusedSimpArgs false

theorem box37 (w : World) (a b c d : Value) : (w.alloc (.cells #[a, b, c, d] 37)).cell? ⟨w.heap.size, 0, none⟩ = some a ∧ (w.alloc (.cells #[a, b, c, d] 37)).cell? ⟨w.heap.size, 1, none⟩ = some b ∧ (w.alloc (.cells #[a, b, c, d] 37)).cell? ⟨w.heap.size, 2, none⟩ = some c ∧ (w.alloc (.cells #[a, b, c, d] 37)).cell? ⟨w.heap.size, 3, none⟩ = some d :=
  ⟨cell_box w _ 37 0 _ rfl, cell_box w _ 37 1 _ rfl, cell_box w _ 37 2 _ rfl, cell_box w _ 37 3 _ rfl⟩
set_option maxRecDepth 10000 in
theorem walk_err (w : World) (nn : Int) (hnn : In nn) (v : Value) (h : nn < 1 ∨ 16 < nn) : Calls Try.prog 3 #[.int .i64 nn, v] w fun e w' => e = .returned (.bool true) ∧ Below w.heap.size w w' := by
  have hne := fun W => new_err W nn h
  by_cases h1 : nn < 1
  · go_enter Try.func3, Try.ntmps3
    go_wp2_with fail
    refine (awake_any _).mono ?_
    rintro e w1 ⟨rfl, b1⟩
    go_wp2_with fail
    refine (hne _).mono ?_
    rintro e w2 ⟨rfl, rfl⟩
    go_wp2
    go_ret
    exact ⟨rfl, b1⟩
  · have h2 : 16 < nn := by omega
    clear h
    go_enter Try.func3, Try.ntmps3
    go_wp2_with fail
    refine (awake_any _).mono ?_
    rintro e w1 ⟨rfl, b1⟩
    go_wp2_with fail
    refine (hne _).mono ?_
    rintro e w2 ⟨rfl, rfl⟩
    go_wp2
    go_ret
    exact ⟨rfl, b1⟩

set_option maxRecDepth 10000 in
set_option maxHeartbeats 4000000 in
theorem walk (w : World) (nn : Int) (hnn : In nn) (ao : Option Addr) (l cap : Nat) (xs : Nat → Ac) (hx : NActs w ao l xs) :
    Calls Try.prog 3 #[.int .i64 nn, .slice ao l cap] w fun e w' => e = .returned (.bool true) ∧ Below w.heap.size w w' := by
  by_cases hN : nn < 1 ∨ 16 < nn
  · exact walk_err w nn hnn _ hN
  obtain ⟨N, rfl⟩ : ∃ N : Nat, nn = N := ⟨nn.toNat, by omega⟩
  have h1 : 1 ≤ N := by omega
  have h16 : N ≤ 16 := by omega
  have h1I : (1 : Int) ≤ N := by omega
  have h16I : (N : Int) ≤ 16 := by omega
  have HX : Hid (NActs w ao l xs) := hx
  have hlm := hx.max
  have hz := zeroM_run
  have hs0 : zeroM ≠ #[] := by unfold zeroM; simp
  have hs1 : zeroM.size = 260 := by simp [zeroM]
  have hs2 : ¬ zeroM.size < 1 := by omega
  have HC : Hid (zeroM.setIfInBounds 0 (.int .i64 (N : Nat)) = newM N) := newM_is N
  clear hx hnn hN
  generalize zeroM = zM at *
  go_enter Try.func3, Try.ntmps3
  go_wp2_with fail
  refine (awake_any _).mono ?_
  rintro e w1 ⟨rfl, b1⟩
  go_wp2_with fail
  refine (new_any _ N h1 h16).mono ?_
  rintro e w2 ⟨p, F, rfl, hNt, b2, hF⟩
  have hbb := bl_step b1 b2
  obtain ⟨G0, HB0, HG0⟩ := new_both (w := w) hNt h1 h16 hbb.size (fun b hb => Nat.le_trans b1.size (hF b hb))
  have H0 : Hid (Bth (w2.alloc (.cells (newM N) 34)) G0 p w2.heap.size N 0 [] ∧ (∀ b, G0 b → w.heap.size ≤ b) ∧ Below w.heap.size w (w2.alloc (.cells (newM N) 34))) := ⟨HB0, HG0, hbb.alloc hbb.size _⟩
  clear b1 b2 hNt hF hbb HB0 HG0
  go_wp2_with fail
  (try rw [HC.out])
  (try simp only [HC.out])
  clear HC hz hs0 hs1 hs2
  go_loopw [8, 9] (fun iv _ wr => ∃ (i : Nat) (G : Nat → Prop) (lost : Nat) (A : List Pa), i ≤ 80 ∧ iv = .int .i64 (i : Nat) ∧ Bth wr G p w2.heap.size N lost A ∧ A.length ≤ i ∧ lost ≤ i ∧ (∀ b, G b → w.heap.size ≤ b) ∧ Below w.heap.size w wr) (fun iv _ _ => 80 - (intOf iv).toNat)
  case atStart => exact ⟨0, G0, 0, [], by omega, rfl, H0.out.1, by simp, by omega, H0.out.2.1, H0.out.2.2⟩
  case round =>
    clear H0 G0
    obtain ⟨i, G, lost, A, hi, rfl, hB, hA, hlo, hG, hbl⟩ := hrel
    have hgo : (i < l ∧ i < 80) ∨ (i < l ∧ ¬ i < 80) ∨ ¬ i < l := by omega
    rcases hgo with ⟨hlt, h80⟩ | ⟨hlt, h80⟩ | hlt
    · have hltI : (i : Int) < l := by omega
      have h80I : (i : Int) < 80 := by omega
      have hok := HX.out.ok i hlt
      obtain ⟨sb, so, rfl, hcs⟩ := HX.out.cell (by omega)
      obtain ⟨c0, c1, c2, c3⟩ := hcs i hlt
      have hsb := World.block_lt_of_cell? w _ c0
      have e0 := (hbl.cell (p := ⟨sb, so + i * 4, none⟩) hsb).trans c0
      have e1 := (hbl.cell (p := ⟨sb, so + i * 4 + 1, none⟩) hsb).trans c1
      have e2 := (hbl.cell (p := ⟨sb, so + i * 4 + 2, none⟩) hsb).trans c2
      have e3 := (hbl.cell (p := ⟨sb, so + i * 4 + 3, none⟩) hsb).trans c3
      clear hcs c0 c1 c2 c3
      generalize xs i = qa at e0 e1 e2 e3 hok
      obtain ⟨k, I, J, po, pn, pc, ys⟩ := qa
      dsimp only at e0 e1 e2 e3
      have hkk : k < 256 := hok.kind
      have hII : I ≤ 9223372036854775807 := hok.i.2
      have hJJ : J ≤ 9223372036854775807 := hok.k.2
      have hcap : pc ≤ 140737488351232 := hok.cap
      have u : Below wr.heap.size wr (wr.alloc (acto k I J (.slice po pn pc))).drew := (bl1 wr _).drew
      have hrow : Row w po pn pc ys := hok.row
      have hGp : ∀ a, po = some a → 0 < pn → ¬ G a.block := fun a ha h0 hg => by
        have h2 := hrow.2.2.2.2 a ha 0 h0
        have h3 := World.block_lt_of_cell? w _ h2
        have h4 := hG _ hg
        have h5 : (a.add 0).block = a.block := by unfold Addr.add; split <;> rfl
        omega
      have hdo := do_any (hB.up u) k hkk I J hII hJJ po pn pc ys ((hrow.below hbl (Nat.le_refl _)).below u (Nat.le_refl _)) (by have := hrow.2.1; omega) hGp (by omega) (by omega)
      unfold actv at hdo
      have hnG : ¬ G wr.heap.size := fun hg => by have := hB.2 _ hg; omega
      obtain ⟨f0, f1, f2, f3⟩ := box37 wr (.int .u8 (k : Nat)) (.int .i64 I) (.int .i64 J) (.slice po pn pc)
      have hsz : wr.heap.size < (wr.alloc (acto k I J (.slice po pn pc))).drew.heap.size := by simp
      have HU : Hid (Below w.heap.size w (wr.alloc (acto k I J (.slice po pn pc))).drew) := hbl.trans (u.mono hbl.size)
      have hsz2 : w.heap.size ≤ (wr.alloc (acto k I J (.slice po pn pc))).drew.heap.size := HU.out.size
      unfold acto at *
      clear hB hok hrow hGp u HX
      go_wp2_with fail
      refine wp_region_noPanic ?_
      refine wp_region_held_drew (S := fun W => W.cell? ⟨wr.heap.size, 0, none⟩ = some (.int .u8 (k : Nat)) ∧ W.cell? ⟨wr.heap.size, 1, none⟩ = some (.int .i64 I) ∧ W.cell? ⟨wr.heap.size, 2, none⟩ = some (.int .i64 J) ∧ W.cell? ⟨wr.heap.size, 3, none⟩ = some (.slice po pn pc)) (by kernel_rfl) ⟨f0, f1, f2, f3⟩ (fun hHeld => ?_)
      refine take_first 0 (v := ?_) rfl (by kernel_rfl) (by kernel_rfl) (by kernel_rfl) (fun _ _ _ h => h) (Or.inl ⟨by rfl, by intro wx hSw; (try dsimp only at hSw); obtain ⟨s1, s2, s3, s4⟩ := hSw; go_simp; try with_reducible rfl⟩) (by assumption) ?_
      (try simp only [Act.put, List.setIfInBounds_toArray, List.set_cons_zero, List.set_cons_succ])
      refine take_first 1 (v := ?_) rfl (by kernel_rfl) (by kernel_rfl) (by kernel_rfl) (fun _ _ _ h => h) (Or.inl ⟨by rfl, by intro wx hSw; (try dsimp only at hSw); obtain ⟨s1, s2, s3, s4⟩ := hSw; go_simp; try with_reducible rfl⟩) (by assumption) ?_
      (try simp only [Act.put, List.setIfInBounds_toArray, List.set_cons_zero, List.set_cons_succ])
      refine take_first 2 (v := ?_) rfl (by kernel_rfl) (by kernel_rfl) (by kernel_rfl) (fun _ _ _ h => h) (Or.inl ⟨by rfl, by intro wx hSw; (try dsimp only at hSw); obtain ⟨s1, s2, s3, s4⟩ := hSw; go_simp; try with_reducible rfl⟩) (by assumption) ?_
      (try simp only [Act.put, List.setIfInBounds_toArray, List.set_cons_zero, List.set_cons_succ])
      refine comes_up 3 rfl (by kernel_rfl) (fun K hK => ?_)
      go_simp
      refine hdo.mono ?_
      rintro e w5 ⟨rfl, G', lost', A', hB5, hA5, hl5, hgo5⟩
      have hbk := hgo5.turned.block _ hsz hnG
      have hS5 : w5.cell? ⟨wr.heap.size, 0, none⟩ = some (.int .u8 (k : Nat)) ∧ w5.cell? ⟨wr.heap.size, 1, none⟩ = some (.int .i64 I) ∧ w5.cell? ⟨wr.heap.size, 2, none⟩ = some (.int .i64 J) ∧ w5.cell? ⟨wr.heap.size, 3, none⟩ = some (.slice po pn pc) := ⟨(cell_block hbk).trans f0, (cell_block hbk).trans f1, (cell_block hbk).trans f2, (cell_block hbk).trans f3⟩
      have HEND : Hid (∀ W, Below w5.heap.size w5 W → Bth W G' p w2.heap.size N lost' A' ∧ A'.length ≤ i + 1 ∧ lost' ≤ i + 1 ∧ (∀ b, G' b → w.heap.size ≤ b) ∧ Below w.heap.size w W) := fun W hW => by
        refine ⟨hB5.up hW, by omega, by omega, fun b hb => (hgo5.foot b hb).elim (hG b) (fun hle => Nat.le_trans hsz2 hle), ?_⟩
        have hb5 : Below w.heap.size w w5 := HU.out.trans (hgo5.turned.below hsz2 hG)
        exact hb5.trans (hW.mono hb5.size)
      obtain ⟨⟨F5, H5, D5, lv5, bv5, L5, n5, k5, r5, _, _, _⟩, _⟩ := hB5
      have ln5 := len_any n5
      have lo5 := lost_any n5
      have he5 := hear_any n5 I J
      have rh5 := refHear_any k5 I J
      rw [r5.hears h16 I J] at rh5
      have cl5 := class_any n5 I
      have rc5 : ∀ W, Below w5.heap.size w5 W → Calls Try.prog 19 #[.pointer (some ⟨w2.heap.size, 0, none⟩), .int .i64 I] W _ := fun W hW => refClass_any (k5.up hW) H5 r5 I
      obtain ⟨la, lc, hlv, _, _⟩ := lrow_shape k5.lrow
      have m1 := k5.c1
      rw [hlv, ← k5.len] at m1
      have m2 := k5.cL
      have hs5 : wr.heap.size < w5.heap.size := by have := hgo5.turned.size; omega
      have hp5 : w2.heap.size < w5.heap.size := k5.obj.lt
      have hA80 : A'.length ≤ 80 := by omega
      have hl80 : lost' ≤ 80 := by omega
      clear n5 k5 r5 hlv hgo5 hbk hdo f0 f1 f2 f3 e0 e1 e2 e3 HU hHeld hbl hG
      obtain ⟨nA, HNA⟩ : ∃ nA, Hid (A'.length = nA) := ⟨_, Eq.refl _⟩
      rw [HNA.out] at ln5 m1 hA80
      generalize hears N H5 I J = hv at *
      generalize classN N H5 I = cv at *
      go_wp2_with fail
      refine hK.out _ _ hS5 (fun hHeld => ?_)
      clear hK K
      (try simp only [Act.put, List.setIfInBounds_toArray, List.set_cons_zero, List.set_cons_succ])
      clear hHeld
      refine wpAnyH_weaken (S' := fun W => (W.cell? ⟨wr.heap.size, 0, none⟩ = some (.int .u8 (k : Nat)) ∧ W.cell? ⟨wr.heap.size, 1, none⟩ = some (.int .i64 I) ∧ W.cell? ⟨wr.heap.size, 2, none⟩ = some (.int .i64 J) ∧ W.cell? ⟨wr.heap.size, 3, none⟩ = some (.slice po pn pc)) ∧ W.cell? ⟨w2.heap.size, 1, none⟩ = some (.slice la nA lc) ∧ W.cell? ⟨w2.heap.size, 259, none⟩ = some (.int .i64 (lost' : Nat))) (fun _ h => h.1) _ _ _ _ ?_
      have hHeld : (w5.cell? ⟨wr.heap.size, 0, none⟩ = some (.int .u8 (k : Nat)) ∧ w5.cell? ⟨wr.heap.size, 1, none⟩ = some (.int .i64 I) ∧ w5.cell? ⟨wr.heap.size, 2, none⟩ = some (.int .i64 J) ∧ w5.cell? ⟨wr.heap.size, 3, none⟩ = some (.slice po pn pc)) ∧ w5.cell? ⟨w2.heap.size, 1, none⟩ = some (.slice la nA lc) ∧ w5.cell? ⟨w2.heap.size, 259, none⟩ = some (.int .i64 (lost' : Nat)) := ⟨hS5, m1, m2⟩
      refine take_first 4 (v := ?_) rfl (by kernel_rfl) (by kernel_rfl) (by kernel_rfl) (fun _ _ _ h => h) (Or.inl ⟨by rfl, by intro wx hSw; (try dsimp only at hSw); obtain ⟨⟨s1, s2, s3, s4⟩, s5, s6⟩ := hSw; go_simp; try with_reducible rfl⟩) (by assumption) ?_
      (try simp only [Act.put, List.setIfInBounds_toArray, List.set_cons_zero, List.set_cons_succ])
      refine take_first 5 (v := ?_) rfl (by kernel_rfl) (by kernel_rfl) (by kernel_rfl) (fun _ _ _ h => h) (Or.inl ⟨by rfl, by intro wx hSw; (try dsimp only at hSw); obtain ⟨⟨s1, s2, s3, s4⟩, s5, s6⟩ := hSw; go_simp; try with_reducible rfl⟩) (by assumption) ?_
      (try simp only [Act.put, List.setIfInBounds_toArray, List.set_cons_zero, List.set_cons_succ])
      refine take_first 6 (v := ?_) rfl (by kernel_rfl) (by kernel_rfl) (by kernel_rfl) (fun _ _ _ h => h) (Or.inl ⟨by rfl, by intro wx hSw; (try dsimp only at hSw); obtain ⟨⟨s1, s2, s3, s4⟩, s5, s6⟩ := hSw; go_simp; try with_reducible rfl⟩) (by assumption) ?_
      (try simp only [Act.put, List.setIfInBounds_toArray, List.set_cons_zero, List.set_cons_succ])
      refine take_first 8 (v := ?_) rfl (by kernel_rfl) (by kernel_rfl) (by kernel_rfl) (fun _ _ _ h => h) (Or.inl ⟨by rfl, by intro wx hSw; (try dsimp only at hSw); obtain ⟨⟨s1, s2, s3, s4⟩, s5, s6⟩ := hSw; go_simp; try with_reducible rfl⟩) (by assumption) ?_
      (try simp only [Act.put, List.setIfInBounds_toArray, List.set_cons_zero, List.set_cons_succ])
      refine take_first 9 (v := ?_) rfl (by kernel_rfl) (by kernel_rfl) (by kernel_rfl) (fun _ _ _ h => h) (Or.inl ⟨by rfl, by intro wx hSw; (try dsimp only at hSw); obtain ⟨⟨s1, s2, s3, s4⟩, s5, s6⟩ := hSw; go_simp; try with_reducible rfl⟩) (by assumption) ?_
      (try simp only [Act.put, List.setIfInBounds_toArray, List.set_cons_zero, List.set_cons_succ])
      refine take_first 10 (v := ?_) rfl (by kernel_rfl) (by kernel_rfl) (by kernel_rfl) (fun _ _ _ h => h) (Or.inl ⟨by rfl, by intro wx hSw; (try dsimp only at hSw); obtain ⟨⟨s1, s2, s3, s4⟩, s5, s6⟩ := hSw; go_simp; try with_reducible rfl⟩) (by assumption) ?_
      (try simp only [Act.put, List.setIfInBounds_toArray, List.set_cons_zero, List.set_cons_succ])
      refine take_first 11 (v := ?_) rfl (by kernel_rfl) (by kernel_rfl) (by kernel_rfl) (fun _ _ _ h => h) (Or.inl ⟨by rfl, by intro wx hSw; (try dsimp only at hSw); obtain ⟨⟨s1, s2, s3, s4⟩, s5, s6⟩ := hSw; go_simp; try with_reducible rfl⟩) (by assumption) ?_
      (try simp only [Act.put, List.setIfInBounds_toArray, List.set_cons_zero, List.set_cons_succ])
      refine take_first 12 (v := ?_) rfl (by kernel_rfl) (by kernel_rfl) (by kernel_rfl) (fun _ _ _ h => h) (Or.inl ⟨by rfl, by intro wx hSw; (try dsimp only at hSw); obtain ⟨⟨s1, s2, s3, s4⟩, s5, s6⟩ := hSw; go_simp; try with_reducible rfl⟩) (by assumption) ?_
      (try simp only [Act.put, List.setIfInBounds_toArray, List.set_cons_zero, List.set_cons_succ])
      refine comes_up 7 rfl (by kernel_rfl) (fun K hK => ?_)
      go_simp
      refine ln5.mono ?_
      rintro e w6 ⟨rfl, rfl⟩
      go_wp2_with fail
      refine hK.out _ _ hHeld (fun hHeld => ?_)
      clear hK K
      (try simp only [Act.put, List.setIfInBounds_toArray, List.set_cons_zero, List.set_cons_succ])
      refine take_first 13 (v := ?_) rfl (by kernel_rfl) (by kernel_rfl) (by kernel_rfl) (fun _ _ _ h => h) (Or.inl ⟨by rfl, by intro wx hSw; (try dsimp only at hSw); obtain ⟨⟨s1, s2, s3, s4⟩, s5, s6⟩ := hSw; go_simp; try with_reducible rfl⟩) (by assumption) ?_
      (try simp only [Act.put, List.setIfInBounds_toArray, List.set_cons_zero, List.set_cons_succ])
      refine take_first 14 (v := ?_) rfl (by kernel_rfl) (by kernel_rfl) (by kernel_rfl) (fun _ _ _ h => h) (Or.inl ⟨by rfl, by intro wx hSw; (try dsimp only at hSw); obtain ⟨⟨s1, s2, s3, s4⟩, s5, s6⟩ := hSw; go_simp; try with_reducible rfl⟩) (by assumption) ?_
      (try simp only [Act.put, List.setIfInBounds_toArray, List.set_cons_zero, List.set_cons_succ])
      refine take_first 15 (v := ?_) rfl (by kernel_rfl) (by kernel_rfl) (by kernel_rfl) (fun _ _ _ h => h) (Or.inl ⟨by rfl, by intro wx hSw; (try dsimp only at hSw); obtain ⟨⟨s1, s2, s3, s4⟩, s5, s6⟩ := hSw; go_simp; try with_reducible rfl⟩) (by assumption) ?_
      (try simp only [Act.put, List.setIfInBounds_toArray, List.set_cons_zero, List.set_cons_succ])
      refine take_first 16 (v := ?_) rfl (by kernel_rfl) (by kernel_rfl) (by kernel_rfl) (fun _ _ _ h => h) (Or.inl ⟨by rfl, by intro wx hSw; (try dsimp only at hSw); obtain ⟨⟨s1, s2, s3, s4⟩, s5, s6⟩ := hSw; go_simp; try with_reducible rfl⟩) (by assumption) ?_
      (try simp only [Act.put, List.setIfInBounds_toArray, List.set_cons_zero, List.set_cons_succ])
      refine take_first 18 (v := ?_) rfl (by kernel_rfl) (by kernel_rfl) (by kernel_rfl) (fun _ _ _ h => h) (Or.inl ⟨by rfl, by intro wx hSw; (try dsimp only at hSw); obtain ⟨⟨s1, s2, s3, s4⟩, s5, s6⟩ := hSw; go_simp; try with_reducible rfl⟩) (by assumption) ?_
      (try simp only [Act.put, List.setIfInBounds_toArray, List.set_cons_zero, List.set_cons_succ])
      refine take_first 19 (v := ?_) rfl (by kernel_rfl) (by kernel_rfl) (by kernel_rfl) (fun _ _ _ h => h) (Or.inl ⟨by rfl, by intro wx hSw; (try dsimp only at hSw); obtain ⟨⟨s1, s2, s3, s4⟩, s5, s6⟩ := hSw; go_simp; try with_reducible rfl⟩) (by assumption) ?_
      (try simp only [Act.put, List.setIfInBounds_toArray, List.set_cons_zero, List.set_cons_succ])
      refine take_first 20 (v := ?_) rfl (by kernel_rfl) (by kernel_rfl) (by kernel_rfl) (fun _ _ _ h => h) (Or.inl ⟨by rfl, by intro wx hSw; (try dsimp only at hSw); obtain ⟨⟨s1, s2, s3, s4⟩, s5, s6⟩ := hSw; go_simp; try with_reducible rfl⟩) (by assumption) ?_
      (try simp only [Act.put, List.setIfInBounds_toArray, List.set_cons_zero, List.set_cons_succ])
      refine take_first 21 (v := ?_) rfl (by kernel_rfl) (by kernel_rfl) (by kernel_rfl) (fun _ _ _ h => h) (Or.inl ⟨by rfl, by intro wx hSw; (try dsimp only at hSw); obtain ⟨⟨s1, s2, s3, s4⟩, s5, s6⟩ := hSw; go_simp; try with_reducible rfl⟩) (by assumption) ?_
      (try simp only [Act.put, List.setIfInBounds_toArray, List.set_cons_zero, List.set_cons_succ])
      refine comes_up 17 rfl (by kernel_rfl) (fun K hK => ?_)
      go_simp
      refine lo5.mono ?_
      rintro e w6 ⟨rfl, rfl⟩
      go_wp2_with fail
      refine hK.out _ _ hHeld (fun hHeld => ?_)
      clear hK K
      (try simp only [Act.put, List.setIfInBounds_toArray, List.set_cons_zero, List.set_cons_succ])
      refine take_first 22 (v := ?_) rfl (by kernel_rfl) (by kernel_rfl) (by kernel_rfl) (fun _ _ _ h => h) (Or.inl ⟨by rfl, by intro wx hSw; (try dsimp only at hSw); obtain ⟨⟨s1, s2, s3, s4⟩, s5, s6⟩ := hSw; go_simp; try with_reducible rfl⟩) (by assumption) ?_
      (try simp only [Act.put, List.setIfInBounds_toArray, List.set_cons_zero, List.set_cons_succ])
      refine take_first 23 (v := ?_) rfl (by kernel_rfl) (by kernel_rfl) (by kernel_rfl) (fun _ _ _ h => h) (Or.inl ⟨by rfl, by intro wx hSw; (try dsimp only at hSw); obtain ⟨⟨s1, s2, s3, s4⟩, s5, s6⟩ := hSw; go_simp; try with_reducible rfl⟩) (by assumption) ?_
      (try simp only [Act.put, List.setIfInBounds_toArray, List.set_cons_zero, List.set_cons_succ])
      refine take_first 24 (v := ?_) rfl (by kernel_rfl) (by kernel_rfl) (by kernel_rfl) (fun _ _ _ h => h) (Or.inl ⟨by rfl, by intro wx hSw; (try dsimp only at hSw); obtain ⟨⟨s1, s2, s3, s4⟩, s5, s6⟩ := hSw; go_simp; try with_reducible rfl⟩) (by assumption) ?_
      (try simp only [Act.put, List.setIfInBounds_toArray, List.set_cons_zero, List.set_cons_succ])
      refine take_first 25 (v := ?_) rfl (by kernel_rfl) (by kernel_rfl) (by kernel_rfl) (fun _ _ _ h => h) (Or.inl ⟨by rfl, by intro wx hSw; (try dsimp only at hSw); obtain ⟨⟨s1, s2, s3, s4⟩, s5, s6⟩ := hSw; go_simp; try with_reducible rfl⟩) (by assumption) ?_
      (try simp only [Act.put, List.setIfInBounds_toArray, List.set_cons_zero, List.set_cons_succ])
      refine take_first 26 (v := ?_) rfl (by kernel_rfl) (by kernel_rfl) (by kernel_rfl) (fun _ _ _ h => h) (Or.inl ⟨by rfl, by intro wx hSw; (try dsimp only at hSw); obtain ⟨⟨s1, s2, s3, s4⟩, s5, s6⟩ := hSw; go_simp; try with_reducible rfl⟩) (by assumption) ?_
      (try simp only [Act.put, List.setIfInBounds_toArray, List.set_cons_zero, List.set_cons_succ])
      refine take_first 27 (v := ?_) rfl (by kernel_rfl) (by kernel_rfl) (by kernel_rfl) (fun _ _ _ h => h) (Or.inl ⟨by rfl, by intro wx hSw; (try dsimp only at hSw); obtain ⟨⟨s1, s2, s3, s4⟩, s5, s6⟩ := hSw; go_simp; try with_reducible rfl⟩) (by assumption) ?_
      (try simp only [Act.put, List.setIfInBounds_toArray, List.set_cons_zero, List.set_cons_succ])
      refine take_first 28 (v := ?_) rfl (by kernel_rfl) (by kernel_rfl) (by kernel_rfl) (fun _ _ _ h => h) (Or.inl ⟨by rfl, by intro wx hSw; (try dsimp only at hSw); obtain ⟨⟨s1, s2, s3, s4⟩, s5, s6⟩ := hSw; go_simp; try with_reducible rfl⟩) (by assumption) ?_
      (try simp only [Act.put, List.setIfInBounds_toArray, List.set_cons_zero, List.set_cons_succ])
      refine take_first 29 (v := ?_) rfl (by kernel_rfl) (by kernel_rfl) (by kernel_rfl) (fun _ _ _ h => h) (Or.inl ⟨by rfl, by intro wx hSw; (try dsimp only at hSw); obtain ⟨⟨s1, s2, s3, s4⟩, s5, s6⟩ := hSw; go_simp; try with_reducible rfl⟩) (by assumption) ?_
      (try simp only [Act.put, List.setIfInBounds_toArray, List.set_cons_zero, List.set_cons_succ])
      refine take_first 31 (v := ?_) rfl (by kernel_rfl) (by kernel_rfl) (by kernel_rfl) (fun _ _ _ h => h) (Or.inl ⟨by rfl, by intro wx hSw; (try dsimp only at hSw); obtain ⟨⟨s1, s2, s3, s4⟩, s5, s6⟩ := hSw; go_simp; try with_reducible rfl⟩) (by assumption) ?_
      (try simp only [Act.put, List.setIfInBounds_toArray, List.set_cons_zero, List.set_cons_succ])
      refine take_first 32 (v := ?_) rfl (by kernel_rfl) (by kernel_rfl) (by kernel_rfl) (fun _ _ _ h => h) (Or.inl ⟨by rfl, by intro wx hSw; (try dsimp only at hSw); obtain ⟨⟨s1, s2, s3, s4⟩, s5, s6⟩ := hSw; go_simp; try with_reducible rfl⟩) (by assumption) ?_
      (try simp only [Act.put, List.setIfInBounds_toArray, List.set_cons_zero, List.set_cons_succ])
      refine take_first 33 (v := ?_) rfl (by kernel_rfl) (by kernel_rfl) (by kernel_rfl) (fun _ _ _ h => h) (Or.inl ⟨by rfl, by intro wx hSw; (try dsimp only at hSw); obtain ⟨⟨s1, s2, s3, s4⟩, s5, s6⟩ := hSw; go_simp; try with_reducible rfl⟩) (by assumption) ?_
      (try simp only [Act.put, List.setIfInBounds_toArray, List.set_cons_zero, List.set_cons_succ])
      refine take_first 34 (v := ?_) rfl (by kernel_rfl) (by kernel_rfl) (by kernel_rfl) (fun _ _ _ h => h) (Or.inl ⟨by rfl, by intro wx hSw; (try dsimp only at hSw); obtain ⟨⟨s1, s2, s3, s4⟩, s5, s6⟩ := hSw; go_simp; try with_reducible rfl⟩) (by assumption) ?_
      (try simp only [Act.put, List.setIfInBounds_toArray, List.set_cons_zero, List.set_cons_succ])
      refine take_first 35 (v := ?_) rfl (by kernel_rfl) (by kernel_rfl) (by kernel_rfl) (fun _ _ _ h => h) (Or.inl ⟨by rfl, by intro wx hSw; (try dsimp only at hSw); obtain ⟨⟨s1, s2, s3, s4⟩, s5, s6⟩ := hSw; go_simp; try with_reducible rfl⟩) (by assumption) ?_
      (try simp only [Act.put, List.setIfInBounds_toArray, List.set_cons_zero, List.set_cons_succ])
      refine comes_up 30 rfl (by kernel_rfl) (fun K hK => ?_)
      go_simp
      refine he5.mono ?_
      rintro e w6 ⟨rfl, rfl⟩
      go_wp2_with fail
      refine hK.out _ _ hHeld (fun hHeld => ?_)
      clear hK K
      (try simp only [Act.put, List.setIfInBounds_toArray, List.set_cons_zero, List.set_cons_succ])
      refine comes_up 36 rfl (by kernel_rfl) (fun K hK => ?_)
      go_simp
      refine rh5.mono ?_
      rintro e w6 ⟨rfl, rfl⟩
      go_wp2_with fail
      refine hK.out _ _ hHeld (fun hHeld => ?_)
      clear hK K
      (try simp only [Act.put, List.setIfInBounds_toArray, List.set_cons_zero, List.set_cons_succ])
      refine take_first 37 (v := ?_) rfl (by kernel_rfl) (by kernel_rfl) (by kernel_rfl) (fun _ _ _ h => h) (Or.inl ⟨by rfl, by intro wx hSw; (try dsimp only at hSw); obtain ⟨⟨s1, s2, s3, s4⟩, s5, s6⟩ := hSw; go_simp; try with_reducible rfl⟩) (by assumption) ?_
      (try simp only [Act.put, List.setIfInBounds_toArray, List.set_cons_zero, List.set_cons_succ])
      refine take_first 38 (v := ?_) rfl (by kernel_rfl) (by kernel_rfl) (by kernel_rfl) (fun _ _ _ h => h) (Or.inl ⟨by rfl, by intro wx hSw; (try dsimp only at hSw); obtain ⟨⟨s1, s2, s3, s4⟩, s5, s6⟩ := hSw; go_simp; try with_reducible rfl⟩) (by assumption) ?_
      (try simp only [Act.put, List.setIfInBounds_toArray, List.set_cons_zero, List.set_cons_succ])
      refine take_first 39 (v := ?_) rfl (by kernel_rfl) (by kernel_rfl) (by kernel_rfl) (fun _ _ _ h => h) (Or.inl ⟨by rfl, by intro wx hSw; (try dsimp only at hSw); obtain ⟨⟨s1, s2, s3, s4⟩, s5, s6⟩ := hSw; go_simp; try with_reducible rfl⟩) (by assumption) ?_
      (try simp only [Act.put, List.setIfInBounds_toArray, List.set_cons_zero, List.set_cons_succ])
      refine take_first 40 (v := ?_) rfl (by kernel_rfl) (by kernel_rfl) (by kernel_rfl) (fun _ _ _ h => h) (Or.inl ⟨by rfl, by intro wx hSw; (try dsimp only at hSw); obtain ⟨⟨s1, s2, s3, s4⟩, s5, s6⟩ := hSw; go_simp; try with_reducible rfl⟩) (by assumption) ?_
      (try simp only [Act.put, List.setIfInBounds_toArray, List.set_cons_zero, List.set_cons_succ])
      refine take_first 41 (v := ?_) rfl (by kernel_rfl) (by kernel_rfl) (by kernel_rfl) (fun _ _ _ h => h) (Or.inl ⟨by rfl, by intro wx hSw; (try dsimp only at hSw); obtain ⟨⟨s1, s2, s3, s4⟩, s5, s6⟩ := hSw; go_simp; try with_reducible rfl⟩) (by assumption) ?_
      (try simp only [Act.put, List.setIfInBounds_toArray, List.set_cons_zero, List.set_cons_succ])
      refine take_first 42 (v := ?_) rfl (by kernel_rfl) (by kernel_rfl) (by kernel_rfl) (fun _ _ _ h => h) (Or.inl ⟨by rfl, by intro wx hSw; (try dsimp only at hSw); obtain ⟨⟨s1, s2, s3, s4⟩, s5, s6⟩ := hSw; go_simp; try with_reducible rfl⟩) (by assumption) ?_
      (try simp only [Act.put, List.setIfInBounds_toArray, List.set_cons_zero, List.set_cons_succ])
      refine take_first 44 (v := ?_) rfl (by kernel_rfl) (by kernel_rfl) (by kernel_rfl) (fun _ _ _ h => h) (Or.inl ⟨by rfl, by intro wx hSw; (try dsimp only at hSw); obtain ⟨⟨s1, s2, s3, s4⟩, s5, s6⟩ := hSw; go_simp; try with_reducible rfl⟩) (by assumption) ?_
      (try simp only [Act.put, List.setIfInBounds_toArray, List.set_cons_zero, List.set_cons_succ])
      refine take_first 45 (v := ?_) rfl (by kernel_rfl) (by kernel_rfl) (by kernel_rfl) (fun _ _ _ h => h) (Or.inl ⟨by rfl, by intro wx hSw; (try dsimp only at hSw); obtain ⟨⟨s1, s2, s3, s4⟩, s5, s6⟩ := hSw; go_simp; try with_reducible rfl⟩) (by assumption) ?_
      (try simp only [Act.put, List.setIfInBounds_toArray, List.set_cons_zero, List.set_cons_succ])
      refine take_first 46 (v := ?_) rfl (by kernel_rfl) (by kernel_rfl) (by kernel_rfl) (fun _ _ _ h => h) (Or.inl ⟨by rfl, by intro wx hSw; (try dsimp only at hSw); obtain ⟨⟨s1, s2, s3, s4⟩, s5, s6⟩ := hSw; go_simp; try with_reducible rfl⟩) (by assumption) ?_
      (try simp only [Act.put, List.setIfInBounds_toArray, List.set_cons_zero, List.set_cons_succ])
      refine comes_up 43 rfl (by kernel_rfl) (fun K hK => ?_)
      go_simp
      refine cl5.mono ?_
      rintro e w6 ⟨rfl, u6⟩
      have hS6 : (w6.cell? ⟨wr.heap.size, 0, none⟩ = some (.int .u8 (k : Nat)) ∧ w6.cell? ⟨wr.heap.size, 1, none⟩ = some (.int .i64 I) ∧ w6.cell? ⟨wr.heap.size, 2, none⟩ = some (.int .i64 J) ∧ w6.cell? ⟨wr.heap.size, 3, none⟩ = some (.slice po pn pc)) ∧ w6.cell? ⟨w2.heap.size, 1, none⟩ = some (.slice la nA lc) ∧ w6.cell? ⟨w2.heap.size, 259, none⟩ = some (.int .i64 (lost' : Nat)) := ⟨⟨(u6.cell hs5).trans hS5.1, (u6.cell hs5).trans hS5.2.1, (u6.cell hs5).trans hS5.2.2.1, (u6.cell hs5).trans hS5.2.2.2⟩, (u6.cell hp5).trans m1, (u6.cell hp5).trans m2⟩
      have rc6 := rc5 w6 u6
      have HE := HEND.out w6 u6
      clear HEND u6 rc5 hHeld hS5 m1 m2 cl5 rh5 he5 lo5 ln5
      go_wp2_with fail
      refine hK.out _ _ hS6 (fun hHeld => ?_)
      clear hK K
      (try simp only [Act.put, List.setIfInBounds_toArray, List.set_cons_zero, List.set_cons_succ])
      refine comes_up 47 rfl (by kernel_rfl) (fun K hK => ?_)
      go_simp
      refine rc6.mono ?_
      rintro e w7 ⟨rfl, rfl⟩
      go_wp2_with fail
      refine hK.out _ _ hS6 (fun hHeld => ?_)
      clear hK K
      (try simp only [Act.put, List.setIfInBounds_toArray, List.set_cons_zero, List.set_cons_succ])
      refine take_first 48 (v := ?_) rfl (by kernel_rfl) (by kernel_rfl) (by kernel_rfl) (fun _ _ _ h => h) (Or.inl ⟨by rfl, by intro wx hSw; (try dsimp only at hSw); go_simp; try with_reducible rfl⟩) (by assumption) ?_
      (try simp only [Act.put, List.setIfInBounds_toArray, List.set_cons_zero, List.set_cons_succ])
      refine take_first 49 (v := ?_) rfl (by kernel_rfl) (by kernel_rfl) (by kernel_rfl) (fun _ _ _ h => h) (Or.inl ⟨by rfl, by intro wx hSw; (try dsimp only at hSw); go_simp; try with_reducible rfl⟩) (by assumption) ?_
      (try simp only [Act.put, List.setIfInBounds_toArray, List.set_cons_zero, List.set_cons_succ])
      refine wpAnyH_done (by kernel_rfl) ?_ _
      refine NoPanic.normal ?_
      clear hHeld hS6 rc6
      go_wp2
      go_roundw
      case rel => exact ⟨i + 1, G', lost', A', by omega, by go_num, HE.1, HE.2.1, HE.2.2.1, HE.2.2.2.1, HE.2.2.2.2⟩
      case measure => simp [intOf]; omega
    · have hltI : (i : Int) < l := by omega
      have h80I : (80 : Int) ≤ (i : Int) := by omega
      clear HX
      go_wp2
      go_ret
      exact ⟨rfl, hbl⟩
    · have hltI : (l : Int) ≤ (i : Int) := by omega
      clear HX
      go_wp2
      go_ret
      exact ⟨rfl, hbl⟩

set_option maxRecDepth 100000 in
theorem lifted (os : Os) (started : os.Started) (H : Type) (enc : TypeId × Value → H) :
    ReturnsInHanded {} Try.checked os 3 .any (Rows.netPlaysSpec.pre6 enc Try.prog Try.f3 Rows.netPlaysRow.domain false) (Rows.netPlaysSpec.post enc Try.prog Try.f3 false true false false) := by
  refine returnsInHanded_of_change_sized (C := Try.checked) own started (by kernel_rfl) Try.func3
    (ChangeSpec.witness6 (enc := enc) (C := Try.checked) false ⟨#[], #[.int .i64 0, .slice none 0 0], []⟩ 3 (by kernel_rfl) (by kernel_rfl) (by kernel_rfl) (by kernel_rfl)) ?_
  intro W base args ds gs before hval0 hW hcnd hsz0 _
  have hsz : (DataW.weightsEach Try.prog (Try.f3.params.toList ++ Rows.netPlaysSpec.plain.varTypes Try.prog) (ds ++ gs)).all (· ≤ reachBytes) = true := hsz0
  have hval : ∀ (j : Nat) t v, Try.f3.params[j]? = some t → args[j]? = some v → Value.okWide Try.prog W .any base t v := hval0
  have hW' := hW
  obtain ⟨p, q, hA0, hV, rfl, hfz, hnd⟩ := hW
  have hA : DataW.TrodAll enc Try.prog W 0 (fun _ => true) true Try.f3.params.toList args.toList ds p := hA0
  rw [Try.params3] at hA hval hsz
  obtain ⟨v0, vs0, d0, ds0, p0, q0, hargs0, rfl, rfl, h0, r0⟩ := trodAll_cons hA
  obtain ⟨v1, vs1, d1, ds1, p1, q1, hargs1, rfl, rfl, h1, r1⟩ := trodAll_cons r0
  obtain ⟨rfl, rfl, rfl⟩ := trodAll_nil r1
  obtain rfl : args = #[v0, v1] := by cases args; simp_all
  obtain ⟨rfl, rfl⟩ := trodVars_none hV
  obtain ⟨a0, rfl, rfl, rfl, w0⟩ := open_int Try.underlying3 (hval 0 3 v0 rfl rfl) h0
  obtain ⟨a1, len1, cap1, rfl⟩ := okWide_slice Try.underlying22 (hval 1 22 v1 rfl rfl)
  have k1 := h1
  have lt1 : ∀ x ∈ p1, x.block < W.heap.size := by obtain ⟨m, hm⟩ := k1; exact DataW.trod_lt m _ _ _ hm
  obtain ⟨xs1, hx1⟩ := open_nacts h1 hsz (j := 1) rfl rfl
  clear hA0 hval0 hsz hsz0
  refine (walk W a0 (in_of_wf w0) a1 len1 cap1 xs1 hx1).mono fun e W' ⟨he, bel⟩ => ?_
  subst he
  exact ⟨_, rfl, _, _, _, [], _, [], hW', trodAll_mk1 (shut_bool Try.underlying4 _), (trodAll_cons_mk (shut_int Try.underlying3 w0) (trodAll_cons_mk (Below.trod laidOut (by kernel_rfl) (of_decide_eq_true (by kernel_rfl)) k1 bel lt1) trodAll_mk0)), rfl, bel.frame _, fun h => by cases h⟩

theorem over : Rows.netPlaysRow.holds Try.pinned (OpenSpec.ofChange Rows.netPlaysSpec) :=
  OpenClaim.holds_of_wide 3 Try.f3 rfl rfl rfl rfl rfl rfl rfl ⟨rfl, rfl, rfl, rfl, rfl⟩ rfl rfl rfl rfl rfl (by kernel_rfl) Try.func3 (by kernel_rfl)
    (of_decide_eq_true (by kernel_rfl)) (by unfold Func.isWrapper; first | (rw [if_pos (by decide +kernel)]; kernel_rfl) | (rw [if_neg (by decide +kernel)]; exact ⟨rfl, rfl⟩))
    (fun os started H enc _ => lifted os started H enc)

end Go.Proofs.Ytagabmhgcmnldaa.netPlays
namespace Go.Proofs.Ytagabmhgcmnldaa
theorem netPlays_holds : Rows.NetPlaysSaid := netPlays.over
#print axioms netPlays_holds
end Go.Proofs.Ytagabmhgcmnldaa
