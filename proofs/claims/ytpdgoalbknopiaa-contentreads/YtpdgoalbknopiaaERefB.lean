/-
  The document's reader's Bytes: its answer is a part of what is read.
-/
import Derived.Test.YtpdgoalbknopiaaEMath4
namespace Go.Proofs.Ytpdgoalbknopiaa.Cd
open Go.RowKit
set_option linter.unusedVariables false
set_option linter.unusedSimpArgs false
/-- In the block of the other. -/
def Of (ao vo : Option Addr) (n : Nat) : Prop := 0 < n → ∀ a, vo = some a → ∃ c, ao = some c ∧ a.block = c.block
theorem of_part {ao vo : Option Addr} {cap k n : Nat} (h : vo = (if cap = k then ao else ao.map fun x => x.add k)) : Of ao vo n := by
  intro _ a ha
  rw [h] at ha
  by_cases hc : cap = k
  · rw [if_pos hc] at ha
    exact ⟨a, ha, rfl⟩
  · rw [if_neg hc] at ha
    cases ao with
    | none => simp at ha
    | some c =>
      simp at ha
      refine ⟨c, rfl, ?_⟩
      rw [← ha]
      unfold Addr.add
      split <;> rfl
set_option maxRecDepth 10000 in
set_option maxHeartbeats 2000000 in
theorem refBytes_at (w : World) (m : Nat) (ao : Option Addr) (n cap : Nat) (xs : List UInt8) (o : Option Nat) (st : Option (List UInt8)) (hs : same xs o st) (h : RR w m ao n cap o) (hx : Row w ao n cap xs) (hn : n ≤ 140737488355328) (most : Int) (hm1 : -9223372036854775808 ≤ most) (hm2 : most ≤ 9223372036854775807) :
    Calls Try.prog 64 #[.pointer (some ⟨m, 0, none⟩), .int .i64 most] w fun e w' => ∃ vo vc, e = .returned (.slice vo (rBytes st most).1.length vc) ∧ Row w' vo (rBytes st most).1.length vc (rBytes st most).1 ∧ Of ao vo (rBytes st most).1.length ∧ ∃ o', same xs o' (rBytes st most).2 ∧ RR w' m ao n cap o' ∧ w.grownBy w' (some m) := by
  have hi := refInt_step w m ao n cap xs o st hs h hx hn most hm1 hm2
  have hil := rInt_le st most
  have hxl := hx.1
  have hcm := hx.2.1
  have hcap := hx.2.2.1
  unfold maxLen at hcap
  generalize hN : (rInt st most).1 = N at *
  cases hst : (rInt st most).2 with
  | none =>
    rw [hst] at hi
    have e1 : rBytes st most = ([], none) := by simp [rBytes, hst]
    rw [e1]
    clear e1 hst hN hil
    go_enter Try.func64, Try.ntmps64
    go_wp2_with fail
    refine hi.mono ?_
    rintro e w1 ⟨rfl, o1, hs1, hr1, hg1⟩
    obtain rfl := same_none hs1
    obtain ⟨c0, c1, f0, f1⟩ := hr1.cells
    simp only [atOf] at c1
    have hrd : RR w1.drew m ao n cap none := hr1
    go_wp2
    refine wp_region_noPanic ?_
    refine wp_region_held_drew (S := fun wx => wx.cell? ⟨m, 0, none⟩ = some (.slice ao n cap) ∧ wx.cell? ⟨m, 1, none⟩ = some (.int .i64 (-1))) (by kernel_rfl) ⟨c0, c1⟩ (fun hHeld => ?_)
    refine take_first 0 (v := ?_) rfl (by kernel_rfl) (by kernel_rfl) (by kernel_rfl) (fun _ _ _ h => h) (Or.inl ⟨by rfl, by intro wx hSw; (try dsimp only at hSw); go_simp; try with_reducible rfl⟩) (by assumption) ?_
    (try simp only [Act.put, List.setIfInBounds_toArray, List.set_cons_zero, List.set_cons_succ])
    refine take_first 1 (v := ?_) rfl (by kernel_rfl) (by kernel_rfl) (by kernel_rfl) (fun _ _ _ h => h) (Or.inl ⟨by rfl, by intro wx hSw; (try dsimp only at hSw); go_simp; try with_reducible rfl⟩) (by assumption) ?_
    (try simp only [Act.put, List.setIfInBounds_toArray, List.set_cons_zero, List.set_cons_succ])
    refine take_first 2 (v := ?_) rfl (by kernel_rfl) (by kernel_rfl) (by kernel_rfl) (fun _ _ _ h => h) (Or.inl ⟨by rfl, by intro wx hSw; (try dsimp only at hSw); go_simp; try with_reducible rfl⟩) (by assumption) ?_
    (try simp only [Act.put, List.setIfInBounds_toArray, List.set_cons_zero, List.set_cons_succ])
    refine take_first 3 (v := ?_) rfl (by kernel_rfl) (by kernel_rfl) (by kernel_rfl) (fun _ _ _ h => h) (Or.inl ⟨by rfl, by intro wx hSw; (try dsimp only at hSw); go_simp; try with_reducible rfl⟩) (by assumption) ?_
    (try simp only [Act.put, List.setIfInBounds_toArray, List.set_cons_zero, List.set_cons_succ])
    refine take_first 4 (v := ?_) rfl (by kernel_rfl) (by kernel_rfl) (by kernel_rfl) (fun _ _ _ h => h) (Or.inl ⟨by rfl, by intro wx hSw; (try dsimp only at hSw); go_simp; try with_reducible rfl⟩) (by assumption) ?_
    (try simp only [Act.put, List.setIfInBounds_toArray, List.set_cons_zero, List.set_cons_succ])
    refine take_first 5 (v := ?_) rfl (by kernel_rfl) (by kernel_rfl) (by kernel_rfl) (fun _ _ _ h => h) (Or.inl ⟨by rfl, by intro wx hSw; (try dsimp only at hSw); go_simp; try with_reducible rfl⟩) (by assumption) ?_
    (try simp only [Act.put, List.setIfInBounds_toArray, List.set_cons_zero, List.set_cons_succ])
    refine take_first 6 (v := undef) rfl (by kernel_rfl) (by kernel_rfl) (by kernel_rfl) (fun _ _ _ h => h) (Or.inr ⟨by rfl, rfl⟩) (by assumption) ?_
    (try simp only [Act.put, List.setIfInBounds_toArray, List.set_cons_zero, List.set_cons_succ])
    refine take_first 7 (v := undef) rfl (by kernel_rfl) (by kernel_rfl) (by kernel_rfl) (fun _ _ _ h => h) (Or.inr ⟨by rfl, rfl⟩) (by assumption) ?_
    (try simp only [Act.put, List.setIfInBounds_toArray, List.set_cons_zero, List.set_cons_succ])
    refine take_first 8 (v := undef) rfl (by kernel_rfl) (by kernel_rfl) (by kernel_rfl) (fun _ _ _ h => h) (Or.inr ⟨by rfl, rfl⟩) (by assumption) ?_
    (try simp only [Act.put, List.setIfInBounds_toArray, List.set_cons_zero, List.set_cons_succ])
    refine take_first 9 (v := undef) rfl (by kernel_rfl) (by kernel_rfl) (by kernel_rfl) (fun _ _ _ h => h) (Or.inr ⟨by rfl, rfl⟩) (by assumption) ?_
    (try simp only [Act.put, List.setIfInBounds_toArray, List.set_cons_zero, List.set_cons_succ])
    refine take_first 10 (v := undef) rfl (by kernel_rfl) (by kernel_rfl) (by kernel_rfl) (fun _ _ _ h => h) (Or.inr ⟨by rfl, rfl⟩) (by assumption) ?_
    (try simp only [Act.put, List.setIfInBounds_toArray, List.set_cons_zero, List.set_cons_succ])
    refine take_first 11 (v := undef) rfl (by kernel_rfl) (by kernel_rfl) (by kernel_rfl) (fun _ _ _ h => h) (Or.inr ⟨by rfl, rfl⟩) (by assumption) ?_
    (try simp only [Act.put, List.setIfInBounds_toArray, List.set_cons_zero, List.set_cons_succ])
    refine take_first 12 (v := undef) rfl (by kernel_rfl) (by kernel_rfl) (by kernel_rfl) (fun _ _ _ h => h) (Or.inr ⟨by rfl, rfl⟩) (by assumption) ?_
    (try simp only [Act.put, List.setIfInBounds_toArray, List.set_cons_zero, List.set_cons_succ])
    refine take_first 13 (v := undef) rfl (by kernel_rfl) (by kernel_rfl) (by kernel_rfl) (fun _ _ _ h => h) (Or.inr ⟨by rfl, rfl⟩) (by assumption) ?_
    (try simp only [Act.put, List.setIfInBounds_toArray, List.set_cons_zero, List.set_cons_succ])
    refine take_first 14 (v := undef) rfl (by kernel_rfl) (by kernel_rfl) (by kernel_rfl) (fun _ _ _ h => h) (Or.inr ⟨by rfl, rfl⟩) (by assumption) ?_
    (try simp only [Act.put, List.setIfInBounds_toArray, List.set_cons_zero, List.set_cons_succ])
    refine take_first 15 (v := undef) rfl (by kernel_rfl) (by kernel_rfl) (by kernel_rfl) (fun _ _ _ h => h) (Or.inr ⟨by rfl, rfl⟩) (by assumption) ?_
    (try simp only [Act.put, List.setIfInBounds_toArray, List.set_cons_zero, List.set_cons_succ])
    refine take_first 16 (v := undef) rfl (by kernel_rfl) (by kernel_rfl) (by kernel_rfl) (fun _ _ _ h => h) (Or.inr ⟨by rfl, rfl⟩) (by assumption) ?_
    (try simp only [Act.put, List.setIfInBounds_toArray, List.set_cons_zero, List.set_cons_succ])
    refine take_first 17 (v := undef) rfl (by kernel_rfl) (by kernel_rfl) (by kernel_rfl) (fun _ _ _ h => h) (Or.inr ⟨by rfl, rfl⟩) (by assumption) ?_
    (try simp only [Act.put, List.setIfInBounds_toArray, List.set_cons_zero, List.set_cons_succ])
    refine take_first 18 (v := ?_) rfl (by kernel_rfl) (by kernel_rfl) (by kernel_rfl) (fun _ _ _ h => h) (Or.inl ⟨by rfl, by intro wx hSw; (try dsimp only at hSw); go_simp; try with_reducible rfl⟩) (by assumption) ?_
    (try simp only [Act.put, List.setIfInBounds_toArray, List.set_cons_zero, List.set_cons_succ])
    refine wpAnyH_done (by kernel_rfl) ?_ _
    refine NoPanic.normal ?_
    go_wp2
    go_ret
    exact ⟨none, 0, rfl, ⟨rfl, Nat.le_refl _, by unfold maxLen; omega, fun _ => ⟨rfl, rfl⟩, fun a ha => (by cases ha)⟩, (fun h0 => absurd h0 (by simp)), none, trivial, hrd.set none, grown_trans hg1 (grown_trans (grown_of_below (Below.refl _ _).drew _) (set_grown _))⟩
  | some ys =>
    rw [hst] at hi
    have hNm := hil ys hst
    have hwl : ∀ k : Nat, k ≤ n → IntKind.i64.wrap ((n : Int) - (k : Int)) = (n : Int) - (k : Int) := by intro k hk; simp [IntKind.wrap, IntKind.bits, IntKind.signed]; omega
    by_cases hb : ys.length < N
    · have e1 : rBytes st most = ([], none) := by simp only [rBytes, hst, hN]; rw [if_pos hb]
      rw [e1]
      clear e1 hst hN hil
      go_enter Try.func64, Try.ntmps64
      go_wp2_with fail
      refine hi.mono ?_
      rintro e w1 ⟨rfl, o1, hs1, hr1, hg1⟩
      obtain ⟨k, rfl, hk, rfl⟩ := same_left hs1
      obtain ⟨c0, c1, f0, f1⟩ := hr1.cells
      simp only [atOf] at c1
      have hk0 : ¬ (k : Int) < 0 := by omega
      have hwr := hwl k (by omega)
      have hgt : (n : Int) - (k : Int) < (N : Int) := by rw [List.length_drop] at hb; omega
      have hk0d : decide ((k : Int) < 0) = false := decide_eq_false hk0
      have hrd : RR w1.drew m ao n cap (some k) := hr1
      clear hwl hb
      go_wp2
      go_region_held3 (fun wx => wx.cell? ⟨m, 0, none⟩ = some (.slice ao n cap) ∧ wx.cell? ⟨m, 1, none⟩ = some (.int .i64 (k : Int))) (exact ⟨c0, c1⟩) (fail)
      go_wp2
      go_ret
      exact ⟨none, 0, rfl, ⟨rfl, Nat.le_refl _, by unfold maxLen; omega, fun _ => ⟨rfl, rfl⟩, fun a ha => (by cases ha)⟩, (fun h0 => absurd h0 (by simp)), none, trivial, hrd.set none, grown_trans hg1 (grown_trans (grown_of_below (Below.refl _ _).drew _) (set_grown _))⟩
    · have e1 : rBytes st most = (ys.take N, some (ys.drop N)) := by simp only [rBytes, hst, hN]; rw [if_neg hb]
      rw [e1]
      clear e1 hst hN hil
      go_enter Try.func64, Try.ntmps64
      go_wp2_with fail
      refine hi.mono ?_
      rintro e w1 ⟨rfl, o1, hs1, hr1, hg1⟩
      obtain ⟨k, rfl, hk, rfl⟩ := same_left hs1
      obtain ⟨c0, c1, f0, f1⟩ := hr1.cells
      simp only [atOf] at c1
      have hk0 : ¬ (k : Int) < 0 := by omega
      have hwr := hwl k (by omega)
      rw [List.length_drop] at hb
      have hgt : ¬ (n : Int) - (k : Int) < (N : Int) := by omega
      have hk0d : decide ((k : Int) < 0) = false := decide_eq_false hk0
      have hwk : IntKind.i64.wrap ((k : Int) + (N : Int)) = (k : Int) + (N : Int) := by simp [IntKind.wrap, IntKind.bits, IntKind.signed]; omega
      have hrd : RR w1.drew m ao n cap (some k) := hr1
      have hx1 : Row w1 ao n cap xs := row_RR hx h hg1
      have hk1 : (0 : Int) ≤ (k : Int) := by omega
      have hk2 : (k : Int) ≤ (k : Int) + (N : Int) := by omega
      have hk3 : (k : Int) + (N : Int) ≤ (cap : Int) := by omega
      clear hwl
      have htl : ((xs.drop k).take N).length = N := by simp; omega
      have hgr : w.grownBy (w1.drew.drew.setCell ⟨m, 1, none⟩ (.int .i64 ((k : Int) + (N : Int)))) (some m) := grown_trans hg1 (grown_trans (grown_of_below (Below.refl _ _).drew.drew _) (set_grown _))
      have hgr1 : w1.grownBy (w1.drew.drew.setCell ⟨m, 1, none⟩ (.int .i64 ((k : Int) + (N : Int)))) (some m) := grown_trans (grown_of_below (Below.refl _ _).drew.drew _) (set_grown _)
      have hfin : same xs (some (k + N)) (some ((xs.drop k).drop N)) ∧ RR (w1.drew.drew.setCell ⟨m, 1, none⟩ (.int .i64 ((k : Int) + (N : Int)))) m ao n cap (some (k + N)) := by
        refine ⟨⟨by omega, by rw [List.drop_drop]⟩, ?_⟩
        have := RR.set (w := w1.drew.drew) (o := some k) hr1 (some (k + N))
        simpa [atOf] using this
      have hrow : ∀ vo vc, Row w1 vo N vc ((xs.drop k).take N) → ∃ vo' vc', Value.slice vo N vc = .slice vo' ((xs.drop k).take N).length vc' ∧ Row (w1.drew.drew.setCell ⟨m, 1, none⟩ (.int .i64 ((k : Int) + (N : Int)))) vo' ((xs.drop k).take N).length vc' ((xs.drop k).take N) := by
        intro vo vc hv
        rw [htl]
        exact ⟨vo, vc, rfl, row_RR hv hr1 hgr1⟩
      obtain ⟨vo, hvo⟩ : ∃ vo, vo = (if cap = k then ao else ao.map fun x => x.add k) := ⟨_, rfl⟩
      have hsl : ∀ wx, (Instr.slice 27 (.slice ao n cap) (some (.int .i64 (k : Int))) (some (.int .i64 ((k : Int) + (N : Int)))) none).run Try.prog wx = .ok (.slice vo N (cap - k)) wx := by
        intro wx
        rw [hvo]
        exact slice_run wx ao n cap k N (by omega)
      have hrowv : Row w1 vo N (cap - k) ((xs.drop k).take N) := by
        rw [hvo]
        by_cases hck : cap = k
        · rw [if_pos hck]
          have hN0 : N = 0 := by omega
          subst hN0
          refine ⟨rfl, Nat.zero_le _, by unfold maxLen; omega, fun _ => ⟨rfl, by omega⟩, fun a _ i hi => absurd hi (by omega)⟩
        · rw [if_neg hck]
          cases ao with
          | none => exact absurd ((hx1.2.2.2.1 rfl).2) (by have := (hx1.2.2.2.1 rfl).1; omega)
          | some a =>
            by_cases hn0 : n = 0
            · have hN0 : N = 0 := by omega
              subst hN0
              exact ⟨rfl, Nat.zero_le _, by unfold maxLen; omega, fun e => (by cases e), fun a _ i hi => absurd hi (by omega)⟩
            · obtain ⟨b, off, hab, _⟩ := hx1.open (by omega)
              cases hab
              have := (hx1.drop_at k (by omega)).takeC' N (by omega)
              rw [Option.map_some, Addr.add_lit]
              exact this
      have HF : Hid (∃ vo' vc', Value.slice vo N (cap - k) = .slice vo' ((xs.drop k).take N).length vc' ∧ Row (w1.drew.drew.setCell ⟨m, 1, none⟩ (.int .i64 ((k : Int) + (N : Int)))) vo' ((xs.drop k).take N).length vc' ((xs.drop k).take N)) := hrow vo (cap - k) hrowv
      have HG : Hid (w.grownBy (w1.drew.drew.setCell ⟨m, 1, none⟩ (.int .i64 ((k : Int) + (N : Int)))) (some m)) := hgr
      have HFI : Hid (same xs (some (k + N)) (some ((xs.drop k).drop N)) ∧ RR (w1.drew.drew.setCell ⟨m, 1, none⟩ (.int .i64 ((k : Int) + (N : Int)))) m ao n cap (some (k + N))) := hfin
      have HOF : Hid (Of ao vo N) := of_part hvo
      clear hrow hrowv hgr hgr1 hfin hvo
      go_wp2
      go_region_held3 (fun wx => wx.cell? ⟨m, 0, none⟩ = some (.slice ao n cap) ∧ wx.cell? ⟨m, 1, none⟩ = some (.int .i64 (k : Int))) (exact ⟨c0, c1⟩) (fail)
      go_wp2
      go_region_held3 (fun wx => wx.cell? ⟨m, 0, none⟩ = some (.slice ao n cap) ∧ wx.cell? ⟨m, 1, none⟩ = some (.int .i64 (k : Int))) (exact ⟨c0, c1⟩) (fail)
      go_wp2
      go_ret
      obtain ⟨vo', vc', he, hrw⟩ := HF.out
      have hvv : vo = vo' := by simp only [Value.slice.injEq] at he; exact he.1
      exact ⟨vo', vc', congrArg Ending.returned he, hrw, (by rw [← hvv, htl]; exact HOF.out), some (k + N), HFI.out.1, HFI.out.2, HG.out⟩

end Go.Proofs.Ytpdgoalbknopiaa.Cd
