/-
  The document's reader's Bytes: its answer is a part of what is read.
  Rows of one's own whose parts lie in older blocks as well; the document's unitems.
  The document's unitems.
  Rows of one's own read as lists; the document's unstates.
  The document's Open: its answer lies where the bytes lie; a frame that is being read in a block, beside the document's reader.
  The beginning of the document's Decode: the bytes are opened, the reader is made, the frame's block is laid.
-/
import Derived.Test.YtfemjbaadnjanaaFDec
import Derived.Test.YtfemjbaadnjanaaFRefG
import Derived.Test.YtfemjbaadnjanaaFRefE5
namespace Go.Proofs.Ytfemjbaadnjanaa.Cd
open Go.RowKit
set_option linter.unusedVariables false
set_option linter.unusedSimpArgs false
/-- In the block of the other. -/
def Of (ao vo : Option Addr) (n : Nat) : Prop := 0 < n → ∀ a, vo = some a → ∃ c, ao = some c ∧ a.block = c.block
theorem of_part {ao vo : Option Addr} {cap k n : Nat} (h : vo = (if cap = k then ao else ao.map fun x => x.add k)) : Of ao vo n := by
  intro _ a ha
  rw [h] at ha
  by_cases hc : cap = k
  · rw [if_pos hc] at ha
    exact ⟨a, ha, rfl⟩
  · rw [if_neg hc] at ha
    cases ao with
    | none => simp at ha
    | some c =>
      simp at ha
      refine ⟨c, rfl, ?_⟩
      rw [← ha]
      unfold Addr.add
      split <;> rfl
set_option maxRecDepth 10000 in
set_option maxHeartbeats 2000000 in
theorem refBytes_at (w : World) (m : Nat) (ao : Option Addr) (n cap : Nat) (xs : List UInt8) (o : Option Nat) (st : Option (List UInt8)) (hs : same xs o st) (h : RR w m ao n cap o) (hx : Row w ao n cap xs) (hn : n ≤ 140737488355328) (most : Int) (hm1 : -9223372036854775808 ≤ most) (hm2 : most ≤ 9223372036854775807) :
    Calls Try.prog 43 #[.pointer (some ⟨m, 0, none⟩), .int .i64 most] w fun e w' => ∃ vo vc, e = .returned (.slice vo (rBytes st most).1.length vc) ∧ Row w' vo (rBytes st most).1.length vc (rBytes st most).1 ∧ Of ao vo (rBytes st most).1.length ∧ ∃ o', same xs o' (rBytes st most).2 ∧ RR w' m ao n cap o' ∧ w.grownBy w' (some m) := by
  have hi := refInt_step w m ao n cap xs o st hs h hx hn most hm1 hm2
  have hil := rInt_le st most
  have hxl := hx.1
  have hcm := hx.2.1
  have hcap := hx.2.2.1
  unfold maxLen at hcap
  generalize hN : (rInt st most).1 = N at *
  cases hst : (rInt st most).2 with
  | none =>
    rw [hst] at hi
    have e1 : rBytes st most = ([], none) := by simp [rBytes, hst]
    rw [e1]
    clear e1 hst hN hil
    go_enter Try.func43, Try.ntmps43
    go_wp2_with fail
    refine hi.mono ?_
    rintro e w1 ⟨rfl, o1, hs1, hr1, hg1⟩
    obtain rfl := same_none hs1
    obtain ⟨c0, c1, f0, f1⟩ := hr1.cells
    simp only [atOf] at c1
    have hrd : RR w1.drew m ao n cap none := hr1
    go_wp2
    refine wp_region_noPanic ?_
    refine wp_region_held_drew (S := fun wx => wx.cell? ⟨m, 0, none⟩ = some (.slice ao n cap) ∧ wx.cell? ⟨m, 1, none⟩ = some (.int .i64 (-1))) (by kernel_rfl) ⟨c0, c1⟩ (fun hHeld => ?_)
    refine take_first 0 (v := ?_) rfl (by kernel_rfl) (by kernel_rfl) (by kernel_rfl) (fun _ _ _ h => h) (Or.inl ⟨by rfl, by intro wx hSw; (try dsimp only at hSw); go_simp; try with_reducible rfl⟩) (by assumption) ?_
    (try simp only [Act.put, List.setIfInBounds_toArray, List.set_cons_zero, List.set_cons_succ])
    refine take_first 1 (v := ?_) rfl (by kernel_rfl) (by kernel_rfl) (by kernel_rfl) (fun _ _ _ h => h) (Or.inl ⟨by rfl, by intro wx hSw; (try dsimp only at hSw); go_simp; try with_reducible rfl⟩) (by assumption) ?_
    (try simp only [Act.put, List.setIfInBounds_toArray, List.set_cons_zero, List.set_cons_succ])
    refine take_first 2 (v := ?_) rfl (by kernel_rfl) (by kernel_rfl) (by kernel_rfl) (fun _ _ _ h => h) (Or.inl ⟨by rfl, by intro wx hSw; (try dsimp only at hSw); go_simp; try with_reducible rfl⟩) (by assumption) ?_
    (try simp only [Act.put, List.setIfInBounds_toArray, List.set_cons_zero, List.set_cons_succ])
    refine take_first 3 (v := ?_) rfl (by kernel_rfl) (by kernel_rfl) (by kernel_rfl) (fun _ _ _ h => h) (Or.inl ⟨by rfl, by intro wx hSw; (try dsimp only at hSw); go_simp; try with_reducible rfl⟩) (by assumption) ?_
    (try simp only [Act.put, List.setIfInBounds_toArray, List.set_cons_zero, List.set_cons_succ])
    refine take_first 4 (v := ?_) rfl (by kernel_rfl) (by kernel_rfl) (by kernel_rfl) (fun _ _ _ h => h) (Or.inl ⟨by rfl, by intro wx hSw; (try dsimp only at hSw); go_simp; try with_reducible rfl⟩) (by assumption) ?_
    (try simp only [Act.put, List.setIfInBounds_toArray, List.set_cons_zero, List.set_cons_succ])
    refine take_first 5 (v := ?_) rfl (by kernel_rfl) (by kernel_rfl) (by kernel_rfl) (fun _ _ _ h => h) (Or.inl ⟨by rfl, by intro wx hSw; (try dsimp only at hSw); go_simp; try with_reducible rfl⟩) (by assumption) ?_
    (try simp only [Act.put, List.setIfInBounds_toArray, List.set_cons_zero, List.set_cons_succ])
    refine take_first 6 (v := undef) rfl (by kernel_rfl) (by kernel_rfl) (by kernel_rfl) (fun _ _ _ h => h) (Or.inr ⟨by rfl, rfl⟩) (by assumption) ?_
    (try simp only [Act.put, List.setIfInBounds_toArray, List.set_cons_zero, List.set_cons_succ])
    refine take_first 7 (v := undef) rfl (by kernel_rfl) (by kernel_rfl) (by kernel_rfl) (fun _ _ _ h => h) (Or.inr ⟨by rfl, rfl⟩) (by assumption) ?_
    (try simp only [Act.put, List.setIfInBounds_toArray, List.set_cons_zero, List.set_cons_succ])
    refine take_first 8 (v := undef) rfl (by kernel_rfl) (by kernel_rfl) (by kernel_rfl) (fun _ _ _ h => h) (Or.inr ⟨by rfl, rfl⟩) (by assumption) ?_
    (try simp only [Act.put, List.setIfInBounds_toArray, List.set_cons_zero, List.set_cons_succ])
    refine take_first 9 (v := undef) rfl (by kernel_rfl) (by kernel_rfl) (by kernel_rfl) (fun _ _ _ h => h) (Or.inr ⟨by rfl, rfl⟩) (by assumption) ?_
    (try simp only [Act.put, List.setIfInBounds_toArray, List.set_cons_zero, List.set_cons_succ])
    refine take_first 10 (v := undef) rfl (by kernel_rfl) (by kernel_rfl) (by kernel_rfl) (fun _ _ _ h => h) (Or.inr ⟨by rfl, rfl⟩) (by assumption) ?_
    (try simp only [Act.put, List.setIfInBounds_toArray, List.set_cons_zero, List.set_cons_succ])
    refine take_first 11 (v := undef) rfl (by kernel_rfl) (by kernel_rfl) (by kernel_rfl) (fun _ _ _ h => h) (Or.inr ⟨by rfl, rfl⟩) (by assumption) ?_
    (try simp only [Act.put, List.setIfInBounds_toArray, List.set_cons_zero, List.set_cons_succ])
    refine take_first 12 (v := undef) rfl (by kernel_rfl) (by kernel_rfl) (by kernel_rfl) (fun _ _ _ h => h) (Or.inr ⟨by rfl, rfl⟩) (by assumption) ?_
    (try simp only [Act.put, List.setIfInBounds_toArray, List.set_cons_zero, List.set_cons_succ])
    refine take_first 13 (v := undef) rfl (by kernel_rfl) (by kernel_rfl) (by kernel_rfl) (fun _ _ _ h => h) (Or.inr ⟨by rfl, rfl⟩) (by assumption) ?_
    (try simp only [Act.put, List.setIfInBounds_toArray, List.set_cons_zero, List.set_cons_succ])
    refine take_first 14 (v := undef) rfl (by kernel_rfl) (by kernel_rfl) (by kernel_rfl) (fun _ _ _ h => h) (Or.inr ⟨by rfl, rfl⟩) (by assumption) ?_
    (try simp only [Act.put, List.setIfInBounds_toArray, List.set_cons_zero, List.set_cons_succ])
    refine take_first 15 (v := undef) rfl (by kernel_rfl) (by kernel_rfl) (by kernel_rfl) (fun _ _ _ h => h) (Or.inr ⟨by rfl, rfl⟩) (by assumption) ?_
    (try simp only [Act.put, List.setIfInBounds_toArray, List.set_cons_zero, List.set_cons_succ])
    refine take_first 16 (v := undef) rfl (by kernel_rfl) (by kernel_rfl) (by kernel_rfl) (fun _ _ _ h => h) (Or.inr ⟨by rfl, rfl⟩) (by assumption) ?_
    (try simp only [Act.put, List.setIfInBounds_toArray, List.set_cons_zero, List.set_cons_succ])
    refine take_first 17 (v := undef) rfl (by kernel_rfl) (by kernel_rfl) (by kernel_rfl) (fun _ _ _ h => h) (Or.inr ⟨by rfl, rfl⟩) (by assumption) ?_
    (try simp only [Act.put, List.setIfInBounds_toArray, List.set_cons_zero, List.set_cons_succ])
    refine take_first 18 (v := ?_) rfl (by kernel_rfl) (by kernel_rfl) (by kernel_rfl) (fun _ _ _ h => h) (Or.inl ⟨by rfl, by intro wx hSw; (try dsimp only at hSw); go_simp; try with_reducible rfl⟩) (by assumption) ?_
    (try simp only [Act.put, List.setIfInBounds_toArray, List.set_cons_zero, List.set_cons_succ])
    refine wpAnyH_done (by kernel_rfl) ?_ _
    refine NoPanic.normal ?_
    go_wp2
    go_ret
    exact ⟨none, 0, rfl, ⟨rfl, Nat.le_refl _, by unfold maxLen; omega, fun _ => ⟨rfl, rfl⟩, fun a ha => (by cases ha)⟩, (fun h0 => absurd h0 (by simp)), none, trivial, hrd.set none, grown_trans hg1 (grown_trans (grown_of_below (Below.refl _ _).drew _) (set_grown _))⟩
  | some ys =>
    rw [hst] at hi
    have hNm := hil ys hst
    have hwl : ∀ k : Nat, k ≤ n → IntKind.i64.wrap ((n : Int) - (k : Int)) = (n : Int) - (k : Int) := by intro k hk; simp [IntKind.wrap, IntKind.bits, IntKind.signed]; omega
    by_cases hb : ys.length < N
    · have e1 : rBytes st most = ([], none) := by simp only [rBytes, hst, hN]; rw [if_pos hb]
      rw [e1]
      clear e1 hst hN hil
      go_enter Try.func43, Try.ntmps43
      go_wp2_with fail
      refine hi.mono ?_
      rintro e w1 ⟨rfl, o1, hs1, hr1, hg1⟩
      obtain ⟨k, rfl, hk, rfl⟩ := same_left hs1
      obtain ⟨c0, c1, f0, f1⟩ := hr1.cells
      simp only [atOf] at c1
      have hk0 : ¬ (k : Int) < 0 := by omega
      have hwr := hwl k (by omega)
      have hgt : (n : Int) - (k : Int) < (N : Int) := by rw [List.length_drop] at hb; omega
      have hk0d : decide ((k : Int) < 0) = false := decide_eq_false hk0
      have hrd : RR w1.drew m ao n cap (some k) := hr1
      clear hwl hb
      go_wp2
      go_region_held3 (fun wx => wx.cell? ⟨m, 0, none⟩ = some (.slice ao n cap) ∧ wx.cell? ⟨m, 1, none⟩ = some (.int .i64 (k : Int))) (exact ⟨c0, c1⟩) (fail)
      go_wp2
      go_ret
      exact ⟨none, 0, rfl, ⟨rfl, Nat.le_refl _, by unfold maxLen; omega, fun _ => ⟨rfl, rfl⟩, fun a ha => (by cases ha)⟩, (fun h0 => absurd h0 (by simp)), none, trivial, hrd.set none, grown_trans hg1 (grown_trans (grown_of_below (Below.refl _ _).drew _) (set_grown _))⟩
    · have e1 : rBytes st most = (ys.take N, some (ys.drop N)) := by simp only [rBytes, hst, hN]; rw [if_neg hb]
      rw [e1]
      clear e1 hst hN hil
      go_enter Try.func43, Try.ntmps43
      go_wp2_with fail
      refine hi.mono ?_
      rintro e w1 ⟨rfl, o1, hs1, hr1, hg1⟩
      obtain ⟨k, rfl, hk, rfl⟩ := same_left hs1
      obtain ⟨c0, c1, f0, f1⟩ := hr1.cells
      simp only [atOf] at c1
      have hk0 : ¬ (k : Int) < 0 := by omega
      have hwr := hwl k (by omega)
      rw [List.length_drop] at hb
      have hgt : ¬ (n : Int) - (k : Int) < (N : Int) := by omega
      have hk0d : decide ((k : Int) < 0) = false := decide_eq_false hk0
      have hwk : IntKind.i64.wrap ((k : Int) + (N : Int)) = (k : Int) + (N : Int) := by simp [IntKind.wrap, IntKind.bits, IntKind.signed]; omega
      have hrd : RR w1.drew m ao n cap (some k) := hr1
      have hx1 : Row w1 ao n cap xs := row_RR hx h hg1
      have hk1 : (0 : Int) ≤ (k : Int) := by omega
      have hk2 : (k : Int) ≤ (k : Int) + (N : Int) := by omega
      have hk3 : (k : Int) + (N : Int) ≤ (cap : Int) := by omega
      clear hwl
      have htl : ((xs.drop k).take N).length = N := by simp; omega
      have hgr : w.grownBy (w1.drew.drew.setCell ⟨m, 1, none⟩ (.int .i64 ((k : Int) + (N : Int)))) (some m) := grown_trans hg1 (grown_trans (grown_of_below (Below.refl _ _).drew.drew _) (set_grown _))
      have hgr1 : w1.grownBy (w1.drew.drew.setCell ⟨m, 1, none⟩ (.int .i64 ((k : Int) + (N : Int)))) (some m) := grown_trans (grown_of_below (Below.refl _ _).drew.drew _) (set_grown _)
      have hfin : same xs (some (k + N)) (some ((xs.drop k).drop N)) ∧ RR (w1.drew.drew.setCell ⟨m, 1, none⟩ (.int .i64 ((k : Int) + (N : Int)))) m ao n cap (some (k + N)) := by
        refine ⟨⟨by omega, by rw [List.drop_drop]⟩, ?_⟩
        have := RR.set (w := w1.drew.drew) (o := some k) hr1 (some (k + N))
        simpa [atOf] using this
      have hrow : ∀ vo vc, Row w1 vo N vc ((xs.drop k).take N) → ∃ vo' vc', Value.slice vo N vc = .slice vo' ((xs.drop k).take N).length vc' ∧ Row (w1.drew.drew.setCell ⟨m, 1, none⟩ (.int .i64 ((k : Int) + (N : Int)))) vo' ((xs.drop k).take N).length vc' ((xs.drop k).take N) := by
        intro vo vc hv
        rw [htl]
        exact ⟨vo, vc, rfl, row_RR hv hr1 hgr1⟩
      obtain ⟨vo, hvo⟩ : ∃ vo, vo = (if cap = k then ao else ao.map fun x => x.add k) := ⟨_, rfl⟩
      have hsl : ∀ wx, (Instr.slice 33 (.slice ao n cap) (some (.int .i64 (k : Int))) (some (.int .i64 ((k : Int) + (N : Int)))) none).run Try.prog wx = .ok (.slice vo N (cap - k)) wx := by
        intro wx
        rw [hvo]
        exact slice_run wx ao n cap k N (by omega)
      have hrowv : Row w1 vo N (cap - k) ((xs.drop k).take N) := by
        rw [hvo]
        by_cases hck : cap = k
        · rw [if_pos hck]
          have hN0 : N = 0 := by omega
          subst hN0
          refine ⟨rfl, Nat.zero_le _, by unfold maxLen; omega, fun _ => ⟨rfl, by omega⟩, fun a _ i hi => absurd hi (by omega)⟩
        · rw [if_neg hck]
          cases ao with
          | none => exact absurd ((hx1.2.2.2.1 rfl).2) (by have := (hx1.2.2.2.1 rfl).1; omega)
          | some a =>
            by_cases hn0 : n = 0
            · have hN0 : N = 0 := by omega
              subst hN0
              exact ⟨rfl, Nat.zero_le _, by unfold maxLen; omega, fun e => (by cases e), fun a _ i hi => absurd hi (by omega)⟩
            · obtain ⟨b, off, hab, _⟩ := hx1.open (by omega)
              cases hab
              have := (hx1.drop_at k (by omega)).takeC' N (by omega)
              rw [Option.map_some, Addr.add_lit]
              exact this
      have HF : Hid (∃ vo' vc', Value.slice vo N (cap - k) = .slice vo' ((xs.drop k).take N).length vc' ∧ Row (w1.drew.drew.setCell ⟨m, 1, none⟩ (.int .i64 ((k : Int) + (N : Int)))) vo' ((xs.drop k).take N).length vc' ((xs.drop k).take N)) := hrow vo (cap - k) hrowv
      have HG : Hid (w.grownBy (w1.drew.drew.setCell ⟨m, 1, none⟩ (.int .i64 ((k : Int) + (N : Int)))) (some m)) := hgr
      have HFI : Hid (same xs (some (k + N)) (some ((xs.drop k).drop N)) ∧ RR (w1.drew.drew.setCell ⟨m, 1, none⟩ (.int .i64 ((k : Int) + (N : Int)))) m ao n cap (some (k + N))) := hfin
      have HOF : Hid (Of ao vo N) := of_part hvo
      clear hrow hrowv hgr hgr1 hfin hvo
      go_wp2
      go_region_held3 (fun wx => wx.cell? ⟨m, 0, none⟩ = some (.slice ao n cap) ∧ wx.cell? ⟨m, 1, none⟩ = some (.int .i64 (k : Int))) (exact ⟨c0, c1⟩) (fail)
      go_wp2
      go_region_held3 (fun wx => wx.cell? ⟨m, 0, none⟩ = some (.slice ao n cap) ∧ wx.cell? ⟨m, 1, none⟩ = some (.int .i64 (k : Int))) (exact ⟨c0, c1⟩) (fail)
      go_wp2
      go_ret
      obtain ⟨vo', vc', he, hrw⟩ := HF.out
      have hvv : vo = vo' := by simp only [Value.slice.injEq] at he; exact he.1
      exact ⟨vo', vc', congrArg Ending.returned he, hrw, (by rw [← hvv, htl]; exact HOF.out), some (k + N), HFI.out.1, HFI.out.2, HG.out⟩

end Go.Proofs.Ytfemjbaadnjanaa.Cd
namespace Go.Proofs.Ytfemjbaadnjanaa
open Go.RowKit
set_option linter.unusedVariables false
set_option linter.unusedSimpArgs false

/-- A row of one's own; its parts in blocks of Q and in new ones. -/
def RowQ {X D : Type} (Q : Nat → Prop) (In : (Nat → Prop) → World → X → D → Prop) (cells : List X → List Value) (e s B : Nat) (w : World) (v : Value) (xs : List X) (ds : List D) : Prop :=
  w.ownsRow B e s v xs.length (cells xs) ∧ ds.length = xs.length ∧ ∀ (j : Nat) (x : X) (d : D), xs[j]? = some x → ds[j]? = some d → In (fun b => Q b ∨ (B ≤ b ∧ v.ownBlock ≠ some b)) w x d
section
variable {X D : Type} {Q : Nat → Prop} {In : (Nat → Prop) → World → X → D → Prop} {cells : List X → List Value} {e s B : Nat} {w w' : World} {v : Value} {xs : List X} {ds : List D}
theorem RowQ.nil (Q : Nat → Prop) (In : (Nat → Prop) → World → X → D → Prop) (cells : List X → List Value) (e s B : Nat) (w : World) (hc : cells [] = []) : RowQ Q In cells e s B w (.slice none 0 0) [] [] :=
  ⟨by rw [hc]; exact World.ownsRow_nil _ _ _ _, rfl, fun j x d hx => by simp at hx⟩
theorem RowQ.keepOld {r : Nat} (h : RowQ Q In cells e s B w v xs ds) (hk : ∀ {p : Nat → Prop} {x : X} {d : D}, In p w x d → Kp p w w' → In p w' x d) (g : w.grownBy w' (some r)) (hr : r < B) (hQ : ¬ Q r) : RowQ Q In cells e s B w' v xs ds := by
  refine ⟨h.1.kept g ?_, h.2.1, fun j x d hx hd => hk (h.2.2 j x d hx hd) (Kp.grown g (fun b hb => ?_))⟩
  · cases hb : v.ownBlock with
    | none => exact Or.inl rfl
    | some k => exact Or.inr (by have := (h.1.lt k hb).1; simp; omega)
  · rcases hb with hb | hb
    · intro e; subst e; exact hQ hb
    · have := hb.1; omega
theorem RowQ.step {c : Nat} {x : X} {d : D} {v' : Value} (h : RowQ Q In cells e s B w v xs ds) (hQ : ∀ b, Q b → b < B) (hk : ∀ {p : Nat → Prop} {x : X} {d : D}, In p w x d → Kp p w w' → In p w' x d) (hi : ∀ {p q : Nat → Prop} {w : World} {x : X} {d : D}, In p w x d → (∀ b, b < w.heap.size → p b → q b) → In q w x d)
    (hv : ∀ b, v.ownBlock = some b → b < c) (hx : In (fun b => Q b ∨ c ≤ b) w x d) (hc : B ≤ c) (hown : w'.ownsRow B e s v' (xs ++ [x]).length (cells (xs ++ [x]))) (g : w.grownBy w' v.ownBlock) (hat : v'.ownBlock = v.ownBlock ∨ v'.ownBlock = some w.heap.size) : RowQ Q In cells e s B w' v' (xs ++ [x]) (ds ++ [d]) := by
  refine ⟨hown, by rw [List.length_append, List.length_append, h.2.1]; rfl, fun j y z hy hz => ?_⟩
  have hvB : ∀ b, v.ownBlock = some b → B ≤ b := fun b hb => (h.1.lt b hb).1
  have kp : Kp (fun b => Q b ∨ (B ≤ b ∧ v.ownBlock ≠ some b ∧ v'.ownBlock ≠ some b)) w w' := fun ad u hb hc => g.cell hc (fun e => hb.elim (fun hq => by have := hQ _ hq; have := hvB _ e.symm; omega) (fun hb => hb.2.1 e.symm))
  have hl := h.2.1
  have hne : ∀ b, b < w.heap.size → v.ownBlock ≠ some b → v'.ownBlock ≠ some b := fun b hb hn => by
    rcases hat with e | e
    · rw [e]; exact hn
    · rw [e]; intro h; simp at h; omega
  by_cases hj : j < xs.length
  · rw [List.getElem?_append_left hj] at hy
    rw [List.getElem?_append_left (by omega)] at hz
    have h1 := hi (q := fun b => Q b ∨ (B ≤ b ∧ v.ownBlock ≠ some b ∧ v'.ownBlock ≠ some b)) (h.2.2 j y z hy hz) (fun b hb hp => hp.imp id (fun hp => ⟨hp.1, hp.2, hne b hb hp.2⟩))
    exact hi (hk h1 kp) (fun b _ hp => hp.imp id (fun hp => ⟨hp.1, hp.2.2⟩))
  · have hj2 : j < (xs ++ [x]).length := (List.getElem?_eq_some_iff.1 hy).1
    rw [List.length_append, List.length_singleton] at hj2
    obtain rfl : j = xs.length := by omega
    rw [List.getElem?_append_right (Nat.le_refl _)] at hy
    rw [List.getElem?_append_right (by omega)] at hz
    simp at hy
    have hz' : ds.length = xs.length := hl
    rw [hz', Nat.sub_self] at hz
    simp at hz
    subst hy hz
    have h1 := hi (q := fun b => Q b ∨ (B ≤ b ∧ v.ownBlock ≠ some b ∧ v'.ownBlock ≠ some b)) hx (fun b hb hp => hp.imp id (fun hp => by
      have hn : v.ownBlock ≠ some b := fun e => by have := hv b e; omega
      exact ⟨by omega, hn, hne b hb hn⟩))
    exact hi (hk h1 kp) (fun b _ hp => hp.imp id (fun hp => ⟨hp.1, hp.2.2⟩))
end
/-- Bytes that are read out of others lie in their block. -/
theorem rx_of {w : World} {ao vo : Option Addr} {n len vc : Nat} {bs : List UInt8} {Q : Nat → Prop} (h : Cd.Row w vo len vc bs) (ho : Cd.Of ao vo len) (hq : ∀ c, ao = some c → 0 < len → Q c.block) (hl : len ≤ 140737488355328) : Rx Q w vo len vc bs := by
  refine ⟨⟨h.1, hl, fun e => (h.2.2.2.1 e).1, fun h0 => ?_⟩, h.2.1, by have := h.2.2.1; unfold maxLen at this; omega, fun e => (h.2.2.2.1 e).2⟩
  obtain ⟨b, off, rfl, hc⟩ := h.open h0
  obtain ⟨c, hac, hb⟩ := ho h0 _ rfl
  refine ⟨b, off, rfl, ?_, fun j x hj => ?_⟩
  · have := hq c hac h0
    rw [← hb] at this
    exact this
  · have hjl := (List.getElem?_eq_some_iff.1 hj).1
    rw [hc j (by rw [← h.1]; exact hjl)]
    simp [List.getD_eq_getElem?_getD, hj]
theorem rMsg_len {bs : List UInt8} {o : Option Nat} {s : St} (hs : Cd.same bs o s) : (rMsg s).1.length ≤ bs.length := by
  cases h : (rMsg s).2 with
  | none =>
    have : (rMsg s).1 = [] := by
      unfold rMsg Cd.rBytes at *
      cases hi : (Cd.rInt s 1048576).2 with
      | none => rfl
      | some ys =>
        rw [hi] at h
        simp only at h ⊢
        split at h
        · rename_i hlt; rw [if_pos hlt]
        · cases h
    rw [this]; simp
  | some ys =>
    obtain ⟨xs, rfl, hx, _⟩ := rMsg_some h
    obtain ⟨k, _, _, hxd⟩ := Cd.same_left hs
    have h1 := congrArg List.length hx
    have h2 := congrArg List.length hxd
    unfold encM at h1
    rw [List.length_append, List.length_append] at h1
    rw [List.length_drop] at h2
    omega
theorem rList_dead {α : Type} {r : St → α × St} (hr : (r none).2 = none) : ∀ k, (rList r k none).2 = none
  | 0 => rfl
  | k + 1 => by rw [rList, hr]
theorem rItem_dead : (rItem none).2 = none := rfl
theorem comb_dead {α : Type} (ds : List α) {r : List α × St} (h : r.2 = none) : comb ds r = ([], none) := by unfold comb; rw [h]
theorem rowc {w : World} {ao : Option Addr} {n cap : Nat} {xs : List UInt8} (h : Cd.Row w ao n cap xs) {a : Addr} {v0 : Value} (u : Value) (hc : w.cell? a = some v0) (hv : ∀ k, v0 ≠ .int .u8 k) : Cd.Row (w.setCell a u) ao n cap xs := by
  obtain ⟨h1, h2, h3, h4, h5⟩ := h
  refine ⟨h1, h2, h3, h4, fun b hb i hi => ?_⟩
  rw [World.cell?_setCell_other]
  · exact h5 b hb i hi
  · intro e
    have := h5 b hb i hi
    rw [← e, hc] at this
    exact hv _ (by simpa using this)
end Go.Proofs.Ytfemjbaadnjanaa
namespace Go.Proofs.Ytfemjbaadnjanaa
open Go.RowKit
set_option linter.unusedVariables false
set_option linter.unusedSimpArgs false

/-- The document's reader, and the bytes that it reads. -/
structure Rq (Q : Nat → Prop) (w W : World) (m : Nat) (ao : Option Addr) (n cap : Nat) (bs : List UInt8) (o : Option Nat) (st : St) : Prop where
  rr : Cd.RR W m ao n cap o
  row : Cd.Row W ao n cap bs
  same : Cd.same bs o st
  gr : w.grownBy W (some m)
theorem Rq.step {Q : Nat → Prop} {w W W' : World} {m : Nat} {ao : Option Addr} {n cap : Nat} {bs : List UInt8} {o o' : Option Nat} {st st' : St} (h : Rq Q w W m ao n cap bs o st) (hr : Cd.RR W' m ao n cap o') (hs : Cd.same bs o' st') (g : W.grownBy W' (some m)) : Rq Q w W' m ao n cap bs o' st' :=
  ⟨hr, Cd.row_RR h.row h.rr g, hs, Cd.grown_trans h.gr g⟩
theorem Rq.up {Q : Nat → Prop} {w W W' : World} {m : Nat} {ao : Option Addr} {n cap : Nat} {bs : List UInt8} {o : Option Nat} {st : St} (h : Rq Q w W m ao n cap bs o st) (u : Below W.heap.size W W') : Rq Q w W' m ao n cap bs o st :=
  ⟨h.rr.below u, h.row.below u (Nat.le_refl _), h.same, Cd.grown_trans h.gr (Cd.grown_of_below u _)⟩
theorem Rq.own {Q : Nat → Prop} {w W W' : World} {m : Nat} {ao : Option Addr} {n cap : Nat} {bs : List UInt8} {o : Option Nat} {st : St} {v : Value} (h : Rq Q w W m ao n cap bs o st) (hQ : ∀ b, Q b → b < w.heap.size ∧ b ≠ m) (hA : ∀ c, ao = some c → 0 < n → Q c.block) (hm : m < w.heap.size) (g : W.grownBy W' v.ownBlock) (hv : ∀ b, v.ownBlock = some b → w.heap.size ≤ b) : Rq Q w W' m ao n cap bs o st := by
  have hs := h.gr.size
  refine ⟨?_, ?_, h.same, ?_⟩
  · have := h.rr
    unfold Cd.RR at *
    rw [g.block m (by omega) (fun e => by have := hv m e.symm; omega)]
    exact this
  · obtain ⟨h1, h2, h3, h4, h5⟩ := h.row
    refine ⟨h1, h2, h3, h4, fun a ha i hi => ?_⟩
    have hq := hA a ha (by omega)
    refine g.cell (h5 a ha i hi) (fun e => ?_)
    have h6 : (a.add i).block = a.block := by unfold Addr.add; split <;> rfl
    rw [h6] at e
    have := hv _ e.symm
    have := (hQ _ hq).1
    omega
  · have k := h.gr
    exact ⟨g.os.trans k.os, g.tape.trans k.tape, g.output.trans k.output, Nat.le_trans k.size g.size, fun i hi hne => (g.block i (by omega) (fun e => by have := hv i e.symm; omega)).trans (k.block i hi hne)⟩

set_option maxRecDepth 10000 in
set_option maxHeartbeats 2000000 in
theorem unitems_any (Q : Nat → Prop) (w : World) (m : Nat) (ao : Option Addr) (n cap : Nat) (bs : List UInt8) (o : Option Nat) (st : St) (h : Rq Q w w m ao n cap bs o st) (hn : n ≤ 1048576) (hQ : ∀ b, Q b → b < w.heap.size ∧ b ≠ m) (hA : ∀ c, ao = some c → 0 < n → Q c.block) :
    Calls Try.prog 44 #[.pointer (some ⟨m, 0, none⟩)] w fun e w' => ∃ v xs ds, e = .returned v ∧ RowQ Q ItX cellI 49 2 w.heap.size w' v xs ds ∧ ds.length ≤ 4096 ∧ ((rMany rItem st).2 ≠ none → ds = (rMany rItem st).1) ∧ ∃ o', Rq Q w w' m ao n cap bs o' (rMany rItem st).2 := by
  obtain ⟨i0, hi0, hz0, hz1, hz2⟩ := info_parts infoI
  have hml := h.rr.lt
  have hin := Cd.refInt_step w m ao n cap bs o st h.same h.rr h.row (by omega) 4096 (by omega) (by omega)
  have hle : (Cd.rInt st 4096).1 ≤ 4096 := rInt_small st 4096
  have HM : Hid (rMany rItem st = rList rItem (Cd.rInt st 4096).1 (Cd.rInt st 4096).2) := rfl
  have hbl := h.row.1
  generalize Cd.rInt st 4096 = ri at *
  obtain ⟨N, s0⟩ := ri
  simp only at *
  have HH : Hid (Rq Q w w m ao n cap bs o st) := h
  have HQ : Hid (∀ b, Q b → b < w.heap.size ∧ b ≠ m) := hQ
  have HA : Hid (∀ c, ao = some c → 0 < n → Q c.block) := hA
  clear h hQ hA
  go_enter Try.func44, Try.ntmps44
  go_wp2_with fail
  refine hin.mono ?_
  rintro e w0 ⟨rfl, o0, hs0, hr0, hg0⟩
  have HR0 : Hid (Rq Q w w0 m ao n cap bs o0 s0) := HH.out.step hr0 hs0 hg0
  clear hin hr0 hg0 hs0 HH
  go_wp2_with fail
  go_loopw [3, 5, 6] (fun lv iv _ wr => ∃ (k : Nat) (xs : List Ix) (ds : List Di) (sk : St) (ok : Option Nat), k ≤ N ∧ iv = .int .i64 k ∧ xs.length = k ∧ RowQ Q ItX cellI 49 2 w.heap.size wr lv xs ds ∧ Rq Q w wr m ao n cap bs ok sk ∧ rList rItem N s0 = comb ds (rList rItem (N - k) sk)) (fun _ iv _ _ => N - (intOf iv).toNat)
  case atStart =>
    refine ⟨0, [], [], s0, o0, by omega, rfl, rfl, RowQ.nil _ _ _ _ _ _ _ rfl, HR0.out, ?_⟩
    rw [Nat.sub_zero]; exact (comb_nil_list _ (fun e => rList_none e)).symm
  case round =>
    clear HR0
    obtain ⟨k, xs, ds, sk, ok, hk, rfl, hxk, hrow, hrq, hrel⟩ := hrel
    have HREL : Hid (rList rItem N s0 = comb ds (rList rItem (N - k) sk)) := hrel
    have HROW : Hid (RowQ Q ItX cellI 49 2 w.heap.size wr u3 xs ds) := hrow
    have HXK : Hid (xs.length = k) := hxk
    have hdl : ds.length = k := hrow.2.1.trans hxk
    obtain ⟨c0, c1, _, _⟩ := hrq.rr.cells
    clear hrel hrow hxk
    cases sk with
    | none =>
      obtain rfl := Cd.same_none hrq.same
      have HF : Hid (rMany rItem st = ([], none)) := by
        show _ = _
        rw [HM.out, HREL.out]
        exact comb_dead _ (rList_dead rItem_dead _)
      have HE : Hid (∃ v xs ds, Ending.returned u3 = .returned v ∧ RowQ Q ItX cellI 49 2 w.heap.size wr v xs ds ∧ ds.length ≤ 4096 ∧ ((rMany rItem st).2 ≠ none → ds = (rMany rItem st).1) ∧ ∃ o', Rq Q w wr m ao n cap bs o' (rMany rItem st).2) := by
        rw [HF.out]
        exact ⟨u3, xs, ds, rfl, HROW.out, by omega, fun h => absurd rfl h, none, hrq⟩
      simp only [Cd.atOf] at c1
      clear HREL HM HROW HXK hrq HF HQ HA
      by_cases hlt : k < N
      · have hltI : (k : Int) < (N : Int) := by omega
        go_wp2
        go_ret
        exact HE.out
      · have hltI : (N : Int) ≤ (k : Int) := by omega
        go_wp2
        go_ret
        exact HE.out
    | some ys =>
      obtain ⟨q, rfl, hqb, hys⟩ := Cd.same_left hrq.same
      simp only [Cd.atOf] at c1
      by_cases hlt : k < N
      · have hltI : (k : Int) < (N : Int) := by omega
        have hi1 := Cd.refInt_step wr m ao n cap bs (some q) (some ys) hrq.same hrq.rr hrq.row (by omega) 15 (by omega) (by omega)
        have HST : Hid (rList rItem (N - k) (some ys) = match (rItem (some ys)).2 with
          | none => ([], none)
          | some zs => match (rList rItem (N - (k + 1)) (some zs)).2 with
            | none => ([], none)
            | some zs' => ((rItem (some ys)).1 :: (rList rItem (N - (k + 1)) (some zs)).1, some zs')) := by
          show _ = _
          rw [show N - k = (N - (k + 1)) + 1 by omega]
          rfl
        have HIT : Hid (rItem (some ys) = (((((Cd.rInt (some ys) 15).1 : Nat) : Int), (rMsg (Cd.rInt (some ys) 15).2).1), (rMsg (Cd.rInt (some ys) 15).2).2)) := rfl
        have HRQ : Hid (Rq Q w wr m ao n cap bs (some q) (some ys)) := hrq
        have hwr := hrq.gr.size
        have hqI : (0 : Int) ≤ (q : Int) := by omega
        generalize Cd.rInt (some ys) 15 = ri at *
        obtain ⟨F, s1⟩ := ri
        simp only at *
        clear hrq hys hqb
        go_wp2_with fail
        refine hi1.mono ?_
        rintro e w1 ⟨rfl, o1, hs1, hr1, hg1⟩
        have hq1 := HRQ.out.step hr1 hs1 hg1
        have u1 := bl1 w1 (.cells #[.int .i64 (F : Nat), .slice none 0 0] 49)
        have hq2 := hq1.up u1
        have hby := Cd.refBytes_at _ m ao n cap bs o1 s1 hq2.same hq2.rr hq2.row (by omega) 1048576 (by omega) (by omega)
        have hlen : (rMsg s1).1.length ≤ bs.length := rMsg_len hs1
        have hby' : Calls Try.prog 43 #[.pointer (some ⟨m, 0, none⟩), .int .i64 1048576] (w1.alloc (.cells #[.int .i64 (F : Nat), .slice none 0 0] 49)) fun e w' => ∃ vo vc, e = .returned (.slice vo (rMsg s1).1.length vc) ∧ Cd.Row w' vo (rMsg s1).1.length vc (rMsg s1).1 ∧ Cd.Of ao vo (rMsg s1).1.length ∧ ∃ o', Cd.same bs o' (rMsg s1).2 ∧ Cd.RR w' m ao n cap o' ∧ (w1.alloc (.cells #[.int .i64 (F : Nat), .slice none 0 0] 49)).grownBy w' (some m) := hby
        have hgw1 := hg1.size
        have f1 : (w1.alloc (.cells #[.int .i64 (F : Nat), .slice none 0 0] 49)).heap[w1.heap.size]? = some (.cells #[.int .i64 (F : Nat), .slice none 0 0] 49 (0, 0)) := heap_alloc_new _ _
        have HG2 : Hid (wr.grownBy (w1.alloc (.cells #[.int .i64 (F : Nat), .slice none 0 0] 49)) (some m)) := Cd.grown_trans hg1 (Cd.grown_of_below u1 _)
        have HQ2 : Hid (Rq Q w (w1.alloc (.cells #[.int .i64 (F : Nat), .slice none 0 0] 49)) m ao n cap bs o1 s1) := hq2
        generalize rMsg s1 = rm at *
        obtain ⟨bb, s2⟩ := rm
        simp only at *
        clear hby hi1 hq1 hq2 u1 hr1 hg1 hs1 c0 c1
        go_wp2_with fail
        refine hby'.mono ?_
        rintro e w2 ⟨vo, vc, rfl, hrw, hof, o2, hs2, hr2, hg2⟩
        have hsz2 := hg2.size
        have hsz1 : w1.heap.size < (w1.alloc (.cells #[.int .i64 (F : Nat), .slice none 0 0] 49)).heap.size := by simp
        have f2 : w2.heap[w1.heap.size]? = some (.cells #[.int .i64 (F : Nat), .slice none 0 0] 49 (0, 0)) := (hg2.block _ hsz1 (by simp; omega)).trans f1
        have g0 : w2.cell? ⟨w1.heap.size, 0, none⟩ = some (.int .i64 (F : Nat)) := by rw [cell_of_row _ _ _ _ _ _ f2]; rfl
        have g1 : w2.cell? ⟨w1.heap.size, 1, none⟩ = some (.slice none 0 0) := by rw [cell_of_row _ _ _ _ _ _ f2]; rfl
        have gf : ∀ j, w2.frozen? ⟨w1.heap.size, j, none⟩ = false := fun j => frozen_of_row _ _ _ _ _ f2
        have hq3 := HQ2.out.step hr2 hs2 hg2
        have hrw3 : Cd.Row (w2.setCell ⟨w1.heap.size, 1, none⟩ (.slice vo bb.length vc)) vo bb.length vc bb := rowc hrw _ g1 (fun k e => by cases e)
        have hrb3 : Cd.Row (w2.setCell ⟨w1.heap.size, 1, none⟩ (.slice vo bb.length vc)) ao n cap bs := rowc hq3.row _ g1 (fun k e => by cases e)
        have hG3 : wr.grownBy (w2.setCell ⟨w1.heap.size, 1, none⟩ (.slice vo bb.length vc)) (some m) := gr_setCell (Cd.grown_trans HG2.out hg2) (by omega)
        have hrr3 : Cd.RR (w2.setCell ⟨w1.heap.size, 1, none⟩ (.slice vo bb.length vc)) m ao n cap o2 := by
          unfold Cd.RR at *
          rw [Below.heap_setCell _ _ _ _ (by show m ≠ w1.heap.size; omega)]
          exact hr2
        have HQ4 : Hid (Rq Q w ((w2.setCell ⟨w1.heap.size, 1, none⟩ (.slice vo bb.length vc)).alloc (.cells #[.int .i64 (F : Nat), .slice vo bb.length vc] 49)) m ao n cap bs o2 s2) :=
          (Rq.mk (Q := Q) hrr3 hrb3 hs2 (Cd.grown_trans HRQ.out.gr hG3)).up (bl1 _ _)
        have HX4 : Hid (ItX (fun b => Q b ∨ wr.heap.size ≤ b) ((w2.setCell ⟨w1.heap.size, 1, none⟩ (.slice vo bb.length vc)).alloc (.cells #[.int .i64 (F : Nat), .slice vo bb.length vc] 49)) (((F : Nat) : Int), vo, bb.length, vc) (((F : Nat) : Int), bb)) :=
          ⟨rfl, (rx_of (Q := Q) (n := n) (hrw3.below (bl1 _ _) (Nat.le_refl _)) hof (fun c hc h0 => HA.out c hc (by omega)) (by omega)).imp (fun b _ hb => .inl hb)⟩
        have HROW4 : Hid (RowQ Q ItX cellI 49 2 w.heap.size ((w2.setCell ⟨w1.heap.size, 1, none⟩ (.slice vo bb.length vc)).alloc (.cells #[.int .i64 (F : Nat), .slice vo bb.length vc] 49)) u3 xs ds ∧ ∀ b, u3.ownBlock = some b → b < wr.heap.size) :=
          ⟨HROW.out.keepOld (fun h k => ItX.keep h k) (gr_up hG3 (bl1 _ _)) hml (fun hq => (HQ.out m hq).2 rfl), fun b hb => (HROW.out.1.lt b hb).2⟩
        have hown3 := HROW4.out.1.1
        rw [HXK.out] at hown3
        have hss : (w2.setCell ⟨w1.heap.size, 1, none⟩ (.slice vo bb.length vc)).heap.size = w2.heap.size := by simp [World.setCell]
        have hcx : ∀ j u, ([.int .i64 (F : Nat), .slice vo bb.length vc] : List Value)[j]? = some u → ((w2.setCell ⟨w1.heap.size, 1, none⟩ (.slice vo bb.length vc)).alloc (.cells #[.int .i64 (F : Nat), .slice vo bb.length vc] 49)).cell? ((⟨w2.heap.size, 0, none⟩ : Addr).add j) = some u := fun j u hj => by
          rw [Addr.add_lit, Nat.zero_add]
          have := cell_box (w2.setCell ⟨w1.heap.size, 1, none⟩ (.slice vo bb.length vc)) #[.int .i64 (F : Nat), .slice vo bb.length vc] 49 j u (by simpa using hj)
          rwa [hss] at this
        have hs3 : ((w2.setCell ⟨w1.heap.size, 1, none⟩ (.slice vo bb.length vc)).alloc (.cells #[.int .i64 (F : Nat), .slice vo bb.length vc] 49)).heap.size = w2.heap.size + 1 := by simp [World.setCell]
        have HREL2 : Hid (rList rItem N s0 = comb (ds ++ [(((F : Nat) : Int), bb)]) (rList rItem (N - (k + 1)) s2)) := by
          show _ = _
          rw [HREL.out, HST.out, HIT.out]
          cases s2 with
          | none => rw [comb_dead (ds ++ [(((F : Nat) : Int), bb)]) (rList_dead rItem_dead _)]; rfl
          | some zs => exact comb_step _ _ _
        have hw12 : w1.heap.size < w2.heap.size := by simp at hsz2; omega
        have hw2 : w.heap.size ≤ w2.heap.size := by omega
        clear HREL HST HIT HRQ HROW hrw hof hs2 hr2 hg2 f1 f2 hq3 hrw3 hrb3 hG3 hrr3 HQ2 HG2 hby' hsz2 hsz1 hss hgw1
        go_wp2_with (first | (at_builtin; refine wpList_append_own_at _ rfl _ _ 28 rfl w.heap.size 49 i0 (.agg #[.int .i64 0, .slice none 0 0]) 2 32 und29 hi0 hz0 hz1 hz2 rfl (by decide) _ k _ rfl hown3 ⟨w2.heap.size, 0, none⟩ 1 1 [.int .i64 (F : Nat), .slice vo bb.length vc] rfl ?d2 ?d3 ?d4 ?d6 ?d7 ?d8 ?_))
        case d2 => rfl
        case d3 => exact hcx
        case d4 => simp [Value.oneCell']
        case d6 => unfold maxLen; omega
        case d7 => omega
        case d8 => omega
        intro v' w4 hown4 hgr4 hnil hat
        have HROW5 : Hid (RowQ Q ItX cellI 49 2 w.heap.size w4 v' (xs ++ [(((F : Nat) : Int), vo, bb.length, vc)]) (ds ++ [(((F : Nat) : Int), bb)])) :=
          HROW4.out.1.step (fun b hb => (HQ.out b hb).1) (fun h k => ItX.keep h k) (fun h k => ItX.imp h k) HROW4.out.2 HX4.out hwr (by rw [List.length_append, HXK.out, cellI_snoc]; exact hown4) hgr4 (by rw [hs3]; exact hat)
        have HQ5 : Hid (Rq Q w w4 m ao n cap bs o2 s2) := HQ4.out.own HQ.out HA.out hml hgr4 (fun b hb => (HROW4.out.1.1.lt b hb).1)
        clear HROW4 HX4 HQ4 hown3 hown4 hgr4 hnil hat hcx hs3 g0 g1 gf
        go_wp2
        go_roundw
        case rel => first | exact ⟨k + 1, _, _, s2, o2, by omega, by go_num, by rw [List.length_append, HXK.out]; rfl, HROW5.out, HQ5.out, HREL2.out⟩ | ((repeat apply Exists.intro); exact ⟨⟨k + 1, _, _, s2, o2, by omega, by go_num, by rw [List.length_append, HXK.out]; rfl, HROW5.out, HQ5.out, HREL2.out⟩, rfl⟩)
        case measure => simp [intOf]; omega
      · obtain rfl : k = N := by omega
        have HF : Hid (rMany rItem st = (ds, some ys)) := by
          show _ = _
          rw [HM.out, HREL.out, Nat.sub_self]
          exact comb_end (fun e => by cases e)
        have HE : Hid (∃ v xs ds, Ending.returned u3 = .returned v ∧ RowQ Q ItX cellI 49 2 w.heap.size wr v xs ds ∧ ds.length ≤ 4096 ∧ ((rMany rItem st).2 ≠ none → ds = (rMany rItem st).1) ∧ ∃ o', Rq Q w wr m ao n cap bs o' (rMany rItem st).2) := by
          rw [HF.out]
          exact ⟨u3, xs, ds, rfl, HROW.out, by omega, fun _ => rfl, some q, hrq⟩
        clear HREL HM HROW HXK hrq HF HQ HA hys hqb
        go_wp2
        go_ret
        exact HE.out
end Go.Proofs.Ytfemjbaadnjanaa
namespace Go.Proofs.Ytfemjbaadnjanaa
open Go.RowKit
set_option linter.unusedVariables false
set_option linter.unusedSimpArgs false

theorem RowQ.its {Q : Nat → Prop} {B : Nat} {w : World} {v : Value} {xs : List Ix} {ds : List Di} (h : RowQ Q ItX cellI 49 2 B w v xs ds) (hn : ds.length ≤ 4096) : ∃ ao cap, v = .slice ao ds.length cap ∧ ItsX (fun b => Q b ∨ B ≤ b) w ao ds.length ds := by
  obtain ⟨h1, h2, h3⟩ := h
  rw [← h2] at h1
  rcases IR.own h1 (by omega) with ⟨rfl, h0⟩ | ⟨g, cap, rfl, hg, _, _, hI⟩
  · have : ds = [] := List.eq_nil_of_length_eq_zero h0
    subst this
    exact ⟨none, 0, rfl, ItsX.nil _ _⟩
  · exact ⟨_, cap, rfl, xs, hI.imp (fun b _ hb => .inr (by rw [hb]; exact hg)), rfl, fun j x d hx hd => (h3 j x d hx hd).imp (fun b _ hb => hb.imp id (fun hb => hb.1))⟩
theorem RowQ.mss {Q : Nat → Prop} {B : Nat} {w : World} {v : Value} {xs : List (Option Addr × Nat × Nat)} {ds : List (List UInt8)} (h : RowQ Q RmX cellM 33 1 B w v xs ds) (hn : ds.length ≤ 4096) : ∃ ao cap, v = .slice ao ds.length cap ∧ MsX (fun b => Q b ∨ B ≤ b) w ao ds.length ds := by
  obtain ⟨h1, h2, h3⟩ := h
  rw [← h2] at h1
  rcases own_shape h1 with ⟨rfl, h0⟩ | ⟨g, cap, rfl, hg, _⟩
  · have : ds = [] := List.eq_nil_of_length_eq_zero h0
    subst this
    exact ⟨none, 0, rfl, MsX.nil _ _⟩
  · refine ⟨_, cap, rfl, xs, ⟨h2.symm, by omega, fun e => (by cases e), fun _ => ⟨g, 0, rfl, .inr hg, fun j x hj => ?_⟩⟩, rfl, fun j x d hx hd => (h3 j x d hx hd).imp (fun b _ hb => hb.imp id (fun hb => hb.1))⟩
    rw [Nat.zero_add]
    refine own_cell h1 j _ ?_
    unfold cellM
    rw [List.getElem?_map, hj]
    rfl
theorem RowQ.sts {Q : Nat → Prop} {B : Nat} {w : World} {v : Value} {xs : List Sx} {ds : List Sd} (h : RowQ Q SiX flat 52 4 B w v xs ds) (hn : ds.length ≤ 4096) : ∃ ao cap, v = .slice ao ds.length cap ∧ SsX (fun b => Q b ∨ B ≤ b) w ao ds.length ds := by
  obtain ⟨h1, h2, h3⟩ := h
  rw [← h2] at h1
  obtain ⟨ao, cap, hv, hS, _⟩ := SR.own h1
  exact ⟨ao, cap, hv, xs, hS.imp (fun b _ hb => .inr hb.2), rfl, fun j x d hx hd => (h3 j x d hx hd).imp (fun b _ hb => hb.imp id (fun hb => hb.1))⟩
theorem rState_dead : (rState 1073741824 none).2 = none := rfl

set_option maxRecDepth 10000 in
set_option maxHeartbeats 2000000 in
theorem unstates_any (Q : Nat → Prop) (w : World) (m : Nat) (ao : Option Addr) (n cap : Nat) (bs : List UInt8) (o : Option Nat) (st : St) (h : Rq Q w w m ao n cap bs o st) (hn : n ≤ 1048576) (hQ : ∀ b, Q b → b < w.heap.size ∧ b ≠ m) (hA : ∀ c, ao = some c → 0 < n → Q c.block) :
    Calls Try.prog 41 #[.pointer (some ⟨m, 0, none⟩)] w fun e w' => ∃ v xs ds, e = .returned v ∧ RowQ Q SiX flat 52 4 w.heap.size w' v xs ds ∧ ds.length ≤ 4096 ∧ ((rMany (rState 1073741824) st).2 ≠ none → ds = (rMany (rState 1073741824) st).1) ∧ ∃ o', Rq Q w w' m ao n cap bs o' (rMany (rState 1073741824) st).2 := by
  obtain ⟨i0, hi0, hz0, hz1, hz2⟩ := info_parts infoS52
  have hml := h.rr.lt
  have hin := Cd.refInt_step w m ao n cap bs o st h.same h.rr h.row (by omega) 4096 (by omega) (by omega)
  have hle : (Cd.rInt st 4096).1 ≤ 4096 := rInt_small st 4096
  have HM : Hid (rMany (rState 1073741824) st = rList (rState 1073741824) (Cd.rInt st 4096).1 (Cd.rInt st 4096).2) := rfl
  have hbl := h.row.1
  generalize Cd.rInt st 4096 = ri at *
  obtain ⟨N, s0⟩ := ri
  simp only at *
  have HH : Hid (Rq Q w w m ao n cap bs o st) := h
  have HQ : Hid (∀ b, Q b → b < w.heap.size ∧ b ≠ m) := hQ
  have HA : Hid (∀ c, ao = some c → 0 < n → Q c.block) := hA
  clear h hQ hA
  go_enter Try.func41, Try.ntmps41
  go_wp2_with fail
  refine hin.mono ?_
  rintro e w0 ⟨rfl, o0, hs0, hr0, hg0⟩
  have HR0 : Hid (Rq Q w w0 m ao n cap bs o0 s0) := HH.out.step hr0 hs0 hg0
  clear hin hr0 hg0 hs0 HH
  go_wp2_with fail
  go_loopw [3, 5, 6] (fun lv iv _ wr => ∃ (k : Nat) (xs : List Sx) (ds : List Sd) (sk : St) (ok : Option Nat), k ≤ N ∧ iv = .int .i64 k ∧ xs.length = k ∧ RowQ Q SiX flat 52 4 w.heap.size wr lv xs ds ∧ Rq Q w wr m ao n cap bs ok sk ∧ rList (rState 1073741824) N s0 = comb ds (rList (rState 1073741824) (N - k) sk)) (fun _ iv _ _ => N - (intOf iv).toNat)
  case atStart =>
    refine ⟨0, [], [], s0, o0, by omega, rfl, rfl, RowQ.nil _ _ _ _ _ _ _ rfl, HR0.out, ?_⟩
    rw [Nat.sub_zero]; exact (comb_nil_list _ (fun e => rList_none e)).symm
  case round =>
    clear HR0
    obtain ⟨k, xs, ds, sk, ok, hk, rfl, hxk, hrow, hrq, hrel⟩ := hrel
    have HREL : Hid (rList (rState 1073741824) N s0 = comb ds (rList (rState 1073741824) (N - k) sk)) := hrel
    have HROW : Hid (RowQ Q SiX flat 52 4 w.heap.size wr u3 xs ds) := hrow
    have HXK : Hid (xs.length = k) := hxk
    have hdl : ds.length = k := hrow.2.1.trans hxk
    obtain ⟨c0, c1, _, _⟩ := hrq.rr.cells
    clear hrel hrow hxk
    cases sk with
    | none =>
      obtain rfl := Cd.same_none hrq.same
      have HF : Hid (rMany (rState 1073741824) st = ([], none)) := by
        show _ = _
        rw [HM.out, HREL.out]
        exact comb_dead _ (rList_dead rState_dead _)
      have HE : Hid (∃ v xs ds, Ending.returned u3 = .returned v ∧ RowQ Q SiX flat 52 4 w.heap.size wr v xs ds ∧ ds.length ≤ 4096 ∧ ((rMany (rState 1073741824) st).2 ≠ none → ds = (rMany (rState 1073741824) st).1) ∧ ∃ o', Rq Q w wr m ao n cap bs o' (rMany (rState 1073741824) st).2) := by
        rw [HF.out]
        exact ⟨u3, xs, ds, rfl, HROW.out, by omega, fun h => absurd rfl h, none, hrq⟩
      simp only [Cd.atOf] at c1
      clear HREL HM HROW HXK hrq HF HQ HA
      by_cases hlt : k < N
      · have hltI : (k : Int) < (N : Int) := by omega
        go_wp2
        go_ret
        exact HE.out
      · have hltI : (N : Int) ≤ (k : Int) := by omega
        go_wp2
        go_ret
        exact HE.out
    | some ys =>
      obtain ⟨q, rfl, hqb, hys⟩ := Cd.same_left hrq.same
      simp only [Cd.atOf] at c1
      by_cases hlt : k < N
      · have hltI : (k : Int) < (N : Int) := by omega
        have hi1 := refDecode_step wr m ao n cap bs (some q) (some ys) hrq.same hrq.rr hrq.row (by omega)
        have HST : Hid (rList (rState 1073741824) (N - k) (some ys) = match (rState 1073741824 (some ys)).2 with
          | none => ([], none)
          | some zs => match (rList (rState 1073741824) (N - (k + 1)) (some zs)).2 with
            | none => ([], none)
            | some zs' => ((rState 1073741824 (some ys)).1 :: (rList (rState 1073741824) (N - (k + 1)) (some zs)).1, some zs')) := by
          show _ = _
          rw [show N - k = (N - (k + 1)) + 1 by omega]
          rfl
        have HIT : Hid (rState 1073741824 (some ys) = (((decV (some ys)).1.1, (((decV (some ys)).1.2 : Nat) : Int), (((Cd.rInt (decV (some ys)).2 1073741824).1 : Nat) : Int), (rMany rItem (Cd.rInt (decV (some ys)).2 1073741824).2).1), (rMany rItem (Cd.rInt (decV (some ys)).2 1073741824).2).2)) := rfl
        have HRQ : Hid (Rq Q w wr m ao n cap bs (some q) (some ys)) := hrq
        have hwr := hrq.gr.size
        have hqI : (0 : Int) ≤ (q : Int) := by omega
        generalize decV (some ys) = dv at *
        obtain ⟨⟨N1, P⟩, s1⟩ := dv
        simp only at *
        unfold vid at hi1
        clear hrq hys hqb
        go_wp2_with fail
        refine hi1.mono ?_
        rintro e w1 ⟨rfl, o1, hs1, hr1, hg1⟩
        have hq1 := HRQ.out.step hr1 hs1 hg1
        have u1 := bl1 w1 (.cells #[.int .u64 (N1 : Nat), .int .i64 (P : Nat), .int .i64 0, .slice none 0 0] 52)
        have hq2 := hq1.up u1
        have hin2 := Cd.refInt_step _ m ao n cap bs o1 s1 hq2.same hq2.rr hq2.row (by omega) 1073741824 (by omega) (by omega)
        have hgw1 := hg1.size
        have f1 : (w1.alloc (.cells #[.int .u64 (N1 : Nat), .int .i64 (P : Nat), .int .i64 0, .slice none 0 0] 52)).heap[w1.heap.size]? = some (.cells #[.int .u64 (N1 : Nat), .int .i64 (P : Nat), .int .i64 0, .slice none 0 0] 52 (0, 0)) := heap_alloc_new _ _
        have HG2 : Hid (wr.grownBy (w1.alloc (.cells #[.int .u64 (N1 : Nat), .int .i64 (P : Nat), .int .i64 0, .slice none 0 0] 52)) (some m)) := Cd.grown_trans hg1 (Cd.grown_of_below u1 _)
        have HQ2 : Hid (Rq Q w (w1.alloc (.cells #[.int .u64 (N1 : Nat), .int .i64 (P : Nat), .int .i64 0, .slice none 0 0] 52)) m ao n cap bs o1 s1) := hq2
        generalize Cd.rInt s1 1073741824 = ri at *
        obtain ⟨FL, s2⟩ := ri
        simp only at *
        clear hi1 hq1 hq2 u1 hr1 hg1 hs1 c0 c1
        go_wp2_with fail
        refine hin2.mono ?_
        rintro e w2 ⟨rfl, o2, hs2, hr2, hg2⟩
        have hsz2 := hg2.size
        have hsz1 : w1.heap.size < (w1.alloc (.cells #[.int .u64 (N1 : Nat), .int .i64 (P : Nat), .int .i64 0, .slice none 0 0] 52)).heap.size := by simp
        have hw12 : w1.heap.size < w2.heap.size := by omega
        have f2 : w2.heap[w1.heap.size]? = some (.cells #[.int .u64 (N1 : Nat), .int .i64 (P : Nat), .int .i64 0, .slice none 0 0] 52 (0, 0)) := (hg2.block _ hsz1 (by simp; omega)).trans f1
        have g2 : w2.cell? ⟨w1.heap.size, 2, none⟩ = some (.int .i64 0) := by rw [cell_of_row _ _ _ _ _ _ f2]; rfl
        have gf2 : w2.frozen? ⟨w1.heap.size, 2, none⟩ = false := frozen_of_row _ _ _ _ _ f2
        have hq3 := HQ2.out.step hr2 hs2 hg2
        have HG3 : Hid (wr.grownBy w2 (some m)) := Cd.grown_trans HG2.out hg2
        clear hin2 hsz2 hsz1 HG2 HQ2 f1 hg2
        obtain ⟨wa, hwa⟩ : ∃ wa, w2.setCell ⟨w1.heap.size, 2, none⟩ (.int .i64 (FL : Nat)) = wa := ⟨_, rfl⟩
        have hsa : wa.heap.size = w2.heap.size := by rw [← hwa]; simp [World.setCell]
        have fa : wa.heap[w1.heap.size]? = some (.cells #[.int .u64 (N1 : Nat), .int .i64 (P : Nat), .int .i64 (FL : Nat), .slice none 0 0] 52 (0, 0)) := by rw [← hwa, heap_setCell_same w2 w1.heap.size 2 _ 52 _ f2]; rfl
        have hra : Cd.RR wa m ao n cap o2 := by
          rw [← hwa]
          unfold Cd.RR at *
          rw [Below.heap_setCell _ _ _ _ (by show m ≠ w1.heap.size; omega)]
          exact hr2
        have hba : Cd.Row wa ao n cap bs := by rw [← hwa]; exact rowc hq3.row _ g2 (fun k e => by cases e)
        have HGA : Hid (wr.grownBy wa (some m)) := by rw [← hwa]; exact gr_setCell HG3.out (by omega)
        have hun := unitems_any Q wa m ao n cap bs o2 s2 ⟨hra, hba, hs2, Cd.grown_refl _ _⟩ hn (fun b hb => ⟨by have := (HQ.out b hb).1; omega, (HQ.out b hb).2⟩) HA.out
        generalize rMany rItem s2 = rm at *
        obtain ⟨bb, s3⟩ := rm
        simp only at *
        clear hr2 hs2 f2 hq3 HG3 hra hba
        go_wp2_with fail
        refine hun.mono ?_
        rintro e w3 ⟨v, is, es, rfl, hrow3, hel, heq, o3, hq4⟩
        have hg3 := hq4.gr
        have hsz3 := hg3.size
        have f3 : w3.heap[w1.heap.size]? = some (.cells #[.int .u64 (N1 : Nat), .int .i64 (P : Nat), .int .i64 (FL : Nat), .slice none 0 0] 52 (0, 0)) := (hg3.block _ (by omega) (by simp; omega)).trans fa
        obtain ⟨io, ic, rfl, hits⟩ := hrow3.its hel
        have g3 : w3.cell? ⟨w1.heap.size, 3, none⟩ = some (.slice none 0 0) := by rw [cell_of_row _ _ _ _ _ _ f3]; rfl
        have gf3 : w3.frozen? ⟨w1.heap.size, 3, none⟩ = false := frozen_of_row _ _ _ _ _ f3
        obtain ⟨wb, hwb⟩ : ∃ wb, w3.setCell ⟨w1.heap.size, 3, none⟩ (.slice io es.length ic) = wb := ⟨_, rfl⟩
        have hsb : wb.heap.size = w3.heap.size := by rw [← hwb]; simp [World.setCell]
        have fb : wb.heap[w1.heap.size]? = some (.cells #[.int .u64 (N1 : Nat), .int .i64 (P : Nat), .int .i64 (FL : Nat), .slice io es.length ic] 52 (0, 0)) := by rw [← hwb, heap_setCell_same w3 w1.heap.size 3 _ 52 _ f3]; rfl
        have hrb : Cd.RR wb m ao n cap o3 := by
          have := hq4.rr
          rw [← hwb]
          unfold Cd.RR at *
          rw [Below.heap_setCell _ _ _ _ (by show m ≠ w1.heap.size; omega)]
          exact this
        have hbb : Cd.Row wb ao n cap bs := by rw [← hwb]; exact rowc hq4.row _ g3 (fun k e => by cases e)
        have HGB : wr.grownBy wb (some m) := by rw [← hwb]; exact gr_setCell (Cd.grown_trans HGA.out hg3) (by omega)
        have HIB : ItsX (fun b => Q b ∨ wa.heap.size ≤ b) wb io es.length es := by
          rw [← hwb]
          exact hits.keep (kp_setCell (fun b hb => by
            rcases hb with hb | hb
            · have := (HQ.out b hb).1; omega
            · omega))
        have b0 : wb.cell? ⟨w1.heap.size, 0, none⟩ = some (.int .u64 (N1 : Nat)) := by rw [cell_of_row _ _ _ _ _ _ fb]; rfl
        have b1 : wb.cell? ⟨w1.heap.size, 1, none⟩ = some (.int .i64 (P : Nat)) := by rw [cell_of_row _ _ _ _ _ _ fb]; rfl
        have b2 : wb.cell? ⟨w1.heap.size, 2, none⟩ = some (.int .i64 (FL : Nat)) := by rw [cell_of_row _ _ _ _ _ _ fb]; rfl
        have b3 : wb.cell? ⟨w1.heap.size, 3, none⟩ = some (.slice io es.length ic) := by rw [cell_of_row _ _ _ _ _ _ fb]; rfl
        have HQ4 : Hid (Rq Q w (wb.alloc (.cells #[.int .u64 (N1 : Nat), .int .i64 (P : Nat), .int .i64 (FL : Nat), .slice io es.length ic] 52)) m ao n cap bs o3 s3) := (Rq.mk (Q := Q) hrb hbb hq4.same (Cd.grown_trans HRQ.out.gr HGB)).up (bl1 _ _)
        have HX4 : Hid (SiX (fun b => Q b ∨ wr.heap.size ≤ b) (wb.alloc (.cells #[.int .u64 (N1 : Nat), .int .i64 (P : Nat), .int .i64 (FL : Nat), .slice io es.length ic] 52)) (N1, ((P : Nat) : Int), ((FL : Nat) : Int), io, es.length, ic) (N1, ((P : Nat) : Int), ((FL : Nat) : Int), es)) :=
          ⟨rfl, rfl, rfl, (HIB.keep (Kp.up (bl1 _ _))).imp (fun b _ hb => hb.imp id (fun hb => by omega))⟩
        have HROW4 : Hid (RowQ Q SiX flat 52 4 w.heap.size (wb.alloc (.cells #[.int .u64 (N1 : Nat), .int .i64 (P : Nat), .int .i64 (FL : Nat), .slice io es.length ic] 52)) u3 xs ds ∧ ∀ b, u3.ownBlock = some b → b < wr.heap.size) :=
          ⟨HROW.out.keepOld (fun h k => SiX.keep h k) (gr_up HGB (bl1 _ _)) hml (fun hq => (HQ.out m hq).2 rfl), fun b hb => (HROW.out.1.lt b hb).2⟩
        have hown3 := HROW4.out.1.1
        rw [HXK.out] at hown3
        have hcx : ∀ j u, ([.int .u64 (N1 : Nat), .int .i64 (P : Nat), .int .i64 (FL : Nat), .slice io es.length ic] : List Value)[j]? = some u → (wb.alloc (.cells #[.int .u64 (N1 : Nat), .int .i64 (P : Nat), .int .i64 (FL : Nat), .slice io es.length ic] 52)).cell? ((⟨wb.heap.size, 0, none⟩ : Addr).add j) = some u := fun j u hj => by
          rw [Addr.add_lit, Nat.zero_add]
          exact cell_box wb #[.int .u64 (N1 : Nat), .int .i64 (P : Nat), .int .i64 (FL : Nat), .slice io es.length ic] 52 j u (by simpa using hj)
        have hs3 : (wb.alloc (.cells #[.int .u64 (N1 : Nat), .int .i64 (P : Nat), .int .i64 (FL : Nat), .slice io es.length ic] 52)).heap.size = wb.heap.size + 1 := by simp
        have HREL2 : Hid (rList (rState 1073741824) N s0 = comb (ds ++ [(N1, ((P : Nat) : Int), ((FL : Nat) : Int), es)]) (rList (rState 1073741824) (N - (k + 1)) s3)) := by
          show _ = _
          rw [HREL.out, HST.out, HIT.out]
          cases s3 with
          | none => rw [comb_dead (ds ++ [(N1, ((P : Nat) : Int), ((FL : Nat) : Int), es)]) (rList_dead rState_dead _)]; rfl
          | some zs => rw [heq (by simp)]; exact comb_step _ _ _
        have hw2 : w.heap.size ≤ wb.heap.size := by omega
        clear HREL HST HIT HRQ HROW hun hrow3 heq hq4 hg3 hsz3 f3 fa fb hits hrb hbb HGA HGB HIB hsa hgw1 hsb
        go_wp2_with (first | (at_builtin; refine wpList_append_own_at _ rfl _ _ 26 rfl w.heap.size 52 i0 (.agg #[.int .u64 0, .int .i64 0, .int .i64 0, .slice none 0 0]) 4 48 und22 hi0 hz0 hz1 hz2 rfl (by decide) _ k _ rfl hown3 ⟨wb.heap.size, 0, none⟩ 1 1 [.int .u64 (N1 : Nat), .int .i64 (P : Nat), .int .i64 (FL : Nat), .slice io es.length ic] rfl ?d2 ?d3 ?d4 ?d6 ?d7 ?d8 ?_))
        case d2 => rfl
        case d3 => exact hcx
        case d4 => simp [Value.oneCell']
        case d6 => unfold maxLen; omega
        case d7 => omega
        case d8 => omega
        intro v' w4 hown4 hgr4 hnil hat
        have HROW5 : Hid (RowQ Q SiX flat 52 4 w.heap.size w4 v' (xs ++ [(N1, ((P : Nat) : Int), ((FL : Nat) : Int), io, es.length, ic)]) (ds ++ [(N1, ((P : Nat) : Int), ((FL : Nat) : Int), es)])) :=
          HROW4.out.1.step (fun b hb => (HQ.out b hb).1) (fun h k => SiX.keep h k) (fun h k => SiX.imp h k) HROW4.out.2 HX4.out hwr (by rw [List.length_append, HXK.out, flat_snoc]; exact hown4) hgr4 (by rw [hs3]; exact hat)
        have HQ5 : Hid (Rq Q w w4 m ao n cap bs o3 s3) := HQ4.out.own HQ.out HA.out hml hgr4 (fun b hb => (HROW4.out.1.1.lt b hb).1)
        clear HROW4 HX4 HQ4 hown3 hown4 hgr4 hnil hat hcx hs3 b0 b1 b2 b3 g2 gf2 g3 gf3 hwa hwb
        go_wp2
        go_roundw
        case rel => first | exact ⟨k + 1, _, _, s3, o3, by omega, by go_num, by rw [List.length_append, HXK.out]; rfl, HROW5.out, HQ5.out, HREL2.out⟩ | ((repeat apply Exists.intro); exact ⟨⟨k + 1, _, _, s3, o3, by omega, by go_num, by rw [List.length_append, HXK.out]; rfl, HROW5.out, HQ5.out, HREL2.out⟩, rfl⟩)
        case measure => simp [intOf]; omega
      · obtain rfl : k = N := by omega
        have HF : Hid (rMany (rState 1073741824) st = (ds, some ys)) := by
          show _ = _
          rw [HM.out, HREL.out, Nat.sub_self]
          exact comb_end (fun e => by cases e)
        have HE : Hid (∃ v xs ds, Ending.returned u3 = .returned v ∧ RowQ Q SiX flat 52 4 w.heap.size wr v xs ds ∧ ds.length ≤ 4096 ∧ ((rMany (rState 1073741824) st).2 ≠ none → ds = (rMany (rState 1073741824) st).1) ∧ ∃ o', Rq Q w wr m ao n cap bs o' (rMany (rState 1073741824) st).2) := by
          rw [HF.out]
          exact ⟨u3, xs, ds, rfl, HROW.out, by omega, fun _ => rfl, some q, hrq⟩
        clear HREL HM HROW HXK hrq HF HQ HA hys hqb
        go_wp2
        go_ret
        exact HE.out
end Go.Proofs.Ytfemjbaadnjanaa
namespace Go.Proofs.Ytfemjbaadnjanaa.Cd
open Go.RowKit
set_option linter.unusedVariables false
set_option linter.unusedSimpArgs false

set_option maxRecDepth 10000 in
set_option maxHeartbeats 1000000 in
theorem refOpen_at (w : World) (ao : Option Addr) (n cap : Nat) (xs : List UInt8) (h : Row w ao n cap xs) (h4 : 4 ≤ n) (hr : n ≤ 140737488355328) :
    Calls Try.prog 38 #[.slice ao n cap] w fun e w' => ∃ vo vc, e = .returned (.tuple #[.slice vo (opened xs).2.length vc, .int .i64 ((opened xs).1 : Nat)]) ∧ Row w' vo (opened xs).2.length vc (opened xs).2 ∧ (vo = none ∨ vo = ao) ∧ Below w.heap.size w w' := by
  have hlen := h.1
  have hle := h.2.1
  have hm := h.2.2.1
  have HX : Hid (xs.length = n) := hlen
  have hin := h.takeCap (n - 4) (by omega)
  unfold maxLen at hm
  obtain ⟨m, hm4⟩ : ∃ m, n = m + 4 := ⟨n - 4, by omega⟩
  subst hm4
  rw [show m + 4 - 4 = m by omega] at hin
  have hmm : (m : Int) ≤ (cap : Int) := by omega
  have hb0 : Below w.heap.size w w.drew := (Below.refl _ _).drew
  have hcp : ∀ wx, Below w.heap.size w wx → (convert 33 9 (.slice ao (m + 4) cap)).run Try.prog wx = .ok (.string (str xs)) wx := fun wx hb => conv_row (h.below hb (Nat.le_refl _))
  have hseal := refSeal_any w.drew ao m cap (xs.take m) (hin.below hb0 (Nat.le_refl _)) (by omega)
  obtain ⟨qs, hqs⟩ : ∃ qs, qs = xs.take m ++ le4 (crcSum (xs.take m)) := ⟨_, rfl⟩
  rw [← hqs] at hseal
  have hxm : xs.take m ++ xs.drop m = xs := List.take_append_drop m xs
  have hbe := str_beq qs xs
  by_cases heq : le4 (crcSum (xs.take m)) = xs.drop m
  · have HO : Hid (opened xs = (0, xs.take m)) := by
      show opened xs = (0, xs.take m)
      unfold opened
      rw [if_neg (by omega), hlen, show m + 4 - 4 = m by omega, if_pos heq]
    rw [decide_eq_true (by rw [hqs, heq, hxm])] at hbe
    clear heq hxm hqs hlen
    go_enter Try.func38, Try.ntmps38
    go_wp2
    refine wp_region_noPanic ?_
    refine wp_region_held_drew (S := fun wx => (convert 33 9 (.slice ao (m + 4) cap)).run Try.prog wx = .ok (.string (str xs)) wx) (by kernel_rfl) (hcp _ hb0) (fun hHeld => ?_)
    refine take_first 0 (v := ?_) rfl (by kernel_rfl) (by kernel_rfl) (by kernel_rfl) (fun _ _ _ h => h) (Or.inl ⟨by rfl, by intro wx hSw; (try dsimp only at hSw); go_simp; try with_reducible rfl⟩) (by assumption) ?_
    (try simp only [Act.put, List.setIfInBounds_toArray, List.set_cons_zero, List.set_cons_succ])
    refine take_first 1 (v := ?_) rfl (by kernel_rfl) (by kernel_rfl) (by kernel_rfl) (fun _ _ _ h => h) (Or.inl ⟨by rfl, by intro wx hSw; (try dsimp only at hSw); go_simp; try with_reducible rfl⟩) (by assumption) ?_
    (try simp only [Act.put, List.setIfInBounds_toArray, List.set_cons_zero, List.set_cons_succ])
    refine take_first 2 (v := ?_) rfl (by kernel_rfl) (by kernel_rfl) (by kernel_rfl) (fun _ _ _ h => h) (Or.inl ⟨by rfl, by intro wx hSw; (try dsimp only at hSw); go_simp; try with_reducible rfl⟩) (by assumption) ?_
    (try simp only [Act.put, List.setIfInBounds_toArray, List.set_cons_zero, List.set_cons_succ])
    refine take_first 5 (v := ?_) rfl (by kernel_rfl) (by kernel_rfl) (by kernel_rfl) (fun _ _ _ h => h) (Or.inl ⟨by rfl, by intro wx hSw; (try dsimp only at hSw); go_simp; try with_reducible rfl⟩) (by assumption) ?_
    (try simp only [Act.put, List.setIfInBounds_toArray, List.set_cons_zero, List.set_cons_succ])
    refine take_first 6 (v := ?_) rfl (by kernel_rfl) (by kernel_rfl) (by kernel_rfl) (fun _ _ _ h => h) (Or.inl ⟨by rfl, by intro wx hSw; (try dsimp only at hSw); go_simp; try with_reducible rfl⟩) (by assumption) ?_
    (try simp only [Act.put, List.setIfInBounds_toArray, List.set_cons_zero, List.set_cons_succ])
    refine comes_up 3 rfl (by kernel_rfl) (fun K hK => ?_)
    go_simp
    refine hseal.mono ?_
    rintro e w5 ⟨v5, rfl, hown5, hb5⟩
    have hb50 : Below w.heap.size w w5 := hb0.trans hb5
    obtain ⟨ao5, cap5, hv5, hrow5, _⟩ := owns_row hown5
    rw [hv5]
    have hc5 := conv_row hrow5
    clear hown5 hrow5 hv5
    go_wp2_with fail
    refine hK.out _ _ (hcp _ hb50) (fun hHeld => ?_)
    clear hK K
    (try simp only [Act.put, List.setIfInBounds_toArray, List.set_cons_zero, List.set_cons_succ])
    refine comes_up 4 rfl (by kernel_rfl) (fun K hK => ?_)
    go_simp
    refine hK.out _ _ (hcp _ hb50) (fun hHeld => ?_)
    clear hK K
    (try simp only [Act.put, List.setIfInBounds_toArray, List.set_cons_zero, List.set_cons_succ])
    refine take_first 7 (v := ?_) rfl (by kernel_rfl) (by kernel_rfl) (by kernel_rfl) (fun _ _ _ h => h) (Or.inl ⟨by rfl, by intro wx hSw; (try dsimp only at hSw); go_simp; try with_reducible rfl⟩) (by assumption) ?_
    (try simp only [Act.put, List.setIfInBounds_toArray, List.set_cons_zero, List.set_cons_succ])
    refine wpAnyH_done (by kernel_rfl) ?_ _
    refine NoPanic.normal ?_
    go_wp2
    go_ret2
    rw [HO.out]
    have hl := hin.1
    refine ⟨ao, cap, ?_, ?_, .inr rfl, hb50⟩
    · simp only [hl]; rfl
    · simp only [hl]; exact hin.below hb50 (Nat.le_refl _)
  · have HO : Hid (opened xs = (5, [])) := by
      show opened xs = (5, [])
      unfold opened
      rw [if_neg (by omega), hlen, show m + 4 - 4 = m by omega, if_neg heq]
    rw [decide_eq_false (by
      intro hc
      rw [hqs] at hc
      refine heq ?_
      have hc2 : xs.take m ++ le4 (crcSum (xs.take m)) = xs.take m ++ xs.drop m := by rw [hxm]; exact hc
      exact List.append_cancel_left hc2)] at hbe
    clear heq hxm hqs hlen
    go_enter Try.func38, Try.ntmps38
    go_wp2
    refine wp_region_noPanic ?_
    refine wp_region_held_drew (S := fun wx => (convert 33 9 (.slice ao (m + 4) cap)).run Try.prog wx = .ok (.string (str xs)) wx) (by kernel_rfl) (hcp _ hb0) (fun hHeld => ?_)
    refine take_first 0 (v := ?_) rfl (by kernel_rfl) (by kernel_rfl) (by kernel_rfl) (fun _ _ _ h => h) (Or.inl ⟨by rfl, by intro wx hSw; (try dsimp only at hSw); go_simp; try with_reducible rfl⟩) (by assumption) ?_
    (try simp only [Act.put, List.setIfInBounds_toArray, List.set_cons_zero, List.set_cons_succ])
    refine take_first 1 (v := ?_) rfl (by kernel_rfl) (by kernel_rfl) (by kernel_rfl) (fun _ _ _ h => h) (Or.inl ⟨by rfl, by intro wx hSw; (try dsimp only at hSw); go_simp; try with_reducible rfl⟩) (by assumption) ?_
    (try simp only [Act.put, List.setIfInBounds_toArray, List.set_cons_zero, List.set_cons_succ])
    refine take_first 2 (v := ?_) rfl (by kernel_rfl) (by kernel_rfl) (by kernel_rfl) (fun _ _ _ h => h) (Or.inl ⟨by rfl, by intro wx hSw; (try dsimp only at hSw); go_simp; try with_reducible rfl⟩) (by assumption) ?_
    (try simp only [Act.put, List.setIfInBounds_toArray, List.set_cons_zero, List.set_cons_succ])
    refine take_first 5 (v := ?_) rfl (by kernel_rfl) (by kernel_rfl) (by kernel_rfl) (fun _ _ _ h => h) (Or.inl ⟨by rfl, by intro wx hSw; (try dsimp only at hSw); go_simp; try with_reducible rfl⟩) (by assumption) ?_
    (try simp only [Act.put, List.setIfInBounds_toArray, List.set_cons_zero, List.set_cons_succ])
    refine take_first 6 (v := ?_) rfl (by kernel_rfl) (by kernel_rfl) (by kernel_rfl) (fun _ _ _ h => h) (Or.inl ⟨by rfl, by intro wx hSw; (try dsimp only at hSw); go_simp; try with_reducible rfl⟩) (by assumption) ?_
    (try simp only [Act.put, List.setIfInBounds_toArray, List.set_cons_zero, List.set_cons_succ])
    refine comes_up 3 rfl (by kernel_rfl) (fun K hK => ?_)
    go_simp
    refine hseal.mono ?_
    rintro e w5 ⟨v5, rfl, hown5, hb5⟩
    have hb50 : Below w.heap.size w w5 := hb0.trans hb5
    obtain ⟨ao5, cap5, hv5, hrow5, _⟩ := owns_row hown5
    rw [hv5]
    have hc5 := conv_row hrow5
    clear hown5 hrow5 hv5
    go_wp2_with fail
    refine hK.out _ _ (hcp _ hb50) (fun hHeld => ?_)
    clear hK K
    (try simp only [Act.put, List.setIfInBounds_toArray, List.set_cons_zero, List.set_cons_succ])
    refine comes_up 4 rfl (by kernel_rfl) (fun K hK => ?_)
    go_simp
    refine hK.out _ _ (hcp _ hb50) (fun hHeld => ?_)
    clear hK K
    (try simp only [Act.put, List.setIfInBounds_toArray, List.set_cons_zero, List.set_cons_succ])
    refine take_first 7 (v := ?_) rfl (by kernel_rfl) (by kernel_rfl) (by kernel_rfl) (fun _ _ _ h => h) (Or.inl ⟨by rfl, by intro wx hSw; (try dsimp only at hSw); go_simp; try with_reducible rfl⟩) (by assumption) ?_
    (try simp only [Act.put, List.setIfInBounds_toArray, List.set_cons_zero, List.set_cons_succ])
    refine wpAnyH_done (by kernel_rfl) ?_ _
    refine NoPanic.normal ?_
    go_wp2
    go_ret2
    rw [HO.out]
    exact ⟨none, 0, rfl, ⟨rfl, Nat.le_refl _, by unfold maxLen; omega, fun _ => ⟨rfl, rfl⟩, fun a ha => (by cases ha)⟩, .inl rfl, hb50⟩

theorem refOpen_any (w : World) (ao : Option Addr) (n cap : Nat) (xs : List UInt8) (h : Row w ao n cap xs) (hr : n ≤ 140737488355328) :
    Calls Try.prog 38 #[.slice ao n cap] w fun e w' => ∃ vo vc, e = .returned (.tuple #[.slice vo (opened xs).2.length vc, .int .i64 ((opened xs).1 : Nat)]) ∧ Row w' vo (opened xs).2.length vc (opened xs).2 ∧ (vo = none ∨ vo = ao) ∧ Below w.heap.size w w' := by
  by_cases h4 : 4 ≤ n
  · exact refOpen_at w ao n cap xs h h4 hr
  · refine (refOpen_short w ao n cap (by omega)).mono ?_
    rintro e w' ⟨rfl, rfl⟩
    have : opened xs = (3, []) := by unfold opened; rw [if_pos (by have := h.1; omega)]
    rw [this]
    exact ⟨none, 0, rfl, (Rx.nil (p := fun _ => True)).row, .inl rfl, Below.refl _ _⟩
end Go.Proofs.Ytfemjbaadnjanaa.Cd
namespace Go.Proofs.Ytfemjbaadnjanaa
open Go.RowKit
set_option linter.unusedVariables false
set_option linter.unusedSimpArgs false

def zero15 : Array Value := #[.int .u8 0, .int .i64 0, .int .u64 0, .int .i64 0, .int .u16 0, .int .u64 0, .int .i64 0, .int .u64 0, .int .i64 0, .slice none 0 0, .int .u64 0, .slice none 0 0, .slice none 0 0, .int .u64 0, .int .u64 0]

/-- A frame that is being read: in the block B, behind the block R of the answer and the reader's m; its lists in blocks of Q or behind B. -/
structure Dq (w : World) (Q : Nat → Prop) (m B : Nat) (vo : Option Addr) (yn vc : Nat) (ys : List UInt8) (W : World) (F : PF) (a : Fa) (st : St) : Prop where
  bl : Below w.heap.size w W
  rz : W.heap[w.heap.size]? = some (.cells zero15 30 (0, 0))
  fb : W.heap[B]? = some (.cells (fcells F a) 30 (0, 0))
  fin : FIn (fun b => Q b ∨ B < b) W F a
  rq : ∃ o, Cd.RR W m vo yn vc o ∧ Cd.same ys o st
  row : Cd.Row W vo yn vc ys
  rm : w.heap.size < m
  mB : m < B
  lt : B < W.heap.size
  q : ∀ b, Q b → b < w.heap.size
  qa : ∀ c, vo = some c → 0 < yn → Q c.block
section
variable {w W W' : World} {Q : Nat → Prop} {m B : Nat} {vo : Option Addr} {yn vc : Nat} {ys : List UInt8} {F : PF} {a : Fa} {st st' : St}
/-- The reader has gone on. -/
theorem Dq.call {o' : Option Nat} (h : Dq w Q m B vo yn vc ys W F a st) (hr : Cd.RR W' m vo yn vc o') (hs : Cd.same ys o' st') (g : W.grownBy W' (some m)) : Dq w Q m B vo yn vc ys W' F a st' := by
  obtain ⟨o, hrr, _⟩ := h.rq
  have h1 := h.rm
  have h2 := h.mB
  have h3 := h.lt
  have h4 := g.size
  have h5 := h.bl.size
  refine ⟨?_, ?_, ?_, h.fin.keep (Kp.grown g (fun b hb => ?_)), ⟨o', hr, hs⟩, Cd.row_RR h.row hrr g, h1, h2, by omega, h.q, h.qa⟩
  · exact ⟨g.os.trans h.bl.os, g.tape.trans h.bl.tape, g.output.trans h.bl.output, by omega, fun k hk => (g.block k (by omega) (by simp; omega)).trans (h.bl.block k hk)⟩
  · exact (g.block _ (by omega) (by simp; omega)).trans h.rz
  · exact (g.block _ (by omega) (by simp; omega)).trans h.fb
  · rcases hb with hb | hb
    · intro e; have := h.q b hb; omega
    · omega
/-- A cell of the frame is set. -/
theorem Dq.store {j : Nat} {v : Value} {F' : PF} {a' : Fa} (h : Dq w Q m B vo yn vc ys W F a st) (he : fcells F' a' = (fcells F a).setIfInBounds j v) (hf : FIn (fun b => Q b ∨ B < b) W F' a') : Dq w Q m B vo yn vc ys (W.setCell ⟨B, j, none⟩ v) F' a' st := by
  obtain ⟨o, hrr, hs⟩ := h.rq
  have h1 := h.rm
  have h2 := h.mB
  have h3 := h.lt
  have h5 := h.bl.size
  have g : W.grownBy (W.setCell ⟨B, j, none⟩ v) (some B) := Cd.set_grown _
  have hsz : (W.setCell ⟨B, j, none⟩ v).heap.size = W.heap.size := by simp [World.setCell]
  refine ⟨?_, ?_, ?_, hf.keep (Kp.grown g (fun b hb => ?_)), ⟨o, ?_, hs⟩, ?_, h1, h2, by omega, h.q, h.qa⟩
  · exact ⟨h.bl.os, h.bl.tape, h.bl.output, by omega, fun k hk => (g.block k (by omega) (by simp; omega)).trans (h.bl.block k hk)⟩
  · exact (g.block _ (by omega) (by simp; omega)).trans h.rz
  · rw [heap_setCell_same W B j _ 30 _ h.fb, he]
  · rcases hb with hb | hb
    · intro e; have := h.q b hb; omega
    · omega
  · unfold Cd.RR at *
    rw [Below.heap_setCell _ _ _ _ (by show m ≠ B; omega)]
    exact hrr
  · obtain ⟨r1, r2, r3, r4, r5⟩ := h.row
    refine ⟨r1, r2, r3, r4, fun c hc i hi => ?_⟩
    have hq := h.q _ (h.qa c hc (by omega))
    refine g.cell (r5 c hc i hi) (fun e => ?_)
    have h6 : (c.add i).block = c.block := by unfold Addr.add; split <;> rfl
    rw [h6] at e
    simp at e
    omega
theorem Dq.set1 {j : Nat} {v : Value} {F' : PF} (h : Dq w Q m B vo yn vc ys W F a st) (he : fcells F' a = (fcells F a).setIfInBounds j v) (h1 : F'.st = F.st) (h2 : F'.ms = F.ms) (h3 : F'.it = F.it) : Dq w Q m B vo yn vc ys (W.setCell ⟨B, j, none⟩ v) F' a st :=
  h.store he ⟨by rw [h1]; exact h.fin.st, by rw [h2]; exact h.fin.ms, by rw [h3]; exact h.fin.it⟩
theorem Dq.bf (h : Dq w Q m B vo yn vc ys W F a st) : Bf B F a W := Bf.of (fun j v hj => by rw [cell_of_row W B j _ 30 (0, 0) h.fb]; exact hj)
theorem Dq.fz (h : Dq w Q m B vo yn vc ys W F a st) (j : Nat) : W.frozen? ⟨B, j, none⟩ = false := frozen_of_row W B j _ 30 h.fb
/-- Calls of the reader. -/
theorem Dq.int (h : Dq w Q m B vo yn vc ys W F a st) (hn : yn ≤ 1048576) (most : Int) (h1 : -9223372036854775808 ≤ most) (h2 : most ≤ 9223372036854775807) : Calls Try.prog 39 #[.pointer (some ⟨m, 0, none⟩), .int .i64 most] W fun e W' => e = .returned (.int .i64 ((Cd.rInt st most).1 : Nat)) ∧ Dq w Q m B vo yn vc ys W' F a (Cd.rInt st most).2 := by
  obtain ⟨o, hrr, hs⟩ := h.rq
  refine (Cd.refInt_step W m vo yn vc ys o st hs hrr h.row (by omega) most h1 h2).mono ?_
  rintro e W' ⟨rfl, o', hs', hr', hg'⟩
  exact ⟨rfl, h.call hr' hs' hg'⟩
theorem Dq.uint (h : Dq w Q m B vo yn vc ys W F a st) (hn : yn ≤ 1048576) : Calls Try.prog 42 #[.pointer (some ⟨m, 0, none⟩)] W fun e W' => e = .returned (.int .u64 ((Cd.rUint st).1 : Nat)) ∧ Dq w Q m B vo yn vc ys W' F a (Cd.rUint st).2 := by
  obtain ⟨o, hrr, hs⟩ := h.rq
  refine (Cd.refUint_step W m vo yn vc ys o st hs hrr h.row (by omega)).mono ?_
  rintro e W' ⟨rfl, o', hs', hr', hg'⟩
  exact ⟨rfl, h.call hr' hs' hg'⟩
theorem Dq.view (h : Dq w Q m B vo yn vc ys W F a st) (hn : yn ≤ 1048576) : Calls Try.prog 40 #[.pointer (some ⟨m, 0, none⟩)] W fun e W' => e = .returned (.agg #[.int .u64 ((decV st).1.1 : Nat), .int .i64 ((decV st).1.2 : Nat)]) ∧ Dq w Q m B vo yn vc ys W' F a (decV st).2 := by
  obtain ⟨o, hrr, hs⟩ := h.rq
  refine (refDecode_step W m vo yn vc ys o st hs hrr h.row (by omega)).mono ?_
  rintro e W' ⟨rfl, o', hs', hr', hg'⟩
  exact ⟨rfl, h.call hr' hs' hg'⟩
theorem Dq.rq' (h : Dq w Q m B vo yn vc ys W F a st) : ∃ o, Rq Q W W m vo yn vc ys o st := by
  obtain ⟨o, hrr, hs⟩ := h.rq
  exact ⟨o, hrr, h.row, hs, Cd.grown_refl _ _⟩
theorem Dq.qlt (h : Dq w Q m B vo yn vc ys W F a st) : ∀ b, Q b → b < W.heap.size ∧ b ≠ m := fun b hb => by
  have := h.q b hb
  have := h.bl.size
  have := h.rm
  exact ⟨by omega, by omega⟩
theorem Dq.states (h : Dq w Q m B vo yn vc ys W F a st) (hn : yn ≤ 1048576) : Calls Try.prog 41 #[.pointer (some ⟨m, 0, none⟩)] W fun e W' => ∃ lo lc ds, e = .returned (.slice lo ds.length lc) ∧ SsX (fun b => Q b ∨ B < b) W' lo ds.length ds ∧ ((rMany (rState 1073741824) st).2 ≠ none → ds = (rMany (rState 1073741824) st).1) ∧ Dq w Q m B vo yn vc ys W' F a (rMany (rState 1073741824) st).2 := by
  obtain ⟨o, hq⟩ := h.rq'
  have hlt := h.lt
  refine (unstates_any Q W m vo yn vc ys o st hq hn h.qlt h.qa).mono ?_
  rintro e W' ⟨v, xs, ds, rfl, hrow, hl, hd, o', hq'⟩
  obtain ⟨lo, lc, rfl, hss⟩ := hrow.sts hl
  exact ⟨lo, lc, ds, rfl, hss.imp (fun b _ hb => hb.imp id (fun hb => by omega)), hd, h.call hq'.rr hq'.same hq'.gr⟩
theorem Dq.items (h : Dq w Q m B vo yn vc ys W F a st) (hn : yn ≤ 1048576) : Calls Try.prog 44 #[.pointer (some ⟨m, 0, none⟩)] W fun e W' => ∃ lo lc ds, e = .returned (.slice lo ds.length lc) ∧ ItsX (fun b => Q b ∨ B < b) W' lo ds.length ds ∧ ((rMany rItem st).2 ≠ none → ds = (rMany rItem st).1) ∧ Dq w Q m B vo yn vc ys W' F a (rMany rItem st).2 := by
  obtain ⟨o, hq⟩ := h.rq'
  have hlt := h.lt
  refine (unitems_any Q W m vo yn vc ys o st hq hn h.qlt h.qa).mono ?_
  rintro e W' ⟨v, xs, ds, rfl, hrow, hl, hd, o', hq'⟩
  obtain ⟨lo, lc, rfl, hss⟩ := hrow.its hl
  exact ⟨lo, lc, ds, rfl, hss.imp (fun b _ hb => hb.imp id (fun hb => by omega)), hd, h.call hq'.rr hq'.same hq'.gr⟩
end
end Go.Proofs.Ytfemjbaadnjanaa
namespace Go.Proofs.Ytfemjbaadnjanaa
open Go.RowKit
set_option linter.unusedVariables false
set_option linter.unusedSimpArgs false

/-- What the document's Decode answers. -/
def RefAns (w' : World) (b : List UInt8) (e : Ending) : Prop :=
  ∃ a, e = .returned (.tuple #[fval (decF 1073741824 b).2 a, .int .i64 ((decF 1073741824 b).1 : Nat)]) ∧ FIn (fun _ => True) w' (decF 1073741824 b).2 a
theorem refAns_zero {w' : World} {b : List UInt8} {n : Nat} (h : decF 1073741824 b = (n, zeroF)) : RefAns w' b (.returned (.tuple #[.agg #[.int .u8 0, .int .i64 0, .int .u64 0, .int .i64 0, .int .u16 0, .int .u64 0, .int .i64 0, .int .u64 0, .int .i64 0, .slice none 0 0, .int .u64 0, .slice none 0 0, .slice none 0 0, .int .u64 0, .int .u64 0], .int .i64 (n : Nat)])) := by
  unfold RefAns
  rw [h]
  exact ⟨Fa.none, rfl, FIn.zero _ _⟩
/-- The blocks of what is read. -/
def Qv (vo : Option Addr) (yn : Nat) (b : Nat) : Prop := 0 < yn ∧ ∃ c, vo = some c ∧ c.block = b
structure St1 (w : World) (vo : Option Addr) (yn vc : Nat) (ys : List UInt8) (W : World) : Prop where
  row : Cd.Row W vo yn vc ys
  bl : Below w.heap.size w W
  rz : W.heap[w.heap.size]? = some (.cells zero15 30 (0, 0))
  lt : w.heap.size < W.heap.size
  q : ∀ b, Qv vo yn b → b < w.heap.size
theorem open18 (w : World) (ao : Option Addr) (n cap : Nat) (xs : List UInt8) (h : Cd.Row w ao n cap xs) (hn : n ≤ 1048576) :
    Calls Try.prog 38 #[.slice ao n cap] (w.alloc (.cells #[.int .u8 0, .int .i64 0, .int .u64 0, .int .i64 0, .int .u16 0, .int .u64 0, .int .i64 0, .int .u64 0, .int .i64 0, .slice none 0 0, .int .u64 0, .slice none 0 0, .slice none 0 0, .int .u64 0, .int .u64 0] 30)) fun e w' => ∃ vo vc, e = .returned (.tuple #[.slice vo (Cd.opened xs).2.length vc, .int .i64 ((Cd.opened xs).1 : Nat)]) ∧ St1 w vo (Cd.opened xs).2.length vc (Cd.opened xs).2 w' := by
  have hb0 : Below w.heap.size w (w.alloc (.cells zero15 30)) := bl1 _ _
  refine (Cd.refOpen_any _ ao n cap xs (h.below hb0 (Nat.le_refl _)) (by omega)).mono ?_
  rintro e w' ⟨vo, vc, rfl, hrow, hvo, hb⟩
  have hsz := hb.size
  simp at hsz
  refine ⟨vo, vc, rfl, hrow, bl_step hb0 hb, (hb.block _ (by simp)).trans (heap_alloc_new _ _), by omega, ?_⟩
  rintro b ⟨h0, c, hc, rfl⟩
  rcases hvo with e | e
  · rw [e] at hc; cases hc
  · rw [e] at hc
    obtain ⟨b, off, hab, hcell⟩ := h.open (by
      have := opened_len xs
      have := h.1
      omega)
    rw [hab] at hc
    cases hc
    have := hcell 0 (by
      have := opened_len xs
      have := h.1
      omega)
    exact World.block_lt_of_cell? w _ this
theorem St1.int {w : World} {vo : Option Addr} {yn vc : Nat} {ys : List UInt8} {W : World} (h : St1 w vo yn vc ys W) (hy : yn ≤ 1048576) (K : Nat) (hK : (Cd.rInt (some ys) 7).1 = K) :
    Calls Try.prog 39 #[.pointer (some ⟨W.heap.size, 0, none⟩), .int .i64 7] (W.alloc (.cells #[.slice vo yn vc, .int .i64 0] 76)) fun e w2 => e = .returned (.int .i64 (K : Nat)) ∧ W.heap.size < w2.heap.size ∧
      Dq w (Qv vo yn) W.heap.size w2.heap.size vo yn vc ys (w2.alloc (.cells #[.int .u8 (K : Nat), .int .i64 0, .int .u64 0, .int .i64 0, .int .u16 0, .int .u64 0, .int .i64 0, .int .u64 0, .int .i64 0, .slice none 0 0, .int .u64 0, .slice none 0 0, .slice none 0 0, .int .u64 0, .int .u64 0] 30)) { zeroF with kind := K } Fa.none (Cd.rInt (some ys) 7).2 := by
  have hu := bl1 W (.cells #[.slice vo yn vc, .int .i64 0] 76)
  have hrr : Cd.RR (W.alloc (.cells #[.slice vo yn vc, .int .i64 0] 76)) W.heap.size vo yn vc (some 0) := heap_alloc_new _ _
  have hrow := h.row.below hu (Nat.le_refl _)
  refine (Cd.refInt_step _ W.heap.size vo yn vc ys (some 0) (some ys) ⟨by omega, rfl⟩ hrr hrow (by omega) 7 (by omega) (by omega)).mono ?_
  rintro e w2 ⟨rfl, o', hs', hr', hg'⟩
  have hsz := hg'.size
  simp at hsz
  have hbl := h.bl.size
  have hlt := h.lt
  have hu2 := bl1 w2 (.cells (fcells { zeroF with kind := K } Fa.none) 30)
  have hb12 : Below w.heap.size w w2 := ⟨hg'.os.trans h.bl.os, hg'.tape.trans h.bl.tape, hg'.output.trans h.bl.output, by omega, fun k hk => ((hg'.block k (by simp; omega) (by simp; omega)).trans (Below.heap_alloc _ _ k (by omega))).trans (h.bl.block k hk)⟩
  have hrow2 := Cd.row_RR hrow hrr hg'
  refine ⟨by rw [hK], by omega, ?_⟩
  refine ⟨bl_step hb12 hu2, ?_, heap_alloc_new _ _, ⟨SsX.nil _ _, MsX.nil _ _, ItsX.nil _ _⟩, ⟨o', hr'.below hu2, hs'⟩, hrow2.below hu2 (Nat.le_refl _), hlt, by omega, by simp, h.q, fun c hc h0 => ⟨h0, c, hc, rfl⟩⟩
  rw [Below.heap_alloc _ _ _ (by omega), hg'.block _ (by simp; omega) (by simp; omega), Below.heap_alloc _ _ _ (by omega)]
  exact h.rz
/-- The last test's outcome, at the end of the bytes. -/
theorem end18 {w : World} {Q : Nat → Prop} {m B : Nat} {vo : Option Addr} {yn vc : Nat} {ys : List UInt8} {W : World} {F : PF} {a : Fa} {st : St} (h : Dq w Q m B vo yn vc ys W F a st) :
    ∃ A : Int, W.cell? ⟨m, 1, none⟩ = some (.int .i64 A) ∧ (A = (yn : Nat) → st = some []) ∧ (A ≠ (yn : Nat) → st ≠ some []) := by
  obtain ⟨o, hrr, hs⟩ := h.rq
  have hl := h.row.1
  refine ⟨Cd.atOf o, hrr.cells.2.1, fun e => ?_, fun hne e => ?_⟩
  · cases o with
    | none => simp [Cd.atOf] at e
    | some k =>
      cases st with
      | none => exact absurd hs (by simp [Cd.same])
      | some zs =>
        obtain ⟨h1, h2⟩ := hs
        simp only [Cd.atOf] at e
        rw [h2, List.drop_eq_nil_of_le (by omega)]
  · subst e
    obtain ⟨k, rfl, hk, hz⟩ := Cd.same_left hs
    simp only [Cd.atOf] at hne
    have := congrArg List.length hz
    rw [List.length_drop, List.length_nil] at this
    omega
theorem Dq.cell1 {w : World} {Q : Nat → Prop} {m B : Nat} {vo : Option Addr} {yn vc : Nat} {ys : List UInt8} {W V : World} {F : PF} {a : Fa} {st : St} (h : Dq w Q m B vo yn vc ys W F a st) {A : Int} (hc : W.cell? ⟨m, 1, none⟩ = some (.int .i64 A)) (u : Below W.heap.size W V) : V.cell? ⟨m, 1, none⟩ = some (.int .i64 A) := by
  have := World.block_lt_of_cell? _ _ hc
  rw [World.cell?_of_block (w := W) (u.block _ this)]
  exact hc
end Go.Proofs.Ytfemjbaadnjanaa
