/-
  The wheel's calls New, Arm and Tick, against the document's list of timers.
-/
import Derived.Test.YtofhkfbibdkjgaaWObj
import Derived.Deep.RegionHeld3
namespace Go.Proofs.Ytofhkfbibdkjgaa
open Go.RowKit
set_option linter.unusedVariables false

theorem take_first {P : Program} {md : Region.Mode} {l : List Oper} {Q : Exit → Act → World → Prop} {S : World → Prop} (i : Nat) {oi : Oper} {v : Value} {fuel : Nat} {listed : Array Bool} {a : Act} {w : World} (hi : l[i]? = some oi)
    (hs : Region.noSelect l.toArray = true) (hf : Region.free md l.toArray listed i = true) (hr : (Region.ready md l.toArray listed).contains i = true)
    (hQ : ∀ c a w, Q (.panic c) (a.put oi.dst v) w → Q (.panic c) a w) (hy : YieldsIf P l.toArray S oi v a) (hS : S w)
    (h : wpAnyH P md l.toArray Q S fuel (listed.setIfInBounds i true) (a.put oi.dst v) w) : wpAnyH P md l.toArray Q S (fuel + 1) listed a w :=
  wpAnyH_take (by simpa using hi) hs hf hr hQ hy hS h
theorem comes_up {P : Program} {md : Region.Mode} {l : List Oper} {Q : Exit → Act → World → Prop} {S : World → Prop} (i : Nat) {o : Oper} {fuel : Nat} {listed : Array Bool} {a : Act} {w : World} (hi : l[i]? = some o) (hr : Region.ready md l.toArray listed = [i])
    (h : ∀ K' : Act → World → Prop, Shut (∀ a w, S w → (S w → wpAnyH P md l.toArray Q S fuel (listed.setIfInBounds i true) a w) → K' a w) → if Region.wanted o (yielded l.toArray a.tmps) = true then Oper.wp P o a w K' Q else K' (a.put o.dst undef) w) :
    wpAnyH P md l.toArray Q S (fuel + 1) listed a w :=
  wpAnyH_ready (rs := [i]) hr (by simp) (AllReadyH.cons (by simpa using hi) h AllReadyH.nil)

theorem arm_nil (w : World) (id : Int) (inn : Int) : Calls Try.prog 17 #[.pointer none, .int .i64 id, .int .u64 inn] w fun e w' => e = .returned (.int .i64 6) ∧ w = w' := by
  go_enter Try.func17, Try.ntmps17
  go_wp2
  go_ret
  exact ⟨rfl, rfl⟩

set_option maxRecDepth 10000 in
set_option maxHeartbeats 1000000 in
theorem arm_err (w : World) (p m : Nat) (V : Nat → Value) (now arms : Nat) (A : List (Int × Nat)) (h : Wh w p m V now arms A) (id : Int) (inn : Nat) (hin : inn < 18446744073709551616) (hbad : inn = 0 ∨ 1152921504606846976 < now + inn) :
    Calls Try.prog 17 #[.pointer (some ⟨p, 0, none⟩), .int .i64 id, .int .u64 (inn : Nat)] w fun e w' => e = .returned (.int .i64 1) ∧ w = w' := by
  obtain ⟨n, T, S, L, h1, h2, h3⟩ := h
  have hc0 := h1.c0
  have hnow := h2.now
  clear h1 h2 h3
  rcases hbad with rfl | hbad
  · go_enter Try.func17, Try.ntmps17
    go_wp2
    go_ret
    exact ⟨rfl, rfl⟩
  · by_cases h0 : inn = 0
    · subst h0; omega
    · have hgt : (1152921504606846976 : Int) - now < inn := by omega
      go_enter Try.func17, Try.ntmps17
      go_wp2
      go_ret
      exact ⟨rfl, rfl⟩

set_option maxRecDepth 20000 in
set_option maxHeartbeats 2000000 in
theorem arm_any (w : World) (p m : Nat) (V : Nat → Value) (now arms : Nat) (A : List (Int × Nat)) (h : Wh w p m V now arms A) (harms : arms < 4294967295) (id : Int) (hid : In id) (inn : Nat) (hin : 0 < inn) (hle : now + inn ≤ 1152921504606846976) :
    Calls Try.prog 17 #[.pointer (some ⟨p, 0, none⟩), .int .i64 id, .int .u64 (inn : Nat)] w fun e w' => e = .returned (.int .i64 0) ∧ ∃ V', Wh w' p m V' now (arms + 1) (A.filter (fun x => decide (x.1 ≠ id)) ++ [(id, now + inn)]) ∧ Goes p m V w V' w' := by
  obtain ⟨n, T, S, L, h1, h2, h3⟩ := h
  have hc0 := h1.c0
  have hc2 := h1.c2
  have hlook := h1.map.look_ok hid
  have hpl := h1.plt
  have hnow := h2.now
  have h0 : ¬ (inn = 0) := by omega
  have hng : ¬ ((1152921504606846976 : Int) - now < inn) := by omega
  -- the state ahead of the put, whatever was done to the old timer
  have key : ∀ (W : World) (V2 : Nat → Value) (n2 : Nat) (T2 : Int → Option Tm) (S2 : Nat → List Int) (L2 : List Int), Rep W p m V2 now arms n2 T2 S2 → Ok now arms n2 T2 S2 L2 → T2 id = none → L2.map (fun i => (i, dueOf T2 i)) = A.filter (fun x => decide (x.1 ≠ id)) → Goes p m V w V2 W →
      Hid (Calls Try.prog 25 #[.pointer (some ⟨p, 0, none⟩), .int .i64 id, .agg #[.int .u64 ((now : Int) + inn), .int .u64 (arms : Nat), .int .i64 0]] W fun e w' => e = .returned (.tuple #[]) ∧ ∃ V', (w'.cell? ⟨p, 0, none⟩ = some (.int .u64 (now : Nat)) ∧ w'.cell? ⟨p, 1, none⟩ = some (.int .u64 (arms : Nat))) ∧ w'.frozen? ⟨p, 1, none⟩ = false ∧
        Hid (Wh (w'.setCell ⟨p, 1, none⟩ (.int .u64 ((arms : Int) + 1))) p m V' now (arms + 1) (A.filter (fun x => decide (x.1 ≠ id)) ++ [(id, now + inn)]) ∧ Goes p m V w V' (w'.setCell ⟨p, 1, none⟩ (.int .u64 ((arms : Int) + 1))))) := by
    intro W V2 n2 T2 S2 L2 hr ho hT hA hg
    have hp := put_any W p m V2 now arms n2 T2 S2 hr (by omega) id hid ⟨now + inn, arms, 0⟩ (by show now + inn < _; omega) (by have := ho.le; omega) (fun k hk => by have := ho.slen hk; have := ho.le; omega)
    simp only [Tm.val] at hp
    unfold Hid
    have ec : ((now + inn : Nat) : Int) = (now : Int) + inn := by omega
    rw [ec] at hp
    refine hp.mono ?_
    rintro e w' ⟨he, V', hr', hg'⟩
    refine ⟨he, V', ⟨hr'.c0, hr'.c1⟩, hr'.fr 1, ?_, ?_⟩
    · have hr2 := hr'.setArms (arms + 1)
      refine ⟨_, _, _, L2 ++ [id], ?_, ho.put hid hT (show now < now + inn by omega) hle, ?_⟩
      · simpa using hr2
      · rw [List.map_append, ← hA]
        congr 1
        · apply List.map_congr_left
          intro i hi
          have : i ≠ id := by rintro rfl; have := (ho.mem i).1 hi; rw [hT] at this; cases this
          unfold dueOf
          rw [upd_other _ _ _ _ this]
        · simp [dueOf, upd_same]
    · exact (hg.trans hg').trans (Goes.setWheel _ _ _ _ _ _)
  cases e : T id with
  | none =>
    rw [e] at hlook
    simp only [Option.getD, Option.isSome, Tm.val] at hlook
    have hput := fun (o : Obj) => key (w.alloc o).drew V n T S L ((h1.alloc o).drewN 1) h2 e (by rw [h3, without_none _ _ _ (by rw [h2.mem, e]; simp)]) ((Goes.alloc _ _ _ _ _).trans ⟨(Turned.refl _ _).drewN 1, fun _ hb => .inl hb⟩)
    have hS0 := fun (o : Obj) => (show (w.alloc o).cell? ⟨p, 0, none⟩ = some (.int .u64 (now : Nat)) ∧ (w.alloc o).cell? ⟨p, 1, none⟩ = some (.int .u64 (arms : Nat)) from ⟨(h1.alloc o).c0, (h1.alloc o).c1⟩)
    have hS1 := fun (o : Obj) => (show (w.alloc o).drew.cell? ⟨p, 0, none⟩ = some (.int .u64 (now : Nat)) ∧ (w.alloc o).drew.cell? ⟨p, 1, none⟩ = some (.int .u64 (arms : Nat)) from ⟨(h1.alloc o).c0, (h1.alloc o).c1⟩)
    clear h1 h2 h3 e key
    go_enter Try.func17, Try.ntmps17
    go_wp2
    --REGION
    refine wp_region_noPanic ?_
    refine wp_region_held_drew (S := fun wx => wx.cell? ⟨p, 0, none⟩ = some (.int .u64 (now : Nat)) ∧ wx.cell? ⟨p, 1, none⟩ = some (.int .u64 (arms : Nat))) (by kernel_rfl) (hS1 _) (fun hHeld => ?_)
    refine take_first 0 (v := ?_) rfl (by kernel_rfl) (by kernel_rfl) (by kernel_rfl) (fun _ _ _ h => h) (Or.inl ⟨by rfl, by intro wx hSw; obtain ⟨hSw1, hSw2⟩ := hSw; go_simp; try with_reducible rfl⟩) (by assumption) ?_
    (try simp only [Act.put, List.setIfInBounds_toArray, List.set_cons_zero, List.set_cons_succ])
    refine take_first 1 (v := ?_) rfl (by kernel_rfl) (by kernel_rfl) (by kernel_rfl) (fun _ _ _ h => h) (Or.inl ⟨by rfl, by intro wx hSw; obtain ⟨hSw1, hSw2⟩ := hSw; go_simp; try with_reducible rfl⟩) (by assumption) ?_
    (try simp only [Act.put, List.setIfInBounds_toArray, List.set_cons_zero, List.set_cons_succ])
    refine take_first 2 (v := ?_) rfl (by kernel_rfl) (by kernel_rfl) (by kernel_rfl) (fun _ _ _ h => h) (Or.inl ⟨by rfl, by intro wx hSw; obtain ⟨hSw1, hSw2⟩ := hSw; go_simp; try with_reducible rfl⟩) (by assumption) ?_
    (try simp only [Act.put, List.setIfInBounds_toArray, List.set_cons_zero, List.set_cons_succ])
    refine take_first 3 (v := ?_) rfl (by kernel_rfl) (by kernel_rfl) (by kernel_rfl) (fun _ _ _ h => h) (Or.inl ⟨by rfl, by intro wx hSw; obtain ⟨hSw1, hSw2⟩ := hSw; go_simp; try with_reducible rfl⟩) (by assumption) ?_
    (try simp only [Act.put, List.setIfInBounds_toArray, List.set_cons_zero, List.set_cons_succ])
    refine take_first 4 (v := ?_) rfl (by kernel_rfl) (by kernel_rfl) (by kernel_rfl) (fun _ _ _ h => h) (Or.inl ⟨by rfl, by intro wx hSw; obtain ⟨hSw1, hSw2⟩ := hSw; go_simp; try with_reducible rfl⟩) (by assumption) ?_
    (try simp only [Act.put, List.setIfInBounds_toArray, List.set_cons_zero, List.set_cons_succ])
    refine take_first 5 (v := ?_) rfl (by kernel_rfl) (by kernel_rfl) (by kernel_rfl) (fun _ _ _ h => h) (Or.inl ⟨by rfl, by intro wx hSw; obtain ⟨hSw1, hSw2⟩ := hSw; go_simp; try with_reducible rfl⟩) (by assumption) ?_
    (try simp only [Act.put, List.setIfInBounds_toArray, List.set_cons_zero, List.set_cons_succ])
    refine take_first 6 (v := ?_) rfl (by kernel_rfl) (by kernel_rfl) (by kernel_rfl) (fun _ _ _ h => h) (Or.inl ⟨by rfl, by intro wx hSw; obtain ⟨hSw1, hSw2⟩ := hSw; go_simp; try with_reducible rfl⟩) (by assumption) ?_
    (try simp only [Act.put, List.setIfInBounds_toArray, List.set_cons_zero, List.set_cons_succ])
    refine take_first 7 (v := .int .u64 ((now : Int) + inn)) rfl (by kernel_rfl) (by kernel_rfl) (by kernel_rfl) (fun _ _ _ h => h) (Or.inl ⟨by rfl, by intro wx hSw; obtain ⟨hSw1, hSw2⟩ := hSw; go_simp; exact IntWalk.u64_in _ (by omega)⟩) (by assumption) ?_
    (try simp only [Act.put, List.setIfInBounds_toArray, List.set_cons_zero, List.set_cons_succ])
    refine take_first 8 (v := ?_) rfl (by kernel_rfl) (by kernel_rfl) (by kernel_rfl) (fun _ _ _ h => h) (Or.inl ⟨by rfl, by intro wx hSw; obtain ⟨hSw1, hSw2⟩ := hSw; go_simp; try with_reducible rfl⟩) (by assumption) ?_
    (try simp only [Act.put, List.setIfInBounds_toArray, List.set_cons_zero, List.set_cons_succ])
    refine take_first 9 (v := ?_) rfl (by kernel_rfl) (by kernel_rfl) (by kernel_rfl) (fun _ _ _ h => h) (Or.inl ⟨by rfl, by intro wx hSw; obtain ⟨hSw1, hSw2⟩ := hSw; go_simp; try with_reducible rfl⟩) (by assumption) ?_
    (try simp only [Act.put, List.setIfInBounds_toArray, List.set_cons_zero, List.set_cons_succ])
    refine take_first 10 (v := ?_) rfl (by kernel_rfl) (by kernel_rfl) (by kernel_rfl) (fun _ _ _ h => h) (Or.inl ⟨by rfl, by intro wx hSw; obtain ⟨hSw1, hSw2⟩ := hSw; go_simp; try with_reducible rfl⟩) (by assumption) ?_
    (try simp only [Act.put, List.setIfInBounds_toArray, List.set_cons_zero, List.set_cons_succ])
    refine take_first 11 (v := ?_) rfl (by kernel_rfl) (by kernel_rfl) (by kernel_rfl) (fun _ _ _ h => h) (Or.inl ⟨by rfl, by intro wx hSw; obtain ⟨hSw1, hSw2⟩ := hSw; go_simp; try with_reducible rfl⟩) (by assumption) ?_
    (try simp only [Act.put, List.setIfInBounds_toArray, List.set_cons_zero, List.set_cons_succ])
    refine take_first 12 (v := .agg #[.int .u64 ((now : Int) + inn), .int .u64 (arms : Nat), .int .i64 0]) rfl (by kernel_rfl) (by kernel_rfl) (by kernel_rfl) (fun _ _ _ h => h) (Or.inl ⟨by rfl, by intro wx hSw; obtain ⟨hSw1, hSw2⟩ := hSw; kernel_rfl⟩) (by assumption) ?_
    (try simp only [Act.put, List.setIfInBounds_toArray, List.set_cons_zero, List.set_cons_succ])
    refine comes_up 13 rfl (by kernel_rfl) (fun K hK => ?_)
    go_simp
    refine (hput _).out.mono ?_
    rintro e w' ⟨rfl, V', hd1, hd2, HH⟩
    go_wp2_with fail
    refine hK.out _ _ hd1 (fun hHeld => ?_)
    clear hK K
    (try simp only [Act.put, List.setIfInBounds_toArray, List.set_cons_zero, List.set_cons_succ])
    refine wpAnyH_done (by kernel_rfl) ?_ _
    refine NoPanic.normal ?_
    obtain ⟨hd0, hd1⟩ := hd1
    go_wp2
    go_ret
    exact ⟨rfl, _, HH.out⟩
  | some t =>
    obtain ⟨last, mt, r1, r2, r3, r4, r5, r6⟩ := h2.lose e
    have hrm := fun (o : Obj) => remove_any (w.alloc o) p m V now arms n T S (h1.alloc o) (by omega) id hid t (by have := (h2.bound id t e).2.2.1; omega) r1 (by have := h2.le; omega) (fun k hk => by have := h2.slen hk; have := h2.le; omega) last r2 r4 mt (by rw [r3]; rfl)
    have hrest : Hid (∀ (o : Obj) V2 W, Rep W p m V2 now arms (cntDown (upd T last (some ⟨mt.due, mt.armed, t.place⟩)) id (cntUp T last n)) (upd (upd T last (some ⟨mt.due, mt.armed, t.place⟩)) id none) (put S (slotOf now t.due) (lose (S (slotOf now t.due)) t.place)) ∧ Goes p m V (w.alloc o) V2 W → _) := fun o V2 W hh =>
      And.intro hh.1.c0 (And.intro hh.1.c1 (key W.drew V2 _ _ _ _ (hh.1.drewN 1) r5 (upd_same _ _ _) (by rw [h3]; exact without_map _ _ _ _ r6) (((Goes.alloc _ _ _ _ _).trans hh.2).trans ⟨(Turned.refl _ _).drewN 1, fun _ hb => .inl hb⟩)))
    rw [e] at hlook
    have hc0' := fun (o : Obj) => (h1.alloc o).c0
    obtain ⟨d, a, pl⟩ := t
    simp only [Option.getD, Option.isSome, Tm.val] at hlook hrm
    clear h1 h2 h3 e r1 r2 r3 r4 r5 r6 key
    go_enter Try.func17, Try.ntmps17
    go_wp2_with (first | (go_at_call 24; refine (hrm _).mono ?_; rintro e w2 ⟨rfl, V2, hh⟩))
    obtain ⟨hq0, hq1, hput⟩ := hrest.out _ _ _ hh
    clear hh hrest hrm
    --REGION
    refine wp_region_noPanic ?_
    refine wp_region_held_drew (S := fun wx => wx.cell? ⟨p, 0, none⟩ = some (.int .u64 (now : Nat)) ∧ wx.cell? ⟨p, 1, none⟩ = some (.int .u64 (arms : Nat))) (by kernel_rfl) (show _ ∧ _ from ⟨hq0, hq1⟩) (fun hHeld => ?_)
    refine take_first 0 (v := ?_) rfl (by kernel_rfl) (by kernel_rfl) (by kernel_rfl) (fun _ _ _ h => h) (Or.inl ⟨by rfl, by intro wx hSw; obtain ⟨hSw1, hSw2⟩ := hSw; go_simp; try with_reducible rfl⟩) (by assumption) ?_
    (try simp only [Act.put, List.setIfInBounds_toArray, List.set_cons_zero, List.set_cons_succ])
    refine take_first 1 (v := ?_) rfl (by kernel_rfl) (by kernel_rfl) (by kernel_rfl) (fun _ _ _ h => h) (Or.inl ⟨by rfl, by intro wx hSw; obtain ⟨hSw1, hSw2⟩ := hSw; go_simp; try with_reducible rfl⟩) (by assumption) ?_
    (try simp only [Act.put, List.setIfInBounds_toArray, List.set_cons_zero, List.set_cons_succ])
    refine take_first 2 (v := ?_) rfl (by kernel_rfl) (by kernel_rfl) (by kernel_rfl) (fun _ _ _ h => h) (Or.inl ⟨by rfl, by intro wx hSw; obtain ⟨hSw1, hSw2⟩ := hSw; go_simp; try with_reducible rfl⟩) (by assumption) ?_
    (try simp only [Act.put, List.setIfInBounds_toArray, List.set_cons_zero, List.set_cons_succ])
    refine take_first 3 (v := ?_) rfl (by kernel_rfl) (by kernel_rfl) (by kernel_rfl) (fun _ _ _ h => h) (Or.inl ⟨by rfl, by intro wx hSw; obtain ⟨hSw1, hSw2⟩ := hSw; go_simp; try with_reducible rfl⟩) (by assumption) ?_
    (try simp only [Act.put, List.setIfInBounds_toArray, List.set_cons_zero, List.set_cons_succ])
    refine take_first 4 (v := ?_) rfl (by kernel_rfl) (by kernel_rfl) (by kernel_rfl) (fun _ _ _ h => h) (Or.inl ⟨by rfl, by intro wx hSw; obtain ⟨hSw1, hSw2⟩ := hSw; go_simp; try with_reducible rfl⟩) (by assumption) ?_
    (try simp only [Act.put, List.setIfInBounds_toArray, List.set_cons_zero, List.set_cons_succ])
    refine take_first 5 (v := ?_) rfl (by kernel_rfl) (by kernel_rfl) (by kernel_rfl) (fun _ _ _ h => h) (Or.inl ⟨by rfl, by intro wx hSw; obtain ⟨hSw1, hSw2⟩ := hSw; go_simp; try with_reducible rfl⟩) (by assumption) ?_
    (try simp only [Act.put, List.setIfInBounds_toArray, List.set_cons_zero, List.set_cons_succ])
    refine take_first 6 (v := ?_) rfl (by kernel_rfl) (by kernel_rfl) (by kernel_rfl) (fun _ _ _ h => h) (Or.inl ⟨by rfl, by intro wx hSw; obtain ⟨hSw1, hSw2⟩ := hSw; go_simp; try with_reducible rfl⟩) (by assumption) ?_
    (try simp only [Act.put, List.setIfInBounds_toArray, List.set_cons_zero, List.set_cons_succ])
    refine take_first 7 (v := .int .u64 ((now : Int) + inn)) rfl (by kernel_rfl) (by kernel_rfl) (by kernel_rfl) (fun _ _ _ h => h) (Or.inl ⟨by rfl, by intro wx hSw; obtain ⟨hSw1, hSw2⟩ := hSw; go_simp; exact IntWalk.u64_in _ (by omega)⟩) (by assumption) ?_
    (try simp only [Act.put, List.setIfInBounds_toArray, List.set_cons_zero, List.set_cons_succ])
    refine take_first 8 (v := ?_) rfl (by kernel_rfl) (by kernel_rfl) (by kernel_rfl) (fun _ _ _ h => h) (Or.inl ⟨by rfl, by intro wx hSw; obtain ⟨hSw1, hSw2⟩ := hSw; go_simp; try with_reducible rfl⟩) (by assumption) ?_
    (try simp only [Act.put, List.setIfInBounds_toArray, List.set_cons_zero, List.set_cons_succ])
    refine take_first 9 (v := ?_) rfl (by kernel_rfl) (by kernel_rfl) (by kernel_rfl) (fun _ _ _ h => h) (Or.inl ⟨by rfl, by intro wx hSw; obtain ⟨hSw1, hSw2⟩ := hSw; go_simp; try with_reducible rfl⟩) (by assumption) ?_
    (try simp only [Act.put, List.setIfInBounds_toArray, List.set_cons_zero, List.set_cons_succ])
    refine take_first 10 (v := ?_) rfl (by kernel_rfl) (by kernel_rfl) (by kernel_rfl) (fun _ _ _ h => h) (Or.inl ⟨by rfl, by intro wx hSw; obtain ⟨hSw1, hSw2⟩ := hSw; go_simp; try with_reducible rfl⟩) (by assumption) ?_
    (try simp only [Act.put, List.setIfInBounds_toArray, List.set_cons_zero, List.set_cons_succ])
    refine take_first 11 (v := ?_) rfl (by kernel_rfl) (by kernel_rfl) (by kernel_rfl) (fun _ _ _ h => h) (Or.inl ⟨by rfl, by intro wx hSw; obtain ⟨hSw1, hSw2⟩ := hSw; go_simp; try with_reducible rfl⟩) (by assumption) ?_
    (try simp only [Act.put, List.setIfInBounds_toArray, List.set_cons_zero, List.set_cons_succ])
    refine take_first 12 (v := .agg #[.int .u64 ((now : Int) + inn), .int .u64 (arms : Nat), .int .i64 0]) rfl (by kernel_rfl) (by kernel_rfl) (by kernel_rfl) (fun _ _ _ h => h) (Or.inl ⟨by rfl, by intro wx hSw; obtain ⟨hSw1, hSw2⟩ := hSw; kernel_rfl⟩) (by assumption) ?_
    (try simp only [Act.put, List.setIfInBounds_toArray, List.set_cons_zero, List.set_cons_succ])
    refine comes_up 13 rfl (by kernel_rfl) (fun K hK => ?_)
    go_simp
    refine (hput).out.mono ?_
    rintro e w' ⟨rfl, V', hd1, hd2, HH⟩
    go_wp2_with fail
    refine hK.out _ _ hd1 (fun hHeld => ?_)
    clear hK K
    (try simp only [Act.put, List.setIfInBounds_toArray, List.set_cons_zero, List.set_cons_succ])
    refine wpAnyH_done (by kernel_rfl) ?_ _
    refine NoPanic.normal ?_
    obtain ⟨hd0, hd1⟩ := hd1
    go_wp2
    go_ret
    exact ⟨rfl, _, HH.out⟩


end Go.Proofs.Ytofhkfbibdkjgaa
