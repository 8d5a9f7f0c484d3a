/-
  Proved: for every tick now and every script, WheelPlays(now, script) returns true: any timers, armed, armed anew and cancelled, near and far, from any tick on: when each is due, and in which order, as the document's list says; the document's example holds. No condition.
-/
import Derived.Test.YtplcmaiphbjfcaaRows
import Derived.Test.YtplcmaiphbjfcaaWPlay
namespace Go.Proofs.Ytplcmaiphbjfcaa.wheelPlays
open Go.ChangeShapes Go.WideShapes Go.ChangeAt Go.RowKit
open Go.ChangeMaps (open_string shut_string)
set_option linter.unusedVariables false
set_option linter.unusedSimpArgs false

structure Hidden (α : Prop) : Prop where
  out : α
theorem start {w1 w2 : World} {p m now : Nat} {V : Nat → Value} (k2 : Wh w2 p m V now 0 []) (t2 : Turned (fun _ => False) w1 w2) (f2 : ∀ b, Foot p m V b → w1.heap.size ≤ b) :
    Pl w1 (w2.alloc (.cells #[.int .u64 (now : Nat), .slice none 0 0] 32)) p m V now 0 [] w2.heap.size (.slice none 0 0) now [] := by
  have hb := heap_alloc_new w2 (.cells #[.int .u64 (now : Nat), .slice none 0 0] 32)
  exact {
    one := k2.alloc _
    two := {
      c0 := by rw [cell_of_row _ _ _ _ 32 (0, 0) hb]; rfl
      c1 := by rw [cell_of_row _ _ _ _ 32 (0, 0) hb]; rfl
      fr := fun o => frozen_row hb o
      row := ⟨rfl, .inl ⟨rfl, rfl⟩⟩
      no := fun e => nomatch e }
    f1 := ⟨t2.alloc _, f2⟩
    f2 := fun b hb => hb.elim (fun e => by rw [e]; exact t2.size) (fun e => nomatch e)
    sep := fun b hb hb' => hb'.elim (fun e => by have := k2.foot_lt b hb; omega) (fun e => nomatch e) }

set_option maxRecDepth 20000 in
set_option maxHeartbeats 20000000 in
theorem walk (w : World) (now : Nat) (h0 : now < 18446744073709551616) (sl : Option Addr) (len cap : Nat) (xs : Nat → Ac) (hx : Acts w sl len xs) :
    Calls Try.prog 3 #[.int .u64 (now : Nat), .slice sl len cap] w fun e w' => e = .returned (.bool true) ∧ Below w.heap.size w w' := by
  have hmax := hx.max
  by_cases hbig : 1152921504606846976 < now
  · clear hx
    have hb' : (1152921504606846976 : Int) < now := by omega
    go_enter Try.func3, Try.ntmps3
    go_wp2_with fail
    refine (awake_any _).mono ?_
    rintro e w1 ⟨rfl, t1⟩
    go_wp2_with fail
    refine (new_err _ now h0 hbig).mono ?_
    rintro e w2 ⟨rfl, rfl⟩
    go_wp2_with fail
    go_ret
    exact ⟨rfl, t1.below (Nat.le_refl _) (fun i hi => hi.elim)⟩
  · have hna : ¬ ((1152921504606846976 : Int) < now) := by omega
    have HX : Hid (Acts w sl len xs) := hx
    clear hx
    go_enter Try.func3, Try.ntmps3
    go_wp2_with fail
    refine (awake_any _).mono ?_
    rintro e w1 ⟨rfl, t1⟩
    go_wp2_with fail
    refine (new_any _ now (by omega)).mono ?_
    rintro e w2 ⟨p, m, V2, rfl, k2, t2, f2⟩
    have HP0 : Hid (Pl w1 (w2.alloc (.cells #[.int .u64 (now : Nat), .slice none 0 0] 32)) p m V2 now 0 [] w2.heap.size (.slice none 0 0) now []) := start k2 t2 f2
    clear k2 t2 f2
    go_wp2_with fail
    obtain ⟨r, hr⟩ : ∃ r, w2.heap.size = r := ⟨_, rfl⟩
    rw [hr] at HP0 ⊢
    clear hr
    go_loopw [8] (fun i wr => ∃ k t ra A V v, k ≤ len ∧ k ≤ 80 ∧ ra ≤ k ∧ i = .int .i64 (k : Nat) ∧ Pl w1 wr p m V t ra A r v t A) (fun i _ => 80 - (intOf i).toNat)
    case atStart => exact ⟨0, now, 0, [], V2, _, by omega, by omega, by omega, rfl, HP0.out⟩
    case round =>
      obtain ⟨k, t, ra, A, V, v, hk1, hk2, hk4, rfl, tw⟩ := hrel
      clear HP0
      by_cases hend : k < len ∧ k < 80
      · obtain ⟨hkl, hk80⟩ := hend
        obtain ⟨ad, rfl, hb, hc⟩ := (HX.out.turned (t1.trans tw.f1.turned (fun i hi => .inl hi))).cell (by omega)
        obtain ⟨c0, c1, c2⟩ := hc k hkl
        obtain ⟨l0, l1, l2⟩ := HX.out.lt k hkl
        generalize xs k = x at *
        obtain ⟨kind, id, inn⟩ := x
        simp only at c0 c1 c2 l0 l1 l2
        have hAl := tw.one.len_le
        have htle := tw.one.now_le
        have HTP : Hid (Pl w1 wr p m V t ra A r v t A) := tw
        have H1 : Hid (Pl w1 ((wr.alloc (Obj.cells #[.int .u8 (kind : Nat), .int .i64 id, .int .u64 (inn : Nat)] 34)).drew) p m V t ra A r v t A) := tw.other (((Turned.refl _ wr).alloc _).drewN 1)
        have H2 : Hid (Bq ((wr.alloc (Obj.cells #[.int .u8 (kind : Nat), .int .i64 id, .int .u64 (inn : Nat)] 34)).drew) wr.heap.size kind id inn p m V r v) :=
          ⟨heap_alloc_new wr _, fun hf => by have := tw.one.foot_lt _ hf; omega, fun hf => by have := tw.two.lt _ hf; omega⟩
        clear hc tw
        by_cases q0 : kind % 6 = 0
        · have q0' : (kind : Int) % 6 = 0 := by omega
          by_cases hbad : inn = 0 ∨ 1152921504606846976 < t + inn
          · go_wp2_with fail
            have hpl := H1.out
            have hbq := H2.out
            clear H1 H2 c0 c1 c2
            refine wp_region_noPanic ?_
            refine wp_region_held_drew (S := fun wx => wx.cell? ⟨wr.heap.size, 1, none⟩ = some (.int .i64 id) ∧ wx.cell? ⟨wr.heap.size, 2, none⟩ = some (.int .u64 (inn : Nat))) (by kernel_rfl) ⟨hbq.c1, hbq.c2⟩ (fun hHeld => ?_)
            refine take_first 0 (v := ?_) rfl (by kernel_rfl) (by kernel_rfl) (by kernel_rfl) (fun _ _ _ h => h) (Or.inl ⟨by rfl, by intro wx hSw; obtain ⟨hSw1, hSw2⟩ := hSw; go_simp; try with_reducible rfl⟩) (by assumption) ?_
            (try simp only [Act.put, List.setIfInBounds_toArray, List.set_cons_zero, List.set_cons_succ])
            refine take_first 1 (v := ?_) rfl (by kernel_rfl) (by kernel_rfl) (by kernel_rfl) (fun _ _ _ h => h) (Or.inl ⟨by rfl, by intro wx hSw; obtain ⟨hSw1, hSw2⟩ := hSw; go_simp; try with_reducible rfl⟩) (by assumption) ?_
            (try simp only [Act.put, List.setIfInBounds_toArray, List.set_cons_zero, List.set_cons_succ])
            refine take_first 2 (v := ?_) rfl (by kernel_rfl) (by kernel_rfl) (by kernel_rfl) (fun _ _ _ h => h) (Or.inl ⟨by rfl, by intro wx hSw; obtain ⟨hSw1, hSw2⟩ := hSw; go_simp; try with_reducible rfl⟩) (by assumption) ?_
            (try simp only [Act.put, List.setIfInBounds_toArray, List.set_cons_zero, List.set_cons_succ])
            refine take_first 3 (v := ?_) rfl (by kernel_rfl) (by kernel_rfl) (by kernel_rfl) (fun _ _ _ h => h) (Or.inl ⟨by rfl, by intro wx hSw; obtain ⟨hSw1, hSw2⟩ := hSw; go_simp; try with_reducible rfl⟩) (by assumption) ?_
            (try simp only [Act.put, List.setIfInBounds_toArray, List.set_cons_zero, List.set_cons_succ])
            refine take_first 4 (v := ?_) rfl (by kernel_rfl) (by kernel_rfl) (by kernel_rfl) (fun _ _ _ h => h) (Or.inl ⟨by rfl, by intro wx hSw; obtain ⟨hSw1, hSw2⟩ := hSw; go_simp; try with_reducible rfl⟩) (by assumption) ?_
            (try simp only [Act.put, List.setIfInBounds_toArray, List.set_cons_zero, List.set_cons_succ])
            refine take_first 6 (v := ?_) rfl (by kernel_rfl) (by kernel_rfl) (by kernel_rfl) (fun _ _ _ h => h) (Or.inl ⟨by rfl, by intro wx hSw; obtain ⟨hSw1, hSw2⟩ := hSw; go_simp; try with_reducible rfl⟩) (by assumption) ?_
            (try simp only [Act.put, List.setIfInBounds_toArray, List.set_cons_zero, List.set_cons_succ])
            refine take_first 7 (v := ?_) rfl (by kernel_rfl) (by kernel_rfl) (by kernel_rfl) (fun _ _ _ h => h) (Or.inl ⟨by rfl, by intro wx hSw; obtain ⟨hSw1, hSw2⟩ := hSw; go_simp; try with_reducible rfl⟩) (by assumption) ?_
            (try simp only [Act.put, List.setIfInBounds_toArray, List.set_cons_zero, List.set_cons_succ])
            refine take_first 8 (v := ?_) rfl (by kernel_rfl) (by kernel_rfl) (by kernel_rfl) (fun _ _ _ h => h) (Or.inl ⟨by rfl, by intro wx hSw; obtain ⟨hSw1, hSw2⟩ := hSw; go_simp; try with_reducible rfl⟩) (by assumption) ?_
            (try simp only [Act.put, List.setIfInBounds_toArray, List.set_cons_zero, List.set_cons_succ])
            refine take_first 9 (v := ?_) rfl (by kernel_rfl) (by kernel_rfl) (by kernel_rfl) (fun _ _ _ h => h) (Or.inl ⟨by rfl, by intro wx hSw; obtain ⟨hSw1, hSw2⟩ := hSw; go_simp; try with_reducible rfl⟩) (by assumption) ?_
            (try simp only [Act.put, List.setIfInBounds_toArray, List.set_cons_zero, List.set_cons_succ])
            refine take_first 10 (v := ?_) rfl (by kernel_rfl) (by kernel_rfl) (by kernel_rfl) (fun _ _ _ h => h) (Or.inl ⟨by rfl, by intro wx hSw; obtain ⟨hSw1, hSw2⟩ := hSw; go_simp; try with_reducible rfl⟩) (by assumption) ?_
            (try simp only [Act.put, List.setIfInBounds_toArray, List.set_cons_zero, List.set_cons_succ])
            refine comes_up 5 rfl (by kernel_rfl) (fun K hK => ?_)
            go_simp
            refine (arm_err _ p m V t ra A hpl.one id inn l2 hbad).mono ?_
            rintro e w4 ⟨rfl, rfl⟩
            go_wp2_with fail
            refine hK.out _ _ ⟨hbq.c1, hbq.c2⟩ (fun hHeld => ?_)
            clear hK K
            (try simp only [Act.put, List.setIfInBounds_toArray, List.set_cons_zero, List.set_cons_succ])
            refine comes_up 11 rfl (by kernel_rfl) (fun K hK => ?_)
            go_simp
            refine (rarm_err _ r v t A hpl.two (by omega) id inn l2 hbad).mono ?_
            rintro e w5 ⟨rfl, rfl⟩
            go_wp2_with fail
            refine hK.out _ _ ⟨hbq.c1, hbq.c2⟩ (fun hHeld => ?_)
            clear hK K
            (try simp only [Act.put, List.setIfInBounds_toArray, List.set_cons_zero, List.set_cons_succ])
            refine take_first 12 (v := ?_) rfl (by kernel_rfl) (by kernel_rfl) (by kernel_rfl) (fun _ _ _ h => h) (Or.inl ⟨by rfl, by intro wx hSw; obtain ⟨hSw1, hSw2⟩ := hSw; go_simp; try with_reducible rfl⟩) (by assumption) ?_
            (try simp only [Act.put, List.setIfInBounds_toArray, List.set_cons_zero, List.set_cons_succ])
            refine wpAnyH_done (by kernel_rfl) ?_ _
            refine NoPanic.normal ?_
            have tp := hpl
            have bq := hbq
            clear hpl hbq hHeld
            generalize (wr.alloc (Obj.cells #[.int .u8 (kind : Nat), .int .i64 id, .int .u64 (inn : Nat)] 34)).drew = W5 at *
            have hlen := tp.one.len_le
            have htl := tp.one.now_le
            obtain ⟨av, cv, rfl, _, _⟩ := row_shape tp.two.row
            have hdue := due_any _ p m _ _ _ _ tp.one id l1
            have HN := fun (o : Obj) (q : Nat) => same_back (now_any _ p m _ _ _ _ (tp.other (((Turned.refl _ _).alloc o).drewN q)).one)
            have HL := fun (o : Obj) (q : Nat) => same_back (len_any _ p m _ _ _ _ (tp.other (((Turned.refl _ _).alloc o).drewN q)).one)
            have hrd := fun (o : Obj) => rdue_any _ r _ _ _ (tp.other ((Turned.refl _ _).alloc o)).two id (by omega)
            have hb1 := bq.c1
            have hb6 := fun (o : Obj) => (bq.other ((Turned.refl _ _).alloc o)).c1
            have hr0 := fun (o : Obj) => (tp.other ((Turned.refl _ _).alloc o)).two.c0
            have hr1 := fun (o : Obj) => (tp.other ((Turned.refl _ _).alloc o)).two.c1
            have HP := Hidden.mk (fun (o : Obj) (q : Nat) => tp.other (((Turned.refl _ _).alloc o).drewN q))
            clear tp bq HTP hAl
            generalize List.lookup id _ = lk at hdue hrd
            generalize List.length _ = nn at hlen HL hr1
            go_wp2_with fail
            refine hdue.mono ?_
            rintro e w6 ⟨rfl, o6, rfl⟩
            have hb6' := hb6 o6
            have hr0' := hr0 o6
            have hr1' := hr1 o6
            have hrd' := hrd o6
            have HN' := HN o6
            have HL' := HL o6
            clear hdue hrd hb6 hr0 hr1 HN HL
            go_wp2_with fail
            refine hrd'.mono ?_
            rintro e w7 ⟨rfl, rfl⟩
            clear hrd'
            cases lk with
            | none =>
              simp only [errOf, okOf, Option.getD]
              go_wp2_with fail
              go_quiet (first | (go_at_call 21; refine Calls.quiet_of_same (HN' _)) | (go_at_call 22; refine Calls.quiet_of_same (HL' _)))
              go_wp2_with fail
              go_roundw
              case rel => exact ⟨k + 1, _, ra, _, _, _, by omega, by omega, by omega, by go_num, HP.out o6 nq⟩
              case measure => simp [intOf]; omega
            | some d =>
              simp only [errOf, okOf, Option.getD]
              go_wp2_with fail
              go_quiet (first | (go_at_call 21; refine Calls.quiet_of_same (HN' _)) | (go_at_call 22; refine Calls.quiet_of_same (HL' _)))
              go_wp2_with fail
              go_roundw
              case rel => exact ⟨k + 1, _, ra, _, _, _, by omega, by omega, by omega, by go_num, HP.out o6 nq⟩
              case measure => simp [intOf]; omega
          · go_wp2_with fail
            have hpl := H1.out
            have hbq := H2.out
            clear H1 H2 c0 c1 c2
            refine wp_region_noPanic ?_
            refine wp_region_held_drew (S := fun wx => wx.cell? ⟨wr.heap.size, 1, none⟩ = some (.int .i64 id) ∧ wx.cell? ⟨wr.heap.size, 2, none⟩ = some (.int .u64 (inn : Nat))) (by kernel_rfl) ⟨hbq.c1, hbq.c2⟩ (fun hHeld => ?_)
            refine take_first 0 (v := ?_) rfl (by kernel_rfl) (by kernel_rfl) (by kernel_rfl) (fun _ _ _ h => h) (Or.inl ⟨by rfl, by intro wx hSw; obtain ⟨hSw1, hSw2⟩ := hSw; go_simp; try with_reducible rfl⟩) (by assumption) ?_
            (try simp only [Act.put, List.setIfInBounds_toArray, List.set_cons_zero, List.set_cons_succ])
            refine take_first 1 (v := ?_) rfl (by kernel_rfl) (by kernel_rfl) (by kernel_rfl) (fun _ _ _ h => h) (Or.inl ⟨by rfl, by intro wx hSw; obtain ⟨hSw1, hSw2⟩ := hSw; go_simp; try with_reducible rfl⟩) (by assumption) ?_
            (try simp only [Act.put, List.setIfInBounds_toArray, List.set_cons_zero, List.set_cons_succ])
            refine take_first 2 (v := ?_) rfl (by kernel_rfl) (by kernel_rfl) (by kernel_rfl) (fun _ _ _ h => h) (Or.inl ⟨by rfl, by intro wx hSw; obtain ⟨hSw1, hSw2⟩ := hSw; go_simp; try with_reducible rfl⟩) (by assumption) ?_
            (try simp only [Act.put, List.setIfInBounds_toArray, List.set_cons_zero, List.set_cons_succ])
            refine take_first 3 (v := ?_) rfl (by kernel_rfl) (by kernel_rfl) (by kernel_rfl) (fun _ _ _ h => h) (Or.inl ⟨by rfl, by intro wx hSw; obtain ⟨hSw1, hSw2⟩ := hSw; go_simp; try with_reducible rfl⟩) (by assumption) ?_
            (try simp only [Act.put, List.setIfInBounds_toArray, List.set_cons_zero, List.set_cons_succ])
            refine take_first 4 (v := ?_) rfl (by kernel_rfl) (by kernel_rfl) (by kernel_rfl) (fun _ _ _ h => h) (Or.inl ⟨by rfl, by intro wx hSw; obtain ⟨hSw1, hSw2⟩ := hSw; go_simp; try with_reducible rfl⟩) (by assumption) ?_
            (try simp only [Act.put, List.setIfInBounds_toArray, List.set_cons_zero, List.set_cons_succ])
            refine take_first 6 (v := ?_) rfl (by kernel_rfl) (by kernel_rfl) (by kernel_rfl) (fun _ _ _ h => h) (Or.inl ⟨by rfl, by intro wx hSw; obtain ⟨hSw1, hSw2⟩ := hSw; go_simp; try with_reducible rfl⟩) (by assumption) ?_
            (try simp only [Act.put, List.setIfInBounds_toArray, List.set_cons_zero, List.set_cons_succ])
            refine take_first 7 (v := ?_) rfl (by kernel_rfl) (by kernel_rfl) (by kernel_rfl) (fun _ _ _ h => h) (Or.inl ⟨by rfl, by intro wx hSw; obtain ⟨hSw1, hSw2⟩ := hSw; go_simp; try with_reducible rfl⟩) (by assumption) ?_
            (try simp only [Act.put, List.setIfInBounds_toArray, List.set_cons_zero, List.set_cons_succ])
            refine take_first 8 (v := ?_) rfl (by kernel_rfl) (by kernel_rfl) (by kernel_rfl) (fun _ _ _ h => h) (Or.inl ⟨by rfl, by intro wx hSw; obtain ⟨hSw1, hSw2⟩ := hSw; go_simp; try with_reducible rfl⟩) (by assumption) ?_
            (try simp only [Act.put, List.setIfInBounds_toArray, List.set_cons_zero, List.set_cons_succ])
            refine take_first 9 (v := ?_) rfl (by kernel_rfl) (by kernel_rfl) (by kernel_rfl) (fun _ _ _ h => h) (Or.inl ⟨by rfl, by intro wx hSw; obtain ⟨hSw1, hSw2⟩ := hSw; go_simp; try with_reducible rfl⟩) (by assumption) ?_
            (try simp only [Act.put, List.setIfInBounds_toArray, List.set_cons_zero, List.set_cons_succ])
            refine take_first 10 (v := ?_) rfl (by kernel_rfl) (by kernel_rfl) (by kernel_rfl) (fun _ _ _ h => h) (Or.inl ⟨by rfl, by intro wx hSw; obtain ⟨hSw1, hSw2⟩ := hSw; go_simp; try with_reducible rfl⟩) (by assumption) ?_
            (try simp only [Act.put, List.setIfInBounds_toArray, List.set_cons_zero, List.set_cons_succ])
            refine comes_up 5 rfl (by kernel_rfl) (fun K hK => ?_)
            go_simp
            refine (arm_pl hpl hbq (by omega) l1 (by omega) (by omega)).mono ?_
            rintro e w4 ⟨rfl, V4, tp4, bq4⟩
            go_wp2_with fail
            refine hK.out _ _ ⟨bq4.c1, bq4.c2⟩ (fun hHeld => ?_)
            clear hK K
            (try simp only [Act.put, List.setIfInBounds_toArray, List.set_cons_zero, List.set_cons_succ])
            refine comes_up 11 rfl (by kernel_rfl) (fun K hK => ?_)
            go_simp
            refine (rarm_pl tp4 bq4 (by omega) (by omega) (by omega)).mono ?_
            rintro e w5 ⟨rfl, v5, tp, bq⟩
            go_wp2_with fail
            refine hK.out _ _ ⟨bq.c1, bq.c2⟩ (fun hHeld => ?_)
            clear hK K
            (try simp only [Act.put, List.setIfInBounds_toArray, List.set_cons_zero, List.set_cons_succ])
            refine take_first 12 (v := ?_) rfl (by kernel_rfl) (by kernel_rfl) (by kernel_rfl) (fun _ _ _ h => h) (Or.inl ⟨by rfl, by intro wx hSw; obtain ⟨hSw1, hSw2⟩ := hSw; go_simp; try with_reducible rfl⟩) (by assumption) ?_
            (try simp only [Act.put, List.setIfInBounds_toArray, List.set_cons_zero, List.set_cons_succ])
            refine wpAnyH_done (by kernel_rfl) ?_ _
            refine NoPanic.normal ?_
            have hlen := tp.one.len_le
            have htl := tp.one.now_le
            obtain ⟨av, cv, rfl, _, _⟩ := row_shape tp.two.row
            have hdue := due_any _ p m _ _ _ _ tp.one id l1
            have HN := fun (o : Obj) (q : Nat) => same_back (now_any _ p m _ _ _ _ (tp.other (((Turned.refl _ _).alloc o).drewN q)).one)
            have HL := fun (o : Obj) (q : Nat) => same_back (len_any _ p m _ _ _ _ (tp.other (((Turned.refl _ _).alloc o).drewN q)).one)
            have hrd := fun (o : Obj) => rdue_any _ r _ _ _ (tp.other ((Turned.refl _ _).alloc o)).two id (by omega)
            have hb1 := bq.c1
            have hb6 := fun (o : Obj) => (bq.other ((Turned.refl _ _).alloc o)).c1
            have hr0 := fun (o : Obj) => (tp.other ((Turned.refl _ _).alloc o)).two.c0
            have hr1 := fun (o : Obj) => (tp.other ((Turned.refl _ _).alloc o)).two.c1
            have HP := Hidden.mk (fun (o : Obj) (q : Nat) => tp.other (((Turned.refl _ _).alloc o).drewN q))
            clear tp bq tp4 bq4 hpl hbq hHeld HTP hAl
            generalize List.lookup id _ = lk at hdue hrd
            generalize List.length _ = nn at hlen HL hr1
            go_wp2_with fail
            refine hdue.mono ?_
            rintro e w6 ⟨rfl, o6, rfl⟩
            have hb6' := hb6 o6
            have hr0' := hr0 o6
            have hr1' := hr1 o6
            have hrd' := hrd o6
            have HN' := HN o6
            have HL' := HL o6
            clear hdue hrd hb6 hr0 hr1 HN HL
            go_wp2_with fail
            refine hrd'.mono ?_
            rintro e w7 ⟨rfl, rfl⟩
            clear hrd'
            cases lk with
            | none =>
              simp only [errOf, okOf, Option.getD]
              go_wp2_with fail
              go_quiet (first | (go_at_call 21; refine Calls.quiet_of_same (HN' _)) | (go_at_call 22; refine Calls.quiet_of_same (HL' _)))
              go_wp2_with fail
              go_roundw
              case rel => exact ⟨k + 1, _, ra + 1, _, _, _, by omega, by omega, by omega, by go_num, HP.out o6 nq⟩
              case measure => simp [intOf]; omega
            | some d =>
              simp only [errOf, okOf, Option.getD]
              go_wp2_with fail
              go_quiet (first | (go_at_call 21; refine Calls.quiet_of_same (HN' _)) | (go_at_call 22; refine Calls.quiet_of_same (HL' _)))
              go_wp2_with fail
              go_roundw
              case rel => exact ⟨k + 1, _, ra + 1, _, _, _, by omega, by omega, by omega, by go_num, HP.out o6 nq⟩
              case measure => simp [intOf]; omega
        by_cases q1 : kind % 6 = 1
        · have q1' : (kind : Int) % 6 = 1 := by omega
          by_cases hbad : inn = 0 ∨ 1152921504606846976 < t + inn
          · go_wp2_with fail
            have hpl := H1.out
            have hbq := H2.out
            clear H1 H2 c0 c1 c2
            refine wp_region_noPanic ?_
            refine wp_region_held_drew (S := fun wx => wx.cell? ⟨wr.heap.size, 1, none⟩ = some (.int .i64 id) ∧ wx.cell? ⟨wr.heap.size, 2, none⟩ = some (.int .u64 (inn : Nat))) (by kernel_rfl) ⟨hbq.c1, hbq.c2⟩ (fun hHeld => ?_)
            refine take_first 0 (v := ?_) rfl (by kernel_rfl) (by kernel_rfl) (by kernel_rfl) (fun _ _ _ h => h) (Or.inl ⟨by rfl, by intro wx hSw; obtain ⟨hSw1, hSw2⟩ := hSw; go_simp; try with_reducible rfl⟩) (by assumption) ?_
            (try simp only [Act.put, List.setIfInBounds_toArray, List.set_cons_zero, List.set_cons_succ])
            refine take_first 1 (v := ?_) rfl (by kernel_rfl) (by kernel_rfl) (by kernel_rfl) (fun _ _ _ h => h) (Or.inl ⟨by rfl, by intro wx hSw; obtain ⟨hSw1, hSw2⟩ := hSw; go_simp; try with_reducible rfl⟩) (by assumption) ?_
            (try simp only [Act.put, List.setIfInBounds_toArray, List.set_cons_zero, List.set_cons_succ])
            refine take_first 2 (v := ?_) rfl (by kernel_rfl) (by kernel_rfl) (by kernel_rfl) (fun _ _ _ h => h) (Or.inl ⟨by rfl, by intro wx hSw; obtain ⟨hSw1, hSw2⟩ := hSw; go_simp; try with_reducible rfl⟩) (by assumption) ?_
            (try simp only [Act.put, List.setIfInBounds_toArray, List.set_cons_zero, List.set_cons_succ])
            refine take_first 3 (v := ?_) rfl (by kernel_rfl) (by kernel_rfl) (by kernel_rfl) (fun _ _ _ h => h) (Or.inl ⟨by rfl, by intro wx hSw; obtain ⟨hSw1, hSw2⟩ := hSw; go_simp; try with_reducible rfl⟩) (by assumption) ?_
            (try simp only [Act.put, List.setIfInBounds_toArray, List.set_cons_zero, List.set_cons_succ])
            refine take_first 4 (v := ?_) rfl (by kernel_rfl) (by kernel_rfl) (by kernel_rfl) (fun _ _ _ h => h) (Or.inl ⟨by rfl, by intro wx hSw; obtain ⟨hSw1, hSw2⟩ := hSw; go_simp; try with_reducible rfl⟩) (by assumption) ?_
            (try simp only [Act.put, List.setIfInBounds_toArray, List.set_cons_zero, List.set_cons_succ])
            refine take_first 6 (v := ?_) rfl (by kernel_rfl) (by kernel_rfl) (by kernel_rfl) (fun _ _ _ h => h) (Or.inl ⟨by rfl, by intro wx hSw; obtain ⟨hSw1, hSw2⟩ := hSw; go_simp; try with_reducible rfl⟩) (by assumption) ?_
            (try simp only [Act.put, List.setIfInBounds_toArray, List.set_cons_zero, List.set_cons_succ])
            refine take_first 7 (v := ?_) rfl (by kernel_rfl) (by kernel_rfl) (by kernel_rfl) (fun _ _ _ h => h) (Or.inl ⟨by rfl, by intro wx hSw; obtain ⟨hSw1, hSw2⟩ := hSw; go_simp; try with_reducible rfl⟩) (by assumption) ?_
            (try simp only [Act.put, List.setIfInBounds_toArray, List.set_cons_zero, List.set_cons_succ])
            refine take_first 8 (v := ?_) rfl (by kernel_rfl) (by kernel_rfl) (by kernel_rfl) (fun _ _ _ h => h) (Or.inl ⟨by rfl, by intro wx hSw; obtain ⟨hSw1, hSw2⟩ := hSw; go_simp; try with_reducible rfl⟩) (by assumption) ?_
            (try simp only [Act.put, List.setIfInBounds_toArray, List.set_cons_zero, List.set_cons_succ])
            refine take_first 9 (v := ?_) rfl (by kernel_rfl) (by kernel_rfl) (by kernel_rfl) (fun _ _ _ h => h) (Or.inl ⟨by rfl, by intro wx hSw; obtain ⟨hSw1, hSw2⟩ := hSw; go_simp; try with_reducible rfl⟩) (by assumption) ?_
            (try simp only [Act.put, List.setIfInBounds_toArray, List.set_cons_zero, List.set_cons_succ])
            refine take_first 10 (v := ?_) rfl (by kernel_rfl) (by kernel_rfl) (by kernel_rfl) (fun _ _ _ h => h) (Or.inl ⟨by rfl, by intro wx hSw; obtain ⟨hSw1, hSw2⟩ := hSw; go_simp; try with_reducible rfl⟩) (by assumption) ?_
            (try simp only [Act.put, List.setIfInBounds_toArray, List.set_cons_zero, List.set_cons_succ])
            refine comes_up 5 rfl (by kernel_rfl) (fun K hK => ?_)
            go_simp
            refine (arm_err _ p m V t ra A hpl.one id inn l2 hbad).mono ?_
            rintro e w4 ⟨rfl, rfl⟩
            go_wp2_with fail
            refine hK.out _ _ ⟨hbq.c1, hbq.c2⟩ (fun hHeld => ?_)
            clear hK K
            (try simp only [Act.put, List.setIfInBounds_toArray, List.set_cons_zero, List.set_cons_succ])
            refine comes_up 11 rfl (by kernel_rfl) (fun K hK => ?_)
            go_simp
            refine (rarm_err _ r v t A hpl.two (by omega) id inn l2 hbad).mono ?_
            rintro e w5 ⟨rfl, rfl⟩
            go_wp2_with fail
            refine hK.out _ _ ⟨hbq.c1, hbq.c2⟩ (fun hHeld => ?_)
            clear hK K
            (try simp only [Act.put, List.setIfInBounds_toArray, List.set_cons_zero, List.set_cons_succ])
            refine take_first 12 (v := ?_) rfl (by kernel_rfl) (by kernel_rfl) (by kernel_rfl) (fun _ _ _ h => h) (Or.inl ⟨by rfl, by intro wx hSw; obtain ⟨hSw1, hSw2⟩ := hSw; go_simp; try with_reducible rfl⟩) (by assumption) ?_
            (try simp only [Act.put, List.setIfInBounds_toArray, List.set_cons_zero, List.set_cons_succ])
            refine wpAnyH_done (by kernel_rfl) ?_ _
            refine NoPanic.normal ?_
            have tp := hpl
            have bq := hbq
            clear hpl hbq hHeld
            generalize (wr.alloc (Obj.cells #[.int .u8 (kind : Nat), .int .i64 id, .int .u64 (inn : Nat)] 34)).drew = W5 at *
            have hlen := tp.one.len_le
            have htl := tp.one.now_le
            obtain ⟨av, cv, rfl, _, _⟩ := row_shape tp.two.row
            have hdue := due_any _ p m _ _ _ _ tp.one id l1
            have HN := fun (o : Obj) (q : Nat) => same_back (now_any _ p m _ _ _ _ (tp.other (((Turned.refl _ _).alloc o).drewN q)).one)
            have HL := fun (o : Obj) (q : Nat) => same_back (len_any _ p m _ _ _ _ (tp.other (((Turned.refl _ _).alloc o).drewN q)).one)
            have hrd := fun (o : Obj) => rdue_any _ r _ _ _ (tp.other ((Turned.refl _ _).alloc o)).two id (by omega)
            have hb1 := bq.c1
            have hb6 := fun (o : Obj) => (bq.other ((Turned.refl _ _).alloc o)).c1
            have hr0 := fun (o : Obj) => (tp.other ((Turned.refl _ _).alloc o)).two.c0
            have hr1 := fun (o : Obj) => (tp.other ((Turned.refl _ _).alloc o)).two.c1
            have HP := Hidden.mk (fun (o : Obj) (q : Nat) => tp.other (((Turned.refl _ _).alloc o).drewN q))
            clear tp bq HTP hAl
            generalize List.lookup id _ = lk at hdue hrd
            generalize List.length _ = nn at hlen HL hr1
            go_wp2_with fail
            refine hdue.mono ?_
            rintro e w6 ⟨rfl, o6, rfl⟩
            have hb6' := hb6 o6
            have hr0' := hr0 o6
            have hr1' := hr1 o6
            have hrd' := hrd o6
            have HN' := HN o6
            have HL' := HL o6
            clear hdue hrd hb6 hr0 hr1 HN HL
            go_wp2_with fail
            refine hrd'.mono ?_
            rintro e w7 ⟨rfl, rfl⟩
            clear hrd'
            cases lk with
            | none =>
              simp only [errOf, okOf, Option.getD]
              go_wp2_with fail
              go_quiet (first | (go_at_call 21; refine Calls.quiet_of_same (HN' _)) | (go_at_call 22; refine Calls.quiet_of_same (HL' _)))
              go_wp2_with fail
              go_roundw
              case rel => exact ⟨k + 1, _, ra, _, _, _, by omega, by omega, by omega, by go_num, HP.out o6 nq⟩
              case measure => simp [intOf]; omega
            | some d =>
              simp only [errOf, okOf, Option.getD]
              go_wp2_with fail
              go_quiet (first | (go_at_call 21; refine Calls.quiet_of_same (HN' _)) | (go_at_call 22; refine Calls.quiet_of_same (HL' _)))
              go_wp2_with fail
              go_roundw
              case rel => exact ⟨k + 1, _, ra, _, _, _, by omega, by omega, by omega, by go_num, HP.out o6 nq⟩
              case measure => simp [intOf]; omega
          · go_wp2_with fail
            have hpl := H1.out
            have hbq := H2.out
            clear H1 H2 c0 c1 c2
            refine wp_region_noPanic ?_
            refine wp_region_held_drew (S := fun wx => wx.cell? ⟨wr.heap.size, 1, none⟩ = some (.int .i64 id) ∧ wx.cell? ⟨wr.heap.size, 2, none⟩ = some (.int .u64 (inn : Nat))) (by kernel_rfl) ⟨hbq.c1, hbq.c2⟩ (fun hHeld => ?_)
            refine take_first 0 (v := ?_) rfl (by kernel_rfl) (by kernel_rfl) (by kernel_rfl) (fun _ _ _ h => h) (Or.inl ⟨by rfl, by intro wx hSw; obtain ⟨hSw1, hSw2⟩ := hSw; go_simp; try with_reducible rfl⟩) (by assumption) ?_
            (try simp only [Act.put, List.setIfInBounds_toArray, List.set_cons_zero, List.set_cons_succ])
            refine take_first 1 (v := ?_) rfl (by kernel_rfl) (by kernel_rfl) (by kernel_rfl) (fun _ _ _ h => h) (Or.inl ⟨by rfl, by intro wx hSw; obtain ⟨hSw1, hSw2⟩ := hSw; go_simp; try with_reducible rfl⟩) (by assumption) ?_
            (try simp only [Act.put, List.setIfInBounds_toArray, List.set_cons_zero, List.set_cons_succ])
            refine take_first 2 (v := ?_) rfl (by kernel_rfl) (by kernel_rfl) (by kernel_rfl) (fun _ _ _ h => h) (Or.inl ⟨by rfl, by intro wx hSw; obtain ⟨hSw1, hSw2⟩ := hSw; go_simp; try with_reducible rfl⟩) (by assumption) ?_
            (try simp only [Act.put, List.setIfInBounds_toArray, List.set_cons_zero, List.set_cons_succ])
            refine take_first 3 (v := ?_) rfl (by kernel_rfl) (by kernel_rfl) (by kernel_rfl) (fun _ _ _ h => h) (Or.inl ⟨by rfl, by intro wx hSw; obtain ⟨hSw1, hSw2⟩ := hSw; go_simp; try with_reducible rfl⟩) (by assumption) ?_
            (try simp only [Act.put, List.setIfInBounds_toArray, List.set_cons_zero, List.set_cons_succ])
            refine take_first 4 (v := ?_) rfl (by kernel_rfl) (by kernel_rfl) (by kernel_rfl) (fun _ _ _ h => h) (Or.inl ⟨by rfl, by intro wx hSw; obtain ⟨hSw1, hSw2⟩ := hSw; go_simp; try with_reducible rfl⟩) (by assumption) ?_
            (try simp only [Act.put, List.setIfInBounds_toArray, List.set_cons_zero, List.set_cons_succ])
            refine take_first 6 (v := ?_) rfl (by kernel_rfl) (by kernel_rfl) (by kernel_rfl) (fun _ _ _ h => h) (Or.inl ⟨by rfl, by intro wx hSw; obtain ⟨hSw1, hSw2⟩ := hSw; go_simp; try with_reducible rfl⟩) (by assumption) ?_
            (try simp only [Act.put, List.setIfInBounds_toArray, List.set_cons_zero, List.set_cons_succ])
            refine take_first 7 (v := ?_) rfl (by kernel_rfl) (by kernel_rfl) (by kernel_rfl) (fun _ _ _ h => h) (Or.inl ⟨by rfl, by intro wx hSw; obtain ⟨hSw1, hSw2⟩ := hSw; go_simp; try with_reducible rfl⟩) (by assumption) ?_
            (try simp only [Act.put, List.setIfInBounds_toArray, List.set_cons_zero, List.set_cons_succ])
            refine take_first 8 (v := ?_) rfl (by kernel_rfl) (by kernel_rfl) (by kernel_rfl) (fun _ _ _ h => h) (Or.inl ⟨by rfl, by intro wx hSw; obtain ⟨hSw1, hSw2⟩ := hSw; go_simp; try with_reducible rfl⟩) (by assumption) ?_
            (try simp only [Act.put, List.setIfInBounds_toArray, List.set_cons_zero, List.set_cons_succ])
            refine take_first 9 (v := ?_) rfl (by kernel_rfl) (by kernel_rfl) (by kernel_rfl) (fun _ _ _ h => h) (Or.inl ⟨by rfl, by intro wx hSw; obtain ⟨hSw1, hSw2⟩ := hSw; go_simp; try with_reducible rfl⟩) (by assumption) ?_
            (try simp only [Act.put, List.setIfInBounds_toArray, List.set_cons_zero, List.set_cons_succ])
            refine take_first 10 (v := ?_) rfl (by kernel_rfl) (by kernel_rfl) (by kernel_rfl) (fun _ _ _ h => h) (Or.inl ⟨by rfl, by intro wx hSw; obtain ⟨hSw1, hSw2⟩ := hSw; go_simp; try with_reducible rfl⟩) (by assumption) ?_
            (try simp only [Act.put, List.setIfInBounds_toArray, List.set_cons_zero, List.set_cons_succ])
            refine comes_up 5 rfl (by kernel_rfl) (fun K hK => ?_)
            go_simp
            refine (arm_pl hpl hbq (by omega) l1 (by omega) (by omega)).mono ?_
            rintro e w4 ⟨rfl, V4, tp4, bq4⟩
            go_wp2_with fail
            refine hK.out _ _ ⟨bq4.c1, bq4.c2⟩ (fun hHeld => ?_)
            clear hK K
            (try simp only [Act.put, List.setIfInBounds_toArray, List.set_cons_zero, List.set_cons_succ])
            refine comes_up 11 rfl (by kernel_rfl) (fun K hK => ?_)
            go_simp
            refine (rarm_pl tp4 bq4 (by omega) (by omega) (by omega)).mono ?_
            rintro e w5 ⟨rfl, v5, tp, bq⟩
            go_wp2_with fail
            refine hK.out _ _ ⟨bq.c1, bq.c2⟩ (fun hHeld => ?_)
            clear hK K
            (try simp only [Act.put, List.setIfInBounds_toArray, List.set_cons_zero, List.set_cons_succ])
            refine take_first 12 (v := ?_) rfl (by kernel_rfl) (by kernel_rfl) (by kernel_rfl) (fun _ _ _ h => h) (Or.inl ⟨by rfl, by intro wx hSw; obtain ⟨hSw1, hSw2⟩ := hSw; go_simp; try with_reducible rfl⟩) (by assumption) ?_
            (try simp only [Act.put, List.setIfInBounds_toArray, List.set_cons_zero, List.set_cons_succ])
            refine wpAnyH_done (by kernel_rfl) ?_ _
            refine NoPanic.normal ?_
            have hlen := tp.one.len_le
            have htl := tp.one.now_le
            obtain ⟨av, cv, rfl, _, _⟩ := row_shape tp.two.row
            have hdue := due_any _ p m _ _ _ _ tp.one id l1
            have HN := fun (o : Obj) (q : Nat) => same_back (now_any _ p m _ _ _ _ (tp.other (((Turned.refl _ _).alloc o).drewN q)).one)
            have HL := fun (o : Obj) (q : Nat) => same_back (len_any _ p m _ _ _ _ (tp.other (((Turned.refl _ _).alloc o).drewN q)).one)
            have hrd := fun (o : Obj) => rdue_any _ r _ _ _ (tp.other ((Turned.refl _ _).alloc o)).two id (by omega)
            have hb1 := bq.c1
            have hb6 := fun (o : Obj) => (bq.other ((Turned.refl _ _).alloc o)).c1
            have hr0 := fun (o : Obj) => (tp.other ((Turned.refl _ _).alloc o)).two.c0
            have hr1 := fun (o : Obj) => (tp.other ((Turned.refl _ _).alloc o)).two.c1
            have HP := Hidden.mk (fun (o : Obj) (q : Nat) => tp.other (((Turned.refl _ _).alloc o).drewN q))
            clear tp bq tp4 bq4 hpl hbq hHeld HTP hAl
            generalize List.lookup id _ = lk at hdue hrd
            generalize List.length _ = nn at hlen HL hr1
            go_wp2_with fail
            refine hdue.mono ?_
            rintro e w6 ⟨rfl, o6, rfl⟩
            have hb6' := hb6 o6
            have hr0' := hr0 o6
            have hr1' := hr1 o6
            have hrd' := hrd o6
            have HN' := HN o6
            have HL' := HL o6
            clear hdue hrd hb6 hr0 hr1 HN HL
            go_wp2_with fail
            refine hrd'.mono ?_
            rintro e w7 ⟨rfl, rfl⟩
            clear hrd'
            cases lk with
            | none =>
              simp only [errOf, okOf, Option.getD]
              go_wp2_with fail
              go_quiet (first | (go_at_call 21; refine Calls.quiet_of_same (HN' _)) | (go_at_call 22; refine Calls.quiet_of_same (HL' _)))
              go_wp2_with fail
              go_roundw
              case rel => exact ⟨k + 1, _, ra + 1, _, _, _, by omega, by omega, by omega, by go_num, HP.out o6 nq⟩
              case measure => simp [intOf]; omega
            | some d =>
              simp only [errOf, okOf, Option.getD]
              go_wp2_with fail
              go_quiet (first | (go_at_call 21; refine Calls.quiet_of_same (HN' _)) | (go_at_call 22; refine Calls.quiet_of_same (HL' _)))
              go_wp2_with fail
              go_roundw
              case rel => exact ⟨k + 1, _, ra + 1, _, _, _, by omega, by omega, by omega, by go_num, HP.out o6 nq⟩
              case measure => simp [intOf]; omega
        by_cases q2 : kind % 6 = 2
        · have q2' : (kind : Int) % 6 = 2 := by omega
          by_cases hbad : inn = 0 ∨ 1152921504606846976 < t + inn
          · go_wp2_with fail
            have hpl := H1.out
            have hbq := H2.out
            clear H1 H2 c0 c1 c2
            refine wp_region_noPanic ?_
            refine wp_region_held_drew (S := fun wx => wx.cell? ⟨wr.heap.size, 1, none⟩ = some (.int .i64 id) ∧ wx.cell? ⟨wr.heap.size, 2, none⟩ = some (.int .u64 (inn : Nat))) (by kernel_rfl) ⟨hbq.c1, hbq.c2⟩ (fun hHeld => ?_)
            refine take_first 0 (v := ?_) rfl (by kernel_rfl) (by kernel_rfl) (by kernel_rfl) (fun _ _ _ h => h) (Or.inl ⟨by rfl, by intro wx hSw; obtain ⟨hSw1, hSw2⟩ := hSw; go_simp; try with_reducible rfl⟩) (by assumption) ?_
            (try simp only [Act.put, List.setIfInBounds_toArray, List.set_cons_zero, List.set_cons_succ])
            refine take_first 1 (v := ?_) rfl (by kernel_rfl) (by kernel_rfl) (by kernel_rfl) (fun _ _ _ h => h) (Or.inl ⟨by rfl, by intro wx hSw; obtain ⟨hSw1, hSw2⟩ := hSw; go_simp; try with_reducible rfl⟩) (by assumption) ?_
            (try simp only [Act.put, List.setIfInBounds_toArray, List.set_cons_zero, List.set_cons_succ])
            refine take_first 2 (v := ?_) rfl (by kernel_rfl) (by kernel_rfl) (by kernel_rfl) (fun _ _ _ h => h) (Or.inl ⟨by rfl, by intro wx hSw; obtain ⟨hSw1, hSw2⟩ := hSw; go_simp; try with_reducible rfl⟩) (by assumption) ?_
            (try simp only [Act.put, List.setIfInBounds_toArray, List.set_cons_zero, List.set_cons_succ])
            refine take_first 3 (v := ?_) rfl (by kernel_rfl) (by kernel_rfl) (by kernel_rfl) (fun _ _ _ h => h) (Or.inl ⟨by rfl, by intro wx hSw; obtain ⟨hSw1, hSw2⟩ := hSw; go_simp; try with_reducible rfl⟩) (by assumption) ?_
            (try simp only [Act.put, List.setIfInBounds_toArray, List.set_cons_zero, List.set_cons_succ])
            refine take_first 4 (v := ?_) rfl (by kernel_rfl) (by kernel_rfl) (by kernel_rfl) (fun _ _ _ h => h) (Or.inl ⟨by rfl, by intro wx hSw; obtain ⟨hSw1, hSw2⟩ := hSw; go_simp; try with_reducible rfl⟩) (by assumption) ?_
            (try simp only [Act.put, List.setIfInBounds_toArray, List.set_cons_zero, List.set_cons_succ])
            refine take_first 6 (v := ?_) rfl (by kernel_rfl) (by kernel_rfl) (by kernel_rfl) (fun _ _ _ h => h) (Or.inl ⟨by rfl, by intro wx hSw; obtain ⟨hSw1, hSw2⟩ := hSw; go_simp; try with_reducible rfl⟩) (by assumption) ?_
            (try simp only [Act.put, List.setIfInBounds_toArray, List.set_cons_zero, List.set_cons_succ])
            refine take_first 7 (v := ?_) rfl (by kernel_rfl) (by kernel_rfl) (by kernel_rfl) (fun _ _ _ h => h) (Or.inl ⟨by rfl, by intro wx hSw; obtain ⟨hSw1, hSw2⟩ := hSw; go_simp; try with_reducible rfl⟩) (by assumption) ?_
            (try simp only [Act.put, List.setIfInBounds_toArray, List.set_cons_zero, List.set_cons_succ])
            refine take_first 8 (v := ?_) rfl (by kernel_rfl) (by kernel_rfl) (by kernel_rfl) (fun _ _ _ h => h) (Or.inl ⟨by rfl, by intro wx hSw; obtain ⟨hSw1, hSw2⟩ := hSw; go_simp; try with_reducible rfl⟩) (by assumption) ?_
            (try simp only [Act.put, List.setIfInBounds_toArray, List.set_cons_zero, List.set_cons_succ])
            refine take_first 9 (v := ?_) rfl (by kernel_rfl) (by kernel_rfl) (by kernel_rfl) (fun _ _ _ h => h) (Or.inl ⟨by rfl, by intro wx hSw; obtain ⟨hSw1, hSw2⟩ := hSw; go_simp; try with_reducible rfl⟩) (by assumption) ?_
            (try simp only [Act.put, List.setIfInBounds_toArray, List.set_cons_zero, List.set_cons_succ])
            refine take_first 10 (v := ?_) rfl (by kernel_rfl) (by kernel_rfl) (by kernel_rfl) (fun _ _ _ h => h) (Or.inl ⟨by rfl, by intro wx hSw; obtain ⟨hSw1, hSw2⟩ := hSw; go_simp; try with_reducible rfl⟩) (by assumption) ?_
            (try simp only [Act.put, List.setIfInBounds_toArray, List.set_cons_zero, List.set_cons_succ])
            refine comes_up 5 rfl (by kernel_rfl) (fun K hK => ?_)
            go_simp
            refine (arm_err _ p m V t ra A hpl.one id inn l2 hbad).mono ?_
            rintro e w4 ⟨rfl, rfl⟩
            go_wp2_with fail
            refine hK.out _ _ ⟨hbq.c1, hbq.c2⟩ (fun hHeld => ?_)
            clear hK K
            (try simp only [Act.put, List.setIfInBounds_toArray, List.set_cons_zero, List.set_cons_succ])
            refine comes_up 11 rfl (by kernel_rfl) (fun K hK => ?_)
            go_simp
            refine (rarm_err _ r v t A hpl.two (by omega) id inn l2 hbad).mono ?_
            rintro e w5 ⟨rfl, rfl⟩
            go_wp2_with fail
            refine hK.out _ _ ⟨hbq.c1, hbq.c2⟩ (fun hHeld => ?_)
            clear hK K
            (try simp only [Act.put, List.setIfInBounds_toArray, List.set_cons_zero, List.set_cons_succ])
            refine take_first 12 (v := ?_) rfl (by kernel_rfl) (by kernel_rfl) (by kernel_rfl) (fun _ _ _ h => h) (Or.inl ⟨by rfl, by intro wx hSw; obtain ⟨hSw1, hSw2⟩ := hSw; go_simp; try with_reducible rfl⟩) (by assumption) ?_
            (try simp only [Act.put, List.setIfInBounds_toArray, List.set_cons_zero, List.set_cons_succ])
            refine wpAnyH_done (by kernel_rfl) ?_ _
            refine NoPanic.normal ?_
            have tp := hpl
            have bq := hbq
            clear hpl hbq hHeld
            generalize (wr.alloc (Obj.cells #[.int .u8 (kind : Nat), .int .i64 id, .int .u64 (inn : Nat)] 34)).drew = W5 at *
            have hlen := tp.one.len_le
            have htl := tp.one.now_le
            obtain ⟨av, cv, rfl, _, _⟩ := row_shape tp.two.row
            have hdue := due_any _ p m _ _ _ _ tp.one id l1
            have HN := fun (o : Obj) (q : Nat) => same_back (now_any _ p m _ _ _ _ (tp.other (((Turned.refl _ _).alloc o).drewN q)).one)
            have HL := fun (o : Obj) (q : Nat) => same_back (len_any _ p m _ _ _ _ (tp.other (((Turned.refl _ _).alloc o).drewN q)).one)
            have hrd := fun (o : Obj) => rdue_any _ r _ _ _ (tp.other ((Turned.refl _ _).alloc o)).two id (by omega)
            have hb1 := bq.c1
            have hb6 := fun (o : Obj) => (bq.other ((Turned.refl _ _).alloc o)).c1
            have hr0 := fun (o : Obj) => (tp.other ((Turned.refl _ _).alloc o)).two.c0
            have hr1 := fun (o : Obj) => (tp.other ((Turned.refl _ _).alloc o)).two.c1
            have HP := Hidden.mk (fun (o : Obj) (q : Nat) => tp.other (((Turned.refl _ _).alloc o).drewN q))
            clear tp bq HTP hAl
            generalize List.lookup id _ = lk at hdue hrd
            generalize List.length _ = nn at hlen HL hr1
            go_wp2_with fail
            refine hdue.mono ?_
            rintro e w6 ⟨rfl, o6, rfl⟩
            have hb6' := hb6 o6
            have hr0' := hr0 o6
            have hr1' := hr1 o6
            have hrd' := hrd o6
            have HN' := HN o6
            have HL' := HL o6
            clear hdue hrd hb6 hr0 hr1 HN HL
            go_wp2_with fail
            refine hrd'.mono ?_
            rintro e w7 ⟨rfl, rfl⟩
            clear hrd'
            cases lk with
            | none =>
              simp only [errOf, okOf, Option.getD]
              go_wp2_with fail
              go_quiet (first | (go_at_call 21; refine Calls.quiet_of_same (HN' _)) | (go_at_call 22; refine Calls.quiet_of_same (HL' _)))
              go_wp2_with fail
              go_roundw
              case rel => exact ⟨k + 1, _, ra, _, _, _, by omega, by omega, by omega, by go_num, HP.out o6 nq⟩
              case measure => simp [intOf]; omega
            | some d =>
              simp only [errOf, okOf, Option.getD]
              go_wp2_with fail
              go_quiet (first | (go_at_call 21; refine Calls.quiet_of_same (HN' _)) | (go_at_call 22; refine Calls.quiet_of_same (HL' _)))
              go_wp2_with fail
              go_roundw
              case rel => exact ⟨k + 1, _, ra, _, _, _, by omega, by omega, by omega, by go_num, HP.out o6 nq⟩
              case measure => simp [intOf]; omega
          · go_wp2_with fail
            have hpl := H1.out
            have hbq := H2.out
            clear H1 H2 c0 c1 c2
            refine wp_region_noPanic ?_
            refine wp_region_held_drew (S := fun wx => wx.cell? ⟨wr.heap.size, 1, none⟩ = some (.int .i64 id) ∧ wx.cell? ⟨wr.heap.size, 2, none⟩ = some (.int .u64 (inn : Nat))) (by kernel_rfl) ⟨hbq.c1, hbq.c2⟩ (fun hHeld => ?_)
            refine take_first 0 (v := ?_) rfl (by kernel_rfl) (by kernel_rfl) (by kernel_rfl) (fun _ _ _ h => h) (Or.inl ⟨by rfl, by intro wx hSw; obtain ⟨hSw1, hSw2⟩ := hSw; go_simp; try with_reducible rfl⟩) (by assumption) ?_
            (try simp only [Act.put, List.setIfInBounds_toArray, List.set_cons_zero, List.set_cons_succ])
            refine take_first 1 (v := ?_) rfl (by kernel_rfl) (by kernel_rfl) (by kernel_rfl) (fun _ _ _ h => h) (Or.inl ⟨by rfl, by intro wx hSw; obtain ⟨hSw1, hSw2⟩ := hSw; go_simp; try with_reducible rfl⟩) (by assumption) ?_
            (try simp only [Act.put, List.setIfInBounds_toArray, List.set_cons_zero, List.set_cons_succ])
            refine take_first 2 (v := ?_) rfl (by kernel_rfl) (by kernel_rfl) (by kernel_rfl) (fun _ _ _ h => h) (Or.inl ⟨by rfl, by intro wx hSw; obtain ⟨hSw1, hSw2⟩ := hSw; go_simp; try with_reducible rfl⟩) (by assumption) ?_
            (try simp only [Act.put, List.setIfInBounds_toArray, List.set_cons_zero, List.set_cons_succ])
            refine take_first 3 (v := ?_) rfl (by kernel_rfl) (by kernel_rfl) (by kernel_rfl) (fun _ _ _ h => h) (Or.inl ⟨by rfl, by intro wx hSw; obtain ⟨hSw1, hSw2⟩ := hSw; go_simp; try with_reducible rfl⟩) (by assumption) ?_
            (try simp only [Act.put, List.setIfInBounds_toArray, List.set_cons_zero, List.set_cons_succ])
            refine take_first 4 (v := ?_) rfl (by kernel_rfl) (by kernel_rfl) (by kernel_rfl) (fun _ _ _ h => h) (Or.inl ⟨by rfl, by intro wx hSw; obtain ⟨hSw1, hSw2⟩ := hSw; go_simp; try with_reducible rfl⟩) (by assumption) ?_
            (try simp only [Act.put, List.setIfInBounds_toArray, List.set_cons_zero, List.set_cons_succ])
            refine take_first 6 (v := ?_) rfl (by kernel_rfl) (by kernel_rfl) (by kernel_rfl) (fun _ _ _ h => h) (Or.inl ⟨by rfl, by intro wx hSw; obtain ⟨hSw1, hSw2⟩ := hSw; go_simp; try with_reducible rfl⟩) (by assumption) ?_
            (try simp only [Act.put, List.setIfInBounds_toArray, List.set_cons_zero, List.set_cons_succ])
            refine take_first 7 (v := ?_) rfl (by kernel_rfl) (by kernel_rfl) (by kernel_rfl) (fun _ _ _ h => h) (Or.inl ⟨by rfl, by intro wx hSw; obtain ⟨hSw1, hSw2⟩ := hSw; go_simp; try with_reducible rfl⟩) (by assumption) ?_
            (try simp only [Act.put, List.setIfInBounds_toArray, List.set_cons_zero, List.set_cons_succ])
            refine take_first 8 (v := ?_) rfl (by kernel_rfl) (by kernel_rfl) (by kernel_rfl) (fun _ _ _ h => h) (Or.inl ⟨by rfl, by intro wx hSw; obtain ⟨hSw1, hSw2⟩ := hSw; go_simp; try with_reducible rfl⟩) (by assumption) ?_
            (try simp only [Act.put, List.setIfInBounds_toArray, List.set_cons_zero, List.set_cons_succ])
            refine take_first 9 (v := ?_) rfl (by kernel_rfl) (by kernel_rfl) (by kernel_rfl) (fun _ _ _ h => h) (Or.inl ⟨by rfl, by intro wx hSw; obtain ⟨hSw1, hSw2⟩ := hSw; go_simp; try with_reducible rfl⟩) (by assumption) ?_
            (try simp only [Act.put, List.setIfInBounds_toArray, List.set_cons_zero, List.set_cons_succ])
            refine take_first 10 (v := ?_) rfl (by kernel_rfl) (by kernel_rfl) (by kernel_rfl) (fun _ _ _ h => h) (Or.inl ⟨by rfl, by intro wx hSw; obtain ⟨hSw1, hSw2⟩ := hSw; go_simp; try with_reducible rfl⟩) (by assumption) ?_
            (try simp only [Act.put, List.setIfInBounds_toArray, List.set_cons_zero, List.set_cons_succ])
            refine comes_up 5 rfl (by kernel_rfl) (fun K hK => ?_)
            go_simp
            refine (arm_pl hpl hbq (by omega) l1 (by omega) (by omega)).mono ?_
            rintro e w4 ⟨rfl, V4, tp4, bq4⟩
            go_wp2_with fail
            refine hK.out _ _ ⟨bq4.c1, bq4.c2⟩ (fun hHeld => ?_)
            clear hK K
            (try simp only [Act.put, List.setIfInBounds_toArray, List.set_cons_zero, List.set_cons_succ])
            refine comes_up 11 rfl (by kernel_rfl) (fun K hK => ?_)
            go_simp
            refine (rarm_pl tp4 bq4 (by omega) (by omega) (by omega)).mono ?_
            rintro e w5 ⟨rfl, v5, tp, bq⟩
            go_wp2_with fail
            refine hK.out _ _ ⟨bq.c1, bq.c2⟩ (fun hHeld => ?_)
            clear hK K
            (try simp only [Act.put, List.setIfInBounds_toArray, List.set_cons_zero, List.set_cons_succ])
            refine take_first 12 (v := ?_) rfl (by kernel_rfl) (by kernel_rfl) (by kernel_rfl) (fun _ _ _ h => h) (Or.inl ⟨by rfl, by intro wx hSw; obtain ⟨hSw1, hSw2⟩ := hSw; go_simp; try with_reducible rfl⟩) (by assumption) ?_
            (try simp only [Act.put, List.setIfInBounds_toArray, List.set_cons_zero, List.set_cons_succ])
            refine wpAnyH_done (by kernel_rfl) ?_ _
            refine NoPanic.normal ?_
            have hlen := tp.one.len_le
            have htl := tp.one.now_le
            obtain ⟨av, cv, rfl, _, _⟩ := row_shape tp.two.row
            have hdue := due_any _ p m _ _ _ _ tp.one id l1
            have HN := fun (o : Obj) (q : Nat) => same_back (now_any _ p m _ _ _ _ (tp.other (((Turned.refl _ _).alloc o).drewN q)).one)
            have HL := fun (o : Obj) (q : Nat) => same_back (len_any _ p m _ _ _ _ (tp.other (((Turned.refl _ _).alloc o).drewN q)).one)
            have hrd := fun (o : Obj) => rdue_any _ r _ _ _ (tp.other ((Turned.refl _ _).alloc o)).two id (by omega)
            have hb1 := bq.c1
            have hb6 := fun (o : Obj) => (bq.other ((Turned.refl _ _).alloc o)).c1
            have hr0 := fun (o : Obj) => (tp.other ((Turned.refl _ _).alloc o)).two.c0
            have hr1 := fun (o : Obj) => (tp.other ((Turned.refl _ _).alloc o)).two.c1
            have HP := Hidden.mk (fun (o : Obj) (q : Nat) => tp.other (((Turned.refl _ _).alloc o).drewN q))
            clear tp bq tp4 bq4 hpl hbq hHeld HTP hAl
            generalize List.lookup id _ = lk at hdue hrd
            generalize List.length _ = nn at hlen HL hr1
            go_wp2_with fail
            refine hdue.mono ?_
            rintro e w6 ⟨rfl, o6, rfl⟩
            have hb6' := hb6 o6
            have hr0' := hr0 o6
            have hr1' := hr1 o6
            have hrd' := hrd o6
            have HN' := HN o6
            have HL' := HL o6
            clear hdue hrd hb6 hr0 hr1 HN HL
            go_wp2_with fail
            refine hrd'.mono ?_
            rintro e w7 ⟨rfl, rfl⟩
            clear hrd'
            cases lk with
            | none =>
              simp only [errOf, okOf, Option.getD]
              go_wp2_with fail
              go_quiet (first | (go_at_call 21; refine Calls.quiet_of_same (HN' _)) | (go_at_call 22; refine Calls.quiet_of_same (HL' _)))
              go_wp2_with fail
              go_roundw
              case rel => exact ⟨k + 1, _, ra + 1, _, _, _, by omega, by omega, by omega, by go_num, HP.out o6 nq⟩
              case measure => simp [intOf]; omega
            | some d =>
              simp only [errOf, okOf, Option.getD]
              go_wp2_with fail
              go_quiet (first | (go_at_call 21; refine Calls.quiet_of_same (HN' _)) | (go_at_call 22; refine Calls.quiet_of_same (HL' _)))
              go_wp2_with fail
              go_roundw
              case rel => exact ⟨k + 1, _, ra + 1, _, _, _, by omega, by omega, by omega, by go_num, HP.out o6 nq⟩
              case measure => simp [intOf]; omega
        by_cases q3 : kind % 6 = 3
        · have q3' : (kind : Int) % 6 = 3 := by omega
          go_wp2_with fail
          have hpl := H1.out
          have hbq := H2.out
          have hcan := cancel_pl hpl hbq (by omega) l1
          obtain ⟨er, HLK⟩ : ∃ er, Hid (errOf (A.lookup id) = er) := ⟨_, rfl⟩
          rw [HLK.out] at hcan
          clear H1 H2 c0 c1 c2
          refine wp_region_noPanic ?_
          refine wp_region_held_drew (S := fun wx => wx.cell? ⟨wr.heap.size, 1, none⟩ = some (.int .i64 id) ∧ wx.cell? ⟨wr.heap.size, 2, none⟩ = some (.int .u64 (inn : Nat))) (by kernel_rfl) ⟨hbq.c1, hbq.c2⟩ (fun hHeld => ?_)
          refine take_first 0 (v := ?_) rfl (by kernel_rfl) (by kernel_rfl) (by kernel_rfl) (fun _ _ _ h => h) (Or.inl ⟨by rfl, by intro wx hSw; obtain ⟨hSw1, hSw2⟩ := hSw; go_simp; try with_reducible rfl⟩) (by assumption) ?_
          (try simp only [Act.put, List.setIfInBounds_toArray, List.set_cons_zero, List.set_cons_succ])
          refine take_first 1 (v := ?_) rfl (by kernel_rfl) (by kernel_rfl) (by kernel_rfl) (fun _ _ _ h => h) (Or.inl ⟨by rfl, by intro wx hSw; obtain ⟨hSw1, hSw2⟩ := hSw; go_simp; try with_reducible rfl⟩) (by assumption) ?_
          (try simp only [Act.put, List.setIfInBounds_toArray, List.set_cons_zero, List.set_cons_succ])
          refine take_first 2 (v := ?_) rfl (by kernel_rfl) (by kernel_rfl) (by kernel_rfl) (fun _ _ _ h => h) (Or.inl ⟨by rfl, by intro wx hSw; obtain ⟨hSw1, hSw2⟩ := hSw; go_simp; try with_reducible rfl⟩) (by assumption) ?_
          (try simp only [Act.put, List.setIfInBounds_toArray, List.set_cons_zero, List.set_cons_succ])
          refine take_first 5 (v := ?_) rfl (by kernel_rfl) (by kernel_rfl) (by kernel_rfl) (fun _ _ _ h => h) (Or.inl ⟨by rfl, by intro wx hSw; obtain ⟨hSw1, hSw2⟩ := hSw; go_simp; try with_reducible rfl⟩) (by assumption) ?_
          (try simp only [Act.put, List.setIfInBounds_toArray, List.set_cons_zero, List.set_cons_succ])
          refine take_first 6 (v := ?_) rfl (by kernel_rfl) (by kernel_rfl) (by kernel_rfl) (fun _ _ _ h => h) (Or.inl ⟨by rfl, by intro wx hSw; obtain ⟨hSw1, hSw2⟩ := hSw; go_simp; try with_reducible rfl⟩) (by assumption) ?_
          (try simp only [Act.put, List.setIfInBounds_toArray, List.set_cons_zero, List.set_cons_succ])
          refine take_first 7 (v := ?_) rfl (by kernel_rfl) (by kernel_rfl) (by kernel_rfl) (fun _ _ _ h => h) (Or.inl ⟨by rfl, by intro wx hSw; obtain ⟨hSw1, hSw2⟩ := hSw; go_simp; try with_reducible rfl⟩) (by assumption) ?_
          (try simp only [Act.put, List.setIfInBounds_toArray, List.set_cons_zero, List.set_cons_succ])
          refine comes_up 3 rfl (by kernel_rfl) (fun K hK => ?_)
          go_simp
          refine (hcan).mono ?_
          rintro e w4 ⟨rfl, V4, tp4, bq4⟩
          go_wp2_with fail
          refine hK.out _ _ ⟨bq4.c1, bq4.c2⟩ (fun hHeld => ?_)
          clear hK K
          (try simp only [Act.put, List.setIfInBounds_toArray, List.set_cons_zero, List.set_cons_succ])
          have hrc := rcancel_pl tp4 bq4 (by omega)
          rw [less_iff, HLK.out] at hrc
          refine take_first 4 (v := ?_) rfl (by kernel_rfl) (by kernel_rfl) (by kernel_rfl) (fun _ _ _ h => h) (Or.inl ⟨by rfl, by intro wx hSw; obtain ⟨hSw1, hSw2⟩ := hSw; go_simp; try with_reducible rfl⟩) (by assumption) ?_
          (try simp only [Act.put, List.setIfInBounds_toArray, List.set_cons_zero, List.set_cons_succ])
          refine comes_up 8 rfl (by kernel_rfl) (fun K hK => ?_)
          go_simp
          refine (hrc).mono ?_
          rintro e w5 ⟨rfl, v5, tp, bq⟩
          go_wp2_with fail
          refine hK.out _ _ ⟨bq.c1, bq.c2⟩ (fun hHeld => ?_)
          clear hK K
          (try simp only [Act.put, List.setIfInBounds_toArray, List.set_cons_zero, List.set_cons_succ])
          refine take_first 9 (v := ?_) rfl (by kernel_rfl) (by kernel_rfl) (by kernel_rfl) (fun _ _ _ h => h) (Or.inl ⟨by rfl, by intro wx hSw; obtain ⟨hSw1, hSw2⟩ := hSw; go_simp; try with_reducible rfl⟩) (by assumption) ?_
          (try simp only [Act.put, List.setIfInBounds_toArray, List.set_cons_zero, List.set_cons_succ])
          refine wpAnyH_done (by kernel_rfl) ?_ _
          refine NoPanic.normal ?_
          have hlen := tp.one.len_le
          have htl := tp.one.now_le
          obtain ⟨av, cv, rfl, _, _⟩ := row_shape tp.two.row
          have hdue := due_any _ p m _ _ _ _ tp.one id l1
          have HN := fun (o : Obj) (q : Nat) => same_back (now_any _ p m _ _ _ _ (tp.other (((Turned.refl _ _).alloc o).drewN q)).one)
          have HL := fun (o : Obj) (q : Nat) => same_back (len_any _ p m _ _ _ _ (tp.other (((Turned.refl _ _).alloc o).drewN q)).one)
          have hrd := fun (o : Obj) => rdue_any _ r _ _ _ (tp.other ((Turned.refl _ _).alloc o)).two id (by omega)
          have hb1 := bq.c1
          have hb6 := fun (o : Obj) => (bq.other ((Turned.refl _ _).alloc o)).c1
          have hr0 := fun (o : Obj) => (tp.other ((Turned.refl _ _).alloc o)).two.c0
          have hr1 := fun (o : Obj) => (tp.other ((Turned.refl _ _).alloc o)).two.c1
          have HP := Hidden.mk (fun (o : Obj) (q : Nat) => tp.other (((Turned.refl _ _).alloc o).drewN q))
          clear tp bq tp4 bq4 hpl hbq hHeld HTP hAl hcan hrc
          generalize List.lookup id _ = lk at hdue hrd
          generalize List.length _ = nn at hlen HL hr1
          go_wp2_with fail
          refine hdue.mono ?_
          rintro e w6 ⟨rfl, o6, rfl⟩
          have hb6' := hb6 o6
          have hr0' := hr0 o6
          have hr1' := hr1 o6
          have hrd' := hrd o6
          have HN' := HN o6
          have HL' := HL o6
          clear hdue hrd hb6 hr0 hr1 HN HL
          go_wp2_with fail
          refine hrd'.mono ?_
          rintro e w7 ⟨rfl, rfl⟩
          clear hrd'
          cases lk with
          | none =>
            simp only [errOf, okOf, Option.getD]
            go_wp2_with fail
            go_quiet (first | (go_at_call 21; refine Calls.quiet_of_same (HN' _)) | (go_at_call 22; refine Calls.quiet_of_same (HL' _)))
            go_wp2_with fail
            go_roundw
            case rel => exact ⟨k + 1, _, ra, _, _, _, by omega, by omega, by omega, by go_num, HP.out o6 nq⟩
            case measure => simp [intOf]; omega
          | some d =>
            simp only [errOf, okOf, Option.getD]
            go_wp2_with fail
            go_quiet (first | (go_at_call 21; refine Calls.quiet_of_same (HN' _)) | (go_at_call 22; refine Calls.quiet_of_same (HL' _)))
            go_wp2_with fail
            go_roundw
            case rel => exact ⟨k + 1, _, ra, _, _, _, by omega, by omega, by omega, by go_num, HP.out o6 nq⟩
            case measure => simp [intOf]; omega
        have q0' : ¬ ((kind : Int) % 6 = 0) := by omega
        have q1' : ¬ ((kind : Int) % 6 = 1) := by omega
        have q2' : ¬ ((kind : Int) % 6 = 2) := by omega
        have q3' : ¬ ((kind : Int) % 6 = 3) := by omega
        have e0 : ((kind : Int) % 6 == 0) = false := by simpa using q0'
        have e1 : ((kind : Int) % 6 == 1) = false := by simpa using q1'
        have e2 : ((kind : Int) % 6 == 2) = false := by simpa using q2'
        have e3 : ((kind : Int) % 6 == 3) = false := by simpa using q3'
        by_cases q4 : kind % 6 = 4
        · have q4' : (kind : Int) % 6 = 4 := by omega
          have e4 : ((kind : Int) % 6 == 4) = true := by simp [q4']
          obtain ⟨N, hN3, hNl⟩ : ∃ N : Nat, (inn : Int) % 300 = N ∧ N < 300 := ⟨inn % 300, by omega, by omega⟩
          have H3 : Hid (Pl w1 (wr.alloc (Obj.cells #[.int .u8 (kind : Nat), .int .i64 id, .int .u64 (inn : Nat)] 34)) p m V t ra A r v t A ∧ Bq (wr.alloc (Obj.cells #[.int .u8 (kind : Nat), .int .i64 id, .int .u64 (inn : Nat)] 34)) wr.heap.size kind id inn p m V r v) :=
            ⟨HTP.out.other ((Turned.refl _ wr).alloc _), ⟨heap_alloc_new wr _, H2.out.no1, H2.out.no2⟩⟩
          clear H1 H2 HTP
          go_wp2_with fail
          have hdec : decide ((k : Int) < 80) = true := by simp; omega
          try rw [e0]
          try rw [e1]
          try rw [e2]
          try rw [e3]
          try rw [e4]
          try rw [hdec]
          try rw [hN3]
          try rw [q4']
          clear e0 e1 e2 e3 e4 hdec q0' q1' q2' q3' q4' q0 q1 q2 q3 q4 hN3 c0 c1 c2
          obtain ⟨bx, hbx⟩ : ∃ bx, wr.heap.size = bx := ⟨_, rfl⟩
          obtain ⟨wo, hwo⟩ : ∃ wo : World, wo = wr := ⟨_, rfl⟩
          rw [hbx] at H3 ⊢
          go_loopw [11] (fun i wd => ∃ c tt B Vc vc, c ≤ N ∧ i = .int .i64 (c : Nat) ∧ Pl w1 wd p m Vc tt ra B r vc tt B ∧ Bq wd bx kind id inn p m Vc r vc) (fun i _ => N - (intOf i).toNat)
          case atStart => exact ⟨0, t, A, V, v, by omega, rfl, H3.out.1, H3.out.2⟩
          case round =>
            obtain ⟨c, tt, B, Vc, vc, hc1, rfl, tc, bc⟩ := hrel
            clear H3
            by_cases hlast : c = N
            · have tp := tc
              have bq := bc
              clear tc bc hAl
              subst hlast
              have hlen := tp.one.len_le
              have htl := tp.one.now_le
              obtain ⟨av, cv, rfl, _, _⟩ := row_shape tp.two.row
              have hdue := due_any _ p m _ _ _ _ tp.one id l1
              have HN := fun (o : Obj) (q : Nat) => same_back (now_any _ p m _ _ _ _ (tp.other (((Turned.refl _ _).alloc o).drewN q)).one)
              have HL := fun (o : Obj) (q : Nat) => same_back (len_any _ p m _ _ _ _ (tp.other (((Turned.refl _ _).alloc o).drewN q)).one)
              have hrd := fun (o : Obj) => rdue_any _ r _ _ _ (tp.other ((Turned.refl _ _).alloc o)).two id (by omega)
              have hb1 := bq.c1
              have hb6 := fun (o : Obj) => (bq.other ((Turned.refl _ _).alloc o)).c1
              have hr0 := fun (o : Obj) => (tp.other ((Turned.refl _ _).alloc o)).two.c0
              have hr1 := fun (o : Obj) => (tp.other ((Turned.refl _ _).alloc o)).two.c1
              have HP := Hidden.mk (fun (o : Obj) (q : Nat) => tp.other (((Turned.refl _ _).alloc o).drewN q))
              clear tp bq 
              generalize List.lookup id _ = lk at hdue hrd
              generalize List.length _ = nn at hlen HL hr1
              go_wp2_with fail
              refine hdue.mono ?_
              rintro e w6 ⟨rfl, o6, rfl⟩
              have hb6' := hb6 o6
              have hr0' := hr0 o6
              have hr1' := hr1 o6
              have hrd' := hrd o6
              have HN' := HN o6
              have HL' := HL o6
              clear hdue hrd hb6 hr0 hr1 HN HL
              go_wp2_with fail
              refine hrd'.mono ?_
              rintro e w7 ⟨rfl, rfl⟩
              clear hrd'
              cases lk with
              | none =>
                simp only [errOf, okOf, Option.getD]
                go_wp2_with fail
                go_quiet (first | (go_at_call 21; refine Calls.quiet_of_same (HN' _)) | (go_at_call 22; refine Calls.quiet_of_same (HL' _)))
                go_wp2_with fail
                go_roundw
                case rel => exact ⟨k + 1, _, ra, _, _, _, by omega, by omega, by omega, by go_num, HP.out o6 nq⟩
                case measure => simp [intOf]; omega
              | some d =>
                simp only [errOf, okOf, Option.getD]
                go_wp2_with fail
                go_quiet (first | (go_at_call 21; refine Calls.quiet_of_same (HN' _)) | (go_at_call 22; refine Calls.quiet_of_same (HL' _)))
                go_wp2_with fail
                go_roundw
                case rel => exact ⟨k + 1, _, ra, _, _, _, by omega, by omega, by omega, by go_num, HP.out o6 nq⟩
                case measure => simp [intOf]; omega
            · have hBl := tc.one.len_le
              have httl := tc.one.now_le
              have hdl := due_len B (tt + 1)
              have hrl := tc.two.lt r (.inl rfl)
              by_cases htt : tt = 1152921504606846976
              · subst htt
                have ht1 := tick_last_wh wr p m Vc ra B tc.one
                have HT : Hid (∀ (o : Obj) (q : Nat), Pl w1 ((wr.alloc o).drewN q) p m Vc 1152921504606846976 ra B r vc 1152921504606846976 B ∧ Bq ((wr.alloc o).drewN q) bx kind id inn p m Vc r vc) := fun o q => ⟨tc.other (((Turned.refl _ wr).alloc o).drewN q), bc.other (((Turned.refl _ wr).alloc o).drewN q)⟩
                have ht2 := fun (o : Obj) => rtick_last (wr.alloc o) r vc B (tc.other ((Turned.refl _ wr).alloc o)).two
                clear tc bc
                go_wp2_with fail
                refine ht1.mono ?_
                rintro e w4 ⟨rfl, o4, rfl⟩
                go_wp2_with fail
                refine (ht2 o4).mono ?_
                rintro e w5 ⟨rfl, rfl⟩
                have hsame := same_any (wr.alloc o4) (.slice none 0 0) (.slice none 0 0) [] [] ⟨rfl, .inl ⟨rfl, rfl⟩⟩ ⟨rfl, .inl ⟨rfl, rfl⟩⟩ (by simp) (by simp)
                rw [decide_eq_true rfl] at hsame
                clear ht1 ht2
                go_wp2_with fail
                refine hsame.mono ?_
                rintro e w6 ⟨rfl, q, rfl⟩
                go_wp2_with fail
                go_roundw
                case rel => first | exact ⟨c + 1, _, B, Vc, vc, by omega, by go_num, (HT.out o4 q).1, (HT.out o4 q).2⟩ | ((repeat apply Exists.intro); exact ⟨⟨c + 1, _, B, Vc, vc, by omega, by go_num, (HT.out o4 q).1, (HT.out o4 q).2⟩, rfl⟩)
                case measure => simp [intOf]; omega
              · have ht1 := tick_wh wr p m Vc tt ra B tc.one (by omega) (by omega)
                have TC : Hid (Pl w1 wr p m Vc tt ra B r vc tt B ∧ Bq wr bx kind id inn p m Vc r vc) := ⟨tc, bc⟩
                clear tc bc
                go_wp2_with fail
                refine ht1.mono ?_
                rintro e w4 ⟨v4, V4, rfl, row4, k4, g4, n4⟩
                have tp4 := TC.out.1.wheel k4 g4
                have bq4 := TC.out.2.wheel g4
                have ht2 := rtick_any w4 r vc tt B tp4.two (by omega) (by omega)
                have R4 : Hid (w4.ownsRow wr.heap.size 3 1 v4 (dueAt B (tt + 1)).length ((dueAt B (tt + 1)).map (Value.int .i64))) := row4
                have T4 : Hid (Pl w1 w4 p m V4 (tt + 1) ra (leftAt B (tt + 1)) r vc tt B ∧ Bq w4 bx kind id inn p m V4 r vc) := ⟨tp4, bq4⟩
                clear ht1 row4 k4 g4 n4 tp4 bq4
                go_wp2_with fail
                refine ht2.mono ?_
                rintro e w5 ⟨o5, v5, rfl, row5, k5, u5, n5, s5⟩
                have i4 : Ints w5 v4 (dueAt B (tt + 1)) := row_block (row_base R4.out (Nat.zero_le _)) (fun b hb => u5.block b (R4.out.lt b hb).2 (fun e => by have := (R4.out.lt b hb).1; omega))
                have i5 : Ints w5 o5 (dueAt B (tt + 1)) := row_base row5 (Nat.zero_le _)
                have hsame := same_any w5 v4 o5 _ _ i4 i5 (by omega) (by omega)
                rw [decide_eq_true rfl] at hsame
                have HT : Hid (∀ q : Nat, Pl w1 (w5.drewN q) p m V4 (tt + 1) ra (leftAt B (tt + 1)) r v5 (tt + 1) (leftAt B (tt + 1)) ∧ Bq (w5.drewN q) bx kind id inn p m V4 r v5) := fun q => ⟨(T4.out.1.list k5 u5 n5).other ((Turned.refl _ w5).drewN q), (T4.out.2.list u5 n5).other ((Turned.refl _ w5).drewN q)⟩
                clear ht2 row5 k5 u5 n5 s5 i4 i5 R4 T4
                go_wp2_with fail
                refine hsame.mono ?_
                rintro e w6 ⟨rfl, q, rfl⟩
                go_wp2_with fail
                go_roundw
                case rel => first | exact ⟨c + 1, _, _, V4, v5, by omega, by go_num, (HT.out q).1, (HT.out q).2⟩ | ((repeat apply Exists.intro); exact ⟨⟨c + 1, _, _, V4, v5, by omega, by go_num, (HT.out q).1, (HT.out q).2⟩, rfl⟩)
                case measure => simp [intOf]; omega
        · have q4' : ¬ ((kind : Int) % 6 = 4) := by omega
          have e4 : ((kind : Int) % 6 == 4) = false := by simpa using q4'
          have H3 : Hid (Pl w1 (wr.alloc (Obj.cells #[.int .u8 (kind : Nat), .int .i64 id, .int .u64 (inn : Nat)] 34)) p m V t ra A r v t A ∧ Bq (wr.alloc (Obj.cells #[.int .u8 (kind : Nat), .int .i64 id, .int .u64 (inn : Nat)] 34)) wr.heap.size kind id inn p m V r v) :=
            ⟨HTP.out.other ((Turned.refl _ wr).alloc _), ⟨heap_alloc_new wr _, H2.out.no1, H2.out.no2⟩⟩
          clear H1 H2 HTP
          go_wp2_with fail
          have hdec : decide ((k : Int) < 80) = true := by simp; omega
          try rw [e0]
          try rw [e1]
          try rw [e2]
          try rw [e3]
          try rw [e4]
          try rw [hdec]
          clear e0 e1 e2 e3 e4 hdec q0' q1' q2' q3' q4' q0 q1 q2 q3 q4 c0 c1 c2
          obtain ⟨bx, hbx⟩ : ∃ bx, wr.heap.size = bx := ⟨_, rfl⟩
          obtain ⟨wo, hwo⟩ : ∃ wo : World, wo = wr := ⟨_, rfl⟩
          rw [hbx] at H3 ⊢
          go_loopw [11] (fun i wd => ∃ c tt B Vc vc, c ≤ 1 ∧ i = .int .i64 (c : Nat) ∧ Pl w1 wd p m Vc tt ra B r vc tt B ∧ Bq wd bx kind id inn p m Vc r vc) (fun i _ => 1 - (intOf i).toNat)
          case atStart => exact ⟨0, t, A, V, v, by omega, rfl, H3.out.1, H3.out.2⟩
          case round =>
            obtain ⟨c, tt, B, Vc, vc, hc1, rfl, tc, bc⟩ := hrel
            clear H3
            by_cases hlast : c = 1
            · have tp := tc
              have bq := bc
              clear tc bc hAl
              subst hlast
              have hlen := tp.one.len_le
              have htl := tp.one.now_le
              obtain ⟨av, cv, rfl, _, _⟩ := row_shape tp.two.row
              have hdue := due_any _ p m _ _ _ _ tp.one id l1
              have HN := fun (o : Obj) (q : Nat) => same_back (now_any _ p m _ _ _ _ (tp.other (((Turned.refl _ _).alloc o).drewN q)).one)
              have HL := fun (o : Obj) (q : Nat) => same_back (len_any _ p m _ _ _ _ (tp.other (((Turned.refl _ _).alloc o).drewN q)).one)
              have hrd := fun (o : Obj) => rdue_any _ r _ _ _ (tp.other ((Turned.refl _ _).alloc o)).two id (by omega)
              have hb1 := bq.c1
              have hb6 := fun (o : Obj) => (bq.other ((Turned.refl _ _).alloc o)).c1
              have hr0 := fun (o : Obj) => (tp.other ((Turned.refl _ _).alloc o)).two.c0
              have hr1 := fun (o : Obj) => (tp.other ((Turned.refl _ _).alloc o)).two.c1
              have HP := Hidden.mk (fun (o : Obj) (q : Nat) => tp.other (((Turned.refl _ _).alloc o).drewN q))
              clear tp bq 
              generalize List.lookup id _ = lk at hdue hrd
              generalize List.length _ = nn at hlen HL hr1
              go_wp2_with fail
              refine hdue.mono ?_
              rintro e w6 ⟨rfl, o6, rfl⟩
              have hb6' := hb6 o6
              have hr0' := hr0 o6
              have hr1' := hr1 o6
              have hrd' := hrd o6
              have HN' := HN o6
              have HL' := HL o6
              clear hdue hrd hb6 hr0 hr1 HN HL
              go_wp2_with fail
              refine hrd'.mono ?_
              rintro e w7 ⟨rfl, rfl⟩
              clear hrd'
              cases lk with
              | none =>
                simp only [errOf, okOf, Option.getD]
                go_wp2_with fail
                go_quiet (first | (go_at_call 21; refine Calls.quiet_of_same (HN' _)) | (go_at_call 22; refine Calls.quiet_of_same (HL' _)))
                go_wp2_with fail
                go_roundw
                case rel => exact ⟨k + 1, _, ra, _, _, _, by omega, by omega, by omega, by go_num, HP.out o6 nq⟩
                case measure => simp [intOf]; omega
              | some d =>
                simp only [errOf, okOf, Option.getD]
                go_wp2_with fail
                go_quiet (first | (go_at_call 21; refine Calls.quiet_of_same (HN' _)) | (go_at_call 22; refine Calls.quiet_of_same (HL' _)))
                go_wp2_with fail
                go_roundw
                case rel => exact ⟨k + 1, _, ra, _, _, _, by omega, by omega, by omega, by go_num, HP.out o6 nq⟩
                case measure => simp [intOf]; omega
            · have hBl := tc.one.len_le
              have httl := tc.one.now_le
              have hdl := due_len B (tt + 1)
              have hrl := tc.two.lt r (.inl rfl)
              by_cases htt : tt = 1152921504606846976
              · subst htt
                have ht1 := tick_last_wh wr p m Vc ra B tc.one
                have HT : Hid (∀ (o : Obj) (q : Nat), Pl w1 ((wr.alloc o).drewN q) p m Vc 1152921504606846976 ra B r vc 1152921504606846976 B ∧ Bq ((wr.alloc o).drewN q) bx kind id inn p m Vc r vc) := fun o q => ⟨tc.other (((Turned.refl _ wr).alloc o).drewN q), bc.other (((Turned.refl _ wr).alloc o).drewN q)⟩
                have ht2 := fun (o : Obj) => rtick_last (wr.alloc o) r vc B (tc.other ((Turned.refl _ wr).alloc o)).two
                clear tc bc
                go_wp2_with fail
                refine ht1.mono ?_
                rintro e w4 ⟨rfl, o4, rfl⟩
                go_wp2_with fail
                refine (ht2 o4).mono ?_
                rintro e w5 ⟨rfl, rfl⟩
                have hsame := same_any (wr.alloc o4) (.slice none 0 0) (.slice none 0 0) [] [] ⟨rfl, .inl ⟨rfl, rfl⟩⟩ ⟨rfl, .inl ⟨rfl, rfl⟩⟩ (by simp) (by simp)
                rw [decide_eq_true rfl] at hsame
                clear ht1 ht2
                go_wp2_with fail
                refine hsame.mono ?_
                rintro e w6 ⟨rfl, q, rfl⟩
                go_wp2_with fail
                go_roundw
                case rel => first | exact ⟨c + 1, _, B, Vc, vc, by omega, by go_num, (HT.out o4 q).1, (HT.out o4 q).2⟩ | ((repeat apply Exists.intro); exact ⟨⟨c + 1, _, B, Vc, vc, by omega, by go_num, (HT.out o4 q).1, (HT.out o4 q).2⟩, rfl⟩)
                case measure => simp [intOf]; omega
              · have ht1 := tick_wh wr p m Vc tt ra B tc.one (by omega) (by omega)
                have TC : Hid (Pl w1 wr p m Vc tt ra B r vc tt B ∧ Bq wr bx kind id inn p m Vc r vc) := ⟨tc, bc⟩
                clear tc bc
                go_wp2_with fail
                refine ht1.mono ?_
                rintro e w4 ⟨v4, V4, rfl, row4, k4, g4, n4⟩
                have tp4 := TC.out.1.wheel k4 g4
                have bq4 := TC.out.2.wheel g4
                have ht2 := rtick_any w4 r vc tt B tp4.two (by omega) (by omega)
                have R4 : Hid (w4.ownsRow wr.heap.size 3 1 v4 (dueAt B (tt + 1)).length ((dueAt B (tt + 1)).map (Value.int .i64))) := row4
                have T4 : Hid (Pl w1 w4 p m V4 (tt + 1) ra (leftAt B (tt + 1)) r vc tt B ∧ Bq w4 bx kind id inn p m V4 r vc) := ⟨tp4, bq4⟩
                clear ht1 row4 k4 g4 n4 tp4 bq4
                go_wp2_with fail
                refine ht2.mono ?_
                rintro e w5 ⟨o5, v5, rfl, row5, k5, u5, n5, s5⟩
                have i4 : Ints w5 v4 (dueAt B (tt + 1)) := row_block (row_base R4.out (Nat.zero_le _)) (fun b hb => u5.block b (R4.out.lt b hb).2 (fun e => by have := (R4.out.lt b hb).1; omega))
                have i5 : Ints w5 o5 (dueAt B (tt + 1)) := row_base row5 (Nat.zero_le _)
                have hsame := same_any w5 v4 o5 _ _ i4 i5 (by omega) (by omega)
                rw [decide_eq_true rfl] at hsame
                have HT : Hid (∀ q : Nat, Pl w1 (w5.drewN q) p m V4 (tt + 1) ra (leftAt B (tt + 1)) r v5 (tt + 1) (leftAt B (tt + 1)) ∧ Bq (w5.drewN q) bx kind id inn p m V4 r v5) := fun q => ⟨(T4.out.1.list k5 u5 n5).other ((Turned.refl _ w5).drewN q), (T4.out.2.list u5 n5).other ((Turned.refl _ w5).drewN q)⟩
                clear ht2 row5 k5 u5 n5 s5 i4 i5 R4 T4
                go_wp2_with fail
                refine hsame.mono ?_
                rintro e w6 ⟨rfl, q, rfl⟩
                go_wp2_with fail
                go_roundw
                case rel => first | exact ⟨c + 1, _, _, V4, v5, by omega, by go_num, (HT.out q).1, (HT.out q).2⟩ | ((repeat apply Exists.intro); exact ⟨⟨c + 1, _, _, V4, v5, by omega, by go_num, (HT.out q).1, (HT.out q).2⟩, rfl⟩)
                case measure => simp [intOf]; omega
      · have HB : Hid (Below w.heap.size w wr) := (t1.trans tw.f1.turned (fun i hi => .inl hi)).below (Nat.le_refl _) (fun i hi => hi.elim)
        clear tw
        by_cases hkl : k < len
        · have hk80 : ¬ ((k : Int) < 80) := by omega
          go_wp2_with fail
          go_ret
          exact ⟨rfl, HB.out⟩
        · have hkn : ¬ ((k : Int) < len) := by omega
          go_wp2_with fail
          go_ret
          exact ⟨rfl, HB.out⟩

set_option maxRecDepth 100000 in
theorem lifted (os : Os) (started : os.Started) (H : Type) (enc : TypeId × Value → H) :
    ReturnsInHanded {} Try.checked os 3 .any (Rows.wheelPlaysSpec.pre6 enc Try.prog Try.f3 Rows.wheelPlaysRow.domain false) (Rows.wheelPlaysSpec.post enc Try.prog Try.f3 false true false false) := by
  refine returnsInHanded_of_change (C := Try.checked) own started (by kernel_rfl) Try.func3
    (ChangeSpec.witness6 (enc := enc) (C := Try.checked) false ⟨#[], #[.int .u64 0, .slice none 0 0], []⟩ 3 (by kernel_rfl) (by kernel_rfl) (by kernel_rfl) (by kernel_rfl)) ?_
  intro W base args ds gs before hval0 hW hcnd _
  have hval : ∀ (j : Nat) t v, Try.f3.params[j]? = some t → args[j]? = some v → Value.okWide Try.prog W .any base t v := hval0
  have hW' := hW
  obtain ⟨p, q, hA0, hV, rfl, hfz, hnd⟩ := hW
  have hA : DataW.TrodAll enc Try.prog W 0 (fun _ => true) true Try.f3.params.toList args.toList ds p := hA0
  rw [Try.params3] at hA hval
  obtain ⟨v0, vs0, d0, ds0, p0, q0, hargs0, rfl, rfl, h0, r0⟩ := trodAll_cons hA
  obtain ⟨v1, vs1, d1, ds1, p1, q1, hargs1, rfl, rfl, h1, r1⟩ := trodAll_cons r0
  obtain ⟨rfl, rfl, rfl⟩ := trodAll_nil r1
  obtain rfl : args = #[v0, v1] := by cases args; simp_all
  obtain ⟨rfl, rfl⟩ := trodVars_none hV
  obtain ⟨a0, rfl, rfl, rfl, w0⟩ := open_int Try.underlying22 (hval 0 22 v0 rfl rfl) h0
  obtain ⟨a1, len1, cap1, rfl⟩ := okWide_slice Try.underlying23 (hval 1 23 v1 rfl rfl)
  have k1 := h1
  have lt1 : ∀ x ∈ p1, x.block < W.heap.size := by obtain ⟨m, hm⟩ := k1; exact DataW.trod_lt m _ _ _ hm
  obtain ⟨xs1, hx1⟩ := open_acts h1
  clear hA0 hval0
  obtain ⟨n0, rfl, hn0⟩ := u64_of_wf w0
  refine (walk W n0 hn0 a1 len1 cap1 xs1 hx1).mono fun e W' ⟨he, bel⟩ => ?_
  subst he
  exact ⟨_, rfl, _, _, _, [], _, [], hW', trodAll_mk1 (shut_bool Try.underlying4 _), (trodAll_cons_mk (shut_int Try.underlying22 w0) (trodAll_cons_mk (Below.trod laidOut (by kernel_rfl) (of_decide_eq_true (by kernel_rfl)) k1 bel lt1) trodAll_mk0)), rfl, bel.frame _, fun h => by cases h⟩

theorem over : Rows.wheelPlaysRow.holds Try.pinned (OpenSpec.ofChange Rows.wheelPlaysSpec) :=
  OpenClaim.holds_of_wide 3 Try.f3 rfl rfl rfl rfl rfl rfl rfl ⟨rfl, rfl, rfl, rfl, rfl⟩ rfl rfl rfl rfl rfl (by kernel_rfl) Try.func3 (by kernel_rfl)
    (of_decide_eq_true (by kernel_rfl)) (by unfold Func.isWrapper; first | (rw [if_pos (by decide +kernel)]; kernel_rfl) | (rw [if_neg (by decide +kernel)]; exact ⟨rfl, rfl⟩))
    (fun os started H enc _ => lifted os started H enc)

end Go.Proofs.Ytplcmaiphbjfcaa.wheelPlays
namespace Go.Proofs.Ytplcmaiphbjfcaa
theorem wheelPlays_holds : Rows.WheelPlaysSaid := wheelPlays.over
#print axioms wheelPlays_holds
end Go.Proofs.Ytplcmaiphbjfcaa
