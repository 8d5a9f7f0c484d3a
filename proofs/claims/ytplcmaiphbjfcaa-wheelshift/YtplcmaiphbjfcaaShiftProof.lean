/-
  Proved: for all ticks a and b and every script, WheelShift(a, b, script) returns true: timers don't hang on where the wheel began: two wheels that are told the same tell the same; the document's example holds. No condition.
-/
import Derived.Test.YtplcmaiphbjfcaaRows
import Derived.Test.YtplcmaiphbjfcaaWTwo
namespace Go.Proofs.Ytplcmaiphbjfcaa.wheelShift
open Go.ChangeShapes Go.WideShapes Go.ChangeAt Go.RowKit
open Go.ChangeMaps (open_string shut_string)
set_option linter.unusedVariables false

theorem start {w0 w1 w2 w3 : World} {p m p' m' a b : Nat} {V V' : Nat → Value} (k2 : Wh w2 p m V a 0 []) (t2 : Turned (fun _ => False) w1 w2) (f2 : ∀ b, Foot p m V b → w1.heap.size ≤ b)
    (k3 : Wh w3 p' m' V' b 0 []) (t3 : Turned (fun _ => False) w2 w3) (f3 : ∀ b, Foot p' m' V' b → w2.heap.size ≤ b) : Two w1 w3 p m V (a + 0) 0 (from_ a []) p' m' V' (b + 0) 0 (from_ b []) where
  one := k2.frame (fun b hb => t3.block b (k2.foot_lt b hb) (fun f => f))
  two := k3
  f1 := ⟨t2.trans t3 (fun i hi => .inl hi), f2⟩
  f2 := ⟨t2.trans t3 (fun i hi => .inl hi), fun b hb => Nat.le_trans t2.size (f3 b hb)⟩
  sep := fun b hb hb' => by have := k2.foot_lt b hb; have := f3 b hb'; omega

set_option maxRecDepth 20000 in
set_option maxHeartbeats 8000000 in
theorem walk (w : World) (a : Nat) (h0 : a < 18446744073709551616) (b : Nat) (h1 : b < 18446744073709551616) (sl : Option Addr) (len cap : Nat) (xs : Nat → Ac) (hx : Acts w sl len xs) :
    Calls Try.prog 9 #[.int .u64 (a : Nat), .int .u64 (b : Nat), .slice sl len cap] w fun e w' => e = .returned (.bool true) ∧ Below w.heap.size w w' := by
  have hmax := hx.max
  by_cases hbig : 576460752303423488 < a ∨ 576460752303423488 < b
  · clear hx
    rcases Nat.lt_or_ge 576460752303423488 a with hb | hb
    · go_enter Try.func9, Try.ntmps9
      go_wp2_with fail
      refine (awake_any _).mono ?_
      rintro e w1 ⟨rfl, t1⟩
      go_wp2_with fail
      refine (awake_any _).mono ?_
      rintro e w2 ⟨rfl, t2⟩
      go_wp2_with fail
      go_ret
      exact ⟨rfl, (t1.trans t2 (fun i hi => .inl hi)).below (Nat.le_refl _) (fun i hi => hi.elim)⟩
    · have hnb : ¬ ((576460752303423488 : Int) < a) := by omega
      have hl : (576460752303423488 : Int) < b := by omega
      go_enter Try.func9, Try.ntmps9
      go_wp2_with fail
      refine (awake_any _).mono ?_
      rintro e w1 ⟨rfl, t1⟩
      go_wp2_with fail
      refine (awake_any _).mono ?_
      rintro e w2 ⟨rfl, t2⟩
      go_wp2_with fail
      go_ret
      exact ⟨rfl, (t1.trans t2 (fun i hi => .inl hi)).below (Nat.le_refl _) (fun i hi => hi.elim)⟩
  · have hna : ¬ ((576460752303423488 : Int) < a) := by omega
    have hnb : ¬ ((576460752303423488 : Int) < b) := by omega
    have HX : Hid (Acts w sl len xs) := hx
    clear hx
    go_enter Try.func9, Try.ntmps9
    go_wp2_with fail
    refine (awake_any _).mono ?_
    rintro e w1 ⟨rfl, t1⟩
    go_wp2_with fail
    refine (new_any _ a (by omega)).mono ?_
    rintro e w2 ⟨p, m, V2, rfl, k2, t2, f2⟩
    have HK2 : Hid (Wh w2 p m V2 a 0 [] ∧ Turned (fun _ => False) w1 w2 ∧ ∀ b, Foot p m V2 b → w1.heap.size ≤ b) := ⟨k2, t2, f2⟩
    clear k2 t2 f2
    go_wp2_with fail
    refine (new_any _ b (by omega)).mono ?_
    rintro e w3 ⟨p', m', V3, rfl, k3, t3, f3⟩
    have HT : Hid (Two w1 w3 p m V2 (a + 0) 0 (from_ a []) p' m' V3 (b + 0) 0 (from_ b [])) := start (w0 := w) HK2.out.1 HK2.out.2.1 HK2.out.2.2 k3 t3 f3
    clear k3 t3 f3 HK2
    go_wp2_with fail
    go_loopw [11] (fun i wr => ∃ k X t r V V', k ≤ len ∧ k ≤ 60 ∧ t ≤ 200 * k ∧ r ≤ k ∧ i = .int .i64 (k : Nat) ∧ Two w1 wr p m V (a + t) r (from_ a X) p' m' V' (b + t) r (from_ b X)) (fun i _ => 60 - (intOf i).toNat)
    case atStart => exact ⟨0, [], 0, 0, V2, V3, by omega, by omega, by omega, by omega, rfl, HT.out⟩
    case round =>
      obtain ⟨k, X, t, r, V, V', hk1, hk2, hk3, hk4, rfl, tw⟩ := hrel
      clear HT
      by_cases hend : k < len ∧ k < 60
      · obtain ⟨hkl, hk60⟩ := hend
        obtain ⟨ad, rfl, hb, hc⟩ := (HX.out.turned (t1.trans tw.f1.turned (fun i hi => .inl hi))).cell (by omega)
        obtain ⟨c0, c1, c2⟩ := hc k hkl
        obtain ⟨l0, l1, l2⟩ := HX.out.lt k hkl
        generalize xs k = x at *
        obtain ⟨kind, id, inn⟩ := x
        simp only at c0 c1 c2 l0 l1 l2
        have HTW : Hid (Two w1 wr p m V (a + t) r (from_ a X) p' m' V' (b + t) r (from_ b X)) := tw
        clear hc tw
        obtain ⟨n3, hn3, hn3l⟩ : ∃ n3 : Nat, (inn : Int) % 3000 = n3 ∧ n3 < 3000 := ⟨inn % 3000, by omega, by omega⟩
        have hTW : Two w1 ((wr.alloc (Obj.cells #[.int .u8 (kind : Nat), .int .i64 id, .int .u64 (inn : Nat)] 34)).drew) p m V (a + t) r (from_ a X) p' m' V' (b + t) r (from_ b X) := HTW.out.other (((Turned.refl _ wr).alloc _).drewN 1)
        have hBx : Bx ((wr.alloc (Obj.cells #[.int .u8 (kind : Nat), .int .i64 id, .int .u64 (inn : Nat)] 34)).drew) wr.heap.size (.int .i64 id) p m V p' m' V' := {
          lt := by show _ < (wr.alloc _).heap.size; simp
          cell := cell_of_row _ _ _ _ 34 (0, 0) (heap_alloc_new wr _)
          no1 := fun hf => by have := HTW.out.one.foot_lt _ hf; omega
          no2 := fun hf => by have := HTW.out.two.foot_lt _ hf; omega }
        have H1 : Hid (Two w1 ((wr.alloc (Obj.cells #[.int .u8 (kind : Nat), .int .i64 id, .int .u64 (inn : Nat)] 34)).drew) p m V (a + t) r (from_ a X) p' m' V' (b + t) r (from_ b X)) := hTW
        have H2 : Hid (Bx ((wr.alloc (Obj.cells #[.int .u8 (kind : Nat), .int .i64 id, .int .u64 (inn : Nat)] 34)).drew) wr.heap.size (.int .i64 id) p m V p' m' V') := hBx
        clear hTW hBx
        by_cases q0 : kind % 6 = 0
        · have q0' : (kind : Int) % 6 = 0 := by omega
          by_cases hz : n3 = 0
          · subst hz
            have hn0 : (inn : Int) % 3000 = 0 := hn3
            clear hn3
            go_wp2_with fail
            have hTW := H1.out
            have hBx := H2.out
            refine wp_region_noPanic ?_
            refine wp_region_held_drew (S := fun wx => wx.cell? ⟨wr.heap.size, 1, none⟩ = some (.int .i64 id)) (by kernel_rfl) hBx.cell (fun hHeld => ?_)
            refine take_first 0 (v := ?_) rfl (by kernel_rfl) (by kernel_rfl) (by kernel_rfl) (fun _ _ _ h => h) (Or.inl ⟨by rfl, by intro wx hSw; (try dsimp only at hSw); go_simp; try with_reducible rfl⟩) (by assumption) ?_
            (try simp only [Act.put, List.setIfInBounds_toArray, List.set_cons_zero, List.set_cons_succ])
            refine take_first 1 (v := ?_) rfl (by kernel_rfl) (by kernel_rfl) (by kernel_rfl) (fun _ _ _ h => h) (Or.inl ⟨by rfl, by intro wx hSw; (try dsimp only at hSw); go_simp; try with_reducible rfl⟩) (by assumption) ?_
            (try simp only [Act.put, List.setIfInBounds_toArray, List.set_cons_zero, List.set_cons_succ])
            refine take_first 2 (v := ?_) rfl (by kernel_rfl) (by kernel_rfl) (by kernel_rfl) (fun _ _ _ h => h) (Or.inl ⟨by rfl, by intro wx hSw; (try dsimp only at hSw); go_simp; try with_reducible rfl⟩) (by assumption) ?_
            (try simp only [Act.put, List.setIfInBounds_toArray, List.set_cons_zero, List.set_cons_succ])
            refine take_first 3 (v := ?_) rfl (by kernel_rfl) (by kernel_rfl) (by kernel_rfl) (fun _ _ _ h => h) (Or.inl ⟨by rfl, by intro wx hSw; (try dsimp only at hSw); go_simp; try with_reducible rfl⟩) (by assumption) ?_
            (try simp only [Act.put, List.setIfInBounds_toArray, List.set_cons_zero, List.set_cons_succ])
            refine take_first 5 (v := ?_) rfl (by kernel_rfl) (by kernel_rfl) (by kernel_rfl) (fun _ _ _ h => h) (Or.inl ⟨by rfl, by intro wx hSw; (try dsimp only at hSw); go_simp; try with_reducible rfl⟩) (by assumption) ?_
            (try simp only [Act.put, List.setIfInBounds_toArray, List.set_cons_zero, List.set_cons_succ])
            refine take_first 6 (v := ?_) rfl (by kernel_rfl) (by kernel_rfl) (by kernel_rfl) (fun _ _ _ h => h) (Or.inl ⟨by rfl, by intro wx hSw; (try dsimp only at hSw); go_simp; try with_reducible rfl⟩) (by assumption) ?_
            (try simp only [Act.put, List.setIfInBounds_toArray, List.set_cons_zero, List.set_cons_succ])
            refine take_first 7 (v := ?_) rfl (by kernel_rfl) (by kernel_rfl) (by kernel_rfl) (fun _ _ _ h => h) (Or.inl ⟨by rfl, by intro wx hSw; (try dsimp only at hSw); go_simp; try with_reducible rfl⟩) (by assumption) ?_
            (try simp only [Act.put, List.setIfInBounds_toArray, List.set_cons_zero, List.set_cons_succ])
            refine take_first 8 (v := ?_) rfl (by kernel_rfl) (by kernel_rfl) (by kernel_rfl) (fun _ _ _ h => h) (Or.inl ⟨by rfl, by intro wx hSw; (try dsimp only at hSw); go_simp; try with_reducible rfl⟩) (by assumption) ?_
            (try simp only [Act.put, List.setIfInBounds_toArray, List.set_cons_zero, List.set_cons_succ])
            refine comes_up 4 rfl (by kernel_rfl) (fun K hK => ?_)
            go_simp
            refine (arm_two_err hTW id).mono ?_
            rintro e w4 ⟨rfl, rfl⟩
            go_wp2_with fail
            refine hK.out _ _ hBx.cell (fun hHeld => ?_)
            clear hK K
            (try simp only [Act.put, List.setIfInBounds_toArray, List.set_cons_zero, List.set_cons_succ])
            refine comes_up 9 rfl (by kernel_rfl) (fun K hK => ?_)
            go_simp
            refine (arm_two_err hTW.swap id).mono ?_
            rintro e w5 ⟨rfl, rfl⟩
            go_wp2_with fail
            refine hK.out _ _ hBx.cell (fun hHeld => ?_)
            clear hK K
            (try simp only [Act.put, List.setIfInBounds_toArray, List.set_cons_zero, List.set_cons_succ])
            refine take_first 10 (v := ?_) rfl (by kernel_rfl) (by kernel_rfl) (by kernel_rfl) (fun _ _ _ h => h) (Or.inl ⟨by rfl, by intro wx hSw; (try dsimp only at hSw); go_simp; try with_reducible rfl⟩) (by assumption) ?_
            (try simp only [Act.put, List.setIfInBounds_toArray, List.set_cons_zero, List.set_cons_succ])
            refine wpAnyH_done (by kernel_rfl) ?_ _
            refine NoPanic.normal ?_
            have HE : Hid (Two w1 ((wr.alloc (Obj.cells #[.int .u8 (kind : Nat), .int .i64 id, .int .u64 (inn : Nat)] 34)).drew) p m V (a + t) r (from_ a X) p' m' V' (b + t) r (from_ b X)) := hTW
            clear hTW hBx hHeld
            go_wp2_with fail
            go_roundw
            case rel => exact ⟨k + 1, X, t, r, V, V', by omega, by omega, by omega, by omega, by go_num, HE.out⟩
            case measure => simp [intOf]; omega
          · go_wp2_with fail
            have hTW := H1.out
            have hBx := H2.out
            refine wp_region_noPanic ?_
            refine wp_region_held_drew (S := fun wx => wx.cell? ⟨wr.heap.size, 1, none⟩ = some (.int .i64 id)) (by kernel_rfl) hBx.cell (fun hHeld => ?_)
            refine take_first 0 (v := ?_) rfl (by kernel_rfl) (by kernel_rfl) (by kernel_rfl) (fun _ _ _ h => h) (Or.inl ⟨by rfl, by intro wx hSw; (try dsimp only at hSw); go_simp; try with_reducible rfl⟩) (by assumption) ?_
            (try simp only [Act.put, List.setIfInBounds_toArray, List.set_cons_zero, List.set_cons_succ])
            refine take_first 1 (v := ?_) rfl (by kernel_rfl) (by kernel_rfl) (by kernel_rfl) (fun _ _ _ h => h) (Or.inl ⟨by rfl, by intro wx hSw; (try dsimp only at hSw); go_simp; try with_reducible rfl⟩) (by assumption) ?_
            (try simp only [Act.put, List.setIfInBounds_toArray, List.set_cons_zero, List.set_cons_succ])
            refine take_first 2 (v := ?_) rfl (by kernel_rfl) (by kernel_rfl) (by kernel_rfl) (fun _ _ _ h => h) (Or.inl ⟨by rfl, by intro wx hSw; (try dsimp only at hSw); go_simp; try with_reducible rfl⟩) (by assumption) ?_
            (try simp only [Act.put, List.setIfInBounds_toArray, List.set_cons_zero, List.set_cons_succ])
            refine take_first 3 (v := ?_) rfl (by kernel_rfl) (by kernel_rfl) (by kernel_rfl) (fun _ _ _ h => h) (Or.inl ⟨by rfl, by intro wx hSw; (try dsimp only at hSw); go_simp; try with_reducible rfl⟩) (by assumption) ?_
            (try simp only [Act.put, List.setIfInBounds_toArray, List.set_cons_zero, List.set_cons_succ])
            refine take_first 5 (v := ?_) rfl (by kernel_rfl) (by kernel_rfl) (by kernel_rfl) (fun _ _ _ h => h) (Or.inl ⟨by rfl, by intro wx hSw; (try dsimp only at hSw); go_simp; try with_reducible rfl⟩) (by assumption) ?_
            (try simp only [Act.put, List.setIfInBounds_toArray, List.set_cons_zero, List.set_cons_succ])
            refine take_first 6 (v := ?_) rfl (by kernel_rfl) (by kernel_rfl) (by kernel_rfl) (fun _ _ _ h => h) (Or.inl ⟨by rfl, by intro wx hSw; (try dsimp only at hSw); go_simp; try with_reducible rfl⟩) (by assumption) ?_
            (try simp only [Act.put, List.setIfInBounds_toArray, List.set_cons_zero, List.set_cons_succ])
            refine take_first 7 (v := ?_) rfl (by kernel_rfl) (by kernel_rfl) (by kernel_rfl) (fun _ _ _ h => h) (Or.inl ⟨by rfl, by intro wx hSw; (try dsimp only at hSw); go_simp; try with_reducible rfl⟩) (by assumption) ?_
            (try simp only [Act.put, List.setIfInBounds_toArray, List.set_cons_zero, List.set_cons_succ])
            refine take_first 8 (v := ?_) rfl (by kernel_rfl) (by kernel_rfl) (by kernel_rfl) (fun _ _ _ h => h) (Or.inl ⟨by rfl, by intro wx hSw; (try dsimp only at hSw); go_simp; try with_reducible rfl⟩) (by assumption) ?_
            (try simp only [Act.put, List.setIfInBounds_toArray, List.set_cons_zero, List.set_cons_succ])
            refine comes_up 4 rfl (by kernel_rfl) (fun K hK => ?_)
            go_simp
            refine (arm_two hTW hBx (by omega) l1 (inn := n3) (by omega) (by omega)).mono ?_
            rintro e w4 ⟨rfl, V4, tw4, bx4⟩
            go_wp2_with fail
            refine hK.out _ _ bx4.cell (fun hHeld => ?_)
            clear hK K
            (try simp only [Act.put, List.setIfInBounds_toArray, List.set_cons_zero, List.set_cons_succ])
            refine comes_up 9 rfl (by kernel_rfl) (fun K hK => ?_)
            go_simp
            refine (arm_two tw4.swap bx4.swap (by omega) l1 (inn := n3) (by omega) (by omega)).mono ?_
            rintro e w5 ⟨rfl, V5, tw5, bx5⟩
            go_wp2_with fail
            refine hK.out _ _ bx5.cell (fun hHeld => ?_)
            clear hK K
            (try simp only [Act.put, List.setIfInBounds_toArray, List.set_cons_zero, List.set_cons_succ])
            refine take_first 10 (v := ?_) rfl (by kernel_rfl) (by kernel_rfl) (by kernel_rfl) (fun _ _ _ h => h) (Or.inl ⟨by rfl, by intro wx hSw; (try dsimp only at hSw); go_simp; try with_reducible rfl⟩) (by assumption) ?_
            (try simp only [Act.put, List.setIfInBounds_toArray, List.set_cons_zero, List.set_cons_succ])
            refine wpAnyH_done (by kernel_rfl) ?_ _
            refine NoPanic.normal ?_
            have HE : Hid (Two w1 w5 p m V4 (a + t) (r + 1) (from_ a (X.filter (fun x => decide (x.1 ≠ id)) ++ [(id, t + n3)])) p' m' V5 (b + t) (r + 1) (from_ b (X.filter (fun x => decide (x.1 ≠ id)) ++ [(id, t + n3)]))) := tw5.swap
            clear tw4 bx4 tw5 bx5 hTW hBx hHeld
            go_wp2_with fail
            go_roundw
            case rel => exact ⟨k + 1, _, t, r + 1, V4, V5, by omega, by omega, by omega, by omega, by go_num, HE.out⟩
            case measure => simp [intOf]; omega
        by_cases q1 : kind % 6 = 1
        · have q1' : (kind : Int) % 6 = 1 := by omega
          by_cases hz : n3 = 0
          · subst hz
            have hn0 : (inn : Int) % 3000 = 0 := hn3
            clear hn3
            go_wp2_with fail
            have hTW := H1.out
            have hBx := H2.out
            refine wp_region_noPanic ?_
            refine wp_region_held_drew (S := fun wx => wx.cell? ⟨wr.heap.size, 1, none⟩ = some (.int .i64 id)) (by kernel_rfl) hBx.cell (fun hHeld => ?_)
            refine take_first 0 (v := ?_) rfl (by kernel_rfl) (by kernel_rfl) (by kernel_rfl) (fun _ _ _ h => h) (Or.inl ⟨by rfl, by intro wx hSw; (try dsimp only at hSw); go_simp; try with_reducible rfl⟩) (by assumption) ?_
            (try simp only [Act.put, List.setIfInBounds_toArray, List.set_cons_zero, List.set_cons_succ])
            refine take_first 1 (v := ?_) rfl (by kernel_rfl) (by kernel_rfl) (by kernel_rfl) (fun _ _ _ h => h) (Or.inl ⟨by rfl, by intro wx hSw; (try dsimp only at hSw); go_simp; try with_reducible rfl⟩) (by assumption) ?_
            (try simp only [Act.put, List.setIfInBounds_toArray, List.set_cons_zero, List.set_cons_succ])
            refine take_first 2 (v := ?_) rfl (by kernel_rfl) (by kernel_rfl) (by kernel_rfl) (fun _ _ _ h => h) (Or.inl ⟨by rfl, by intro wx hSw; (try dsimp only at hSw); go_simp; try with_reducible rfl⟩) (by assumption) ?_
            (try simp only [Act.put, List.setIfInBounds_toArray, List.set_cons_zero, List.set_cons_succ])
            refine take_first 3 (v := ?_) rfl (by kernel_rfl) (by kernel_rfl) (by kernel_rfl) (fun _ _ _ h => h) (Or.inl ⟨by rfl, by intro wx hSw; (try dsimp only at hSw); go_simp; try with_reducible rfl⟩) (by assumption) ?_
            (try simp only [Act.put, List.setIfInBounds_toArray, List.set_cons_zero, List.set_cons_succ])
            refine take_first 5 (v := ?_) rfl (by kernel_rfl) (by kernel_rfl) (by kernel_rfl) (fun _ _ _ h => h) (Or.inl ⟨by rfl, by intro wx hSw; (try dsimp only at hSw); go_simp; try with_reducible rfl⟩) (by assumption) ?_
            (try simp only [Act.put, List.setIfInBounds_toArray, List.set_cons_zero, List.set_cons_succ])
            refine take_first 6 (v := ?_) rfl (by kernel_rfl) (by kernel_rfl) (by kernel_rfl) (fun _ _ _ h => h) (Or.inl ⟨by rfl, by intro wx hSw; (try dsimp only at hSw); go_simp; try with_reducible rfl⟩) (by assumption) ?_
            (try simp only [Act.put, List.setIfInBounds_toArray, List.set_cons_zero, List.set_cons_succ])
            refine take_first 7 (v := ?_) rfl (by kernel_rfl) (by kernel_rfl) (by kernel_rfl) (fun _ _ _ h => h) (Or.inl ⟨by rfl, by intro wx hSw; (try dsimp only at hSw); go_simp; try with_reducible rfl⟩) (by assumption) ?_
            (try simp only [Act.put, List.setIfInBounds_toArray, List.set_cons_zero, List.set_cons_succ])
            refine take_first 8 (v := ?_) rfl (by kernel_rfl) (by kernel_rfl) (by kernel_rfl) (fun _ _ _ h => h) (Or.inl ⟨by rfl, by intro wx hSw; (try dsimp only at hSw); go_simp; try with_reducible rfl⟩) (by assumption) ?_
            (try simp only [Act.put, List.setIfInBounds_toArray, List.set_cons_zero, List.set_cons_succ])
            refine comes_up 4 rfl (by kernel_rfl) (fun K hK => ?_)
            go_simp
            refine (arm_two_err hTW id).mono ?_
            rintro e w4 ⟨rfl, rfl⟩
            go_wp2_with fail
            refine hK.out _ _ hBx.cell (fun hHeld => ?_)
            clear hK K
            (try simp only [Act.put, List.setIfInBounds_toArray, List.set_cons_zero, List.set_cons_succ])
            refine comes_up 9 rfl (by kernel_rfl) (fun K hK => ?_)
            go_simp
            refine (arm_two_err hTW.swap id).mono ?_
            rintro e w5 ⟨rfl, rfl⟩
            go_wp2_with fail
            refine hK.out _ _ hBx.cell (fun hHeld => ?_)
            clear hK K
            (try simp only [Act.put, List.setIfInBounds_toArray, List.set_cons_zero, List.set_cons_succ])
            refine take_first 10 (v := ?_) rfl (by kernel_rfl) (by kernel_rfl) (by kernel_rfl) (fun _ _ _ h => h) (Or.inl ⟨by rfl, by intro wx hSw; (try dsimp only at hSw); go_simp; try with_reducible rfl⟩) (by assumption) ?_
            (try simp only [Act.put, List.setIfInBounds_toArray, List.set_cons_zero, List.set_cons_succ])
            refine wpAnyH_done (by kernel_rfl) ?_ _
            refine NoPanic.normal ?_
            have HE : Hid (Two w1 ((wr.alloc (Obj.cells #[.int .u8 (kind : Nat), .int .i64 id, .int .u64 (inn : Nat)] 34)).drew) p m V (a + t) r (from_ a X) p' m' V' (b + t) r (from_ b X)) := hTW
            clear hTW hBx hHeld
            go_wp2_with fail
            go_roundw
            case rel => exact ⟨k + 1, X, t, r, V, V', by omega, by omega, by omega, by omega, by go_num, HE.out⟩
            case measure => simp [intOf]; omega
          · go_wp2_with fail
            have hTW := H1.out
            have hBx := H2.out
            refine wp_region_noPanic ?_
            refine wp_region_held_drew (S := fun wx => wx.cell? ⟨wr.heap.size, 1, none⟩ = some (.int .i64 id)) (by kernel_rfl) hBx.cell (fun hHeld => ?_)
            refine take_first 0 (v := ?_) rfl (by kernel_rfl) (by kernel_rfl) (by kernel_rfl) (fun _ _ _ h => h) (Or.inl ⟨by rfl, by intro wx hSw; (try dsimp only at hSw); go_simp; try with_reducible rfl⟩) (by assumption) ?_
            (try simp only [Act.put, List.setIfInBounds_toArray, List.set_cons_zero, List.set_cons_succ])
            refine take_first 1 (v := ?_) rfl (by kernel_rfl) (by kernel_rfl) (by kernel_rfl) (fun _ _ _ h => h) (Or.inl ⟨by rfl, by intro wx hSw; (try dsimp only at hSw); go_simp; try with_reducible rfl⟩) (by assumption) ?_
            (try simp only [Act.put, List.setIfInBounds_toArray, List.set_cons_zero, List.set_cons_succ])
            refine take_first 2 (v := ?_) rfl (by kernel_rfl) (by kernel_rfl) (by kernel_rfl) (fun _ _ _ h => h) (Or.inl ⟨by rfl, by intro wx hSw; (try dsimp only at hSw); go_simp; try with_reducible rfl⟩) (by assumption) ?_
            (try simp only [Act.put, List.setIfInBounds_toArray, List.set_cons_zero, List.set_cons_succ])
            refine take_first 3 (v := ?_) rfl (by kernel_rfl) (by kernel_rfl) (by kernel_rfl) (fun _ _ _ h => h) (Or.inl ⟨by rfl, by intro wx hSw; (try dsimp only at hSw); go_simp; try with_reducible rfl⟩) (by assumption) ?_
            (try simp only [Act.put, List.setIfInBounds_toArray, List.set_cons_zero, List.set_cons_succ])
            refine take_first 5 (v := ?_) rfl (by kernel_rfl) (by kernel_rfl) (by kernel_rfl) (fun _ _ _ h => h) (Or.inl ⟨by rfl, by intro wx hSw; (try dsimp only at hSw); go_simp; try with_reducible rfl⟩) (by assumption) ?_
            (try simp only [Act.put, List.setIfInBounds_toArray, List.set_cons_zero, List.set_cons_succ])
            refine take_first 6 (v := ?_) rfl (by kernel_rfl) (by kernel_rfl) (by kernel_rfl) (fun _ _ _ h => h) (Or.inl ⟨by rfl, by intro wx hSw; (try dsimp only at hSw); go_simp; try with_reducible rfl⟩) (by assumption) ?_
            (try simp only [Act.put, List.setIfInBounds_toArray, List.set_cons_zero, List.set_cons_succ])
            refine take_first 7 (v := ?_) rfl (by kernel_rfl) (by kernel_rfl) (by kernel_rfl) (fun _ _ _ h => h) (Or.inl ⟨by rfl, by intro wx hSw; (try dsimp only at hSw); go_simp; try with_reducible rfl⟩) (by assumption) ?_
            (try simp only [Act.put, List.setIfInBounds_toArray, List.set_cons_zero, List.set_cons_succ])
            refine take_first 8 (v := ?_) rfl (by kernel_rfl) (by kernel_rfl) (by kernel_rfl) (fun _ _ _ h => h) (Or.inl ⟨by rfl, by intro wx hSw; (try dsimp only at hSw); go_simp; try with_reducible rfl⟩) (by assumption) ?_
            (try simp only [Act.put, List.setIfInBounds_toArray, List.set_cons_zero, List.set_cons_succ])
            refine comes_up 4 rfl (by kernel_rfl) (fun K hK => ?_)
            go_simp
            refine (arm_two hTW hBx (by omega) l1 (inn := n3) (by omega) (by omega)).mono ?_
            rintro e w4 ⟨rfl, V4, tw4, bx4⟩
            go_wp2_with fail
            refine hK.out _ _ bx4.cell (fun hHeld => ?_)
            clear hK K
            (try simp only [Act.put, List.setIfInBounds_toArray, List.set_cons_zero, List.set_cons_succ])
            refine comes_up 9 rfl (by kernel_rfl) (fun K hK => ?_)
            go_simp
            refine (arm_two tw4.swap bx4.swap (by omega) l1 (inn := n3) (by omega) (by omega)).mono ?_
            rintro e w5 ⟨rfl, V5, tw5, bx5⟩
            go_wp2_with fail
            refine hK.out _ _ bx5.cell (fun hHeld => ?_)
            clear hK K
            (try simp only [Act.put, List.setIfInBounds_toArray, List.set_cons_zero, List.set_cons_succ])
            refine take_first 10 (v := ?_) rfl (by kernel_rfl) (by kernel_rfl) (by kernel_rfl) (fun _ _ _ h => h) (Or.inl ⟨by rfl, by intro wx hSw; (try dsimp only at hSw); go_simp; try with_reducible rfl⟩) (by assumption) ?_
            (try simp only [Act.put, List.setIfInBounds_toArray, List.set_cons_zero, List.set_cons_succ])
            refine wpAnyH_done (by kernel_rfl) ?_ _
            refine NoPanic.normal ?_
            have HE : Hid (Two w1 w5 p m V4 (a + t) (r + 1) (from_ a (X.filter (fun x => decide (x.1 ≠ id)) ++ [(id, t + n3)])) p' m' V5 (b + t) (r + 1) (from_ b (X.filter (fun x => decide (x.1 ≠ id)) ++ [(id, t + n3)]))) := tw5.swap
            clear tw4 bx4 tw5 bx5 hTW hBx hHeld
            go_wp2_with fail
            go_roundw
            case rel => exact ⟨k + 1, _, t, r + 1, V4, V5, by omega, by omega, by omega, by omega, by go_num, HE.out⟩
            case measure => simp [intOf]; omega
        by_cases q2 : kind % 6 = 2
        · have q2' : (kind : Int) % 6 = 2 := by omega
          by_cases hz : n3 = 0
          · subst hz
            have hn0 : (inn : Int) % 3000 = 0 := hn3
            clear hn3
            go_wp2_with fail
            have hTW := H1.out
            have hBx := H2.out
            refine wp_region_noPanic ?_
            refine wp_region_held_drew (S := fun wx => wx.cell? ⟨wr.heap.size, 1, none⟩ = some (.int .i64 id)) (by kernel_rfl) hBx.cell (fun hHeld => ?_)
            refine take_first 0 (v := ?_) rfl (by kernel_rfl) (by kernel_rfl) (by kernel_rfl) (fun _ _ _ h => h) (Or.inl ⟨by rfl, by intro wx hSw; (try dsimp only at hSw); go_simp; try with_reducible rfl⟩) (by assumption) ?_
            (try simp only [Act.put, List.setIfInBounds_toArray, List.set_cons_zero, List.set_cons_succ])
            refine take_first 1 (v := ?_) rfl (by kernel_rfl) (by kernel_rfl) (by kernel_rfl) (fun _ _ _ h => h) (Or.inl ⟨by rfl, by intro wx hSw; (try dsimp only at hSw); go_simp; try with_reducible rfl⟩) (by assumption) ?_
            (try simp only [Act.put, List.setIfInBounds_toArray, List.set_cons_zero, List.set_cons_succ])
            refine take_first 2 (v := ?_) rfl (by kernel_rfl) (by kernel_rfl) (by kernel_rfl) (fun _ _ _ h => h) (Or.inl ⟨by rfl, by intro wx hSw; (try dsimp only at hSw); go_simp; try with_reducible rfl⟩) (by assumption) ?_
            (try simp only [Act.put, List.setIfInBounds_toArray, List.set_cons_zero, List.set_cons_succ])
            refine take_first 3 (v := ?_) rfl (by kernel_rfl) (by kernel_rfl) (by kernel_rfl) (fun _ _ _ h => h) (Or.inl ⟨by rfl, by intro wx hSw; (try dsimp only at hSw); go_simp; try with_reducible rfl⟩) (by assumption) ?_
            (try simp only [Act.put, List.setIfInBounds_toArray, List.set_cons_zero, List.set_cons_succ])
            refine take_first 5 (v := ?_) rfl (by kernel_rfl) (by kernel_rfl) (by kernel_rfl) (fun _ _ _ h => h) (Or.inl ⟨by rfl, by intro wx hSw; (try dsimp only at hSw); go_simp; try with_reducible rfl⟩) (by assumption) ?_
            (try simp only [Act.put, List.setIfInBounds_toArray, List.set_cons_zero, List.set_cons_succ])
            refine take_first 6 (v := ?_) rfl (by kernel_rfl) (by kernel_rfl) (by kernel_rfl) (fun _ _ _ h => h) (Or.inl ⟨by rfl, by intro wx hSw; (try dsimp only at hSw); go_simp; try with_reducible rfl⟩) (by assumption) ?_
            (try simp only [Act.put, List.setIfInBounds_toArray, List.set_cons_zero, List.set_cons_succ])
            refine take_first 7 (v := ?_) rfl (by kernel_rfl) (by kernel_rfl) (by kernel_rfl) (fun _ _ _ h => h) (Or.inl ⟨by rfl, by intro wx hSw; (try dsimp only at hSw); go_simp; try with_reducible rfl⟩) (by assumption) ?_
            (try simp only [Act.put, List.setIfInBounds_toArray, List.set_cons_zero, List.set_cons_succ])
            refine take_first 8 (v := ?_) rfl (by kernel_rfl) (by kernel_rfl) (by kernel_rfl) (fun _ _ _ h => h) (Or.inl ⟨by rfl, by intro wx hSw; (try dsimp only at hSw); go_simp; try with_reducible rfl⟩) (by assumption) ?_
            (try simp only [Act.put, List.setIfInBounds_toArray, List.set_cons_zero, List.set_cons_succ])
            refine comes_up 4 rfl (by kernel_rfl) (fun K hK => ?_)
            go_simp
            refine (arm_two_err hTW id).mono ?_
            rintro e w4 ⟨rfl, rfl⟩
            go_wp2_with fail
            refine hK.out _ _ hBx.cell (fun hHeld => ?_)
            clear hK K
            (try simp only [Act.put, List.setIfInBounds_toArray, List.set_cons_zero, List.set_cons_succ])
            refine comes_up 9 rfl (by kernel_rfl) (fun K hK => ?_)
            go_simp
            refine (arm_two_err hTW.swap id).mono ?_
            rintro e w5 ⟨rfl, rfl⟩
            go_wp2_with fail
            refine hK.out _ _ hBx.cell (fun hHeld => ?_)
            clear hK K
            (try simp only [Act.put, List.setIfInBounds_toArray, List.set_cons_zero, List.set_cons_succ])
            refine take_first 10 (v := ?_) rfl (by kernel_rfl) (by kernel_rfl) (by kernel_rfl) (fun _ _ _ h => h) (Or.inl ⟨by rfl, by intro wx hSw; (try dsimp only at hSw); go_simp; try with_reducible rfl⟩) (by assumption) ?_
            (try simp only [Act.put, List.setIfInBounds_toArray, List.set_cons_zero, List.set_cons_succ])
            refine wpAnyH_done (by kernel_rfl) ?_ _
            refine NoPanic.normal ?_
            have HE : Hid (Two w1 ((wr.alloc (Obj.cells #[.int .u8 (kind : Nat), .int .i64 id, .int .u64 (inn : Nat)] 34)).drew) p m V (a + t) r (from_ a X) p' m' V' (b + t) r (from_ b X)) := hTW
            clear hTW hBx hHeld
            go_wp2_with fail
            go_roundw
            case rel => exact ⟨k + 1, X, t, r, V, V', by omega, by omega, by omega, by omega, by go_num, HE.out⟩
            case measure => simp [intOf]; omega
          · go_wp2_with fail
            have hTW := H1.out
            have hBx := H2.out
            refine wp_region_noPanic ?_
            refine wp_region_held_drew (S := fun wx => wx.cell? ⟨wr.heap.size, 1, none⟩ = some (.int .i64 id)) (by kernel_rfl) hBx.cell (fun hHeld => ?_)
            refine take_first 0 (v := ?_) rfl (by kernel_rfl) (by kernel_rfl) (by kernel_rfl) (fun _ _ _ h => h) (Or.inl ⟨by rfl, by intro wx hSw; (try dsimp only at hSw); go_simp; try with_reducible rfl⟩) (by assumption) ?_
            (try simp only [Act.put, List.setIfInBounds_toArray, List.set_cons_zero, List.set_cons_succ])
            refine take_first 1 (v := ?_) rfl (by kernel_rfl) (by kernel_rfl) (by kernel_rfl) (fun _ _ _ h => h) (Or.inl ⟨by rfl, by intro wx hSw; (try dsimp only at hSw); go_simp; try with_reducible rfl⟩) (by assumption) ?_
            (try simp only [Act.put, List.setIfInBounds_toArray, List.set_cons_zero, List.set_cons_succ])
            refine take_first 2 (v := ?_) rfl (by kernel_rfl) (by kernel_rfl) (by kernel_rfl) (fun _ _ _ h => h) (Or.inl ⟨by rfl, by intro wx hSw; (try dsimp only at hSw); go_simp; try with_reducible rfl⟩) (by assumption) ?_
            (try simp only [Act.put, List.setIfInBounds_toArray, List.set_cons_zero, List.set_cons_succ])
            refine take_first 3 (v := ?_) rfl (by kernel_rfl) (by kernel_rfl) (by kernel_rfl) (fun _ _ _ h => h) (Or.inl ⟨by rfl, by intro wx hSw; (try dsimp only at hSw); go_simp; try with_reducible rfl⟩) (by assumption) ?_
            (try simp only [Act.put, List.setIfInBounds_toArray, List.set_cons_zero, List.set_cons_succ])
            refine take_first 5 (v := ?_) rfl (by kernel_rfl) (by kernel_rfl) (by kernel_rfl) (fun _ _ _ h => h) (Or.inl ⟨by rfl, by intro wx hSw; (try dsimp only at hSw); go_simp; try with_reducible rfl⟩) (by assumption) ?_
            (try simp only [Act.put, List.setIfInBounds_toArray, List.set_cons_zero, List.set_cons_succ])
            refine take_first 6 (v := ?_) rfl (by kernel_rfl) (by kernel_rfl) (by kernel_rfl) (fun _ _ _ h => h) (Or.inl ⟨by rfl, by intro wx hSw; (try dsimp only at hSw); go_simp; try with_reducible rfl⟩) (by assumption) ?_
            (try simp only [Act.put, List.setIfInBounds_toArray, List.set_cons_zero, List.set_cons_succ])
            refine take_first 7 (v := ?_) rfl (by kernel_rfl) (by kernel_rfl) (by kernel_rfl) (fun _ _ _ h => h) (Or.inl ⟨by rfl, by intro wx hSw; (try dsimp only at hSw); go_simp; try with_reducible rfl⟩) (by assumption) ?_
            (try simp only [Act.put, List.setIfInBounds_toArray, List.set_cons_zero, List.set_cons_succ])
            refine take_first 8 (v := ?_) rfl (by kernel_rfl) (by kernel_rfl) (by kernel_rfl) (fun _ _ _ h => h) (Or.inl ⟨by rfl, by intro wx hSw; (try dsimp only at hSw); go_simp; try with_reducible rfl⟩) (by assumption) ?_
            (try simp only [Act.put, List.setIfInBounds_toArray, List.set_cons_zero, List.set_cons_succ])
            refine comes_up 4 rfl (by kernel_rfl) (fun K hK => ?_)
            go_simp
            refine (arm_two hTW hBx (by omega) l1 (inn := n3) (by omega) (by omega)).mono ?_
            rintro e w4 ⟨rfl, V4, tw4, bx4⟩
            go_wp2_with fail
            refine hK.out _ _ bx4.cell (fun hHeld => ?_)
            clear hK K
            (try simp only [Act.put, List.setIfInBounds_toArray, List.set_cons_zero, List.set_cons_succ])
            refine comes_up 9 rfl (by kernel_rfl) (fun K hK => ?_)
            go_simp
            refine (arm_two tw4.swap bx4.swap (by omega) l1 (inn := n3) (by omega) (by omega)).mono ?_
            rintro e w5 ⟨rfl, V5, tw5, bx5⟩
            go_wp2_with fail
            refine hK.out _ _ bx5.cell (fun hHeld => ?_)
            clear hK K
            (try simp only [Act.put, List.setIfInBounds_toArray, List.set_cons_zero, List.set_cons_succ])
            refine take_first 10 (v := ?_) rfl (by kernel_rfl) (by kernel_rfl) (by kernel_rfl) (fun _ _ _ h => h) (Or.inl ⟨by rfl, by intro wx hSw; (try dsimp only at hSw); go_simp; try with_reducible rfl⟩) (by assumption) ?_
            (try simp only [Act.put, List.setIfInBounds_toArray, List.set_cons_zero, List.set_cons_succ])
            refine wpAnyH_done (by kernel_rfl) ?_ _
            refine NoPanic.normal ?_
            have HE : Hid (Two w1 w5 p m V4 (a + t) (r + 1) (from_ a (X.filter (fun x => decide (x.1 ≠ id)) ++ [(id, t + n3)])) p' m' V5 (b + t) (r + 1) (from_ b (X.filter (fun x => decide (x.1 ≠ id)) ++ [(id, t + n3)]))) := tw5.swap
            clear tw4 bx4 tw5 bx5 hTW hBx hHeld
            go_wp2_with fail
            go_roundw
            case rel => exact ⟨k + 1, _, t, r + 1, V4, V5, by omega, by omega, by omega, by omega, by go_num, HE.out⟩
            case measure => simp [intOf]; omega
        by_cases q3 : kind % 6 = 3
        · have q3' : (kind : Int) % 6 = 3 := by omega
          go_wp2_with fail
          have hTW := H1.out
          have hBx := H2.out
          refine wp_region_noPanic ?_
          refine wp_region_held_drew (S := fun wx => wx.cell? ⟨wr.heap.size, 1, none⟩ = some (.int .i64 id)) (by kernel_rfl) hBx.cell (fun hHeld => ?_)
          refine take_first 0 (v := ?_) rfl (by kernel_rfl) (by kernel_rfl) (by kernel_rfl) (fun _ _ _ h => h) (Or.inl ⟨by rfl, by intro wx hSw; (try dsimp only at hSw); go_simp; try with_reducible rfl⟩) (by assumption) ?_
          (try simp only [Act.put, List.setIfInBounds_toArray, List.set_cons_zero, List.set_cons_succ])
          refine take_first 1 (v := ?_) rfl (by kernel_rfl) (by kernel_rfl) (by kernel_rfl) (fun _ _ _ h => h) (Or.inl ⟨by rfl, by intro wx hSw; (try dsimp only at hSw); go_simp; try with_reducible rfl⟩) (by assumption) ?_
          (try simp only [Act.put, List.setIfInBounds_toArray, List.set_cons_zero, List.set_cons_succ])
          refine take_first 2 (v := ?_) rfl (by kernel_rfl) (by kernel_rfl) (by kernel_rfl) (fun _ _ _ h => h) (Or.inl ⟨by rfl, by intro wx hSw; (try dsimp only at hSw); go_simp; try with_reducible rfl⟩) (by assumption) ?_
          (try simp only [Act.put, List.setIfInBounds_toArray, List.set_cons_zero, List.set_cons_succ])
          refine take_first 4 (v := ?_) rfl (by kernel_rfl) (by kernel_rfl) (by kernel_rfl) (fun _ _ _ h => h) (Or.inl ⟨by rfl, by intro wx hSw; (try dsimp only at hSw); go_simp; try with_reducible rfl⟩) (by assumption) ?_
          (try simp only [Act.put, List.setIfInBounds_toArray, List.set_cons_zero, List.set_cons_succ])
          refine take_first 5 (v := ?_) rfl (by kernel_rfl) (by kernel_rfl) (by kernel_rfl) (fun _ _ _ h => h) (Or.inl ⟨by rfl, by intro wx hSw; (try dsimp only at hSw); go_simp; try with_reducible rfl⟩) (by assumption) ?_
          (try simp only [Act.put, List.setIfInBounds_toArray, List.set_cons_zero, List.set_cons_succ])
          refine take_first 6 (v := ?_) rfl (by kernel_rfl) (by kernel_rfl) (by kernel_rfl) (fun _ _ _ h => h) (Or.inl ⟨by rfl, by intro wx hSw; (try dsimp only at hSw); go_simp; try with_reducible rfl⟩) (by assumption) ?_
          (try simp only [Act.put, List.setIfInBounds_toArray, List.set_cons_zero, List.set_cons_succ])
          refine comes_up 3 rfl (by kernel_rfl) (fun K hK => ?_)
          go_simp
          refine (cancel_two hTW hBx (by omega) l1).mono ?_
          rintro e w4 ⟨rfl, V4, tw4, bx4⟩
          go_wp2_with fail
          refine hK.out _ _ bx4.cell (fun hHeld => ?_)
          clear hK K
          (try simp only [Act.put, List.setIfInBounds_toArray, List.set_cons_zero, List.set_cons_succ])
          refine comes_up 7 rfl (by kernel_rfl) (fun K hK => ?_)
          go_simp
          refine (cancel_two tw4.swap bx4.swap (by omega) l1).mono ?_
          rintro e w5 ⟨rfl, V5, tw5, bx5⟩
          go_wp2_with fail
          refine hK.out _ _ bx5.cell (fun hHeld => ?_)
          clear hK K
          (try simp only [Act.put, List.setIfInBounds_toArray, List.set_cons_zero, List.set_cons_succ])
          refine take_first 8 (v := ?_) rfl (by kernel_rfl) (by kernel_rfl) (by kernel_rfl) (fun _ _ _ h => h) (Or.inl ⟨by rfl, by intro wx hSw; (try dsimp only at hSw); go_simp; try with_reducible rfl⟩) (by assumption) ?_
          (try simp only [Act.put, List.setIfInBounds_toArray, List.set_cons_zero, List.set_cons_succ])
          refine wpAnyH_done (by kernel_rfl) ?_ _
          refine NoPanic.normal ?_
          have HE : Hid (Two w1 w5 p m V4 (a + t) r (from_ a (X.filter (fun x => decide (x.1 ≠ id)))) p' m' V5 (b + t) r (from_ b (X.filter (fun x => decide (x.1 ≠ id))))) := tw5.swap
          clear tw4 bx4 tw5 bx5 hTW hBx hHeld
          go_wp2_with fail
          go_roundw
          case rel => exact ⟨k + 1, _, t, r, V4, V5, by omega, by omega, by omega, by omega, by go_num, HE.out⟩
          case measure => simp [intOf]; omega
        have q0' : ¬ ((kind : Int) % 6 = 0) := by omega
        have q1' : ¬ ((kind : Int) % 6 = 1) := by omega
        have q2' : ¬ ((kind : Int) % 6 = 2) := by omega
        have q3' : ¬ ((kind : Int) % 6 = 3) := by omega
        obtain ⟨L2, hL2, hL2l⟩ : ∃ L2 : Nat, (n3 : Int) % 200 = L2 ∧ L2 < 200 := ⟨n3 % 200, by omega, by omega⟩
        have H3 : Hid (Two w1 (wr.alloc (Obj.cells #[.int .u8 (kind : Nat), .int .i64 id, .int .u64 (inn : Nat)] 34)) p m V (a + (t + 0)) r (from_ a X) p' m' V' (b + (t + 0)) r (from_ b X)) := HTW.out.other ((Turned.refl _ wr).alloc _)
        clear H1 H2 HTW
        go_wp2_with fail
        have hdec : decide ((k : Int) < 60) = true := by simp; omega
        have e0 : ((kind : Int) % 6 == 0) = false := by simpa using q0'
        have e1 : ((kind : Int) % 6 == 1) = false := by simpa using q1'
        have e2 : ((kind : Int) % 6 == 2) = false := by simpa using q2'
        have e3 : ((kind : Int) % 6 == 3) = false := by simpa using q3'
        rw [hn3, hdec, e0, e1, e2, e3]
        clear e0 e1 e2 e3
        clear hn3 hdec q0' q1' q2' q3' q0 q1 q2 q3
        obtain ⟨wo, hwo⟩ : ∃ wo : World, wo = wr := ⟨_, rfl⟩
        go_loopw [14] (fun i wd => ∃ c Y V V', c ≤ L2 ∧ i = .int .u64 (c : Nat) ∧ Two w1 wd p m V (a + (t + c)) r (from_ a Y) p' m' V' (b + (t + c)) r (from_ b Y)) (fun i _ => L2 - (intOf i).toNat)
        case atStart => exact ⟨0, X, V, V', by omega, rfl, H3.out⟩
        case round =>
          obtain ⟨c, Y, Vc, Vc', hc1, rfl, tc⟩ := hrel
          clear H3
          by_cases hlast : c = L2
          · have HE : Hid (Two w1 wr p m Vc (a + (t + c)) r (from_ a Y) p' m' Vc' (b + (t + c)) r (from_ b Y)) := tc
            clear tc
            subst hlast
            go_wp2_with fail
            go_roundw
            case rel => exact ⟨k + 1, Y, t + c, r, Vc, Vc', by omega, by omega, by omega, by omega, by go_num, HE.out⟩
            case measure => simp [intOf]; omega
          · have hyl := tc.one.len_le
            rw [from_length] at hyl
            have hdl : (dueAt Y (t + c + 1)).length ≤ Y.length := by unfold dueAt; rw [List.length_map]; exact List.length_filter_le _ _
            have ht1 := tick_two tc (by omega) (by omega)
            clear tc
            go_wp2_with fail
            refine ht1.mono ?_
            rintro e w4 ⟨v4, V4, rfl, i4, tw4, n4, s4, g4⟩
            have ht2 := tick_two tw4.swap (by omega) (by omega)
            have HI4 : Hid (Ints w4 v4 (dueAt Y (t + c + 1)) ∧ ∀ b, v4.ownBlock = some b → b < w4.heap.size ∧ ¬ Foot p' m' Vc' b) := ⟨i4, fun b hb => ⟨(n4 b hb).2.1, (n4 b hb).2.2.2⟩⟩
            clear ht1 i4 tw4 n4 s4 g4
            go_wp2_with fail
            refine ht2.mono ?_
            rintro e w5 ⟨v5, V5, rfl, i5, tw5, n5, s5, g5⟩
            have i4 : Ints w5 v4 (dueAt Y (t + c + 1)) := row_block HI4.out.1 (fun b hb => (g5.kept (HI4.out.2 b hb).1 (HI4.out.2 b hb).2).1)
            have hsame := same_any w5 v4 v5 _ _ i4 i5 (by omega) (by omega)
            rw [decide_eq_true rfl] at hsame
            have HE : Hid (∀ q, Two w1 (w5.drewN q) p m V4 (a + (t + (c + 1))) r (from_ a (leftAt Y (t + c + 1))) p' m' V5 (b + (t + (c + 1))) r (from_ b (leftAt Y (t + c + 1)))) := fun q => tw5.swap.other ((Turned.refl _ w5).drewN q)
            clear ht2 i4 i5 tw5 n5 s5 g5 HI4
            go_wp2_with fail
            refine hsame.mono ?_
            rintro e w6 ⟨rfl, q, rfl⟩
            go_wp2_with fail
            go_roundw
            case rel => first | exact ⟨c + 1, _, V4, V5, by omega, by go_num, HE.out q⟩ | ((repeat apply Exists.intro); exact ⟨⟨c + 1, _, V4, V5, by omega, by go_num, HE.out q⟩, rfl⟩)
            case measure => simp [intOf]; omega
      · have hl1 := len_any wr p m V _ _ _ tw.one
        have hl2 := len_any wr p' m' V' _ _ _ tw.two
        have hn1 := now_any wr p m V _ _ _ tw.one
        have hn2 := now_any wr p' m' V' _ _ _ tw.two
        rw [from_length] at hl1 hl2
        rw [show ((a + t : Nat) : Int) = (a : Int) + t by omega] at hn1
        rw [show ((b + t : Nat) : Int) = (b : Int) + t by omega] at hn2
        have HB : Hid (Below w.heap.size w wr) := (t1.trans tw.f1.turned (fun i hi => .inl hi)).below (Nat.le_refl _) (fun i hi => hi.elim)
        clear tw
        by_cases hkl : k < len
        · have hk60 : ¬ ((k : Int) < 60) := by omega
          go_wp2_with fail
          refine hl1.mono ?_
          rintro e w' ⟨rfl, rfl⟩
          go_wp2_with fail
          refine hl2.mono ?_
          rintro e w' ⟨rfl, rfl⟩
          go_wp2_with fail
          refine hn1.mono ?_
          rintro e w' ⟨rfl, rfl⟩
          go_wp2_with fail
          refine hn2.mono ?_
          rintro e w' ⟨rfl, rfl⟩
          go_wp2_with fail
          go_ret
          exact ⟨by simp; omega, HB.out⟩
        · have hkn : ¬ ((k : Int) < len) := by omega
          go_wp2_with fail
          refine hl1.mono ?_
          rintro e w' ⟨rfl, rfl⟩
          go_wp2_with fail
          refine hl2.mono ?_
          rintro e w' ⟨rfl, rfl⟩
          go_wp2_with fail
          refine hn1.mono ?_
          rintro e w' ⟨rfl, rfl⟩
          go_wp2_with fail
          refine hn2.mono ?_
          rintro e w' ⟨rfl, rfl⟩
          go_wp2_with fail
          go_ret
          exact ⟨by simp; omega, HB.out⟩

set_option maxRecDepth 100000 in
theorem lifted (os : Os) (started : os.Started) (H : Type) (enc : TypeId × Value → H) :
    ReturnsInHanded {} Try.checked os 9 .any (Rows.wheelShiftSpec.pre6 enc Try.prog Try.f9 Rows.wheelShiftRow.domain false) (Rows.wheelShiftSpec.post enc Try.prog Try.f9 false true false false) := by
  refine returnsInHanded_of_change (C := Try.checked) own started (by kernel_rfl) Try.func9
    (ChangeSpec.witness6 (enc := enc) (C := Try.checked) false ⟨#[], #[.int .u64 0, .int .u64 0, .slice none 0 0], []⟩ 9 (by kernel_rfl) (by kernel_rfl) (by kernel_rfl) (by kernel_rfl)) ?_
  intro W base args ds gs before hval0 hW hcnd _
  have hval : ∀ (j : Nat) t v, Try.f9.params[j]? = some t → args[j]? = some v → Value.okWide Try.prog W .any base t v := hval0
  have hW' := hW
  obtain ⟨p, q, hA0, hV, rfl, hfz, hnd⟩ := hW
  have hA : DataW.TrodAll enc Try.prog W 0 (fun _ => true) true Try.f9.params.toList args.toList ds p := hA0
  rw [Try.params9] at hA hval
  obtain ⟨v0, vs0, d0, ds0, p0, q0, hargs0, rfl, rfl, h0, r0⟩ := trodAll_cons hA
  obtain ⟨v1, vs1, d1, ds1, p1, q1, hargs1, rfl, rfl, h1, r1⟩ := trodAll_cons r0
  obtain ⟨v2, vs2, d2, ds2, p2, q2, hargs2, rfl, rfl, h2, r2⟩ := trodAll_cons r1
  obtain ⟨rfl, rfl, rfl⟩ := trodAll_nil r2
  obtain rfl : args = #[v0, v1, v2] := by cases args; simp_all
  obtain ⟨rfl, rfl⟩ := trodVars_none hV
  obtain ⟨a0, rfl, rfl, rfl, w0⟩ := open_int Try.underlying22 (hval 0 22 v0 rfl rfl) h0
  obtain ⟨a1, rfl, rfl, rfl, w1⟩ := open_int Try.underlying22 (hval 1 22 v1 rfl rfl) h1
  obtain ⟨a2, len2, cap2, rfl⟩ := okWide_slice Try.underlying23 (hval 2 23 v2 rfl rfl)
  have k2 := h2
  have lt2 : ∀ x ∈ p2, x.block < W.heap.size := by obtain ⟨m, hm⟩ := k2; exact DataW.trod_lt m _ _ _ hm
  obtain ⟨xs2, hx2⟩ := open_acts h2
  clear hA0 hval0
  obtain ⟨n0, rfl, hn0⟩ := u64_of_wf w0
  obtain ⟨n1, rfl, hn1⟩ := u64_of_wf w1
  refine (walk W n0 hn0 n1 hn1 a2 len2 cap2 xs2 hx2).mono fun e W' ⟨he, bel⟩ => ?_
  subst he
  exact ⟨_, rfl, _, _, _, [], _, [], hW', trodAll_mk1 (shut_bool Try.underlying4 _), (trodAll_cons_mk (shut_int Try.underlying22 w0) (trodAll_cons_mk (shut_int Try.underlying22 w1) (trodAll_cons_mk (Below.trod laidOut (by kernel_rfl) (of_decide_eq_true (by kernel_rfl)) k2 bel lt2) trodAll_mk0))), rfl, bel.frame _, fun h => by cases h⟩

theorem over : Rows.wheelShiftRow.holds Try.pinned (OpenSpec.ofChange Rows.wheelShiftSpec) :=
  OpenClaim.holds_of_wide 9 Try.f9 rfl rfl rfl rfl rfl rfl rfl ⟨rfl, rfl, rfl, rfl, rfl⟩ rfl rfl rfl rfl rfl (by kernel_rfl) Try.func9 (by kernel_rfl)
    (of_decide_eq_true (by kernel_rfl)) (by unfold Func.isWrapper; first | (rw [if_pos (by decide +kernel)]; kernel_rfl) | (rw [if_neg (by decide +kernel)]; exact ⟨rfl, rfl⟩))
    (fun os started H enc _ => lifted os started H enc)

end Go.Proofs.Ytplcmaiphbjfcaa.wheelShift
namespace Go.Proofs.Ytplcmaiphbjfcaa
theorem wheelShift_holds : Rows.WheelShiftSaid := wheelShift.over
#print axioms wheelShift_holds
end Go.Proofs.Ytplcmaiphbjfcaa
