/-
  Proved: for every tick now, all numbers ins and every mask, WheelCancels(now, ins, mask) returns true: a timer that is cancelled is never due, and others are all the same; the document's example holds. No condition.
-/
import Derived.Test.YtplcmaiphbjfcaaRows
import Derived.Test.YtplcmaiphbjfcaaWArgs
namespace Go.Proofs.Ytplcmaiphbjfcaa.wheelCancels
open Go.ChangeShapes Go.WideShapes Go.ChangeAt Go.RowKit
open Go.ChangeMaps (open_string shut_string)
set_option linter.unusedVariables false
set_option linter.unusedSimpArgs false

def dx (xs : List Nat) (i : Nat) : Nat := 1 + xs.getD i 0 % 700
def ent (now : Nat) (xs : List Nat) (i : Nat) : Int × Nat := ((i : Int), now + dx xs i)
/-- Of the first so many timers those of which p. -/
def M (now : Nat) (xs : List Nat) (n : Nat) (p : Nat → Bool) : List (Int × Nat) := ((List.range n).filter p).map (ent now xs)
theorem M_congr {now : Nat} {xs : List Nat} {n : Nat} {p p' : Nat → Bool} (h : ∀ i, i < n → p i = p' i) : M now xs n p = M now xs n p' := by
  unfold M
  congr 1
  apply List.filter_congr
  intro i hi
  exact h i (List.mem_range.1 hi)
theorem M_arm (now : Nat) (xs : List Nat) (k : Nat) : (M now xs k (fun _ => true)).filter (fun x => decide (x.1 ≠ (k : Int))) ++ [((k : Int), now + dx xs k)] = M now xs (k + 1) (fun _ => true) := by
  unfold M
  rw [List.range_succ, List.filter_append, List.map_append]
  congr 1
  rw [List.filter_eq_self]
  intro x hx
  obtain ⟨i, hi, rfl⟩ := List.mem_map.1 hx
  have := List.mem_range.1 (List.mem_filter.1 hi).1
  show decide ((i : Int) ≠ (k : Int)) = true
  rw [decide_eq_true_eq]
  omega
theorem M_cancel (now : Nat) (xs : List Nat) (n k : Nat) (p : Nat → Bool) : (M now xs n p).filter (fun x => decide (x.1 ≠ (k : Int))) = M now xs n (fun i => p i && decide (i ≠ k)) := by
  unfold M
  rw [List.filter_map, List.filter_filter]
  congr 1
  apply List.filter_congr
  intro i _
  simp only [Function.comp, ent]
  by_cases e : i = k
  · subst e; simp
  · have : ¬ ((i : Int) = (k : Int)) := by omega
    simp [e, this]
theorem M_due (now : Nat) (xs : List Nat) (n t : Nat) (p : Nat → Bool) : dueAt (M now xs n p) (now + t) = ((List.range n).filter (fun i => p i && decide (dx xs i = t))).map (fun (i : Nat) => (i : Int)) := by
  unfold dueAt M
  rw [List.filter_map, List.filter_filter, List.map_map]
  congr 1
  apply List.filter_congr
  intro i _
  simp only [Function.comp, ent]
  by_cases e : dx xs i = t
  · subst e; simp
  · simp [e]
theorem M_left (now : Nat) (xs : List Nat) (n t : Nat) (p : Nat → Bool) : leftAt (M now xs n p) (now + t) = M now xs n (fun i => p i && decide (dx xs i ≠ t)) := by
  unfold leftAt M
  rw [List.filter_map, List.filter_filter]
  congr 1
  apply List.filter_congr
  intro i _
  simp only [Function.comp, ent]
  by_cases e : dx xs i = t
  · subst e; simp
  · simp [e]
theorem lookup_ent (now : Nat) (xs : List Nat) (k : Nat) : ∀ L : List Nat, (L.map (ent now xs)).lookup (k : Int) = if k ∈ L then some (now + dx xs k) else none
  | [] => rfl
  | i :: L => by
    rw [List.map_cons, ent, List.lookup_cons]
    by_cases e : k = i
    · subst e; simp
    · have : ((k : Int) == (i : Int)) = false := by simp; omega
      rw [this, lookup_ent now xs k L]
      by_cases c : k ∈ L <;> simp [c, e]
theorem M_lookup (now : Nat) (xs : List Nat) (n k : Nat) (p : Nat → Bool) (hk : k < n) : errOf ((M now xs n p).lookup (k : Int)) = if p k then 0 else 6 := by
  unfold M
  rw [lookup_ent]
  by_cases h : p k
  · rw [if_pos (List.mem_filter.2 ⟨List.mem_range.2 hk, h⟩), if_pos h]; rfl
  · rw [if_neg (fun hm => h (List.mem_filter.1 hm).2), if_neg h]; rfl
theorem M_length (now : Nat) (xs : List Nat) (n : Nat) (p : Nat → Bool) : (M now xs n p).length = ((List.range n).filter p).length := by unfold M; rw [List.length_map]
def bt (mask i : Nat) : Bool := bits BinOp.and IntKind.u32 ((mask : Int) / 2 ^ i) 1 == 1
def cnt (mask k : Nat) : Nat := ((List.range k).filter (fun i => !bt mask i)).length
theorem cnt_succ (mask k : Nat) : cnt mask (k + 1) = cnt mask k + if bt mask k then 0 else 1 := by
  unfold cnt
  rw [List.range_succ, List.filter_append, List.length_append]
  by_cases h : bt mask k <;> simp [h]
theorem cnt_le (mask k : Nat) : cnt mask k ≤ k := by unfold cnt; exact Nat.le_trans (List.length_filter_le _ _) (by simp)
/-- Those that aren't cancelled yet. -/
def p2 (mask c : Nat) (i : Nat) : Bool := !(decide (i < c) && bt mask i)
/-- Those that aren't due yet. -/
def p3 (mask : Nat) (xs : List Nat) (t : Nat) (i : Nat) : Bool := !bt mask i && decide (t ≤ dx xs i)
def ds (mask : Nat) (xs : List Nat) (k t : Nat) : List Nat := (List.range k).filter (fun i => p3 mask xs t i && decide (dx xs i = t))
theorem step_due (now mask : Nat) (xs : List Nat) (k t : Nat) : dueAt (M now xs k (p3 mask xs t)) (now + t) = (ds mask xs k t).map (fun (i : Nat) => (i : Int)) := M_due _ _ _ _ _
theorem step_left (now mask : Nat) (xs : List Nat) (k t : Nat) : leftAt (M now xs k (p3 mask xs t)) (now + t) = M now xs k (p3 mask xs (t + 1)) := by
  rw [M_left]
  apply M_congr
  intro i _
  unfold p3
  by_cases h1 : t + 1 ≤ dx xs i
  · have h2 : t ≤ dx xs i := by omega
    have h3 : dx xs i ≠ t := by omega
    simp [h1, h2, h3]
  · by_cases h2 : dx xs i = t
    · simp [h1, h2]
    · have h3 : ¬ t ≤ dx xs i := by omega
      simp [h1, h3]

theorem parts (p q : Nat → Bool) (L : List Nat) : (L.filter (fun i => p i && q i)).length + (L.filter (fun i => p i && !q i)).length = (L.filter p).length := by
  induction L with
  | nil => rfl
  | cons a L ih =>
    by_cases hp : p a
    · by_cases hq : q a
      · simp [hp, hq] at ih ⊢; omega
      · simp [hp, hq] at ih ⊢; omega
    · simp [hp] at ih ⊢; omega

theorem step_len (now mask : Nat) (xs : List Nat) (k t : Nat) : (M now xs k (p3 mask xs (t + 1))).length + (ds mask xs k t).length = (M now xs k (p3 mask xs t)).length := by
  rw [← step_left, M_left, M_length, M_length]
  have := parts (p3 mask xs t) (fun i => decide (dx xs i = t)) (List.range k)
  unfold ds
  have e : (List.filter (fun i => p3 mask xs t i && decide (dx xs i ≠ t)) (List.range k)) = (List.filter (fun i => p3 mask xs t i && !decide (dx xs i = t)) (List.range k)) := by
    apply List.filter_congr
    intro i _
    simp
  rw [e]
  omega
theorem ds_get {mask : Nat} {xs : List Nat} {k t j i : Nat} (h : (ds mask xs k t)[j]? = some i) : i < k ∧ bt mask i = false ∧ dx xs i = t := by
  have hm := List.mem_of_getElem? h
  unfold ds at hm
  rw [List.mem_filter, List.mem_range] at hm
  obtain ⟨h1, h2⟩ := hm
  unfold p3 at h2
  simp at h2
  exact ⟨h1, h2.1.1, h2.2⟩
theorem all_late (now mask : Nat) (xs : List Nat) (k : Nat) : M now xs k (p3 mask xs 701) = [] := by
  unfold M
  rw [List.filter_eq_nil_iff.2]
  · rfl
  · intro i _
    have : ¬ (701 ≤ dx xs i) := by unfold dx; omega
    unfold p3
    rw [decide_eq_false this]
    simp
theorem p3_start (now mask : Nat) (xs : List Nat) (k : Nat) : M now xs k (p2 mask k) = M now xs k (p3 mask xs 1) := by
  apply M_congr
  intro i hi
  unfold p2 p3 dx
  have : 1 ≤ 1 + xs.getD i 0 % 700 := by omega
  simp [hi, this]
theorem cnt_is (now mask : Nat) (xs : List Nat) (k : Nat) : (M now xs k (p2 mask k)).length = cnt mask k := by
  rw [M_length]
  unfold cnt
  congr 1
  apply List.filter_congr
  intro i hi
  unfold p2
  simp [List.mem_range.1 hi]
theorem p2_zero (now mask : Nat) (xs : List Nat) (k : Nat) : M now xs k (fun _ => true) = M now xs k (p2 mask 0) := by
  apply M_congr
  intro i _
  simp [p2]
theorem p2_skip (now mask : Nat) (xs : List Nat) (k c : Nat) (h : bt mask c = false) : M now xs k (p2 mask c) = M now xs k (p2 mask (c + 1)) := by
  apply M_congr
  intro i _
  unfold p2
  by_cases e : i = c
  · subst e; simp [h]
  · by_cases h1 : i < c
    · have h2 : i < c + 1 := by omega
      simp [h1, h2]
    · have h2 : ¬ i < c + 1 := by omega
      simp [h1, h2]
theorem p2_cancel (now mask : Nat) (xs : List Nat) (k c : Nat) (h : bt mask c = true) : M now xs k (fun i => p2 mask c i && decide (i ≠ c)) = M now xs k (p2 mask (c + 1)) := by
  apply M_congr
  intro i _
  unfold p2
  by_cases e : i = c
  · subst e; simp [h]
  · by_cases h1 : i < c
    · have h2 : i < c + 1 := by omega
      simp [h1, h2, e]
    · have h2 : ¬ i < c + 1 := by omega
      simp [h1, h2, e]
theorem p2_again (now mask : Nat) (xs : List Nat) (k c : Nat) (h : bt mask c = true) : M now xs k (fun i => p2 mask (c + 1) i && decide (i ≠ c)) = M now xs k (p2 mask (c + 1)) := by
  apply M_congr
  intro i _
  unfold p2
  by_cases e : i = c
  · subst e; simp [h]
  · simp [e]

set_option maxRecDepth 20000 in
set_option maxHeartbeats 1000000 in
theorem walk (w : World) (now : Nat) (h0 : now < 18446744073709551616) (a : Option Addr) (len cap : Nat) (xs : List Nat) (hx : Nums w .u16 a len 65536 xs) (mask : Nat) (h2 : mask < 4294967296) :
    Calls Try.prog 8 #[.int .u64 (now : Nat), .slice a len cap, .int .u32 (mask : Nat)] w fun e w' => e = .returned (.bool true) ∧ Below w.heap.size w w' := by
  have hmax := hx.max
  by_cases hbig : 576460752303423488 < now ∨ 30 < len
  · clear hx
    rcases Nat.lt_or_ge 576460752303423488 now with hb | hb
    · go_enter Try.func8, Try.ntmps8
      go_wp2_with fail
      refine (awake_any _).mono ?_
      rintro e w1 ⟨rfl, t1⟩
      go_wp2_with fail
      refine (awake_any _).mono ?_
      rintro e w2 ⟨rfl, t2⟩
      go_wp2_with fail
      go_ret
      exact ⟨rfl, (t1.trans t2 (fun i hi => .inl hi)).below (Nat.le_refl _) (fun i hi => hi.elim)⟩
    · have hnb : ¬ ((576460752303423488 : Int) < now) := by omega
      have hl : (30 : Int) < len := by omega
      go_enter Try.func8, Try.ntmps8
      go_wp2_with fail
      refine (awake_any _).mono ?_
      rintro e w1 ⟨rfl, t1⟩
      go_wp2_with fail
      refine (awake_any _).mono ?_
      rintro e w2 ⟨rfl, t2⟩
      go_wp2_with fail
      go_ret
      exact ⟨rfl, (t1.trans t2 (fun i hi => .inl hi)).below (Nat.le_refl _) (fun i hi => hi.elim)⟩
  · have hnb : ¬ ((576460752303423488 : Int) < now) := by omega
    have hnl : ¬ ((30 : Int) < len) := by omega
    have HX : Hid (Nums w .u16 a len 65536 xs) := hx
    clear hx
    go_enter Try.func8, Try.ntmps8
    go_wp2_with fail
    refine (awake_any _).mono ?_
    rintro e w1 ⟨rfl, t1⟩
    go_wp2_with fail
    refine (new_any _ now (by omega)).mono ?_
    rintro e w2 ⟨p, m, V2, rfl, k2, t2, f2⟩
    have HK : Hid (Wh w2 p m V2 now 0 (M now xs 0 (fun _ => true)) ∧ Fresh w1 w2 p m V2) := ⟨k2, t2, f2⟩
    clear k2 t2 f2
    go_wp2_with fail
    go_loopw [9] (fun i wr => ∃ k V', k ≤ len ∧ i = .int .i64 (k : Nat) ∧ Wh wr p m V' now k (M now xs k (fun _ => true)) ∧ Fresh w1 wr p m V') (fun i _ => len - (intOf i).toNat)
    case atStart => exact ⟨0, V2, by omega, rfl, HK.out.1, HK.out.2⟩
    case round =>
      obtain ⟨k, V', hk, rfl, kk, ff⟩ := hrel
      by_cases hend : k = len
      · subst hend
        have HK2 : Hid (Wh wr p m V' now k (M now xs k (fun _ => true)) ∧ Fresh w1 wr p m V') := ⟨kk, ff⟩
        clear kk ff HK
        go_wp2_with fail
        obtain ⟨wo, hwo⟩ : ∃ wo : World, wo = wr := ⟨_, rfl⟩
        go_loopw [10, 11] (fun l i wd => ∃ c V', c ≤ k ∧ i = .int .i64 (c : Nat) ∧ l = .int .i64 (cnt mask c : Nat) ∧ Wh wd p m V' now k (M now xs k (p2 mask c)) ∧ Fresh w1 wd p m V') (fun _ i _ => k - (intOf i).toNat)
        case atStart => exact ⟨0, V', by omega, rfl, rfl, by rw [← p2_zero]; exact HK2.out.1, HK2.out.2⟩
        case round =>
          obtain ⟨c, Vc, hc1, rfl, rfl, kc, fc⟩ := hrel
          have hcl := cnt_le mask c
          clear HK2
          by_cases hlast : c = k
          · subst hlast
            have hln := len_any wr p m Vc _ _ _ kc
            rw [cnt_is] at hln
            have e3 := cnt_is now mask xs c
            rw [p3_start] at e3 kc
            rw [← e3] at hln hcl ⊢
            have HK3 : Hid (Wh wr p m Vc now c (M now xs c (p3 mask xs 1)) ∧ Fresh w1 wr p m Vc) := ⟨kc, fc⟩
            clear kc fc e3
            obtain ⟨l0, HL0⟩ : ∃ l0, Hid ((M now xs c (p3 mask xs 1)).length = l0) := ⟨_, rfl⟩
            rw [HL0.out] at hln hcl ⊢
            go_wp2_with fail
            refine hln.mono ?_
            rintro e w' ⟨rfl, rfl⟩
            go_wp2_with fail
            obtain ⟨wo2, hwo2⟩ : ∃ wo : World, wo = wr := ⟨_, rfl⟩
            go_loopw [10, 12] (fun l i wd => ∃ t V', 1 ≤ t ∧ t ≤ 701 ∧ i = .int .u64 (t : Nat) ∧ l = .int .i64 ((M now xs c (p3 mask xs t)).length : Nat) ∧ Wh wd p m V' (now + (t - 1)) c (M now xs c (p3 mask xs t)) ∧ Fresh w1 wd p m V') (fun _ i _ => 701 - (intOf i).toNat)
            case atStart => exact ⟨1, Vc, by omega, by omega, rfl, by rw [HL0.out], HK3.out.1, HK3.out.2⟩
            case round =>
              obtain ⟨t, Vt, ht1, ht2, rfl, rfl, kt, ft⟩ := hrel
              clear HK3 hln
              by_cases htl : t = 701
              · subst htl
                have hln := len_any wr p m Vt _ _ _ kt
                rw [all_late] at hln ⊢
                have HB : Hid (Below w.heap.size w wr) := (t1.trans ft.turned (fun i hi => .inl hi)).below (Nat.le_refl _) (fun i hi => hi.elim)
                clear kt ft
                simp only [List.length_nil] at hln ⊢
                go_wp2_with fail
                refine hln.mono ?_
                rintro e w' ⟨rfl, rfl⟩
                go_wp2_with fail
                go_ret
                exact ⟨rfl, HB.out⟩
              · have htk := tick_wh wr p m Vt _ _ _ kt (by omega) (by omega)
                rw [show now + (t - 1) + 1 = now + t by omega, step_due, step_left] at htk
                have hsl := step_len now mask xs c t
                have hN : (M now xs c (p3 mask xs t)).length ≤ c := by rw [M_length]; exact Nat.le_trans (List.length_filter_le _ _) (by simp)
                have FT : Hid (Fresh w1 wr p m Vt) := ft
                clear kt ft
                obtain ⟨N, hNe⟩ : ∃ N, (M now xs c (p3 mask xs t)).length = N := ⟨_, rfl⟩
                obtain ⟨N', HN'⟩ : ∃ N', Hid ((M now xs c (p3 mask xs (t + 1))).length = N') := ⟨_, rfl⟩
                rw [hNe] at hN hsl ⊢
                rw [HN'.out] at hsl
                clear hNe
                go_wp2_with fail
                refine htk.mono ?_
                rintro e w5 ⟨v, V5, rfl, hrow, k5, g5, _⟩
                have hI : Ints w5 v ((ds mask xs c t).map (fun (i : Nat) => (i : Int))) := row_base hrow (Nat.zero_le _)
                rw [List.length_map] at hrow
                obtain ⟨D, HD⟩ : ∃ D, Hid ((ds mask xs c t).length = D) := ⟨_, rfl⟩
                rw [HD.out] at hrow hsl
                obtain ⟨ao, cp, rfl, hcap, hmx⟩ := row_shape hrow
                have HI : Hid (Ints w5 (.slice ao D cp) ((ds mask xs c t).map (fun (i : Nat) => (i : Int)))) := hI
                have F5 := FT.out.goes g5
                have HX5 : Hid (Nums w5 .u16 a c 65536 xs) := HX.out.turned (t1.trans F5.turned (fun i hi => .inl hi))
                have HE : Hid (Wh w5 p m V5 (now + t) c (M now xs c (p3 mask xs (t + 1))) ∧ Fresh w1 w5 p m V5) := ⟨k5, F5⟩
                clear hrow k5 g5 htk hI F5
                go_wp2_with fail
                obtain ⟨wo3, hwo3⟩ : ∃ wo : World, wo = wr := ⟨_, rfl⟩
                go_loopw [10, 15] (fun l i wd => ∃ j, j ≤ D ∧ i = .int .i64 (j : Nat) ∧ l = .int .i64 ((N : Int) - j) ∧ wd = w5) (fun _ i _ => D - (intOf i).toNat)
                case atStart => exact ⟨0, by omega, rfl, by simp, rfl⟩
                case round =>
                  obtain ⟨j, hj, rfl, rfl, rfl⟩ := hrel
                  by_cases hjD : j = D
                  · subst hjD
                    go_wp2_with fail
                    go_roundw
                    case rel => exact ⟨t + 1, V5, by omega, by omega, by go_num, by rw [HN'.out]; congr 1; omega, HE.out.1, HE.out.2⟩
                    case measure => simp [intOf]; omega
                  · obtain ⟨i, hi⟩ : ∃ i, (ds mask xs c t)[j]? = some i := ⟨_, List.getElem?_eq_getElem (by rw [HD.out]; omega)⟩
                    obtain ⟨hi1, hi2, hi3⟩ := ds_get hi
                    obtain ⟨g, rfl, hcI⟩ := HI.out.cell (show j < ((ds mask xs c t).map (fun (i : Nat) => (i : Int))).length by rw [List.length_map, HD.out]; omega)
                    have hcj := hcI j (i : Int) (by rw [List.getElem?_map, hi]; rfl)
                    obtain ⟨ad, rfl, hb, hcx⟩ := HX5.out.cell (by omega)
                    have hci := hcx i hi1
                    have hraw : (bits BinOp.and IntKind.u32 ((mask : Int) / 2 ^ i) 1 == 1) = false := hi2
                    have hxi : 1 + xs.getD i 0 % 700 = t := hi3
                    have hlt := HX5.out.lt i
                    generalize xs.getD i 0 = x at *
                    have hxt : (1 : Int) + (x : Int) % 700 = t := by omega
                    clear hcI hcx hi hi2 hi3
                    go_wp2_with fail
                    go_roundw
                    case rel => exact ⟨j + 1, by omega, by go_num, by congr 1; omega, trivial⟩
                    case measure => simp [intOf]; omega
          · have HC : Hid (cnt mask (c + 1) = cnt mask c + if bt mask c then 0 else 1) := cnt_succ mask c
            generalize cnt mask c = cn at *
            cases hbt : bt mask c with
            | true =>
              have hraw : (bits BinOp.and IntKind.u32 ((mask : Int) / 2 ^ c) 1 == 1) = true := hbt
              have h1 := cancel_any wr p m Vc now k _ kc (by omega) (c : Int) (In_small (by omega))
              rw [M_lookup _ _ _ _ _ (by omega), M_cancel, p2_cancel _ _ _ _ _ hbt, if_pos (by simp [p2])] at h1
              have FC : Hid (Fresh w1 wr p m Vc) := fc
              have HBT : Hid (bt mask c = true) := hbt
              clear kc fc hbt
              go_wp2_with fail
              refine h1.mono ?_
              rintro e w4 ⟨rfl, V4, k4, g4⟩
              have h2 := cancel_any w4 p m V4 now k _ k4 (by omega) (c : Int) (In_small (by omega))
              rw [M_lookup _ _ _ _ _ (by omega), M_cancel, p2_again _ _ _ _ _ HBT.out, if_neg (by simp [p2, HBT.out])] at h2
              have F4 : Hid (Fresh w1 w4 p m V4) := FC.out.goes g4
              clear k4 g4 h1
              go_wp2_with fail
              refine h2.mono ?_
              rintro e w5 ⟨rfl, V5, k5, g5⟩
              have HE : Hid (Wh w5 p m V5 now k (M now xs k (p2 mask (c + 1))) ∧ Fresh w1 w5 p m V5) := ⟨k5, F4.out.goes g5⟩
              clear k5 g5 h2
              go_wp2_with fail
              go_roundw
              case rel => exact ⟨c + 1, V5, by omega, by go_num, by rw [HC.out, if_pos HBT.out]; rfl, HE.out.1, HE.out.2⟩
              case measure => simp [intOf]; omega
            | false =>
              have hraw : (bits BinOp.and IntKind.u32 ((mask : Int) / 2 ^ c) 1 == 1) = false := hbt
              rw [p2_skip _ _ _ _ _ hbt] at kc
              have HE : Hid (Wh wr p m Vc now k (M now xs k (p2 mask (c + 1))) ∧ Fresh w1 wr p m Vc) := ⟨kc, fc⟩
              have HBT : Hid (bt mask c = false) := hbt
              clear kc fc hbt
              go_wp2_with fail
              go_roundw
              case rel => exact ⟨c + 1, Vc, by omega, by go_num, by rw [HC.out, if_neg (by rw [HBT.out]; simp)]; rfl, HE.out.1, HE.out.2⟩
              case measure => simp [intOf]; omega
      · obtain ⟨ad, rfl, hb, hc⟩ := (HX.out.turned (t1.trans ff.turned (fun i hi => .inl hi))).cell (by omega)
        have hck := hc k (by omega)
        have hlt := HX.out.lt k
        have ha := arm_any wr p m V' now k _ kk (by omega) (k : Int) (In_small (by omega)) (dx xs k) (by unfold dx; omega) (by unfold dx; omega)
        rw [M_arm] at ha
        rw [show (dx xs k : Nat) = 1 + xs.getD k 0 % 700 from rfl] at ha
        generalize xs.getD k 0 = x at *
        rw [show ((1 + x % 700 : Nat) : Int) = 1 + (x : Int) % 700 by omega] at ha
        have FF : Hid (Fresh w1 wr p m V') := ff
        clear kk ff HK hc
        go_wp2_with fail
        refine ha.mono ?_
        rintro e w4 ⟨rfl, V4, k4, g4⟩
        have HE : Hid (Wh w4 p m V4 now (k + 1) (M now xs (k + 1) (fun _ => true)) ∧ Fresh w1 w4 p m V4) := ⟨k4, FF.out.goes g4⟩
        clear k4 g4 ha
        go_wp2_with fail
        go_roundw
        case rel => exact ⟨k + 1, V4, by omega, by go_num, HE.out.1, HE.out.2⟩
        case measure => simp [intOf]; omega

set_option maxRecDepth 100000 in
theorem lifted (os : Os) (started : os.Started) (H : Type) (enc : TypeId × Value → H) :
    ReturnsInHanded {} Try.checked os 8 .any (Rows.wheelCancelsSpec.pre6 enc Try.prog Try.f8 Rows.wheelCancelsRow.domain false) (Rows.wheelCancelsSpec.post enc Try.prog Try.f8 false true false false) := by
  refine returnsInHanded_of_change (C := Try.checked) own started (by kernel_rfl) Try.func8
    (ChangeSpec.witness6 (enc := enc) (C := Try.checked) false ⟨#[], #[.int .u64 0, .slice none 0 0, .int .u32 0], []⟩ 8 (by kernel_rfl) (by kernel_rfl) (by kernel_rfl) (by kernel_rfl)) ?_
  intro W base args ds gs before hval0 hW hcnd _
  have hval : ∀ (j : Nat) t v, Try.f8.params[j]? = some t → args[j]? = some v → Value.okWide Try.prog W .any base t v := hval0
  have hW' := hW
  obtain ⟨p, q, hA0, hV, rfl, hfz, hnd⟩ := hW
  have hA : DataW.TrodAll enc Try.prog W 0 (fun _ => true) true Try.f8.params.toList args.toList ds p := hA0
  rw [Try.params8] at hA hval
  obtain ⟨v0, vs0, d0, ds0, p0, q0, hargs0, rfl, rfl, h0, r0⟩ := trodAll_cons hA
  obtain ⟨v1, vs1, d1, ds1, p1, q1, hargs1, rfl, rfl, h1, r1⟩ := trodAll_cons r0
  obtain ⟨v2, vs2, d2, ds2, p2, q2, hargs2, rfl, rfl, h2, r2⟩ := trodAll_cons r1
  obtain ⟨rfl, rfl, rfl⟩ := trodAll_nil r2
  obtain rfl : args = #[v0, v1, v2] := by cases args; simp_all
  obtain ⟨rfl, rfl⟩ := trodVars_none hV
  obtain ⟨a0, rfl, rfl, rfl, w0⟩ := open_int Try.underlying22 (hval 0 22 v0 rfl rfl) h0
  obtain ⟨a1, len1, cap1, rfl⟩ := okWide_slice Try.underlying58 (hval 1 58 v1 rfl rfl)
  have k1 := h1
  have lt1 : ∀ x ∈ p1, x.block < W.heap.size := by obtain ⟨m, hm⟩ := k1; exact DataW.trod_lt m _ _ _ hm
  obtain ⟨xs1, hx1⟩ := open_nums Try.underlying58 Try.underlying52 cells52 (fun _ h => u16_of_wf h) (by omega) h1
  obtain ⟨a2, rfl, rfl, rfl, w2⟩ := open_int Try.underlying59 (hval 2 59 v2 rfl rfl) h2
  clear hA0 hval0
  obtain ⟨n0, rfl, hn0⟩ := u64_of_wf w0
  obtain ⟨n2, rfl, hn2⟩ := u32_of_wf w2
  refine (walk W n0 hn0 a1 len1 cap1 xs1 hx1 n2 hn2).mono fun e W' ⟨he, bel⟩ => ?_
  subst he
  exact ⟨_, rfl, _, _, _, [], _, [], hW', trodAll_mk1 (shut_bool Try.underlying4 _), (trodAll_cons_mk (shut_int Try.underlying22 w0) (trodAll_cons_mk (Below.trod laidOut (by kernel_rfl) (of_decide_eq_true (by kernel_rfl)) k1 bel lt1) (trodAll_cons_mk (shut_int Try.underlying59 w2) trodAll_mk0))), rfl, bel.frame _, fun h => by cases h⟩

theorem over : Rows.wheelCancelsRow.holds Try.pinned (OpenSpec.ofChange Rows.wheelCancelsSpec) :=
  OpenClaim.holds_of_wide 8 Try.f8 rfl rfl rfl rfl rfl rfl rfl ⟨rfl, rfl, rfl, rfl, rfl⟩ rfl rfl rfl rfl rfl (by kernel_rfl) Try.func8 (by kernel_rfl)
    (of_decide_eq_true (by kernel_rfl)) (by unfold Func.isWrapper; first | (rw [if_pos (by decide +kernel)]; kernel_rfl) | (rw [if_neg (by decide +kernel)]; exact ⟨rfl, rfl⟩))
    (fun os started H enc _ => lifted os started H enc)

end Go.Proofs.Ytplcmaiphbjfcaa.wheelCancels
namespace Go.Proofs.Ytplcmaiphbjfcaa
theorem wheelCancels_holds : Rows.WheelCancelsSaid := wheelCancels.over
#print axioms wheelCancels_holds
end Go.Proofs.Ytplcmaiphbjfcaa
