/-
  Proved: for every tick now, all bytes ahead and every number gap, WheelOrder(now, ahead, gap) returns true: timers that are due at one tick come in the order in which they were armed, whenever that was; the document's example holds. No condition.
-/
import Derived.Test.YtplcmaiphbjfcaaRows
import Derived.Test.YtplcmaiphbjfcaaWArgs
namespace Go.Proofs.Ytplcmaiphbjfcaa.wheelOrder
open Go.ChangeShapes Go.WideShapes Go.ChangeAt Go.RowKit
open Go.ChangeMaps (open_string shut_string)
set_option linter.unusedVariables false

def ids (k : Nat) : List Int := (List.range k).map (fun (i : Nat) => (i : Int))
def ord (d k : Nat) : List (Int × Nat) := (ids k).map (fun i => (i, d))
theorem ids_succ (k : Nat) : ids (k + 1) = ids k ++ [(k : Int)] := by unfold ids; rw [List.range_succ, List.map_append]; rfl
theorem ids_length (k : Nat) : (ids k).length = k := by unfold ids; simp
theorem ids_get (k j : Nat) (h : j < k) : (ids k)[j]? = some (j : Int) := by unfold ids; simp [h]
theorem ord_arm (d k : Nat) : (ord d k).filter (fun x => decide (x.1 ≠ (k : Int))) ++ [((k : Int), d)] = ord d (k + 1) := by
  unfold ord
  rw [ids_succ, List.map_append]
  congr 1
  rw [List.filter_eq_self]
  intro x hx
  unfold ids at hx
  simp at hx
  obtain ⟨i, hi, rfl⟩ := hx
  simp
  omega
theorem ord_due (d k t : Nat) (h : t ≠ d) : dueAt (ord d k) t = [] := by
  unfold dueAt ord
  rw [List.filter_eq_nil_iff.2]
  · rfl
  · intro x hx
    obtain ⟨i, _, rfl⟩ := List.mem_map.1 hx
    simp
    omega
theorem ord_left (d k t : Nat) (h : t ≠ d) : leftAt (ord d k) t = ord d k := by
  unfold leftAt ord
  rw [List.filter_eq_self]
  intro x hx
  obtain ⟨i, _, rfl⟩ := List.mem_map.1 hx
  simp
  omega
theorem ord_last (d k : Nat) : dueAt (ord d k) d = ids k := by
  unfold dueAt ord
  rw [List.filter_eq_self.2]
  · rw [List.map_map]; simp [Function.comp_def]
  · intro x hx
    obtain ⟨i, _, rfl⟩ := List.mem_map.1 hx
    simp

set_option maxRecDepth 20000 in
set_option maxHeartbeats 1000000 in
theorem walk (w : World) (now : Nat) (h0 : now < 18446744073709551616) (a : Option Addr) (len cap : Nat) (xs : List Nat) (hx : Nums w .u8 a len 256 xs) (gap : Nat) (h2 : gap < 256) :
    Calls Try.prog 7 #[.int .u64 (now : Nat), .slice a len cap, .int .u8 (gap : Nat)] w fun e w' => e = .returned (.bool true) ∧ Below w.heap.size w w' := by
  have hmax := hx.max
  clear hx
  by_cases hbig : 576460752303423488 < now ∨ 40 < len
  · rcases Nat.lt_or_ge 576460752303423488 now with hb | hb
    · go_enter Try.func7, Try.ntmps7
      go_wp2_with fail
      refine (awake_any _).mono ?_
      rintro e w1 ⟨rfl, t1⟩
      go_wp2_with fail
      refine (awake_any _).mono ?_
      rintro e w2 ⟨rfl, t2⟩
      go_wp2_with fail
      go_ret
      exact ⟨rfl, (t1.trans t2 (fun i hi => .inl hi)).below (Nat.le_refl _) (fun i hi => hi.elim)⟩
    · have hnb : ¬ ((576460752303423488 : Int) < now) := by omega
      have hl : (40 : Int) < len := by omega
      go_enter Try.func7, Try.ntmps7
      go_wp2_with fail
      refine (awake_any _).mono ?_
      rintro e w1 ⟨rfl, t1⟩
      go_wp2_with fail
      refine (awake_any _).mono ?_
      rintro e w2 ⟨rfl, t2⟩
      go_wp2_with fail
      go_ret
      exact ⟨rfl, (t1.trans t2 (fun i hi => .inl hi)).below (Nat.le_refl _) (fun i hi => hi.elim)⟩
  · have hnb : ¬ ((576460752303423488 : Int) < now) := by omega
    have hnl : ¬ ((40 : Int) < len) := by omega
    go_enter Try.func7, Try.ntmps7
    go_wp2_with fail
    refine (awake_any _).mono ?_
    rintro e w1 ⟨rfl, t1⟩
    go_wp2_with fail
    refine (new_any _ now (by omega)).mono ?_
    rintro e w2 ⟨p, m, V2, rfl, k2, t2, f2⟩
    have HK : Hid (Wh w2 p m V2 now 0 (ord (now + (len + 1 + gap)) 0) ∧ Fresh w1 w2 p m V2) := ⟨k2, t2, f2⟩
    clear k2 t2 f2
    go_wp2_with fail
    obtain ⟨n, hn, hnn⟩ : ∃ n : Nat, ((len : Int) + 1 + (gap : Int)) = n ∧ len + 1 + gap = n := ⟨len + 1 + gap, by omega, rfl⟩
    rw [hn]
    rw [hnn] at HK
    clear hn
    go_loopw [10] (fun i wr => ∃ k V', k ≤ len ∧ i = .int .i64 (k : Nat) ∧ Wh wr p m V' (now + k) k (ord (now + n) k) ∧ Fresh w1 wr p m V') (fun i _ => len - (intOf i).toNat)
    case atStart => exact ⟨0, V2, by omega, rfl, HK.out.1, HK.out.2⟩
    case round =>
      obtain ⟨k, V', hk, rfl, kk, ff⟩ := hrel
      by_cases hend : k = len
      · subst hend
        have HK2 : Hid (Wh wr p m V' (now + k) k (ord (now + n) k) ∧ Fresh w1 wr p m V') := ⟨kk, ff⟩
        clear kk ff HK
        go_wp2_with fail
        obtain ⟨wo, hwo⟩ : ∃ wo : World, wo = wr := ⟨_, rfl⟩
        go_loopw [13] (fun i wd => ∃ c V', k ≤ c ∧ c + 1 ≤ n ∧ i = .int .u64 (c : Nat) ∧ Wh wd p m V' (now + c) k (ord (now + n) k) ∧ Fresh w1 wd p m V') (fun i _ => n - (intOf i).toNat)
        case atStart => exact ⟨k, V', by omega, by omega, rfl, HK2.out.1, HK2.out.2⟩
        case round =>
          obtain ⟨c, Vc, hc1, hc2, rfl, kc, fc⟩ := hrel
          clear HK2
          by_cases hlast : c + 1 = n
          · have ht := tick_wh wr p m Vc _ _ _ kc (by omega) (by omega)
            rw [show now + c + 1 = now + n by omega, ord_last] at ht
            have FC : Hid (Fresh w1 wr p m Vc) := fc
            clear kc fc
            go_wp2_with fail
            refine ht.mono ?_
            rintro e w5 ⟨v, V5, rfl, hrow, k5, g5, _⟩
            have hI : Ints w5 v (ids k) := row_base hrow (Nat.zero_le _)
            rw [ids_length] at hrow
            obtain ⟨ao, cp, rfl, hcap, hmx⟩ := row_shape hrow
            have HI : Hid (Ints w5 (.slice ao k cp) (ids k)) := hI
            have HB : Hid (∀ q, Below w.heap.size w (w5.drewN q)) := fun q => ((t1.trans (FC.out.goes g5).turned (fun i hi => .inl hi)).drewN q).below (Nat.le_refl _) (fun i hi => hi.elim)
            clear hrow k5 g5 ht hI
            go_wp2_with fail
            go_loopw [18] (fun i wd => ∃ j q, j ≤ k ∧ i = .int .i64 (j : Nat) ∧ wd = w5.drewN q) (fun i _ => k - (intOf i).toNat)
            case atStart => exact ⟨0, 0, by omega, rfl, rfl⟩
            case round =>
              obtain ⟨j, q, hj, rfl, rfl⟩ := hrel
              by_cases hjk : j = k
              · subst hjk
                go_wp2_with fail
                go_ret
                exact ⟨rfl, HB.out q⟩
              · obtain ⟨g, rfl, hc⟩ := HI.out.cell (show j < (ids k).length by rw [ids_length]; omega)
                have hcj := hc j (j : Int) (ids_get k j (by omega))
                clear hc
                go_wp2_with fail
                go_roundw
                case rel => exact ⟨j + 1, q, by omega, by go_num, rfl⟩
                case measure => simp [intOf]; omega
          · have ht := tick_wh wr p m Vc _ _ _ kc (by omega) (by omega)
            rw [ord_due _ _ _ (by omega), ord_left _ _ _ (by omega)] at ht
            have FC : Hid (Fresh w1 wr p m Vc) := fc
            clear kc fc
            go_wp2_with fail
            refine ht.mono ?_
            rintro e w5 ⟨v, V5, rfl, hrow, k5, g5, _⟩
            obtain ⟨ao, cp, rfl, hcap, hmx⟩ := row_shape hrow
            have HE : Hid (Wh w5 p m V5 (now + (c + 1)) k (ord (now + n) k) ∧ Fresh w1 w5 p m V5) := ⟨k5, FC.out.goes g5⟩
            clear hrow k5 g5 ht
            simp only [List.length_nil] at hcap ⊢
            go_wp2_with fail
            go_roundw
            case rel => exact ⟨c + 1, V5, by omega, by omega, by go_num, HE.out.1, HE.out.2⟩
            case measure => simp [intOf]; omega
      · have ha := arm_any wr p m V' (now + k) k (ord (now + n) k) kk (by omega) (k : Int) (In_small (by omega)) (n - k) (by omega) (by omega)
        rw [show now + k + (n - k) = now + n by omega, ord_arm, show ((n - k : Nat) : Int) = (n : Int) - k by omega] at ha
        have FF : Hid (Fresh w1 wr p m V') := ff
        clear kk ff HK
        go_wp2_with fail
        refine ha.mono ?_
        rintro e w4 ⟨rfl, V4, k4, g4⟩
        have ht := tick_wh w4 p m V4 _ _ _ k4 (by omega) (by omega)
        rw [ord_due _ _ _ (by omega), ord_left _ _ _ (by omega)] at ht
        have F4 : Hid (Fresh w1 w4 p m V4) := FF.out.goes g4
        clear k4 g4 ha
        go_wp2_with fail
        refine ht.mono ?_
        rintro e w5 ⟨v, V5, rfl, hrow, k5, g5, _⟩
        obtain ⟨ao, cp, rfl, hcap, hmx⟩ := row_shape hrow
        have HE : Hid (Wh w5 p m V5 (now + (k + 1)) (k + 1) (ord (now + n) (k + 1)) ∧ Fresh w1 w5 p m V5) := ⟨k5, F4.out.goes g5⟩
        clear hrow k5 g5 ht
        simp only [List.length_nil] at hcap ⊢
        go_wp2_with fail
        go_roundw
        case rel => exact ⟨k + 1, V5, by omega, by go_num, HE.out.1, HE.out.2⟩
        case measure => simp [intOf]; omega

set_option maxRecDepth 100000 in
theorem lifted (os : Os) (started : os.Started) (H : Type) (enc : TypeId × Value → H) :
    ReturnsInHanded {} Try.checked os 7 .any (Rows.wheelOrderSpec.pre6 enc Try.prog Try.f7 Rows.wheelOrderRow.domain false) (Rows.wheelOrderSpec.post enc Try.prog Try.f7 false true false false) := by
  refine returnsInHanded_of_change (C := Try.checked) own started (by kernel_rfl) Try.func7
    (ChangeSpec.witness6 (enc := enc) (C := Try.checked) false ⟨#[], #[.int .u64 0, .slice none 0 0, .int .u8 0], []⟩ 7 (by kernel_rfl) (by kernel_rfl) (by kernel_rfl) (by kernel_rfl)) ?_
  intro W base args ds gs before hval0 hW hcnd _
  have hval : ∀ (j : Nat) t v, Try.f7.params[j]? = some t → args[j]? = some v → Value.okWide Try.prog W .any base t v := hval0
  have hW' := hW
  obtain ⟨p, q, hA0, hV, rfl, hfz, hnd⟩ := hW
  have hA : DataW.TrodAll enc Try.prog W 0 (fun _ => true) true Try.f7.params.toList args.toList ds p := hA0
  rw [Try.params7] at hA hval
  obtain ⟨v0, vs0, d0, ds0, p0, q0, hargs0, rfl, rfl, h0, r0⟩ := trodAll_cons hA
  obtain ⟨v1, vs1, d1, ds1, p1, q1, hargs1, rfl, rfl, h1, r1⟩ := trodAll_cons r0
  obtain ⟨v2, vs2, d2, ds2, p2, q2, hargs2, rfl, rfl, h2, r2⟩ := trodAll_cons r1
  obtain ⟨rfl, rfl, rfl⟩ := trodAll_nil r2
  obtain rfl : args = #[v0, v1, v2] := by cases args; simp_all
  obtain ⟨rfl, rfl⟩ := trodVars_none hV
  obtain ⟨a0, rfl, rfl, rfl, w0⟩ := open_int Try.underlying22 (hval 0 22 v0 rfl rfl) h0
  obtain ⟨a1, len1, cap1, rfl⟩ := okWide_slice Try.underlying54 (hval 1 54 v1 rfl rfl)
  have k1 := h1
  have lt1 : ∀ x ∈ p1, x.block < W.heap.size := by obtain ⟨m, hm⟩ := k1; exact DataW.trod_lt m _ _ _ hm
  obtain ⟨xs1, hx1⟩ := open_nums Try.underlying54 Try.underlying5 cells5 (fun _ h => u8_of_wf h) (by omega) h1
  obtain ⟨a2, rfl, rfl, rfl, w2⟩ := open_int Try.underlying5 (hval 2 5 v2 rfl rfl) h2
  clear hA0 hval0
  obtain ⟨n0, rfl, hn0⟩ := u64_of_wf w0
  obtain ⟨n2, rfl, hn2⟩ := u8_of_wf w2
  refine (walk W n0 hn0 a1 len1 cap1 xs1 hx1 n2 hn2).mono fun e W' ⟨he, bel⟩ => ?_
  subst he
  exact ⟨_, rfl, _, _, _, [], _, [], hW', trodAll_mk1 (shut_bool Try.underlying4 _), (trodAll_cons_mk (shut_int Try.underlying22 w0) (trodAll_cons_mk (Below.trod laidOut (by kernel_rfl) (of_decide_eq_true (by kernel_rfl)) k1 bel lt1) (trodAll_cons_mk (shut_int Try.underlying5 w2) trodAll_mk0))), rfl, bel.frame _, fun h => by cases h⟩

theorem over : Rows.wheelOrderRow.holds Try.pinned (OpenSpec.ofChange Rows.wheelOrderSpec) :=
  OpenClaim.holds_of_wide 7 Try.f7 rfl rfl rfl rfl rfl rfl rfl ⟨rfl, rfl, rfl, rfl, rfl⟩ rfl rfl rfl rfl rfl (by kernel_rfl) Try.func7 (by kernel_rfl)
    (of_decide_eq_true (by kernel_rfl)) (by unfold Func.isWrapper; first | (rw [if_pos (by decide +kernel)]; kernel_rfl) | (rw [if_neg (by decide +kernel)]; exact ⟨rfl, rfl⟩))
    (fun os started H enc _ => lifted os started H enc)

end Go.Proofs.Ytplcmaiphbjfcaa.wheelOrder
namespace Go.Proofs.Ytplcmaiphbjfcaa
theorem wheelOrder_holds : Rows.WheelOrderSaid := wheelOrder.over
#print axioms wheelOrder_holds
end Go.Proofs.Ytplcmaiphbjfcaa
