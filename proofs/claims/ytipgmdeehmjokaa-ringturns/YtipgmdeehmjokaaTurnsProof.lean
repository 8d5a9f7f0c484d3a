/-
  Proved: for all numbers most, step and n, RingTurns(most, step, n) returns true: a ring that is filled and emptied any number of times keeps the order; the document's example holds. No condition.
-/
import Derived.Test.YtipgmdeehmjokaaRows
import Derived.Test.YtipgmdeehmjokaaRArgs
import Derived.Test.YtipgmdeehmjokaaRTakeI
namespace Go.Proofs.Ytipgmdeehmjokaa.ringTurns
open Go.ChangeShapes Go.WideShapes Go.ChangeAt Go.RowKit
open Go.ChangeMaps (open_string shut_string)
set_option linter.unusedVariables false

/-- So many numbers from one on. -/
def nums (g n : Nat) : List Value := (List.range n).map (fun (i : Nat) => Value.int .i64 ((g : Int) + (i : Int)))
theorem nums_len (g n : Nat) : (nums g n).length = n := by simp [nums]
theorem nums_snoc (g n : Nat) : nums g (n + 1) = nums g n ++ [.int .i64 ((g : Int) + (n : Int))] := by simp [nums, List.range_succ]
theorem nums_cons (g n : Nat) : nums g (n + 1) = .int .i64 (g : Nat) :: nums (g + 1) n := by
  simp only [nums, List.range_succ_eq_map, List.map_cons, List.map_map]
  rw [show ((g : Int) + ((0 : Nat) : Int)) = g by omega]
  congr 1
  apply List.map_congr_left
  intro i _
  show Value.int .i64 ((g : Int) + ((i + 1 : Nat) : Int)) = Value.int .i64 (((g + 1 : Nat) : Int) + (i : Int))
  congr 1
  omega

theorem own_in {w0 w1 w2 : World} {p : Nat} {sv : Value} (t : Turned (fun _ => False) w0 w1) (h : Own w1 w2 p sv) : Own w0 w2 p sv :=
  ⟨t.trans h.turned (fun _ hf => hf.elim), fun b hb => Nat.le_trans t.size (h.foot b hb)⟩

set_option maxRecDepth 10000 in
set_option maxHeartbeats 2000000 in
theorem walk (w : World) (a0 : Nat) (h0 : a0 < 256) (a1 : Nat) (h1 : a1 < 256) (a2 : Nat) (h2 : a2 < 65536) :
    Calls Try.prog 4 #[.int .u8 (a0 : Nat), .int .u8 (a1 : Nat), .int .u16 (a2 : Nat)] w fun e w' => e = .returned (.bool true) ∧ Below w.heap.size w w' := by
  obtain ⟨m, HM⟩ : ∃ m : Nat, Hid (m = 1 + a0 % 20) := ⟨_, rfl⟩
  obtain ⟨k, HK⟩ : ∃ k : Nat, Hid (k = 1 + a1 % m) := ⟨_, rfl⟩
  obtain ⟨N, HN⟩ : ∃ N : Nat, Hid (N = a2 % 300) := ⟨_, rfl⟩
  have hm1 : 1 ≤ m := by have := HM.out; omega
  have hm2 : m ≤ 20 := by have := HM.out; omega
  have hk1 : 1 ≤ k := by have := HK.out; omega
  have hk2 : k ≤ m := by have := HK.out; have := Nat.mod_lt a1 (show 0 < m by omega); omega
  have hN : N < 300 := by have := HN.out; omega
  have em : (1 : Int) + (a0 : Int) % 20 = (m : Int) := by have := HM.out; omega
  have ek : (1 : Int) + (a1 : Int) % (m : Int) = (k : Int) := by have := HK.out; rw [this]; push_cast; rfl
  have en : (a2 : Int) % 300 = (N : Int) := by have := HN.out; omega
  go_enter Try.func4, Try.ntmps4
  go_wp2_with fail
  refine (awake_any _).mono ?_
  rintro e w1 ⟨rfl, t1⟩
  go_wp2_with fail
  refine (newI_any _ m hm1 (by omega)).mono ?_
  rintro e w2 ⟨rfl, r2, t2⟩
  have o2 := own_in t1 (Own.of_new t2)
  go_wp2_with fail
  obtain ⟨p, hp⟩ : ∃ p, w1.heap.size = p := ⟨_, rfl⟩
  rw [hp] at r2 o2
  simp only [hp]
  clear t1 t2 hp em ek h0 h1
  go_loopw [11, 12, 13] (fun pv gv iv wr => ∃ (i g n first : Nat) (sv : Value), i ≤ N ∧ g ≤ i ∧ n ≤ m ∧ iv = .int .i64 i ∧ gv = .int .i64 g ∧ pv = .int .i64 ((g : Int) + (n : Int)) ∧ Ring wr 3 p sv m first (nums g n) ∧ Own w wr p sv) (fun _ _ iv _ => N - (intOf iv).toNat)
  case atStart => exact ⟨0, 0, 0, 0, _, by omega, by omega, by omega, rfl, rfl, rfl, r2, o2⟩
  case round =>
    clear r2 o2
    obtain ⟨i, g, n, first, sv, hi, hgi, hnm, rfl, rfl, rfl, hr, ho⟩ := hrel
    by_cases hlt : i < N
    · have hltI : (i : Int) < N := by omega
      go_wp2_with fail
      simp only [en]
      clear en
      go_loopw [11, 14] (fun pv jv wx => ∃ (j n' first' : Nat) (sv' : Value), j ≤ k ∧ n' ≤ m ∧ (0 < j → 0 < n') ∧ jv = .int .i64 j ∧ pv = .int .i64 ((g : Int) + (n' : Int)) ∧ Ring wx 3 p sv' m first' (nums g n') ∧ Own w wx p sv') (fun _ jv _ => k - (intOf jv).toNat)
      case atStart => exact ⟨0, n, first, sv, by omega, by omega, by omega, rfl, rfl, hr, ho⟩
      case round =>
        clear hr ho
        obtain ⟨j, n', first', sv', hj, hn', hj0, rfl, rfl, hr, ho⟩ := hrel
        by_cases hjk : j < k
        · have hjkI : (j : Int) < k := by omega
          by_cases hroom : n' < m
          · go_wp2_with fail
            refine (putI_any hr (by rw [nums_len]; exact hroom) _ (one_int _ _)).mono ?_
            rintro e w3 ⟨rfl, sv3, f3, r3, g3⟩
            have o3 := ho.goes g3
            rw [← nums_snoc] at r3
            clear hr ho g3
            go_wp2
            go_roundw
            case rel => first | exact ⟨j + 1, n' + 1, f3, sv3, by omega, by omega, by omega, by go_num, by go_num, r3, o3⟩ | ((repeat apply Exists.intro); exact ⟨⟨j + 1, n' + 1, f3, sv3, by omega, by omega, by omega, by go_num, by go_num, r3, o3⟩, rfl⟩)
            case measure => simp [intOf]; omega
          · go_wp2_with fail
            refine (putI_busy hr (by rw [nums_len]; omega) _).mono ?_
            rintro e w3 ⟨rfl, q3, rfl⟩
            have r3 := hr.drewN q3
            have o3 := ho.drewN q3
            clear hr ho
            go_wp2
            go_roundw
            case rel => first | exact ⟨j + 1, n', first', sv', by omega, by omega, by omega, by go_num, rfl, r3, o3⟩ | ((repeat apply Exists.intro); exact ⟨⟨j + 1, n', first', sv', by omega, by omega, by omega, by go_num, rfl, r3, o3⟩, rfl⟩)
            case measure => simp [intOf]; omega
        · obtain ⟨n3, rfl⟩ : ∃ n3, n' = n3 + 1 := ⟨n' - 1, by omega⟩
          rw [nums_cons] at hr
          go_wp2_with fail
          refine (takeI_any hr).mono ?_
          rintro e w3 ⟨rfl, sv3, f3, r3, g3⟩
          have o3 := ho.goes g3
          clear hr ho g3
          go_wp2
          go_roundw
          case rel => first | exact ⟨i + 1, g + 1, n3, f3, sv3, by omega, by omega, by omega, by go_num, by go_num, by go_num, r3, o3⟩ | ((repeat apply Exists.intro); exact ⟨⟨i + 1, g + 1, n3, f3, sv3, by omega, by omega, by omega, by go_num, by go_num, by go_num, r3, o3⟩, rfl⟩)
          case measure => simp [intOf]; omega
    · have hend : ((n : Int) == (g : Int) + n - g) = true := by simp; omega
      go_wp2_with fail
      refine (lenI_any hr).mono ?_
      rintro e w3 ⟨rfl, rfl⟩
      have hb := ho.below
      rw [nums_len]
      clear hr ho
      go_wp2
      go_ret
      exact ⟨rfl, hb⟩

set_option maxRecDepth 100000 in
theorem lifted (os : Os) (started : os.Started) (H : Type) (enc : TypeId × Value → H) :
    ReturnsInHanded {} Try.checked os 4 .any (Rows.ringTurnsSpec.pre6 enc Try.prog Try.f4 Rows.ringTurnsRow.domain false) (Rows.ringTurnsSpec.post enc Try.prog Try.f4 false true false false) := by
  refine returnsInHanded_of_change (C := Try.checked) own started (by kernel_rfl) Try.func4
    (ChangeSpec.witness6 (enc := enc) (C := Try.checked) false ⟨#[], #[.int .u8 0, .int .u8 0, .int .u16 0], []⟩ 4 (by kernel_rfl) (by kernel_rfl) (by kernel_rfl) (by kernel_rfl)) ?_
  intro W base args ds gs before hval0 hW hcnd _
  have hval : ∀ (j : Nat) t v, Try.f4.params[j]? = some t → args[j]? = some v → Value.okWide Try.prog W .any base t v := hval0
  have hW' := hW
  obtain ⟨p, q, hA0, hV, rfl, hfz, hnd⟩ := hW
  have hA : DataW.TrodAll enc Try.prog W 0 (fun _ => true) true Try.f4.params.toList args.toList ds p := hA0
  rw [Try.params4] at hA hval
  obtain ⟨v0, vs0, d0, ds0, p0, q0, hargs0, rfl, rfl, h0, r0⟩ := trodAll_cons hA
  obtain ⟨v1, vs1, d1, ds1, p1, q1, hargs1, rfl, rfl, h1, r1⟩ := trodAll_cons r0
  obtain ⟨v2, vs2, d2, ds2, p2, q2, hargs2, rfl, rfl, h2, r2⟩ := trodAll_cons r1
  obtain ⟨rfl, rfl, rfl⟩ := trodAll_nil r2
  obtain rfl : args = #[v0, v1, v2] := by cases args; simp_all
  obtain ⟨rfl, rfl⟩ := trodVars_none hV
  obtain ⟨a0, rfl, rfl, rfl, w0⟩ := open_int Try.underlying5 (hval 0 5 v0 rfl rfl) h0
  obtain ⟨a1, rfl, rfl, rfl, w1⟩ := open_int Try.underlying5 (hval 1 5 v1 rfl rfl) h1
  obtain ⟨a2, rfl, rfl, rfl, w2⟩ := open_int Try.underlying39 (hval 2 39 v2 rfl rfl) h2
  clear hA0 hval0
  obtain ⟨n0, rfl, hn0⟩ := u8_of_wf w0
  obtain ⟨n1, rfl, hn1⟩ := u8_of_wf w1
  obtain ⟨n2, rfl, hn2⟩ := u16_of_wf w2
  refine (walk W n0 hn0 n1 hn1 n2 hn2).mono fun e W' ⟨he, bel⟩ => ?_
  subst he
  exact ⟨_, rfl, _, _, _, [], _, [], hW', trodAll_mk1 (shut_bool Try.underlying4 _), (trodAll_cons_mk (shut_int Try.underlying5 w0) (trodAll_cons_mk (shut_int Try.underlying5 w1) (trodAll_cons_mk (shut_int Try.underlying39 w2) trodAll_mk0))), rfl, bel.frame _, fun h => by cases h⟩

theorem over : Rows.ringTurnsRow.holds Try.pinned (OpenSpec.ofChange Rows.ringTurnsSpec) :=
  OpenClaim.holds_of_wide 4 Try.f4 rfl rfl rfl rfl rfl rfl rfl ⟨rfl, rfl, rfl, rfl, rfl⟩ rfl rfl rfl rfl rfl (by kernel_rfl) Try.func4 (by kernel_rfl)
    (of_decide_eq_true (by kernel_rfl)) (by unfold Func.isWrapper; first | (rw [if_pos (by decide +kernel)]; kernel_rfl) | (rw [if_neg (by decide +kernel)]; exact ⟨rfl, rfl⟩))
    (fun os started H enc _ => lifted os started H enc)

end Go.Proofs.Ytipgmdeehmjokaa.ringTurns
namespace Go.Proofs.Ytipgmdeehmjokaa
theorem ringTurns_holds : Rows.RingTurnsSaid := ringTurns.over
#print axioms ringTurns_holds
end Go.Proofs.Ytipgmdeehmjokaa
