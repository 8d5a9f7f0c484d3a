/-
  Proved: for every number id and all bytes ins, WheelAgain(id, ins) returns true: a timer that is armed again and again is due when it was armed last for alone; the document's example holds. No condition.
-/
import Derived.Test.YtplcmaiphbjfcaaRows
import Derived.Test.YtplcmaiphbjfcaaWArgs
namespace Go.Proofs.Ytplcmaiphbjfcaa.wheelAgain
open Go.ChangeShapes Go.WideShapes Go.ChangeAt Go.RowKit
open Go.ChangeMaps (open_string shut_string)
set_option linter.unusedVariables false

theorem new_3 (w : World) : Calls Try.prog 11 #[.int .u64 3] w fun e w' => ∃ p m V, e = .returned (.tuple #[.pointer (some ⟨p, 0, none⟩), .int .i64 0]) ∧ Wh w' p m V 3 0 [] ∧ Fresh w w' p m V :=
  (new_any w 3 (by omega)).mono fun e w' ⟨p, m, V, he, h1, h2, h3⟩ => ⟨p, m, V, he, h1, h2, h3⟩

/-- What the wheel holds behind k arms, and the last time that was said. -/
def held (id : Int) (xs : List Nat) (k : Nat) : List (Int × Nat) := if k = 0 then [] else [(id, 3 + (1 + xs.getD (k - 1) 0))]
def last (xs : List Nat) (k : Nat) : Nat := if k = 0 then 0 else 1 + xs.getD (k - 1) 0
theorem held_next (id : Int) (xs : List Nat) (k : Nat) : (held id xs k).filter (fun x => decide (x.1 ≠ id)) ++ [(id, 3 + (1 + xs.getD k 0))] = held id xs (k + 1) := by
  unfold held
  rw [if_neg (by omega : ¬ k + 1 = 0), Nat.add_sub_cancel]
  by_cases h : k = 0
  · rw [if_pos h]; rfl
  · rw [if_neg h]; simp

set_option maxRecDepth 20000 in
set_option maxHeartbeats 1000000 in
theorem walk (w : World) (id : Int) (h0 : In id) (a : Option Addr) (len cap : Nat) (xs : List Nat) (hx : Nums w .u8 a len 256 xs) :
    Calls Try.prog 5 #[.int .i64 id, .slice a len cap] w fun e w' => e = .returned (.bool true) ∧ Below w.heap.size w w' := by
  have hmax := hx.max
  by_cases hbig : 100 < len
  · go_enter Try.func5, Try.ntmps5
    go_wp2_with fail
    refine (awake_any _).mono ?_
    rintro e w1 ⟨rfl, t1⟩
    go_wp2_with fail
    refine (awake_any _).mono ?_
    rintro e w2 ⟨rfl, t2⟩
    go_wp2_with fail
    go_ret
    exact ⟨rfl, (t1.trans t2 (fun i hi => .inl hi)).below (Nat.le_refl _) (fun i hi => hi.elim)⟩
  · have hnb : ¬ ((100 : Int) < len) := by omega
    go_enter Try.func5, Try.ntmps5
    go_wp2_with fail
    refine (awake_any _).mono ?_
    rintro e w1 ⟨rfl, t1⟩
    go_wp2_with fail
    refine (new_3 _).mono ?_
    rintro e w2 ⟨p, m, V2, rfl, k2, f2⟩
    have HK : Hid (Wh w2 p m V2 3 0 (held id xs 0) ∧ Fresh w1 w2 p m V2) := ⟨k2, f2⟩
    have HX : Hid (Nums w .u8 a len 256 xs) := hx
    clear k2 f2 hx
    go_wp2_with fail
    go_loopw [7, 8] (fun l i wr => ∃ k V', k ≤ len ∧ i = .int .i64 (k : Nat) ∧ l = .int .u64 (last xs k : Nat) ∧ Wh wr p m V' 3 k (held id xs k) ∧ Fresh w1 wr p m V') (fun _ i _ => len - (intOf i).toNat)
    case atStart => exact ⟨0, V2, by omega, rfl, rfl, HK.out.1, HK.out.2⟩
    case round =>
      obtain ⟨k, V', hk, rfl, rfl, kk, ff⟩ := hrel
      by_cases hend : k = len
      · subst hend
        have hd := due_any wr p m V' _ _ _ kk id h0
        have HB : Hid (∀ o : Obj, Below w.heap.size w (wr.alloc o)) := fun o => ((t1.trans ff.turned (fun i hi => .inl hi)).alloc o).below (Nat.le_refl _) (fun i hi => hi.elim)
        clear kk ff
        by_cases hk0 : k = 0
        · subst hk0
          rw [show held id xs 0 = [] from rfl] at hd
          simp only [List.lookup, errOf, Option.getD] at hd
          go_wp2_with fail
          refine hd.mono ?_
          rintro e w5 ⟨rfl, o, rfl⟩
          go_wp2_with fail
          go_ret
          exact ⟨rfl, HB.out _⟩
        · have e1 : held id xs k = [(id, 3 + last xs k)] := by unfold held last; rw [if_neg hk0, if_neg hk0]
          have hlt := HX.out.lt (k - 1)
          have hl : last xs k ≤ 256 := by unfold last; rw [if_neg hk0]; omega
          have hk0' : ¬ ((k : Int) = 0) := by omega
          rw [e1] at hd
          simp only [List.lookup, beq_self_eq_true, errOf, Option.getD] at hd
          generalize last xs k = l at *
          have e2 : ((3 + l : Nat) : Int) = 3 + (l : Int) := by omega
          rw [e2] at hd
          go_wp2_with fail
          refine hd.mono ?_
          rintro e w5 ⟨rfl, o, rfl⟩
          go_wp2_with fail
          go_ret
          exact ⟨by simp, HB.out _⟩
      · obtain ⟨ad, rfl, hb, hc⟩ := (HX.out.turned (t1.trans ff.turned (fun i hi => .inl hi))).cell (by omega)
        have hck := hc k (by omega)
        have hlt := HX.out.lt k
        have ha := arm_any wr p m V' 3 k (held id xs k) kk (by omega) id h0 (1 + xs.getD k 0) (by omega) (by omega)
        rw [held_next] at ha
        have hl : last xs (k + 1) = 1 + xs.getD k 0 := by unfold last; rw [if_neg (by omega), Nat.add_sub_cancel]
        have HLA : Hid (last xs (k + 1) = 1 + xs.getD k 0) := hl
        have FF : Hid (Fresh w1 wr p m V') := ff
        generalize xs.getD k 0 = x at *
        clear hc kk ff hl
        have e2 : ((1 + x : Nat) : Int) = 1 + (x : Int) := by omega
        rw [e2] at ha
        go_wp2_with fail
        refine ha.mono ?_
        rintro e w4 ⟨rfl, V4, k4, g4⟩
        have hln := len_any w4 p m V4 _ _ _ k4
        rw [show (held id xs (k + 1)).length = 1 by unfold held; rw [if_neg (by omega)]; rfl] at hln
        have HE : Hid (Wh w4 p m V4 3 (k + 1) (held id xs (k + 1)) ∧ Fresh w1 w4 p m V4) := ⟨k4, FF.out.goes g4⟩
        clear k4 g4 ha
        go_wp2_with fail
        refine hln.mono ?_
        rintro e w' ⟨rfl, rfl⟩
        go_wp2_with fail
        go_roundw
        case rel => exact ⟨k + 1, V4, by omega, by go_num, by rw [HLA.out, e2], HE.out.1, HE.out.2⟩
        case measure => simp [intOf]; omega

set_option maxRecDepth 100000 in
theorem lifted (os : Os) (started : os.Started) (H : Type) (enc : TypeId × Value → H) :
    ReturnsInHanded {} Try.checked os 5 .any (Rows.wheelAgainSpec.pre6 enc Try.prog Try.f5 Rows.wheelAgainRow.domain false) (Rows.wheelAgainSpec.post enc Try.prog Try.f5 false true false false) := by
  refine returnsInHanded_of_change (C := Try.checked) own started (by kernel_rfl) Try.func5
    (ChangeSpec.witness6 (enc := enc) (C := Try.checked) false ⟨#[], #[.int .i64 0, .slice none 0 0], []⟩ 5 (by kernel_rfl) (by kernel_rfl) (by kernel_rfl) (by kernel_rfl)) ?_
  intro W base args ds gs before hval0 hW hcnd _
  have hval : ∀ (j : Nat) t v, Try.f5.params[j]? = some t → args[j]? = some v → Value.okWide Try.prog W .any base t v := hval0
  have hW' := hW
  obtain ⟨p, q, hA0, hV, rfl, hfz, hnd⟩ := hW
  have hA : DataW.TrodAll enc Try.prog W 0 (fun _ => true) true Try.f5.params.toList args.toList ds p := hA0
  rw [Try.params5] at hA hval
  obtain ⟨v0, vs0, d0, ds0, p0, q0, hargs0, rfl, rfl, h0, r0⟩ := trodAll_cons hA
  obtain ⟨v1, vs1, d1, ds1, p1, q1, hargs1, rfl, rfl, h1, r1⟩ := trodAll_cons r0
  obtain ⟨rfl, rfl, rfl⟩ := trodAll_nil r1
  obtain rfl : args = #[v0, v1] := by cases args; simp_all
  obtain ⟨rfl, rfl⟩ := trodVars_none hV
  obtain ⟨a0, rfl, rfl, rfl, w0⟩ := open_int Try.underlying3 (hval 0 3 v0 rfl rfl) h0
  obtain ⟨a1, len1, cap1, rfl⟩ := okWide_slice Try.underlying54 (hval 1 54 v1 rfl rfl)
  have k1 := h1
  have lt1 : ∀ x ∈ p1, x.block < W.heap.size := by obtain ⟨m, hm⟩ := k1; exact DataW.trod_lt m _ _ _ hm
  obtain ⟨xs1, hx1⟩ := open_nums Try.underlying54 Try.underlying5 cells5 (fun _ h => u8_of_wf h) (by omega) h1
  clear hA0 hval0
  refine (walk W a0 (in_of_wf w0) a1 len1 cap1 xs1 hx1).mono fun e W' ⟨he, bel⟩ => ?_
  subst he
  exact ⟨_, rfl, _, _, _, [], _, [], hW', trodAll_mk1 (shut_bool Try.underlying4 _), (trodAll_cons_mk (shut_int Try.underlying3 w0) (trodAll_cons_mk (Below.trod laidOut (by kernel_rfl) (of_decide_eq_true (by kernel_rfl)) k1 bel lt1) trodAll_mk0)), rfl, bel.frame _, fun h => by cases h⟩

theorem over : Rows.wheelAgainRow.holds Try.pinned (OpenSpec.ofChange Rows.wheelAgainSpec) :=
  OpenClaim.holds_of_wide 5 Try.f5 rfl rfl rfl rfl rfl rfl rfl ⟨rfl, rfl, rfl, rfl, rfl⟩ rfl rfl rfl rfl rfl (by kernel_rfl) Try.func5 (by kernel_rfl)
    (of_decide_eq_true (by kernel_rfl)) (by unfold Func.isWrapper; first | (rw [if_pos (by decide +kernel)]; kernel_rfl) | (rw [if_neg (by decide +kernel)]; exact ⟨rfl, rfl⟩))
    (fun os started H enc _ => lifted os started H enc)

end Go.Proofs.Ytplcmaiphbjfcaa.wheelAgain
namespace Go.Proofs.Ytplcmaiphbjfcaa
theorem wheelAgain_holds : Rows.WheelAgainSaid := wheelAgain.over
#print axioms wheelAgain_holds
end Go.Proofs.Ytplcmaiphbjfcaa
