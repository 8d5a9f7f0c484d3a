/-
  Proved: for every list of numbers acks and every number window, SendAcks(acks, window) returns true: acks that come in any order leave what the greatest one that may be leaves; the document's example holds. No condition.
-/
import Derived.Test.YtlifoojojclllaaRows
import Derived.Test.YtlifoojojclllaaSPut
import Derived.Test.YtlifoojojclllaaSAckI
namespace Go.Proofs.Ytlifoojojclllaa.sendAcks
open Go.ChangeShapes Go.WideShapes Go.ChangeAt Go.RowKit
open Go.ChangeMaps (open_string shut_string)
set_option linter.unusedVariables false

theorem snew40 (w : World) (win : Nat) (h3 : 1 ≤ win) (h4 : win ≤ 32) : Calls Try.prog 22 #[.int .i64 40, .int .i64 (win : Nat)] w fun e w' => ∃ q F, e = .returned (.tuple #[.pointer (some ⟨q, 0, none⟩), .int .i64 0]) ∧ Snd w' 3 F q 40 win 0 [] ∧ Turned (fun _ => False) w w' ∧ ∀ b, F b → w.heap.size ≤ b := snewI_any w 40 (by omega) (by omega) win h3 h4

/-- An ack, whatever it is. -/
theorem ack_one {w0 w : World} {F : Nat → Prop} {q W B N : Nat} {zs : List Value} (h : Snd w 3 F q 40 W B zs) (hz : zs.length + B = 40) (ho : Own w0 w F) (hN : N < 45) :
    ∃ ev B' : Nat, (N < B → ev = 9 ∧ B' = B) ∧ (¬ N < B → (N > min (B + W) 40 → ev = 1 ∧ B' = B) ∧ (¬ N > min (B + W) 40 → ev = 0 ∧ B' = N)) ∧ B' ≤ 40 ∧
    Calls Try.prog 24 #[.pointer (some ⟨q, 0, none⟩), .int .u64 (N : Nat)] w fun e w' => e = .returned (.int .i64 (ev : Nat)) ∧ ∃ F' zs', Snd w' 3 F' q 40 W B' zs' ∧ zs'.length + B' = 40 ∧ Own w0 w' F' := by
  have hl := h.le
  by_cases h1 : N < B
  · refine ⟨9, B, fun _ => ⟨rfl, rfl⟩, fun hn => absurd h1 hn, by omega, ?_⟩
    refine (sackI_stale h N h1).mono ?_
    rintro e w' ⟨rfl, rfl⟩
    exact ⟨rfl, F, zs, h, hz, ho⟩
  · by_cases h2 : N > min (B + W) 40
    · refine ⟨1, B, fun hn => absurd hn h1, fun _ => ⟨fun _ => ⟨rfl, rfl⟩, fun hn => absurd h2 hn⟩, by omega, ?_⟩
      refine (sackI_arg h N (by omega) (by omega)).mono ?_
      rintro e w' ⟨rfl, k, rfl⟩
      exact ⟨rfl, F, zs, h.drewN k, hz, ho.drewN k⟩
    · refine ⟨0, N, fun hn => absurd hn h1, fun _ => ⟨fun hn => absurd hn h2, fun _ => ⟨rfl, rfl⟩⟩, by omega, ?_⟩
      refine (sackI_any h N (N - B) (by omega) (by omega) (by omega)).mono ?_
      rintro e w' ⟨rfl, F', s', g'⟩
      exact ⟨rfl, F', _, s', by rw [List.length_drop]; omega, ho.goes g'⟩

set_option maxRecDepth 10000 in
set_option maxHeartbeats 4000000 in
theorem walk (w : World) (a0 : Option Addr) (len cap : Nat) (xs : List Nat) (hx : Nums w .u8 a0 len 256 xs) (a1 : Nat) (h1 : a1 < 256) :
    Calls Try.prog 7 #[.slice a0 len cap, .int .u8 (a1 : Nat)] w fun e w' => e = .returned (.bool true) ∧ Below w.heap.size w w' := by
  have hmax := hx.max
  have HX : Hid (Nums w .u8 a0 len 256 xs) := hx
  clear hx
  by_cases hlen : 60 < len
  · go_enter Try.func7, Try.ntmps7
    go_wp2_with fail
    refine (awake9_any _).mono ?_
    rintro e w1 ⟨rfl, t1⟩
    go_wp2_with fail
    refine (awake9_any _).mono ?_
    rintro e w2 ⟨rfl, t2⟩
    go_wp2
    go_ret
    exact ⟨rfl, (t1.trans t2 (fun _ hf => hf.elim)).below (Nat.le_refl _) (fun _ hf => hf.elim)⟩
  · obtain ⟨W, HW⟩ : ∃ W : Nat, Hid (W = 1 + a1 % 32) := ⟨_, rfl⟩
    have hW1 : 1 ≤ W := by have := HW.out; omega
    have hW2 : W ≤ 32 := by have := HW.out; omega
    have eW : (1 : Int) + (a1 : Int) % 32 = (W : Int) := by have := HW.out; omega
    have hlenI : ¬ (60 : Int) < (len : Int) := by omega
    have hld : decide ((60 : Int) < (len : Int)) = false := by simp; omega
    go_enter Try.func7, Try.ntmps7
    go_wp2_with fail
    refine (awake9_any _).mono ?_
    rintro e w1 ⟨rfl, t1⟩
    go_wp2_with fail
    refine (snew40 _ W hW1 hW2).mono ?_
    rintro e w2 ⟨q, F2, rfl, s2, t2, b2⟩
    have o2 : Own w w2 F2 := Own.behind t1 ⟨t2, b2⟩
    clear t1 t2 b2
    go_wp2_with fail
    try simp only [eW, hld]
    clear eW hlenI hld
    go_loopw [8] (fun iv wr => ∃ (i : Nat) (F : Nat → Prop) (zs : List Value), i ≤ 40 ∧ zs.length = i ∧ iv = .int .i64 i ∧ Snd wr 3 F q 40 W 0 zs ∧ Own w wr F) (fun iv _ => 40 - (intOf iv).toNat)
    case atStart => exact ⟨0, F2, [], by omega, rfl, rfl, s2, o2⟩
    case round =>
      clear s2 o2
      obtain ⟨i, F, zs, hi, hz, rfl, hr, ho⟩ := hrel
      have HZ : Hid (zs.length = i) := hz
      clear hz
      by_cases hlt : i < 40
      · have hltI : (i : Int) < 40 := by omega
        go_wp2_with fail
        refine (sputI_any hr (by rw [HZ.out]; omega) _ (one_int _ _)).mono ?_
        rintro e w3 ⟨rfl, F3, r3, g3⟩
        have o3 := ho.goes g3
        have hz3 : (zs ++ [Value.int .i64 (i : Nat)]).length = i + 1 := by rw [List.length_append, HZ.out]; rfl
        clear hr ho g3
        go_wp2
        go_roundw
        case rel => first | exact ⟨i + 1, F3, _, by omega, hz3, by go_num, r3, o3⟩ | ((repeat apply Exists.intro); exact ⟨⟨i + 1, F3, _, by omega, hz3, by go_num, r3, o3⟩, rfl⟩)
        case measure => simp [intOf]; omega
      · obtain rfl : 40 = i := by omega
        have hz40 : zs.length + 0 = 40 := HZ.out
        go_wp2_with fail
        go_loopw [9, 10] (fun bv iv wr => ∃ (i B : Nat) (F : Nat → Prop) (zs : List Value), i ≤ len ∧ B ≤ 40 ∧ zs.length + B = 40 ∧ bv = .int .i64 B ∧ iv = .int .i64 i ∧ Snd wr 3 F q 40 W B zs ∧ Own w wr F) (fun _ iv _ => len - (intOf iv).toNat)
        case atStart => exact ⟨0, 0, F, zs, by omega, by omega, hz40, rfl, rfl, hr, ho⟩
        case round =>
          clear hr ho hz40 HZ
          obtain ⟨i, B, F, zs, hi, hB, hz, rfl, rfl, hr, ho⟩ := hrel
          by_cases hlt : i < len
          · have hltI : (i : Int) < len := by omega
            obtain ⟨ad, rfl, _, hc⟩ := (HX.out.turned ho.turned).cell (by omega)
            have hci := hc i hlt
            obtain ⟨A, HA⟩ : ∃ A, Hid (xs.getD i 0 = A) := ⟨_, rfl⟩
            have hA := HX.out.lt i
            rw [HA.out] at hci hA
            obtain ⟨N, HN⟩ : ∃ N : Nat, Hid (N = A % 45) := ⟨_, rfl⟩
            have eN : (A : Int) % 45 = (N : Int) := by have := HN.out; omega
            have hN : N < 45 := by have := HN.out; omega
            obtain ⟨ev, B', k1, k2, hB', hcall⟩ := ack_one hr hz ho hN
            clear hr ho hz hc
            go_wp2_with fail
            refine hcall.mono ?_
            rintro e w5 ⟨rfl, F5, zs5, s5, hz5, o5⟩
            have hacked := sackedI_any s5
            have hlen5 := slenI_any s5
            have e5 : (zs5.length : Int) = 40 - (B' : Int) := by omega
            rw [e5] at hlen5
            have HZ5 : Hid (zs5.length + B' = 40) := hz5
            try simp only [eN]
            clear hcall hci eN e5 hz5
            by_cases hE : 40 < B + W
            · as_aux_lemma =>
              have hEI : (40 : Int) < (B : Int) + W := by omega
              by_cases c1 : N < B
              · have c1I : (N : Int) < B := by omega
                obtain ⟨rfl, rfl⟩ := k1 c1
                clear k1 k2
                go_wp2_with fail
                refine hacked.mono ?_
                rintro e w6 ⟨rfl, rfl⟩
                go_wp2_with fail
                refine hlen5.mono ?_
                rintro e w6 ⟨rfl, rfl⟩
                clear hacked hlen5
                go_wp2
                go_roundw
                case rel => first | exact ⟨i + 1, _, F5, zs5, by omega, hB', HZ5.out, rfl, by go_num, s5, o5⟩ | ((repeat apply Exists.intro); exact ⟨⟨i + 1, _, F5, zs5, by omega, hB', HZ5.out, rfl, by go_num, s5, o5⟩, rfl⟩)
                case measure => simp [intOf]; omega
              · have c1I : ¬ (N : Int) < B := by omega
                by_cases c2 : 40 < N
                · have c2I : (40 : Int) < N := by omega
                  obtain ⟨rfl, rfl⟩ := (k2 c1).1 (by omega)
                  clear k1 k2
                  go_wp2_with fail
                  refine hacked.mono ?_
                  rintro e w6 ⟨rfl, rfl⟩
                  go_wp2_with fail
                  refine hlen5.mono ?_
                  rintro e w6 ⟨rfl, rfl⟩
                  clear hacked hlen5
                  go_wp2
                  go_roundw
                  case rel => first | exact ⟨i + 1, _, F5, zs5, by omega, hB', HZ5.out, rfl, by go_num, s5, o5⟩ | ((repeat apply Exists.intro); exact ⟨⟨i + 1, _, F5, zs5, by omega, hB', HZ5.out, rfl, by go_num, s5, o5⟩, rfl⟩)
                  case measure => simp [intOf]; omega
                · have c2I : ¬ (40 : Int) < N := by omega
                  obtain ⟨rfl, rfl⟩ := (k2 c1).2 (by omega)
                  clear k1 k2
                  go_wp2_with fail
                  refine hacked.mono ?_
                  rintro e w6 ⟨rfl, rfl⟩
                  go_wp2_with fail
                  refine hlen5.mono ?_
                  rintro e w6 ⟨rfl, rfl⟩
                  clear hacked hlen5
                  go_wp2
                  go_roundw
                  case rel => first | exact ⟨i + 1, _, F5, zs5, by omega, hB', HZ5.out, rfl, by go_num, s5, o5⟩ | ((repeat apply Exists.intro); exact ⟨⟨i + 1, _, F5, zs5, by omega, hB', HZ5.out, rfl, by go_num, s5, o5⟩, rfl⟩)
                  case measure => simp [intOf]; omega
            · as_aux_lemma =>
              have hEI : ¬ (40 : Int) < (B : Int) + W := by omega
              by_cases c1 : N < B
              · have c1I : (N : Int) < B := by omega
                obtain ⟨rfl, rfl⟩ := k1 c1
                clear k1 k2
                go_wp2_with fail
                refine hacked.mono ?_
                rintro e w6 ⟨rfl, rfl⟩
                go_wp2_with fail
                refine hlen5.mono ?_
                rintro e w6 ⟨rfl, rfl⟩
                clear hacked hlen5
                go_wp2
                go_roundw
                case rel => first | exact ⟨i + 1, _, F5, zs5, by omega, hB', HZ5.out, rfl, by go_num, s5, o5⟩ | ((repeat apply Exists.intro); exact ⟨⟨i + 1, _, F5, zs5, by omega, hB', HZ5.out, rfl, by go_num, s5, o5⟩, rfl⟩)
                case measure => simp [intOf]; omega
              · have c1I : ¬ (N : Int) < B := by omega
                by_cases c2 : B + W < N
                · have c2I : (B : Int) + W < N := by omega
                  obtain ⟨rfl, rfl⟩ := (k2 c1).1 (by omega)
                  clear k1 k2
                  go_wp2_with fail
                  refine hacked.mono ?_
                  rintro e w6 ⟨rfl, rfl⟩
                  go_wp2_with fail
                  refine hlen5.mono ?_
                  rintro e w6 ⟨rfl, rfl⟩
                  clear hacked hlen5
                  go_wp2
                  go_roundw
                  case rel => first | exact ⟨i + 1, _, F5, zs5, by omega, hB', HZ5.out, rfl, by go_num, s5, o5⟩ | ((repeat apply Exists.intro); exact ⟨⟨i + 1, _, F5, zs5, by omega, hB', HZ5.out, rfl, by go_num, s5, o5⟩, rfl⟩)
                  case measure => simp [intOf]; omega
                · have c2I : ¬ (B : Int) + W < N := by omega
                  obtain ⟨rfl, rfl⟩ := (k2 c1).2 (by omega)
                  clear k1 k2
                  go_wp2_with fail
                  refine hacked.mono ?_
                  rintro e w6 ⟨rfl, rfl⟩
                  go_wp2_with fail
                  refine hlen5.mono ?_
                  rintro e w6 ⟨rfl, rfl⟩
                  clear hacked hlen5
                  go_wp2
                  go_roundw
                  case rel => first | exact ⟨i + 1, _, F5, zs5, by omega, hB', HZ5.out, rfl, by go_num, s5, o5⟩ | ((repeat apply Exists.intro); exact ⟨⟨i + 1, _, F5, zs5, by omega, hB', HZ5.out, rfl, by go_num, s5, o5⟩, rfl⟩)
                  case measure => simp [intOf]; omega
          · have hb := ho.below
            clear hr ho hz
            go_wp2
            go_ret
            exact ⟨rfl, hb⟩

set_option maxRecDepth 100000 in
theorem lifted (os : Os) (started : os.Started) (H : Type) (enc : TypeId × Value → H) :
    ReturnsInHanded {} Try.checked os 7 .any (Rows.sendAcksSpec.pre6 enc Try.prog Try.f7 Rows.sendAcksRow.domain false) (Rows.sendAcksSpec.post enc Try.prog Try.f7 false true false false) := by
  refine returnsInHanded_of_change (C := Try.checked) own started (by kernel_rfl) Try.func7
    (ChangeSpec.witness6 (enc := enc) (C := Try.checked) false ⟨#[], #[.slice none 0 0, .int .u8 0], []⟩ 7 (by kernel_rfl) (by kernel_rfl) (by kernel_rfl) (by kernel_rfl)) ?_
  intro W base args ds gs before hval0 hW hcnd _
  have hval : ∀ (j : Nat) t v, Try.f7.params[j]? = some t → args[j]? = some v → Value.okWide Try.prog W .any base t v := hval0
  have hW' := hW
  obtain ⟨p, q, hA0, hV, rfl, hfz, hnd⟩ := hW
  have hA : DataW.TrodAll enc Try.prog W 0 (fun _ => true) true Try.f7.params.toList args.toList ds p := hA0
  rw [Try.params7] at hA hval
  obtain ⟨v0, vs0, d0, ds0, p0, q0, hargs0, rfl, rfl, h0, r0⟩ := trodAll_cons hA
  obtain ⟨v1, vs1, d1, ds1, p1, q1, hargs1, rfl, rfl, h1, r1⟩ := trodAll_cons r0
  obtain ⟨rfl, rfl, rfl⟩ := trodAll_nil r1
  obtain rfl : args = #[v0, v1] := by cases args; simp_all
  obtain ⟨rfl, rfl⟩ := trodVars_none hV
  obtain ⟨a0, len0, cap0, rfl⟩ := okWide_slice Try.underlying43 (hval 0 43 v0 rfl rfl)
  have k0 := h0
  have lt0 : ∀ x ∈ p0, x.block < W.heap.size := by obtain ⟨m, hm⟩ := k0; exact DataW.trod_lt m _ _ _ hm
  obtain ⟨xs0, hx0⟩ := open_nums Try.underlying43 Try.underlying5 cells5 (fun _ h => u8_of_wf h) (by omega) h0
  obtain ⟨a1, rfl, rfl, rfl, w1⟩ := open_int Try.underlying5 (hval 1 5 v1 rfl rfl) h1
  clear hA0 hval0
  obtain ⟨n1, rfl, hn1⟩ := u8_of_wf w1
  refine (walk W a0 len0 cap0 xs0 hx0 n1 hn1).mono fun e W' ⟨he, bel⟩ => ?_
  subst he
  exact ⟨_, rfl, _, _, _, [], _, [], hW', trodAll_mk1 (shut_bool Try.underlying4 _), (trodAll_cons_mk (Below.trod laidOut (by kernel_rfl) (of_decide_eq_true (by kernel_rfl)) k0 bel lt0) (trodAll_cons_mk (shut_int Try.underlying5 w1) trodAll_mk0)), rfl, bel.frame _, fun h => by cases h⟩

theorem over : Rows.sendAcksRow.holds Try.pinned (OpenSpec.ofChange Rows.sendAcksSpec) :=
  OpenClaim.holds_of_wide 7 Try.f7 rfl rfl rfl rfl rfl rfl rfl ⟨rfl, rfl, rfl, rfl, rfl⟩ rfl rfl rfl rfl rfl (by kernel_rfl) Try.func7 (by kernel_rfl)
    (of_decide_eq_true (by kernel_rfl)) (by unfold Func.isWrapper; first | (rw [if_pos (by decide +kernel)]; kernel_rfl) | (rw [if_neg (by decide +kernel)]; exact ⟨rfl, rfl⟩))
    (fun os started H enc _ => lifted os started H enc)

end Go.Proofs.Ytlifoojojclllaa.sendAcks
namespace Go.Proofs.Ytlifoojojclllaa
theorem sendAcks_holds : Rows.SendAcksSaid := sendAcks.over
#print axioms sendAcks_holds
end Go.Proofs.Ytlifoojojclllaa
