/-
  Proved: for all numbers most and window and every list of calls, LinkPlays(most, window, script) returns true: whatever is put at two ends, whatever packets are sent, come, come again or are lost, and whatever is taken, what is taken there is a beginning of what was put here; the document's example holds. No condition.
-/
import Derived.Test.YthobbnmdpkginaaRows
import Derived.Test.YthobbnmdpkginaaLArgs
namespace Go.Proofs.Ythobbnmdpkginaa.linkPlays
open Go.ChangeShapes Go.WideShapes Go.ChangeAt Go.RowKit
open Go.ChangeMaps (open_string shut_string)
set_option linter.unusedVariables false
set_option linter.unusedSimpArgs false

set_option maxRecDepth 20000 in
set_option maxHeartbeats 1500000 in
theorem walk (w : World) (most : Nat) (h0 : most < 256) (win : Nat) (h1 : win < 256) (a2 : Option Addr) (len cap : Nat) (xs : Nat → Ac) (hx : Acts w a2 len xs) :
    Calls Try.prog 3 #[.int .u8 (most : Nat), .int .u8 (win : Nat), .slice a2 len cap] w fun e w' => e = .returned (.bool true) ∧ Below w.heap.size w w' := by
  have hmax := hx.max
  have HX : Hid (Acts w a2 len xs) := hx
  obtain ⟨M, hM⟩ : ∃ M, M = 1 + most % 12 := ⟨_, rfl⟩
  obtain ⟨N, hN⟩ : ∃ N, N = 1 + win % 8 := ⟨_, rfl⟩
  have hI0 : Hid (Inv M N .zero) := inv_zero (by omega) (by omega) (by omega) (by omega)
  have HB := fun wx => ws_begin wx most win h0 h1 M N hM hN
  clear hx h0 h1 hM hN
  go_enter Try.func3, Try.ntmps3
  go_wp2_with fail
  refine (awake_any _).mono ?_
  rintro e w1 ⟨rfl, t1⟩
  go_wp2_with fail
  refine (HB _).mono ?_
  rintro e w2 ⟨q, ka, kb, rfl, h2⟩
  have h3 := h2.behind t1
  clear h2 t1 HB
  go_wp2
  go_loopw [8] (fun iv wr => ∃ (i ka kb : Nat) (p : Pl), i ≤ len ∧ i ≤ 200 ∧ iv = .int .i64 i ∧ Ws w wr (fun _ => False) q ka kb M N p ∧ Inv M N p ∧ Sz i p) (fun iv _ => 200 - (intOf iv).toNat)
  case atStart => exact ⟨0, ka, kb, .zero, by omega, by omega, rfl, h3, hI0.out, ⟨by simp [Pl.zero], by simp [Pl.zero], by simp [Pl.zero], by simp [Pl.zero]⟩⟩
  case round =>
    clear h3 hI0 ka kb
    obtain ⟨i, ka, kb, p, hi, hi2, rfl, h3, inv, sz⟩ := hrel
    by_cases hlt : i < len ∧ i < 200
    · obtain ⟨hlt1, hlt2⟩ := hlt
      have hltI : (i : Int) < len := by omega
      have hltI2 : (i : Int) < 200 := by omega
      obtain ⟨ad, rfl, _, hc⟩ := (HX.out.turned h3.turned).cell (by omega)
      obtain ⟨c0, c1, c2⟩ := hc i hlt1
      obtain ⟨hk256, hnin⟩ := HX.out.lt i hlt1
      clear hc
      generalize xs i = ac at c0 c1 c2 hk256 hnin
      obtain ⟨kd, s, n⟩ := ac
      simp only at c0 c1 c2 hk256 hnin
      have hact := ws_act h3 inv sz (by omega) kd s n hk256
      clear h3 inv sz hnin
      go_wp2_with fail
      refine hact.mono ?_
      rintro e w4 ⟨rfl, ka4, kb4, p4, h4, -, i4, s4⟩
      have hrt := ws_right h4 i4 ⟨by have := s4.pA; omega, by have := s4.pB; omega⟩
      clear hact c0 c1 c2
      go_wp2_with fail
      refine hrt.mono ?_
      rintro e w5 ⟨rfl, m5, rfl⟩
      have h5 := h4.still ((Turned.refl _ w4).drewN m5)
      clear h4 hrt
      go_wp2
      go_roundw
      case rel => first | exact ⟨i + 1, ka4, kb4, p4, by omega, by omega, by go_num, h5, i4, s4⟩ | ((repeat apply Exists.intro); exact ⟨⟨i + 1, ka4, kb4, p4, by omega, by omega, by go_num, h5, i4, s4⟩, rfl⟩)
      case measure => simp [intOf]; omega
    · have hb := h3.below
      clear h3 inv sz
      by_cases hl1 : (i : Int) < len
      · have hl2 : ¬ (i : Int) < 200 := by omega
        go_wp2
        go_ret
        exact ⟨rfl, hb⟩
      · go_wp2
        go_ret
        exact ⟨rfl, hb⟩

set_option maxRecDepth 100000 in
theorem lifted (os : Os) (started : os.Started) (H : Type) (enc : TypeId × Value → H) :
    ReturnsInHanded {} Try.checked os 3 .any (Rows.linkPlaysSpec.pre6 enc Try.prog Try.f3 Rows.linkPlaysRow.domain false) (Rows.linkPlaysSpec.post enc Try.prog Try.f3 false true false false) := by
  refine returnsInHanded_of_change (C := Try.checked) own started (by kernel_rfl) Try.func3
    (ChangeSpec.witness6 (enc := enc) (C := Try.checked) false ⟨#[], #[.int .u8 0, .int .u8 0, .slice none 0 0], []⟩ 3 (by kernel_rfl) (by kernel_rfl) (by kernel_rfl) (by kernel_rfl)) ?_
  intro W base args ds gs before hval0 hW hcnd _
  have hval : ∀ (j : Nat) t v, Try.f3.params[j]? = some t → args[j]? = some v → Value.okWide Try.prog W .any base t v := hval0
  have hW' := hW
  obtain ⟨p, q, hA0, hV, rfl, hfz, hnd⟩ := hW
  have hA : DataW.TrodAll enc Try.prog W 0 (fun _ => true) true Try.f3.params.toList args.toList ds p := hA0
  rw [Try.params3] at hA hval
  obtain ⟨v0, vs0, d0, ds0, p0, q0, hargs0, rfl, rfl, h0, r0⟩ := trodAll_cons hA
  obtain ⟨v1, vs1, d1, ds1, p1, q1, hargs1, rfl, rfl, h1, r1⟩ := trodAll_cons r0
  obtain ⟨v2, vs2, d2, ds2, p2, q2, hargs2, rfl, rfl, h2, r2⟩ := trodAll_cons r1
  obtain ⟨rfl, rfl, rfl⟩ := trodAll_nil r2
  obtain rfl : args = #[v0, v1, v2] := by cases args; simp_all
  obtain ⟨rfl, rfl⟩ := trodVars_none hV
  obtain ⟨a0, rfl, rfl, rfl, w0⟩ := open_int Try.underlying5 (hval 0 5 v0 rfl rfl) h0
  obtain ⟨a1, rfl, rfl, rfl, w1⟩ := open_int Try.underlying5 (hval 1 5 v1 rfl rfl) h1
  obtain ⟨a2, len2, cap2, rfl⟩ := okWide_slice Try.underlying22 (hval 2 22 v2 rfl rfl)
  have k2 := h2
  have lt2 : ∀ x ∈ p2, x.block < W.heap.size := by obtain ⟨m, hm⟩ := k2; exact DataW.trod_lt m _ _ _ hm
  obtain ⟨xs2, hx2⟩ := open_acts h2
  clear hA0 hval0
  obtain ⟨n0, rfl, hn0⟩ := u8_of_wf w0
  obtain ⟨n1, rfl, hn1⟩ := u8_of_wf w1
  refine (walk W n0 hn0 n1 hn1 a2 len2 cap2 xs2 hx2).mono fun e W' ⟨he, bel⟩ => ?_
  subst he
  exact ⟨_, rfl, _, _, _, [], _, [], hW', trodAll_mk1 (shut_bool Try.underlying4 _), (trodAll_cons_mk (shut_int Try.underlying5 w0) (trodAll_cons_mk (shut_int Try.underlying5 w1) (trodAll_cons_mk (Below.trod laidOut (by kernel_rfl) (of_decide_eq_true (by kernel_rfl)) k2 bel lt2) trodAll_mk0))), rfl, bel.frame _, fun h => by cases h⟩

theorem over : Rows.linkPlaysRow.holds Try.pinned (OpenSpec.ofChange Rows.linkPlaysSpec) :=
  OpenClaim.holds_of_wide 3 Try.f3 rfl rfl rfl rfl rfl rfl rfl ⟨rfl, rfl, rfl, rfl, rfl⟩ rfl rfl rfl rfl rfl (by kernel_rfl) Try.func3 (by kernel_rfl)
    (of_decide_eq_true (by kernel_rfl)) (by unfold Func.isWrapper; first | (rw [if_pos (by decide +kernel)]; kernel_rfl) | (rw [if_neg (by decide +kernel)]; exact ⟨rfl, rfl⟩))
    (fun os started H enc _ => lifted os started H enc)

end Go.Proofs.Ythobbnmdpkginaa.linkPlays
namespace Go.Proofs.Ythobbnmdpkginaa
theorem linkPlays_holds : Rows.LinkPlaysSaid := linkPlays.over
#print axioms linkPlays_holds
end Go.Proofs.Ythobbnmdpkginaa
