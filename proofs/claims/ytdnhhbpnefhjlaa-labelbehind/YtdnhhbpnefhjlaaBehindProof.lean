/-
  Proved: for all lists of labels order and more, LabelBehind(order, more) returns true: behind an order stand those of the others that are not in it, rising, each once; what was ahead stays ahead, and none comes twice that was not there twice; the document's example holds. No condition.
-/
import Derived.Test.YtdnhhbpnefhjlaaLSized
namespace Go.Proofs.Ytdnhhbpnefhjlaa.labelBehind
open Go.ChangeShapes Go.WideShapes Go.ChangeAt Go.RowKit Go.Sort
open Go.ChangeMaps (open_string shut_string)
set_option linter.unusedVariables false

theorem own_cap {w : World} {B n cap : Nat} {ao : Option Addr} {xs : List Value} (h : w.ownsRow B 26 4 (.slice ao n cap) n xs) : n ≤ cap ∧ (ao = none → n = 0 ∧ cap = 0) := by
  rcases h.2 with ⟨h0, h1⟩ | ⟨g, cap', cur, h0, _, _, h3, _⟩
  · simp only [Value.slice.injEq] at h0; exact ⟨by omega, fun _ => ⟨h1, h0.2.2⟩⟩
  · simp only [Value.slice.injEq] at h0
    obtain ⟨rfl, _, rfl⟩ := h0
    exact ⟨h3, fun e => by cases e⟩
theorem behind_nodup {ls rs : List Lb} (hl : ls.Nodup) (hr : rs.Pairwise ltL) : (ls ++ out ls rs).Nodup := by
  rw [List.nodup_append]
  refine ⟨hl, (asc_nodup hr).filter _, fun x hx y hy => ?_⟩
  unfold out at hy
  rw [List.mem_filter] at hy
  intro e
  subst e
  simp [hx] at hy
theorem behind_again {ls rs : List Lb} : out (ls ++ out ls rs) rs = [] := by
  unfold out
  rw [List.filter_eq_nil_iff]
  intro x hx
  by_cases h : x ∈ ls
  · simp [h]
  · simp [h, hx]
theorem LR.prefix {w : World} {a : Option Addr} {n N : Nat} {ls zs : List Lb} (h : LR w a N (ls ++ zs)) (hl : ls.length = n) : LR w a n ls := by
  have := h.take (i := n) (by have := h.1; rw [List.length_append] at this; omega)
  rwa [List.take_append_of_le_length (by omega), List.take_of_length_le (by omega)] at this

set_option maxRecDepth 10000 in
set_option maxHeartbeats 2000000 in
theorem walk (w : World) (a : Option Addr) (n cap : Nat) (ls : List Lb) (h : LR w a n ls) (hok : ∀ x ∈ ls, OkL x) (hz : a = none → n = 0 ∧ cap = 0) (hnc : n ≤ cap) (hcm : cap ≤ 9223372036854775807) (hs : n ≤ 140737488355328)
    (b : Option Addr) (m cbp : Nat) (ms : List Lb) (h' : LR w b m ms) (hok' : ∀ x ∈ ms, OkL x) (hz' : b = none → m = 0 ∧ cbp = 0) (hnc' : m ≤ cbp) (hcm' : cbp ≤ 9223372036854775807) (hs' : m ≤ 140737488355328) :
    Calls Try.prog 5 #[.slice a n cap, .slice b m cbp] w fun e w' => e = .returned (.bool true) ∧ Below w.heap.size w w' := by
  have haw := fun W => awake_any W
  have hl := h.1
  have hl' := h'.1
  have HL : Hid (LR w a n ls ∧ (∀ x ∈ ls, OkL x) ∧ (a = none → n = 0 ∧ cap = 0)) := ⟨h, hok, hz⟩
  have HM : Hid (LR w b m ms ∧ (∀ x ∈ ms, OkL x) ∧ (b = none → m = 0 ∧ cbp = 0)) := ⟨h', hok', hz'⟩
  clear h hok hz h' hok' hz'
  by_cases hbig : n + m ≤ 200
  · have hbI : ¬ ((200 : Int) < (n : Int) + (m : Int)) := by omega
    go_enter Try.func5, Try.ntmps5
    go_wp2_with fail
    refine (haw _).mono ?_
    rintro e w1 ⟨rfl, hb1⟩
    have hbe := behind_any w1 a n cap ls (HL.out.1.up hb1) HL.out.2.2 HL.out.2.1 b m cbp ms (HM.out.1.up hb1) HM.out.2.2 HM.out.2.1 (by omega) (by omega)
    clear haw
    go_wp2_with fail
    refine hbe.mono ?_
    rintro e w2 ⟨v2, rs, rfl, hasc, hmem, hown2, hb2⟩
    have hbb2 := bl_step hb1 hb2
    have hrl : rs.length ≤ m := by
      have := nodup_len (asc_nodup hasc) (fun x hx => (hmem x).1 hx)
      omega
    have hol := out_le ls rs
    have hre := refBehind_any w2 a n cap ls (HL.out.1.up hbb2) HL.out.2.2 b m cbp ms (HM.out.1.up hbb2) (by omega) (by omega)
    have HR : Hid (rs.Pairwise ltL ∧ ∀ x, x ∈ rs ↔ x ∈ ms) := ⟨hasc, hmem⟩
    clear hbe hb1 hb2 hasc hmem
    obtain ⟨ao2, cp2, rfl, hL2⟩ := LR.own hown2
    obtain ⟨hc2, hz2⟩ := own_cap hown2
    go_wp2_with fail
    refine hre.mono ?_
    rintro e w3 ⟨v3, rs', rfl, hasc', hmem', hown3, hb3⟩
    obtain rfl : rs = rs' := asc_eq HR.out.1 hasc' (fun x => (HR.out.2 x).trans (hmem' x).symm)
    have hbb3 := bl_step hbb2 hb3
    have hL23 := hL2.up hb3
    obtain ⟨ao3, cp3, rfl, hL3⟩ := LR.own hown3
    have hsm := same_any w3 ao2 (n + (out ls rs).length) cp2 _ hL23 ao3 (n + (out ls rs).length) cp3 _ hL3
    have ht : decide (ls ++ out ls rs = ls ++ out ls rs) = true := by simp
    rw [ht] at hsm
    have HL2 : Hid (LR w3 ao2 (n + (out ls rs).length) (ls ++ out ls rs)) := hL23
    have HZ2 : Hid (ao2 = none → n + (out ls rs).length = 0 ∧ cp2 = 0) := hz2
    have hkN : n ≤ cp2 := by omega
    clear hre hasc' hmem' hown2 hown3 hL2 hL3 hL23 hb3 ht hbb2 hz2
    go_wp2_with fail
    refine hsm.mono ?_
    rintro e w4 ⟨rfl, hu4⟩
    have hbb4 := bl_step hbb3 hu4.bl
    have HL4 : Hid (LR w4 ao2 (n + (out ls rs).length) (ls ++ out ls rs)) := HL2.out.up hu4.bl
    have hsm2 := same_any w4 ao2 n cp2 ls (LR.prefix HL4.out hl) a n cap ls (HL.out.1.up hbb4)
    have ht : decide (ls = ls) = true := by simp
    rw [ht] at hsm2
    clear hsm hu4 hbb3 ht HL2
    go_wp2_with fail
    refine hsm2.mono ?_
    rintro e w5 ⟨rfl, hu5⟩
    have hbb5 := bl_step hbb4 hu5.bl
    have HL5 : Hid (LR w5 ao2 (n + (out ls rs).length) (ls ++ out ls rs)) := HL4.out.up hu5.bl
    have htw := twice_any w5 a n cap ls (HL.out.1.up hbb5) (by omega) (fun e => (HL.out.2.2 e).1)
    clear hsm2 hu5 hbb4 HL4
    by_cases hnd : ls.Nodup
    · have hd : decide (¬ ls.Nodup) = false := by simpa using hnd
      rw [hd] at htw
      have HND : Hid (decide (¬ (ls ++ out ls rs).Nodup) = false) := by
        have := behind_nodup hnd HR.out.1
        show _ = _
        simpa using this
      clear hd hnd
      go_wp2_with fail
      refine htw.mono ?_
      rintro e w6 ⟨rfl, hb6⟩
      have hbb6 := bl_step hbb5 hb6
      have HL6 : Hid (LR w6 ao2 (n + (out ls rs).length) (ls ++ out ls rs)) := HL5.out.up hb6
      have htw2 := twice_any w6 ao2 (n + (out ls rs).length) cp2 _ HL6.out (by omega) (fun e => (HZ2.out e).1)
      rw [HND.out] at htw2
      clear htw hb6 hbb5 HL5
      go_wp2_with fail
      refine htw2.mono ?_
      rintro e w7 ⟨rfl, hb7⟩
      have hbb7 := bl_step hbb6 hb7
      have HL7 : Hid (LR w7 ao2 (n + (out ls rs).length) (ls ++ out ls rs)) := HL6.out.up hb7
      have hokR : ∀ x ∈ ls ++ out ls rs, OkL x := by
        intro x hx
        rw [List.mem_append] at hx
        rcases hx with hx | hx
        · exact HL.out.2.1 x hx
        · unfold out at hx
          rw [List.mem_filter] at hx
          exact HM.out.2.1 x ((HR.out.2 x).1 hx.1)
      have hbe2 := behind_any w7 ao2 (n + (out ls rs).length) cp2 (ls ++ out ls rs) HL7.out HZ2.out hokR b m cbp ms (HM.out.1.up hbb7) HM.out.2.2 HM.out.2.1 (by omega) (by omega)
      clear htw2 hb7 hbb6 HL6 hokR
      go_wp2_with fail
      refine hbe2.mono ?_
      rintro e w8 ⟨v8, rs8, rfl, hasc8, hmem8, hown8, hb8⟩
      obtain rfl : rs = rs8 := asc_eq HR.out.1 hasc8 (fun x => (HR.out.2 x).trans (hmem8 x).symm)
      have hbb8 := bl_step hbb7 hb8
      have HL8 : Hid (LR w8 ao2 (n + (out ls rs).length) (ls ++ out ls rs)) := HL7.out.up hb8
      rw [behind_again] at hown8
      simp only [List.length_nil, Nat.add_zero, List.append_nil] at hown8
      obtain ⟨ao8, cp8, rfl, hL8⟩ := LR.own hown8
      have hsm3 := same_any w8 ao8 (n + (out ls rs).length) cp8 _ hL8 ao2 (n + (out ls rs).length) cp2 _ HL8.out
      have ht : decide (ls ++ out ls rs = ls ++ out ls rs) = true := by simp
      rw [ht] at hsm3
      clear hbe2 hasc8 hmem8 hown8 hL8 hb8 hbb7 HL7 HL8 ht
      go_wp2_with fail
      refine hsm3.mono ?_
      rintro e w9 ⟨rfl, hu9⟩
      have hbb9 := bl_step hbb8 hu9.bl
      clear hsm3 hu9 hbb8
      go_wp2
      go_ret
      exact ⟨rfl, hbb9⟩
    · have hd : decide (¬ ls.Nodup) = true := by simpa using hnd
      rw [hd] at htw
      clear hd hnd
      go_wp2_with fail
      refine htw.mono ?_
      rintro e w6 ⟨rfl, hb6⟩
      have hbb6 := bl_step hbb5 hb6
      clear htw hb6 hbb5 HL5
      go_wp2
      go_ret
      exact ⟨rfl, hbb6⟩
  · have hbI : (200 : Int) < (n : Int) + (m : Int) := by omega
    go_enter Try.func5, Try.ntmps5
    go_wp2_with fail
    refine (haw _).mono ?_
    rintro e w1 ⟨rfl, hb1⟩
    go_wp2_with fail
    refine (haw _).mono ?_
    rintro e w2 ⟨rfl, hb2⟩
    have hb := bl_step hb1 hb2
    clear haw hb1 hb2
    go_wp2
    go_ret
    exact ⟨rfl, hb⟩

set_option maxRecDepth 100000 in
theorem lifted (os : Os) (started : os.Started) (H : Type) (enc : TypeId × Value → H) :
    ReturnsInHanded {} Try.checked os 5 .any (Rows.labelBehindSpec.pre6 enc Try.prog Try.f5 Rows.labelBehindRow.domain false) (Rows.labelBehindSpec.post enc Try.prog Try.f5 false true false false) := by
  refine returnsInHanded_of_change_sized (C := Try.checked) own started (by kernel_rfl) Try.func5
    (ChangeSpec.witness6 (enc := enc) (C := Try.checked) false ⟨#[], #[.slice none 0 0, .slice none 0 0], []⟩ 5 (by kernel_rfl) (by kernel_rfl) (by kernel_rfl) (by kernel_rfl)) ?_
  intro W base args ds gs before hval0 hW hcnd hsz0 _
  have hsz : (DataW.weightsEach Try.prog (Try.f5.params.toList ++ Rows.labelBehindSpec.plain.varTypes Try.prog) (ds ++ gs)).all (· ≤ reachBytes) = true := hsz0
  have hval : ∀ (j : Nat) t v, Try.f5.params[j]? = some t → args[j]? = some v → Value.okWide Try.prog W .any base t v := hval0
  have hW' := hW
  obtain ⟨p, q, hA0, hV, rfl, hfz, hnd⟩ := hW
  have hA : DataW.TrodAll enc Try.prog W 0 (fun _ => true) true Try.f5.params.toList args.toList ds p := hA0
  rw [Try.params5] at hA hval hsz
  obtain ⟨v0, vs0, d0, ds0, p0, q0, hargs0, rfl, rfl, h0, r0⟩ := trodAll_cons hA
  obtain ⟨v1, vs1, d1, ds1, p1, q1, hargs1, rfl, rfl, h1, r1⟩ := trodAll_cons r0
  obtain ⟨rfl, rfl, rfl⟩ := trodAll_nil r1
  obtain rfl : args = #[v0, v1] := by cases args; simp_all
  obtain ⟨rfl, rfl⟩ := trodVars_none hV
  obtain ⟨a0, len0, cap0, rfl⟩ := okWide_slice Try.underlying32 (hval 0 32 v0 rfl rfl)
  have k0 := h0
  have lt0 : ∀ x ∈ p0, x.block < W.heap.size := by obtain ⟨m, hm⟩ := k0; exact DataW.trod_lt m _ _ _ hm
  have hs0 := size_labels h0 hsz (j := 0) rfl rfl
  obtain ⟨xs0, hx0, ho0, hz0, hc0, hd0⟩ := open_labels h0
  obtain ⟨a1, len1, cap1, rfl⟩ := okWide_slice Try.underlying32 (hval 1 32 v1 rfl rfl)
  have k1 := h1
  have lt1 : ∀ x ∈ p1, x.block < W.heap.size := by obtain ⟨m, hm⟩ := k1; exact DataW.trod_lt m _ _ _ hm
  have hs1 := size_labels h1 hsz (j := 1) rfl rfl
  obtain ⟨xs1, hx1, ho1, hz1, hc1, hd1⟩ := open_labels h1
  clear hA0 hval0 hsz hsz0
  refine (walk W a0 len0 cap0 xs0 hx0 ho0 hz0 hc0 hd0 hs0 a1 len1 cap1 xs1 hx1 ho1 hz1 hc1 hd1 hs1).mono fun e W' ⟨he, bel⟩ => ?_
  subst he
  exact ⟨_, rfl, _, _, _, [], _, [], hW', trodAll_mk1 (shut_bool Try.underlying4 _), (trodAll_cons_mk (Below.trod laidOut (by kernel_rfl) (of_decide_eq_true (by kernel_rfl)) k0 bel lt0) (trodAll_cons_mk (Below.trod laidOut (by kernel_rfl) (of_decide_eq_true (by kernel_rfl)) k1 bel lt1) trodAll_mk0)), rfl, bel.frame _, fun h => by cases h⟩

theorem over : Rows.labelBehindRow.holds Try.pinned (OpenSpec.ofChange Rows.labelBehindSpec) :=
  OpenClaim.holds_of_wide 5 Try.f5 rfl rfl rfl rfl rfl rfl rfl ⟨rfl, rfl, rfl, rfl, rfl⟩ rfl rfl rfl rfl rfl (by kernel_rfl) Try.func5 (by kernel_rfl)
    (of_decide_eq_true (by kernel_rfl)) (by unfold Func.isWrapper; first | (rw [if_pos (by decide +kernel)]; kernel_rfl) | (rw [if_neg (by decide +kernel)]; exact ⟨rfl, rfl⟩))
    (fun os started H enc _ => lifted os started H enc)

end Go.Proofs.Ytdnhhbpnefhjlaa.labelBehind
namespace Go.Proofs.Ytdnhhbpnefhjlaa
theorem labelBehind_holds : Rows.LabelBehindSaid := labelBehind.over
#print axioms labelBehind_holds
end Go.Proofs.Ytdnhhbpnefhjlaa
