/-
  Proved: for every list of texts l and every number at, RecvGaps(l, at) returns true: what comes ahead of its time is refused, whole, and comes in when what is missing has come; the document's example holds. No condition.
-/
import Derived.Test.YtlifoojojclllaaRows
import Derived.Test.YtlifoojojclllaaVPart
namespace Go.Proofs.Ytlifoojojclllaa.recvGaps
open Go.ChangeShapes Go.WideShapes Go.ChangeAt Go.RowKit
open Go.ChangeMaps (open_string shut_string)
set_option linter.unusedVariables false

theorem offer0 {w0 w : World} {F : Nat → Prop} {q : Nat} (h : Rcv w 9 F q 256 0 []) (o : Own w0 w F) (ao : Option Addr) (n cap : Nat) (hn : n ≤ 256) (ys : List Value) (hy : Tx w0 (.slice ao n cap) ys) :
    Calls Try.prog 30 #[.pointer (some ⟨q, 0, none⟩), .int .u64 0, .slice ao n cap] w fun e w' => e = .returned (.tuple #[.int .i64 (n : Nat), .int .i64 0]) ∧ ∃ F', Rcv w' 9 F' q 256 n ys ∧ Own w0 w' F' := by
  have hl := hy.len.1
  refine (offer_arg h o 0 (by omega) (by omega) ao n cap ys hy n (by simp; omega)).mono ?_
  rintro e w' ⟨he, F', h1, h2, _⟩
  refine ⟨he, F', ?_, h2⟩
  simp only [Nat.zero_add, Nat.sub_zero, List.drop_zero, List.nil_append] at h1
  rwa [hl, List.take_length, ← hl] at h1

set_option maxRecDepth 10000 in
set_option maxHeartbeats 2000000 in
theorem walk (w : World) (a0 : Option Addr) (len cap : Nat) (xs : List Value) (hx : Tx w (.slice a0 len cap) xs) (a1 : Nat) (h1 : a1 < 256) :
    Calls Try.prog 11 #[.slice a0 len cap, .int .u8 (a1 : Nat)] w fun e w' => e = .returned (.bool true) ∧ Below w.heap.size w w' := by
  have HX : Hid (Tx w (.slice a0 len cap) xs) := hx
  have HL : Hid (len = xs.length ∧ len ≤ 9223372036854775807) := by have := hx.len; exact ⟨this.1, by omega⟩
  clear hx
  by_cases hlen : len < 2 ∨ 200 < len
  · have hor : (¬ (len : Int) < 2 ∧ (200 : Int) < len) ∨ (len : Int) < 2 := by omega
    have hmx := HL.out.2
    rcases hor with ⟨g1, g2⟩ | g1
    all_goals
      go_enter Try.func11, Try.ntmps11
      go_wp2_with fail
      refine (awake10_any _).mono ?_
      rintro e w1 ⟨rfl, t1⟩
      go_wp2_with fail
      refine (awake10_any _).mono ?_
      rintro e w2 ⟨rfl, t2⟩
      go_wp2
      go_ret
      exact ⟨rfl, (t1.trans t2 (fun _ hf => hf.elim)).below (Nat.le_refl _) (fun _ hf => hf.elim)⟩
  · obtain ⟨k, HK⟩ : ∃ k : Nat, Hid (k = 1 + a1 % (len - 1)) := ⟨_, rfl⟩
    have hk1 : 1 ≤ k := by have := HK.out; omega
    have hk2 : k < len := by have := HK.out; have := Nat.mod_lt a1 (show 0 < len - 1 by omega); omega
    have ek : (1 : Int) + (a1 : Int) % ((len : Int) - 1) = (k : Int) := by
      have := HK.out
      rw [this, show (len : Int) - 1 = ((len - 1 : Nat) : Int) by omega]
      push_cast
      rfl
    have hd1 : decide ((len : Int) < 2) = false := by simp; omega
    have hd2 : decide ((200 : Int) < (len : Int)) = false := by simp; omega
    have hg1 : ¬ (len : Int) < 2 := by omega
    have hg2 : ¬ (200 : Int) < (len : Int) := by omega
    have hne : ((len : Int) - 1 == 0) = false := by simp; omega
    obtain ⟨aoA, NA, CA, HNA, hslA, txA, hobA⟩ := tx_from HX.out k (by omega)
    obtain ⟨aoB, NB, CB, HNB, hslB, txB, hobB⟩ := tx_upto HX.out k (by omega)
    have HA : Hid (NA = len - k ∧ Tx w (.slice aoA NA CA) (xs.drop k)) := ⟨HNA, txA⟩
    have hNA : (NA : Int) = (len : Int) - k := by omega
    subst HNB
    have hNBI : NB < len := hk2
    go_enter Try.func11, Try.ntmps11
    go_wp2_with fail
    refine (awake10_any _).mono ?_
    rintro e w1 ⟨rfl, t1⟩
    go_wp2_with fail
    refine (vnew256 _).mono ?_
    rintro e w2 ⟨q, F2, rfl, s2, t2, b2⟩
    have o2 : Own w w2 F2 := Own.behind t1 ⟨t2, b2⟩
    clear t1 t2 b2 txA HNA hobA hobB
    go_wp2_with fail
    refine (voffer_err s2 NB (by omega) _).mono ?_
    rintro e w3 ⟨rfl, rfl⟩
    have hof := offer0 s2 o2 aoB NB CB (by omega) _ txB
    clear s2 o2 txB
    go_wp2_with fail
    refine hof.mono ?_
    rintro e w4 ⟨rfl, F4, s4, o4⟩
    have hof2 := offer_arg s4 o4 NB (Nat.le_refl _) (by omega) aoA NA CA _ HA.out.2 NA (by rw [Nat.sub_self, take_len (by have := HL.out; omega)]; have := HA.out.1; omega)
    rw [Nat.sub_self, List.drop_zero, show (xs.drop NB).take NA = xs.drop NB from List.take_of_length_le (by rw [List.length_drop]; have := HL.out; have := HA.out.1; omega), List.take_append_drop, show NB + NA = len by have := HA.out.1; omega] at hof2
    clear s4 o4 hof
    go_wp2_with fail
    refine hof2.mono ?_
    rintro e w5 ⟨rfl, F5, s5, o5, _⟩
    clear hof2
    go_wp2_with fail
    try simp only [ek, hd1, hd2, hNA]
    clear ek hd1 hd2 hNA hslA hslB hne hg1 hg2
    go_loopw [14] (fun iv wr => ∃ (i : Nat) (F : Nat → Prop), i ≤ len ∧ iv = .int .i64 i ∧ Rcv wr 9 F q 256 len (xs.drop i) ∧ Own w wr F) (fun iv _ => len - (intOf iv).toNat)
    case atStart => exact ⟨0, F5, by omega, rfl, s5, o5⟩
    case round =>
      clear s5 o5
      obtain ⟨i, F, hi, rfl, hr, ho⟩ := hrel
      by_cases hlt : i < len
      · have hltI : (i : Int) < len := by omega
        obtain ⟨-, -, b, off, s, rfl, hxi, hc⟩ := (HX.out.turned ho.turned).at hlt
        have hx : xs.drop i = .string s :: xs.drop (i + 1) := by
          obtain ⟨hl, he⟩ := List.getElem?_eq_some_iff.1 hxi
          rw [← he]; exact List.drop_eq_getElem_cons hl
        rw [hx] at hr
        have HC : Hid (∀ w', Turned F wr w' → w'.cell? ⟨b, off + i, none⟩ = some (.string s)) := fun w' t => by
          have hb := HX.out.apart_own ho (by omega) b rfl
          rw [cell_block (t.block b (World.block_lt_of_cell? _ _ hc) hb)]
          exact hc
        clear hx hxi hc
        go_wp2_with fail
        refine (vtake_any hr).mono ?_
        rintro e w3 ⟨rfl, F3, r3, g3⟩
        have o3 := ho.goes g3
        have hc3 := HC.out w3 g3.turned
        clear hr ho g3 HC
        go_wp2
        go_roundw
        case rel => first | exact ⟨i + 1, F3, by omega, by go_num, r3, o3⟩ | ((repeat apply Exists.intro); exact ⟨⟨i + 1, F3, by omega, by go_num, r3, o3⟩, rfl⟩)
        case measure => simp [intOf]; omega
      · obtain rfl : len = i := by omega
        have hb := ho.below
        go_wp2_with fail
        refine (vnext_any hr).mono ?_
        rintro e w6 ⟨rfl, rfl⟩
        clear hr ho
        go_wp2
        go_ret
        exact ⟨rfl, hb⟩

set_option maxRecDepth 100000 in
theorem lifted (os : Os) (started : os.Started) (H : Type) (enc : TypeId × Value → H) :
    ReturnsInHanded {} Try.checked os 11 .any (Rows.recvGapsSpec.pre6 enc Try.prog Try.f11 Rows.recvGapsRow.domain false) (Rows.recvGapsSpec.post enc Try.prog Try.f11 false true false false) := by
  refine returnsInHanded_of_change (C := Try.checked) own started (by kernel_rfl) Try.func11
    (ChangeSpec.witness6 (enc := enc) (C := Try.checked) false ⟨#[], #[.slice none 0 0, .int .u8 0], []⟩ 11 (by kernel_rfl) (by kernel_rfl) (by kernel_rfl) (by kernel_rfl)) ?_
  intro W base args ds gs before hval0 hW hcnd _
  have hval : ∀ (j : Nat) t v, Try.f11.params[j]? = some t → args[j]? = some v → Value.okWide Try.prog W .any base t v := hval0
  have hW' := hW
  obtain ⟨p, q, hA0, hV, rfl, hfz, hnd⟩ := hW
  have hA : DataW.TrodAll enc Try.prog W 0 (fun _ => true) true Try.f11.params.toList args.toList ds p := hA0
  rw [Try.params11] at hA hval
  obtain ⟨v0, vs0, d0, ds0, p0, q0, hargs0, rfl, rfl, h0, r0⟩ := trodAll_cons hA
  obtain ⟨v1, vs1, d1, ds1, p1, q1, hargs1, rfl, rfl, h1, r1⟩ := trodAll_cons r0
  obtain ⟨rfl, rfl, rfl⟩ := trodAll_nil r1
  obtain rfl : args = #[v0, v1] := by cases args; simp_all
  obtain ⟨rfl, rfl⟩ := trodVars_none hV
  obtain ⟨a0, len0, cap0, rfl⟩ := okWide_slice Try.underlying28 (hval 0 28 v0 rfl rfl)
  have k0 := h0
  have lt0 : ∀ x ∈ p0, x.block < W.heap.size := by obtain ⟨m, hm⟩ := k0; exact DataW.trod_lt m _ _ _ hm
  obtain ⟨xs0, hx0⟩ := open_texts h0
  obtain ⟨a1, rfl, rfl, rfl, w1⟩ := open_int Try.underlying5 (hval 1 5 v1 rfl rfl) h1
  clear hA0 hval0
  obtain ⟨n1, rfl, hn1⟩ := u8_of_wf w1
  refine (walk W a0 len0 cap0 xs0 hx0 n1 hn1).mono fun e W' ⟨he, bel⟩ => ?_
  subst he
  exact ⟨_, rfl, _, _, _, [], _, [], hW', trodAll_mk1 (shut_bool Try.underlying4 _), (trodAll_cons_mk (Below.trod laidOut (by kernel_rfl) (of_decide_eq_true (by kernel_rfl)) k0 bel lt0) (trodAll_cons_mk (shut_int Try.underlying5 w1) trodAll_mk0)), rfl, bel.frame _, fun h => by cases h⟩

theorem over : Rows.recvGapsRow.holds Try.pinned (OpenSpec.ofChange Rows.recvGapsSpec) :=
  OpenClaim.holds_of_wide 11 Try.f11 rfl rfl rfl rfl rfl rfl rfl ⟨rfl, rfl, rfl, rfl, rfl⟩ rfl rfl rfl rfl rfl (by kernel_rfl) Try.func11 (by kernel_rfl)
    (of_decide_eq_true (by kernel_rfl)) (by unfold Func.isWrapper; first | (rw [if_pos (by decide +kernel)]; kernel_rfl) | (rw [if_neg (by decide +kernel)]; exact ⟨rfl, rfl⟩))
    (fun os started H enc _ => lifted os started H enc)

end Go.Proofs.Ytlifoojojclllaa.recvGaps
namespace Go.Proofs.Ytlifoojojclllaa
theorem recvGaps_holds : Rows.RecvGapsSaid := recvGaps.over
#print axioms recvGaps_holds
end Go.Proofs.Ytlifoojojclllaa
