/-
  Proved: for every list of labels l and every byte at, LabelParts(l, at) returns true: the labels of two lists together are those of each, however they are cut; the document's example holds. No condition.
-/
import Derived.Test.YtdnhhbpnefhjlaaLArgs
namespace Go.Proofs.Ytdnhhbpnefhjlaa.labelParts
open Go.ChangeShapes Go.WideShapes Go.ChangeAt Go.RowKit Go.Sort
open Go.ChangeMaps (open_string shut_string)
set_option linter.unusedVariables false

theorem LR.drop {w : World} {b off n k : Nat} {ls : List Lb} (h : LR w (some ⟨b, off, none⟩) n ls) (hk : k ≤ n) : LR w (some ⟨b, off + k * 4, none⟩) (n - k) (ls.drop k) := by
  obtain ⟨h1, h2, h3⟩ := h
  refine ⟨by rw [List.length_drop]; omega, by omega, fun h0 => ?_⟩
  obtain ⟨b', off', e, hc⟩ := h3 (by omega)
  cases e
  refine ⟨b, off + k * 4, rfl, fun j x hj => ?_⟩
  rw [List.getElem?_drop] at hj
  have := hc _ x hj
  rw [show off + (k + j) * 4 = off + k * 4 + j * 4 by omega] at this
  exact this
theorem LR.none0 (w : World) : LR w none 0 [] := ⟨rfl, by omega, fun h => by omega⟩
theorem LR.zero (w : World) (a : Option Addr) : LR w a 0 [] := ⟨rfl, by omega, fun h => by omega⟩
theorem own_z {w : World} {B n cap : Nat} {ao : Option Addr} {xs : List Value} (h : w.ownsRow B 26 4 (.slice ao n cap) n xs) : ao = none → n = 0 ∧ cap = 0 := by
  rintro rfl
  rcases h.2 with ⟨h0, h1⟩ | ⟨g, cap', cur, h0, _⟩
  · simp only [Value.slice.injEq] at h0; exact ⟨h1, h0.2.2⟩
  · simp at h0

set_option maxRecDepth 10000 in
set_option maxHeartbeats 2000000 in
theorem walk (w : World) (a : Option Addr) (n cap : Nat) (ls : List Lb) (h : LR w a n ls) (hok : ∀ x ∈ ls, OkL x) (hz : a = none → n = 0 ∧ cap = 0) (hnc : n ≤ cap) (hcm : cap ≤ 9223372036854775807) (at' : Nat) (hat : at' < 256) :
    Calls Try.prog 8 #[.slice a n cap, .int .u8 (at' : Nat)] w fun e w' => e = .returned (.bool true) ∧ Below w.heap.size w w' := by
  have haw := fun W => awake_any W
  have hl := h.1
  have HL : Hid (LR w a n ls) := h
  clear h
  by_cases hbig : n ≤ 100
  · have hbI : ¬ ((100 : Int) < (n : Int)) := by omega
    obtain ⟨k, HK⟩ : ∃ k, Hid (at' % (n + 1) = k) := ⟨_, rfl⟩
    have hk : k ≤ n := by have := Nat.mod_lt at' (show 0 < n + 1 by omega); have := HK.out; omega
    have hrem : ((at' : Nat) : Int).tmod ((n : Int) + 1) = (k : Nat) := by
      have e : ((n : Int) + 1) = ((n + 1 : Nat) : Int) := by omega
      rw [e, ← HK.out]
      exact (Int.ofNat_tmod at' (n + 1)).symm
    have hwr : wrap64 ((at' : Nat) : Int) = (at' : Nat) := IntWalk.wrap64_in _ (by omega)
    have hk0 : ¬ ((k : Int) < 0) := by omega
    have hkI : (k : Int) ≤ (n : Int) := by omega
    have hkc : k ≤ cap := by omega
    have hn1 : ¬ ((n : Int) + 1 = 0) := by omega
    clear HK hat
    cases a with
    | none =>
      obtain ⟨rfl, rfl⟩ := hz rfl
      obtain rfl : k = 0 := by omega
      obtain rfl : ls = [] := List.length_eq_zero_iff.1 hl
      clear hz
      go_enter Try.func8, Try.ntmps8
      go_wp2_with fail
      refine (haw _).mono ?_
      rintro e w1 ⟨rfl, hb1⟩
      clear haw
      have hso1 := sort_any w1 none 0 0 [] (LR.none0 _) (by omega) (fun _ => rfl)
      go_wp2_with fail
      refine hso1.mono ?_
      rintro e w2 ⟨v2, rs1, rfl, hasc1, hmem1, hown2, hb2⟩
      have hbb2 := bl_step hb1 hb2
      have hrl1 : rs1.length ≤ 0 := by
        have := nodup_len (asc_nodup hasc1) (fun x hx => (hmem1 x).1 hx)
        try simp at this
        first | omega | simp [this]
      have HM1 : Hid (∀ x, x ∈ rs1 ↔ x ∈ ([] : List Lb)) := hmem1
      obtain ⟨ao2, cp2, rfl, hL2⟩ := LR.own hown2
      have hz2 := own_z hown2
      clear hso1 hmem1 hasc1 hown2 hb2 hb1
      go_wp2_with (at_builtin; refine wpList_append_LR rfl _ _ rfl w.heap.size _ 0 [] rfl ?d1 ao2 rs1.length cp2 rs1 rfl ?d2 hz2 ?d3 ?d4 ?_)
      case d1 => exact World.ownsRow_nil _ _ _ _
      case d2 => exact hL2
      case d3 => omega
      case d4 => exact hbb2.size
      intro v3 w3 hown3 hg3
      have hbb3 : Below w.heap.size w w3 := bl_grown hbb2 hbb2.size hg3 (fun k hk => by simp [Value.ownBlock] at hk)
      have hown3' : w3.ownsRow w.heap.size 26 4 v3 rs1.length (flat rs1) := by simpa using hown3
      have hso2 := sort_any w3 none 0 0 [] (LR.none0 _) (by omega) (fun _ => rfl)
      clear hown3 hg3 hL2 hz2 hbb2
      go_wp2_with fail
      refine hso2.mono ?_
      rintro e w4 ⟨v4, rs2, rfl, hasc2, hmem2, hown4, hb4⟩
      have hbb4 := bl_step hbb3 hb4
      have hrl2 : rs2.length ≤ 0 := by
        have := nodup_len (asc_nodup hasc2) (fun x hx => (hmem2 x).1 hx)
        try simp at this
        first | omega | simp [this]
      have HM2 : Hid (∀ x, x ∈ rs2 ↔ x ∈ ([] : List Lb)) := hmem2
      obtain ⟨ao4, cp4, rfl, hL4⟩ := LR.own hown4
      have hz4 := own_z hown4
      have hown5 := own_below hown3' hb4
      obtain ⟨ao5, cp5, rfl, _⟩ := LR.own hown5
      have hlt5 : ∀ g, (Value.slice ao5 rs1.length cp5).ownBlock = some g → w.heap.size ≤ g := fun g hg => (hown5.lt g hg).1
      clear hso2 hmem2 hasc2 hown4 hb4 hbb3 hown3'
      go_wp2_with (at_builtin; refine wpList_append_LR rfl _ _ rfl w.heap.size _ rs1.length rs1 rfl ?d1 ao4 rs2.length cp4 rs2 rfl ?d2 hz4 ?d3 ?d4 ?_)
      case d1 => exact hown5
      case d2 => exact hL4
      case d3 => omega
      case d4 => exact hbb4.size
      intro v6 w6 hown6 hg6
      have hbb6 : Below w.heap.size w w6 := bl_grown hbb4 hbb4.size hg6 hlt5
      obtain ⟨ao6, cp6, rfl, hL6⟩ := LR.own hown6
      have hz6 := own_z hown6
      have hso3 := sort_any w6 ao6 (rs1.length + rs2.length) cp6 (rs1 ++ rs2) hL6 (by omega) (fun e => (hz6 e).1)
      clear hown6 hg6 hL4 hz4 hbb4 hown5 hlt5 hL6
      go_wp2_with fail
      refine hso3.mono ?_
      rintro e w7 ⟨v7, rs3, rfl, hasc3, hmem3, hown7, hb7⟩
      have hbb7 := bl_step hbb6 hb7
      have HM3 : Hid (rs3.Pairwise ltL ∧ ∀ x, x ∈ rs3 ↔ x ∈ ([] : List Lb)) := by
        refine ⟨hasc3, fun x => ?_⟩
        rw [hmem3 x, List.mem_append, HM1.out x, HM2.out x]
        simp
      have hso4 := sort_any w7 none 0 0 [] (HL.out.up hbb7) (by omega) (fun _ => rfl)
      clear hso3 hasc3 hmem3 hb7 hbb6 HM1 HM2 hz6
      go_wp2_with fail
      refine hso4.mono ?_
      rintro e w8 ⟨v8, rs4, rfl, hasc4, hmem4, hown8, hb8⟩
      have hbb8 := bl_step hbb7 hb8
      obtain rfl : rs3 = rs4 := asc_eq HM3.out.1 hasc4 (fun x => (HM3.out.2 x).trans (hmem4 x).symm)
      obtain ⟨ao7, cp7, rfl, hL7⟩ := LR.own (own_below hown7 hb8)
      obtain ⟨ao8, cp8, rfl, hL8⟩ := LR.own hown8
      have hsm := same_any w8 ao7 rs3.length cp7 rs3 hL7 ao8 rs3.length cp8 rs3 hL8
      have ht : decide (rs3 = rs3) = true := by simp
      rw [ht] at hsm
      clear hso4 hasc4 hmem4 hown7 hown8 hL7 hL8 hb8 ht hbb7
      go_wp2_with fail
      refine hsm.mono ?_
      rintro e w9 ⟨rfl, hu9⟩
      have hbb9 := bl_step hbb8 hu9.bl
      have hbe := behind_any w9 none 0 0 [] (LR.none0 _) (fun _ => ⟨rfl, rfl⟩) (by simp) none 0 0 [] (HL.out.up hbb9) (fun _ => ⟨rfl, rfl⟩) hok (by omega) (by omega)
      clear hsm hu9 hbb8
      go_wp2_with fail
      refine hbe.mono ?_
      rintro e w10 ⟨v10, rs5, rfl, hasc5, hmem5, hown10, hb10⟩
      have hbb10 := bl_step hbb9 hb10
      have hout : out [] rs5 = rs5 := out_none (by simp)
      rw [hout, Nat.zero_add, List.nil_append] at hown10
      have hso6 := sort_any w10 none 0 0 [] (HL.out.up hbb10) (by omega) (fun _ => rfl)
      have HM5 : Hid (rs5.Pairwise ltL ∧ ∀ x, x ∈ rs5 ↔ x ∈ ([] : List Lb)) := ⟨hasc5, hmem5⟩
      clear hbe hasc5 hmem5 hb10 hbb9 hout
      go_wp2_with fail
      refine hso6.mono ?_
      rintro e w11 ⟨v11, rs6, rfl, hasc6, hmem6, hown11, hb11⟩
      have hbb11 := bl_step hbb10 hb11
      obtain rfl : rs5 = rs6 := asc_eq HM5.out.1 hasc6 (fun x => (HM5.out.2 x).trans (hmem6 x).symm)
      obtain ⟨ao10, cp10, rfl, hL10⟩ := LR.own (own_below hown10 hb11)
      obtain ⟨ao11, cp11, rfl, hL11⟩ := LR.own hown11
      have hsm2 := same_any w11 ao10 rs5.length cp10 rs5 hL10 ao11 rs5.length cp11 rs5 hL11
      have ht : decide (rs5 = rs5) = true := by simp
      rw [ht] at hsm2
      clear hso6 hasc6 hmem6 hown10 hown11 hL10 hL11 hb11 ht hbb10
      go_wp2_with fail
      refine hsm2.mono ?_
      rintro e w12 ⟨rfl, hu12⟩
      have hbb12 := bl_step hbb11 hu12.bl
      have hso7 := sort_any w12 none 0 0 [] (LR.none0 _) (by omega) (fun _ => rfl)
      clear hsm2 hu12 hbb11
      go_wp2_with fail
      refine hso7.mono ?_
      rintro e w13 ⟨v13, rs7, rfl, hasc7, hmem7, hown13, hb13⟩
      have hbb13 := bl_step hbb12 hb13
      obtain rfl : rs7 = [] := List.eq_nil_iff_forall_not_mem.2 (fun x hx => by simpa using (hmem7 x).1 hx)
      obtain ⟨ao13, cp13, rfl, _⟩ := LR.own hown13
      clear hso7 hasc7 hmem7 hown13 hb13 hbb12 HM3 HM5
      go_wp2
      go_ret
      exact ⟨rfl, hbb13⟩

    | some ad =>
      by_cases hck : cap = k
      · obtain rfl : n = k := by omega
        obtain rfl : cap = n := hck
        clear hz
        go_enter Try.func8, Try.ntmps8
        go_wp2_with fail
        refine (haw _).mono ?_
        rintro e w1 ⟨rfl, hb1⟩
        clear haw
        have hso1 := sort_any w1 (some ad) 0 0 [] (LR.zero _ _) (by omega) (fun _ => rfl)
        go_wp2_with fail
        refine hso1.mono ?_
        rintro e w2 ⟨v2, rs1, rfl, hasc1, hmem1, hown2, hb2⟩
        have hbb2 := bl_step hb1 hb2
        have hrl1 : rs1.length ≤ cap := by
          have := nodup_len (asc_nodup hasc1) (fun x hx => (hmem1 x).1 hx)
          try simp at this
          first | omega | simp [this]
        have HM1 : Hid (∀ x, x ∈ rs1 ↔ x ∈ ([] : List Lb)) := hmem1
        obtain ⟨ao2, cp2, rfl, hL2⟩ := LR.own hown2
        have hz2 := own_z hown2
        clear hso1 hmem1 hasc1 hown2 hb2 hb1
        go_wp2_with (at_builtin; refine wpList_append_LR rfl _ _ rfl w.heap.size _ 0 [] rfl ?d1 ao2 rs1.length cp2 rs1 rfl ?d2 hz2 ?d3 ?d4 ?_)
        case d1 => exact World.ownsRow_nil _ _ _ _
        case d2 => exact hL2
        case d3 => omega
        case d4 => exact hbb2.size
        intro v3 w3 hown3 hg3
        have hbb3 : Below w.heap.size w w3 := bl_grown hbb2 hbb2.size hg3 (fun k hk => by simp [Value.ownBlock] at hk)
        have hown3' : w3.ownsRow w.heap.size 26 4 v3 rs1.length (flat rs1) := by simpa using hown3
        have hso2 := sort_any w3 (some ad) cap cap ls (HL.out.up hbb3) (by omega) (fun e => by cases e)
        clear hown3 hg3 hL2 hz2 hbb2
        go_wp2_with fail
        refine hso2.mono ?_
        rintro e w4 ⟨v4, rs2, rfl, hasc2, hmem2, hown4, hb4⟩
        have hbb4 := bl_step hbb3 hb4
        have hrl2 : rs2.length ≤ cap := by
          have := nodup_len (asc_nodup hasc2) (fun x hx => (hmem2 x).1 hx)
          try simp at this
          first | omega | simp [this]
        have HM2 : Hid (∀ x, x ∈ rs2 ↔ x ∈ (ls : List Lb)) := hmem2
        obtain ⟨ao4, cp4, rfl, hL4⟩ := LR.own hown4
        have hz4 := own_z hown4
        have hown5 := own_below hown3' hb4
        obtain ⟨ao5, cp5, rfl, _⟩ := LR.own hown5
        have hlt5 : ∀ g, (Value.slice ao5 rs1.length cp5).ownBlock = some g → w.heap.size ≤ g := fun g hg => (hown5.lt g hg).1
        clear hso2 hmem2 hasc2 hown4 hb4 hbb3 hown3'
        go_wp2_with (at_builtin; refine wpList_append_LR rfl _ _ rfl w.heap.size _ rs1.length rs1 rfl ?d1 ao4 rs2.length cp4 rs2 rfl ?d2 hz4 ?d3 ?d4 ?_)
        case d1 => exact hown5
        case d2 => exact hL4
        case d3 => omega
        case d4 => exact hbb4.size
        intro v6 w6 hown6 hg6
        have hbb6 : Below w.heap.size w w6 := bl_grown hbb4 hbb4.size hg6 hlt5
        obtain ⟨ao6, cp6, rfl, hL6⟩ := LR.own hown6
        have hz6 := own_z hown6
        have hso3 := sort_any w6 ao6 (rs1.length + rs2.length) cp6 (rs1 ++ rs2) hL6 (by omega) (fun e => (hz6 e).1)
        clear hown6 hg6 hL4 hz4 hbb4 hown5 hlt5 hL6
        go_wp2_with fail
        refine hso3.mono ?_
        rintro e w7 ⟨v7, rs3, rfl, hasc3, hmem3, hown7, hb7⟩
        have hbb7 := bl_step hbb6 hb7
        have HM3 : Hid (rs3.Pairwise ltL ∧ ∀ x, x ∈ rs3 ↔ x ∈ (ls : List Lb)) := by
          refine ⟨hasc3, fun x => ?_⟩
          rw [hmem3 x, List.mem_append, HM1.out x, HM2.out x]
          simp
        have hso4 := sort_any w7 (some ad) cap cap ls (HL.out.up hbb7) (by omega) (fun e => by cases e)
        clear hso3 hasc3 hmem3 hb7 hbb6 HM1 HM2 hz6
        go_wp2_with fail
        refine hso4.mono ?_
        rintro e w8 ⟨v8, rs4, rfl, hasc4, hmem4, hown8, hb8⟩
        have hbb8 := bl_step hbb7 hb8
        obtain rfl : rs3 = rs4 := asc_eq HM3.out.1 hasc4 (fun x => (HM3.out.2 x).trans (hmem4 x).symm)
        obtain ⟨ao7, cp7, rfl, hL7⟩ := LR.own (own_below hown7 hb8)
        obtain ⟨ao8, cp8, rfl, hL8⟩ := LR.own hown8
        have hsm := same_any w8 ao7 rs3.length cp7 rs3 hL7 ao8 rs3.length cp8 rs3 hL8
        have ht : decide (rs3 = rs3) = true := by simp
        rw [ht] at hsm
        clear hso4 hasc4 hmem4 hown7 hown8 hL7 hL8 hb8 ht hbb7
        go_wp2_with fail
        refine hsm.mono ?_
        rintro e w9 ⟨rfl, hu9⟩
        have hbb9 := bl_step hbb8 hu9.bl
        have hbe := behind_any w9 none 0 0 [] (LR.none0 _) (fun _ => ⟨rfl, rfl⟩) (by simp) (some ad) cap cap ls (HL.out.up hbb9) (fun e => by cases e) hok (by omega) (by omega)
        clear hsm hu9 hbb8
        go_wp2_with fail
        refine hbe.mono ?_
        rintro e w10 ⟨v10, rs5, rfl, hasc5, hmem5, hown10, hb10⟩
        have hbb10 := bl_step hbb9 hb10
        have hout : out [] rs5 = rs5 := out_none (by simp)
        rw [hout, Nat.zero_add, List.nil_append] at hown10
        have hso6 := sort_any w10 (some ad) cap cap ls (HL.out.up hbb10) (by omega) (fun e => by cases e)
        have HM5 : Hid (rs5.Pairwise ltL ∧ ∀ x, x ∈ rs5 ↔ x ∈ (ls : List Lb)) := ⟨hasc5, hmem5⟩
        clear hbe hasc5 hmem5 hb10 hbb9 hout
        go_wp2_with fail
        refine hso6.mono ?_
        rintro e w11 ⟨v11, rs6, rfl, hasc6, hmem6, hown11, hb11⟩
        have hbb11 := bl_step hbb10 hb11
        obtain rfl : rs5 = rs6 := asc_eq HM5.out.1 hasc6 (fun x => (HM5.out.2 x).trans (hmem6 x).symm)
        obtain ⟨ao10, cp10, rfl, hL10⟩ := LR.own (own_below hown10 hb11)
        obtain ⟨ao11, cp11, rfl, hL11⟩ := LR.own hown11
        have hsm2 := same_any w11 ao10 rs5.length cp10 rs5 hL10 ao11 rs5.length cp11 rs5 hL11
        have ht : decide (rs5 = rs5) = true := by simp
        rw [ht] at hsm2
        clear hso6 hasc6 hmem6 hown10 hown11 hL10 hL11 hb11 ht hbb10
        go_wp2_with fail
        refine hsm2.mono ?_
        rintro e w12 ⟨rfl, hu12⟩
        have hbb12 := bl_step hbb11 hu12.bl
        have hso7 := sort_any w12 none 0 0 [] (LR.none0 _) (by omega) (fun _ => rfl)
        clear hsm2 hu12 hbb11
        go_wp2_with fail
        refine hso7.mono ?_
        rintro e w13 ⟨v13, rs7, rfl, hasc7, hmem7, hown13, hb13⟩
        have hbb13 := bl_step hbb12 hb13
        obtain rfl : rs7 = [] := List.eq_nil_iff_forall_not_mem.2 (fun x hx => by simpa using (hmem7 x).1 hx)
        obtain ⟨ao13, cp13, rfl, _⟩ := LR.own hown13
        clear hso7 hasc7 hmem7 hown13 hb13 hbb12 HM3 HM5
        go_wp2
        go_ret
        exact ⟨rfl, hbb13⟩

      · by_cases hn0 : n = 0
        · subst hn0
          obtain rfl : k = 0 := by omega
          obtain rfl : ls = [] := List.length_eq_zero_iff.1 hl
          have hc0 : ¬ (cap = 0) := hck
          clear hz
          go_enter Try.func8, Try.ntmps8
          go_wp2_with fail
          refine (haw _).mono ?_
          rintro e w1 ⟨rfl, hb1⟩
          clear haw
          have hso1 := sort_any w1 (some ad) 0 cap [] (LR.zero _ _) (by omega) (fun _ => rfl)
          go_wp2_with fail
          refine hso1.mono ?_
          rintro e w2 ⟨v2, rs1, rfl, hasc1, hmem1, hown2, hb2⟩
          have hbb2 := bl_step hb1 hb2
          have hrl1 : rs1.length ≤ 0 := by
            have := nodup_len (asc_nodup hasc1) (fun x hx => (hmem1 x).1 hx)
            try simp at this
            first | omega | simp [this]
          have HM1 : Hid (∀ x, x ∈ rs1 ↔ x ∈ ([] : List Lb)) := hmem1
          obtain ⟨ao2, cp2, rfl, hL2⟩ := LR.own hown2
          have hz2 := own_z hown2
          clear hso1 hmem1 hasc1 hown2 hb2 hb1
          go_wp2_with (at_builtin; refine wpList_append_LR rfl _ _ rfl w.heap.size _ 0 [] rfl ?d1 ao2 rs1.length cp2 rs1 rfl ?d2 hz2 ?d3 ?d4 ?_)
          case d1 => exact World.ownsRow_nil _ _ _ _
          case d2 => exact hL2
          case d3 => omega
          case d4 => exact hbb2.size
          intro v3 w3 hown3 hg3
          have hbb3 : Below w.heap.size w w3 := bl_grown hbb2 hbb2.size hg3 (fun k hk => by simp [Value.ownBlock] at hk)
          have hown3' : w3.ownsRow w.heap.size 26 4 v3 rs1.length (flat rs1) := by simpa using hown3
          have hso2 := sort_any w3 (some ad) 0 cap [] (LR.zero _ _) (by omega) (fun _ => rfl)
          clear hown3 hg3 hL2 hz2 hbb2
          go_wp2_with fail
          refine hso2.mono ?_
          rintro e w4 ⟨v4, rs2, rfl, hasc2, hmem2, hown4, hb4⟩
          have hbb4 := bl_step hbb3 hb4
          have hrl2 : rs2.length ≤ 0 := by
            have := nodup_len (asc_nodup hasc2) (fun x hx => (hmem2 x).1 hx)
            try simp at this
            first | omega | simp [this]
          have HM2 : Hid (∀ x, x ∈ rs2 ↔ x ∈ ([] : List Lb)) := hmem2
          obtain ⟨ao4, cp4, rfl, hL4⟩ := LR.own hown4
          have hz4 := own_z hown4
          have hown5 := own_below hown3' hb4
          obtain ⟨ao5, cp5, rfl, _⟩ := LR.own hown5
          have hlt5 : ∀ g, (Value.slice ao5 rs1.length cp5).ownBlock = some g → w.heap.size ≤ g := fun g hg => (hown5.lt g hg).1
          clear hso2 hmem2 hasc2 hown4 hb4 hbb3 hown3'
          go_wp2_with (at_builtin; refine wpList_append_LR rfl _ _ rfl w.heap.size _ rs1.length rs1 rfl ?d1 ao4 rs2.length cp4 rs2 rfl ?d2 hz4 ?d3 ?d4 ?_)
          case d1 => exact hown5
          case d2 => exact hL4
          case d3 => omega
          case d4 => exact hbb4.size
          intro v6 w6 hown6 hg6
          have hbb6 : Below w.heap.size w w6 := bl_grown hbb4 hbb4.size hg6 hlt5
          obtain ⟨ao6, cp6, rfl, hL6⟩ := LR.own hown6
          have hz6 := own_z hown6
          have hso3 := sort_any w6 ao6 (rs1.length + rs2.length) cp6 (rs1 ++ rs2) hL6 (by omega) (fun e => (hz6 e).1)
          clear hown6 hg6 hL4 hz4 hbb4 hown5 hlt5 hL6
          go_wp2_with fail
          refine hso3.mono ?_
          rintro e w7 ⟨v7, rs3, rfl, hasc3, hmem3, hown7, hb7⟩
          have hbb7 := bl_step hbb6 hb7
          have HM3 : Hid (rs3.Pairwise ltL ∧ ∀ x, x ∈ rs3 ↔ x ∈ ([] : List Lb)) := by
            refine ⟨hasc3, fun x => ?_⟩
            rw [hmem3 x, List.mem_append, HM1.out x, HM2.out x]
            simp
          have hso4 := sort_any w7 (some ad) 0 cap [] (HL.out.up hbb7) (by omega) (fun e => by cases e)
          clear hso3 hasc3 hmem3 hb7 hbb6 HM1 HM2 hz6
          go_wp2_with fail
          refine hso4.mono ?_
          rintro e w8 ⟨v8, rs4, rfl, hasc4, hmem4, hown8, hb8⟩
          have hbb8 := bl_step hbb7 hb8
          obtain rfl : rs3 = rs4 := asc_eq HM3.out.1 hasc4 (fun x => (HM3.out.2 x).trans (hmem4 x).symm)
          obtain ⟨ao7, cp7, rfl, hL7⟩ := LR.own (own_below hown7 hb8)
          obtain ⟨ao8, cp8, rfl, hL8⟩ := LR.own hown8
          have hsm := same_any w8 ao7 rs3.length cp7 rs3 hL7 ao8 rs3.length cp8 rs3 hL8
          have ht : decide (rs3 = rs3) = true := by simp
          rw [ht] at hsm
          clear hso4 hasc4 hmem4 hown7 hown8 hL7 hL8 hb8 ht hbb7
          go_wp2_with fail
          refine hsm.mono ?_
          rintro e w9 ⟨rfl, hu9⟩
          have hbb9 := bl_step hbb8 hu9.bl
          have hbe := behind_any w9 none 0 0 [] (LR.none0 _) (fun _ => ⟨rfl, rfl⟩) (by simp) (some ad) 0 cap [] (HL.out.up hbb9) (fun e => by cases e) hok (by omega) (by omega)
          clear hsm hu9 hbb8
          go_wp2_with fail
          refine hbe.mono ?_
          rintro e w10 ⟨v10, rs5, rfl, hasc5, hmem5, hown10, hb10⟩
          have hbb10 := bl_step hbb9 hb10
          have hout : out [] rs5 = rs5 := out_none (by simp)
          rw [hout, Nat.zero_add, List.nil_append] at hown10
          have hso6 := sort_any w10 (some ad) 0 cap [] (HL.out.up hbb10) (by omega) (fun e => by cases e)
          have HM5 : Hid (rs5.Pairwise ltL ∧ ∀ x, x ∈ rs5 ↔ x ∈ ([] : List Lb)) := ⟨hasc5, hmem5⟩
          clear hbe hasc5 hmem5 hb10 hbb9 hout
          go_wp2_with fail
          refine hso6.mono ?_
          rintro e w11 ⟨v11, rs6, rfl, hasc6, hmem6, hown11, hb11⟩
          have hbb11 := bl_step hbb10 hb11
          obtain rfl : rs5 = rs6 := asc_eq HM5.out.1 hasc6 (fun x => (HM5.out.2 x).trans (hmem6 x).symm)
          obtain ⟨ao10, cp10, rfl, hL10⟩ := LR.own (own_below hown10 hb11)
          obtain ⟨ao11, cp11, rfl, hL11⟩ := LR.own hown11
          have hsm2 := same_any w11 ao10 rs5.length cp10 rs5 hL10 ao11 rs5.length cp11 rs5 hL11
          have ht : decide (rs5 = rs5) = true := by simp
          rw [ht] at hsm2
          clear hso6 hasc6 hmem6 hown10 hown11 hL10 hL11 hb11 ht hbb10
          go_wp2_with fail
          refine hsm2.mono ?_
          rintro e w12 ⟨rfl, hu12⟩
          have hbb12 := bl_step hbb11 hu12.bl
          have hso7 := sort_any w12 none 0 0 [] (LR.none0 _) (by omega) (fun _ => rfl)
          clear hsm2 hu12 hbb11
          go_wp2_with fail
          refine hso7.mono ?_
          rintro e w13 ⟨v13, rs7, rfl, hasc7, hmem7, hown13, hb13⟩
          have hbb13 := bl_step hbb12 hb13
          obtain rfl : rs7 = [] := List.eq_nil_iff_forall_not_mem.2 (fun x hx => by simpa using (hmem7 x).1 hx)
          obtain ⟨ao13, cp13, rfl, _⟩ := LR.own hown13
          clear hso7 hasc7 hmem7 hown13 hb13 hbb12 HM3 HM5
          go_wp2
          go_ret
          exact ⟨rfl, hbb13⟩

        · obtain ⟨b, off, hao, _⟩ := HL.out.2.2 (by omega)
          obtain rfl : ad = ⟨b, off, none⟩ := by simpa using hao
          clear hao
          have hc0 : ¬ (cap = 0) := by omega
          clear hz
          go_enter Try.func8, Try.ntmps8
          go_wp2_with fail
          refine (haw _).mono ?_
          rintro e w1 ⟨rfl, hb1⟩
          clear haw
          have hso1 := sort_any w1 (some ⟨b, off + k * 4, none⟩) (n - k) (cap - k) (ls.drop k) (LR.drop (HL.out.up hb1) hk) (by omega) (fun e => by cases e)
          go_wp2_with fail
          refine hso1.mono ?_
          rintro e w2 ⟨v2, rs1, rfl, hasc1, hmem1, hown2, hb2⟩
          have hbb2 := bl_step hb1 hb2
          have hrl1 : rs1.length ≤ n := by
            have := nodup_len (asc_nodup hasc1) (fun x hx => (hmem1 x).1 hx)
            try simp at this
            first | omega | simp [this]
          have HM1 : Hid (∀ x, x ∈ rs1 ↔ x ∈ ((ls.drop k) : List Lb)) := hmem1
          obtain ⟨ao2, cp2, rfl, hL2⟩ := LR.own hown2
          have hz2 := own_z hown2
          clear hso1 hmem1 hasc1 hown2 hb2 hb1
          go_wp2_with (at_builtin; refine wpList_append_LR rfl _ _ rfl w.heap.size _ 0 [] rfl ?d1 ao2 rs1.length cp2 rs1 rfl ?d2 hz2 ?d3 ?d4 ?_)
          case d1 => exact World.ownsRow_nil _ _ _ _
          case d2 => exact hL2
          case d3 => omega
          case d4 => exact hbb2.size
          intro v3 w3 hown3 hg3
          have hbb3 : Below w.heap.size w w3 := bl_grown hbb2 hbb2.size hg3 (fun k hk => by simp [Value.ownBlock] at hk)
          have hown3' : w3.ownsRow w.heap.size 26 4 v3 rs1.length (flat rs1) := by simpa using hown3
          have hso2 := sort_any w3 (some ⟨b, off, none⟩) k cap (ls.take k) ((HL.out.up hbb3).take hk) (by omega) (fun e => by cases e)
          clear hown3 hg3 hL2 hz2 hbb2
          go_wp2_with fail
          refine hso2.mono ?_
          rintro e w4 ⟨v4, rs2, rfl, hasc2, hmem2, hown4, hb4⟩
          have hbb4 := bl_step hbb3 hb4
          have hrl2 : rs2.length ≤ n := by
            have := nodup_len (asc_nodup hasc2) (fun x hx => (hmem2 x).1 hx)
            try simp at this
            first | omega | simp [this]
          have HM2 : Hid (∀ x, x ∈ rs2 ↔ x ∈ ((ls.take k) : List Lb)) := hmem2
          obtain ⟨ao4, cp4, rfl, hL4⟩ := LR.own hown4
          have hz4 := own_z hown4
          have hown5 := own_below hown3' hb4
          obtain ⟨ao5, cp5, rfl, _⟩ := LR.own hown5
          have hlt5 : ∀ g, (Value.slice ao5 rs1.length cp5).ownBlock = some g → w.heap.size ≤ g := fun g hg => (hown5.lt g hg).1
          clear hso2 hmem2 hasc2 hown4 hb4 hbb3 hown3'
          go_wp2_with (at_builtin; refine wpList_append_LR rfl _ _ rfl w.heap.size _ rs1.length rs1 rfl ?d1 ao4 rs2.length cp4 rs2 rfl ?d2 hz4 ?d3 ?d4 ?_)
          case d1 => exact hown5
          case d2 => exact hL4
          case d3 => omega
          case d4 => exact hbb4.size
          intro v6 w6 hown6 hg6
          have hbb6 : Below w.heap.size w w6 := bl_grown hbb4 hbb4.size hg6 hlt5
          obtain ⟨ao6, cp6, rfl, hL6⟩ := LR.own hown6
          have hz6 := own_z hown6
          have hso3 := sort_any w6 ao6 (rs1.length + rs2.length) cp6 (rs1 ++ rs2) hL6 (by omega) (fun e => (hz6 e).1)
          clear hown6 hg6 hL4 hz4 hbb4 hown5 hlt5 hL6
          go_wp2_with fail
          refine hso3.mono ?_
          rintro e w7 ⟨v7, rs3, rfl, hasc3, hmem3, hown7, hb7⟩
          have hbb7 := bl_step hbb6 hb7
          have HM3 : Hid (rs3.Pairwise ltL ∧ ∀ x, x ∈ rs3 ↔ x ∈ (ls : List Lb)) := by
            refine ⟨hasc3, fun x => ?_⟩
            rw [hmem3 x, List.mem_append, HM1.out x, HM2.out x]
            constructor
            · rintro (a | a)
              · exact List.mem_of_mem_drop a
              · exact List.mem_of_mem_take a
            · intro a
              rw [← List.take_append_drop k ls, List.mem_append] at a
              exact a.symm
          have hso4 := sort_any w7 (some ⟨b, off, none⟩) n cap ls (HL.out.up hbb7) (by omega) (fun e => by cases e)
          clear hso3 hasc3 hmem3 hb7 hbb6 HM1 HM2 hz6
          go_wp2_with fail
          refine hso4.mono ?_
          rintro e w8 ⟨v8, rs4, rfl, hasc4, hmem4, hown8, hb8⟩
          have hbb8 := bl_step hbb7 hb8
          obtain rfl : rs3 = rs4 := asc_eq HM3.out.1 hasc4 (fun x => (HM3.out.2 x).trans (hmem4 x).symm)
          obtain ⟨ao7, cp7, rfl, hL7⟩ := LR.own (own_below hown7 hb8)
          obtain ⟨ao8, cp8, rfl, hL8⟩ := LR.own hown8
          have hsm := same_any w8 ao7 rs3.length cp7 rs3 hL7 ao8 rs3.length cp8 rs3 hL8
          have ht : decide (rs3 = rs3) = true := by simp
          rw [ht] at hsm
          clear hso4 hasc4 hmem4 hown7 hown8 hL7 hL8 hb8 ht hbb7
          go_wp2_with fail
          refine hsm.mono ?_
          rintro e w9 ⟨rfl, hu9⟩
          have hbb9 := bl_step hbb8 hu9.bl
          have hbe := behind_any w9 none 0 0 [] (LR.none0 _) (fun _ => ⟨rfl, rfl⟩) (by simp) (some ⟨b, off, none⟩) n cap ls (HL.out.up hbb9) (fun e => by cases e) hok (by omega) (by omega)
          clear hsm hu9 hbb8
          go_wp2_with fail
          refine hbe.mono ?_
          rintro e w10 ⟨v10, rs5, rfl, hasc5, hmem5, hown10, hb10⟩
          have hbb10 := bl_step hbb9 hb10
          have hout : out [] rs5 = rs5 := out_none (by simp)
          rw [hout, Nat.zero_add, List.nil_append] at hown10
          have hso6 := sort_any w10 (some ⟨b, off, none⟩) n cap ls (HL.out.up hbb10) (by omega) (fun e => by cases e)
          have HM5 : Hid (rs5.Pairwise ltL ∧ ∀ x, x ∈ rs5 ↔ x ∈ (ls : List Lb)) := ⟨hasc5, hmem5⟩
          clear hbe hasc5 hmem5 hb10 hbb9 hout
          go_wp2_with fail
          refine hso6.mono ?_
          rintro e w11 ⟨v11, rs6, rfl, hasc6, hmem6, hown11, hb11⟩
          have hbb11 := bl_step hbb10 hb11
          obtain rfl : rs5 = rs6 := asc_eq HM5.out.1 hasc6 (fun x => (HM5.out.2 x).trans (hmem6 x).symm)
          obtain ⟨ao10, cp10, rfl, hL10⟩ := LR.own (own_below hown10 hb11)
          obtain ⟨ao11, cp11, rfl, hL11⟩ := LR.own hown11
          have hsm2 := same_any w11 ao10 rs5.length cp10 rs5 hL10 ao11 rs5.length cp11 rs5 hL11
          have ht : decide (rs5 = rs5) = true := by simp
          rw [ht] at hsm2
          clear hso6 hasc6 hmem6 hown10 hown11 hL10 hL11 hb11 ht hbb10
          go_wp2_with fail
          refine hsm2.mono ?_
          rintro e w12 ⟨rfl, hu12⟩
          have hbb12 := bl_step hbb11 hu12.bl
          have hso7 := sort_any w12 none 0 0 [] (LR.none0 _) (by omega) (fun _ => rfl)
          clear hsm2 hu12 hbb11
          go_wp2_with fail
          refine hso7.mono ?_
          rintro e w13 ⟨v13, rs7, rfl, hasc7, hmem7, hown13, hb13⟩
          have hbb13 := bl_step hbb12 hb13
          obtain rfl : rs7 = [] := List.eq_nil_iff_forall_not_mem.2 (fun x hx => by simpa using (hmem7 x).1 hx)
          obtain ⟨ao13, cp13, rfl, _⟩ := LR.own hown13
          clear hso7 hasc7 hmem7 hown13 hb13 hbb12 HM3 HM5
          go_wp2
          go_ret
          exact ⟨rfl, hbb13⟩

  · have hbI : (100 : Int) < (n : Int) := by omega
    go_enter Try.func8, Try.ntmps8
    go_wp2_with fail
    refine (haw _).mono ?_
    rintro e w1 ⟨rfl, hb1⟩
    go_wp2_with fail
    refine (haw _).mono ?_
    rintro e w2 ⟨rfl, hb2⟩
    have hb := bl_step hb1 hb2
    clear haw hb1 hb2
    go_wp2
    go_ret
    exact ⟨rfl, hb⟩

set_option maxRecDepth 100000 in
theorem lifted (os : Os) (started : os.Started) (H : Type) (enc : TypeId × Value → H) :
    ReturnsInHanded {} Try.checked os 8 .any (Rows.labelPartsSpec.pre6 enc Try.prog Try.f8 Rows.labelPartsRow.domain false) (Rows.labelPartsSpec.post enc Try.prog Try.f8 false true false false) := by
  refine returnsInHanded_of_change (C := Try.checked) own started (by kernel_rfl) Try.func8
    (ChangeSpec.witness6 (enc := enc) (C := Try.checked) false ⟨#[], #[.slice none 0 0, .int .u8 0], []⟩ 8 (by kernel_rfl) (by kernel_rfl) (by kernel_rfl) (by kernel_rfl)) ?_
  intro W base args ds gs before hval0 hW hcnd _
  have hval : ∀ (j : Nat) t v, Try.f8.params[j]? = some t → args[j]? = some v → Value.okWide Try.prog W .any base t v := hval0
  have hW' := hW
  obtain ⟨p, q, hA0, hV, rfl, hfz, hnd⟩ := hW
  have hA : DataW.TrodAll enc Try.prog W 0 (fun _ => true) true Try.f8.params.toList args.toList ds p := hA0
  rw [Try.params8] at hA hval
  obtain ⟨v0, vs0, d0, ds0, p0, q0, hargs0, rfl, rfl, h0, r0⟩ := trodAll_cons hA
  obtain ⟨v1, vs1, d1, ds1, p1, q1, hargs1, rfl, rfl, h1, r1⟩ := trodAll_cons r0
  obtain ⟨rfl, rfl, rfl⟩ := trodAll_nil r1
  obtain rfl : args = #[v0, v1] := by cases args; simp_all
  obtain ⟨rfl, rfl⟩ := trodVars_none hV
  obtain ⟨a0, len0, cap0, rfl⟩ := okWide_slice Try.underlying32 (hval 0 32 v0 rfl rfl)
  have k0 := h0
  have lt0 : ∀ x ∈ p0, x.block < W.heap.size := by obtain ⟨m, hm⟩ := k0; exact DataW.trod_lt m _ _ _ hm
  obtain ⟨xs0, hx0, ho0, hz0, hc0, hd0⟩ := open_labels h0
  obtain ⟨a1, rfl, rfl, rfl, w1⟩ := open_int Try.underlying5 (hval 1 5 v1 rfl rfl) h1
  clear hA0 hval0
  obtain ⟨n1, rfl, hn1⟩ := u8_of_wf w1
  refine (walk W a0 len0 cap0 xs0 hx0 ho0 hz0 hc0 hd0 n1 hn1).mono fun e W' ⟨he, bel⟩ => ?_
  subst he
  exact ⟨_, rfl, _, _, _, [], _, [], hW', trodAll_mk1 (shut_bool Try.underlying4 _), (trodAll_cons_mk (Below.trod laidOut (by kernel_rfl) (of_decide_eq_true (by kernel_rfl)) k0 bel lt0) (trodAll_cons_mk (shut_int Try.underlying5 w1) trodAll_mk0)), rfl, bel.frame _, fun h => by cases h⟩

theorem over : Rows.labelPartsRow.holds Try.pinned (OpenSpec.ofChange Rows.labelPartsSpec) :=
  OpenClaim.holds_of_wide 8 Try.f8 rfl rfl rfl rfl rfl rfl rfl ⟨rfl, rfl, rfl, rfl, rfl⟩ rfl rfl rfl rfl rfl (by kernel_rfl) Try.func8 (by kernel_rfl)
    (of_decide_eq_true (by kernel_rfl)) (by unfold Func.isWrapper; first | (rw [if_pos (by decide +kernel)]; kernel_rfl) | (rw [if_neg (by decide +kernel)]; exact ⟨rfl, rfl⟩))
    (fun os started H enc _ => lifted os started H enc)

end Go.Proofs.Ytdnhhbpnefhjlaa.labelParts
namespace Go.Proofs.Ytdnhhbpnefhjlaa
theorem labelParts_holds : Rows.LabelPartsSaid := labelParts.over
#print axioms labelParts_holds
end Go.Proofs.Ytdnhhbpnefhjlaa
