/-
  Proved: for all lists of labels order and more, LabelKeeps(order, more) returns true: what is handed in stays as it was, and what is told is memory of its own; the document's example holds. No condition.
-/
import Derived.Test.YtdnhhbpnefhjlaaLSeq
namespace Go.Proofs.Ytdnhhbpnefhjlaa.labelKeeps
open Go.ChangeShapes Go.WideShapes Go.ChangeAt Go.RowKit Go.Sort
open Go.ChangeMaps (open_string shut_string)
set_option linter.unusedVariables false

set_option maxRecDepth 10000 in
set_option maxHeartbeats 2000000 in
theorem walk (w : World) (a : Option Addr) (n cap : Nat) (ls : List Lb) (h : LR w a n ls) (hok : ∀ x ∈ ls, OkL x) (hz : a = none → n = 0 ∧ cap = 0) (hnc : n ≤ cap) (hcm : cap ≤ 9223372036854775807) (hs : n ≤ 140737488355328)
    (b : Option Addr) (m cbp : Nat) (ms : List Lb) (h' : LR w b m ms) (hok' : ∀ x ∈ ms, OkL x) (hz' : b = none → m = 0 ∧ cbp = 0) (hnc' : m ≤ cbp) (hcm' : cbp ≤ 9223372036854775807) (hs' : m ≤ 140737488355328) :
    Calls Try.prog 7 #[.slice a n cap, .slice b m cbp] w fun e w' => e = .returned (.bool true) ∧ Below w.heap.size w w' := by
  have haw := fun W => awake_any W
  have hl := h.1
  have hl' := h'.1
  have HL : Hid (LR w a n ls ∧ (∀ x ∈ ls, OkL x) ∧ (a = none → n = 0 ∧ cap = 0)) := ⟨h, hok, hz⟩
  have HM : Hid (LR w b m ms ∧ (∀ x ∈ ms, OkL x) ∧ (b = none → m = 0 ∧ cbp = 0)) := ⟨h', hok', hz'⟩
  clear h hok hz h' hok' hz'
  by_cases hbig : n + m ≤ 100
  · have hbI : ¬ ((100 : Int) < (n : Int) + (m : Int)) := by omega
    go_enter Try.func7, Try.ntmps7
    go_wp2_with fail
    refine (haw _).mono ?_
    rintro e w1 ⟨rfl, hb1⟩
    clear haw
    have hA1 := HL.out.1.up hb1
    have hzA := HL.out.2.2
    go_wp2_with (at_builtin; refine wpList_append_LR rfl (.tmp 22) (.tmp 23) rfl w.heap.size _ 0 [] rfl ?d1 a n cap ls rfl ?d2 hzA ?d3 ?d4 ?_)
    case d1 => exact World.ownsRow_nil _ _ _ _
    case d2 => exact hA1
    case d3 => omega
    case d4 => exact hb1.size
    intro v2 w2 hown2 hg2
    have hbb2 : Below w.heap.size w w2 := bl_grown hb1 hb1.size hg2 (fun k hk => by simp [Value.ownBlock] at hk)
    have hown2' : w2.ownsRow w.heap.size 26 4 v2 n (flat ls) := by simpa using hown2
    obtain ⟨ao2, cp2, rfl, hL2⟩ := LR.own hown2'
    obtain ⟨hc2, hz2⟩ := own_cap hown2'
    have HZ2 : Hid (ao2 = none → n = 0 ∧ cp2 = 0) := hz2
    have hB2 := HM.out.1.up hbb2
    have hzB := HM.out.2.2
    have HL2 : Hid (LR w2 ao2 n ls) := hL2
    clear hown2 hown2' hg2 hA1 hzA hL2 hz2 hb1
    go_wp2_with (at_builtin; refine wpList_append_LR rfl (.tmp 25) (.tmp 26) rfl w2.heap.size _ 0 [] rfl ?d1 b m cbp ms rfl ?d2 hzB ?d3 ?d4 ?_)
    case d1 => exact World.ownsRow_nil _ _ _ _
    case d2 => exact hB2
    case d3 => omega
    case d4 => exact Nat.le_refl _
    intro v3 w3 hown3 hg3
    have hb3 : Below w2.heap.size w2 w3 := bl_grown (Below.refl _ _) (Nat.le_refl _) hg3 (fun k hk => by simp [Value.ownBlock] at hk)
    have hown3' : w3.ownsRow w2.heap.size 26 4 v3 m (flat ms) := by simpa using hown3
    obtain ⟨ao3, cp3, rfl, hL3⟩ := LR.own hown3'
    obtain ⟨hc3, hz3⟩ := own_cap hown3'
    have hbb3 := bl_step hbb2 hb3
    have HA : Hid (LR w3 ao2 n ls) := HL2.out.up hb3
    have HB : Hid (LR w3 ao3 m ms) := hL3
    have HZ3 : Hid (ao3 = none → m = 0 ∧ cp3 = 0) := hz3
    have hbe := behind_any w3 ao2 n cp2 ls HA.out HZ2.out HL.out.2.1 ao3 m cp3 ms hL3 hz3 HM.out.2.1 (by omega) (by omega)
    clear hown3 hown3' hg3 hB2 hzB hL3 hz3 HL2 hb3 hbb2
    go_wp2_with fail
    refine hbe.mono ?_
    rintro e w4 ⟨v4, rs, rfl, hasc, hmem, hown4, hb4⟩
    have hrl : rs.length ≤ m := by
      have := nodup_len (asc_nodup hasc) (fun x hx => (hmem x).1 hx)
      omega
    have hol := out_le ls rs
    obtain ⟨NX, HNX⟩ : ∃ NX, Hid (n + (out ls rs).length = NX) := ⟨_, rfl⟩
    have hNX : NX ≤ 1000 := by have := HNX.out; omega
    rw [HNX.out] at hown4
    obtain ⟨X, HX⟩ : ∃ X, Hid (ls ++ out ls rs = X) := ⟨_, rfl⟩
    rw [HX.out] at hown4
    have hso := sort_any w4 ao3 m cp3 ms (HB.out.up hb4) (by omega) (fun e => (HZ3.out e).1)
    clear hbe hasc hmem HNX HX hrl hol
    obtain ⟨ao4, cp4, rfl, hL4⟩ := LR.own hown4
    go_wp2_with fail
    refine hso.mono ?_
    rintro e w5 ⟨v5, ys, rfl, hasc, hmem, hown5, hb5⟩
    have hyl : ys.length ≤ m := by
      have := nodup_len (asc_nodup hasc) (fun x hx => (hmem x).1 hx)
      omega
    have hb45 := bl_step hb4 hb5
    have hs34' := hb4.size
    have hownX := own_below hown4 hb5
    have hsep : ∀ g, (Value.slice ao4 NX cp4).ownBlock = some g → w3.heap.size ≤ g ∧ g < w4.heap.size := fun g hg => hown4.lt g hg
    have hsep5 : ∀ g, v5.ownBlock = some g → w4.heap.size ≤ g := fun g hg => (hown5.lt g hg).1
    obtain ⟨ao5, cp5, rfl, hL5⟩ := LR.own hown5
    have HSX : Hid _ := hsep
    have HSY : Hid _ := hsep5
    have HOX : Hid (w5.ownsRow w3.heap.size 26 4 (.slice ao4 NX cp4) NX (flat X)) := hownX
    have HOY : Hid (w5.ownsRow w4.heap.size 26 4 (.slice ao5 ys.length cp5) ys.length (flat ys)) := hown5
    have hsm := same_any w5 ao2 n cp2 ls (HA.out.up hb45) a n cap ls (HL.out.1.up (bl_step hbb3 hb45))
    have ht : decide (ls = ls) = true := by simp
    rw [ht] at hsm
    clear hso hasc hmem hown4 hown5 hownX hsep hsep5 hL4 hL5 hb4 hb5 ht
    go_wp2_with fail
    refine hsm.mono ?_
    rintro e w6 ⟨rfl, hu6⟩
    have hb36 := bl_step hb45 hu6.bl
    have hsm2 := same_any w6 ao3 m cp3 ms (HB.out.up hb36) b m cbp ms (HM.out.1.up (bl_step hbb3 hb36))
    have ht : decide (ms = ms) = true := by simp
    rw [ht] at hsm2
    have HOX6 : Hid (w6.ownsRow w3.heap.size 26 4 (.slice ao4 NX cp4) NX (flat X)) := own_below HOX.out hu6.bl
    have HOY6 : Hid (w6.ownsRow w4.heap.size 26 4 (.slice ao5 ys.length cp5) ys.length (flat ys)) := own_below HOY.out hu6.bl
    clear hsm hu6 ht HOX HOY hb45
    go_wp2_with fail
    refine hsm2.mono ?_
    rintro e w7 ⟨rfl, hu7⟩
    have hb37 := bl_step hb36 hu7.bl
    have HOX7 : Hid (w7.ownsRow w3.heap.size 26 4 (.slice ao4 NX cp4) NX (flat X)) := own_below HOX6.out hu7.bl
    have HOY7 : Hid (w7.ownsRow w4.heap.size 26 4 (.slice ao5 ys.length cp5) ys.length (flat ys)) := own_below HOY6.out hu7.bl
    clear hsm2 hu7 HOX6 HOY6 hb36
    have hXl : X.length = NX := by have := HOX7.out.1; rw [flat_len] at this; omega
    go_wp2_with fail
    go_loopw [9] (fun iv wr => ∃ (i : Nat) (cur : List Lb), iv = .int .i64 i ∧ i ≤ NX ∧ cur.length = NX ∧ wr.ownsRow w3.heap.size 26 4 (.slice ao4 NX cp4) NX (flat cur) ∧ w7.grownBy wr (Value.slice ao4 NX cp4).ownBlock) (fun iv _ => NX - (intOf iv).toNat)
    case atStart => exact ⟨0, X, rfl, by omega, hXl, HOX7.out, gr_refl _ _⟩
    case round =>
      obtain ⟨i, cur, rfl, hi, hcl, hown, hg⟩ := hrel
      by_cases hlt : i < NX
      · have hltI : (i : Int) < (NX : Int) := by omega
        have hi0 : ¬ ((i : Int) < 0) := by omega
        obtain ⟨g, rfl⟩ := own_at hown (by omega)
        obtain ⟨hblk, hbg, hnc4, hcm4⟩ := Blk.ofOwn hown
        obtain ⟨x, hx⟩ : ∃ y, cur[i]? = some y := ⟨cur[i]'(by omega), List.getElem?_eq_getElem (by omega)⟩
        obtain ⟨c0, c1, c2, c3⟩ := hblk.cell hx
        have hfz := hblk.free (i * 4 + 2)
        have HN : Hid (∀ s : Nat, (wr.setCell ⟨g, i * 4 + 2, none⟩ (.int .u64 (s : Nat))).ownsRow w3.heap.size 26 4 (.slice (some ⟨g, 0, none⟩) NX cp4) NX (flat (cur.set i (x.1, x.2.1, s, x.2.2.2))) ∧ w7.grownBy (wr.setCell ⟨g, i * 4 + 2, none⟩ (.int .u64 (s : Nat))) (some g)) := by
          intro s
          have hb2 := hblk.seq hx s
          refine ⟨?_, gr_trans hg (gr_set _ _ _ _)⟩
          have := hb2.own hbg hcm4 NX (by rw [List.length_set]; omega)
          rwa [List.take_of_length_le (by rw [List.length_set]; omega)] at this
        obtain ⟨s', hs'⟩ : ∃ s' : Nat, IntKind.u64.wrap ((x.2.2.1 : Int) + 1) = (s' : Nat) := ⟨(IntKind.u64.wrap ((x.2.2.1 : Int) + 1)).toNat, by simp [IntKind.wrap, IntKind.bits, IntKind.signed]; omega⟩
        obtain ⟨ho2, hg2⟩ := HN.out s'
        have hcl2 : (cur.set i (x.1, x.2.1, s', x.2.2.2)).length = NX := by simpa using hcl
        clear HN hblk hown hg hx c0 c1 c3
        go_wp2
        go_roundw
        case rel => first | exact ⟨i + 1, _, by go_num, by omega, hcl2, ho2, hg2⟩ | ((repeat apply Exists.intro); exact ⟨⟨i + 1, _, by go_num, by omega, hcl2, ho2, hg2⟩, rfl⟩)
        case measure => simp [intOf]; omega
      · have ei : i = NX := by omega
        have hltI : ¬ ((i : Int) < (NX : Int)) := by omega
        have HOY8 : Hid (wr.ownsRow w4.heap.size 26 4 (.slice ao5 ys.length cp5) ys.length (flat ys)) := by
          refine HOY7.out.kept hg ?_
          cases e5 : (Value.slice ao5 ys.length cp5).ownBlock with
          | none => exact Or.inl rfl
          | some g5 =>
            refine Or.inr (fun e4 => ?_)
            have h1 := HSX.out g5 e4.symm
            have h2 := HSY.out g5 e5
            omega
        have hb38 : Below w3.heap.size w3 wr := bl_grown hb37 hb37.size hg (fun g e => (HSX.out g e).1)
        clear hown hg HOX7 HOY7 ei
        generalize hw8 : wr = w8 at HOY8 hb38 ⊢
        clear hw8
        go_wp2_with fail
        go_loopw [10] (fun iv wr => ∃ (j : Nat) (cur : List Lb), iv = .int .i64 j ∧ j ≤ ys.length ∧ cur.length = ys.length ∧ wr.ownsRow w4.heap.size 26 4 (.slice ao5 ys.length cp5) ys.length (flat cur) ∧ w8.grownBy wr (Value.slice ao5 ys.length cp5).ownBlock) (fun iv _ => ys.length - (intOf iv).toNat)
        case atStart => exact ⟨0, ys, rfl, by omega, rfl, HOY8.out, gr_refl _ _⟩
        case round =>
          obtain ⟨j, cur, rfl, hj, hcl, hown, hg⟩ := hrel
          by_cases hlt2 : j < ys.length
          · have hlt2I : (j : Int) < (ys.length : Int) := by omega
            have hj0 : ¬ ((j : Int) < 0) := by omega
            obtain ⟨g, rfl⟩ := own_at hown (by omega)
            obtain ⟨hblk, hbg, hnc4, hcm4⟩ := Blk.ofOwn hown
            obtain ⟨x, hx⟩ : ∃ y, cur[j]? = some y := ⟨cur[j]'(by omega), List.getElem?_eq_getElem (by omega)⟩
            obtain ⟨c0, c1, c2, c3⟩ := hblk.cell hx
            have hfz := hblk.free (j * 4 + 2)
            have HN : Hid (∀ s : Nat, (wr.setCell ⟨g, j * 4 + 2, none⟩ (.int .u64 (s : Nat))).ownsRow w4.heap.size 26 4 (.slice (some ⟨g, 0, none⟩) ys.length cp5) ys.length (flat (cur.set j (x.1, x.2.1, s, x.2.2.2))) ∧ w8.grownBy (wr.setCell ⟨g, j * 4 + 2, none⟩ (.int .u64 (s : Nat))) (some g)) := by
              intro s
              have hb2 := hblk.seq hx s
              refine ⟨?_, gr_trans hg (gr_set _ _ _ _)⟩
              have := hb2.own hbg hcm4 ys.length (by rw [List.length_set]; omega)
              rwa [List.take_of_length_le (by rw [List.length_set]; omega)] at this
            obtain ⟨s', hs'⟩ : ∃ s' : Nat, IntKind.u64.wrap ((x.2.2.1 : Int) + 1) = (s' : Nat) := ⟨(IntKind.u64.wrap ((x.2.2.1 : Int) + 1)).toNat, by simp [IntKind.wrap, IntKind.bits, IntKind.signed]; omega⟩
            obtain ⟨ho2, hg2⟩ := HN.out s'
            have hcl2 : (cur.set j (x.1, x.2.1, s', x.2.2.2)).length = ys.length := by simpa using hcl
            clear HN hblk hown hg hx c0 c1 c3
            go_wp2
            go_roundw
            case rel => first | exact ⟨j + 1, _, by go_num, by omega, hcl2, ho2, hg2⟩ | ((repeat apply Exists.intro); exact ⟨⟨j + 1, _, by go_num, by omega, hcl2, ho2, hg2⟩, rfl⟩)
            case measure => simp [intOf]; omega
          · have hlt2I : ¬ ((j : Int) < (ys.length : Int)) := by omega
            have hs34 : w3.heap.size ≤ w4.heap.size := hs34'
            have hb39 : Below w3.heap.size w3 wr := bl_grown hb38 hb38.size hg (fun g e => by have := HSY.out g e; omega)
            have hsm3 := same_any wr ao2 n cp2 ls (HA.out.up hb39) a n cap ls (HL.out.1.up (bl_step hbb3 hb39))
            have ht : decide (ls = ls) = true := by simp
            rw [ht] at hsm3
            clear hown hg HOY8 hb38 ht
            go_wp2_with fail
            refine hsm3.mono ?_
            rintro e w10 ⟨rfl, hu10⟩
            have hb310 := bl_step hb39 hu10.bl
            have hsm4 := same_any w10 ao3 m cp3 ms (HB.out.up hb310) b m cbp ms (HM.out.1.up (bl_step hbb3 hb310))
            have ht : decide (ms = ms) = true := by simp
            rw [ht] at hsm4
            clear hsm3 hu10 ht hb39
            go_wp2_with fail
            refine hsm4.mono ?_
            rintro e w11 ⟨rfl, hu11⟩
            have hbf := bl_step hbb3 (bl_step hb310 hu11.bl)
            clear hsm4 hu11 hb310
            go_wp2
            go_ret
            exact ⟨rfl, hbf⟩
  · have hbI : (100 : Int) < (n : Int) + (m : Int) := by omega
    go_enter Try.func7, Try.ntmps7
    go_wp2_with fail
    refine (haw _).mono ?_
    rintro e w1 ⟨rfl, hb1⟩
    go_wp2_with fail
    refine (haw _).mono ?_
    rintro e w2 ⟨rfl, hb2⟩
    have hb := bl_step hb1 hb2
    clear haw hb1 hb2
    go_wp2
    go_ret
    exact ⟨rfl, hb⟩

set_option maxRecDepth 100000 in
theorem lifted (os : Os) (started : os.Started) (H : Type) (enc : TypeId × Value → H) :
    ReturnsInHanded {} Try.checked os 7 .any (Rows.labelKeepsSpec.pre6 enc Try.prog Try.f7 Rows.labelKeepsRow.domain false) (Rows.labelKeepsSpec.post enc Try.prog Try.f7 false true false false) := by
  refine returnsInHanded_of_change_sized (C := Try.checked) own started (by kernel_rfl) Try.func7
    (ChangeSpec.witness6 (enc := enc) (C := Try.checked) false ⟨#[], #[.slice none 0 0, .slice none 0 0], []⟩ 7 (by kernel_rfl) (by kernel_rfl) (by kernel_rfl) (by kernel_rfl)) ?_
  intro W base args ds gs before hval0 hW hcnd hsz0 _
  have hsz : (DataW.weightsEach Try.prog (Try.f7.params.toList ++ Rows.labelKeepsSpec.plain.varTypes Try.prog) (ds ++ gs)).all (· ≤ reachBytes) = true := hsz0
  have hval : ∀ (j : Nat) t v, Try.f7.params[j]? = some t → args[j]? = some v → Value.okWide Try.prog W .any base t v := hval0
  have hW' := hW
  obtain ⟨p, q, hA0, hV, rfl, hfz, hnd⟩ := hW
  have hA : DataW.TrodAll enc Try.prog W 0 (fun _ => true) true Try.f7.params.toList args.toList ds p := hA0
  rw [Try.params7] at hA hval hsz
  obtain ⟨v0, vs0, d0, ds0, p0, q0, hargs0, rfl, rfl, h0, r0⟩ := trodAll_cons hA
  obtain ⟨v1, vs1, d1, ds1, p1, q1, hargs1, rfl, rfl, h1, r1⟩ := trodAll_cons r0
  obtain ⟨rfl, rfl, rfl⟩ := trodAll_nil r1
  obtain rfl : args = #[v0, v1] := by cases args; simp_all
  obtain ⟨rfl, rfl⟩ := trodVars_none hV
  obtain ⟨a0, len0, cap0, rfl⟩ := okWide_slice Try.underlying32 (hval 0 32 v0 rfl rfl)
  have k0 := h0
  have lt0 : ∀ x ∈ p0, x.block < W.heap.size := by obtain ⟨m, hm⟩ := k0; exact DataW.trod_lt m _ _ _ hm
  have hs0 := size_labels h0 hsz (j := 0) rfl rfl
  obtain ⟨xs0, hx0, ho0, hz0, hc0, hd0⟩ := open_labels h0
  obtain ⟨a1, len1, cap1, rfl⟩ := okWide_slice Try.underlying32 (hval 1 32 v1 rfl rfl)
  have k1 := h1
  have lt1 : ∀ x ∈ p1, x.block < W.heap.size := by obtain ⟨m, hm⟩ := k1; exact DataW.trod_lt m _ _ _ hm
  have hs1 := size_labels h1 hsz (j := 1) rfl rfl
  obtain ⟨xs1, hx1, ho1, hz1, hc1, hd1⟩ := open_labels h1
  clear hA0 hval0 hsz hsz0
  refine (walk W a0 len0 cap0 xs0 hx0 ho0 hz0 hc0 hd0 hs0 a1 len1 cap1 xs1 hx1 ho1 hz1 hc1 hd1 hs1).mono fun e W' ⟨he, bel⟩ => ?_
  subst he
  exact ⟨_, rfl, _, _, _, [], _, [], hW', trodAll_mk1 (shut_bool Try.underlying4 _), (trodAll_cons_mk (Below.trod laidOut (by kernel_rfl) (of_decide_eq_true (by kernel_rfl)) k0 bel lt0) (trodAll_cons_mk (Below.trod laidOut (by kernel_rfl) (of_decide_eq_true (by kernel_rfl)) k1 bel lt1) trodAll_mk0)), rfl, bel.frame _, fun h => by cases h⟩

theorem over : Rows.labelKeepsRow.holds Try.pinned (OpenSpec.ofChange Rows.labelKeepsSpec) :=
  OpenClaim.holds_of_wide 7 Try.f7 rfl rfl rfl rfl rfl rfl rfl ⟨rfl, rfl, rfl, rfl, rfl⟩ rfl rfl rfl rfl rfl (by kernel_rfl) Try.func7 (by kernel_rfl)
    (of_decide_eq_true (by kernel_rfl)) (by unfold Func.isWrapper; first | (rw [if_pos (by decide +kernel)]; kernel_rfl) | (rw [if_neg (by decide +kernel)]; exact ⟨rfl, rfl⟩))
    (fun os started H enc _ => lifted os started H enc)

end Go.Proofs.Ytdnhhbpnefhjlaa.labelKeeps
namespace Go.Proofs.Ytdnhhbpnefhjlaa
theorem labelKeeps_holds : Rows.LabelKeepsSaid := labelKeeps.over
#print axioms labelKeeps_holds
end Go.Proofs.Ytdnhhbpnefhjlaa
