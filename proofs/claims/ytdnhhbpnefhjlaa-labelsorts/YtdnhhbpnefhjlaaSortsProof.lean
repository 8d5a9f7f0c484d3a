/-
  Proved: for every list of labels l, LabelSorts(l) returns true: its labels are told rising, each once, and it is told whether one is there twice; the document's example holds. No condition.
-/
import Derived.Test.YtdnhhbpnefhjlaaLArgs
namespace Go.Proofs.Ytdnhhbpnefhjlaa.labelSorts
open Go.ChangeShapes Go.WideShapes Go.ChangeAt Go.RowKit Go.Sort
open Go.ChangeMaps (open_string shut_string)
set_option linter.unusedVariables false

set_option maxRecDepth 10000 in
set_option maxHeartbeats 2000000 in
theorem walk (w : World) (a : Option Addr) (n cap : Nat) (ls : List Lb) (h : LR w a n ls) (hok : ∀ x ∈ ls, OkL x) (hz : a = none → n = 0 ∧ cap = 0) (hnc : n ≤ cap) (hcm : cap ≤ 9223372036854775807) :
    Calls Try.prog 4 #[.slice a n cap] w fun e w' => e = .returned (.bool true) ∧ Below w.heap.size w w' := by
  have haw := fun W => awake_any W
  have hl := h.1
  have HL : Hid (LR w a n ls) := h
  clear h hok
  by_cases hbig : n ≤ 200
  · have hbI : ¬ ((200 : Int) < (n : Int)) := by omega
    go_enter Try.func4, Try.ntmps4
    go_wp2_with fail
    refine (haw _).mono ?_
    rintro e w1 ⟨rfl, hb1⟩
    clear haw
    have H0 : Hid (false = decide (¬ (ls.take 0).Nodup)) := by show _ = _; simp
    go_wp2_with fail
    go_loopw [3, 4] (fun tv iv wr => ∃ i : Nat, iv = .int .i64 i ∧ i ≤ n ∧ tv = .bool (decide (¬ (ls.take i).Nodup)) ∧ Below w.heap.size w wr) (fun _ iv _ => n - (intOf iv).toNat)
    case atStart => exact ⟨0, rfl, by omega, congrArg Value.bool H0.out, hb1⟩
    case round =>
      obtain ⟨i, rfl, hi, rfl, hb⟩ := hrel
      by_cases hlt : i < n
      · have hltI : (i : Int) < (n : Int) := by omega
        have hi0 : ¬ ((i : Int) < 0) := by omega
        have hic : i ≤ cap := by omega
        have hc0 : ¬ (cap = 0) := by omega
        obtain ⟨x, hx⟩ : ∃ y, ls[i]? = some y := ⟨ls[i]'(by omega), List.getElem?_eq_getElem (by omega)⟩
        have HST : Hid (decide (¬ (ls.take (i + 1)).Nodup) = (decide (¬ (ls.take i).Nodup) || decide (x ∈ ls.take i))) := nodup_step hx
        obtain ⟨b, off, hao, hc⟩ := (HL.out.up hb).2.2 (by omega)
        have t0 : Ce ⟨b, off + i * 4, none⟩ x wr := hc i x hx
        have hin := in_any wr.drew a i cap (ls.take i) ((HL.out.up hb).take (by omega)) x
        unfold lab at hin
        subst hao
        clear hc hx
        generalize decide (x ∈ ls.take i) = bx at *
        cases hd : decide (¬ (ls.take i).Nodup) with
        | true =>
          have HT : Hid (true = decide (¬ (ls.take (i + 1)).Nodup)) := by show _ = _; rw [HST.out, hd]; rfl
          clear HST
          generalize decide (¬ (ls.take i).Nodup) = dd at *
          subst hd
          go_wp2_with fail
          refine wp_region_noPanic ?_
          refine wp_region_held_drew (S := fun wx => Ce ⟨b, off + i * 4, none⟩ x wx) (by kernel_rfl) t0 (fun hHeld => ?_)
          refine take_first 0 (v := ?_) rfl (by kernel_rfl) (by kernel_rfl) (by kernel_rfl) (fun _ _ _ h => h) (Or.inl ⟨by rfl, by intro wx hSw; obtain ⟨hSw⟩ := hSw; go_simp; try with_reducible rfl⟩) (by assumption) ?_
          (try simp only [Act.put, List.setIfInBounds_toArray, List.set_cons_zero, List.set_cons_succ])
          refine take_first 1 (v := ?_) rfl (by kernel_rfl) (by kernel_rfl) (by kernel_rfl) (fun _ _ _ h => h) (Or.inl ⟨by rfl, by intro wx hSw; obtain ⟨hSw⟩ := hSw; go_simp; try with_reducible rfl⟩) (by assumption) ?_
          (try simp only [Act.put, List.setIfInBounds_toArray, List.set_cons_zero, List.set_cons_succ])
          refine take_first 2 (v := undef) rfl (by kernel_rfl) (by kernel_rfl) (by kernel_rfl) (fun _ _ _ h => h) (Or.inr ⟨by rfl, rfl⟩) (by assumption) ?_
          (try simp only [Act.put, List.setIfInBounds_toArray, List.set_cons_zero, List.set_cons_succ])
          refine take_first 3 (v := undef) rfl (by kernel_rfl) (by kernel_rfl) (by kernel_rfl) (fun _ _ _ h => h) (Or.inr ⟨by rfl, rfl⟩) (by assumption) ?_
          (try simp only [Act.put, List.setIfInBounds_toArray, List.set_cons_zero, List.set_cons_succ])
          refine take_first 4 (v := undef) rfl (by kernel_rfl) (by kernel_rfl) (by kernel_rfl) (fun _ _ _ h => h) (Or.inr ⟨by rfl, rfl⟩) (by assumption) ?_
          (try simp only [Act.put, List.setIfInBounds_toArray, List.set_cons_zero, List.set_cons_succ])
          refine take_first 5 (v := undef) rfl (by kernel_rfl) (by kernel_rfl) (by kernel_rfl) (fun _ _ _ h => h) (Or.inr ⟨by rfl, rfl⟩) (by assumption) ?_
          (try simp only [Act.put, List.setIfInBounds_toArray, List.set_cons_zero, List.set_cons_succ])
          refine take_first 6 (v := undef) rfl (by kernel_rfl) (by kernel_rfl) (by kernel_rfl) (fun _ _ _ h => h) (Or.inr ⟨by rfl, rfl⟩) (by assumption) ?_
          (try simp only [Act.put, List.setIfInBounds_toArray, List.set_cons_zero, List.set_cons_succ])
          refine take_first 7 (v := undef) rfl (by kernel_rfl) (by kernel_rfl) (by kernel_rfl) (fun _ _ _ h => h) (Or.inr ⟨by rfl, rfl⟩) (by assumption) ?_
          (try simp only [Act.put, List.setIfInBounds_toArray, List.set_cons_zero, List.set_cons_succ])
          refine take_first 8 (v := undef) rfl (by kernel_rfl) (by kernel_rfl) (by kernel_rfl) (fun _ _ _ h => h) (Or.inr ⟨by rfl, rfl⟩) (by assumption) ?_
          (try simp only [Act.put, List.setIfInBounds_toArray, List.set_cons_zero, List.set_cons_succ])
          refine take_first 9 (v := undef) rfl (by kernel_rfl) (by kernel_rfl) (by kernel_rfl) (fun _ _ _ h => h) (Or.inr ⟨by rfl, rfl⟩) (by assumption) ?_
          (try simp only [Act.put, List.setIfInBounds_toArray, List.set_cons_zero, List.set_cons_succ])
          refine take_first 10 (v := ?_) rfl (by kernel_rfl) (by kernel_rfl) (by kernel_rfl) (fun _ _ _ h => h) (Or.inl ⟨by rfl, by intro wx hSw; obtain ⟨hSw⟩ := hSw; go_simp; try with_reducible rfl⟩) (by assumption) ?_
          (try simp only [Act.put, List.setIfInBounds_toArray, List.set_cons_zero, List.set_cons_succ])
          refine take_first 11 (v := ?_) rfl (by kernel_rfl) (by kernel_rfl) (by kernel_rfl) (fun _ _ _ h => h) (Or.inl ⟨by rfl, by intro wx hSw; obtain ⟨hSw⟩ := hSw; go_simp; try with_reducible rfl⟩) (by assumption) ?_
          (try simp only [Act.put, List.setIfInBounds_toArray, List.set_cons_zero, List.set_cons_succ])
          refine wpAnyH_done (by kernel_rfl) ?_ _
          refine NoPanic.normal ?_
          clear t0 hHeld hin
          go_wp2
          go_roundw
          case rel => first | exact ⟨i + 1, by go_num, by omega, congrArg Value.bool HT.out, hb.drew⟩ | ((repeat apply Exists.intro); exact ⟨⟨i + 1, by go_num, by omega, congrArg Value.bool HT.out, hb.drew⟩, rfl⟩)
          case measure => simp [intOf]; omega
        | false =>
          have HT : Hid (bx = decide (¬ (ls.take (i + 1)).Nodup)) := by show _ = _; rw [HST.out, hd]; rfl
          clear HST
          generalize decide (¬ (ls.take i).Nodup) = dd at *
          subst hd
          go_wp2_with fail
          refine wp_region_noPanic ?_
          refine wp_region_held_drew (S := fun wx => Ce ⟨b, off + i * 4, none⟩ x wx) (by kernel_rfl) t0 (fun hHeld => ?_)
          refine take_first 0 (v := ?_) rfl (by kernel_rfl) (by kernel_rfl) (by kernel_rfl) (fun _ _ _ h => h) (Or.inl ⟨by rfl, by intro wx hSw; obtain ⟨a0, a1, a2, a3⟩ := hSw; go_simp; try with_reducible rfl⟩) (by assumption) ?_
          (try simp only [Act.put, List.setIfInBounds_toArray, List.set_cons_zero, List.set_cons_succ])
          refine take_first 1 (v := ?_) rfl (by kernel_rfl) (by kernel_rfl) (by kernel_rfl) (fun _ _ _ h => h) (Or.inl ⟨by rfl, by intro wx hSw; obtain ⟨a0, a1, a2, a3⟩ := hSw; go_simp; try with_reducible rfl⟩) (by assumption) ?_
          (try simp only [Act.put, List.setIfInBounds_toArray, List.set_cons_zero, List.set_cons_succ])
          refine take_first 2 (v := ?_) rfl (by kernel_rfl) (by kernel_rfl) (by kernel_rfl) (fun _ _ _ h => h) (Or.inl ⟨by rfl, by intro wx hSw; obtain ⟨a0, a1, a2, a3⟩ := hSw; go_simp; try with_reducible rfl⟩) (by assumption) ?_
          (try simp only [Act.put, List.setIfInBounds_toArray, List.set_cons_zero, List.set_cons_succ])
          refine take_first 3 (v := ?_) rfl (by kernel_rfl) (by kernel_rfl) (by kernel_rfl) (fun _ _ _ h => h) (Or.inl ⟨by rfl, by intro wx hSw; obtain ⟨a0, a1, a2, a3⟩ := hSw; go_simp; try with_reducible rfl⟩) (by assumption) ?_
          (try simp only [Act.put, List.setIfInBounds_toArray, List.set_cons_zero, List.set_cons_succ])
          refine take_first 4 (v := ?_) rfl (by kernel_rfl) (by kernel_rfl) (by kernel_rfl) (fun _ _ _ h => h) (Or.inl ⟨by rfl, by intro wx hSw; obtain ⟨a0, a1, a2, a3⟩ := hSw; go_simp; try with_reducible rfl⟩) (by assumption) ?_
          (try simp only [Act.put, List.setIfInBounds_toArray, List.set_cons_zero, List.set_cons_succ])
          refine take_first 5 (v := ?_) rfl (by kernel_rfl) (by kernel_rfl) (by kernel_rfl) (fun _ _ _ h => h) (Or.inl ⟨by rfl, by intro wx hSw; obtain ⟨a0, a1, a2, a3⟩ := hSw; go_simp; try with_reducible rfl⟩) (by assumption) ?_
          (try simp only [Act.put, List.setIfInBounds_toArray, List.set_cons_zero, List.set_cons_succ])
          refine take_first 6 (v := ?_) rfl (by kernel_rfl) (by kernel_rfl) (by kernel_rfl) (fun _ _ _ h => h) (Or.inl ⟨by rfl, by intro wx hSw; obtain ⟨a0, a1, a2, a3⟩ := hSw; go_simp; try with_reducible rfl⟩) (by assumption) ?_
          (try simp only [Act.put, List.setIfInBounds_toArray, List.set_cons_zero, List.set_cons_succ])
          refine take_first 7 (v := ?_) rfl (by kernel_rfl) (by kernel_rfl) (by kernel_rfl) (fun _ _ _ h => h) (Or.inl ⟨by rfl, by intro wx hSw; obtain ⟨a0, a1, a2, a3⟩ := hSw; go_simp; try with_reducible rfl⟩) (by assumption) ?_
          (try simp only [Act.put, List.setIfInBounds_toArray, List.set_cons_zero, List.set_cons_succ])
          refine take_first 8 (v := ?_) rfl (by kernel_rfl) (by kernel_rfl) (by kernel_rfl) (fun _ _ _ h => h) (Or.inl ⟨by rfl, by intro wx hSw; obtain ⟨a0, a1, a2, a3⟩ := hSw; go_simp; try with_reducible rfl⟩) (by assumption) ?_
          (try simp only [Act.put, List.setIfInBounds_toArray, List.set_cons_zero, List.set_cons_succ])
          refine comes_up 9 rfl (by kernel_rfl) (fun K hK => ?_)
          go_simp
          refine hin.mono ?_
          rintro e w2 ⟨rfl, hu2⟩
          have t2 : Ce ⟨b, off + i * 4, none⟩ x w2 := ⟨hu2.cell hHeld.1, hu2.cell hHeld.2.1, hu2.cell hHeld.2.2.1, hu2.cell hHeld.2.2.2⟩
          have hb2 : Below w.heap.size w w2 := hb.drew.trans (hu2.bl.mono hb.size)
          clear hin hu2 hHeld t0
          go_wp2_with fail
          refine hK.out _ _ t2 (fun hHeld => ?_)
          clear hK K
          (try simp only [Act.put, List.setIfInBounds_toArray, List.set_cons_zero, List.set_cons_succ])
          refine take_first 10 (v := ?_) rfl (by kernel_rfl) (by kernel_rfl) (by kernel_rfl) (fun _ _ _ h => h) (Or.inl ⟨by rfl, by intro wx hSw; obtain ⟨a0, a1, a2, a3⟩ := hSw; go_simp; try with_reducible rfl⟩) (by assumption) ?_
          (try simp only [Act.put, List.setIfInBounds_toArray, List.set_cons_zero, List.set_cons_succ])
          refine take_first 11 (v := ?_) rfl (by kernel_rfl) (by kernel_rfl) (by kernel_rfl) (fun _ _ _ h => h) (Or.inl ⟨by rfl, by intro wx hSw; obtain ⟨a0, a1, a2, a3⟩ := hSw; go_simp; try with_reducible rfl⟩) (by assumption) ?_
          (try simp only [Act.put, List.setIfInBounds_toArray, List.set_cons_zero, List.set_cons_succ])
          refine wpAnyH_done (by kernel_rfl) ?_ _
          refine NoPanic.normal ?_
          clear t2 hHeld
          go_wp2
          go_roundw
          case rel => first | exact ⟨i + 1, by go_num, by omega, congrArg Value.bool HT.out, hb2⟩ | ((repeat apply Exists.intro); exact ⟨⟨i + 1, by go_num, by omega, congrArg Value.bool HT.out, hb2⟩, rfl⟩)
          case measure => simp [intOf]; omega
      · obtain rfl : i = n := by omega
        have htk : ls.take i = ls := List.take_of_length_le (by omega)
        rw [htk]
        have hso := sort_any wr a i cap ls (HL.out.up hb) (by omega) (fun e => (hz e).1)
        clear htk
        generalize hdd : decide (¬ ls.Nodup) = dd
        have HD : Hid (decide (¬ ls.Nodup) = dd) := hdd
        clear hdd
        go_wp2_with fail
        refine hso.mono ?_
        rintro e w2 ⟨v2, rs, rfl, hasc, hmem, hown2, hb2⟩
        have hbb2 := bl_step hb hb2
        have hrs := refSort_any w2 a i cap ls (HL.out.up hbb2) (by omega)
        clear hso hb2
        go_wp2_with fail
        refine hrs.mono ?_
        rintro e w3 ⟨v3, rs', rfl, hasc', hmem', hown3, hb3⟩
        obtain rfl : rs = rs' := asc_eq hasc hasc' (fun x => (hmem x).trans (hmem' x).symm)
        have hbb3 := bl_step hbb2 hb3
        obtain ⟨ao2, cp2, rfl, hL2⟩ := LR.own (own_below hown2 hb3)
        obtain ⟨ao3, cp3, rfl, hL3⟩ := LR.own hown3
        have hsm := same_any w3 ao2 rs.length cp2 rs hL2 ao3 rs.length cp3 rs hL3
        have ht : decide (rs = rs) = true := by simp
        rw [ht] at hsm
        clear hrs hasc hasc' hmem hmem' hown2 hown3 hL2 hL3 hb3 ht hbb2
        go_wp2_with fail
        refine hsm.mono ?_
        rintro e w4 ⟨rfl, hu4⟩
        have hbb4 := bl_step hbb3 hu4.bl
        have htw := twice_any w4 a i cap ls (HL.out.up hbb4) (by omega) (fun e => (hz e).1)
        rw [HD.out] at htw
        clear hsm hu4 hbb3
        go_wp2_with fail
        refine htw.mono ?_
        rintro e w5 ⟨rfl, hb5⟩
        have hbb5 := bl_step hbb4 hb5
        clear htw hb5 hbb4
        go_wp2
        go_ret
        exact ⟨ret_bool (by simp), hbb5⟩
  · have hbI : (200 : Int) < (n : Int) := by omega
    go_enter Try.func4, Try.ntmps4
    go_wp2_with fail
    refine (haw _).mono ?_
    rintro e w1 ⟨rfl, hb1⟩
    go_wp2_with fail
    refine (haw _).mono ?_
    rintro e w2 ⟨rfl, hb2⟩
    have hb := bl_step hb1 hb2
    clear haw hb1 hb2
    go_wp2
    go_ret
    exact ⟨rfl, hb⟩

set_option maxRecDepth 100000 in
theorem lifted (os : Os) (started : os.Started) (H : Type) (enc : TypeId × Value → H) :
    ReturnsInHanded {} Try.checked os 4 .any (Rows.labelSortsSpec.pre6 enc Try.prog Try.f4 Rows.labelSortsRow.domain false) (Rows.labelSortsSpec.post enc Try.prog Try.f4 false true false false) := by
  refine returnsInHanded_of_change (C := Try.checked) own started (by kernel_rfl) Try.func4
    (ChangeSpec.witness6 (enc := enc) (C := Try.checked) false ⟨#[], #[.slice none 0 0], []⟩ 4 (by kernel_rfl) (by kernel_rfl) (by kernel_rfl) (by kernel_rfl)) ?_
  intro W base args ds gs before hval0 hW hcnd _
  have hval : ∀ (j : Nat) t v, Try.f4.params[j]? = some t → args[j]? = some v → Value.okWide Try.prog W .any base t v := hval0
  have hW' := hW
  obtain ⟨p, q, hA0, hV, rfl, hfz, hnd⟩ := hW
  have hA : DataW.TrodAll enc Try.prog W 0 (fun _ => true) true Try.f4.params.toList args.toList ds p := hA0
  rw [Try.params4] at hA hval
  obtain ⟨v0, vs0, d0, ds0, p0, q0, hargs0, rfl, rfl, h0, r0⟩ := trodAll_cons hA
  obtain ⟨rfl, rfl, rfl⟩ := trodAll_nil r0
  obtain rfl : args = #[v0] := by cases args; simp_all
  obtain ⟨rfl, rfl⟩ := trodVars_none hV
  obtain ⟨a0, len0, cap0, rfl⟩ := okWide_slice Try.underlying32 (hval 0 32 v0 rfl rfl)
  have k0 := h0
  have lt0 : ∀ x ∈ p0, x.block < W.heap.size := by obtain ⟨m, hm⟩ := k0; exact DataW.trod_lt m _ _ _ hm
  obtain ⟨xs0, hx0, ho0, hz0, hc0, hd0⟩ := open_labels h0
  clear hA0 hval0
  refine (walk W a0 len0 cap0 xs0 hx0 ho0 hz0 hc0 hd0).mono fun e W' ⟨he, bel⟩ => ?_
  subst he
  exact ⟨_, rfl, _, _, _, [], _, [], hW', trodAll_mk1 (shut_bool Try.underlying4 _), (trodAll_cons_mk (Below.trod laidOut (by kernel_rfl) (of_decide_eq_true (by kernel_rfl)) k0 bel lt0) trodAll_mk0), rfl, bel.frame _, fun h => by cases h⟩

theorem over : Rows.labelSortsRow.holds Try.pinned (OpenSpec.ofChange Rows.labelSortsSpec) :=
  OpenClaim.holds_of_wide 4 Try.f4 rfl rfl rfl rfl rfl rfl rfl ⟨rfl, rfl, rfl, rfl, rfl⟩ rfl rfl rfl rfl rfl (by kernel_rfl) Try.func4 (by kernel_rfl)
    (of_decide_eq_true (by kernel_rfl)) (by unfold Func.isWrapper; first | (rw [if_pos (by decide +kernel)]; kernel_rfl) | (rw [if_neg (by decide +kernel)]; exact ⟨rfl, rfl⟩))
    (fun os started H enc _ => lifted os started H enc)

end Go.Proofs.Ytdnhhbpnefhjlaa.labelSorts
namespace Go.Proofs.Ytdnhhbpnefhjlaa
theorem labelSorts_holds : Rows.LabelSortsSaid := labelSorts.over
#print axioms labelSorts_holds
end Go.Proofs.Ytdnhhbpnefhjlaa
