/-
  slices.Clone and slices.DeleteFunc of states: those of a view.
-/
import Derived.Test.YtlonbbepoamnmaaDoorSLaw
import Derived.Test.YtlonbbepoamnmaaDoorSStab
namespace Go.Proofs.YtlonbbepoamnmaaDoor
open Go.RowKit Go.Sort
set_option linter.unusedVariables false

/-- Those of a view. -/
def out (ls : List Sx) : List Sx := ls.filter (fun x => !decide (x.1 = 0))
theorem out_none {ls : List Sx} (h : ∀ x ∈ ls, ¬ x.1 = 0) : out ls = ls := by
  unfold out
  rw [List.filter_eq_self]
  intro x hx
  simpa using h x hx
theorem out_step {ls : List Sx} {j : Nat} {x : Sx} (h : ls[j]? = some x) : out (ls.take (j + 1)) = out (ls.take j) ++ (if decide (x.1 = 0) then [] else [x]) := by
  unfold out
  rw [List.take_add_one, h, List.filter_append]
  by_cases hx : x.1 = 0 <;> simp [hx]

set_option maxRecDepth 10000 in
set_option maxHeartbeats 1000000 in
theorem clone_any (w : World) (ao : Option Addr) (n cap : Nat) (p : Nat → Prop) (ls : List Sx) (h : SR p w ao n ls) (hn : n ≤ 1000) :
    Calls Tryd.prog 85 #[.slice ao n cap] w fun e w' => ∃ v, e = .returned v ∧ w'.ownsRow w.heap.size 45 4 v n (flat ls) ∧ Below w.heap.size w w' := by
  obtain ⟨i0, hi0, hz0, hz1, hz2⟩ := info_parts infoS
  have q22 := fun (w : World) (a : Option Addr) (n c n' c' : Nat) => Lib.run_eql_slice_nil (P := Tryd.prog) w 36 45 a n c n' c' und22
  have hl := h.1
  cases ao with
  | none =>
    obtain rfl := h.2.2.1 rfl
    obtain rfl : ls = [] := List.length_eq_zero_iff.1 hl
    go_enter Tryd.func85, Tryd.ntmps85
    go_wp2
    go_ret
    exact ⟨_, rfl, ⟨rfl, .inl ⟨rfl, rfl⟩⟩, Below.refl _ _⟩
  | some ad =>
    have hA : Hid (∀ j u, (flat ls)[j]? = some u → w.cell? (ad.add j) = some u) := h.cells
    have HF : Hid ((flat ls).length = n * 4) := by show _ = _; rw [flat_len, hl]
    clear h
    go_enter Tryd.func85, Tryd.ntmps85
    go_wp2_with (at_builtin; refine wpList_append_own_at _ rfl _ _ 36 rfl w.heap.size 45 i0 (.agg #[.int .u64 0, .int .i64 0, .int .i64 0, .slice none 0 0]) 4 48 und22 hi0 hz0 hz1 hz2 rfl (by decide) _ 0 [] rfl ?d1 ad n cap (flat ls) rfl ?d2 ?d3 ?d4 ?d6 ?d7 ?d8 ?_)
    case d1 => exact World.ownsRow_made w #[] 0 (Nat.le_refl _) (Nat.zero_le _) (by simp)
    case d2 => exact HF.out
    case d3 => exact fun j u hj => ((bl1 w _).cell (World.block_lt_of_cell? w _ (hA.out j u hj))).trans (hA.out j u hj)
    case d4 => exact fun u hu => flat_one hu
    case d6 => unfold maxLen; omega
    case d7 => omega
    case d8 => simp
    intro v' w1 hown hgrow hnil hat
    have HE : Hid (w1.ownsRow w.heap.size 45 4 v' n (flat ls) ∧ Below w.heap.size w w1) := ⟨by simpa using hown, bl_grown (bl1 w _) (by simp) hgrow (by intro k hk; simp [Value.ownBlock] at hk; omega)⟩
    clear hown hgrow hnil hat
    go_wp2
    go_ret
    exact ⟨v', rfl, HE.out⟩

set_option maxRecDepth 10000 in
set_option maxHeartbeats 2000000 in
theorem deleteFunc_some (w : World) (g n cap base : Nat) (ls : List Sx) (hown : w.ownsRow base 45 4 (.slice (some ⟨g, 0, none⟩) n cap) n (flat ls)) :
    Calls Tryd.prog 88 #[.slice (some ⟨g, 0, none⟩) n cap, .func (.func 89) #[] #[]] w fun e w' => ∃ v', e = .returned v' ∧ w'.ownsRow base 45 4 v' (out ls).length (flat (out ls)) ∧ w.grownBy w' (some g) := by
  obtain ⟨ao, cap', hv, hLR, _⟩ := SR.own hown
  simp only [Value.slice.injEq] at hv
  obtain ⟨rfl, _, rfl⟩ := hv
  have hl := hLR.1
  have hmax := hLR.2.1
  obtain ⟨hblk, hbg, hnc, hcm⟩ := Blk.ofOwn hown
  have hix := index_none _ w (some ⟨g, 0, none⟩) n cap ls hLR
  have HOWN : Hid (w.ownsRow base 45 4 (.slice (some ⟨g, 0, none⟩) n cap) n (flat ls)) := hown
  have HBLK : Hid (Blk w g cap ls) := hblk
  clear hown hblk hLR
  have hwide : cap ≤ 9223372036854775807 := by unfold maxLen at hcm; omega
  go_enter Tryd.func88, Tryd.ntmps88
  go_wp2_with fail
  refine hix.mono ?_
  rintro e w1 ⟨⟨rfl, hno⟩ | ⟨i0, y0, hi0, rfl, hno, hy0, hin0⟩, hu1⟩
  · have HE : Hid (w1.ownsRow base 45 4 (.slice (some ⟨g, 0, none⟩) n cap) (out ls).length (flat (out ls)) ∧ w.grownBy w1 (some g)) := by
      refine ⟨?_, gr_below hu1.bl _⟩
      rw [out_none hno, hl]
      exact (HBLK.out.up hu1.bl).own hbg hcm n (by omega) |> fun h => by rwa [List.take_of_length_le (by omega)] at h
    clear hix hno
    go_wp2
    go_ret
    exact ⟨_, rfl, HE.out⟩
  · have H0 : Hid (ls.take i0 = out (ls.take (i0 + 1))) := by
      show _ = _
      rw [out_step hy0, out_none hno]
      simp [hin0]
    have hnm1 : ((i0 : Int) == -1) = false := by simp
    clear hno hix hin0 hy0
    have hb1 := HBLK.out.up hu1.bl
    go_wp2_with fail
    go_loopw [5, 6, 7] (fun iv jv _ wr => ∃ (i j : Nat) (cur : List Sx), iv = .int .i64 i ∧ jv = .int .i64 j ∧ i < j ∧ j ≤ n ∧ Blk wr g cap cur ∧ cur.length = n ∧ cur.take i = out (ls.take j) ∧ cur.drop j = ls.drop j ∧ w.grownBy wr (some g)) (fun _ jv _ _ => n - (intOf jv).toNat)
    case atStart => exact ⟨i0, i0 + 1, ls, rfl, by go_num, by omega, by omega, hb1, hl, H0.out, rfl, gr_below hu1.bl _⟩
    case round =>
      obtain ⟨i, j, cur, rfl, rfl, hij, hj, hblk, hcl, htk, hdr, hgr⟩ := hrel
      have HTK : Hid (cur.take i = out (ls.take j)) := htk
      have HDR : Hid (cur.drop j = ls.drop j) := hdr
      clear htk hdr
      by_cases hlt : j < n
      · have hltI : (j : Int) < (n : Int) := by omega
        obtain ⟨x, hx⟩ : ∃ y, ls[j]? = some y := ⟨ls[j]'(by omega), List.getElem?_eq_getElem (by omega)⟩
        have hx' : cur[j]? = some x := by
          have h1 : (cur.drop j)[0]? = (ls.drop j)[0]? := by rw [HDR.out]
          simpa [hx] using h1
        obtain ⟨c0, c1, c2, c3⟩ := hblk.cell hx'
        have HX : Hid (ls[j]? = some x) := hx
        have ua : Up wr (wr.alloc (.cells #[.int .u64 (x.1 : Nat), .int .i64 x.2.1, .int .i64 x.2.2.1, .slice x.2.2.2.1 x.2.2.2.2.1 x.2.2.2.2.2] 45)) := (Up.refl _).alloc _
        have hclo := none1_any (wr.alloc (.cells #[.int .u64 (x.1 : Nat), .int .i64 x.2.1, .int .i64 x.2.2.1, .slice x.2.2.2.1 x.2.2.2.2.1 x.2.2.2.2.2] 45)) x
        unfold sta at hclo
        have HDR' : Hid (cur.drop (j + 1) = ls.drop (j + 1)) := by
          show _ = _
          rw [← List.drop_drop, ← List.drop_drop, HDR.out]
        have HST : Hid (out (ls.take (j + 1)) = out (ls.take j) ++ (if decide (x.1 = 0) then [] else [x])) := out_step hx
        clear hx hx'
        have hj0 : ¬ ((j : Int) < 0) := by omega
        have hi0' : ¬ ((i : Int) < 0) := by omega
        have hin' : (i : Int) < (n : Int) := by omega
        cases hd : decide (x.1 = 0) with
        | true =>
          rw [hd] at hclo HST
          clear hd
          go_wp2_with fail
          refine hclo.mono ?_
          rintro e w2 ⟨rfl, hu2⟩
          have hu3 := ua.trans hu2
          have hb3 := hblk.up hu3.bl
          have hg3 := gr_trans hgr (gr_below hu3.bl _)
          have HT : Hid (cur.take i = out (ls.take (j + 1))) := by
            show _ = _
            rw [HST.out, HTK.out]; simp
          clear hclo ua c0 c1 c2 c3 hu2 hu3 hblk hgr HST HTK
          go_wp2
          go_roundw
          case rel => first | exact ⟨i, j + 1, cur, rfl, by go_num, by omega, by omega, hb3, hcl, HT.out, HDR'.out, hg3⟩ | ((repeat apply Exists.intro); exact ⟨⟨i, j + 1, cur, rfl, by go_num, by omega, by omega, hb3, hcl, HT.out, HDR'.out, hg3⟩, rfl⟩)
          case measure => simp [intOf]; omega
        | false =>
          rw [hd] at hclo HST
          clear hd
          go_wp2_with fail
          refine hclo.mono ?_
          rintro e w2 ⟨rfl, hu2⟩
          have hu3 := ua.trans hu2
          have hb3 := hblk.up hu3.bl
          have hg3 := gr_trans hgr (gr_below hu3.bl _)
          obtain ⟨w4, hst, hb4, hg4⟩ := hb3.set (i := i) (by omega) x
          have hg5 := gr_trans hg3 hg4
          have hbx := (bs_new wr x 45).up hu2
          obtain ⟨d0, d1, d2, d3⟩ := hbx
          have HT : Hid ((cur.set i x).take (i + 1) = out (ls.take (j + 1))) := by
            show _ = _
            rw [HST.out, ← HTK.out, List.take_add_one]
            have : (cur.set i x)[i]? = some x := by rw [List.getElem?_set_self (by omega)]
            rw [this, List.take_set_of_le (Nat.le_refl _)]
            simp
          have HD2 : Hid ((cur.set i x).drop (j + 1) = ls.drop (j + 1)) := by
            show _ = _
            rw [List.drop_set_of_lt (by omega)]
            exact HDR'.out
          have hcl2 : (cur.set i x).length = n := by simpa using hcl
          clear hclo ua c0 c1 c2 c3 hu2 hu3 hblk hgr HST HTK hb3 hg3 hg4 HDR'
          go_wp2_with (first | (refine wpList_store_cells rfl 45 (.tmp 33) (.tmp 32) rfl ⟨g, i * 4, none⟩ #[.int .u64 (x.1 : Nat), .int .i64 x.2.1, .int .i64 x.2.2.1, .slice x.2.2.2.1 x.2.2.2.2.1 x.2.2.2.2.2] rfl rfl infoS31 w4 hst ?_))
          go_roundw
          case rel => first | exact ⟨i + 1, j + 1, cur.set i x, by go_num, by go_num, by omega, by omega, hb4, hcl2, HT.out, HD2.out, hg5⟩ | ((repeat apply Exists.intro); exact ⟨⟨i + 1, j + 1, cur.set i x, by go_num, by go_num, by omega, by omega, hb4, hcl2, HT.out, HD2.out, hg5⟩, rfl⟩)
          case measure => simp [intOf]; omega
      · obtain rfl : j = n := by omega
        have e : cur.take i = out ls := by have := HTK.out; rwa [List.take_of_length_le (l := ls) (by omega)] at this
        obtain ⟨w4, hst, hb4, hg4⟩ := hblk.clear (i := i) (n := j - i) (by omega) (by omega) (cap - i) 0
        have hi0' : ¬ ((i : Int) < 0) := by omega
        have hlen : (out ls).length = i := by rw [← e, List.length_take]; omega
        have HE : Hid (w4.ownsRow base 45 4 (.slice (some ⟨g, 0, none⟩) i cap) (out ls).length (flat (out ls)) ∧ w.grownBy w4 (some g)) := by
          refine ⟨?_, gr_trans hgr hg4⟩
          have := hb4.own hbg hcm i (by rw [List.length_take]; omega)
          rw [e, List.take_of_length_le (by omega)] at this
          rw [hlen]; exact this
        clear hblk hgr hg4 hb4 HTK HDR hlen
        go_wp2
        go_ret
        exact ⟨_, rfl, HE.out⟩

theorem deleteFunc_none (w : World) : Calls Tryd.prog 88 #[.slice none 0 0, .func (.func 89) #[] #[]] w fun e w' => e = .returned (.slice none 0 0) ∧ Up w w' := by
  have hix := index_none (fun _ => True) w none 0 0 [] ⟨rfl, by omega, fun _ => rfl, fun h => by omega⟩
  go_enter Tryd.func88, Tryd.ntmps88
  go_wp2_with fail
  refine hix.mono ?_
  rintro e w1 ⟨⟨rfl, _⟩ | ⟨i0, y0, hi0, _⟩, hu1⟩
  · clear hix
    go_wp2
    go_ret
    exact ⟨rfl, hu1⟩
  · omega
theorem insertion_none (w : World) (v fv : Value) : Calls Tryd.prog 107 #[v, .int .i64 0, .int .i64 0, fv] w fun e w' => e = .returned (.tuple #[]) ∧ w = w' := by
  go_enter Tryd.func107, Tryd.ntmps107
  go_wp2
  refine wp_loop_rounds 1 ?_
  rw [rounds_succ]
  go_wp2
  go_end0
  exact ⟨rfl, rfl⟩
theorem sort_none (w : World) : Calls Tryd.prog 91 #[.slice none 0 0, .func (.func 92) #[] #[]] w fun e w' => e = .returned (.tuple #[]) ∧ w = w' := by
  have hst : Calls Tryd.prog 103 #[.slice none 0 0, .int .i64 0, .func (.func 92) #[] #[]] w fun e w' => e = .returned (.tuple #[]) ∧ w = w' := by
    go_enter Tryd.func103, Tryd.ntmps103
    go_wp2
    refine wp_loop_rounds 1 ?_
    rw [rounds_succ]
    go_wp2_with fail
    refine (insertion_none _ _ _).mono ?_
    rintro e w1 ⟨rfl, rfl⟩
    go_wp2
    refine wp_loop_rounds 1 ?_
    rw [rounds_succ]
    go_wp2
    go_end0
    exact ⟨rfl, rfl⟩
  go_enter Tryd.func91, Tryd.ntmps91
  go_wp2_with fail
  refine hst.mono ?_
  rintro e w1 ⟨rfl, rfl⟩
  go_wp2
  go_end0
  exact ⟨rfl, rfl⟩
theorem compact_none (w : World) : Calls Tryd.prog 96 #[.slice none 0 0, .func (.func 97) #[] #[]] w fun e w' => e = .returned (.slice none 0 0) ∧ w = w' := by
  go_enter Tryd.func96, Tryd.ntmps96
  go_wp2
  go_ret
  exact ⟨rfl, rfl⟩
end Go.Proofs.YtlonbbepoamnmaaDoor
