/-
  slices.DeleteFunc of labels, at what among tells: those that are not in the set.
-/
import Derived.Test.YtdnhhbpnefhjlaaLBlk
namespace Go.Proofs.Ytdnhhbpnefhjlaa
open Go.RowKit Go.Sort
set_option linter.unusedVariables false

def out (S ls : List Lb) : List Lb := ls.filter (fun x => !decide (x ∈ S))
theorem out_none {S ls : List Lb} (h : ∀ x ∈ ls, x ∉ S) : out S ls = ls := by
  unfold out
  rw [List.filter_eq_self]
  intro x hx
  simpa using h x hx
theorem out_step {S ls : List Lb} {j : Nat} {x : Lb} (h : ls[j]? = some x) : out S (ls.take (j + 1)) = out S (ls.take j) ++ (if decide (x ∈ S) then [] else [x]) := by
  unfold out
  rw [List.take_add_one, h, List.filter_append]
  by_cases hx : x ∈ S <;> simp [hx]
theorem out_le (S ls : List Lb) : (out S ls).length ≤ ls.length := List.length_filter_le _ _

/-- A store of a thing of several cells, by its run. -/
theorem wpList_store_cells {P : Program} {ops : Array Oper} {rest : List Oper} {o : Oper} {a : Act} {w : World} {Q : Exit → Act → World → Prop} (hgd : o.guard = none) (ty : TypeId) (x y : Operand) (ho : o.op = .store ty x y)
    (ad : Addr) (cells : Array Value) (hx : a.eval x = .pointer (some ad)) (hy : a.eval y = .agg cells) (hi : (P.info? ty).map (·.size) = some cells.size)
    (w' : World) (hrun : (storeCells ad cells.toList 0).run P w = .ok () w') (h : wpList P ops Q rest (a.put o.dst undef) w') : wpList P ops Q (o :: rest) a w := by
  have hsv : (storeVar ty ad (.agg cells)).run P w = .ok () w' := by
    cases hq : P.info? ty with
    | none => simp [hq] at hi
    | some i =>
      have hs : cells.size = i.size := by simp [hq] at hi; omega
      simp [storeVar, sizeOf, typeInfo, hq, Value.cells, hs, hrun]
  refine wpList_plain hgd fun K hK => ?_
  unfold Oper.wp execOp
  simp only [ho, hx, hy, Instr.storeAt, Instr.sureAddr, Sem.run_bind, Sem.run_pure, Result.andThen_ok, hsv]
  exact hK _ _ h
theorem info26 : (Try.prog.info? 26).map (·.size) = some 4 := by kernel_rfl

set_option maxRecDepth 10000 in
set_option maxHeartbeats 2000000 in
theorem deleteFunc_some (w : World) (g n cap base : Nat) (ls : List Lb) (hown : w.ownsRow base 26 4 (.slice (some ⟨g, 0, none⟩) n cap) n (flat ls)) (hok : ∀ x ∈ ls, OkL x) (B m k0 : Nat) (S : List Lb) (hB : w.cell? ⟨B, 0, none⟩ = some (.map (some m))) (hS : SetIs w m k0 S) (hgB : g ≠ B) (hgm : g ≠ m) :
    Calls Try.prog 40 #[.slice (some ⟨g, 0, none⟩) n cap, .func (.func 59) #[] #[.pointer (some ⟨B, 0, none⟩)]] w fun e w' => ∃ v', e = .returned v' ∧ w'.ownsRow base 26 4 v' (out S ls).length (flat (out S ls)) ∧ w.grownBy w' (some g) := by
  obtain ⟨ao, cap', hv, hLR⟩ := LR.own hown
  simp only [Value.slice.injEq] at hv
  obtain ⟨rfl, _, rfl⟩ := hv
  have hl := hLR.1
  have hmax := hLR.2.1
  obtain ⟨hblk, hbg, hnc, hcm⟩ := Blk.ofOwn hown
  have hix := indexFunc_any w (some ⟨g, 0, none⟩) n cap ls hLR hok B m k0 S hB hS
  have HOWN : Hid (w.ownsRow base 26 4 (.slice (some ⟨g, 0, none⟩) n cap) n (flat ls)) := hown
  have HBLK : Hid (Blk w g cap ls) := hblk
  clear hown hblk hLR
  have hwide : cap ≤ 9223372036854775807 := by unfold maxLen at hcm; omega
  go_enter Try.func40, Try.ntmps40
  go_wp2_with fail
  refine hix.mono ?_
  rintro e w1 ⟨⟨rfl, hno⟩ | ⟨i0, y0, hi0, rfl, hno, hy0, hin0⟩, hu1⟩
  · have HE : Hid (w1.ownsRow base 26 4 (.slice (some ⟨g, 0, none⟩) n cap) (out S ls).length (flat (out S ls)) ∧ w.grownBy w1 (some g)) := by
      refine ⟨?_, gr_below hu1.bl _⟩
      rw [out_none hno, hl]
      exact (HBLK.out.up hu1.bl).own hbg hcm n (by omega) |> fun h => by rwa [List.take_of_length_le (by omega)] at h
    clear hix hno hS hB
    go_wp2
    go_ret
    exact ⟨_, rfl, HE.out⟩
  · have H0 : Hid (ls.take i0 = out S (ls.take (i0 + 1))) := by
      show _ = _
      rw [out_step hy0, out_none hno]
      simp [hin0]
    have hnm1 : ((i0 : Int) == -1) = false := by simp
    clear hno hix hin0 hy0
    have hb1 := HBLK.out.up hu1.bl
    go_wp2_with fail
    go_loopw [5, 6, 7] (fun iv jv _ wr => ∃ (i j : Nat) (cur : List Lb), iv = .int .i64 i ∧ jv = .int .i64 j ∧ i < j ∧ j ≤ n ∧ Blk wr g cap cur ∧ cur.length = n ∧ cur.take i = out S (ls.take j) ∧ cur.drop j = ls.drop j ∧ w.grownBy wr (some g)) (fun _ jv _ _ => n - (intOf jv).toNat)
    case atStart => exact ⟨i0, i0 + 1, ls, rfl, by go_num, by omega, by omega, hb1, hl, H0.out, rfl, gr_below hu1.bl _⟩
    case round =>
      obtain ⟨i, j, cur, rfl, rfl, hij, hj, hblk, hcl, htk, hdr, hgr⟩ := hrel
      have HTK : Hid (cur.take i = out S (ls.take j)) := htk
      have HDR : Hid (cur.drop j = ls.drop j) := hdr
      clear htk hdr
      by_cases hlt : j < n
      · have hltI : (j : Int) < (n : Int) := by omega
        obtain ⟨x, hx⟩ : ∃ y, ls[j]? = some y := ⟨ls[j]'(by omega), List.getElem?_eq_getElem (by omega)⟩
        have hx' : cur[j]? = some x := by
          have h1 : (cur.drop j)[0]? = (ls.drop j)[0]? := by rw [HDR.out]
          simpa [hx] using h1
        obtain ⟨c0, c1, c2, c3⟩ := hblk.cell hx'
        have HX : Hid (ls[j]? = some x) := hx
        have hBr := hgr.cell hB (by simp; omega)
        have hSr : SetIs wr m k0 S := hS.of_block (hgr.block m hS.lt (by simp; omega))
        have ua : Up wr (wr.alloc (.cells #[.int .u64 (x.1 : Nat), .int .i64 x.2.1, .int .u64 (x.2.2.1 : Nat), .int .i64 x.2.2.2] 26)) := (Up.refl _).alloc _
        have hclo := closure_any (wr.alloc (.cells #[.int .u64 (x.1 : Nat), .int .i64 x.2.1, .int .u64 (x.2.2.1 : Nat), .int .i64 x.2.2.2] 26)) B m k0 S (ua.cell hBr) (hSr.of_block (ua.bl.block m hSr.lt)) x (hok x (List.mem_of_getElem? hx))
        unfold lab at hclo
        have HDR' : Hid (cur.drop (j + 1) = ls.drop (j + 1)) := by
          show _ = _
          rw [← List.drop_drop, ← List.drop_drop, HDR.out]
        have HST : Hid (out S (ls.take (j + 1)) = out S (ls.take j) ++ (if decide (x ∈ S) then [] else [x])) := out_step hx
        clear hx hx' hSr hBr
        have hj0 : ¬ ((j : Int) < 0) := by omega
        have hi0' : ¬ ((i : Int) < 0) := by omega
        have hin' : (i : Int) < (n : Int) := by omega
        cases hd : decide (x ∈ S) with
        | true =>
          rw [hd] at hclo HST
          clear hd
          go_wp2_with fail
          refine hclo.mono ?_
          rintro e w2 ⟨rfl, hu2⟩
          have hu3 := ua.trans hu2
          have hb3 := hblk.up hu3.bl
          have hg3 := gr_trans hgr (gr_below hu3.bl _)
          have HT : Hid (cur.take i = out S (ls.take (j + 1))) := by
            show _ = _
            rw [HST.out, HTK.out]; simp
          clear hclo ua c0 c1 c2 c3 hu2 hu3 hblk hgr HST HTK
          go_wp2
          go_roundw
          case rel => first | exact ⟨i, j + 1, cur, rfl, by go_num, by omega, by omega, hb3, hcl, HT.out, HDR'.out, hg3⟩ | ((repeat apply Exists.intro); exact ⟨⟨i, j + 1, cur, rfl, by go_num, by omega, by omega, hb3, hcl, HT.out, HDR'.out, hg3⟩, rfl⟩)
          case measure => simp [intOf]; omega
        | false =>
          rw [hd] at hclo HST
          clear hd
          go_wp2_with fail
          refine hclo.mono ?_
          rintro e w2 ⟨rfl, hu2⟩
          have hu3 := ua.trans hu2
          have hb3 := hblk.up hu3.bl
          have hg3 := gr_trans hgr (gr_below hu3.bl _)
          obtain ⟨w4, hst, hb4, hg4⟩ := hb3.set (i := i) (by omega) x
          have hg5 := gr_trans hg3 hg4
          have hbx := (bx_new wr x.1 x.2.1 x.2.2.1 x.2.2.2 26).up hu2
          obtain ⟨d0, d1, d2, d3⟩ := hbx
          have HT : Hid ((cur.set i x).take (i + 1) = out S (ls.take (j + 1))) := by
            show _ = _
            rw [HST.out, ← HTK.out, List.take_add_one]
            have : (cur.set i x)[i]? = some x := by rw [List.getElem?_set_self (by omega)]
            rw [this, List.take_set_of_le (Nat.le_refl _)]
            simp
          have HD2 : Hid ((cur.set i x).drop (j + 1) = ls.drop (j + 1)) := by
            show _ = _
            rw [List.drop_set_of_lt (by omega)]
            exact HDR'.out
          have hcl2 : (cur.set i x).length = n := by simpa using hcl
          clear hclo ua c0 c1 c2 c3 hu2 hu3 hblk hgr HST HTK hb3 hg3 hg4 HDR'
          go_wp2_with (first | (refine wpList_store_cells rfl 26 (.tmp 33) (.tmp 32) rfl ⟨g, i * 4, none⟩ #[.int .u64 (x.1 : Nat), .int .i64 x.2.1, .int .u64 (x.2.2.1 : Nat), .int .i64 x.2.2.2] rfl rfl info26 w4 hst ?_))
          go_roundw
          case rel => first | exact ⟨i + 1, j + 1, cur.set i x, by go_num, by go_num, by omega, by omega, hb4, hcl2, HT.out, HD2.out, hg5⟩ | ((repeat apply Exists.intro); exact ⟨⟨i + 1, j + 1, cur.set i x, by go_num, by go_num, by omega, by omega, hb4, hcl2, HT.out, HD2.out, hg5⟩, rfl⟩)
          case measure => simp [intOf]; omega
      · obtain rfl : j = n := by omega
        have e : cur.take i = out S ls := by have := HTK.out; rwa [List.take_of_length_le (l := ls) (by omega)] at this
        obtain ⟨w4, hst, hb4, hg4⟩ := hblk.clear (i := i) (n := j - i) (by omega) (by omega) (cap - i) 0
        have hi0' : ¬ ((i : Int) < 0) := by omega
        have hlen : (out S ls).length = i := by rw [← e, List.length_take]; omega
        have HE : Hid (w4.ownsRow base 26 4 (.slice (some ⟨g, 0, none⟩) i cap) (out S ls).length (flat (out S ls)) ∧ w.grownBy w4 (some g)) := by
          refine ⟨?_, gr_trans hgr hg4⟩
          have := hb4.own hbg hcm i (by rw [List.length_take]; omega)
          rw [e, List.take_of_length_le (by omega)] at this
          rw [hlen]; exact this
        clear hblk hgr hg4 hb4 hS hB hok HTK HDR hlen
        go_wp2
        go_ret
        exact ⟨_, rfl, HE.out⟩
end Go.Proofs.Ytdnhhbpnefhjlaa
