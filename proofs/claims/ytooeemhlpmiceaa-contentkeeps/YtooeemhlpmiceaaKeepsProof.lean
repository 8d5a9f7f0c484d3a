/-
  ContentKeeps: what is handed in stays as it was, and what is told is memory of its own. For all lists of entries and entries; no condition but the form's reach.
-/
import Derived.Test.YtooeemhlpmiceaaFLaw
import Derived.Test.YtooeemhlpmiceaaFKeep
import Derived.Test.YtooeemhlpmiceaaFPlain2
import Derived.Test.YtooeemhlpmiceaaESame
import Derived.Test.YtooeemhlpmiceaaEOne
namespace Go.Proofs.Ytooeemhlpmiceaa.contentKeeps
open Go.ChangeShapes Go.WideShapes Go.ChangeAt Go.RowKit Go.Deep
set_option linter.unusedVariables false
set_option linter.unusedSimpArgs false

theorem find_last (A : List En) (x : En) : (findE (mergeE A [x]) x.1).isSome = true := by
  rw [findE_some_iff]
  show ∃ e ∈ mstep A x, e.1 = x.1
  unfold mstep
  split
  · rename_i h
    exact findE_some_iff.1 h
  · exact ⟨x, (insR_mem x A x).2 (.inl rfl), rfl⟩
theorem set_by8 (xs : List UInt8) (i z : Nat) (hz : z < 256) : (xs.map Cd.by8).set i (.int .u8 (z : Int)) = (xs.set i (UInt8.ofNat z)).map Cd.by8 := by
  rw [List.map_set]
  congr 1
  unfold Cd.by8
  rw [Cd.ofNat_toNat _ hz]
theorem er_other {p : Nat → Prop} {w w' : World} {r : Option Nat} {ao : Option Addr} {n : Nat} {es : List En} (h : ER p w ao n es) (B : Nat) (hB : ∀ k, p k → k < B) (g : w.grownBy w' r) (hr : ∀ k, r = some k → B ≤ k) : ER p w' ao n es :=
  h.kp (fun ad v hp hv => (World.cell?_of_block (g.block _ (World.block_lt_of_cell? w _ hv) (fun e => by have := hr _ e.symm; have := hB _ hp; omega))).trans hv)

set_option maxRecDepth 20000 in
set_option maxHeartbeats 4000000 in
theorem walk (w : World) (ao : Option Addr) (n cap : Nat) (es : List En) (h : ER (fun _ => True) w ao n es) (hok : ∀ e ∈ es, OkE e) (hz : ao = none → n = 0 ∧ cap = 0) (_ : n ≤ cap) (hcap : cap ≤ 140737488355328)
    (x : Lb) (_ : OkL x) (so : Option Addr) (sn sc : Nat) (ms : List UInt8) (hr : Cd.Row w so sn sc ms) (hsn : sn ≤ 140737488355328) :
    Calls Try.prog 6 #[.slice ao n cap, ent x (.slice so sn sc)] w fun e w' => e = .returned (.bool true) ∧ Below w.heap.size w w' := by
  have hmsl : ms.length ≤ 140737488355328 := by have := hr.1; omega
  have haw := fun W => awake_any W
  have hl1 := h.1
  have b0 := bl1 w (.cells #[.int .u64 (x.1 : Nat), .int .i64 x.2.1, .int .u64 (x.2.2.1 : Nat), .int .i64 x.2.2.2, .slice so sn sc] 37)
  have c0 := ex_new w x (.slice so sn sc) 37
  obtain ⟨W0, hW0⟩ : ∃ W, Hid (w.alloc (.cells #[.int .u64 (x.1 : Nat), .int .i64 x.2.1, .int .u64 (x.2.2.1 : Nat), .int .i64 x.2.2.2, .slice so sn sc] 37) = W) := ⟨_, rfl⟩
  rw [hW0.out] at b0 c0
  obtain ⟨g, hg⟩ : ∃ g, Hid (w.heap.size = g) := ⟨_, rfl⟩
  rw [hg.out] at c0
  unfold ent
  go_enter Try.func6, Try.ntmps6
  go_wp2_with fail
  rw [hW0.out, hg.out]
  refine (haw _).mono ?_
  rintro e w1 ⟨rfl, u1⟩
  have u01 := bl_step b0 u1
  by_cases hbig : 50 < (n : Int)
  · go_wp2_with fail
    refine (haw _).mono ?_
    rintro e wz ⟨rfl, uz⟩
    have uf := bl_step u01 uz
    go_wp2
    go_ret
    exact ⟨rfl, uf⟩
  clear haw
  have HA : Hid (Asc (mergeE [] es)) := mergeE_asc es [] (by unfold Asc; simp)
  have hAl := mergeE_len es []
  have HOA : Hid (∀ e ∈ mergeE [] es, e.2.length ≤ 140737488355328) := fun e he => by
    rcases mergeE_mem es [] e he with h | h
    · simp at h
    · exact (hok e h).2
  have HC : Hid (mergeE [] (mergeE [] es ++ [(x, ms)]) = mergeE (mergeE [] es) [(x, ms)]) := mergeE_two HA.out [(x, ms)]
  have HAC : Hid (Asc (mergeE (mergeE [] es) [(x, ms)])) := mergeE_asc _ _ HA.out
  have hCl := mergeE_len [(x, ms)] (mergeE [] es)
  have HOC : Hid (∀ e ∈ mergeE (mergeE [] es) [(x, ms)], e.2.length ≤ 140737488355328) := fun e he => by
    rcases mergeE_mem _ _ e he with h | h
    · exact HOA.out e h
    · simp at h; subst h; exact hmsl
  have HF : Hid ((findE (mergeE (mergeE [] es) [(x, ms)]) x).isSome = true) := find_last _ (x, ms)
  have r1 := refMerge_any (fun _ => True) w1 (fun _ _ => trivial) none 0 0 [] (ER.nil _ _ _) (fun _ => rfl) ao n cap es (h.bl u01) (by omega)
  simp only [List.length_nil, Nat.zero_add, List.length_cons] at hAl hCl
  generalize mergeE [] es = A at *
  generalize hCC : mergeE A [(x, ms)] = C at *
  clear hok h
  go_wp2_with fail
  refine r1.mono ?_
  rintro e w2 ⟨a1, c1, rfl, hE1, u2, hq1⟩
  have u02 := bl_step u01 u2
  have c2 := (c0.bl u1).bl u2
  obtain ⟨xs, hxr, hxs⟩ := hE1.xr
  have HXS : Hid (∀ (j : Nat) e x, A[j]? = some e → xs[j]? = some x → x.1 = e.1 ∧ Cd.Row w2 x.2.1 x.2.2.1 x.2.2.2 e.2) := hxs
  have hxl := hxr.1
  have HZ1 : Hid (a1 = none → A.length = 0 ∧ c1 = 0) := fun e => by
    refine ⟨?_, hq1 e⟩
    by_cases h0 : A.length = 0
    · exact h0
    · obtain ⟨_, _, hh, _⟩ := hE1.2.2 (by omega)
      rw [e] at hh
      exact absurd hh (by simp)
  have HQ1 : Hid (a1 = none → c1 = 0) := hq1
  clear r1 hq1 hxs c0
  go_wp2_with (at_builtin; refine T.wpList_append_XR rfl _ _ rfl w2.heap.size _ 0 [] rfl ?d1 a1 A.length c1 xs rfl ?d2 HZ1.out ?d3 ?d4 ?_)
  case d1 => exact World.ownsRow_nil w2 w2.heap.size 37 5
  case d2 => exact hxr
  case d3 => omega
  case d4 => exact Nat.le_refl _
  intro v3 w3 hown3 hg3
  have u3 : Below w2.heap.size w2 w3 := ⟨hg3.os, hg3.tape, hg3.output, hg3.size, fun k hk => hg3.block k hk (by simp [Value.ownBlock])⟩
  have hO3 : EO 0 w3 v3 A := by
    refine ⟨xs, hxl, own_base hown3 (Nat.zero_le _), fun j e y he hy => ?_⟩
    obtain ⟨h1, h2⟩ := HXS.out j e y he hy
    refine ⟨h1, h2.below u3 (Nat.le_refl _), fun a ha hn => ?_⟩
    have hlt := row_lt h2 a ha hn
    exact ⟨Nat.zero_le _, Nat.lt_of_lt_of_le hlt u3.size, fun e => by have := (hown3.lt _ e).1; omega⟩
  obtain ⟨ab, cb, rfl, hzb, hEb⟩ := hO3.er2
  have u03 := bl_step u02 u3
  have c3 := c2.bl u3
  obtain ⟨d0, d1, d2, d3, d4⟩ := id c3
  have k1 := put_any w3 ab A.length cb A hEb hzb x so sn sc ms (hr.below u03 (Nat.le_refl _)) (by omega) HOA.out hmsl
  rw [HC.out] at k1
  unfold ent at k1
  have hE1' := hE1.bl u3
  clear hg3 hown3 hO3 HXS hxl hxr hE1 c2 hzb HC HZ1
  go_wp2_with (refine wpList_load_E rfl (.tmp 3) rfl g 0 rfl x (.slice so sn sc) d0 d1 d2 d3 d4 ?_)
  refine k1.mono ?_
  rintro e w4 ⟨v4, rfl, hO4, u4⟩
  obtain ⟨ac, cc, rfl, -, hEc⟩ := hO4.er2
  have u04 := bl_step u03 u4
  have c4 := c3.bl u4
  have hE1 := hE1'.bl u4
  have k2 := sameE_any _ _ w4 a1 A.length c1 A hE1 ab A.length cb A (hEb.bl u4)
  simp only [decide_true] at k2
  clear k1 hO4 hE1' hEb d0 d1 d2 d3 d4 c3
  go_wp2_with fail
  refine k2.mono ?_
  rintro e w5 ⟨rfl, u5⟩
  have u05 := bl_step u04 u5.bl
  have c5 := c4.bl u5.bl
  obtain ⟨d0, d1, d2, d3, d4⟩ := id c5
  have ba := bl1 w5 (.cells #[.int .u64 (x.1 : Nat), .int .i64 x.2.1, .int .u64 (x.2.2.1 : Nat), .int .i64 x.2.2.2, .slice so sn sc] 37)
  have ca := ex_new w5 x (.slice so sn sc) 37
  have hEa : ER (fun _ => True) (w5.alloc (.cells #[.int .u64 (x.1 : Nat), .int .i64 x.2.1, .int .u64 (x.2.2.1 : Nat), .int .i64 x.2.2.2, .slice so sn sc] 37)) (some ⟨w5.heap.size, 0, none⟩) 1 [(x, ms)] := by
    refine ⟨rfl, by omega, fun _ => ⟨w5.heap.size, 0, rfl, trivial, fun j e hj => ?_⟩⟩
    have hj0 : j = 0 := by have := (List.getElem?_eq_some_iff.1 hj).1; simp at this; exact this
    subst hj0
    simp at hj
    subst hj
    exact ⟨so, sn, sc, ca.1, ca.2.1, ca.2.2.1, ca.2.2.2.1, ca.2.2.2.2, (hr.below u05 (Nat.le_refl _)).below ba (Nat.le_refl _), fun _ _ _ => trivial⟩
  have k3 := refMerge_any (fun _ => True) _ (fun _ _ => trivial) a1 A.length c1 A ((hE1.bl u5.bl).bl ba) (fun e => by
    have := HQ1.out e
    exact this) (some ⟨w5.heap.size, 0, none⟩) 1 1 [(x, ms)] hEa (by omega)
  rw [hCC] at k3
  have u5a := bl_step u05 ba
  have c5a := c5.bl ba
  have hEca := (hEc.bl u5.bl).bl ba
  clear k2 hE1 hEc c4 c5 hEa ca ba
  go_wp2_with (refine wpList_load_E rfl (.tmp 3) rfl g 0 rfl x (.slice so sn sc) d0 d1 d2 d3 d4 ?_)
  refine k3.mono ?_
  rintro e w6 ⟨a6, c6, rfl, hE6, u6, -⟩
  have u06 := bl_step u5a u6
  have hEc6 := (hEca.bl u6).here
  have hE6' := hE6.here
  have k4 := find_own _ w6 ac C.length cc C (hEca.bl u6) HAC.out (by omega) HOC.out x
  rw [HF.out] at k4
  unfold lab at k4
  obtain ⟨e0, e1, e2, e3, e4⟩ := c5a.bl u6
  generalize (findE C x).getD [] = fm at k4
  obtain ⟨B6, hB6⟩ : ∃ B, w6.heap.size = B := ⟨_, rfl⟩
  rw [hB6] at hEc6 hE6' k4
  have hB6w : w.heap.size ≤ B6 := by rw [← hB6]; exact u06.size
  clear k3 hE6 hEca d0 d1 d2 d3 d4 c5a HF HAC HOC HOA u05 u04 u03 u02 u01 u1 u2 u3 u4 u5 u6 u5a hr HA hCC
  go_wp2_with fail
  refine k4.mono ?_
  rintro e w7 ⟨⟨v7, rfl, ho7⟩, u7⟩
  obtain ⟨mo, mc, rfl, hrow7, -⟩ := own_bytes ho7
  have hEc7 := hEc6.bl (by rw [hB6]; exact u7)
  have hE67 := hE6'.bl (by rw [hB6]; exact u7)
  have u07 : Below w.heap.size w w7 := u06.trans (u7.mono (by omega))
  obtain ⟨L, hL⟩ : ∃ L, fm.length = L := ⟨_, rfl⟩
  rw [hL] at ho7
  rw [hL]
  have hLm : L ≤ 9223372036854775807 := by have := hrow7.2.1; have := hrow7.2.2.1; unfold maxLen at this; omega
  have HO7 : Hid (∃ ys : List UInt8, ys.length = L ∧ w7.ownsRow B6 5 1 (.slice mo L mc) L (ys.map Cd.by8)) := ⟨fm, hL, ho7⟩
  have HSZ : Hid (B6 ≤ w7.heap.size) := hB6 ▸ u7.size
  clear k4 ho7 hrow7 hL u7 e0 e1 e2 e3 e4 hEc6 hE6' u06 hB6
  go_wp2_with fail
  go_loopw [11] (fun iv wr => ∃ (i : Nat) (ys : List UInt8), i ≤ L ∧ iv = .int .i64 i ∧ ys.length = L ∧ wr.ownsRow B6 5 1 (.slice mo L mc) L (ys.map Cd.by8) ∧ w7.grownBy wr (Value.slice mo L mc).ownBlock) (fun iv _ => L - (intOf iv).toNat)
  case atStart =>
    obtain ⟨ys, h1, h2⟩ := HO7.out
    exact ⟨0, ys, by omega, rfl, h1, h2, ⟨rfl, rfl, rfl, Nat.le_refl _, fun _ _ _ => rfl⟩⟩
  case round =>
    obtain ⟨i, ys, hi, rfl, hys, hown, hgr⟩ := hrel
    by_cases hlt : i < L
    · have hltI : (i : Int) < (L : Int) := by omega
      have hi0 : ¬ ((i : Int) < 0) := by omega
      obtain ⟨q, rfl⟩ : ∃ q, mo = some ⟨q, 0, none⟩ := by
        rcases id hown.2 with ⟨h1, h2⟩ | ⟨q, c', cur, h1, _⟩
        · exfalso; omega
        · simp at h1; exact ⟨q, h1.1⟩
      obtain ⟨z, hz⟩ : ∃ z, ys[i]? = some z := ⟨ys[i]'(by omega), List.getElem?_eq_getElem (by omega)⟩
      have hzl := z.toNat_lt
      obtain ⟨z1, hz1, hx1⟩ := xor1 z.toNat (by omega)
      have hcell := hown.cells (g := q) rfl i (Cd.by8 z) (by rw [List.getElem?_map, hz]; rfl)
      rw [Addr.add_lit, Nat.zero_add] at hcell
      unfold Cd.by8 at hcell
      have hfz := World.ownsRow.frozenAt hown i
      obtain ⟨hst, hgs⟩ := World.ownsRow.stored hown i (.int .u8 (z1 : Int))
      rw [set_by8 ys i z1 hz1] at hst
      have HST : Hid ((wr.setCell ⟨q, i, none⟩ (.int .u8 (z1 : Int))).ownsRow B6 5 1 (.slice (some ⟨q, 0, none⟩) L mc) L ((ys.set i (UInt8.ofNat z1)).map Cd.by8) ∧ w7.grownBy (wr.setCell ⟨q, i, none⟩ (.int .u8 (z1 : Int))) (some q)) := ⟨hst, T.gr_trans hgr hgs⟩
      generalize z.toNat = zn at *
      clear hown hgr hst hgs hz
      go_wp2
      go_roundw
      case rel => first | exact ⟨i + 1, ys.set i (UInt8.ofNat z1), by omega, by go_num, by simpa using hys, HST.out.1, HST.out.2⟩ | ((repeat apply Exists.intro); exact ⟨⟨i + 1, ys.set i (UInt8.ofNat z1), by omega, by go_num, by simpa using hys, HST.out.1, HST.out.2⟩, rfl⟩)
      case measure => simp [intOf]; omega
    · obtain rfl : L = i := by omega
      have hltI : ¬ ((L : Int) < (L : Int)) := by omega
      have hol : ∀ k, (Value.slice mo L mc).ownBlock = some k → B6 ≤ k := fun k hk => (hown.lt k hk).1
      have hEc8 := er_other hEc7 B6 (fun k hk => hk.2) hgr hol
      have hE8 := er_other hE67 B6 (fun k hk => hk.2) hgr hol
      have u08 : Below w.heap.size w wr := bl_grown u07 u07.size hgr (fun k hk => by have := hol k hk; omega)
      have k5 := sameE_any _ _ wr ac C.length cc C hEc8 a6 C.length c6 C hE8
      simp only [decide_true] at k5
      clear hown hgr hol hEc8 hE8 hEc7 hE67
      go_wp2_with fail
      refine k5.mono ?_
      rintro e w9 ⟨rfl, u9⟩
      have uf := bl_step u08 u9.bl
      clear k5
      go_wp2
      go_ret
      exact ⟨rfl, uf⟩
set_option maxRecDepth 100000 in
theorem lifted (os : Os) (started : os.Started) (H : Type) (enc : TypeId × Value → H) :
    ReturnsInHanded {} Try.checked os 6 .any (Rows.contentKeepsSpec.pre6 enc Try.prog Try.f6 Rows.contentKeepsRow.domain false) (Rows.contentKeepsSpec.post enc Try.prog Try.f6 false true false false) := by
  refine returnsInHanded_of_change_sized (C := Try.checked) own started (by kernel_rfl) Try.func6
    (ChangeSpec.witness6 (enc := enc) (C := Try.checked) false ⟨#[], #[.slice none 0 0, .agg #[.int .u64 0, .int .i64 0, .int .u64 0, .int .i64 0, .slice none 0 0]], []⟩ 12 (by kernel_rfl) (by kernel_rfl) (by kernel_rfl) (by kernel_rfl)) ?_
  intro W base args ds gs before hval0 hW hcnd hsz0 _
  have hsz : (DataW.weightsEach Try.prog (Try.f6.params.toList ++ Rows.contentKeepsSpec.plain.varTypes Try.prog) (ds ++ gs)).all (· ≤ reachBytes) = true := hsz0
  have hval : ∀ (j : Nat) t v, Try.f6.params[j]? = some t → args[j]? = some v → Value.okWide Try.prog W .any base t v := hval0
  have hW' := hW
  obtain ⟨p, q, hA0, hV, rfl, hfz, hnd⟩ := hW
  have hA : DataW.TrodAll enc Try.prog W 0 (fun _ => true) true Try.f6.params.toList args.toList ds p := hA0
  rw [Try.params6] at hA hval hsz
  obtain ⟨v0, vs0, d0, ds0, p0, q0, hargs0, rfl, rfl, h0, r0⟩ := trodAll_cons hA
  obtain ⟨v1, vs1, d1, ds1, p1, q1, hargs1, rfl, rfl, h1, r1⟩ := trodAll_cons r0
  obtain ⟨rfl, rfl, rfl⟩ := trodAll_nil r1
  obtain rfl : args = #[v0, v1] := by cases args; simp_all
  obtain ⟨rfl, rfl⟩ := trodVars_none hV
  obtain ⟨a0, len0, cap0, rfl⟩ := okWide_slice Try.underlying22 (hval 0 22 v0 rfl rfl)
  have k0 := h0
  have lt0 : ∀ x ∈ p0, x.block < W.heap.size := by obtain ⟨m, hm⟩ := k0; exact DataW.trod_lt m _ _ _ hm
  obtain ⟨xs0, hx0, ho0, hz0, hc0, hd0⟩ := open_ents h0 (fits_of hsz (j := 0) rfl rfl)
  have k1 := h1
  have lt1 : ∀ x ∈ p1, x.block < W.heap.size := by obtain ⟨m, hm⟩ := k1; exact DataW.trod_lt m _ _ _ hm
  obtain ⟨x1, so1, sn1, sc1, ms1, hx1, rfl, hr1, hl1⟩ := open_ent2 (hval 1 37 v1 rfl rfl) h1 (fits_of hsz (j := 1) rfl rfl)
  clear hA0 hval0 hsz hsz0
  refine (walk W a0 len0 cap0 xs0 hx0 ho0 hz0 hc0 hd0 x1 hx1 so1 sn1 sc1 ms1 hr1 hl1).mono fun e W' ⟨he, bel⟩ => ?_
  subst he
  exact ⟨_, rfl, _, _, _, [], _, [], hW', trodAll_mk1 (shut_bool Try.underlying4 _), (trodAll_cons_mk (Below.trod laidOut (by kernel_rfl) (of_decide_eq_true (by kernel_rfl)) k0 bel lt0) (trodAll_cons_mk (Below.trod laidOut (by kernel_rfl) (of_decide_eq_true (by kernel_rfl)) k1 bel lt1) trodAll_mk0)), rfl, bel.frame _, fun h => by cases h⟩

theorem over : Rows.contentKeepsRow.holds Try.pinned (OpenSpec.ofChange Rows.contentKeepsSpec) :=
  OpenClaim.holds_of_wide 6 Try.f6 rfl rfl rfl rfl rfl rfl rfl ⟨rfl, rfl, rfl, rfl, rfl⟩ rfl rfl rfl rfl rfl (by kernel_rfl) Try.func6 (by kernel_rfl)
    (of_decide_eq_true (by kernel_rfl)) (by unfold Func.isWrapper; first | (rw [if_pos (by decide +kernel)]; kernel_rfl) | (rw [if_neg (by decide +kernel)]; exact ⟨rfl, rfl⟩))
    (fun os started H enc _ => lifted os started H enc)

end Go.Proofs.Ytooeemhlpmiceaa.contentKeeps
namespace Go.Proofs.Ytooeemhlpmiceaa
theorem contentKeeps_holds : Rows.ContentKeepsSaid := contentKeeps.over
#print axioms contentKeeps_holds
end Go.Proofs.Ytooeemhlpmiceaa
