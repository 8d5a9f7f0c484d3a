/-
  ExchangeKeeps: whoever writes into what exchange answers turns nothing of what it answers next; of nothing it answers nothing. For all lists of summaries; no condition but the form's reach.
-/
import Derived.Test.YtooeemhlpmiceaaXRef3
namespace Go.Proofs.Ytooeemhlpmiceaa.exchangeKeeps
open Go.ChangeShapes Go.WideShapes Go.ChangeAt Go.RowKit Go.Deep
set_option linter.unusedVariables false
set_option linter.unusedSimpArgs false

theorem all_of {w w' : World} {ss : List Pt} {m : Nat} {e : Ending} (h : ToldPost w w' ss m e) : ∃ ta tc na nc sa sc, e = .returned (.tuple #[.slice ta ss.length tc, .slice na ss.length nc, .slice sa ss.length sc]) ∧ TL (fun _ => True) w' ta ss.length (toldL ss m) ∧ NL w' na ss.length (toldL ss m) ∧ SL (fun _ => True) w' sa ss.length (toldL ss m) ∧ Below w.heap.size w w' := by
  obtain ⟨p, vt, vn, vs, els, rfl, hT, hp⟩ := h
  obtain ⟨ta, tc, rfl, hl⟩ := hT.tl
  obtain ⟨na, nc, rfl, hn⟩ := hT.nl
  obtain ⟨sa, sc, rfl, hs⟩ := hT.sl
  have hlen : els.length = ss.length := by have := congrArg List.length hp; simpa [toldL] using this
  rw [hp, hlen] at hl hs hn
  rw [hlen]
  exact ⟨ta, tc, na, nc, sa, sc, rfl, hl, hn, hs, hT.bl⟩

def Sq (cur : List Value) (L : Nat) : Prop := ∀ j, j < L → ∃ s : Nat, cur[4 * j + 2]? = some (.int .u64 (s : Nat))
theorem sq_flat (ls : List Lb) : Sq (flat ls) ls.length := fun j hj => by
  have e := flat_get ls j ls[j] 2 (List.getElem?_eq_getElem hj) (by omega)
  exact ⟨ls[j].2.2.1, by rw [e]; rfl⟩
theorem Sq.set {cur : List Value} {L : Nat} (h : Sq cur L) (i s : Nat) (hi : i < L) (hl : cur.length = L * 4) : Sq (cur.set (i * 4 + 2) (.int .u64 (s : Nat))) L := fun j hj => by
  by_cases e : j = i
  · subst e
    refine ⟨s, ?_⟩
    rw [show 4 * j + 2 = j * 4 + 2 by omega, List.getElem?_set_self (by omega)]
  · obtain ⟨z, hz⟩ := h j hj
    exact ⟨z, by rw [List.getElem?_set_ne (by omega)]; exact hz⟩
theorem tl_nil (w : World) : TL (fun _ => True) w none 0 [] := ⟨rfl, by omega, fun h => by omega⟩

set_option maxRecDepth 20000 in
set_option maxHeartbeats 4000000 in
theorem walk (w : World) (ao : Option Addr) (n cap : Nat) (ss : List Pt) (h : SL (fun _ => True) w ao n ss) (hok : ∀ t ∈ ss, OkP t) :
    Calls Try.prog 10 #[.slice ao n cap] w fun e w' => e = .returned (.bool true) ∧ Below w.heap.size w w' := by
  have haw := fun W => awakeX_any W
  have hl := h.1
  go_enter Try.func10, Try.ntmps10
  go_wp2_with fail
  refine (haw _).mono ?_
  rintro e w1 ⟨rfl, u1⟩
  have kf := few_any w1 ao n cap ss (h.bl u1) (fun t ht => by have := (hok t ht).2.2.1; have := (hok t ht).2.2.2.1; unfold szP; omega)
  go_wp2_with fail
  refine kf.mono ?_
  rintro e w2 ⟨⟨r, rfl, hr⟩, u2⟩
  have u02 := bl_step u1 u2
  clear kf
  cases r with
  | false =>
    go_wp2_with fail
    refine (haw _).mono ?_
    rintro e wz ⟨rfl, uz⟩
    have uf := bl_step u02 uz
    go_wp2
    go_ret
    exact ⟨rfl, uf⟩
  | true =>
  obtain ⟨hn, hsum⟩ := hr rfl
  clear haw hr
  have HLE : Hid (∀ t ∈ ss, t.es.length ≤ 10000) := fun t ht => by have := sum_mem ht; unfold szP at this; omega
  have k1 := told_any w2 ao n cap ss (h.bl u02) (by omega) HLE.out 0 (by omega)
  go_wp2_with fail
  refine k1.mono ?_
  rintro e w3 hP
  obtain ⟨ta, tc, na, nc, sa, sc, rfl, hT, hN, hS, u3⟩ := all_of hP
  have u03 := bl_step u02 u3
  rw [hl] at hT hS hN
  rw [hl]
  have HA : Hid ((allT (toldL ss 0)).length ≤ 1000 ∧ (∀ e ∈ allT (toldL ss 0), e.2.length ≤ 140737488355328) ∧ (∀ e ∈ allT (toldL ss 0), OkL e.1) ∧ (∀ t ∈ toldL ss 0, t.ls.length ≤ 1000) ∧ ∀ t ∈ toldL ss 0, ∀ x ∈ t.ls, OkL x) :=
    ⟨by have := told_all_le ss 0; omega, fun e he => (told_eok hok e he).2, fun e he => (told_eok hok e he).1, fun t ht => by have := told_ls ht; omega, told_lok hok⟩
  have HD : Hid ((∀ t ∈ toldL ss 0, 0 ≤ t.node) ∧ ∀ t ∈ toldL ss 0, ∀ u ∈ toldL ss 0, t.node = u.node → t = u) := ⟨told_nn ss 0, (told_same ss 0 0).2⟩
  generalize toldL ss 0 = A at *
  clear k1 hP hok HLE u1 u2 u3 u02 h hl hsum
  have k3 := refShort_any w3 na n nc sa sc A hN hS HD.out.1 HD.out.2
  go_wp2_with fail
  refine k3.mono ?_
  rintro e w4 ⟨⟨a4, c4, rfl, hL4, -⟩, u4⟩
  have hT4 := hT.bl u4
  have hN4 := hN.bl u4
  have hS4 := hS.bl u4
  have u04 := bl_step u03 u4
  have k4 := short_any _ w4 ta n tc A hT4 HA.out.2.2.2.1
  clear k3 hT hN hS u03 u4
  go_wp2_with fail
  refine k4.mono ?_
  rintro e w5 ⟨v5, rfl, ho5, u5⟩
  obtain ⟨a5, c5, rfl, -⟩ := LR.own ho5
  have k5 := full_any _ w5 ta n tc A (hT4.bl u5) HA.out.1 HA.out.2.1 HA.out.2.2.1 HA.out.2.2.2.1 HA.out.2.2.2.2
  clear k4
  go_wp2_with fail
  refine k5.mono ?_
  rintro e w6 ⟨v6, rfl, ho6, u6⟩
  obtain ⟨a6, c6, rfl, -⟩ := LR.own ho6
  have ho56 := Q.own_below ho5 u6
  have u46 : Below w4.heap.size w4 w6 := bl_step u5 u6
  have H5 : Hid (∀ k, (Value.slice a5 (shortT A).length c5).ownBlock = some k → k < w5.heap.size) := fun k hk => (ho5.lt k hk).2
  have H45 : Hid (w4.heap.size ≤ w5.heap.size) := u5.size
  clear k5 ho5
  have hLM : (shortT A).length ≤ 1000 := short_len HA.out.2.2.2.1
  have hFM : (fullT A).length ≤ 9223372036854775807 := by
    obtain ⟨_, _, _, hq⟩ := LR.own ho6
    exact hq.2.1
  obtain ⟨SS, hSS⟩ : ∃ l, Hid (shortT A = l) := ⟨_, rfl⟩
  obtain ⟨FF, hFF⟩ : ∃ l, Hid (fullT A = l) := ⟨_, rfl⟩
  rw [hSS.out] at hL4 ho56 H5 hLM ⊢
  rw [hFF.out] at ho6 hFM ⊢
  have HO5 : Hid (w6.ownsRow w4.heap.size 34 4 (.slice a5 SS.length c5) SS.length (flat SS)) := ho56
  have HO6q : Hid (w6.ownsRow w5.heap.size 34 4 (.slice a6 FF.length c6) FF.length (flat FF)) := ho6
  clear ho56 ho6 u5 u6
  go_wp2_with fail
  go_loopw [9] (fun iv wr => ∃ (i : Nat) (cur : List Value), i ≤ SS.length ∧ iv = .int .i64 i ∧ Sq cur SS.length ∧ wr.ownsRow w4.heap.size 34 4 (.slice a5 SS.length c5) SS.length cur ∧ w6.grownBy wr (Value.slice a5 SS.length c5).ownBlock) (fun iv _ => SS.length - (intOf iv).toNat)
  case atStart => exact ⟨0, _, by omega, rfl, sq_flat _, HO5.out, gr_refl _ _⟩
  case round =>
    obtain ⟨i, cur, hi, rfl, hsq, hown, hgr⟩ := hrel
    by_cases hlt : i < SS.length
    · have hltI : (i : Int) < (SS.length : Int) := by omega
      have hi0 : ¬ ((i : Int) < 0) := by omega
      obtain ⟨q, rfl⟩ : ∃ q, a5 = some ⟨q, 0, none⟩ := by
        rcases id hown.2 with ⟨h1, h2⟩ | ⟨q, c', cur, h1, _⟩
        · exfalso; omega
        · simp at h1; exact ⟨q, h1.1⟩
      obtain ⟨s, hs⟩ := hsq i hlt
      have hcell := hown.cells (g := q) rfl (4 * i + 2) _ hs
      rw [Addr.add_lit, show 0 + (4 * i + 2) = i * 4 + 2 by omega] at hcell
      have hfz := World.ownsRow.frozenAt hown (i * 4 + 2)
      obtain ⟨s', hs'⟩ : ∃ s' : Nat, IntKind.u64.wrap ((s : Int) + 1) = (s' : Nat) := ⟨(IntKind.u64.wrap ((s : Int) + 1)).toNat, by simp [IntKind.wrap, IntKind.bits, IntKind.signed]; omega⟩
      obtain ⟨hst, hgs⟩ := World.ownsRow.stored hown (i * 4 + 2) (.int .u64 (s' : Nat))
      have HST : Hid (Sq (cur.set (i * 4 + 2) (.int .u64 (s' : Nat))) SS.length ∧ (wr.setCell ⟨q, i * 4 + 2, none⟩ (.int .u64 (s' : Nat))).ownsRow w4.heap.size 34 4 (.slice (some ⟨q, 0, none⟩) SS.length c5) SS.length (cur.set (i * 4 + 2) (.int .u64 (s' : Nat))) ∧ w6.grownBy (wr.setCell ⟨q, i * 4 + 2, none⟩ (.int .u64 (s' : Nat))) (some q)) := ⟨hsq.set i s' hlt hown.1, hst, gr_trans hgr hgs⟩
      clear hown hgr hst hgs hs hsq
      go_wp2
      go_roundw
      case rel => first | exact ⟨i + 1, _, by omega, by go_num, HST.out.1, HST.out.2.1, HST.out.2.2⟩ | ((repeat apply Exists.intro); exact ⟨⟨i + 1, _, by omega, by go_num, HST.out.1, HST.out.2.1, HST.out.2.2⟩, rfl⟩)
      case measure => simp [intOf]; omega
    · obtain rfl : i = SS.length := by omega
      have hltI : ¬ ((SS.length : Int) < (SS.length : Int)) := by omega
      have hol : ∀ k, (Value.slice a5 SS.length c5).ownBlock = some k → w4.heap.size ≤ k := fun k hk => (hown.lt k hk).1
      have HO6 : Hid (wr.ownsRow w5.heap.size 34 4 (.slice a6 FF.length c6) FF.length (flat FF)) := by
        refine HO6q.out.kept hgr ?_
        cases e6 : (Value.slice a6 FF.length c6).ownBlock with
        | none => exact Or.inl rfl
        | some g6 =>
          refine Or.inr (fun e5 => ?_)
          have h1 := H5.out g6 e5.symm
          have h2 := (HO6q.out.lt g6 e6).1
          omega
      have u4m : Below w4.heap.size w4 wr := bl_grown u46 u46.size hgr hol
      clear hown hgr hol hsq HO6q HO5 H5 u46
      obtain ⟨wm, hwm⟩ : ∃ W, Hid (wr = W) := ⟨_, rfl⟩
      rw [hwm.out] at HO6 u4m
      rw [hwm.out]
      clear hwm
      go_wp2_with fail
      go_loopw [10] (fun iv wr => ∃ (i : Nat) (cur : List Value), i ≤ FF.length ∧ iv = .int .i64 i ∧ Sq cur FF.length ∧ wr.ownsRow w5.heap.size 34 4 (.slice a6 FF.length c6) FF.length cur ∧ wm.grownBy wr (Value.slice a6 FF.length c6).ownBlock) (fun iv _ => FF.length - (intOf iv).toNat)
      case atStart => exact ⟨0, _, by omega, rfl, sq_flat _, HO6.out, gr_refl _ _⟩
      case round =>
        obtain ⟨i, cur, hi, rfl, hsq, hown, hgr⟩ := hrel
        by_cases hlt : i < FF.length
        · have hltI : (i : Int) < (FF.length : Int) := by omega
          have hi0 : ¬ ((i : Int) < 0) := by omega
          obtain ⟨q, rfl⟩ : ∃ q, a6 = some ⟨q, 0, none⟩ := by
            rcases id hown.2 with ⟨h1, h2⟩ | ⟨q, c', cur, h1, _⟩
            · exfalso; omega
            · simp at h1; exact ⟨q, h1.1⟩
          obtain ⟨s, hs⟩ := hsq i hlt
          have hcell := hown.cells (g := q) rfl (4 * i + 2) _ hs
          rw [Addr.add_lit, show 0 + (4 * i + 2) = i * 4 + 2 by omega] at hcell
          have hfz := World.ownsRow.frozenAt hown (i * 4 + 2)
          obtain ⟨s', hs'⟩ : ∃ s' : Nat, IntKind.u64.wrap ((s : Int) + 1) = (s' : Nat) := ⟨(IntKind.u64.wrap ((s : Int) + 1)).toNat, by simp [IntKind.wrap, IntKind.bits, IntKind.signed]; omega⟩
          obtain ⟨hst, hgs⟩ := World.ownsRow.stored hown (i * 4 + 2) (.int .u64 (s' : Nat))
          have HST : Hid (Sq (cur.set (i * 4 + 2) (.int .u64 (s' : Nat))) FF.length ∧ (wr.setCell ⟨q, i * 4 + 2, none⟩ (.int .u64 (s' : Nat))).ownsRow w5.heap.size 34 4 (.slice (some ⟨q, 0, none⟩) FF.length c6) FF.length (cur.set (i * 4 + 2) (.int .u64 (s' : Nat))) ∧ wm.grownBy (wr.setCell ⟨q, i * 4 + 2, none⟩ (.int .u64 (s' : Nat))) (some q)) := ⟨hsq.set i s' hlt hown.1, hst, gr_trans hgr hgs⟩
          clear hown hgr hst hgs hs hsq
          go_wp2
          go_roundw
          case rel => first | exact ⟨i + 1, _, by omega, by go_num, HST.out.1, HST.out.2.1, HST.out.2.2⟩ | ((repeat apply Exists.intro); exact ⟨⟨i + 1, _, by omega, by go_num, HST.out.1, HST.out.2.1, HST.out.2.2⟩, rfl⟩)
          case measure => simp [intOf]; omega
        · obtain rfl : i = FF.length := by omega
          have hltI : ¬ ((FF.length : Int) < (FF.length : Int)) := by omega
          have hol : ∀ k, (Value.slice a6 FF.length c6).ownBlock = some k → w5.heap.size ≤ k := fun k hk => (hown.lt k hk).1
          have hol4 : ∀ k, (Value.slice a6 FF.length c6).ownBlock = some k → w4.heap.size ≤ k := fun k hk => Nat.le_trans H45.out (hol k hk)
          have u4z : Below w4.heap.size w4 wr := bl_grown u4m u4m.size hgr hol4
          have hT7 := hT4.bl u4z
          have hN7 := hN4.bl u4z
          have hS7 := hS4.bl u4z
          have hL7 := hL4.up u4z
          have u07 := bl_step u04 u4z
          clear hown hgr hol hol4 hsq HO6 u4m u4z hT4 hN4 hS4 hL4 u04 H45
          have k7 := short_any _ wr ta n tc A hT7 HA.out.2.2.2.1
          rw [hSS.out] at k7
          go_wp2_with fail
          refine k7.mono ?_
          rintro e w8 ⟨v8, rfl, ho8, u8⟩
          obtain ⟨a8, c8, rfl, hL8⟩ := LR.own ho8
          have hT8 := hT7.bl u8
          have hN8 := hN7.bl u8
          have hS8 := hS7.bl u8
          have u08 := bl_step u07 u8
          have k8 := same_any w8 a8 SS.length c8 SS hL8 a4 SS.length c4 SS (hL7.up u8)
          simp only [decide_true] at k8
          clear k7 ho8 hL7 hL8 hT7 hN7 hS7 u07 u8
          go_wp2_with fail
          refine k8.mono ?_
          rintro e w9 ⟨rfl, u9'⟩
          have u9 := u9'.bl
          have hT9 := hT8.bl u9
          have hN9 := hN8.bl u9
          have hS9 := hS8.bl u9
          have u09 := bl_step u08 u9
          have k9 := full_any _ w9 ta n tc A hT9 HA.out.1 HA.out.2.1 HA.out.2.2.1 HA.out.2.2.2.1 HA.out.2.2.2.2
          rw [hFF.out] at k9
          clear k8 u9' hT8 hN8 hS8 u08 u9
          go_wp2_with fail
          refine k9.mono ?_
          rintro e w10 ⟨v10, rfl, ho10, u10⟩
          obtain ⟨a10, c10, rfl, hL10⟩ := LR.own ho10
          have u010 := bl_step u09 u10
          have k10 := refFull_any w10 na n nc sa sc A (hN9.bl u10) (hS9.bl u10) HD.out.1 HD.out.2 HA.out.1 HA.out.2.2.2.1
          unfold FlPost at k10
          rw [hFF.out] at k10
          clear k9 ho10 u09 hT9 hN9 hS9 u10
          go_wp2_with fail
          refine k10.mono ?_
          rintro e w11 ⟨⟨v11, rfl, ho11⟩, u11⟩
          obtain ⟨a11, c11, rfl, hL11⟩ := LR.own ho11
          have u011 := bl_step u010 u11
          have k11 := same_any w11 a10 FF.length c10 FF (hL10.up u11) a11 FF.length c11 FF hL11
          simp only [decide_true] at k11
          clear k10 ho11 hL10 hL11 u010 u11
          go_wp2_with fail
          refine k11.mono ?_
          rintro e w12 ⟨rfl, u12⟩
          have u012 := bl_step u011 u12.bl
          have k12 := full_any _ w12 none 0 0 [] (tl_nil _) (by simp [allT]) (by simp [allT]) (by simp [allT]) (by simp) (by simp)
          have e1 : fullT [] = [] := rfl
          rw [e1] at k12
          simp only [List.length_nil] at k12
          clear k11 u12 u011
          go_wp2_with fail
          refine k12.mono ?_
          rintro e w13 ⟨v13, rfl, ho13, u13⟩
          obtain ⟨a13, c13, rfl, -⟩ := LR.own ho13
          have u013 := bl_step u012 u13
          have k13 := known_any _ w13 none 0 0 [] (tl_nil _) (by simp [allT]) (by simp [allT])
          have e2 : knownT [] = [] := rfl
          rw [e2] at k13
          clear k12 ho13 u012 u13
          go_wp2_with fail
          refine k13.mono ?_
          rintro e w14 ⟨v14, rfl, ho14, u14⟩
          obtain ⟨a14, c14, rfl, -, -⟩ := ho14.er2
          have u014 := bl_step u013 u14
          have k14 := chosen_any _ w14 none 0 0 [] (tl_nil _)
          have e3 : chT [] = -1 := rfl
          rw [e3] at k14
          clear k13 ho14 u013 u14
          go_wp2_with fail
          refine k14.mono ?_
          rintro e w15 ⟨rfl, u15⟩
          have u015 := bl_step u014 u15
          have k15 := next_any _ w15 none 0 0 [] (tl_nil _)
          have e4 : nxT [] = 1 := rfl
          rw [e4] at k15
          clear k14 u014 u15
          go_wp2_with fail
          refine k15.mono ?_
          rintro e w16 ⟨rfl, u16⟩
          have uf := bl_step u015 u16
          clear k15
          go_wp2
          go_ret
          exact ⟨rfl, uf⟩
set_option maxRecDepth 100000 in
theorem lifted (os : Os) (started : os.Started) (H : Type) (enc : TypeId × Value → H) :
    ReturnsInHanded {} Try.checked os 10 .any (Rows.exchangeKeepsSpec.pre6 enc Try.prog Try.f10 Rows.exchangeKeepsRow.domain false) (Rows.exchangeKeepsSpec.post enc Try.prog Try.f10 false true false false) := by
  refine returnsInHanded_of_change_sized (C := Try.checked) own started (by kernel_rfl) Try.func10
    (ChangeSpec.witness6 (enc := enc) (C := Try.checked) false ⟨#[], #[.slice none 0 0], []⟩ 12 (by kernel_rfl) (by kernel_rfl) (by kernel_rfl) (by kernel_rfl)) ?_
  intro W base args ds gs before hval0 hW hcnd hsz0 _
  have hsz : (DataW.weightsEach Try.prog (Try.f10.params.toList ++ Rows.exchangeKeepsSpec.plain.varTypes Try.prog) (ds ++ gs)).all (· ≤ reachBytes) = true := hsz0
  have hval : ∀ (j : Nat) t v, Try.f10.params[j]? = some t → args[j]? = some v → Value.okWide Try.prog W .any base t v := hval0
  have hW' := hW
  obtain ⟨p, q, hA0, hV, rfl, hfz, hnd⟩ := hW
  have hA : DataW.TrodAll enc Try.prog W 0 (fun _ => true) true Try.f10.params.toList args.toList ds p := hA0
  rw [Try.params10] at hA hval hsz
  obtain ⟨v0, vs0, d0, ds0, p0, q0, hargs0, rfl, rfl, h0, r0⟩ := trodAll_cons hA
  obtain ⟨rfl, rfl, rfl⟩ := trodAll_nil r0
  obtain rfl : args = #[v0] := by cases args; simp_all
  obtain ⟨rfl, rfl⟩ := trodVars_none hV
  obtain ⟨a0, len0, cap0, rfl⟩ := okWide_slice Try.underlying43 (hval 0 43 v0 rfl rfl)
  have k0 := h0
  have lt0 : ∀ x ∈ p0, x.block < W.heap.size := by obtain ⟨m, hm⟩ := k0; exact DataW.trod_lt m _ _ _ hm
  obtain ⟨xs0, hx0, ho0, hl0⟩ := open_sums h0 (fits_of hsz (j := 0) rfl rfl)
  clear hA0 hval0 hsz hsz0
  refine (walk W a0 len0 cap0 xs0 hx0 ho0).mono fun e W' ⟨he, bel⟩ => ?_
  subst he
  exact ⟨_, rfl, _, _, _, [], _, [], hW', trodAll_mk1 (shut_bool Try.underlying4 _), (trodAll_cons_mk (Below.trod laidOut (by kernel_rfl) (of_decide_eq_true (by kernel_rfl)) k0 bel lt0) trodAll_mk0), rfl, bel.frame _, fun h => by cases h⟩

theorem over : Rows.exchangeKeepsRow.holds Try.pinned (OpenSpec.ofChange Rows.exchangeKeepsSpec) :=
  OpenClaim.holds_of_wide 10 Try.f10 rfl rfl rfl rfl rfl rfl rfl ⟨rfl, rfl, rfl, rfl, rfl⟩ rfl rfl rfl rfl rfl (by kernel_rfl) Try.func10 (by kernel_rfl)
    (of_decide_eq_true (by kernel_rfl)) (by unfold Func.isWrapper; first | (rw [if_pos (by decide +kernel)]; kernel_rfl) | (rw [if_neg (by decide +kernel)]; exact ⟨rfl, rfl⟩))
    (fun os started H enc _ => lifted os started H enc)

end Go.Proofs.Ytooeemhlpmiceaa.exchangeKeeps
namespace Go.Proofs.Ytooeemhlpmiceaa
theorem exchangeKeeps_holds : Rows.ExchangeKeepsSaid := exchangeKeeps.over
#print axioms exchangeKeeps_holds
end Go.Proofs.Ytooeemhlpmiceaa
