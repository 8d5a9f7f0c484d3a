/-
  ExchangeFull: the full order starts with the short one, holds every label that was told, and what stands behind the short one rises. For all lists of summaries; no condition but the form's reach.
-/
import Derived.Test.YtooeemhlpmiceaaXTurn
import Derived.Test.YtooeemhlpmiceaaXKnown
namespace Go.Proofs.Ytooeemhlpmiceaa.exchangeFull
open Go.ChangeShapes Go.WideShapes Go.ChangeAt Go.RowKit Go.Deep
set_option linter.unusedVariables false
set_option linter.unusedSimpArgs false

theorem sl_of {w w' : World} {ss : List Pt} {m : Nat} {e : Ending} (h : ToldPost w w' ss m e) : ∃ ta tc vn sa sc, e = .returned (.tuple #[.slice ta ss.length tc, vn, .slice sa ss.length sc]) ∧ TL (fun _ => True) w' ta ss.length (toldL ss m) ∧ SL (fun _ => True) w' sa ss.length (toldL ss m) ∧ Below w.heap.size w w' := by
  obtain ⟨p, vt, vn, vs, els, rfl, hT, hp⟩ := h
  obtain ⟨ta, tc, rfl, hl⟩ := hT.tl
  obtain ⟨sa, sc, rfl, hs⟩ := hT.sl
  have hlen : els.length = ss.length := by have := congrArg List.length hp; simpa [toldL] using this
  rw [hp, hlen] at hl hs
  rw [hlen]
  exact ⟨ta, tc, vn, sa, sc, rfl, hl, hs, hT.bl⟩
/-- A row of one's own, spelt out: nothing, or a block. -/
def Own1 (w : World) (fa : Option Addr) (fc : Nat) (ls : List Lb) : Prop := LR w fa ls.length ls ∧ ls.length ≤ fc ∧ ((fa = none ∧ fc = 0) ∨ ∃ g, fa = some ⟨g, 0, none⟩)
theorem own1 {w : World} {B : Nat} {v : Value} {ls : List Lb} (h : w.ownsRow B 34 4 v ls.length (flat ls)) : ∃ fa fc, v = .slice fa ls.length fc ∧ Own1 w fa fc ls := by
  obtain ⟨fa, fc, rfl, hL⟩ := LR.own h
  refine ⟨fa, fc, rfl, hL, ?_⟩
  rcases id h.2 with ⟨hn, h3⟩ | ⟨g, cap', cur, hs, _, _, hnc, _⟩
  · simp at hn
    exact ⟨by omega, .inl ⟨hn.1, hn.2.2⟩⟩
  · simp at hs
    exact ⟨by omega, .inr ⟨g, hs.1⟩⟩
theorem Own1.bl {w w' : World} {fa : Option Addr} {fc : Nat} {ls : List Lb} (h : Own1 w fa fc ls) (u : Below w.heap.size w w') : Own1 w' fa fc ls := ⟨h.1.up u, h.2⟩
theorem LR.pre {w : World} {fa : Option Addr} {n : Nat} {ls : List Lb} (h : LR w fa n ls) (k : Nat) (hk : k ≤ n) : LR w fa k (ls.take k) := by
  have hl := h.1
  refine ⟨by rw [List.length_take]; omega, by have := h.2.1; omega, fun hn => ?_⟩
  obtain ⟨b, off, e, hc⟩ := h.2.2 (by omega)
  refine ⟨b, off, e, fun j x hj => hc j x ?_⟩
  rw [List.getElem?_take] at hj
  split at hj
  · exact hj
  · cases hj
/-- What stands behind the short one: new, and rising. -/
theorem full_tail (A : List Pt) (i : Nat) (x : Lb) (h : (fullT A)[i]? = some x) (hi : (shortT A).length ≤ i) : x ∉ (fullT A).take i ∧ ∀ y, (shortT A).length < i → (fullT A)[i - 1]? = some y → ltL y x := by
  have hr : (out (shortT A) ((knownT A).map (·.1))).Pairwise ltL := (known_asc A).filter _
  have hno : ∀ z ∈ out (shortT A) ((knownT A).map (·.1)), z ∉ shortT A := fun z hz => by
    unfold out at hz
    have := (List.mem_filter.1 hz).2
    simpa using this
  unfold fullT at h ⊢
  generalize out (shortT A) ((knownT A).map (·.1)) = O at *
  generalize shortT A = S at *
  rw [List.getElem?_append_right hi] at h
  have key : ∀ j y, j < i - S.length → O[j]? = some y → ltL y x := fun j y hj hy => by
    obtain ⟨h1, e1⟩ := List.getElem?_eq_some_iff.1 h
    obtain ⟨h2, e2⟩ := List.getElem?_eq_some_iff.1 hy
    rw [← e1, ← e2]
    exact List.pairwise_iff_getElem.1 hr j (i - S.length) h2 h1 hj
  refine ⟨fun hm => ?_, fun y hlt hy => ?_⟩
  · rw [List.take_append, List.mem_append] at hm
    rcases hm with hm | hm
    · exact hno x (List.mem_of_getElem? h) (List.mem_of_mem_take hm)
    · obtain ⟨j, hj⟩ := List.mem_iff_getElem?.1 hm
      rw [List.getElem?_take] at hj
      split at hj
      · rename_i hlt
        exact ltL_irr x (key j x hlt hj)
      · cases hj
  · rw [List.getElem?_append_right (by omega)] at hy
    exact key (i - 1 - S.length) y (by omega) hy
theorem full_has (A : List Pt) (e : En) (h : e ∈ knownT A) : e.1 ∈ fullT A := by
  unfold fullT
  rw [List.mem_append]
  by_cases hs : e.1 ∈ shortT A
  · exact .inl hs
  · refine .inr (List.mem_filter.2 ⟨List.mem_map.2 ⟨e, h, rfl⟩, by simpa using hs⟩)
def S17 (b o : Nat) (x : Lb) (w : World) : Prop := w.cell? ⟨b, o, none⟩ = some (.int .u64 (x.1 : Nat)) ∧ w.cell? ⟨b, o + 1, none⟩ = some (.int .i64 x.2.1) ∧ w.cell? ⟨b, o + 2, none⟩ = some (.int .u64 (x.2.2.1 : Nat)) ∧ w.cell? ⟨b, o + 3, none⟩ = some (.int .i64 x.2.2.2)
def S18 (b o1 o2 : Nat) (y x : Lb) (w : World) : Prop := (w.cell? ⟨b, o1, none⟩ = some (.int .u64 (y.1 : Nat)) ∧ w.cell? ⟨b, o1 + 1, none⟩ = some (.int .i64 y.2.1) ∧ w.cell? ⟨b, o1 + 2, none⟩ = some (.int .u64 (y.2.2.1 : Nat)) ∧ w.cell? ⟨b, o1 + 3, none⟩ = some (.int .i64 y.2.2.2)) ∧ (w.cell? ⟨b, o2, none⟩ = some (.int .u64 (x.1 : Nat)) ∧ w.cell? ⟨b, o2 + 1, none⟩ = some (.int .i64 x.2.1) ∧ w.cell? ⟨b, o2 + 2, none⟩ = some (.int .u64 (x.2.2.1 : Nat)) ∧ w.cell? ⟨b, o2 + 3, none⟩ = some (.int .i64 x.2.2.2))

set_option maxRecDepth 20000 in
set_option maxHeartbeats 4000000 in
theorem walk (w : World) (ao : Option Addr) (n cap : Nat) (ss : List Pt) (h : SL (fun _ => True) w ao n ss) (hok : ∀ t ∈ ss, OkP t) :
    Calls Try.prog 9 #[.slice ao n cap] w fun e w' => e = .returned (.bool true) ∧ Below w.heap.size w w' := by
  have haw := fun W => awakeX_any W
  have hl := h.1
  go_enter Try.func9, Try.ntmps9
  go_wp2_with fail
  refine (haw _).mono ?_
  rintro e w1 ⟨rfl, u1⟩
  have kf := few_any w1 ao n cap ss (h.bl u1) (fun t ht => by have := (hok t ht).2.2.1; have := (hok t ht).2.2.2.1; unfold szP; omega)
  go_wp2_with fail
  refine kf.mono ?_
  rintro e w2 ⟨⟨r, rfl, hr⟩, u2⟩
  have u02 := bl_step u1 u2
  clear kf
  cases r with
  | false =>
    go_wp2_with fail
    refine (haw _).mono ?_
    rintro e wz ⟨rfl, uz⟩
    have uf := bl_step u02 uz
    go_wp2
    go_ret
    exact ⟨rfl, uf⟩
  | true =>
  obtain ⟨hn, hsum⟩ := hr rfl
  clear haw hr
  have HLE : Hid (∀ t ∈ ss, t.es.length ≤ 10000) := fun t ht => by have := sum_mem ht; unfold szP at this; omega
  have k1 := told_any w2 ao n cap ss (h.bl u02) (by omega) HLE.out 0 (by omega)
  go_wp2_with fail
  refine k1.mono ?_
  rintro e w3 hP
  obtain ⟨ta, tc, vn, sa, sc, rfl, hT, hS, u3⟩ := sl_of hP
  have u03 := bl_step u02 u3
  rw [hl] at hT hS
  rw [hl]
  have HA : Hid ((allT (toldL ss 0)).length ≤ 1000 ∧ (∀ e ∈ allT (toldL ss 0), e.2.length ≤ 140737488355328) ∧ (∀ e ∈ allT (toldL ss 0), OkL e.1) ∧ (∀ t ∈ toldL ss 0, t.ls.length ≤ 1000) ∧ ∀ t ∈ toldL ss 0, ∀ x ∈ t.ls, OkL x) :=
    ⟨by have := told_all_le ss 0; omega, fun e he => (told_eok hok e he).2, fun e he => (told_eok hok e he).1, fun t ht => by have := told_ls ht; omega, told_lok hok⟩
  generalize toldL ss 0 = A at *
  clear k1 hP hok HLE u1 u2 u3 u02 h hl hsum
  have k3 := short_any _ w3 ta n tc A hT HA.out.2.2.2.1
  go_wp2_with fail
  refine k3.mono ?_
  rintro e w4 ⟨v4, rfl, ho4, u4⟩
  obtain ⟨pa, pc, rfl, hP4⟩ := own1 ho4
  have hT4 := hT.bl u4
  have hS4 := hS.bl u4
  have u04 := bl_step u03 u4
  have k4 := full_any _ w4 ta n tc A hT4 HA.out.1 HA.out.2.1 HA.out.2.2.1 HA.out.2.2.2.1 HA.out.2.2.2.2
  clear k3 ho4 hT hS u03 u4
  go_wp2_with fail
  refine k4.mono ?_
  rintro e w5 ⟨v5, rfl, ho5, u5⟩
  obtain ⟨fa, fc, rfl, hF5⟩ := own1 ho5
  have hS5 := hS4.bl u5
  have hP5 := hP4.bl u5
  have u05 := bl_step u04 u5
  have k5 := refKnown_any w5 sa n sc A hS5 HA.out.1
  clear k4 ho5 hT4 hS4 hP4 u04 u5
  go_wp2_with fail
  refine k5.mono ?_
  rintro e w6 ⟨⟨ka, kc, rfl, hK6⟩, u6⟩
  have hP6 := hP5.bl u6
  have hF6 := hF5.bl u6
  have u06 := bl_step u05 u6
  clear k5 hP5 hF5 hS5 u05 u6 HA
  have HTAIL : Hid (∀ (i : Nat) (x : Lb), (fullT A)[i]? = some x → (shortT A).length ≤ i → x ∉ (fullT A).take i ∧ ∀ y, (shortT A).length < i → (fullT A)[i - 1]? = some y → ltL y x) := full_tail A
  have HHAS : Hid (∀ e ∈ knownT A, e.1 ∈ fullT A) := full_has A
  have HPRE : Hid ((fullT A).take (shortT A).length = shortT A) := by show _ = _; unfold fullT; simp
  have hsf : (shortT A).length ≤ (fullT A).length := by unfold fullT; simp
  generalize knownT A = K at *
  generalize fullT A = F at *
  generalize shortT A = S at *
  obtain ⟨hPL, -, -⟩ := hP6
  obtain ⟨hFL, hFc, hFa⟩ := hF6
  have hlt7 : ¬ ((F.length : Int) < (S.length : Int)) := by omega
  have hcap7 : ¬ ((fc : Int) < (S.length : Int)) := by omega
  have hPre := LR.pre hFL S.length hsf
  rw [HPRE.out] at hPre
  rcases hFa with ⟨rfl, rfl⟩ | ⟨g, rfl⟩
  · obtain rfl : F = [] := List.eq_nil_of_length_eq_zero (by omega)
    obtain rfl : S = [] := List.eq_nil_of_length_eq_zero (by simp only [List.length_nil] at hsf; omega)
    obtain rfl : K = [] := by
      cases K with
      | nil => rfl
      | cons e r => exact absurd (HHAS.out e (by simp)) (by simp)
    simp only [List.length_nil] at hPre hPL hFL
    have k7 := same_any w6 none 0 0 [] hPre pa 0 pc [] hPL
    simp only [decide_true] at k7
    clear hlt7 hcap7 hFc hsf HHAS HTAIL HPRE hK6 hFL hPre hPL
    go_wp2_with fail
    refine k7.mono ?_
    rintro e w7 ⟨rfl, u7⟩
    have u07 := bl_step u06 u7.bl
    clear k7 u06 u7
    go_wp2_with fail
    go_loopw [9] (fun iv wr => iv = .int .i64 0 ∧ Below w7.heap.size w7 wr) (fun _ _ => 0)
    case atStart => exact ⟨rfl, Below.refl _ _⟩
    case round =>
      obtain ⟨rfl, hb⟩ := hrel
      have u08 := bl_step u07 hb
      go_wp2_with fail
      go_loopw [10] (fun iv wx => iv = .int .i64 0 ∧ Below wr.heap.size wr wx) (fun _ _ => 0)
      case atStart => exact ⟨rfl, Below.refl _ _⟩
      case round =>
        obtain ⟨rfl, hb2⟩ := hrel
        have u09 := bl_step u08 hb2
        go_wp2
        go_ret
        exact ⟨rfl, u09⟩
  · have hlt7n : ¬ (F.length < S.length) := by omega
    have k7 := same_any w6 (some ⟨g, 0, none⟩) S.length fc S hPre pa S.length pc S hPL
    simp only [decide_true] at k7
    go_wp2_with fail
    refine k7.mono ?_
    rintro e w7 ⟨rfl, u7⟩
    have u07 := bl_step u06 u7.bl
    have hF7 := hFL.up u7.bl
    have hK7 := hK6.bl u7.bl
    have hkm := hK7.2.1
    clear k7 hPre hPL hFL hK6 u06 u7
    go_wp2_with fail
    go_loopw [9] (fun iv wr => ∃ (k : Nat), k ≤ K.length ∧ iv = .int .i64 k ∧ Below w7.heap.size w7 wr) (fun iv _ => K.length - (intOf iv).toNat)
    case atStart => exact ⟨0, by omega, rfl, Below.refl _ _⟩
    case round =>
      obtain ⟨k, hk, rfl, hb⟩ := hrel
      by_cases hlt : k < K.length
      · have hltI : (k : Int) < (K.length : Int) := by omega
        have hk0 : ¬ ((k : Int) < 0) := by omega
        obtain ⟨e, he⟩ : ∃ z, K[k]? = some z := ⟨K[k], List.getElem?_eq_getElem _⟩
        obtain ⟨b, off, hka, _, hc⟩ := (hK7.bl hb).2.2 (by omega)
        obtain ⟨so, sn, sc2, c0, c1, c2, c3, c4, _, _⟩ := hc k e he
        have hin := fun W (u : Below wr.heap.size wr W) => in_any W (some ⟨g, 0, none⟩) F.length fc F ((hF7.up hb).up u) e.1
        have hm := HHAS.out e (List.mem_of_getElem? he)
        simp only [hm, decide_true] at hin
        unfold lab at hin
        subst hka
        have hin0 := hin _ (Below.refl _ _)
        clear hc he hm hin
        obtain ⟨ex, em⟩ := e
        simp only at c0 c1 c2 c3 hin0
        go_wp2_with fail
        refine hin0.mono ?_
        rintro eo w8 ⟨rfl, u8⟩
        have hb2 := bl_step hb u8.bl
        clear hin0 c0 c1 c2 c3 c4
        go_wp2
        go_roundw
        case rel => first | exact ⟨k + 1, by omega, by go_num, hb2⟩ | ((repeat apply Exists.intro); exact ⟨⟨k + 1, by omega, by go_num, hb2⟩, rfl⟩)
        case measure => simp [intOf]; omega
      · obtain rfl : k = K.length := by omega
        have hltI : ¬ ((K.length : Int) < (K.length : Int)) := by omega
        have hF8 := hF7.up hb
        have u08 := bl_step u07 hb
        clear hF7 u07 hb hK7 HHAS
        go_wp2_with fail
        go_loopw [10] (fun iv wx => ∃ (i : Nat), S.length ≤ i ∧ i ≤ F.length ∧ iv = .int .i64 i ∧ Below wr.heap.size wr wx) (fun iv _ => F.length - (intOf iv).toNat)
        case atStart => exact ⟨S.length, by omega, by omega, rfl, Below.refl _ _⟩
        case round =>
          obtain ⟨i, hi0, hi, rfl, hb⟩ := hrel
          have hF9 := hF8.up hb
          have u09 := bl_step u08 hb
          by_cases hlt : i < F.length
          · have hltI : (i : Int) < (F.length : Int) := by omega
            have hk0 : ¬ ((i : Int) < 0) := by omega
            have hcI : ¬ ((fc : Int) < (i : Int)) := by omega
            have hmax := hF9.2.1
            obtain ⟨x, hx⟩ : ∃ z, F[i]? = some z := ⟨F[i], List.getElem?_eq_getElem _⟩
            obtain ⟨b, off, hka, hc⟩ := hF9.2.2 (by omega)
            simp only [Option.some.injEq, Addr.mk.injEq, and_true] at hka
            obtain ⟨rfl, rfl⟩ := hka
            simp only [Nat.zero_add] at hc
            have hcx := hc i x hx
            have hT := HTAIL.out i x hx hi0
            have ud : Below wr.heap.size wr wr.drew := (Below.refl _ _).drew
            have hPr := (LR.pre hF9 i (by omega)).up ud
            have hin := in_any wr.drew (some ⟨g, 0, none⟩) i fc (F.take i) hPr x
            have hno := hT.1
            simp only [hno, decide_false] at hin
            unfold lab at hin
            by_cases hgt : S.length < i
            · have hgtI : (i : Int) > (S.length : Int) := by omega
              obtain ⟨y, hy⟩ : ∃ z, F[i - 1]? = some z := ⟨F[i - 1], List.getElem?_eq_getElem _⟩
              have hcy := hc (i - 1) y hy
              have hyx := hT.2 y hgt hy
              have hls := fun W => less_any W y x
              have hdd : decide (cmpL y x < 0) = true := by rw [decide_eq_true_eq]; exact (cmpL_lt y x).2 hyx
              simp only [hdd] at hls
              unfold lab at hls
              have hsub : IntKind.i64.wrap ((i : Int) - 1) = ((i - 1 : Nat) : Int) := by rw [i64_in _ (by omega)]; omega
              have hsb0 : ¬ (((i - 1 : Nat) : Int) < 0) := by omega
              have hsb1 : ((i - 1 : Nat) : Int) < (F.length : Int) := by omega
              have HS : Hid (∀ W : World, Below wr.heap.size wr W → S18 g ((i - 1) * 4) (i * 4) y x W) := fun W u => ⟨⟨bl_cell u hcy.1, bl_cell u hcy.2.1, bl_cell u hcy.2.2.1, bl_cell u hcy.2.2.2⟩, ⟨bl_cell u hcx.1, bl_cell u hcx.2.1, bl_cell u hcx.2.2.1, bl_cell u hcx.2.2.2⟩⟩
              have s0 := HS.out _ ud
              unfold S18 at s0
              clear hc hcx hcy hx hy hT hno hPr hyx hdd hF9 hF8
              go_wp2_with fail
              refine wp_region_noPanic ?_
              refine wp_region_held_drew (S := S18 g ((i - 1) * 4) (i * 4) y x) (by kernel_rfl) s0 (fun hHeld => ?_)
              unfold S18 at hHeld
              refine tq 0 ?_
              refine tq 1 ?_
              refine tq 2 ?_
              refine tq 3 ?_
              refine tq 4 ?_
              refine tq 5 ?_
              refine tq 6 ?_
              refine comes_up 7 rfl (by kernel_rfl) (fun K hK => ?_)
              go_simp
              refine hin.mono ?_
              rintro e w9 ⟨rfl, hu9⟩
              have u9 := bl_step ud hu9.bl
              clear hin s0
              go_wp2_with fail
              refine hK.out _ _ (HS.out _ u9) (fun hHeld => ?_)
              clear hK K
              (try simp only [Act.put, List.setIfInBounds_toArray, List.set_cons_zero, List.set_cons_succ])
              refine tq 8 ?_
              refine tq 9 ?_
              refine tq 10 ?_
              refine tq 11 ?_
              refine tq 12 ?_
              refine tq 13 ?_
              refine tq 14 ?_
              refine tq 15 ?_
              refine tq 16 ?_
              refine tq 17 ?_
              refine tq 18 ?_
              refine tq 19 ?_
              refine tq 20 ?_
              refine tq 21 ?_
              refine tq 22 ?_
              refine comes_up 23 rfl (by kernel_rfl) (fun K hK => ?_)
              go_simp
              refine (hls _).mono ?_
              rintro e w10 ⟨rfl, hu10⟩
              have u10 := bl_step u9 hu10.bl
              have hb10 := bl_step hb u10
              clear hls
              go_wp2_with fail
              refine hK.out _ _ (HS.out _ u10) (fun hHeld => ?_)
              clear hK K
              (try simp only [Act.put, List.setIfInBounds_toArray, List.set_cons_zero, List.set_cons_succ])
              refine tq 24 ?_
              refine tq 25 ?_
              refine tq 26 ?_
              refine wpAnyH_done (by kernel_rfl) ?_ _
              refine NoPanic.normal ?_
              clear hHeld
              go_wp2
              go_roundw
              case rel => first | exact ⟨i + 1, by omega, by omega, by go_num, hb10⟩ | ((repeat apply Exists.intro); exact ⟨⟨i + 1, by omega, by omega, by go_num, hb10⟩, rfl⟩)
              case measure => simp [intOf]; omega
            · have hgtI : ¬ ((i : Int) > (S.length : Int)) := by omega
              have HS : Hid (∀ W : World, Below wr.heap.size wr W → S17 g (i * 4) x W) := fun W u => ⟨bl_cell u hcx.1, bl_cell u hcx.2.1, bl_cell u hcx.2.2.1, bl_cell u hcx.2.2.2⟩
              have s0 := HS.out _ ud
              unfold S17 at s0
              clear hc hcx hx hT hno hPr hF9 hF8
              go_wp2_with fail
              refine wp_region_noPanic ?_
              refine wp_region_held_drew (S := S17 g (i * 4) x) (by kernel_rfl) s0 (fun hHeld => ?_)
              unfold S17 at hHeld
              refine tq 0 ?_
              refine tq 1 ?_
              refine tq 2 ?_
              refine tq 3 ?_
              refine tq 4 ?_
              refine tq 5 ?_
              refine tq 6 ?_
              refine comes_up 7 rfl (by kernel_rfl) (fun K hK => ?_)
              go_simp
              refine hin.mono ?_
              rintro e w9 ⟨rfl, hu9⟩
              have u9 := bl_step ud hu9.bl
              have hb10 := bl_step hb u9
              clear hin s0
              go_wp2_with fail
              refine hK.out _ _ (HS.out _ u9) (fun hHeld => ?_)
              clear hK K
              (try simp only [Act.put, List.setIfInBounds_toArray, List.set_cons_zero, List.set_cons_succ])
              refine tq 8 ?_
              refine tq 9 ?_
              refine tq 10 ?_
              refine tq 11 ?_
              refine tq 12 ?_
              refine tq 13 ?_
              refine tqS 14 ?_
              refine tqS 15 ?_
              refine tqS 16 ?_
              refine tqS 17 ?_
              refine tqS 18 ?_
              refine tqS 19 ?_
              refine tqS 20 ?_
              refine tqS 21 ?_
              refine tqS 22 ?_
              refine tqS 23 ?_
              refine tqS 24 ?_
              refine tq 25 ?_
              refine tq 26 ?_
              refine wpAnyH_done (by kernel_rfl) ?_ _
              refine NoPanic.normal ?_
              clear hHeld
              go_wp2
              go_roundw
              case rel => first | exact ⟨i + 1, by omega, by omega, by go_num, hb10⟩ | ((repeat apply Exists.intro); exact ⟨⟨i + 1, by omega, by omega, by go_num, hb10⟩, rfl⟩)
              case measure => simp [intOf]; omega
          · obtain rfl : i = F.length := by omega
            have hltI : ¬ ((F.length : Int) < (F.length : Int)) := by omega
            go_wp2
            go_ret
            exact ⟨rfl, u09⟩
set_option maxRecDepth 100000 in
theorem lifted (os : Os) (started : os.Started) (H : Type) (enc : TypeId × Value → H) :
    ReturnsInHanded {} Try.checked os 9 .any (Rows.exchangeFullSpec.pre6 enc Try.prog Try.f9 Rows.exchangeFullRow.domain false) (Rows.exchangeFullSpec.post enc Try.prog Try.f9 false true false false) := by
  refine returnsInHanded_of_change_sized (C := Try.checked) own started (by kernel_rfl) Try.func9
    (ChangeSpec.witness6 (enc := enc) (C := Try.checked) false ⟨#[], #[.slice none 0 0], []⟩ 12 (by kernel_rfl) (by kernel_rfl) (by kernel_rfl) (by kernel_rfl)) ?_
  intro W base args ds gs before hval0 hW hcnd hsz0 _
  have hsz : (DataW.weightsEach Try.prog (Try.f9.params.toList ++ Rows.exchangeFullSpec.plain.varTypes Try.prog) (ds ++ gs)).all (· ≤ reachBytes) = true := hsz0
  have hval : ∀ (j : Nat) t v, Try.f9.params[j]? = some t → args[j]? = some v → Value.okWide Try.prog W .any base t v := hval0
  have hW' := hW
  obtain ⟨p, q, hA0, hV, rfl, hfz, hnd⟩ := hW
  have hA : DataW.TrodAll enc Try.prog W 0 (fun _ => true) true Try.f9.params.toList args.toList ds p := hA0
  rw [Try.params9] at hA hval hsz
  obtain ⟨v0, vs0, d0, ds0, p0, q0, hargs0, rfl, rfl, h0, r0⟩ := trodAll_cons hA
  obtain ⟨rfl, rfl, rfl⟩ := trodAll_nil r0
  obtain rfl : args = #[v0] := by cases args; simp_all
  obtain ⟨rfl, rfl⟩ := trodVars_none hV
  obtain ⟨a0, len0, cap0, rfl⟩ := okWide_slice Try.underlying43 (hval 0 43 v0 rfl rfl)
  have k0 := h0
  have lt0 : ∀ x ∈ p0, x.block < W.heap.size := by obtain ⟨m, hm⟩ := k0; exact DataW.trod_lt m _ _ _ hm
  obtain ⟨xs0, hx0, ho0, hl0⟩ := open_sums h0 (fits_of hsz (j := 0) rfl rfl)
  clear hA0 hval0 hsz hsz0
  refine (walk W a0 len0 cap0 xs0 hx0 ho0).mono fun e W' ⟨he, bel⟩ => ?_
  subst he
  exact ⟨_, rfl, _, _, _, [], _, [], hW', trodAll_mk1 (shut_bool Try.underlying4 _), (trodAll_cons_mk (Below.trod laidOut (by kernel_rfl) (of_decide_eq_true (by kernel_rfl)) k0 bel lt0) trodAll_mk0), rfl, bel.frame _, fun h => by cases h⟩

theorem over : Rows.exchangeFullRow.holds Try.pinned (OpenSpec.ofChange Rows.exchangeFullSpec) :=
  OpenClaim.holds_of_wide 9 Try.f9 rfl rfl rfl rfl rfl rfl rfl ⟨rfl, rfl, rfl, rfl, rfl⟩ rfl rfl rfl rfl rfl (by kernel_rfl) Try.func9 (by kernel_rfl)
    (of_decide_eq_true (by kernel_rfl)) (by unfold Func.isWrapper; first | (rw [if_pos (by decide +kernel)]; kernel_rfl) | (rw [if_neg (by decide +kernel)]; exact ⟨rfl, rfl⟩))
    (fun os started H enc _ => lifted os started H enc)

end Go.Proofs.Ytooeemhlpmiceaa.exchangeFull
namespace Go.Proofs.Ytooeemhlpmiceaa
theorem exchangeFull_holds : Rows.ExchangeFullSaid := exchangeFull.over
#print axioms exchangeFull_holds
end Go.Proofs.Ytooeemhlpmiceaa
