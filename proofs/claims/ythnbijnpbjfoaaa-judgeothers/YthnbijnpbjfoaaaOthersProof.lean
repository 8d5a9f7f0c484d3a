/-
  JudgeOthers: what was accepted by one more node, of which nothing was delivered and which delivered nothing, changes no verdict of judge.Total. For any lists; no condition but the form's reach.
-/
import Derived.Test.YthnbijnpbjfoaaaJRef
import Derived.Test.YthnbijnpbjfoaaaJAwake
import Derived.Test.YthnbijnpbjfoaaaJArgs
import Derived.Test.YthnbijnpbjfoaaaJApp
namespace Go.Proofs.Ythnbijnpbjfoaaa.judgeOthers
open Go.ChangeShapes Go.WideShapes Go.ChangeAt Go.RowKit Go.Deep
set_option linter.unusedVariables false

theorem more_iff {acc : List (List By)} {del : List (List Di)} {more : List By} (hno : ∀ l ∈ del, ∀ d ∈ l, d.1 ≠ (acc.length : Int)) : (∃ S, SeqOk acc del S) ↔ ∃ S, SeqOk (acc ++ [more]) (del ++ [[]]) S := by
  constructor
  · rintro ⟨S, h1, h2, h3⟩
    refine ⟨S, fun l hl => ?_, ?_, fun k d hd => ?_⟩
    · rw [List.mem_append, List.mem_singleton] at hl
      rcases hl with hl | rfl
      · exact h1 l hl
      · exact List.nil_prefix
    · rcases h2 with h | h
      · exact .inl h
      · exact .inr (List.mem_append_left _ h)
    · obtain ⟨a, own, b, c⟩ := h3 k d hd
      exact ⟨a, own, by rw [List.getElem?_append_left (List.getElem?_eq_some_iff.1 b).1]; exact b, c⟩
  · rintro ⟨S, h1, h2, h3⟩
    have hS : S = [] ∨ S ∈ del := by
      rcases h2 with h | h
      · exact .inl h
      · rw [List.mem_append, List.mem_singleton] at h
        rcases h with h | h
        · exact .inr h
        · exact .inl h
    refine ⟨S, fun l hl => h1 l (List.mem_append_left _ hl), hS, fun k d hd => ?_⟩
    obtain ⟨a, own, b, c⟩ := h3 k d hd
    refine ⟨a, own, ?_, c⟩
    have hne : d.1 ≠ (acc.length : Int) := by
      rcases hS with h | h
      · rw [h] at hd; simp at hd
      · exact hno S h d (List.mem_of_getElem? hd)
    have := (List.getElem?_eq_some_iff.1 b).1
    simp at this
    rwa [List.getElem?_append_left (by omega)] at b
/-- None of the first lists' items is of the new node. -/
def NoF (del : List (List Di)) (n i : Nat) : Prop := ∀ j l, j < i → del[j]? = some l → ∀ k d, k < 200 → l[k]? = some d → d.1 ≠ (n : Int)
theorem NoF.more {del : List (List Di)} {n i : Nat} {l : List Di} {q : Nat} (h : NoF del n i) (hl : del[i]? = some l) (hk : ∀ k d, k < q → l[k]? = some d → d.1 ≠ (n : Int)) (hq : l.length ≤ q ∨ 200 ≤ q) : NoF del n (i + 1) := fun j m hj hm k d hk2 hd => by
  by_cases e : j = i
  · subst e
    rw [hl] at hm
    cases hm
    have := (List.getElem?_eq_some_iff.1 hd).1
    exact hk k d (by omega) hd
  · exact h j m (by omega) hm k d hk2 hd

set_option maxRecDepth 10000 in
set_option maxHeartbeats 4000000 in
theorem walk (w : World) (ao : Option Addr) (n cap : Nat) (acc : List (List By)) (h : Bss w ao n acc) (hc : Cp (ao, n, cap)) (bo : Option Addr) (m c2 : Nat) (del : List (List Di)) (g : Iss w bo m del) (gc : Cp (bo, m, c2)) (eo : Option Addr) (q c3 : Nat) (more : List By) (hb : Bs w eo q more) (bc : Cp (eo, q, c3)) :
    Calls Try.prog 9 #[.slice ao n cap, .slice bo m c2, .slice eo q c3] w fun e w' => e = .returned (.bool true) ∧ Below w.heap.size w w' := by
  have hl := h.len
  have hl2 := g.len
  have hm := h.le
  have hm2 := g.le
  have hm3 := hb.le
  have HI : Hid (Bss w ao n acc ∧ Iss w bo m del ∧ Bs w eo q more ∧ Cp (ao, n, cap) ∧ Cp (bo, m, c2) ∧ Cp (eo, q, c3) ∧ ∀ l ∈ del, l.length ≤ 4398046511104) := ⟨h, g, hb, hc, gc, bc, g.lens⟩
  clear h g hc gc hb bc
  go_enter Try.func9, Try.ntmps9
  go_wp2_with fail
  refine (awake_any _).mono ?_
  rintro e w1 ⟨rfl, b1⟩
  have HB : Hid (Below w.heap.size w w1) := b1
  clear b1
  by_cases hn : n ≤ 8
  case neg =>
    have hnI : (n : Int) > 8 := by omega
    go_wp2_with fail
    refine (awake_any _).mono ?_
    rintro e w2 ⟨rfl, b2⟩
    have HE : Hid (Below w.heap.size w w2) := HB.out.trans (b2.mono HB.out.size)
    clear b2
    go_wp2
    go_ret
    exact ⟨rfl, HE.out⟩
  have hnI : ¬ ((n : Int) > 8) := by omega
  by_cases hmm : m ≤ 8
  case neg =>
    have hmI : (m : Int) > 8 := by omega
    go_wp2_with fail
    refine (awake_any _).mono ?_
    rintro e w2 ⟨rfl, b2⟩
    have HE : Hid (Below w.heap.size w w2) := HB.out.trans (b2.mono HB.out.size)
    clear b2
    go_wp2
    go_ret
    exact ⟨rfl, HE.out⟩
  have hmI : ¬ ((m : Int) > 8) := by omega
  by_cases hqq : q ≤ 20
  case neg =>
    have hqI : (q : Int) > 20 := by omega
    go_wp2_with fail
    refine (awake_any _).mono ?_
    rintro e w2 ⟨rfl, b2⟩
    have HE : Hid (Below w.heap.size w w2) := HB.out.trans (b2.mono HB.out.size)
    clear b2
    go_wp2
    go_ret
    exact ⟨rfl, HE.out⟩
  have hqI : ¬ ((q : Int) > 20) := by omega
  go_wp2_with fail
  go_loopw [7, 8, 9] (fun sv iv _ wr => ∃ i s : Nat, i ≤ m ∧ iv = .int .i64 (i : Nat) ∧ sv = .int .i64 (s : Nat) ∧ s = sumL del i ∧ NoF del n i ∧ Below w.heap.size w wr) (fun _ iv _ _ => m - (intOf iv).toNat)
  case atStart => exact ⟨0, 0, by omega, rfl, rfl, (sumL_zero _).symm, fun j l hj => by omega, HB.out⟩
  case round =>
    obtain ⟨i, s, hi, rfl, rfl, hs, hno, hbl⟩ := hrel
    have HS : Hid (s = sumL del i ∧ NoF del n i) := ⟨hs, hno⟩
    clear hs hno
    by_cases hlt : i < m
    · have hltI : (i : Int) < (m : Int) := by omega
      have hi0 : ¬ ((i : Int) < 0) := by omega
      obtain ⟨l, hdl⟩ : ∃ l, del[i]? = some l := ⟨del[i]'(by omega), List.getElem?_eq_getElem (by omega)⟩
      obtain ⟨b, off, r, rfl, q0, _, hqi⟩ := (Iss.up HI.out.2.1 hbl).at hdl
      have hql := hqi.len
      have HN : Hid (s + r.2.1 = sumL del (i + 1)) := by
        show _ = _
        rw [sumL_step hdl, ← HS.out.1, hql]
      have hsb : s + r.2.1 ≤ (i + 1) * 4398046511104 := by rw [HN.out]; exact sumL_le _ _ HI.out.2.2.2.2.2.2
      have hsb2 : s + r.2.1 ≤ 100000000000000 := by omega
      have HL : Hid (del[i]? = some l ∧ l.length = r.2.1 ∧ Its (fun _ => True) wr r.1 r.2.1 l ∧ wr.cell? ⟨b, off + i, none⟩ = some (.slice r.1 r.2.1 r.2.2)) := ⟨hdl, hql, hqi, q0⟩
      obtain ⟨qa, qn, qc⟩ := r
      simp only at q0 HN hsb2 HL
      have hw8 : Hid (Below w.heap.size w wr) := hbl
      clear hdl hqi hql hsb hbl
      have hqn : qn ≤ 4398046511104 := HL.out.2.2.1.le
      go_wp2_with fail
      go_loopw [9] (fun kv wr' => ∃ k : Nat, k ≤ qn ∧ k ≤ 200 ∧ kv = .int .i64 (k : Nat) ∧ (∀ k' d, k' < k → l[k']? = some d → d.1 ≠ (n : Int)) ∧ Its (fun _ => True) wr' qa qn l ∧ wr'.cell? ⟨b, off + i, none⟩ = some (.slice qa qn qc) ∧ Below w.heap.size w wr') (fun kv _ => qn - (intOf kv).toNat)
      case atStart => exact ⟨0, by omega, by omega, rfl, fun k' d hk' => by omega, HL.out.2.2.1, q0, hw8.out⟩
      case round =>
        obtain ⟨k, hk, hk2, rfl, hne, hits, q0, hbl⟩ := hrel
        have HK : Hid (∀ k' d, k' < k → l[k']? = some d → d.1 ≠ (n : Int)) := hne
        have HW : Hid (Its (fun _ => True) wr qa qn l ∧ wr.cell? ⟨b, off + i, none⟩ = some (.slice qa qn qc) ∧ Below w.heap.size w wr) := ⟨hits, q0, hbl⟩
        clear hne hits hbl
        by_cases hkq : k < qn
        · have hkI : (k : Int) < (qn : Int) := by omega
          have hk0 : ¬ ((k : Int) < 0) := by omega
          by_cases hk3 : k < 200
          · have hk3I : (k : Int) < 200 := by omega
            obtain ⟨d, hd⟩ : ∃ d, l[k]? = some d := ⟨l[k]'(by have := HL.out.2.1; omega), List.getElem?_eq_getElem _⟩
            obtain ⟨b1, o1, t, hqa, t0, _, _⟩ := HW.out.1.at hd
            have HD : Hid (l[k]? = some d) := hd
            subst hqa
            obtain ⟨f, ys⟩ := d
            simp only at t0
            clear hd
            by_cases hf : f = (n : Int)
            · subst hf
              go_wp2
              go_ret
              exact ⟨rfl, HW.out.2.2⟩
            · have hfb : (f == (n : Int)) = false := by simpa using hf
              have HK' : Hid (∀ k' d, k' < k + 1 → l[k']? = some d → d.1 ≠ (n : Int)) := fun k' d hk' hd => by
                by_cases e : k' = k
                · subst e; rw [HD.out] at hd; cases hd; exact hf
                · exact HK.out k' d (by omega) hd
              go_wp2
              go_roundw
              case rel => first | exact ⟨k + 1, by omega, by omega, by go_num, HK'.out, HW.out⟩ | ((repeat apply Exists.intro); exact ⟨⟨k + 1, by omega, by omega, by go_num, HK'.out, HW.out⟩, rfl⟩)
              case measure => simp [intOf]; omega
          · have hk3I : ¬ ((k : Int) < 200) := by omega
            have HNN : Hid (NoF del n (i + 1)) := HS.out.2.more HL.out.1 HK.out (.inr (by omega))
            go_wp2
            go_roundw
            case rel => first | exact ⟨i + 1, s + qn, by omega, by go_num, by go_num, HN.out, HNN.out, HW.out.2.2⟩ | ((repeat apply Exists.intro); exact ⟨⟨i + 1, s + qn, by omega, by go_num, by go_num, HN.out, HNN.out, HW.out.2.2⟩, rfl⟩)
            case measure => simp [intOf]; omega
        · have hkI : ¬ ((k : Int) < (qn : Int)) := by omega
          have HNN : Hid (NoF del n (i + 1)) := HS.out.2.more HL.out.1 HK.out (.inl (by have := HL.out.2.1; omega))
          go_wp2
          go_roundw
          case rel => first | exact ⟨i + 1, s + qn, by omega, by go_num, by go_num, HN.out, HNN.out, HW.out.2.2⟩ | ((repeat apply Exists.intro); exact ⟨⟨i + 1, s + qn, by omega, by go_num, by go_num, HN.out, HNN.out, HW.out.2.2⟩, rfl⟩)
          case measure => simp [intOf]; omega
    · obtain rfl : i = m := by omega
      by_cases hs2 : s ≤ 200
      · have hsI : ¬ ((s : Int) > 200) := by omega
        have HIFF : Hid ((∃ S, SeqOk acc del S) ↔ ∃ S, SeqOk (acc ++ [more]) (del ++ [[]]) S) := by
          refine more_iff (fun l hlm d hd => ?_)
          have h1 := sumL_mem hlm (Nat.le_of_eq hl2)
          have h2 := HS.out.1
          obtain ⟨j, hj, e⟩ := List.mem_iff_getElem.1 hlm
          obtain ⟨k, hk, e2⟩ := List.mem_iff_getElem.1 hd
          rw [hl]
          exact HS.out.2 j l (by omega) (by rw [List.getElem?_eq_getElem hj, e]) k d (by omega) (by rw [List.getElem?_eq_getElem hk, e2])
        have ht := total_any wr ao n cap acc (Bss.up HI.out.1 hbl) (by omega) bo i c2 del (Iss.up HI.out.2.1 hbl)
        have HBL : Hid (Below w.heap.size w wr) := hbl
        clear hbl
        go_wp2_with fail
        refine ht.mono ?_
        rintro e w2 ⟨hp, b2⟩
        have hbl2 := HBL.out.trans (b2.mono HBL.out.size)
        obtain ⟨v1, bb, rfl, HV1⟩ : ∃ (r : Sr) (bb : Bool), e = .returned (.tuple #[.slice r.1 r.2.1 r.2.2, .bool bb]) ∧ Hid (bb = true ↔ ∃ S, SeqOk acc del S) := by
          rcases hp with ⟨r, S, e1, _, h2⟩ | ⟨r, e1, _, h2⟩
          · exact ⟨r, true, e1, by show _ ↔ _; simp; exact ⟨S, h2⟩⟩
          · exact ⟨r, false, e1, by show _ ↔ _; simpa using h2⟩
        clear hp b2 ht
        obtain ⟨rs, hrs, hrl, hrc, hre⟩ := Bss.up HI.out.1 hbl2
        obtain ⟨qs, hqs, hql, hqc, hqe⟩ := Iss.up HI.out.2.1 hbl2
        have HR : Hid (SlR (fun _ => True) w2 ao n rs ∧ acc.length = n ∧ (∀ r ∈ rs, Cp r) ∧ ∀ (j : Nat) r x, rs[j]? = some r → acc[j]? = some x → Bs w2 r.1 r.2.1 x) := ⟨hrs, hrl, hrc, hre⟩
        have HQ : Hid (SlR (fun _ => True) w2 bo i qs ∧ del.length = i ∧ (∀ r ∈ qs, Cp r) ∧ ∀ (j : Nat) r x, qs[j]? = some r → del[j]? = some x → Its (fun _ => True) w2 r.1 r.2.1 x) := ⟨hqs, hql, hqc, hqe⟩
        have HM : Hid (Bs w2 eo q more) := Bs.up HI.out.2.2.1 hbl2
        have HBL2 : Hid (Below w.heap.size w w2) := hbl2
        have hrl2 : rs.length = n := hrs.1
        have hql2 : qs.length = i := hqs.1
        have HO0 := own_none w2 w2.heap.size 32
        clear hrs hrl hrc hre hqs hql hqc hqe hbl2
        go_wp2_with (at_builtin; refine wpList_append_rows rfl (.tmp 79) (.tmp 80) 22 32 rfl und22' info32 w2.heap.size _ 0 [] rfl ?d1 ao n cap rs rfl ?d2 ?d3 ?d4 ?d5 ?_)
        case d1 => exact HO0
        case d2 => exact HR.out.1
        case d3 => exact HI.out.2.2.2.1.2.2
        case d4 => omega
        case d5 => exact Nat.le_refl _
        intro v3 w3 hown3 hbl3
        have HO3 : w3.ownsRow w2.heap.size 32 1 v3 n (rs.map slv) := by simpa using hown3
        have hz3 := hbl3.size
        have HB3 : Hid (Below w2.heap.size w2 w3) := hbl3
        clear hown3 hbl3 HO0
        go_wp2_with (at_builtin; refine wpList_append_row rfl (.tmp 82) (.tmp 84) 22 32 rfl und22' info32 w2.heap.size v3 n rs rfl ?e1 (eo, q, c3) w3.heap.size rfl rfl ?e2 ?e3 ?_)
        case e1 => exact HO3
        case e2 => omega
        case e3 => exact hz3
        intro v4 w4 hown4 hbl4
        have HB4 : Hid (Below w2.heap.size w2 w4) := HB3.out.trans hbl4
        have HO4 : Hid (w4.ownsRow w2.heap.size 32 1 v4 (n + 1) ((rs ++ [(eo, q, c3)]).map slv)) := by
          show w4.ownsRow _ _ _ _ _ _
          rw [List.map_append]
          exact hown4
        have HO5 := own_none w4 w4.heap.size 25
        clear hown4 hbl4 HO3 hz3
        go_wp2_with (at_builtin; refine wpList_append_rows rfl (.tmp 86) (.tmp 87) 23 25 rfl und23' info25 w4.heap.size _ 0 [] rfl ?f1 bo i c2 qs rfl ?f2 ?f3 ?f4 ?f5 ?_)
        case f1 => exact HO5
        case f2 => exact HQ.out.1.keep (Kp.up HB4.out)
        case f3 => exact HI.out.2.2.2.2.1.2.2
        case f4 => omega
        case f5 => exact Nat.le_refl _
        intro v5 w5 hown5 hbl5
        have HO6 : w5.ownsRow w4.heap.size 25 1 v5 i (qs.map slv) := by simpa using hown5
        have hz5 := hbl5.size
        have HB5 : Hid (Below w4.heap.size w4 w5) := hbl5
        clear hown5 hbl5 HO5
        go_wp2_with (at_builtin; refine wpList_append_row rfl (.tmp 89) (.tmp 90) 23 25 rfl und23' info25 w4.heap.size v5 i qs rfl ?g1 (none, 0, 0) w5.heap.size rfl rfl ?g2 ?g3 ?_)
        case g1 => exact HO6
        case g2 => omega
        case g3 => exact hz5
        intro v6 w6 hown6 hbl6
        have HB6 : Hid (Below w4.heap.size w4 w6) := HB5.out.trans hbl6
        have hb26 : Below w2.heap.size w2 w6 := HB4.out.trans (HB6.out.mono HB4.out.size)
        have HE6 : Hid (Below w.heap.size w w6) := HBL2.out.trans (hb26.mono HBL2.out.size)
        obtain ⟨rb, rfl, hrb1, hrb2⟩ := Lr.mk (E := fun w r x => Bs w r.1 r.2.1 x) (xs := acc ++ [more]) (own_keep HO4.out HB6.out) (by omega) (by simp [HR.out.2.1]) (fun r hr => by
            rw [List.mem_append, List.mem_singleton] at hr
            rcases hr with hr | rfl
            · exact HR.out.2.2.1 r hr
            · exact HI.out.2.2.2.2.2.1)
          (each_app (E := fun w r x => Bs w r.1 r.2.1 x) (s := (eo, q, c3)) (y := more) (by rw [hrl2, HR.out.2.1]) (fun j r x hr hx => Bs.up (HR.out.2.2.2 j r x hr hx) hb26) (Bs.up HM.out hb26))
        obtain ⟨rd, rfl, hrd1, hrd2⟩ := Lr.mk (E := fun w r x => Its (fun _ => True) w r.1 r.2.1 x) (rs := qs ++ [(none, 0, 0)]) (xs := del ++ [[]]) (by rw [List.map_append]; exact hown6) (by omega) (by simp [HQ.out.2.1]) (fun r hr => by
            rw [List.mem_append, List.mem_singleton] at hr
            rcases hr with hr | rfl
            · exact HQ.out.2.2.1 r hr
            · exact Cp.nil)
          (each_app (E := fun w r x => Its (fun _ => True) w r.1 r.2.1 x) (s := (none, 0, 0)) (y := []) (by rw [hql2, HQ.out.2.1]) (fun j r x hr hx => (HQ.out.2.2.2 j r x hr hx).up hb26) (Its.nil0 _ _))
        obtain ⟨ra, rn, rc⟩ := rb
        obtain ⟨da, dn, dc⟩ := rd
        simp only at hrb1 hrb2 hrd1 hrd2
        subst hrb1 hrd1
        have ht := total_any w6 ra (n + 1) rc _ hrb2 (by omega) da (i + 1) dc _ hrd2
        clear hown6 hbl6 HO6 hz5 hb26 hrb2 hrd2 HO4
        go_wp2_with fail
        refine ht.mono ?_
        rintro e w7 ⟨hp, b7⟩
        have HE7 : Hid (Below w.heap.size w w7) := HE6.out.trans (b7.mono HE6.out.size)
        obtain ⟨v8, b8, rfl, HV8⟩ : ∃ (r : Sr) (bb : Bool), e = .returned (.tuple #[.slice r.1 r.2.1 r.2.2, .bool bb]) ∧ Hid (bb = true ↔ ∃ S, SeqOk (acc ++ [more]) (del ++ [[]]) S) := by
          rcases hp with ⟨r, S, e1, _, h2⟩ | ⟨r, e1, _, h2⟩
          · exact ⟨r, true, e1, by show _ ↔ _; simp; exact ⟨S, h2⟩⟩
          · exact ⟨r, false, e1, by show _ ↔ _; simpa using h2⟩
        have hbb : bb = b8 := by
          have h1 := HV1.out
          have h2 := HV8.out
          have h3 := HIFF.out
          cases bb <;> cases b8 <;> simp_all
        subst hbb
        clear hp b7 ht HV8
        cases bb with
        | true =>
          go_wp2
          go_ret
          exact ⟨rfl, HE7.out⟩
        | false =>
          go_wp2
          go_ret
          exact ⟨rfl, HE7.out⟩
      · have hsI : (s : Int) > 200 := by omega
        go_wp2
        go_ret
        exact ⟨rfl, hbl⟩

set_option maxRecDepth 100000 in
theorem lifted (os : Os) (started : os.Started) (H : Type) (enc : TypeId × Value → H) :
    ReturnsInHanded {} Try.checked os 9 .any (Rows.judgeOthersSpec.pre6 enc Try.prog Try.f9 Rows.judgeOthersRow.domain false) (Rows.judgeOthersSpec.post enc Try.prog Try.f9 false true false false) := by
  refine returnsInHanded_of_change_sized (C := Try.checked) own started (by kernel_rfl) Try.func9
    (ChangeSpec.witness6 (enc := enc) (C := Try.checked) false ⟨#[], #[.slice none 0 0, .slice none 0 0, .slice none 0 0], []⟩ 12 (by kernel_rfl) (by kernel_rfl) (by kernel_rfl) (by kernel_rfl)) ?_
  intro W base args ds gs before hval0 hW hcnd hsz0 _
  have hsz : (DataW.weightsEach Try.prog (Try.f9.params.toList ++ Rows.judgeOthersSpec.plain.varTypes Try.prog) (ds ++ gs)).all (· ≤ reachBytes) = true := hsz0
  have hval : ∀ (j : Nat) t v, Try.f9.params[j]? = some t → args[j]? = some v → Value.okWide Try.prog W .any base t v := hval0
  have hW' := hW
  obtain ⟨p, q, hA0, hV, rfl, hfz, hnd⟩ := hW
  have hA : DataW.TrodAll enc Try.prog W 0 (fun _ => true) true Try.f9.params.toList args.toList ds p := hA0
  rw [Try.params9] at hA hval hsz
  obtain ⟨v0, vs0, d0, ds0, p0, q0, hargs0, rfl, rfl, h0, r0⟩ := trodAll_cons hA
  obtain ⟨v1, vs1, d1, ds1, p1, q1, hargs1, rfl, rfl, h1, r1⟩ := trodAll_cons r0
  obtain ⟨v2, vs2, d2, ds2, p2, q2, hargs2, rfl, rfl, h2, r2⟩ := trodAll_cons r1
  obtain ⟨rfl, rfl, rfl⟩ := trodAll_nil r2
  obtain rfl : args = #[v0, v1, v2] := by cases args; simp_all
  obtain ⟨rfl, rfl⟩ := trodVars_none hV
  obtain ⟨a0, len0, cap0, rfl⟩ := okWide_slice Try.underlying22 (hval 0 22 v0 rfl rfl)
  have k0 := h0
  have lt0 : ∀ x ∈ p0, x.block < W.heap.size := by obtain ⟨m, hm⟩ := k0; exact DataW.trod_lt m _ _ _ hm
  obtain ⟨xs0, hx0, hc0⟩ := open_bss h0 (fits_of hsz (j := 0) rfl rfl)
  obtain ⟨a1, len1, cap1, rfl⟩ := okWide_slice Try.underlying23 (hval 1 23 v1 rfl rfl)
  have k1 := h1
  have lt1 : ∀ x ∈ p1, x.block < W.heap.size := by obtain ⟨m, hm⟩ := k1; exact DataW.trod_lt m _ _ _ hm
  obtain ⟨xs1, hx1, hc1⟩ := open_iss h1 (fits_of hsz (j := 1) rfl rfl)
  obtain ⟨a2, len2, cap2, rfl⟩ := okWide_slice Try.underlying32 (hval 2 32 v2 rfl rfl)
  have k2 := h2
  have lt2 : ∀ x ∈ p2, x.block < W.heap.size := by obtain ⟨m, hm⟩ := k2; exact DataW.trod_lt m _ _ _ hm
  obtain ⟨xs2, hx2, hc2⟩ := open_bs h2 (fits_of hsz (j := 2) rfl rfl)
  clear hA0 hval0 hsz hsz0
  refine (walk W a0 len0 cap0 xs0 hx0 hc0 a1 len1 cap1 xs1 hx1 hc1 a2 len2 cap2 xs2 hx2 hc2).mono fun e W' ⟨he, bel⟩ => ?_
  subst he
  exact ⟨_, rfl, _, _, _, [], _, [], hW', trodAll_mk1 (shut_bool Try.underlying4 _), (trodAll_cons_mk (Below.trod laidOut (by kernel_rfl) (of_decide_eq_true (by kernel_rfl)) k0 bel lt0) (trodAll_cons_mk (Below.trod laidOut (by kernel_rfl) (of_decide_eq_true (by kernel_rfl)) k1 bel lt1) (trodAll_cons_mk (Below.trod laidOut (by kernel_rfl) (of_decide_eq_true (by kernel_rfl)) k2 bel lt2) trodAll_mk0))), rfl, bel.frame _, fun h => by cases h⟩

theorem over : Rows.judgeOthersRow.holds Try.pinned (OpenSpec.ofChange Rows.judgeOthersSpec) :=
  OpenClaim.holds_of_wide 9 Try.f9 rfl rfl rfl rfl rfl rfl rfl ⟨rfl, rfl, rfl, rfl, rfl⟩ rfl rfl rfl rfl rfl (by kernel_rfl) Try.func9 (by kernel_rfl)
    (of_decide_eq_true (by kernel_rfl)) (by unfold Func.isWrapper; first | (rw [if_pos (by decide +kernel)]; kernel_rfl) | (rw [if_neg (by decide +kernel)]; exact ⟨rfl, rfl⟩))
    (fun os started H enc _ => lifted os started H enc)

end Go.Proofs.Ythnbijnpbjfoaaa.judgeOthers
namespace Go.Proofs.Ythnbijnpbjfoaaa
theorem judgeOthers_holds : Rows.JudgeOthersSaid := judgeOthers.over
#print axioms judgeOthers_holds
end Go.Proofs.Ythnbijnpbjfoaaa
