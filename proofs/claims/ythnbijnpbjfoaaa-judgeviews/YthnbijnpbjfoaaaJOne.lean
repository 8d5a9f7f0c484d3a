/-
  The document's One.
-/
import Derived.Test.YthnbijnpbjfoaaaJItems
import Derived.Test.YthnbijnpbjfoaaaJOwn
import Derived.Test.YthnbijnpbjfoaaaJSeq
namespace Go.Proofs.Ythnbijnpbjfoaaa
open Go.RowKit Go.Sort
set_option linter.unusedVariables false

/-- What the comparison of two lists' items reads. -/
def Two3 (b o i : Nat) (q : Sr) (b1 o1 b2 o2 : Nat) (d e : Di) (r s : Sr) (wx : World) : Prop :=
  wx.cell? ⟨b, o + i, none⟩ = some (.slice q.1 q.2.1 q.2.2) ∧ TwoI b1 o1 b2 o2 d e r s wx
def Two4 (b o i : Nat) (q : Sr) (b1 o1 b2 o2 : Nat) (f f' : Int) (xs ys : By) (r s : Sr) (wx : World) : Prop :=
  wx.cell? ⟨b, o + i, none⟩ = some (.slice q.1 q.2.1 q.2.2) ∧
  wx.cell? ⟨b1, o1, none⟩ = some (.int .i64 f) ∧ wx.cell? ⟨b1, o1 + 1, none⟩ = some (.slice r.1 r.2.1 r.2.2) ∧ (convert 30 9 (.slice r.1 r.2.1 r.2.2)).run Try.prog wx = .ok (.string (str xs)) wx ∧
  wx.cell? ⟨b2, o2, none⟩ = some (.int .i64 f') ∧ wx.cell? ⟨b2, o2 + 1, none⟩ = some (.slice s.1 s.2.1 s.2.2) ∧ (convert 30 9 (.slice s.1 s.2.1 s.2.2)).run Try.prog wx = .ok (.string (str ys)) wx
/-- What the comparison with what was accepted reads. -/
def Two5 (b o i : Nat) (q : Sr) (b1 o1 b2 o2 : Nat) (xs ys : By) (r s : Sr) (wx : World) : Prop :=
  wx.cell? ⟨b, o + i, none⟩ = some (.slice q.1 q.2.1 q.2.2) ∧
  wx.cell? ⟨b1, o1, none⟩ = some (.slice r.1 r.2.1 r.2.2) ∧ (convert 30 9 (.slice r.1 r.2.1 r.2.2)).run Try.prog wx = .ok (.string (str xs)) wx ∧
  wx.cell? ⟨b2, o2, none⟩ = some (.slice s.1 s.2.1 s.2.2) ∧ (convert 30 9 (.slice s.1 s.2.1 s.2.2)).run Try.prog wx = .ok (.string (str ys)) wx
def Two6 (b o i : Nat) (q : Sr) (wx : World) : Prop := wx.cell? ⟨b, o + i, none⟩ = some (.slice q.1 q.2.1 q.2.2) ∧ True
theorem und25' : Try.prog.underlying 25 = some (.slice 34) := by kernel_rfl

set_option maxRecDepth 10000 in
set_option maxHeartbeats 4000000 in
theorem one_any (w : World) (ao : Option Addr) (m c1 : Nat) (acc : List (List By)) (h : Bss w ao m acc) (bo : Option Addr) (n c2 : Nat) (del : List (List Di)) (g : Iss w bo n del) (hs : ∀ l ∈ del, l.length ≤ 9000) :
    Calls Try.prog 21 #[.slice ao m c1, .slice bo n c2] w fun e w' => TotPost w acc del e w' := by
  have hl := g.len
  have hl2 := h.len
  have hn := g.le
  have hm := h.le
  have HI : Hid (Bss w ao m acc ∧ Iss w bo n del ∧ ∀ l ∈ del, l.length ≤ 9000) := ⟨h, g, hs⟩
  clear h g hs
  go_enter Try.func21, Try.ntmps21
  go_wp2_with fail
  go_loopw [6, 7, 8] (fun sv iv _ wr => ∃ (i : Nat) (S : List Di) (r : Sr), i ≤ n ∧ iv = .int .i64 (i : Nat) ∧ sv = .slice r.1 r.2.1 r.2.2 ∧ One del i S ∧ OwR w.heap.size wr r S ∧ Below w.heap.size w wr) (fun _ iv _ _ => n - (intOf iv).toNat)
  case atStart => exact ⟨0, [], (none, 0, 0), by omega, rfl, rfl, One.zero _, OwR.nil _ _, Below.refl _ _⟩
  case round =>
    obtain ⟨i, S0, r0, hi, rfl, rfl, hone, how, hbl⟩ := hrel
    by_cases hlt : i < n
    · have H0 : Hid (One del i S0 ∧ OwR w.heap.size wr r0 S0) := ⟨hone, how⟩
      clear hone how
      have hltI : (i : Int) < (n : Int) := by omega
      have hi0 : ¬ ((i : Int) < 0) := by omega
      obtain ⟨l, hdl⟩ : ∃ l, del[i]? = some l := ⟨del[i]'(by omega), List.getElem?_eq_getElem (by omega)⟩
      obtain ⟨b, off, q, rfl, q0, hqc, hqi⟩ := (Iss.up HI.out.2.1 (Below.refl _ _)).at hdl
      have hql := hqi.len
      have hq9 := HI.out.2.2 l (List.mem_of_getElem? hdl)
      have HQ : Hid (del[i]? = some l ∧ Its (fun _ => True) w q.1 q.2.1 l ∧ l.length = q.2.1 ∧ w.cell? ⟨b, off + i, none⟩ = some (.slice q.1 q.2.1 q.2.2)) := ⟨hdl, hqi, hql, q0⟩
      obtain ⟨qa, qn, qc⟩ := q
      simp only at HQ hql hq9
      clear hdl hqi hqc q0
      have hqn : qn ≤ 9000 := by omega
      have HWR : Hid (Below w.heap.size w wr) := hbl
      clear hbl hql hq9
      go_wp2_with fail
      go_loopw [6, 8] (fun sv kv wr => ∃ (k : Nat) (S : List Di) (r : Sr), k ≤ qn ∧ kv = .int .i64 (k : Nat) ∧ sv = .slice r.1 r.2.1 r.2.2 ∧ OneIn S0 l k S ∧ OwR w.heap.size wr r S ∧ Below w.heap.size w wr) (fun _ kv _ => qn - (intOf kv).toNat)
      case atStart => exact ⟨0, S0, r0, by omega, rfl, rfl, OneIn.zero _ _, H0.out.2, HWR.out⟩
      case round =>
        clear HWR
        obtain ⟨k, S, r, hk, rfl, rfl, hin, how, hbl⟩ := hrel
        obtain ⟨ra, rn, rc⟩ := r
        have hrn : rn = S.length := how.1
        have q0 := bl_cell hbl HQ.out.2.2.2
        have hql := HQ.out.2.2.1
        by_cases hkn : k < qn
        · have hknI : (k : Int) < (qn : Int) := by omega
          have hk0 : ¬ ((k : Int) < 0) := by omega
          have hkl : k ≤ S.length := hin.len (by omega)
          obtain ⟨d, hd⟩ : ∃ d, l[k]? = some d := ⟨l[k]'(by omega), List.getElem?_eq_getElem (by omega)⟩
          obtain ⟨b2, o2, t, rfl, t0, t1, ht⟩ := HQ.out.2.1.at hd
          have HD : Hid (l[k]? = some d ∧ Rw (fun _ => True) w t.1 t.2.1 d.2 ∧ w.cell? ⟨b2, o2 + k * 2, none⟩ = some (.int .i64 d.1) ∧ w.cell? ⟨b2, o2 + k * 2 + 1, none⟩ = some (.slice t.1 t.2.1 t.2.2)) := ⟨hd, ht, t0, t1⟩
          clear hd ht t0 t1
          obtain ⟨f, zs⟩ := d
          obtain ⟨ta, tn, tc⟩ := t
          simp only at HD
          by_cases hkS : k = S.length
          · have hrk : rn = k := by omega
            subst hrk
            have hS9 : S.length ≤ 10000 := by omega
            obtain ⟨xs, ho1, ho2, ho3⟩ := how.2
            simp only at ho1
            rw [← hkS] at ho1
            have HO : Hid (OneIn S0 l rn S ∧ xs.length = S.length ∧ ∀ (j : Nat) (x : Ix) (d : Di), xs[j]? = some x → S[j]? = some d → It (fun b => b < w.heap.size) wr x d) := ⟨hin, ho2, ho3⟩
            have t0 := bl_cell hbl HD.out.2.2.1
            have t1 := bl_cell hbl HD.out.2.2.2
            have hwl := hbl.size
            have HBL : Hid (Below w.heap.size w wr ∧ rn = S.length) := ⟨hbl, hkS⟩
            clear hin how ho2 ho3 hbl hkS hrn hS9
            go_wp2_with (at_builtin; refine wpList_append_gen rfl (.tmp 32) (.tmp 40) 25 34 rfl (.agg #[.int .i64 0, .slice none 0 0]) 2 32 und25' infoI rfl (by decide) (by omega) w.heap.size _ rn (cellI xs) rfl ?d1 [.int .i64 f, .slice ta tn tc] rfl ?d2 wr.heap.size rfl rfl ?d3 ?d4 ?_)
            case d2 => exact ⟨rfl, rfl⟩
            case d3 => omega
            intro v' w1 hown hgrow hat
            have hb1 : Below w.heap.size wr w1 := bl_grown (Below.refl _ _) hwl hgrow (fun kk hk => by
              have := own_shape ho1
              rcases this with ⟨e, _⟩ | ⟨g, cap, e, hg, _⟩
              · rw [e] at hk; simp [Value.ownBlock] at hk
              · rw [e] at hk; simp [Value.ownBlock] at hk; omega)
            have hb01 := HBL.out.1.trans hb1
            have hitd : It (fun b => b < w.heap.size) wr (f, ta, tn, tc) (f, zs) := ⟨rfl, ((HD.out.2.1.imp (q := fun b => b < w.heap.size) (fun b hb _ => hb)).keep (Kp.up HBL.out.1))⟩
            have how' := OwS.more (S := S) (x := (f, ta, tn, tc)) (d := (f, zs)) (by rw [← HBL.out.2]; exact hown) HO.out.2.1 HO.out.2.2 hb1 hitd
            obtain ⟨r', rfl, hor⟩ := how'.row
            have hl' : r'.2.1 = rn + 1 := by have := hor.1; simp at this; have := HBL.out.2; omega
            have hn9 : (S ++ [((f : Int), zs)]).length ≤ 4398046511104 := by have := HBL.out.2; simp; omega
            have hits := hor.its hn9
            have HN : Hid (OneIn S0 l (rn + 1) (S ++ [(f, zs)]) ∧ OwR w.heap.size w1.drew r' (S ++ [(f, zs)]) ∧ Below w.heap.size w w1.drew) := ⟨HO.out.1.grow HD.out.1 HBL.out.2.symm, hor.keep ((Up.refl w1).drew).bl hb01.size, hb01.drew⟩
            have hgk : (S ++ [(f, zs)])[rn]? = some (f, zs) := by rw [HBL.out.2, List.getElem?_append_right (Nat.le_refl _)]; simp
            have hbd := hb01.drew
            obtain ⟨b1, o1, s, hr', s0, s1, hsr⟩ := (hits.up ((Up.refl w1).drew).bl).at hgk
            have two : Two4 b off i (some ⟨b2, o2, none⟩, qn, qc) b1 (o1 + rn * 2) b2 (o2 + rn * 2) f f zs zs s (ta, tn, tc) w1.drew := ⟨bl_cell hbd HQ.out.2.2.2, s0, s1, conv_rw hsr, bl_cell hbd HD.out.2.2.1, bl_cell hbd HD.out.2.2.2, conv_rw (HD.out.2.1.up hbd)⟩
            have hbe := str_beq zs zs
            obtain ⟨ra', rn', rc'⟩ := r'
            simp only at hr' hl'
            subst hr' hl'
            have hrn2 : (rn : Int) < (rn : Int) + 1 := by omega
            clear hown hgrow hat hb1 hb01 hitd how' hor hits hgk hbd s0 s1 hsr q0 t0 t1 ho1 hn9
            go_wp2_with fail
            refine wp_region_noPanic ?_
            refine wp_region_held_drew (S := Two4 b off i (some ⟨b2, o2, none⟩, qn, qc) b1 (o1 + rn * 2) b2 (o2 + rn * 2) f f zs zs s (ta, tn, tc)) (by kernel_rfl) (two) (fun hHeld => ?_)
            unfold Two4 at hHeld
            refine tq 0 ?_
            refine tq 1 ?_
            refine tq 2 ?_
            refine tq 3 ?_
            refine tq 4 ?_
            refine tq 5 ?_
            refine tq 6 ?_
            refine tq 7 ?_
            refine tq 8 ?_
            refine tq 9 ?_
            refine tq 10 ?_
            refine tq 11 ?_
            refine tq 12 ?_
            refine tq 13 ?_
            refine tq 14 ?_
            refine tq 15 ?_
            refine tq 16 ?_
            refine tq 17 ?_
            refine tq 18 ?_
            refine tq 19 ?_
            refine tq 20 ?_
            refine tq 21 ?_
            refine tq 22 ?_
            refine tq 23 ?_
            refine tq 24 ?_
            refine tq 25 ?_
            refine tq 26 ?_
            refine tq 27 ?_
            refine tq 28 ?_
            refine tq 29 ?_
            refine tq 30 ?_
            refine tq 31 ?_
            refine wpAnyH_done (by kernel_rfl) ?_ _
            refine NoPanic.normal ?_
            go_wp2
            go_roundw
            case rel => first | exact ⟨rn + 1, S ++ [(f, zs)], _, by omega, by go_num, rfl, HN.out⟩ | ((repeat apply Exists.intro); exact ⟨⟨rn + 1, S ++ [(f, zs)], _, by omega, by go_num, rfl, HN.out⟩, rfl⟩)
            case measure => simp [intOf]; omega
          · have hkS2 : k < S.length := by omega
            have hS9 := hin.le (H0.out.1.le HI.out.2.2) (by omega : l.length ≤ 9000)
            obtain ⟨d', hd'⟩ : ∃ d', S[k]? = some d' := ⟨S[k]'(by omega), List.getElem?_eq_getElem (by omega)⟩
            obtain ⟨b1, o1, s, hr', s0, s1, hsr⟩ := ((how.its (by omega)).up ((Up.refl wr).drew).bl).at hd'
            have HK : Hid (OneIn S0 l k S ∧ S[k]? = some d' ∧ OwR w.heap.size wr (ra, rn, rc) S ∧ Below w.heap.size w wr) := ⟨hin, hd', how, hbl⟩
            have hbd := hbl.drew
            obtain ⟨f', ys⟩ := d'
            have two : Two4 b off i (some ⟨b2, o2, none⟩, qn, qc) b1 (o1 + k * 2) b2 (o2 + k * 2) f' f ys zs s (ta, tn, tc) wr.drew := ⟨bl_cell hbd HQ.out.2.2.2, s0, s1, conv_rw hsr, bl_cell hbd HD.out.2.2.1, bl_cell hbd HD.out.2.2.2, conv_rw (HD.out.2.1.up hbd)⟩
            have hbe := str_beq ys zs
            simp only at hr'
            subst hr'
            have hkb : ((k : Int) == (rn : Int)) = false := by simp; omega
            have hkI : (k : Int) < (rn : Int) := by omega
            clear hin how hbl hrn hql hkS hkS2 hS9 hd' hbd s0 s1 hsr hkl
            by_cases hf : f' = f
            · subst hf
              cases hde : decide (ys = zs) with
              | true =>
                rw [hde] at hbe
                have HN : Hid (OneIn S0 l (k + 1) S ∧ OwR w.heap.size wr.drew (some ⟨b1, o1, none⟩, rn, rc) S ∧ Below w.heap.size w wr.drew) := by
                  have e : ys = zs := of_decide_eq_true hde
                  subst e
                  exact ⟨HK.out.1.same HD.out.1 HK.out.2.1, HK.out.2.2.1.keep ((Up.refl wr).drew).bl HK.out.2.2.2.size, HK.out.2.2.2.drew⟩
                clear hde
                go_wp2_with fail
                refine wp_region_noPanic ?_
                refine wp_region_held_drew (S := Two4 b off i (some ⟨b2, o2, none⟩, qn, qc) b1 (o1 + k * 2) b2 (o2 + k * 2) f' f' ys zs s (ta, tn, tc)) (by kernel_rfl) (two) (fun hHeld => ?_)
                unfold Two4 at hHeld
                refine tq 0 ?_
                refine tq 1 ?_
                refine tq 2 ?_
                refine tq 3 ?_
                refine tq 4 ?_
                refine tq 5 ?_
                refine tq 6 ?_
                refine tq 7 ?_
                refine tq 8 ?_
                refine tq 9 ?_
                refine tq 10 ?_
                refine tq 11 ?_
                refine tq 12 ?_
                refine tq 13 ?_
                refine tq 14 ?_
                refine tq 15 ?_
                refine tq 16 ?_
                refine tq 17 ?_
                refine tq 18 ?_
                refine tq 19 ?_
                refine tq 20 ?_
                refine tq 21 ?_
                refine tq 22 ?_
                refine tq 23 ?_
                refine tq 24 ?_
                refine tq 25 ?_
                refine tq 26 ?_
                refine tq 27 ?_
                refine tq 28 ?_
                refine tq 29 ?_
                refine tq 30 ?_
                refine tq 31 ?_
                refine wpAnyH_done (by kernel_rfl) ?_ _
                refine NoPanic.normal ?_
                go_wp2
                go_roundw
                case rel => first | exact ⟨k + 1, S, _, by omega, by go_num, rfl, HN.out⟩ | ((repeat apply Exists.intro); exact ⟨⟨k + 1, S, _, by omega, by go_num, rfl, HN.out⟩, rfl⟩)
                case measure => simp [intOf]; omega
              | false =>
                rw [hde] at hbe
                have HNE : Hid (ys ≠ zs) := of_decide_eq_false hde
                clear hde
                go_wp2_with fail
                refine wp_region_noPanic ?_
                refine wp_region_held_drew (S := Two4 b off i (some ⟨b2, o2, none⟩, qn, qc) b1 (o1 + k * 2) b2 (o2 + k * 2) f' f' ys zs s (ta, tn, tc)) (by kernel_rfl) (two) (fun hHeld => ?_)
                unfold Two4 at hHeld
                refine tq 0 ?_
                refine tq 1 ?_
                refine tq 2 ?_
                refine tq 3 ?_
                refine tq 4 ?_
                refine tq 5 ?_
                refine tq 6 ?_
                refine tq 7 ?_
                refine tq 8 ?_
                refine tq 9 ?_
                refine tq 10 ?_
                refine tq 11 ?_
                refine tq 12 ?_
                refine tq 13 ?_
                refine tq 14 ?_
                refine tq 15 ?_
                refine tq 16 ?_
                refine tq 17 ?_
                refine tq 18 ?_
                refine tq 19 ?_
                refine tq 20 ?_
                refine tq 21 ?_
                refine tq 22 ?_
                refine tq 23 ?_
                refine tq 24 ?_
                refine tq 25 ?_
                refine tq 26 ?_
                refine tq 27 ?_
                refine tq 28 ?_
                refine tq 29 ?_
                refine tq 30 ?_
                refine tq 31 ?_
                refine wpAnyH_done (by kernel_rfl) ?_ _
                refine NoPanic.normal ?_
                go_wp2
                go_ret2
                refine ⟨.inr ⟨(none, 0, 0), rfl, Its.nil0 _ _, parts_no H0.out.1 HQ.out.1 HK.out.1 HD.out.1 HK.out.2.1 (fun e => HNE.out ?_)⟩, HK.out.2.2.2.drew⟩
                simpa using e
            · have hfn : (f' != f) = true := by simpa using hf
              have HNE : Hid (f' ≠ f) := hf
              clear hbe
              go_wp2_with fail
              refine wp_region_noPanic ?_
              refine wp_region_held_drew (S := Two4 b off i (some ⟨b2, o2, none⟩, qn, qc) b1 (o1 + k * 2) b2 (o2 + k * 2) f' f ys zs s (ta, tn, tc)) (by kernel_rfl) (two) (fun hHeld => ?_)
              unfold Two4 at hHeld
              refine tq 0 ?_
              refine tq 1 ?_
              refine tq 2 ?_
              refine tq 3 ?_
              refine tq 4 ?_
              refine tq 5 ?_
              refine tq 6 ?_
              refine tq 7 ?_
              refine tq 8 ?_
              refine tq 9 ?_
              refine tq 10 ?_
              refine tq 11 ?_
              refine tq 12 ?_
              refine tq 13 ?_
              refine tq 14 ?_
              refine tqS 15 ?_
              refine tqS 16 ?_
              refine tqS 17 ?_
              refine tqS 18 ?_
              refine tqS 19 ?_
              refine tqS 20 ?_
              refine tqS 21 ?_
              refine tqS 22 ?_
              refine tqS 23 ?_
              refine tqS 24 ?_
              refine tqS 25 ?_
              refine tqS 26 ?_
              refine tqS 27 ?_
              refine tqS 28 ?_
              refine tqS 29 ?_
              refine tqS 30 ?_
              refine tq 31 ?_
              refine wpAnyH_done (by kernel_rfl) ?_ _
              refine NoPanic.normal ?_
              go_wp2
              go_ret2
              refine ⟨.inr ⟨(none, 0, 0), rfl, Its.nil0 _ _, parts_no H0.out.1 HQ.out.1 HK.out.1 HD.out.1 HK.out.2.1 (fun e => HNE.out ?_)⟩, HK.out.2.2.2.drew⟩
              exact congrArg Prod.fst e
        · obtain rfl : k = qn := by omega
          have HE : Hid (One del (i + 1) S ∧ OwR w.heap.size wr (ra, rn, rc) S ∧ Below w.heap.size w wr) := ⟨hin.done' H0.out.1 HQ.out.1 hql, how, hbl⟩
          clear hin how hbl hrn hql
          go_wp2
          go_roundw
          case rel => first | exact ⟨i + 1, S, (ra, rn, rc), by omega, by go_num, rfl, HE.out⟩ | ((repeat apply Exists.intro); exact ⟨⟨i + 1, S, (ra, rn, rc), by omega, by go_num, rfl, HE.out⟩, rfl⟩)
          case measure => simp [intOf]; omega
    · obtain rfl : i = n := by omega
      obtain ⟨ra, rn, rc⟩ := r0
      have hrn : rn = S0.length := how.1
      have hS9 := hone.le HI.out.2.2
      have hits := how.its (by omega)
      have HS : Hid (Lng del del.length S0 ∧ (∀ l ∈ del, l <+: S0)) := by
        refine ⟨by rw [hl]; exact hone.lng, fun l hm => ?_⟩
        obtain ⟨j, hj, hm⟩ := List.mem_iff_getElem.1 hm
        exact hone.2 j l (by omega) (by rw [List.getElem?_eq_getElem hj, hm])
      simp only at hits
      have HB : Hid (Its (fun _ => True) wr ra rn S0 ∧ Below w.heap.size w wr) := ⟨hits, hbl⟩
      have hrn9 : rn ≤ 9000 := by omega
      have HRN : Hid (rn = S0.length) := hrn
      clear hone how hits hbl hS9 hrn
      go_wp2_with fail
      go_loopw [9] (fun jv wr => ∃ j : Nat, j ≤ rn ∧ jv = .int .i64 (j : Nat) ∧ Rng S0 m j ∧ Its (fun _ => True) wr ra rn S0 ∧ Below w.heap.size w wr) (fun jv _ => rn - (intOf jv).toNat)
      case atStart => exact ⟨0, by omega, rfl, Rng.zero _ _, HB.out⟩
      case round =>
        clear HB
        obtain ⟨j, hj, rfl, hrg, hits, hbl⟩ := hrel
        by_cases hjn : j < rn
        · have hjI : (j : Int) < (rn : Int) := by omega
          have hj0 : ¬ ((j : Int) < 0) := by omega
          obtain ⟨d, hd⟩ : ∃ d, S0[j]? = some d := ⟨S0[j]'(by have := HRN.out; omega), List.getElem?_eq_getElem _⟩
          obtain ⟨b1, o1, s, rfl, s0, s1, _⟩ := hits.at hd
          have HJ : Hid (Rng S0 m j ∧ Its (fun _ => True) wr (some ⟨b1, o1, none⟩) rn S0 ∧ Below w.heap.size w wr ∧ S0[j]? = some d) := ⟨hrg, hits, hbl, hd⟩
          clear hrg hits hbl hd
          obtain ⟨f, ys⟩ := d
          simp only at s0
          by_cases hneg : f < 0
          · go_wp2
            go_ret2
            refine ⟨.inr ⟨(none, 0, 0), rfl, Its.nil0 _ _, no_told HS.out.1 (not_rng HJ.out.2.2.2 (fun e => ?_))⟩, HJ.out.2.2.1⟩
            have := e.1
            simp only at this
            omega
          · by_cases hge : f ≥ (m : Int)
            · go_wp2
              go_ret2
              refine ⟨.inr ⟨(none, 0, 0), rfl, Its.nil0 _ _, no_told HS.out.1 (not_rng HJ.out.2.2.2 (fun e => ?_))⟩, HJ.out.2.2.1⟩
              have := e.2
              simp only at this
              omega
            · have hge2 : ¬ ((m : Int) ≤ f) := by omega
              have HN : Hid (Rng S0 m (j + 1)) := HJ.out.1.more HJ.out.2.2.2 (by simp only; omega) (by simp only; omega)
              go_wp2
              go_roundw
              case rel => first | exact ⟨j + 1, by omega, by go_num, HN.out, HJ.out.2.1, HJ.out.2.2.1⟩ | ((repeat apply Exists.intro); exact ⟨⟨j + 1, by omega, by go_num, HN.out, HJ.out.2.1, HJ.out.2.2.1⟩, rfl⟩)
              case measure => simp [intOf]; omega
        · obtain rfl : j = rn := by omega
          have HR : Hid (Rng S0 m S0.length) := by rw [← HRN.out]; exact hrg
          have HB : Hid (Its (fun _ => True) wr ra j S0 ∧ Below w.heap.size w wr) := ⟨hits, hbl⟩
          clear hrg hits hbl
          go_wp2_with fail
          go_loopw [10, 11, 12] (fun iv _ _ wr => ∃ i : Nat, i ≤ m ∧ iv = .int .i64 (i : Nat) ∧ (∀ i', i' < i → Ord1 S0 acc i' S0.length) ∧ Its (fun _ => True) wr ra j S0 ∧ Below w.heap.size w wr) (fun iv _ _ _ => m - (intOf iv).toNat)
          case atStart => exact ⟨0, by omega, rfl, fun i' hi' => by omega, HB.out⟩
          case round =>
            clear HB
            obtain ⟨i, hi, rfl, hor, hits, hbl⟩ := hrel
            by_cases him : i < m
            · have hiI : (i : Int) < (m : Int) := by omega
              have hi0 : ¬ ((i : Int) < 0) := by omega
              obtain ⟨own, hown⟩ : ∃ own, acc[i]? = some own := ⟨acc[i]'(by omega), List.getElem?_eq_getElem (by omega)⟩
              obtain ⟨b, off, q, rfl, q0, hqc, hqi⟩ := HI.out.1.at hown
              have HQ : Hid (acc[i]? = some own ∧ Bs w q.1 q.2.1 own ∧ own.length = q.2.1 ∧ w.cell? ⟨b, off + i, none⟩ = some (.slice q.1 q.2.1 q.2.2) ∧ (∀ i', i' < i → Ord1 S0 acc i' S0.length)) := ⟨hown, hqi, hqi.len, q0, hor⟩
              have HB : Hid (Its (fun _ => True) wr ra j S0 ∧ Below w.heap.size w wr) := ⟨hits, hbl⟩
              obtain ⟨qa, qn, qc⟩ := q
              clear hown hqi hqc q0 hor hits hbl
              go_wp2_with fail
              go_loopw [11, 12] (fun cv kv wr => ∃ k c : Nat, k ≤ j ∧ kv = .int .i64 (k : Nat) ∧ cv = .int .i64 (c : Nat) ∧ cnt (S0.take k) (i : Int) = c ∧ Ord1 S0 acc i k ∧ Its (fun _ => True) wr ra j S0 ∧ Below w.heap.size w wr) (fun _ kv _ => j - (intOf kv).toNat)
              case atStart => exact ⟨0, 0, by omega, rfl, rfl, rfl, Ord1.zero _ _ _, HB.out⟩
              case round =>
                clear HB
                obtain ⟨k, c, hk, rfl, rfl, hcc, hod, hits, hbl⟩ := hrel
                by_cases hkj : k < j
                · have hkI : (k : Int) < (j : Int) := by omega
                  have hk0 : ¬ ((k : Int) < 0) := by omega
                  obtain ⟨d, hd⟩ : ∃ d, S0[k]? = some d := ⟨S0[k]'(by have := HRN.out; omega), List.getElem?_eq_getElem _⟩
                  obtain ⟨b1, o1, s, rfl, s0, s1, hsr⟩ := hits.at hd
                  have q0 := bl_cell hbl HQ.out.2.2.2.1
                  have hcle := cnt_le S0 (i : Int) k
                  rw [hcc] at hcle
                  have HJ : Hid (cnt (S0.take k) (i : Int) = c ∧ Ord1 S0 acc i k ∧ Its (fun _ => True) wr (some ⟨b1, o1, none⟩) j S0 ∧ Below w.heap.size w wr ∧ S0[k]? = some d ∧ Rw (fun _ => True) wr s.1 s.2.1 d.2) := ⟨hcc, hod, hits, hbl, hd, hsr⟩
                  obtain ⟨f, ys⟩ := d
                  obtain ⟨sa, sn, sc⟩ := s
                  clear hcc hod hits hbl hd hsr
                  simp only at s0 s1
                  by_cases hfi : f = (i : Int)
                  · subst hfi
                    by_cases hcq : c < qn
                    · have hcqI : ¬ ((qn : Int) ≤ (c : Int)) := by omega
                      have hcqI2 : (c : Int) < (qn : Int) := by omega
                      have hc0 : ¬ ((c : Int) < 0) := by omega
                      obtain ⟨zs, hz⟩ : ∃ zs, own[c]? = some zs := ⟨own[c]'(by have := HQ.out.2.2.1; omega), List.getElem?_eq_getElem _⟩
                      have HZ : Hid (own[c]? = some zs) := hz
                      obtain ⟨b2, o2, t, hqa, t0, _, ht⟩ := (Bs.up HQ.out.2.1 (HJ.out.2.2.2.1.drew)).at hz
                      subst hqa
                      have hbd : Below wr.heap.size wr wr.drew := ((Up.refl wr).drew).bl
                      have five : Two5 b off i (some ⟨b2, o2, none⟩, qn, qc) b2 (o2 + c) b1 (o1 + k * 2 + 1) zs ys t (sa, sn, sc) wr.drew := ⟨bl_cell hbd q0, t0, conv_rw ht, bl_cell hbd s1, conv_rw (HJ.out.2.2.2.2.2.up hbd)⟩
                      have hbe := str_beq zs ys
                      clear hz t0 ht hbd
                      cases hde : decide (zs = ys) with
                      | true =>
                        rw [hde] at hbe
                        have HN : Hid (cnt (S0.take (k + 1)) (i : Int) = c + 1 ∧ Ord1 S0 acc i (k + 1) ∧ Its (fun _ => True) wr.drew (some ⟨b1, o1, none⟩) j S0 ∧ Below w.heap.size w wr.drew) := by
                          have e : zs = ys := of_decide_eq_true hde
                          subst e
                          exact ⟨cnt_more HJ.out.2.2.2.2.1 HJ.out.1 rfl, HJ.out.2.1.more HJ.out.2.2.2.2.1 HQ.out.1 HJ.out.1 HZ.out, HJ.out.2.2.1.up ((Up.refl wr).drew).bl, HJ.out.2.2.2.1.drew⟩
                        clear hde
                        go_wp2_with fail
                        refine wp_region_noPanic ?_
                        refine wp_region_held_drew (S := Two5 b off i (some ⟨b2, o2, none⟩, qn, qc) b2 (o2 + c) b1 (o1 + k * 2 + 1) zs ys t (sa, sn, sc)) (by kernel_rfl) (five) (fun hHeld => ?_)
                        unfold Two5 at hHeld
                        refine tq 0 ?_
                        refine tq 1 ?_
                        refine tq 2 ?_
                        refine tq 3 ?_
                        refine tq 4 ?_
                        refine tq 5 ?_
                        refine tq 6 ?_
                        refine tq 7 ?_
                        rw [show decide (qn ≤ c) = false from decide_eq_false (by omega)]
                        refine tq 8 ?_
                        refine tq 9 ?_
                        refine tq 10 ?_
                        refine tq 11 ?_
                        refine tq 12 ?_
                        refine tq 13 ?_
                        refine tq 14 ?_
                        refine tq 15 ?_
                        refine tq 16 ?_
                        refine tq 17 ?_
                        refine tq 18 ?_
                        refine tq 19 ?_
                        refine tq 20 ?_
                        refine tq 21 ?_
                        refine tq 22 ?_
                        refine tq 23 ?_
                        refine wpAnyH_done (by kernel_rfl) ?_ _
                        refine NoPanic.normal ?_
                        go_wp2
                        go_roundw
                        case rel => first | exact ⟨k + 1, c + 1, by omega, by go_num, by go_num, HN.out⟩ | ((repeat apply Exists.intro); exact ⟨⟨k + 1, c + 1, by omega, by go_num, by go_num, HN.out⟩, rfl⟩)
                        case measure => simp [intOf]; omega
                      | false =>
                        rw [hde] at hbe
                        have HNE : Hid (zs ≠ ys) := of_decide_eq_false hde
                        clear hde
                        go_wp2_with fail
                        refine wp_region_noPanic ?_
                        refine wp_region_held_drew (S := Two5 b off i (some ⟨b2, o2, none⟩, qn, qc) b2 (o2 + c) b1 (o1 + k * 2 + 1) zs ys t (sa, sn, sc)) (by kernel_rfl) (five) (fun hHeld => ?_)
                        unfold Two5 at hHeld
                        refine tq 0 ?_
                        refine tq 1 ?_
                        refine tq 2 ?_
                        refine tq 3 ?_
                        refine tq 4 ?_
                        refine tq 5 ?_
                        refine tq 6 ?_
                        refine tq 7 ?_
                        rw [show decide (qn ≤ c) = false from decide_eq_false (by omega)]
                        refine tq 8 ?_
                        refine tq 9 ?_
                        refine tq 10 ?_
                        refine tq 11 ?_
                        refine tq 12 ?_
                        refine tq 13 ?_
                        refine tq 14 ?_
                        refine tq 15 ?_
                        refine tq 16 ?_
                        refine tq 17 ?_
                        refine tq 18 ?_
                        refine tq 19 ?_
                        refine tq 20 ?_
                        refine tq 21 ?_
                        refine tq 22 ?_
                        refine tq 23 ?_
                        refine wpAnyH_done (by kernel_rfl) ?_ _
                        refine NoPanic.normal ?_
                        go_wp2
                        go_ret2
                        refine ⟨.inr ⟨(none, 0, 0), rfl, Its.nil0 _ _, no_told HS.out.1 (not_ord HJ.out.2.2.2.2.1 rfl HQ.out.1 (fun e => HNE.out ?_))⟩, HJ.out.2.2.2.1.drew⟩
                        rw [HJ.out.1, HZ.out] at e
                        simpa using e
                    · have hcqI : (qn : Int) ≤ (c : Int) := by omega
                      have hcqG : (c : Int) ≥ (qn : Int) := by omega
                      have six : Two6 b off i (qa, qn, qc) wr.drew := ⟨bl_cell ((Up.refl wr).drew).bl q0, trivial⟩
                      go_wp2_with fail
                      refine wp_region_noPanic ?_
                      refine wp_region_held_drew (S := Two6 b off i (qa, qn, qc)) (by kernel_rfl) (six) (fun hHeld => ?_)
                      unfold Two6 at hHeld
                      refine tq 0 ?_
                      refine tq 1 ?_
                      refine tq 2 ?_
                      refine tq 3 ?_
                      refine tq 4 ?_
                      refine tq 5 ?_
                      refine tq 6 ?_
                      refine tq 7 ?_
                      refine tqS 8 ?_
                      refine tqS 9 ?_
                      refine tqS 10 ?_
                      refine tqS 11 ?_
                      refine tqS 12 ?_
                      refine tqS 13 ?_
                      refine tqS 14 ?_
                      refine tqS 15 ?_
                      refine tqS 16 ?_
                      refine tqS 17 ?_
                      refine tqS 18 ?_
                      refine tqS 19 ?_
                      refine tqS 20 ?_
                      refine tqS 21 ?_
                      refine tqS 22 ?_
                      refine tq 23 ?_
                      refine wpAnyH_done (by kernel_rfl) ?_ _
                      refine NoPanic.normal ?_
                      go_wp2
                      go_ret2
                      refine ⟨.inr ⟨(none, 0, 0), rfl, Its.nil0 _ _, no_told HS.out.1 (not_ord HJ.out.2.2.2.2.1 rfl HQ.out.1 (fun e => ?_))⟩, HJ.out.2.2.2.1.drew⟩
                      rw [HJ.out.1] at e
                      have := (List.getElem?_eq_some_iff.1 e).1
                      have := HQ.out.2.2.1
                      omega
                  · have hfn : (f != (i : Int)) = true := by simpa using hfi
                    have HN : Hid (cnt (S0.take (k + 1)) (i : Int) = c ∧ Ord1 S0 acc i (k + 1) ∧ Its (fun _ => True) wr (some ⟨b1, o1, none⟩) j S0 ∧ Below w.heap.size w wr) :=
                      ⟨cnt_skip HJ.out.2.2.2.2.1 HJ.out.1 hfi, HJ.out.2.1.skip HJ.out.2.2.2.2.1 hfi, HJ.out.2.2.1, HJ.out.2.2.2.1⟩
                    go_wp2
                    go_roundw
                    case rel => first | exact ⟨k + 1, c, by omega, by go_num, rfl, HN.out⟩ | ((repeat apply Exists.intro); exact ⟨⟨k + 1, c, by omega, by go_num, rfl, HN.out⟩, rfl⟩)
                    case measure => simp [intOf]; omega
                · obtain rfl : k = j := by omega
                  have HN : Hid (∀ i', i' < i + 1 → Ord1 S0 acc i' S0.length) := fun i' hi' => by
                    by_cases e : i' = i
                    · subst e; rw [← HRN.out]; exact hod
                    · exact HQ.out.2.2.2.2 i' (by omega)
                  have HE : Hid (Its (fun _ => True) wr ra k S0 ∧ Below w.heap.size w wr) := ⟨hits, hbl⟩
                  clear hcc hod hits hbl
                  go_wp2
                  go_roundw
                  case rel => first | exact ⟨i + 1, by omega, by go_num, HN.out, HE.out⟩ | ((repeat apply Exists.intro); exact ⟨⟨i + 1, by omega, by go_num, HN.out, HE.out⟩, rfl⟩)
                  case measure => simp [intOf]; omega
            · obtain rfl : i = m := by omega
              have HE : Hid (Its (fun _ => True) wr ra j S0 ∧ Below w.heap.size w wr ∧ SeqOk acc del S0) := ⟨hits, hbl, HS.out.1.ok HS.out.2 (told_of (by rw [hl2]; exact HR.out) (fun i hi => hor i (by omega)))⟩
              clear hor hits hbl
              go_wp2
              go_ret2
              exact ⟨.inl ⟨(ra, j, rc), S0, rfl, HE.out.1, HE.out.2.2⟩, HE.out.2.1⟩
end Go.Proofs.Ythnbijnpbjfoaaa
