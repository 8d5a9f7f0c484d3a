/-
  judge's longest list, and slices.EqualFunc of items.
-/
import Derived.Test.YthnbijnpbjfoaaaJRow
namespace Go.Proofs.Ythnbijnpbjfoaaa
open Go.RowKit Go.Sort
set_option linter.unusedVariables false

def LongPost (w : World) (del : List (List Di)) (n : Nat) (e : Ending) (w' : World) : Prop :=
  (∃ (r : Sr) (S : List Di), e = .returned (.slice r.1 r.2.1 r.2.2) ∧ Cp r ∧ Its (fun _ => True) w' r.1 r.2.1 S ∧ Lng del n S) ∧ Up w w'
set_option maxRecDepth 10000 in
set_option maxHeartbeats 1000000 in
theorem longest_any (w : World) (ao : Option Addr) (n cap : Nat) (del : List (List Di)) (h : Iss w ao n del) :
    Calls Try.prog 29 #[.slice ao n cap] w fun e w' => LongPost w del n e w' := by
  have hl := h.len
  have hm := h.le
  have HI : Hid (Iss w ao n del) := h
  clear h
  go_enter Try.func29, Try.ntmps29
  go_wp2_with fail
  go_loopw [3, 5, 8] (fun wv _ iv wr => ∃ (k : Nat) (r : Sr) (S : List Di), k ≤ n ∧ iv = .int .i64 (k : Nat) ∧ wv = .slice r.1 r.2.1 r.2.2 ∧ Cp r ∧ Its (fun _ => True) wr r.1 r.2.1 S ∧ Lng del k S ∧ Up w wr) (fun _ _ iv _ => n - (intOf iv).toNat)
  case atStart => exact ⟨0, (none, 0, 0), [], by omega, rfl, rfl, Cp.nil, Its.nil0 _ _, Lng.zero _, Up.refl _⟩
  case round =>
    obtain ⟨k, r, S, hk, rfl, rfl, hcp, hits, hlng, hu⟩ := hrel
    have HL : Hid (Cp r ∧ Its (fun _ => True) wr r.1 r.2.1 S ∧ Lng del k S ∧ S.length = r.2.1) := ⟨hcp, hits, hlng, hits.len⟩
    clear hcp hits hlng
    obtain ⟨ra, rn, rc⟩ := r
    simp only at HL ⊢
    by_cases hlt : k < n
    · have hltI : (k : Int) < (n : Int) := by omega
      obtain ⟨l, hl⟩ : ∃ l, del[k]? = some l := ⟨del[k]'(by omega), List.getElem?_eq_getElem (by omega)⟩
      obtain ⟨b, off, r2, rfl, c0, hc2, hi2⟩ := (Iss.up HI.out hu.bl).at hl
      have HR : Hid (Cp r2 ∧ Its (fun _ => True) wr r2.1 r2.2.1 l ∧ l.length = r2.2.1 ∧ del[k]? = some l) := ⟨hc2, hi2, hi2.len, hl⟩
      clear hc2 hi2 hl
      obtain ⟨sa, sn, sc⟩ := r2
      simp only at HR c0
      have hk0 : ¬ ((k : Int) < 0) := by omega
      by_cases hg : rn < sn
      · have hgI : (rn : Int) < (sn : Int) := by omega
        go_wp2
        go_roundw
        case rel =>
          obtain ⟨a1, a2, a3, a4⟩ := HL.out
          obtain ⟨b1, b2, b3, b4⟩ := HR.out
          have hn := a3.more b4 (by omega)
          first | exact ⟨k + 1, (sa, sn, sc), l, by omega, by go_num, rfl, b1, b2, hn, hu⟩ | ((repeat apply Exists.intro); exact ⟨⟨k + 1, (sa, sn, sc), l, by omega, by go_num, rfl, b1, b2, hn, hu⟩, rfl⟩)
        case measure => simp [intOf]; omega
      · have hgI : ¬ ((rn : Int) < (sn : Int)) := by omega
        go_wp2
        go_roundw
        case rel =>
          obtain ⟨a1, a2, a3, a4⟩ := HL.out
          obtain ⟨b1, b2, b3, b4⟩ := HR.out
          have hn := a3.less b4 (by omega)
          first | exact ⟨k + 1, (ra, rn, rc), S, by omega, by go_num, rfl, a1, a2, hn, hu⟩ | ((repeat apply Exists.intro); exact ⟨⟨k + 1, (ra, rn, rc), S, by omega, by go_num, rfl, a1, a2, hn, hu⟩, rfl⟩)
        case measure => simp [intOf]; omega
    · obtain rfl : k = n := by omega
      go_wp2
      go_ret
      exact ⟨⟨(ra, rn, rc), S, rfl, HL.out.1, HL.out.2.1, HL.out.2.2.1⟩, hu⟩

set_option maxRecDepth 10000 in
set_option maxHeartbeats 1000000 in
theorem eqf_any (w : World) (ao bo : Option Addr) (n c1 c2 : Nat) (ds es : List Di) (h : Its (fun _ => True) w ao n ds) (g : Its (fun _ => True) w bo n es) :
    Calls Try.prog 30 #[.slice ao n c1, .slice bo n c2, .func (.func 31) #[] #[]] w fun e w' => e = .returned (.bool (decide (ds = es))) ∧ Up w w' := by
  have hl := h.len
  have hl2 := g.len
  have hm := h.le
  have HI : Hid (Its (fun _ => True) w ao n ds ∧ Its (fun _ => True) w bo n es) := ⟨h, g⟩
  generalize hdd : decide (ds = es) = res
  have HD : Hid (decide (ds = es) = res) := hdd
  clear h g hdd
  go_enter Try.func30, Try.ntmps30
  go_wp2_with fail
  go_loopw [7, 8, 9, 17] (fun _ _ _ iv wr => ∃ k : Nat, k ≤ n ∧ iv = .int .i64 (k : Nat) ∧ ds.take k = es.take k ∧ Up w wr) (fun _ _ _ iv _ => n - (intOf iv).toNat)
  case atStart => exact ⟨0, by omega, rfl, by simp, Up.refl _⟩
  case round =>
    obtain ⟨k, hk, rfl, htk, hu⟩ := hrel
    have HT : Hid (ds.take k = es.take k) := htk
    clear htk
    by_cases hlt : k < n
    · have hltI : (k : Int) < (n : Int) := by omega
      have hk0 : ¬ ((k : Int) < 0) := by omega
      obtain ⟨d, hd⟩ : ∃ d, ds[k]? = some d := ⟨ds[k]'(by omega), List.getElem?_eq_getElem (by omega)⟩
      obtain ⟨e, he⟩ : ∃ e, es[k]? = some e := ⟨es[k]'(by omega), List.getElem?_eq_getElem (by omega)⟩
      obtain ⟨b1, o1, r, rfl, p0, p1, pr⟩ := (HI.out.1.up hu.bl).at hd
      obtain ⟨b2, o2, s, rfl, q0, q1, qr⟩ := (HI.out.2.up hu.bl).at he
      have HDE : Hid (ds[k]? = some d ∧ es[k]? = some e) := ⟨hd, he⟩
      obtain ⟨w1, hw1⟩ : ∃ w1, wr.alloc (.cells #[.int .i64 d.1, .slice r.1 r.2.1 r.2.2] 34) = w1 := ⟨_, rfl⟩
      obtain ⟨w2, hw2⟩ : ∃ w2, w1.alloc (.cells #[.int .i64 e.1, .slice s.1 s.2.1 s.2.2] 34) = w2 := ⟨_, rfl⟩
      have hz : w1.heap.size = wr.heap.size + 1 := by rw [← hw1]; simp
      have u1 : Up wr w1 := by rw [← hw1]; exact (Up.refl _).alloc _
      have u2 : Up wr w2 := by rw [← hw2]; exact u1.alloc _
      have q0' := bl_cell u1.bl q0
      have q1' := bl_cell u1.bl q1
      have a0 : w2.cell? ⟨wr.heap.size, 0, none⟩ = some (.int .i64 d.1) := by rw [← hw2]; exact bl_cell (bl1 _ _) (by rw [← hw1]; exact cell_box wr _ 34 0 _ rfl)
      have a1 : w2.cell? ⟨wr.heap.size, 1, none⟩ = some (.slice r.1 r.2.1 r.2.2) := by rw [← hw2]; exact bl_cell (bl1 _ _) (by rw [← hw1]; exact cell_box wr _ 34 1 _ rfl)
      have e0 : w2.cell? ⟨wr.heap.size + 1, 0, none⟩ = some (.int .i64 e.1) := by rw [← hw2, ← hz]; exact cell_box _ _ 34 0 _ rfl
      have e1 : w2.cell? ⟨wr.heap.size + 1, 1, none⟩ = some (.slice s.1 s.2.1 s.2.2) := by rw [← hw2, ← hz]; exact cell_box _ _ 34 1 _ rfl
      have hs := same_any (fun _ => True) (fun _ => True) w2 d e r s (pr.up u2.bl) (qr.up u2.bl)
      unfold itm at hs
      have hu2 := hu.trans u2
      clear hd he pr qr u1 u2 q0 q1 HI
      cases hde : decide (d = e) with
      | false =>
        rw [hde] at hs
        have hrt : Hid (false = res) := by
          show false = res
          rw [← HD.out]
          symm
          simp only [decide_eq_false_iff_not]
          intro x
          have hne : d ≠ e := by simpa using hde
          have y := HDE.out.1
          rw [x, HDE.out.2] at y
          exact hne (by simpa using y.symm)
        clear hde
        go_wp2_with fail
        (try simp only [hw1, hw2, hz])
        go_wp2_with fail
        (try simp only [hw1, hw2, hz])
        refine hs.mono ?_
        rintro _ w3 ⟨rfl, u3⟩
        have hu3 := hu2.trans u3
        clear hs hu2 u3 hw1 hw2 hz a0 a1 e0 e1 p0 p1 q0' q1'
        go_wp2
        go_ret
        exact ⟨ret_bool hrt.out, hu3⟩
      | true =>
        rw [hde] at hs
        have HT' : Hid (ds.take (k + 1) = es.take (k + 1)) := by
          have x : d = e := by simpa using hde
          show ds.take (k + 1) = es.take (k + 1)
          rw [take_snoc HDE.out.1, take_snoc HDE.out.2, HT.out, x]
        clear hde
        go_wp2_with fail
        (try simp only [hw1, hw2, hz])
        go_wp2_with fail
        (try simp only [hw1, hw2, hz])
        refine hs.mono ?_
        rintro _ w3 ⟨rfl, u3⟩
        have hu3 := hu2.trans u3
        clear hs hu2 u3 hw1 hw2 hz a0 a1 e0 e1 p0 p1 q0' q1'
        go_wp2
        go_roundw
        case rel => first | exact ⟨k + 1, by omega, by go_num, HT'.out, hu3⟩ | ((repeat apply Exists.intro); exact ⟨⟨k + 1, by omega, by go_num, HT'.out, hu3⟩, rfl⟩)
        case measure => simp [intOf]; omega
    · obtain rfl : k = n := by omega
      have hrt : Hid (true = res) := by
        show true = res
        rw [← HD.out]
        symm
        have := HT.out
        rw [List.take_of_length_le (by omega), List.take_of_length_le (by omega)] at this
        simpa using this
      go_wp2
      go_ret
      exact ⟨ret_bool hrt.out, hu⟩
end Go.Proofs.Ythnbijnpbjfoaaa
