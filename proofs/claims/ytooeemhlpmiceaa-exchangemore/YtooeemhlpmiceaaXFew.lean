/-
  The law's few; what told tells, as lists.
-/
import Derived.Test.YtooeemhlpmiceaaXWake
namespace Go.Proofs.Ytooeemhlpmiceaa
open Go.RowKit
set_option linter.unusedVariables false
set_option linter.unusedSimpArgs false

def szP (t : Pt) : Nat := t.es.length + t.ls.length
def sumT (ss : List Pt) : Nat := (ss.map szP).sum
theorem sumT_take {ss : List Pt} {k : Nat} {t : Pt} (h : ss[k]? = some t) : sumT (ss.take (k + 1)) = sumT (ss.take k) + szP t := by
  unfold sumT
  rw [List.take_add_one, h]
  simp
theorem i64_in (x : Int) (h : -9223372036854775808 ≤ x ∧ x ≤ 9223372036854775807) : IntKind.i64.wrap x = x := by
  simp [IntKind.wrap, IntKind.bits, IntKind.signed]
  omega
theorem sumT_le {ss : List Pt} {c : Nat} (h : ∀ t ∈ ss, szP t ≤ c) : ∀ k, sumT (ss.take k) ≤ k * c
  | 0 => by simp [sumT]
  | k + 1 => by
    have h1 := sumT_le h k
    rw [Nat.succ_mul]
    cases hk : ss[k]? with
    | none =>
      rw [List.take_add_one, hk]
      simp only [Option.toList_none, List.append_nil]
      exact Nat.le_trans h1 (Nat.le_add_right _ _)
    | some t =>
      rw [sumT_take hk]
      exact Nat.add_le_add h1 (h t (List.mem_of_getElem? hk))
def Sf (b o : Nat) (v1 v2 : Value) (w : World) : Prop := w.cell? ⟨b, o, none⟩ = some v1 ∧ w.cell? ⟨b, o + 1, none⟩ = some v2
def FewPost (n : Nat) (ss : List Pt) (e : Ending) : Prop := ∃ r, e = .returned (.bool r) ∧ (r = true → n ≤ 16 ∧ sumT ss ≤ 150)
set_option maxRecDepth 10000 in
set_option maxHeartbeats 2000000 in
theorem few_any (w : World) (ao : Option Addr) (n cap : Nat) (ss : List Pt) (h : SL (fun _ => True) w ao n ss) (hsz : ∀ t ∈ ss, szP t ≤ 281474976710656) :
    Calls Try.prog 25 #[.slice ao n cap] w fun e w' => FewPost n ss e ∧ Below w.heap.size w w' := by
  have hl := h.1
  have hmax := h.2.1
  have HSZ : Hid (∀ k, sumT (ss.take k) ≤ k * 281474976710656) := sumT_le hsz
  have HS1 : Hid (∀ t ∈ ss, szP t ≤ 281474976710656) := hsz
  clear hsz
  go_enter Try.func25, Try.ntmps25
  go_wp2_with fail
  go_loopw [3, 4] (fun nv iv wr => ∃ (k : Nat) (x : Int), k ≤ n ∧ iv = .int .i64 k ∧ nv = .int .i64 x ∧ (n ≤ 16 → x = (sumT (ss.take k) : Nat)) ∧ Below w.heap.size w wr) (fun _ iv _ => n - (intOf iv).toNat)
  case atStart => exact ⟨0, 0, by omega, rfl, rfl, fun _ => rfl, Below.refl _ _⟩
  case round =>
    obtain ⟨k, x, hk, rfl, rfl, hx, hb⟩ := hrel
    have HX : Hid (n ≤ 16 → x = (sumT (ss.take k) : Nat)) := hx
    clear hx
    by_cases hlt : k < n
    · have hltI : (k : Int) < (n : Int) := by omega
      have hk0 : ¬ ((k : Int) < 0) := by omega
      obtain ⟨t, ht⟩ : ∃ z, ss[k]? = some z := ⟨ss[k]'(by omega), List.getElem?_eq_getElem (by omega)⟩
      obtain ⟨b, off, hao, _, hc⟩ := h.2.2 (by omega)
      obtain ⟨ca, cc, oa, oc, ⟨c1, c2, c3, c4, c5⟩, _⟩ := hc k t ht
      have ud : Below wr.heap.size wr wr.drew := (Below.refl _ _).drew
      have kk : ∀ {ad : Addr} {v : Value}, w.cell? ad = some v → wr.cell? ad = some v := fun hv => (hb.cell (World.block_lt_of_cell? w _ hv)).trans hv
      have s0 : Sf b (off + k * 5) (.slice ca t.es.length cc) (.slice oa t.ls.length oc) wr.drew := ⟨bl_cell ud (kk c1), bl_cell ud (kk c2)⟩
      subst hao
      have hz := HS1.out t (List.mem_of_getElem? ht)
      unfold szP at hz
      have HN : Hid (n ≤ 16 → IntKind.i64.wrap (x + IntKind.i64.wrap ((t.es.length : Int) + (t.ls.length : Int))) = (sumT (ss.take (k + 1)) : Nat)) := fun hn => by
        have h1 := HSZ.out (k + 1)
        rw [sumT_take ht] at h1 ⊢
        rw [HX.out hn]
        unfold szP at *
        rw [i64_in ((t.es.length : Int) + (t.ls.length : Int)) (by omega), i64_in _ (by omega)]
        omega
      have hb2 := bl_step hb ud
      generalize t.es.length = A at *
      generalize t.ls.length = Bn at *
      clear hc kk HX HSZ HS1
      unfold Sf at s0
      go_wp2_with fail
      refine wp_region_noPanic ?_
      refine wp_region_held_drew (S := Sf b (off + k * 5) (.slice ca A cc) (.slice oa Bn oc)) (by kernel_rfl) s0 (fun hHeld => ?_)
      unfold Sf at hHeld
      refine tq 0 ?_
      refine tq 1 ?_
      refine tq 2 ?_
      refine tq 3 ?_
      refine tq 4 ?_
      refine tq 5 ?_
      refine tq 6 ?_
      refine tq 7 ?_
      refine tq 8 ?_
      refine tq 9 ?_
      refine tq 10 ?_
      refine tq 11 ?_
      refine tq 12 ?_
      refine tq 13 ?_
      refine tq 14 ?_
      refine tq 15 ?_
      refine wpAnyH_done (by kernel_rfl) ?_ _
      refine NoPanic.normal ?_
      clear hHeld
      go_wp2
      go_roundw
      case rel => first | exact ⟨k + 1, _, by omega, by go_num, rfl, HN.out, hb2⟩ | ((repeat apply Exists.intro); exact ⟨⟨k + 1, _, by omega, by go_num, rfl, HN.out, hb2⟩, rfl⟩)
      case measure => simp [intOf]; omega
    · obtain rfl : n = k := by omega
      have hltI : ¬ ((n : Int) < (n : Int)) := by omega
      have HX2 : Hid (n ≤ 16 → x = (sumT ss : Nat)) := fun hn => by rw [HX.out hn, List.take_of_length_le (by omega)]
      clear HX HSZ HS1
      by_cases hn : (n : Int) ≤ 16
      · by_cases hx : x ≤ 150
        · go_wp2
          go_ret
          refine ⟨⟨true, ret_bool (by simp [*]), fun _ => ⟨by omega, ?_⟩⟩, hb⟩
          have := HX2.out (by omega)
          omega
        · go_wp2
          go_ret
          exact ⟨⟨false, ret_bool (by simp [*]), fun h => by cases h⟩, hb⟩
      · go_wp2
        go_ret
        exact ⟨⟨false, ret_bool (by simp [*]), fun h => by cases h⟩, hb⟩
/-- Nodes and what they told, out of rows. -/
theorem Tol.tl {w0 w : World} {p : Nat → Prop} {vt vn vs : Value} {els en es : List El} (h : Tol w0 w p vt vn vs els en es) : ∃ ta tc, vt = .slice ta els.length tc ∧ TL (fun _ => True) w ta els.length (els.map (·.1)) := by
  have ho := h.rt
  rcases id ho.2 with ⟨hv, h0⟩ | ⟨g, cap, cur, hv, hg, hh, hnc, hcm, hcs, htk⟩
  · exact ⟨none, 0, by rw [h0]; exact hv, by simp, by omega, fun hn => by omega⟩
  · subst hv
    refine ⟨_, _, rfl, by simp, by unfold maxLen at hcm; omega, fun hn => ⟨g, 0, rfl, trivial, fun j t hj => ?_⟩⟩
    rw [List.getElem?_map] at hj
    obtain ⟨x, hx, rfl⟩ := Option.map_eq_some_iff.1 hj
    have hcell : ∀ i, i < 6 → w.cell? ⟨g, 0 + j * 6 + i, none⟩ = (c6 x)[i]? := fun i hi => by
      have e := f6_get els j x i hx hi
      have hlt : i < (c6 x).length := by simpa [c6, c5] using hi
      rw [List.getElem?_eq_getElem hlt] at e ⊢
      have := ho.cells (g := g) rfl (6 * j + i) _ e
      rw [Addr.add_lit] at this
      rw [show 0 + j * 6 + i = 0 + (6 * j + i) by omega]
      exact this
    obtain ⟨f1, f2, f3, f4, f5⟩ := h.ft x (List.mem_of_getElem? hx)
    exact ⟨hcell 0 (by omega), x.2.1.1, x.2.1.2, x.2.2.1, x.2.2.2, ⟨hcell 1 (by omega), hcell 2 (by omega), hcell 3 (by omega), hcell 4 (by omega), hcell 5 (by omega)⟩, f1.mono (fun _ _ => trivial), f2, fun _ _ _ => trivial, f4, f5⟩
/-- What they told, out of rows. -/
theorem Tol.sl {w0 w : World} {p : Nat → Prop} {vt vn vs : Value} {et en els : List El} (h : Tol w0 w p vt vn vs et en els) : ∃ sa sc, vs = .slice sa els.length sc ∧ SL (fun _ => True) w sa els.length (els.map (·.1)) := by
  have ho := h.rs
  rcases id ho.2 with ⟨hv, h0⟩ | ⟨g, cap, cur, hv, hg, hh, hnc, hcm, hcs, htk⟩
  · exact ⟨none, 0, by rw [h0]; exact hv, by simp, by omega, fun hn => by omega⟩
  · subst hv
    refine ⟨_, _, rfl, by simp, by unfold maxLen at hcm; omega, fun hn => ⟨g, 0, rfl, trivial, fun j t hj => ?_⟩⟩
    rw [List.getElem?_map] at hj
    obtain ⟨x, hx, rfl⟩ := Option.map_eq_some_iff.1 hj
    have hcell : ∀ i, i < 5 → w.cell? ⟨g, 0 + j * 5 + i, none⟩ = (c5 x)[i]? := fun i hi => by
      have e := f5_get els j x i hx hi
      have hlt : i < (c5 x).length := by simpa [c5] using hi
      rw [List.getElem?_eq_getElem hlt] at e ⊢
      have := ho.cells (g := g) rfl (5 * j + i) _ e
      rw [Addr.add_lit] at this
      rw [show 0 + j * 5 + i = 0 + (5 * j + i) by omega]
      exact this
    obtain ⟨f1, f2, f3, f4, f5⟩ := h.fs x (List.mem_of_getElem? hx)
    exact ⟨x.2.1.1, x.2.1.2, x.2.2.1, x.2.2.2, ⟨hcell 0 (by omega), hcell 1 (by omega), hcell 2 (by omega), hcell 3 (by omega), hcell 4 (by omega)⟩, f1.mono (fun _ _ => trivial), f2, fun _ _ _ => trivial, f4, f5⟩
/-- What is told, as a list of nodes. -/
theorem told_tl {w w' : World} {ss : List Pt} {m : Nat} {e : Ending} (h : ToldPost w w' ss m e) : ∃ ta tc vn vs, e = .returned (.tuple #[.slice ta ss.length tc, vn, vs]) ∧ TL (fun _ => True) w' ta ss.length (toldL ss m) ∧ Below w.heap.size w w' := by
  obtain ⟨p, vt, vn, vs, els, rfl, hT, hp⟩ := h
  obtain ⟨ta, tc, rfl, hl⟩ := hT.tl
  have hlen : els.length = ss.length := by have := congrArg List.length hp; simpa [toldL] using this
  rw [hp, hlen] at hl
  rw [hlen]
  exact ⟨ta, tc, vn, vs, rfl, hl, hT.bl⟩
end Go.Proofs.Ytooeemhlpmiceaa
