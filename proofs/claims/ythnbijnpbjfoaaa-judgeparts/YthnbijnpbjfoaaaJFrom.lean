/-
  The document's from: those of a node.
-/
import Derived.Test.YthnbijnpbjfoaaaJDefs
import Derived.Test.YthnbijnpbjfoaaaJCur
import Derived.Test.YthnbijnpbjfoaaaJAll1
namespace Go.Proofs.Ythnbijnpbjfoaaa
open Go.RowKit Go.Sort
set_option linter.unusedVariables false

theorem fromD_snoc (ds : List Di) (d : Di) (j : Nat) : fromD (ds ++ [d]) j = fromD ds j ++ (if d.1 = (j : Int) then [d] else []) := by
  unfold fromD
  rw [List.filter_append]
  by_cases h : d.1 = (j : Int)
  · rw [List.filter_cons_of_pos (by simpa using h), if_pos h]; rfl
  · rw [List.filter_cons_of_neg (by simpa using h), if_neg h]; rfl
/-- What a function answers that tells a list of its own, whose bytes are old ones. -/
def OwPost (w : World) (S : List Di) (e : Ending) (w' : World) : Prop := (∃ r : Sr, e = .returned (.slice r.1 r.2.1 r.2.2) ∧ OwR w.heap.size w' r S) ∧ RowKit.Below w.heap.size w w'
set_option maxRecDepth 10000 in
set_option maxHeartbeats 2000000 in
theorem from_any (w : World) (p : Nat → Prop) (ao : Option Addr) (n cap : Nat) (ds : List Di) (h : Its p w ao n ds) (hn9 : n ≤ 9000) (j : Nat) :
    Calls Try.prog 72 #[.slice ao n cap, .int .i64 (j : Nat)] w fun e w' => OwPost w (fromD ds j) e w' := by
  have hl := h.len
  have HI : Hid (Its p w ao n ds) := h
  clear h
  go_enter Try.func72, Try.ntmps72
  go_wp2_with fail
  go_loopw [5, 6] (fun lv iv wr => ∃ (k : Nat) (r : Sr), k ≤ n ∧ iv = .int .i64 (k : Nat) ∧ lv = .slice r.1 r.2.1 r.2.2 ∧ OwR w.heap.size wr r (fromD (ds.take k) j) ∧ RowKit.Below w.heap.size w wr) (fun _ iv _ => n - (intOf iv).toNat)
  case atStart => exact ⟨0, (none, 0, 0), by omega, rfl, rfl, OwR.nil _ _, Below.refl _ _⟩
  case round =>
    obtain ⟨k, r, hk, rfl, rfl, how, hbl⟩ := hrel
    by_cases hlt : k < n
    · have hltI : (k : Int) < (n : Int) := by omega
      have hk0 : ¬ ((k : Int) < 0) := by omega
      obtain ⟨d, hd⟩ : ∃ d, ds[k]? = some d := ⟨ds[k]'(by omega), List.getElem?_eq_getElem (by omega)⟩
      obtain ⟨b2, o2, t, rfl, t0, t1, ht⟩ := HI.out.at hd
      have t0 := bl_cell hbl t0
      have t1 := bl_cell hbl t1
      have HS : Hid (fromD (ds.take (k + 1)) j = fromD (ds.take k) j ++ (if d.1 = (j : Int) then [d] else [])) := by
        show _ = _
        rw [take_snoc hd, fromD_snoc]
      have HT : Hid (Rw p w t.1 t.2.1 d.2) := ht
      have hfl : (fromD (ds.take k) j).length ≤ 9000 := by
        unfold fromD
        refine Nat.le_trans (List.length_filter_le _ _) ?_
        simp
        omega
      clear hd ht
      obtain ⟨f, zs⟩ := d
      obtain ⟨ta, tn, tc⟩ := t
      simp only at HT HS t0 t1
      by_cases hf : f = (j : Int)
      · subst hf
        obtain ⟨xs, ho1, ho2, ho3⟩ := how.2
        have hrn : r.2.1 = (fromD (ds.take k) j).length := how.1
        obtain ⟨ra, rn, rc⟩ := r
        simp only at ho1 hrn
        have HO : Hid (xs.length = (fromD (ds.take k) j).length ∧ ∀ (i : Nat) (x : Ix) (d : Di), xs[i]? = some x → (fromD (ds.take k) j)[i]? = some d → It (fun b => b < w.heap.size) wr x d) := ⟨ho2, ho3⟩
        have HBL : Hid (Below w.heap.size w wr ∧ rn = (fromD (ds.take k) j).length) := ⟨hbl, hrn⟩
        have hwl := hbl.size
        rw [← hrn] at ho1 hfl
        clear how ho2 ho3 hbl hrn
        go_wp2_with (at_builtin; refine wpList_append_gen rfl (.tmp 20) (.tmp 25) 25 34 rfl (.agg #[.int .i64 0, .slice none 0 0]) 2 32 und25' infoI rfl (by decide) (by omega) w.heap.size _ rn (cellI xs) rfl ?d1 [.int .i64 (j : Nat), .slice ta tn tc] rfl ?d2 wr.heap.size rfl rfl ?d3 ?d4 ?_)
        case d2 => exact ⟨rfl, rfl⟩
        case d3 => omega
        intro v' w1 hown hgrow hat
        have hb1 : Below w.heap.size wr w1 := bl_grown (Below.refl _ _) hwl hgrow (fun kk hk => by
          have := own_shape ho1
          rcases this with ⟨e, _⟩ | ⟨g, cap, e, hg, _⟩
          · rw [e] at hk; simp [Value.ownBlock] at hk
          · rw [e] at hk; simp [Value.ownBlock] at hk; omega)
        have hb01 := HBL.out.1.trans hb1
        have hitd : It (fun b => b < w.heap.size) wr ((j : Int), ta, tn, tc) ((j : Int), zs) := ⟨rfl, ((HT.out.imp (q := fun b => b < w.heap.size) (fun b hb _ => hb)).keep (Kp.up HBL.out.1))⟩
        have how' := OwS.more (S := fromD (ds.take k) j) (x := ((j : Int), ta, tn, tc)) (d := ((j : Int), zs)) (by rw [← HBL.out.2]; exact hown) HO.out.1 HO.out.2 hb1 hitd
        obtain ⟨r', rfl, hor⟩ := how'.row
        have HN : Hid (OwR w.heap.size w1 r' (fromD (ds.take (k + 1)) j) ∧ Below w.heap.size w w1) := ⟨by rw [HS.out]; simp only [if_true]; exact hor, hb01⟩
        clear hown hgrow hat hb1 hb01 hitd how' hor t0 t1 ho1
        go_wp2
        go_roundw
        case rel => first | exact ⟨k + 1, _, by omega, by go_num, rfl, HN.out⟩ | ((repeat apply Exists.intro); exact ⟨⟨k + 1, _, by omega, by go_num, rfl, HN.out⟩, rfl⟩)
        case measure => simp [intOf]; omega
      · have hfb : ((f : Int) == (j : Int)) = false := by simpa using hf
        have HN : Hid (OwR w.heap.size wr r (fromD (ds.take (k + 1)) j) ∧ Below w.heap.size w wr) := ⟨by rw [HS.out, if_neg hf, List.append_nil]; exact how, hbl⟩
        clear how hbl hf
        go_wp2
        go_roundw
        case rel => first | exact ⟨k + 1, _, by omega, by go_num, rfl, HN.out⟩ | ((repeat apply Exists.intro); exact ⟨⟨k + 1, _, by omega, by go_num, rfl, HN.out⟩, rfl⟩)
        case measure => simp [intOf]; omega
    · obtain rfl : k = n := by omega
      rw [List.take_of_length_le (by omega)] at how
      go_wp2
      go_ret
      exact ⟨⟨_, rfl, how⟩, hbl⟩
end Go.Proofs.Ythnbijnpbjfoaaa
