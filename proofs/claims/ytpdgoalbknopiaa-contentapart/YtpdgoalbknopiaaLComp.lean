/-
  slices.Compact of labels: of neighbours that are one, one.
-/
import Derived.Test.YtpdgoalbknopiaaLSort
namespace Go.Proofs.Ytpdgoalbknopiaa
open Go.RowKit Go.Sort
set_option linter.unusedVariables false

/-- Of the first k those that are not what stands ahead of them. -/
def keep (ls : List Lb) : Nat → List Lb
  | 0 => []
  | k + 1 => keep ls k ++ (match ls[k]? with | some x => if 0 < k ∧ ls[k - 1]? = some x then [] else [x] | none => [])
theorem keep_next {ls : List Lb} {m : Nat} {x y : Lb} (hx : ls[m + 1]? = some x) (hy : ls[m]? = some y) (h : x ≠ y) : keep ls (m + 2) = keep ls (m + 1) ++ [x] := by
  rw [keep, hx]
  simp only [Nat.add_sub_cancel, hy, Option.some.injEq]
  rw [if_neg (fun e => h e.2.symm)]
theorem keep_same {ls : List Lb} {m : Nat} {x : Lb} (hx : ls[m + 1]? = some x) (hy : ls[m]? = some x) : keep ls (m + 2) = keep ls (m + 1) := by
  rw [keep, hx]
  simp only [Nat.add_sub_cancel, hy]
  rw [if_pos ⟨by omega, trivial⟩]
  simp
theorem keep_one {ls : List Lb} {x : Lb} (hx : ls[0]? = some x) : keep ls 1 = [x] := by
  rw [keep, hx, keep]
  simp
theorem keep_le (ls : List Lb) : ∀ k, (keep ls k).length ≤ k
  | 0 => by simp [keep]
  | k + 1 => by
    have := keep_le ls k
    rw [keep, List.length_append]
    split
    · split <;> simp <;> omega
    · simp; omega
/-- Of labels of which none is ahead of a lesser one: each once, rising. -/
theorem keep_asc {ls : List Lb} (h : ls.Pairwise (fun x y => ¬ ltL y x)) : ∀ k, k ≤ ls.length → (keep ls k).Pairwise ltL ∧ (∀ x, x ∈ keep ls k ↔ x ∈ ls.take k) ∧ (∀ m y, k = m + 1 → ls[m]? = some y → ∀ x ∈ keep ls k, ¬ ltL y x)
  | 0, _ => ⟨by simp [keep], by simp [keep], fun m y e => by omega⟩
  | k + 1, hk => by
    obtain ⟨h1, h2, h3⟩ := keep_asc h k (by omega)
    have hp := List.pairwise_iff_getElem.1 h
    obtain ⟨x, hx⟩ : ∃ x, ls[k]? = some x := ⟨ls[k]'(by omega), List.getElem?_eq_getElem (by omega)⟩
    have ht : ∀ y, y ∈ ls.take (k + 1) ↔ y ∈ ls.take k ∨ y = x := fun y => by rw [List.take_add_one, hx]; simp
    have hge : ∀ y ∈ ls.take k, ¬ ltL x y := fun y hy => by
      obtain ⟨j, hj, rfl⟩ := List.mem_iff_getElem.1 hy
      rw [List.length_take] at hj
      have hxk : ls[k]'(by omega) = x := (List.getElem?_eq_some_iff.1 hx).2
      have := hp j k (by omega) (by omega) (by omega)
      rw [hxk] at this
      simpa using this
    have fin : ∀ y, y ∈ keep ls k → ¬ ltL x y := fun y hy => hge y ((h2 y).1 hy)
    cases k with
    | zero =>
      rw [keep_one hx]
      refine ⟨by simp, fun y => by rw [ht]; simp, fun m y e hy z hz => ?_⟩
      obtain rfl : m = 0 := by omega
      rw [hx] at hy
      cases hy
      simp at hz
      subst hz
      exact ltL_irr _
    | succ m =>
      obtain ⟨y, hy⟩ : ∃ y, ls[m]? = some y := ⟨ls[m]'(by omega), List.getElem?_eq_getElem (by omega)⟩
      have hyin : y ∈ ls.take (m + 1) := by rw [List.take_add_one, hy]; simp
      by_cases e : x = y
      · subst e
        rw [keep_same hx hy]
        refine ⟨h1, fun z => ?_, fun m' y' e' hy' z hz => ?_⟩
        · rw [ht, h2 z]
          exact ⟨Or.inl, fun h => h.elim id (fun e => e ▸ hyin)⟩
        · obtain rfl : m' = m + 1 := by omega
          rw [hx] at hy'
          cases hy'
          exact fin z hz
      · rw [keep_next hx hy e]
        refine ⟨?_, fun z => ?_, fun m' y' e' hy' z hz => ?_⟩
        · rw [List.pairwise_append]
          refine ⟨h1, by simp, fun a ha b hb => ?_⟩
          simp at hb
          subst hb
          have ha3 : ¬ ltL y a := h3 m y rfl hy a ha
          have hyx : ltL y b := by
            have hnx : ¬ ltL b y := hge y hyin
            exact Classical.byContradiction fun hn => e (ltL_tri hnx hn)
          exact Classical.byContradiction fun hn => by
            have := ltL_ntrans ha3 hn
            exact this hyx
        · rw [ht, List.mem_append, h2 z]; simp
        · obtain rfl : m' = m + 1 := by omega
          rw [hx] at hy'
          cases hy'
          rw [List.mem_append] at hz
          rcases hz with hz | hz
          · exact fin z hz
          · simp at hz; subst hz; exact ltL_irr _

set_option maxRecDepth 10000 in
set_option maxHeartbeats 2000000 in
theorem compact_some (w : World) (g n cap base : Nat) (ls : List Lb) (hblk : Blk w g cap ls) (hl : ls.length = n) (hbg : base ≤ g) (hcm : cap ≤ maxLen) :
    Calls Try.prog 77 #[.slice (some ⟨g, 0, none⟩) n cap] w fun e w' => ∃ v', e = .returned v' ∧ w'.ownsRow base 26 4 v' (keep ls n).length (flat (keep ls n)) ∧ w.grownBy w' (some g) := by
  have hnc : n ≤ cap := by have := hblk.len; omega
  have hwide : cap ≤ 9223372036854775807 := by unfold maxLen at hcm; omega
  have HOWN : Hid (∀ w', Blk w' g cap ls → w'.ownsRow base 26 4 (.slice (some ⟨g, 0, none⟩) n cap) n (flat ls)) := fun w' hb => by
    have := hb.own hbg hcm n (by omega)
    rwa [List.take_of_length_le (by omega)] at this
  by_cases h2 : n < 2
  · have HE : Hid (w.ownsRow base 26 4 (.slice (some ⟨g, 0, none⟩) n cap) (keep ls n).length (flat (keep ls n)) ∧ w.grownBy w (some g)) := by
      have e : keep ls n = ls := by
        match n, ls, hl, h2 with
        | 0, [], _, _ => rfl
        | 1, [x], _, _ => exact keep_one rfl
      rw [e, hl]
      exact ⟨HOWN.out w hblk, gr_refl _ _⟩
    have h2I : (n : Int) < 2 := by omega
    clear hblk HOWN
    go_enter Try.func77, Try.ntmps77
    go_wp2
    go_ret
    exact ⟨_, rfl, HE.out⟩
  · have h2I : ¬ ((n : Int) < 2) := by omega
    have H1 : Hid (keep ls 1 = ls.take 1) := by
      have hx : ls[0]? = some (ls[0]'(by omega)) := List.getElem?_eq_getElem (by omega)
      show _ = _
      rw [keep_one hx, List.take_add_one, hx]; simp
    go_enter Try.func77, Try.ntmps77
    go_wp2_with fail
    go_loopw [3] (fun iv wr => ∃ m : Nat, m + 1 ≤ n ∧ iv = .int .i64 ((m : Int) + 1) ∧ keep ls (m + 1) = ls.take (m + 1) ∧ Up w wr) (fun iv _ => n - (intOf iv).toNat)
    case atStart => exact ⟨0, by omega, rfl, H1.out, Up.refl _⟩
    case round =>
      obtain ⟨m, hm, rfl, hkp, hu⟩ := hrel
      have HK : Hid (keep ls (m + 1) = ls.take (m + 1)) := hkp
      clear hkp
      have hb := hblk.up hu.bl
      by_cases hlt : m + 1 < n
      · have hltI : (m : Int) + 1 < (n : Int) := by omega
        obtain ⟨x, hx⟩ : ∃ y, ls[m + 1]? = some y := ⟨ls[m + 1]'(by omega), List.getElem?_eq_getElem (by omega)⟩
        obtain ⟨y, hy⟩ : ∃ y, ls[m]? = some y := ⟨ls[m]'(by omega), List.getElem?_eq_getElem (by omega)⟩
        obtain ⟨c0, c1, c2, c3⟩ := hb.cell hx
        obtain ⟨d0, d1, d2, d3⟩ := hb.cell hy
        have heq := fun W => lab_equal x y W
        have HX : Hid (ls[m + 1]? = some x) := hx
        have HY : Hid (ls[m]? = some y) := hy
        clear hx hy
        have hm0 : ¬ ((m : Int) + 1 < 0) := by omega
        have hm1 : ¬ ((m : Int) < 0) := by omega
        have hm2 : (m : Int) < (n : Int) := by omega
        cases he : decide (x = y) with
        | false =>
          rw [he] at heq
          have HK' : Hid (keep ls (m + 1 + 1) = ls.take (m + 1 + 1)) := by
            show _ = _
            rw [keep_next HX.out HY.out (by simpa using he), HK.out, show ls.take (m + 1 + 1) = ls.take (m + 1) ++ ls[m + 1]?.toList from List.take_add_one, HX.out]; rfl
          clear he HK
          go_wp2_with fail
          go_quiet (fail)
          go_wp2
          go_roundw
          case rel => first | exact ⟨m + 1, by omega, by go_num, HK'.out, hu.drewN _⟩ | ((repeat apply Exists.intro); exact ⟨⟨m + 1, by omega, by go_num, HK'.out, hu.drewN _⟩, rfl⟩)
          case measure => simp [intOf]; omega
        | true =>
          rw [he] at heq
          have HK' : Hid (ls.take (m + 1) = keep ls (m + 1 + 1)) := by
            have e : x = y := by simpa using he
            subst e
            show _ = _
            rw [keep_same HX.out HY.out, HK.out]
          clear he HK
          go_wp2_with fail
          go_quiet (fail)
          go_wp2_with fail
          go_loopw [3, 5] (fun kv iv wr => ∃ (k t : Nat) (cur : List Lb), kv = .int .i64 (k : Nat) ∧ iv = .int .i64 ((t : Int) + 1) ∧ k ≤ m + 1 + t ∧ m + 1 + t + 1 ≤ n ∧ Blk wr g cap cur ∧ cur.length = n ∧ cur.take k = keep ls (m + 1 + t + 1) ∧ cur.drop (m + 1 + t) = ls.drop (m + 1 + t) ∧ w.grownBy wr (some g)) (fun _ iv _ => n - (intOf iv).toNat)
          case atStart => exact ⟨m + 1, 0, ls, by go_num, rfl, by omega, by omega, hb, hl, HK'.out, rfl, gr_below (hu.drewN _).bl _⟩
          case round =>
            clear c0 c1 c2 c3 d0 d1 d2 d3 heq HX HY HK' hb
            obtain ⟨k, t, cur, rfl, rfl, hkt, ht, hb, hcl, htk, hdr, hgr⟩ := hrel
            have HTK : Hid (cur.take k = keep ls (m + 1 + t + 1)) := htk
            have HDR : Hid (cur.drop (m + 1 + t) = ls.drop (m + 1 + t)) := hdr
            clear htk hdr
            by_cases hlt2 : m + 1 + t + 1 < n
            · obtain ⟨x, hx⟩ : ∃ y, ls[m + 1 + t + 1]? = some y := ⟨ls[m + 1 + t + 1]'(by omega), List.getElem?_eq_getElem (by omega)⟩
              obtain ⟨y, hy⟩ : ∃ y, ls[m + 1 + t]? = some y := ⟨ls[m + 1 + t]'(by omega), List.getElem?_eq_getElem (by omega)⟩
              have hx' : cur[m + 1 + t + 1]? = some x := by
                have h1 : (cur.drop (m + 1 + t))[1]? = (ls.drop (m + 1 + t))[1]? := by rw [HDR.out]
                simpa [hx] using h1
              have hy' : cur[m + 1 + t]? = some y := by
                have h1 : (cur.drop (m + 1 + t))[0]? = (ls.drop (m + 1 + t))[0]? := by rw [HDR.out]
                simpa [hy] using h1
              obtain ⟨c0, c1, c2, c3⟩ := hb.cell hx'
              obtain ⟨d0, d1, d2, d3⟩ := hb.cell hy'
              rw [show (m + 1 + t + 1) * 4 = (m + 1) * 4 + (t + 1) * 4 by omega] at c0 c1 c2 c3
              rw [show (m + 1 + t) * 4 = (m + 1) * 4 + t * 4 by omega] at d0 d1 d2 d3
              have heq := fun W => lab_equal x y W
              have HX : Hid (ls[m + 1 + t + 1]? = some x) := hx
              have HY : Hid (ls[m + 1 + t]? = some y) := hy
              clear hx hy hx' hy'
              have e1 : (t : Int) + 1 < ((n - (m + 1) : Nat) : Int) := by omega
              have e2 : (t : Int) < ((n - (m + 1) : Nat) : Int) := by omega
              have e3 : ¬ ((t : Int) + 1 < 0) := by omega
              have e4 : ¬ ((t : Int) < 0) := by omega
              have e5 : ¬ ((k : Int) < 0) := by omega
              have e6 : (k : Int) < (n : Int) := by omega
              have HD1 : Hid (cur.drop (m + 1 + (t + 1)) = ls.drop (m + 1 + (t + 1))) := by
                show _ = _
                have h1 : (cur.drop (m + 1 + t)).drop 1 = (ls.drop (m + 1 + t)).drop 1 := by rw [HDR.out]
                rw [List.drop_drop, List.drop_drop] at h1
                exact h1
              cases he : decide (x = y) with
              | true =>
                rw [he] at heq
                have HT : Hid (cur.take k = keep ls (m + 1 + (t + 1) + 1)) := by
                  have e : x = y := by simpa using he
                  subst e
                  show _ = _
                  rw [show m + 1 + (t + 1) + 1 = m + 1 + t + 2 by omega, keep_same HX.out HY.out]
                  exact HTK.out
                clear he HTK
                go_wp2_with fail
                go_quiet (fail)
                go_wp2
                go_roundw
                case rel => first | exact ⟨k, t + 1, cur, by go_num, by go_num, by omega, by omega, hb, hcl, HT.out, HD1.out, gr_trans hgr (gr_below ((Up.refl _).drewN _).bl _)⟩ | ((repeat apply Exists.intro); exact ⟨⟨k, t + 1, cur, by go_num, by go_num, by omega, by omega, hb, hcl, HT.out, HD1.out, gr_trans hgr (gr_below ((Up.refl _).drewN _).bl _)⟩, rfl⟩)
                case measure => simp [intOf]; omega
              | false =>
                rw [he] at heq
                have HT : Hid ((cur.set k x).take (k + 1) = keep ls (m + 1 + (t + 1) + 1)) := by
                  show _ = _
                  rw [show m + 1 + (t + 1) + 1 = m + 1 + t + 2 by omega, keep_next HX.out HY.out (by simpa using he), ← HTK.out, List.take_add_one]
                  have : (cur.set k x)[k]? = some x := by rw [List.getElem?_set_self (by omega)]
                  rw [this, List.take_set_of_le (Nat.le_refl _)]
                  rfl
                have HD2 : Hid ((cur.set k x).drop (m + 1 + (t + 1)) = ls.drop (m + 1 + (t + 1))) := by
                  show _ = _
                  rw [List.drop_set_of_lt (by omega)]
                  exact HD1.out
                have hcl2 : (cur.set k x).length = n := by simpa using hcl
                have hset := fun q => (show Blk (wr.drewN q) g cap cur from hb).set (i := k) (by omega) x
                clear he HTK HD1
                go_wp2_with fail
                go_quiet (fail)
                obtain ⟨w4, hst, hb4, hg4⟩ := hset nq
                have hg5 : w.grownBy w4 (some g) := gr_trans hgr (gr_trans (gr_below ((Up.refl _).drewN nq).bl _) hg4)
                clear hset hg4
                go_wp2_with (first | (refine wpList_store_cells rfl 26 (.tmp 51) (.tmp 50) rfl ⟨g, k * 4, none⟩ #[.int .u64 (x.1 : Nat), .int .i64 x.2.1, .int .u64 (x.2.2.1 : Nat), .int .i64 x.2.2.2] rfl rfl info26 w4 hst ?_))
                go_roundw
                case rel => first | exact ⟨k + 1, t + 1, cur.set k x, by go_num, by go_num, by omega, by omega, hb4, hcl2, HT.out, HD2.out, hg5⟩ | ((repeat apply Exists.intro); exact ⟨⟨k + 1, t + 1, cur.set k x, by go_num, by go_num, by omega, by omega, hb4, hcl2, HT.out, HD2.out, hg5⟩, rfl⟩)
                case measure => simp [intOf]; omega
            · have ent : m + 1 + t + 1 = n := by omega
              have e1 : ¬ ((t : Int) + 1 < ((n - (m + 1) : Nat) : Int)) := by omega
              have e : cur.take k = keep ls n := by rw [← ent]; exact HTK.out
              obtain ⟨w4, hst, hb4, hg4⟩ := hb.clear (i := k) (n := n - k) (by omega) (by omega) (cap - k) 0
              have hk0 : ¬ ((k : Int) < 0) := by omega
              have hlen : (keep ls n).length = k := by rw [← e, List.length_take]; omega
              have HE : Hid (w4.ownsRow base 26 4 (.slice (some ⟨g, 0, none⟩) k cap) (keep ls n).length (flat (keep ls n)) ∧ w.grownBy w4 (some g)) := by
                refine ⟨?_, gr_trans hgr hg4⟩
                have := hb4.own hbg hcm k (by rw [List.length_take]; omega)
                rw [e, List.take_of_length_le (by omega)] at this
                rw [hlen]; exact this
              have hkn : k < n := by omega
              clear hb hgr hg4 hb4 HTK HDR hlen e HOWN hblk hu ent
              go_wp2
              go_ret
              exact ⟨_, rfl, HE.out⟩
      · have em : m + 1 = n := by omega
        have HE : Hid (wr.ownsRow base 26 4 (.slice (some ⟨g, 0, none⟩) n cap) (keep ls n).length (flat (keep ls n)) ∧ w.grownBy wr (some g)) := by
          have e : keep ls n = ls := by rw [← em, HK.out, List.take_of_length_le (by omega)]
          rw [e, hl]
          exact ⟨HOWN.out wr hb, gr_below hu.bl _⟩
        have hltI : ¬ ((m : Int) + 1 < (n : Int)) := by omega
        clear hb HK HOWN hblk em hu
        go_wp2
        go_ret
        exact ⟨_, rfl, HE.out⟩
end Go.Proofs.Ytpdgoalbknopiaa
