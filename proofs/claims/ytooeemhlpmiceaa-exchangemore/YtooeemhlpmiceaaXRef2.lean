/-
  The document's Chosen and Short.
-/
import Derived.Test.YtooeemhlpmiceaaXRef
namespace Go.Proofs.Ytooeemhlpmiceaa
open Go.RowKit
set_option linter.unusedVariables false
set_option linter.unusedSimpArgs false

def S27 (b o : Nat) (th : Nat) (tp : Int) (c q : Nat) (tn : Int) (w : World) : Prop := w.cell? ⟨b, o + 3, none⟩ = some (.int .u64 (th : Nat)) ∧ w.cell? ⟨b, o + 4, none⟩ = some (.int .i64 tp) ∧ w.cell? ⟨c, q, none⟩ = some (.int .i64 tn)
def S27b (b o : Nat) (th : Nat) (tp : Int) (c q : Nat) (tn : Int) (r : Nat) (un : Int) (w : World) : Prop := w.cell? ⟨b, o + 3, none⟩ = some (.int .u64 (th : Nat)) ∧ w.cell? ⟨b, o + 4, none⟩ = some (.int .i64 tp) ∧ w.cell? ⟨c, q, none⟩ = some (.int .i64 tn) ∧ w.cell? ⟨c, r, none⟩ = some (.int .i64 un)
def ChPost (ss : List Pt) (e : Ending) : Prop := ∃ x, e = .returned (.int .i64 x) ∧ Chn (highT ss) ss ss.length x
set_option maxRecDepth 10000 in
set_option maxHeartbeats 4000000 in
theorem refChosen_any (w : World) (na : Option Addr) (n nc : Nat) (sa : Option Addr) (sc : Nat) (ss : List Pt) (hN : NL w na n ss) (h : SL (fun _ => True) w sa n ss) (hnn : ∀ t ∈ ss, 0 ≤ t.node) :
    Calls Try.prog 27 #[.slice na n nc, .slice sa n sc] w fun e w' => ChPost ss e ∧ Below w.heap.size w w' := by
  have hl := h.1
  have hmax := h.2.1
  unfold ChPost
  go_enter Try.func27, Try.ntmps27
  go_wp2_with fail
  go_loopw [5, 6] (fun xv iv wr => ∃ (k : Nat) (x : Int), k ≤ n ∧ iv = .int .i64 k ∧ xv = .int .i64 x ∧ Chn (highT ss) ss k x ∧ Below w.heap.size w wr) (fun _ iv _ => n - (intOf iv).toNat)
  case atStart => exact ⟨0, -1, by omega, rfl, rfl, .inl ⟨rfl, rfl⟩, Below.refl _ _⟩
  case round =>
    obtain ⟨k, x, hk, rfl, rfl, hx, hb⟩ := hrel
    have HX : Hid (Chn (highT ss) ss k x) := hx
    by_cases hlt : k < n
    · have hltI : (k : Int) < (n : Int) := by omega
      have hk0 : ¬ ((k : Int) < 0) := by omega
      obtain ⟨t, ht⟩ : ∃ z, ss[k]? = some z := ⟨ss[k]'(by omega), List.getElem?_eq_getElem (by omega)⟩
      have HT : Hid (ss[k]? = some t) := ht
      have hn0 := hnn t (List.mem_of_getElem? ht)
      obtain ⟨b, off, hao, _, hc⟩ := h.2.2 (by omega)
      obtain ⟨ca, cc, oa, oc, ⟨c1, c2, c3, c4, c5⟩, _⟩ := hc k t ht
      replace c4 := (hb.cell (World.block_lt_of_cell? w _ c4)).trans c4
      replace c5 := (hb.cell (World.block_lt_of_cell? w _ c5)).trans c5
      obtain ⟨c, off2, hno, hcn⟩ := hN.2 (by omega)
      have c6 := hcn k t ht
      replace c6 := (hb.cell (World.block_lt_of_cell? w _ c6)).trans c6
      have hca := refHigh_any wr.drew sa n sc ss ((h.bl hb).bl ((Below.refl _ _).drew))
      unfold vid at hca
      have ud : Below wr.heap.size wr wr.drew := (Below.refl _ _).drew
      have heq := fun W => vid_equal t.hn t.hp (highT ss).1 (highT ss).2 W
      obtain ⟨q, hq⟩ : ∃ q, (decide (t.hn = (highT ss).1) && decide (t.hp = (highT ss).2)) = q := ⟨_, rfl⟩
      have HQ : Hid ((decide (t.hn = (highT ss).1) && decide (t.hp = (highT ss).2)) = q) := hq
      rw [hq] at heq
      clear hq hc c1 c2 c3
      cases q with
      | false =>
        have HN := HX.out.no HT.out HQ.out
        have HS : Hid (∀ W : World, Below wr.heap.size wr W → S27 b (off + k * 5) t.hn t.hp c (off2 + k) t.node W) := fun W u => ⟨bl_cell u c4, bl_cell u c5, bl_cell u c6⟩
        have s0 := HS.out _ ud
        subst hao hno
        generalize t.hn = th at *
        generalize t.hp = tp at *
        generalize t.node = tn at *
        generalize highT ss = hh at *
        clear HX HT HQ c4 c5 c6 hcn hN h hnn
        unfold S27 at s0
        go_wp2_with fail
        refine wp_region_noPanic ?_
        refine wp_region_held_drew (S := S27 b (off + k * 5) th tp c (off2 + k) tn) (by kernel_rfl) s0 (fun hHeld => ?_)
        unfold S27 at hHeld
        refine tq 0 ?_
        refine tq 1 ?_
        refine tq 2 ?_
        refine tq 3 ?_
        refine tq 4 ?_
        refine tq 5 ?_
        refine comes_up 6 rfl (by kernel_rfl) (fun K hK => ?_)
        go_simp
        refine hca.mono ?_
        rintro e w9 ⟨rfl, hu9⟩
        have u9 := bl_step ud hu9
        have hb9 := bl_step hb u9
        clear hca s0 hu9
        go_wp2_with fail
        refine hK.out _ _ (HS.out _ u9) (fun hHeld => ?_)
        clear hK K
        (try simp only [Act.put, List.setIfInBounds_toArray, List.set_cons_zero, List.set_cons_succ])
        refine tq 7 ?_
        refine tq 8 ?_
        refine tqS 9 ?_
        refine tqS 10 ?_
        refine tqS 11 ?_
        refine tqS 12 ?_
        refine tqS 13 ?_
        refine tq 14 ?_
        refine tq 15 ?_
        refine tqS 16 ?_
        refine tqS 17 ?_
        refine tqS 18 ?_
        refine tqS 19 ?_
        refine tqS 20 ?_
        refine tqS 21 ?_
        refine tqS 22 ?_
        refine tqS 23 ?_
        refine tqS 24 ?_
        refine tqS 25 ?_
        refine tqS 26 ?_
        refine tqS 27 ?_
        refine tqS 28 ?_
        refine tq 29 ?_
        refine wpAnyH_done (by kernel_rfl) ?_ _
        refine NoPanic.normal ?_
        clear hHeld HS
        go_wp2
        go_roundw
        case rel => first | exact ⟨k + 1, _, by omega, by go_num, rfl, HN, hb9⟩ | ((repeat apply Exists.intro); exact ⟨⟨k + 1, _, by omega, by go_num, rfl, HN, hb9⟩, rfl⟩)
        case measure => simp [intOf]; omega
      | true =>
        rcases hx with ⟨hx1, _⟩ | ⟨j, u, hx1, hjk, hu, _⟩
        · subst hx1
          have HN := HX.out.fst HT.out HQ.out hn0
          have hgeI : t.node ≥ 0 := hn0
          have HS : Hid (∀ W : World, Below wr.heap.size wr W → S27 b (off + k * 5) t.hn t.hp c (off2 + k) t.node W) := fun W u => ⟨bl_cell u c4, bl_cell u c5, bl_cell u c6⟩
          have s0 := HS.out _ ud
          subst hao hno
          generalize t.hn = th at *
          generalize t.hp = tp at *
          generalize t.node = tn at *
          generalize highT ss = hh at *
          clear HX HT HQ c4 c5 c6 hcn hN h hnn
          unfold S27 at s0
          go_wp2_with fail
          refine wp_region_noPanic ?_
          refine wp_region_held_drew (S := S27 b (off + k * 5) th tp c (off2 + k) tn) (by kernel_rfl) s0 (fun hHeld => ?_)
          unfold S27 at hHeld
          refine tq 0 ?_
          refine tq 1 ?_
          refine tq 2 ?_
          refine tq 3 ?_
          refine tq 4 ?_
          refine tq 5 ?_
          refine comes_up 6 rfl (by kernel_rfl) (fun K hK => ?_)
          go_simp
          refine hca.mono ?_
          rintro e w9 ⟨rfl, hu9⟩
          have u9 := bl_step ud hu9
          have hb9 := bl_step hb u9
          clear hca s0 hu9
          go_wp2_with fail
          refine hK.out _ _ (HS.out _ u9) (fun hHeld => ?_)
          clear hK K
          (try simp only [Act.put, List.setIfInBounds_toArray, List.set_cons_zero, List.set_cons_succ])
          refine tq 7 ?_
          refine tq 8 ?_
          refine tq 9 ?_
          refine tq 10 ?_
          refine tq 11 ?_
          refine tq 12 ?_
          refine tq 13 ?_
          refine tq 14 ?_
          refine tq 15 ?_
          refine tq 16 ?_
          refine tq 17 ?_
          refine tq 18 ?_
          refine tqS 19 ?_
          refine tqS 20 ?_
          refine tqS 21 ?_
          refine tqS 22 ?_
          refine tqS 23 ?_
          refine tqS 24 ?_
          refine tqS 25 ?_
          refine tqS 26 ?_
          refine tqS 27 ?_
          refine tq 28 ?_
          refine tq 29 ?_
          refine wpAnyH_done (by kernel_rfl) ?_ _
          refine NoPanic.normal ?_
          clear hHeld HS
          go_wp2
          go_roundw
          case rel => first | exact ⟨k + 1, _, by omega, by go_num, rfl, HN, hb9⟩ | ((repeat apply Exists.intro); exact ⟨⟨k + 1, _, by omega, by go_num, rfl, HN, hb9⟩, rfl⟩)
          case measure => simp [intOf]; omega
        · subst hx1
          have hgeI : t.node ≥ 0 := hn0
          have hj0 : ¬ ((j : Int) < 0) := by omega
          have hj1 : (j : Int) < (n : Int) := by omega
          have c7 := hcn j u hu
          replace c7 := (hb.cell (World.block_lt_of_cell? w _ c7)).trans c7
          have HS : Hid (∀ W : World, Below wr.heap.size wr W → S27b b (off + k * 5) t.hn t.hp c (off2 + k) t.node (off2 + j) u.node W) := fun W u => ⟨bl_cell u c4, bl_cell u c5, bl_cell u c6, bl_cell u c7⟩
          by_cases hgt : u.node < t.node
          · have HN := HX.out.up hu HT.out HQ.out hgt
            have hgtI : t.node > u.node := hgt
            have s0 := HS.out _ ud
            subst hao hno
            generalize t.hn = th at *
            generalize t.hp = tp at *
            generalize t.node = tn at *
            generalize u.node = un at *
            generalize highT ss = hh at *
            clear HX HT HQ c4 c5 c6 hcn hN h hnn c7
            unfold S27b at s0
            go_wp2_with fail
            refine wp_region_noPanic ?_
            refine wp_region_held_drew (S := S27b b (off + k * 5) th tp c (off2 + k) tn (off2 + j) un) (by kernel_rfl) s0 (fun hHeld => ?_)
            unfold S27b at hHeld
            refine tq 0 ?_
            refine tq 1 ?_
            refine tq 2 ?_
            refine tq 3 ?_
            refine tq 4 ?_
            refine tq 5 ?_
            refine comes_up 6 rfl (by kernel_rfl) (fun K hK => ?_)
            go_simp
            refine hca.mono ?_
            rintro e w9 ⟨rfl, hu9⟩
            have u9 := bl_step ud hu9
            have hb9 := bl_step hb u9
            clear hca s0 hu9
            go_wp2_with fail
            refine hK.out _ _ (HS.out _ u9) (fun hHeld => ?_)
            clear hK K
            (try simp only [Act.put, List.setIfInBounds_toArray, List.set_cons_zero, List.set_cons_succ])
            refine tq 7 ?_
            refine tq 8 ?_
            refine tq 9 ?_
            refine tq 10 ?_
            refine tq 11 ?_
            refine tq 12 ?_
            refine tq 13 ?_
            refine tq 14 ?_
            refine tq 15 ?_
            refine tq 16 ?_
            refine tq 17 ?_
            refine tq 18 ?_
            refine tq 19 ?_
            refine tq 20 ?_
            refine tq 21 ?_
            refine tq 22 ?_
            refine tq 23 ?_
            refine tq 24 ?_
            refine tq 25 ?_
            refine tq 26 ?_
            refine tq 27 ?_
            refine tq 28 ?_
            refine tq 29 ?_
            refine wpAnyH_done (by kernel_rfl) ?_ _
            refine NoPanic.normal ?_
            clear hHeld HS
            go_wp2
            go_roundw
            case rel => first | exact ⟨k + 1, _, by omega, by go_num, rfl, HN, hb9⟩ | ((repeat apply Exists.intro); exact ⟨⟨k + 1, _, by omega, by go_num, rfl, HN, hb9⟩, rfl⟩)
            case measure => simp [intOf]; omega
          · have HN := HX.out.stay hu HT.out HQ.out hgt
            have hgtI : ¬ (t.node > u.node) := hgt
            have s0 := HS.out _ ud
            subst hao hno
            generalize t.hn = th at *
            generalize t.hp = tp at *
            generalize t.node = tn at *
            generalize u.node = un at *
            generalize highT ss = hh at *
            clear HX HT HQ c4 c5 c6 hcn hN h hnn c7
            unfold S27b at s0
            go_wp2_with fail
            refine wp_region_noPanic ?_
            refine wp_region_held_drew (S := S27b b (off + k * 5) th tp c (off2 + k) tn (off2 + j) un) (by kernel_rfl) s0 (fun hHeld => ?_)
            unfold S27b at hHeld
            refine tq 0 ?_
            refine tq 1 ?_
            refine tq 2 ?_
            refine tq 3 ?_
            refine tq 4 ?_
            refine tq 5 ?_
            refine comes_up 6 rfl (by kernel_rfl) (fun K hK => ?_)
            go_simp
            refine hca.mono ?_
            rintro e w9 ⟨rfl, hu9⟩
            have u9 := bl_step ud hu9
            have hb9 := bl_step hb u9
            clear hca s0 hu9
            go_wp2_with fail
            refine hK.out _ _ (HS.out _ u9) (fun hHeld => ?_)
            clear hK K
            (try simp only [Act.put, List.setIfInBounds_toArray, List.set_cons_zero, List.set_cons_succ])
            refine tq 7 ?_
            refine tq 8 ?_
            refine tq 9 ?_
            refine tq 10 ?_
            refine tq 11 ?_
            refine tq 12 ?_
            refine tq 13 ?_
            refine tq 14 ?_
            refine tq 15 ?_
            refine tq 16 ?_
            refine tq 17 ?_
            refine tq 18 ?_
            refine tq 19 ?_
            refine tq 20 ?_
            refine tq 21 ?_
            refine tq 22 ?_
            refine tq 23 ?_
            refine tq 24 ?_
            refine tq 25 ?_
            refine tq 26 ?_
            refine tq 27 ?_
            refine tq 28 ?_
            refine tq 29 ?_
            refine wpAnyH_done (by kernel_rfl) ?_ _
            refine NoPanic.normal ?_
            clear hHeld HS
            go_wp2
            go_roundw
            case rel => first | exact ⟨k + 1, _, by omega, by go_num, rfl, HN, hb9⟩ | ((repeat apply Exists.intro); exact ⟨⟨k + 1, _, by omega, by go_num, rfl, HN, hb9⟩, rfl⟩)
            case measure => simp [intOf]; omega
    · obtain rfl : n = k := by omega
      have hltI : ¬ ((n : Int) < (n : Int)) := by omega
      go_wp2
      go_ret
      exact ⟨⟨x, rfl, HX.out⟩, hb⟩
end Go.Proofs.Ytooeemhlpmiceaa
