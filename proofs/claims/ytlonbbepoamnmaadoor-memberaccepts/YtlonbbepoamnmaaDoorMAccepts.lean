/-
  MemberAccepts: the walk.
-/
import Derived.Test.YtlonbbepoamnmaaDoorMAcs
namespace Go.Proofs.YtlonbbepoamnmaaDoor
open Go.RowKit
set_option linter.unusedVariables false

/-- Nodes behind so many moves, with all that is known of them. -/
structure Mo (W0 : World) (B : Nat → Prop) (n gq : Nat) (g : Gp) (k : Nat) : Prop where
  sz : BagSz g.bag
  inv : ∃ H, GInv n g H
  bag : g.bag.length ≤ 16 * k
  views : ∀ i, (g.views i).length ≤ k
def MoAt (W0 : World) (B : Nat → Prop) (n gq k : Nat) (w : World) : Prop := ∃ g, Mo W0 B n gq g k ∧ ∃ col A, Gs W0 B w col n n n gq A g
def PcAt (W0 : World) (B : Nat → Prop) (n gq : Nat) (g g' : Gp) (k : Nat) (pv cv : Value) (w : World) : Prop := ∃ col A, Pc W0 B n gq g g' k k pv cv w col A
theorem PcAt.up {W0 w w' : World} {B : Nat → Prop} {n gq k : Nat} {g g' : Gp} {pv cv : Value} (h : PcAt W0 B n gq g g' k pv cv w) (u : Below w.heap.size w w') : PcAt W0 B n gq g g' k pv cv w' := by
  obtain ⟨col, A, h⟩ := h
  exact ⟨col, A, h.up u⟩

set_option maxRecDepth 20000 in
set_option maxHeartbeats 8000000 in
theorem accepts_walk (w : World) (tab : Tab w) (n0 : Nat) (hn0 : n0 < 256) (ao : Option Addr) (len cap : Nat) (xs : Nat → Mv) (hx : Mvs w ao len xs) : Calls Tryd.prog 5 #[.int .u8 (n0 : Nat), .slice ao len cap] w fun e w' => e = .returned (.bool true) ∧ Below w.heap.size w w' := by
  obtain ⟨n, hn⟩ : ∃ n, 2 + n0 % 5 = n := ⟨_, rfl⟩
  have n1 : 1 ≤ n := by omega
  have n6 : n ≤ 6 := by omega
  have HE : Hid ((2 : Int) + (n0 : Int) % 5 = (n : Int)) := by show _ = _; omega
  have ha := awake_any w tab
  have HX : Hid (Mvs w ao len xs) := hx
  have hlen := hx.max
  have HT : Hid (Tab w) := tab
  clear hn hx tab
  go_enter Tryd.func5, Tryd.ntmps5
  go_wp2_with fail
  refine ha.mono ?_
  rintro e w1 ⟨rfl, b1⟩
  have hbeg := begin_any w1 (Kept.of b1) (fun b hb => Nat.lt_of_lt_of_le hb b1.size) HT.out.lt (HT.out.below b1 HT.out.lt) n n1 n6
  clear ha b1
  go_wp2_with fail
  rw [HE.out]
  refine hbeg.mono ?_
  rintro e w2 ⟨gq, rfl, hsz2, hG2⟩
  have HM : Hid (MoAt w (Old w) n gq 0 w2) := ⟨begG n, ⟨hsz2, ⟨[], beg_inv n n1 n6⟩, Nat.zero_le _, fun _ => Nat.le_refl _⟩, hG2⟩
  clear hbeg hG2 hsz2
  go_wp2_with fail
  go_loopw [6, 7, 8, 9, 10, 11] (fun iv pv cv kv jv vv wr => ∃ (k : Nat) (y1 y2 y3 y4 y5 : Value), k ≤ 150 ∧ k ≤ len ∧ iv = .int .i64 (k : Nat) ∧ pv = y1 ∧ cv = y2 ∧ kv = y3 ∧ jv = y4 ∧ vv = y5 ∧ Hid (MoAt w (Old w) n gq k wr)) (fun iv _ _ _ _ _ _ => 150 - (intOf iv).toNat)
  case atStart => exact ⟨0, _, _, _, _, _, by omega, by omega, rfl, rfl, rfl, rfl, rfl, rfl, HM⟩
  case round =>
    obtain ⟨k, y1, y2, y3, y4, y5, hk, hkl, rfl, e1, e2, e3, e4, e5, hw⟩ := hrel
    replace e1 := e1.symm
    replace e2 := e2.symm
    replace e3 := e3.symm
    replace e4 := e4.symm
    replace e5 := e5.symm
    subst e1 e2 e3 e4 e5
    have hk0 : ¬ ((k : Int) < 0) := by omega
    have HB : Hid (Below w.heap.size w wr) := by obtain ⟨_, _, _, _, hG⟩ := hw.out; exact hG.bel.below
    by_cases hlt : k < len
    · have hltI : (k : Int) < (len : Int) := by omega
      by_cases h200 : k < 150
      · have h200I : (k : Int) < 150 := by omega
        obtain ⟨g, hmo, col, A, hG⟩ := hw.out
        have HMO : Hid (Mo w (Old w) n gq g k) := hmo
        have HP : Hid (PcAt w (Old w) n gq g g 0 (.slice none 0 0) (.slice none 0 0) wr) := ⟨col, A, hG, World.ownsRow_nil _ _ _ _, (fun b hb => by cases hb), World.ownsRow_nil _ _ _ _, (fun b hb => by cases hb)⟩
        clear hw hmo hG HM HB
        go_wp2_with fail
        go_loopw [7, 8, 9] (fun pv cv jv wz => ∃ (j : Nat) (po co : Option Addr) (pc cc : Nat), j ≤ n ∧ jv = .int .i64 (j : Nat) ∧ pv = .slice po j pc ∧ cv = .slice co j cc ∧ Hid (PcAt w (Old w) n gq g g j (.slice po j pc) (.slice co j cc) wz)) (fun _ _ jv _ => n - (intOf jv).toNat)
        case atStart => exact ⟨0, none, none, 0, 0, by omega, rfl, rfl, rfl, HP⟩
        case round =>
          obtain ⟨j, po, co, pc, cc, hj, rfl, rfl, rfl, hz⟩ := hrel
          have hj0 : ¬ ((j : Int) < 0) := by omega
          obtain ⟨colz, Az, hPc⟩ := hz.out
          have c0 := hPc.gs.c0
          by_cases hjn : j < n
          · have hjI : (j : Int) < (n : Int) := by omega
            obtain ⟨lb, lc, vb, vc, xo, xc, hrd, _⟩ := hPc.gs.rd hjn
            obtain ⟨d0, d1, d3, dl, dv⟩ := hrd
            have hpr := prom_any (hPc.gs.mb j hjn)
            unfold vid at hpr
            have HPC : Hid (Pc w (Old w) n gq g g j j (.slice po j pc) (.slice co j cc) wr colz Az) := hPc
            obtain ⟨m, hm⟩ : ∃ m, (g.views j).length = m := ⟨_, rfl⟩
            have HML : Hid ((g.views j).length = m) := hm
            rw [hm] at dv
            clear hPc hz d0 hm
            go_wp2_with fail
            refine hpr.mono ?_
            rintro e w3 ⟨rfl, u3⟩
            have h3 := HPC.out.up u3.bl
            obtain ⟨pn, hpn⟩ : ∃ pn, (g.ms j).prom.1 = pn := ⟨_, rfl⟩
            obtain ⟨pp, hpp⟩ : ∃ pp, (g.ms j).prom.2 = pp := ⟨_, rfl⟩
            rw [hpn, hpp]
            have h4 := h3.up (bl1 w3 (.cells #[.int .u64 (pn : Nat), .int .i64 pp] 31))
            have hh4 : (w3.alloc (.cells #[.int .u64 (pn : Nat), .int .i64 pp] 31)).heap[w3.heap.size]? = some (.cells #[.int .u64 (pn : Nat), .int .i64 pp] 31 (0, 0)) := heap_alloc_new _ _
            obtain ⟨v5, w5, hrun5, hrow5, hgr5, hat5⟩ := row_append und79 info31 rfl (by decide) (by decide) h4.pr (From.one hh4 (news := pcells (g.ms j).prom) (by unfold pcells; rw [hpn, hpp]) 1 (m := 1)) rfl (fun x hx => by unfold pcells at hx; simp only [List.mem_cons, List.not_mem_nil, or_false] at hx; rcases hx with rfl | rfl <;> rfl) (by omega) (Nat.succ_le_of_lt (h4.gs.hB 0 h4.gs.hB1)) 79
            obtain ⟨ao5, c5, rfl, _⟩ := own_slice hrow5
            have h5 := h4.pushP hgr5 hrow5 hat5
            have h6 := h5.up (bl1 w5 (.cells #[.int .i64 (m : Nat)] 3))
            have hh6 : (w5.alloc (.cells #[.int .i64 (m : Nat)] 3)).heap[w5.heap.size]? = some (.cells #[.int .i64 (m : Nat)] 3 (0, 0)) := heap_alloc_new _ _
            obtain ⟨v7, w7, hrun7, hrow7, hgr7, hat7⟩ := row_append und35 info3z rfl (by decide) (by decide) h6.cr (From.one hh6 (news := [.int .i64 ((g.views j).length : Nat)]) (by rw [HML.out]) 1 (m := 1)) rfl (fun x hx => by rw [List.mem_singleton] at hx; subst hx; rfl) (by omega) (Nat.succ_le_of_lt (h6.gs.hB 0 h6.gs.hB1)) 35
            obtain ⟨ao7, c7, rfl, _⟩ := own_slice hrow7
            have h7 := h6.pushC hgr7 hrow7 hat7
            obtain ⟨lb', lc', vb', vc', xo', xc', hrd', _⟩ := h5.gs.rd hjn
            obtain ⟨_, _, d3', _, dv'⟩ := hrd'
            rw [HML.out] at dv'
            have HR5 : Hid ((Builtin.append_ #[79, 79] 79 #[.slice po j pc, .slice (some ⟨w3.heap.size, 0, none⟩) 1 1]).run Tryd.prog (w3.alloc (.cells #[.int .u64 (pn : Nat), .int .i64 pp] 31)) = .ok (.slice ao5 (j + 1) c5) w5) := hrun5
            have HR7 : Hid ((Builtin.append_ #[35, 35] 35 #[.slice co j cc, .slice (some ⟨w5.heap.size, 0, none⟩) 1 1]).run Tryd.prog (w5.alloc (.cells #[.int .i64 (m : Nat)] 3)) = .ok (.slice ao7 (j + 1) c7) w7) := hrun7
            have H7 : Hid (PcAt w (Old w) n gq g g (j + 1) (.slice ao5 (j + 1) c5) (.slice ao7 (j + 1) c7) w7) := ⟨_, _, h7⟩
            clear h3 h4 hh4 hrun5 hrow5 hgr5 hat5 h5 h6 hh6 hrun7 hrow7 hgr7 hat7 h7 hpr hpn hpp u3 HPC d3 dv
            obtain ⟨J, hJ⟩ : ∃ J, j + 1 = J := ⟨_, rfl⟩
            have HJ : Hid (j + 1 = J) := hJ
            rw [hJ] at HR5 HR7 H7
            clear hJ
            go_wp2_with (first | (at_builtin; refine wpList_append_run rfl _ _ 79 79 rfl (.slice po j pc) (.slice (some ⟨w3.heap.size, 0, none⟩) 1 1) (.slice ao5 J c5) w5 rfl rfl HR5.out ?_) | (at_builtin; refine wpList_append_run rfl _ _ 35 35 rfl (.slice co j cc) (.slice (some ⟨w5.heap.size, 0, none⟩) 1 1) (.slice ao7 J c7) w7 rfl rfl HR7.out ?_))
            go_roundw
            case rel => exact ⟨J, ao5, ao7, c5, c7, by have := HJ.out; omega, by rw [← HJ.out]; go_num, rfl, rfl, H7⟩
            case measure => have := HJ.out; simp [intOf]; omega
          · obtain rfl : j = n := by omega
            have hjI : ¬ ((j : Int) < (j : Int)) := by omega
            obtain ⟨b, off, hao, hbl, hc⟩ := (HX.out.keep rfl hPc.gs.bel.below).cell (by omega)
            obtain ⟨m0, m1, m2, m3⟩ := hc k hlt
            obtain ⟨H, hinv⟩ := HMO.out.inv
            obtain ⟨H', hinv', hmok⟩ := move_inv hinv (xs k)
            have hsz' := move_sz j (by omega) g (xs k)
            have hmv := hPc.move HMO.out.sz hinv (xs k) (HX.out.lt k hlt) (by have := HMO.out.bag; omega) (fun i => by have := HMO.out.views i; omega)
            obtain ⟨g', hg'⟩ : ∃ g', g.move j (xs k) = g' := ⟨_, rfl⟩
            rw [hg'] at hinv' hmok hsz' hmv
            unfold mval at hmv
            have HOK : Hid (MvOk j g g' ∧ (∃ H', GInv j g' H') ∧ g'.bag.length ≤ 16 * (k + 1) ∧ (∀ i, (g'.views i).length ≤ k + 1)) := ⟨hmok, ⟨H', hinv'⟩, by have := HMO.out.bag; omega, fun i => by have := hsz'.2 i; have := HMO.out.views i; omega⟩
            clear hc hbl hz hPc hinv hinv' hmok hsz' hg'
            subst hao
            go_wp2_with fail
            refine hmv.mono ?_
            rintro e w3 ⟨rfl, hs3, h3⟩
            have H3 : Hid (PcAt w (Old w) j gq g g' j (.slice po j pc) (.slice co j cc) w3) := h3
            have HS3 : Hid (BagSz g'.bag) := hs3
            clear hmv h3 hs3 m0 m1 m2 m3 c0 HMO
            go_wp2_with fail
            go_loopw [10, 11] (fun tv vv wz => ∃ (t : Nat) (y : Value), t ≤ j ∧ tv = .int .i64 (t : Nat) ∧ vv = y ∧ Hid (PcAt w (Old w) j gq g g' j (.slice po j pc) (.slice co j cc) wz)) (fun tv _ _ => j - (intOf tv).toNat)
            case atStart => exact ⟨0, _, by omega, rfl, rfl, H3⟩
            case round =>
              obtain ⟨t, y, ht, rfl, ey, hz⟩ := hrel
              replace ey := ey.symm
              subst ey
              have ht0 : ¬ ((t : Int) < 0) := by omega
              obtain ⟨colz, Az, hPc⟩ := hz.out
              have c0 := hPc.gs.c0
              by_cases htn : t < j
              · have htI : (t : Int) < (j : Int) := by omega
                obtain ⟨pb, pc9, cb, cc9, epv, ecv, p0, p1, q0⟩ := hPc.read htn
                simp only [Value.slice.injEq, true_and] at epv ecv
                obtain ⟨rfl, rfl⟩ := epv
                obtain ⟨rfl, rfl⟩ := ecv
                obtain ⟨lb, lc, vb, vc, xo, xc, hrd, hvr⟩ := hPc.gs.rd htn
                obtain ⟨d0, d1, d3, dl, dv⟩ := hrd
                obtain ⟨hle, hvw⟩ := HOK.out.1 t htn
                have hpr := prom_any (hPc.gs.drew.mb t htn)
                have hcmp := fun W => refCompare_any W (g'.ms t).prom.1 (g'.ms t).prom.2 (g.ms t).prom.1 (g.ms t).prom.2
                have hcge : ¬ cmpV (g'.ms t).prom.1 (g'.ms t).prom.2 (g.ms t).prom.1 (g.ms t).prom.2 < 0 := cmpV_ge hle
                have HPC : Hid (∀ W, Below wr.heap.size wr W → Pc w (Old w) j gq g g' j j (.slice (some ⟨pb, 0, none⟩) j pc) (.slice (some ⟨cb, 0, none⟩) j cc) W colz Az ∧ Rd w (Old w) j gq g' t W lb lc (Az.qs t) vb vc xo xc ∧ W.cell? ⟨pb, t * 2, none⟩ = some (.int .u64 ((g.ms t).prom.1 : Nat)) ∧ W.cell? ⟨pb, t * 2 + 1, none⟩ = some (.int .i64 (g.ms t).prom.2) ∧ W.cell? ⟨cb, t, none⟩ = some (.int .i64 ((g.views t).length : Nat)) ∧ W.ownsRow 1 34 3 (.slice xo (g'.views t).length xc) (g'.views t).length (flatV (g'.views t))) := fun W u => ⟨hPc.up u, ⟨bl_cell u d0, bl_cell u d1, bl_cell u d3, bl_cell u dl, bl_cell u dv⟩, bl_cell u p0, bl_cell u p1, bl_cell u q0, row_block hvr (fun b hb => u.block b (hvr.lt b hb).2)⟩
                have HVW : Hid (g'.views t = g.views t ∨ ∃ v, g'.views t = g.views t ++ [v] ∧ v.1 = (g'.ms t).prom ∧ (g'.ms t).opn = true ∧ (v.1.2 = (t : Int) ∨ v.1 = (g.ms t).prom)) := hvw
                have hS : wr.drew.cell? ⟨gq, 1, none⟩ = some (.slice (some ⟨lb, 0, none⟩) j lc) ∧ wr.drew.cell? ⟨lb, t, none⟩ = some (.pointer (some ⟨Az.qs t, 0, none⟩)) ∧ wr.drew.cell? ⟨pb, t * 2, none⟩ = some (.int .u64 ((g.ms t).prom.1 : Nat)) ∧ wr.drew.cell? ⟨pb, t * 2 + 1, none⟩ = some (.int .i64 (g.ms t).prom.2) := ⟨d1, dl, p0, p1⟩
                unfold vid at hpr hcmp
                obtain ⟨P', hP'⟩ : ∃ P', (g'.ms t).prom = P' := ⟨_, rfl⟩
                obtain ⟨P, hP⟩ : ∃ P, (g.ms t).prom = P := ⟨_, rfl⟩
                rw [hP'] at hpr hcmp hcge HVW
                rw [hP] at hcmp hcge hS HPC HVW
                have HPN : Hid ((g'.ms t).prom = P') := hP'
                obtain ⟨pn', pp'⟩ := P'
                obtain ⟨pn, pp⟩ := P
                simp only at hpr hcmp hcge hS HPC HVW
                generalize cmpV pn' pp' pn pp = cvv at *
                clear hPc hz hvr d0 d1 d3 dl dv p0 p1 q0 hle hvw hP hP'
                go_wp2_with fail
                refine wp_region_noPanic ?_
                refine wp_region_held_drew (S := fun wx => wx.cell? ⟨gq, 1, none⟩ = some (.slice (some ⟨lb, 0, none⟩) j lc) ∧ wx.cell? ⟨lb, t, none⟩ = some (.pointer (some ⟨Az.qs t, 0, none⟩)) ∧ wx.cell? ⟨pb, t * 2, none⟩ = some (.int .u64 (pn : Nat)) ∧ wx.cell? ⟨pb, t * 2 + 1, none⟩ = some (.int .i64 pp)) (by kernel_rfl) hS (fun hHeld => ?_)
                refine tk4 0 rfl (fun wx ⟨a1, a2, a3, a4⟩ => by go_simp; try with_reducible rfl) ?_
                refine tk4 1 rfl (fun wx ⟨a1, a2, a3, a4⟩ => by go_simp; try with_reducible rfl) ?_
                refine tk4 2 rfl (fun wx ⟨a1, a2, a3, a4⟩ => by go_simp; try with_reducible rfl) ?_
                refine tk4 3 rfl (fun wx ⟨a1, a2, a3, a4⟩ => by go_simp; try with_reducible rfl) ?_
                refine tk4 4 rfl (fun wx ⟨a1, a2, a3, a4⟩ => by go_simp; try with_reducible rfl) ?_
                refine tk4 5 rfl (fun wx ⟨a1, a2, a3, a4⟩ => by go_simp; try with_reducible rfl) ?_
                refine tk4 6 rfl (fun wx ⟨a1, a2, a3, a4⟩ => by go_simp; try with_reducible rfl) ?_
                refine tk4 8 rfl (fun wx ⟨a1, a2, a3, a4⟩ => by go_simp; try with_reducible rfl) ?_
                refine tk4 9 rfl (fun wx ⟨a1, a2, a3, a4⟩ => by go_simp; try with_reducible rfl) ?_
                refine tk4 10 rfl (fun wx ⟨a1, a2, a3, a4⟩ => by go_simp; try with_reducible rfl) ?_
                refine tk4 11 rfl (fun wx ⟨a1, a2, a3, a4⟩ => by go_simp; try with_reducible rfl) ?_
                refine comes_up 7 rfl (by kernel_rfl) (fun K hK => ?_)
                go_simp
                refine hpr.mono ?_
                rintro e w4 ⟨rfl, u4⟩
                have hS4 : w4.cell? ⟨gq, 1, none⟩ = some (.slice (some ⟨lb, 0, none⟩) j lc) ∧ w4.cell? ⟨lb, t, none⟩ = some (.pointer (some ⟨Az.qs t, 0, none⟩)) ∧ w4.cell? ⟨pb, t * 2, none⟩ = some (.int .u64 (pn : Nat)) ∧ w4.cell? ⟨pb, t * 2 + 1, none⟩ = some (.int .i64 pp) := ⟨u4.cell hS.1, u4.cell hS.2.1, u4.cell hS.2.2.1, u4.cell hS.2.2.2⟩
                clear hpr
                go_wp2_with fail
                refine hK.out _ _ hS4 (fun hHeld => ?_)
                clear hK K
                (try simp only [Act.put, List.setIfInBounds_toArray, List.set_cons_zero, List.set_cons_succ])
                refine comes_up 12 rfl (by kernel_rfl) (fun K hK => ?_)
                go_simp
                refine (hcmp _).mono ?_
                rintro e w5 ⟨rfl, u5⟩
                have hS5 : w5.cell? ⟨gq, 1, none⟩ = some (.slice (some ⟨lb, 0, none⟩) j lc) ∧ w5.cell? ⟨lb, t, none⟩ = some (.pointer (some ⟨Az.qs t, 0, none⟩)) ∧ w5.cell? ⟨pb, t * 2, none⟩ = some (.int .u64 (pn : Nat)) ∧ w5.cell? ⟨pb, t * 2 + 1, none⟩ = some (.int .i64 pp) := ⟨u5.cell hS4.1, u5.cell hS4.2.1, u5.cell hS4.2.2.1, u5.cell hS4.2.2.2⟩
                have b5 : Below wr.heap.size wr w5 := bl_step (bl_step ((Below.refl _ wr).drew) u4.bl) u5.bl
                have H5 := HPC.out w5 b5
                clear hcmp
                go_wp2_with fail
                refine hK.out _ _ hS5 (fun hHeld => ?_)
                clear hK K
                (try simp only [Act.put, List.setIfInBounds_toArray, List.set_cons_zero, List.set_cons_succ])
                refine tk4 13 rfl (fun wx ⟨a1, a2, a3, a4⟩ => by go_simp; try with_reducible rfl) ?_
                refine wpAnyH_done (by kernel_rfl) ?_ _
                refine NoPanic.normal ?_
                clear hHeld hS hS4 hS5 u4 u5
                obtain ⟨hPc5, hrd5, p0, p1, q0, hvr5⟩ := H5
                obtain ⟨d0, d1, d3, dl, dv⟩ := hrd5
                obtain ⟨m, hm⟩ : ∃ m, (g.views t).length = m := ⟨_, rfl⟩
                rw [hm] at q0
                rcases HVW.out with heq | ⟨v, hvv, hv1, hop, hvc⟩
                · rw [heq, hm] at dv
                  have hS6 : w5.drew.cell? ⟨gq, 3, none⟩ = some (.slice (some ⟨vb, 0, none⟩) j vc) ∧ w5.drew.cell? ⟨vb, t, none⟩ = some (.slice xo m xc) ∧ w5.drew.cell? ⟨cb, t, none⟩ = some (.int .i64 (m : Nat)) := ⟨d3, dv, q0⟩
                  have HNX : Hid (PcAt w (Old w) j gq g g' j (.slice (some ⟨pb, 0, none⟩) j pc) (.slice (some ⟨cb, 0, none⟩) j cc) w5.drew) := ⟨_, _, hPc5.up ((Below.refl _ _).drew)⟩
                  clear hPc5 hvr5 d0 d1 d3 dl dv p0 p1 q0 heq hm HPC HVW b5
                  go_wp2_with fail
                  refine wp_region_noPanic ?_
                  refine wp_region_held_drew (S := fun wx => wx.cell? ⟨gq, 3, none⟩ = some (.slice (some ⟨vb, 0, none⟩) j vc) ∧ wx.cell? ⟨vb, t, none⟩ = some (.slice xo m xc) ∧ wx.cell? ⟨cb, t, none⟩ = some (.int .i64 (m : Nat))) (by kernel_rfl) hS6 (fun hHeld => ?_)
                  refine tk4 0 rfl (fun wx ⟨a1, a2, a3⟩ => by go_simp; try with_reducible rfl) ?_
                  refine tk4 1 rfl (fun wx ⟨a1, a2, a3⟩ => by go_simp; try with_reducible rfl) ?_
                  refine tk4 2 rfl (fun wx ⟨a1, a2, a3⟩ => by go_simp; try with_reducible rfl) ?_
                  refine tk4 3 rfl (fun wx ⟨a1, a2, a3⟩ => by go_simp; try with_reducible rfl) ?_
                  refine tk4 4 rfl (fun wx ⟨a1, a2, a3⟩ => by go_simp; try with_reducible rfl) ?_
                  refine tk4 5 rfl (fun wx ⟨a1, a2, a3⟩ => by go_simp; try with_reducible rfl) ?_
                  refine tk4 6 rfl (fun wx ⟨a1, a2, a3⟩ => by go_simp; try with_reducible rfl) ?_
                  refine tk4 7 rfl (fun wx ⟨a1, a2, a3⟩ => by go_simp; try with_reducible rfl) ?_
                  refine tk4 8 rfl (fun wx ⟨a1, a2, a3⟩ => by go_simp; try with_reducible rfl) ?_
                  refine tk4 9 rfl (fun wx ⟨a1, a2, a3⟩ => by go_simp; try with_reducible rfl) ?_
                  refine tk4 10 rfl (fun wx ⟨a1, a2, a3⟩ => by go_simp; try with_reducible rfl) ?_
                  refine tk4 11 rfl (fun wx ⟨a1, a2, a3⟩ => by go_simp; try with_reducible rfl) ?_
                  refine tk4 12 rfl (fun wx ⟨a1, a2, a3⟩ => by go_simp; try with_reducible rfl) ?_
                  refine wpAnyH_done (by kernel_rfl) ?_ _
                  refine NoPanic.normal ?_
                  clear hHeld hS6
                  go_wp2_with fail
                  go_roundw
                  case rel => exact ⟨t + 1, _, by omega, by go_num, rfl, HNX⟩
                  case measure => simp [intOf]; omega
                · have hm1 : (g'.views t).length = m + 1 := by rw [hvv, List.length_append, hm]; rfl
                  rw [hm1] at dv
                  have hgetv : (g'.views t)[m]? = some v := by rw [hvv, ← hm, List.getElem?_append_right (Nat.le_refl _), Nat.sub_self]; rfl
                  obtain ⟨xg, rfl, v0, v1, v2⟩ := row_views hvr5 hgetv
                  have hm9 : m + 1 ≤ 151 := by have := HOK.out.2.2.2 t; omega
                  obtain ⟨M1, hM1⟩ : ∃ M1, m + 1 = M1 := ⟨_, rfl⟩
                  rw [hM1] at dv
                  have hS6 : w5.drew.cell? ⟨gq, 3, none⟩ = some (.slice (some ⟨vb, 0, none⟩) j vc) ∧ w5.drew.cell? ⟨vb, t, none⟩ = some (.slice (some ⟨xg, 0, none⟩) M1 xc) ∧ w5.drew.cell? ⟨cb, t, none⟩ = some (.int .i64 (m : Nat)) := ⟨d3, dv, q0⟩
                  have hne : ((M1 : Int) == (m : Int)) = false := by
                    have : ¬ (M1 : Int) = (m : Int) := by omega
                    simpa using this
                  have hne2 : decide ((M1 : Int) = (m : Int)) = false := decide_eq_false (by omega)
                  have hne3 : ¬ M1 = m := by omega
                  have hsub : IntKind.i64.wrap ((M1 : Int) - 1) = (m : Nat) := by unfold IntKind.wrap; simp [IntKind.bits, IntKind.signed]; omega
                  have hmI : (m : Int) < (M1 : Int) := by omega
                  have hm0 : ¬ ((m : Int) < 0) := by omega
                  obtain ⟨wU, hwU⟩ : ∃ wU, w5.drew.drew = wU := ⟨_, rfl⟩
                  have HU : Hid (w5.drew.drew = wU) := hwU
                  have bU : Below wr.heap.size wr wU := by rw [← hwU]; exact (b5.drew).drew
                  obtain ⟨⟨vn, vp⟩, vs⟩ := v
                  have hS7 : wU.cell? ⟨gq, 3, none⟩ = some (.slice (some ⟨vb, 0, none⟩) j vc) ∧ wU.cell? ⟨vb, t, none⟩ = some (.slice (some ⟨xg, 0, none⟩) M1 xc) ∧ wU.cell? ⟨xg, m * 3, none⟩ = some (.int .u64 (vn : Nat)) ∧ wU.cell? ⟨xg, m * 3 + 1, none⟩ = some (.int .i64 vp) ∧ wU.cell? ⟨xg, m * 3 + 2, none⟩ = some (.int .u16 (vs : Nat)) := by rw [← hwU]; exact ⟨d3, dv, v0, v1, v2⟩
                  have uA : Below wU.heap.size wU (wU.alloc (.cells #[.int .u64 0, .int .i64 0, .int .u16 0] 34)) := bl1 _ _
                  obtain ⟨A0, hA0⟩ : ∃ A0, wU.alloc (.cells #[.int .u64 0, .int .i64 0, .int .u16 0] 34) = A0 := ⟨_, rfl⟩
                  obtain ⟨vx, hvx⟩ : ∃ vx, wU.heap.size = vx := ⟨_, rfl⟩
                  have hbA : A0.heap[vx]? = some (.cells #[.int .u64 0, .int .i64 0, .int .u16 0] 34 (0, 0)) := by rw [← hA0, ← hvx]; exact heap_alloc_new _ _
                  rw [hA0] at uA
                  have z0 : A0.cell? ⟨vx, 0, none⟩ = some (.int .u64 0) := heap_cell (j := 0) hbA rfl
                  have z1 : A0.cell? ⟨vx, 1, none⟩ = some (.int .i64 0) := heap_cell (j := 1) hbA rfl
                  have z2 : A0.cell? ⟨vx, 2, none⟩ = some (.int .u16 0) := heap_cell (j := 2) hbA rfl
                  have zf : ∀ q, A0.frozen? ⟨vx, q, none⟩ = false := fun q => by unfold World.frozen?; rw [hbA]; simp
                  have zf0 := zf 0
                  have zf1 := zf 1
                  have zf2 := zf 2
                  have y1 : (A0.setCell ⟨vx, 0, none⟩ (.int .u64 (vn : Nat))).cell? ⟨vx, 1, none⟩ = some (.int .i64 0) := by rw [set_other (by decide)]; exact z1
                  have y2 : (A0.setCell ⟨vx, 0, none⟩ (.int .u64 (vn : Nat))).cell? ⟨vx, 2, none⟩ = some (.int .u16 0) := by rw [set_other (by decide)]; exact z2
                  have x2 : ((A0.setCell ⟨vx, 0, none⟩ (.int .u64 (vn : Nat))).setCell ⟨vx, 1, none⟩ (.int .i64 vp)).cell? ⟨vx, 2, none⟩ = some (.int .u16 0) := by rw [set_other (by decide)]; exact y2
                  obtain ⟨w6, hw6⟩ : ∃ w6, ((A0.setCell ⟨vx, 0, none⟩ (.int .u64 (vn : Nat))).setCell ⟨vx, 1, none⟩ (.int .i64 vp)).setCell ⟨vx, 2, none⟩ (.int .u16 (vs : Nat)) = w6 := ⟨_, rfl⟩
                  have k0 : w6.cell? ⟨vx, 0, none⟩ = some (.int .u64 (vn : Nat)) := by rw [← hw6, set_other (by decide), set_other (by decide)]; exact set_cell z0
                  have k1 : w6.cell? ⟨vx, 1, none⟩ = some (.int .i64 vp) := by rw [← hw6, set_other (by decide)]; exact set_cell y1
                  have u6 : Below wU.heap.size wU w6 := by
                    rw [← hw6]
                    have hge : wU.heap.size ≤ vx := by omega
                    exact ((uA.setCell (p := ⟨vx, 0, none⟩) hge _).setCell (p := ⟨vx, 1, none⟩) hge _).setCell (p := ⟨vx, 2, none⟩) hge _
                  have hS7a : A0.cell? ⟨gq, 3, none⟩ = some (.slice (some ⟨vb, 0, none⟩) j vc) ∧ A0.cell? ⟨vb, t, none⟩ = some (.slice (some ⟨xg, 0, none⟩) M1 xc) ∧ A0.cell? ⟨xg, m * 3, none⟩ = some (.int .u64 (vn : Nat)) ∧ A0.cell? ⟨xg, m * 3 + 1, none⟩ = some (.int .i64 vp) ∧ A0.cell? ⟨xg, m * 3 + 2, none⟩ = some (.int .u16 (vs : Nat)) := ⟨bl_cell uA hS7.1, bl_cell uA hS7.2.1, bl_cell uA hS7.2.2.1, bl_cell uA hS7.2.2.2.1, bl_cell uA hS7.2.2.2.2⟩
                  have hS7b : w6.cell? ⟨gq, 3, none⟩ = some (.slice (some ⟨vb, 0, none⟩) j vc) ∧ w6.cell? ⟨vb, t, none⟩ = some (.slice (some ⟨xg, 0, none⟩) M1 xc) ∧ w6.cell? ⟨xg, m * 3, none⟩ = some (.int .u64 (vn : Nat)) ∧ w6.cell? ⟨xg, m * 3 + 1, none⟩ = some (.int .i64 vp) ∧ w6.cell? ⟨xg, m * 3 + 2, none⟩ = some (.int .u16 (vs : Nat)) := ⟨bl_cell u6 hS7.1, bl_cell u6 hS7.2.1, bl_cell u6 hS7.2.2.1, bl_cell u6 hS7.2.2.2.1, bl_cell u6 hS7.2.2.2.2⟩
                  have b6 : Below wr.heap.size wr w6 := bl_step bU u6
                  have HA : Hid (wU.alloc (.cells #[.int .u64 0, .int .i64 0, .int .u16 0] 34) = A0 ∧ wU.heap.size = vx ∧ ((A0.setCell ⟨vx, 0, none⟩ (.int .u64 (vn : Nat))).setCell ⟨vx, 1, none⟩ (.int .i64 vp)).setCell ⟨vx, 2, none⟩ (.int .u16 (vs : Nat)) = w6) := ⟨hA0, hvx, hw6⟩
                  have HV : Hid (vn = pn' ∧ vp = pp' ∧ (g'.ms t).opn = true ∧ (vp = (t : Int) ∨ (vn = pn ∧ vp = pp))) := by
                    have e1 : vn = pn' := congrArg Prod.fst hv1
                    have e2 : vp = pp' := congrArg Prod.snd hv1
                    exact ⟨e1, e2, hop, hvc.imp id (fun h => ⟨congrArg Prod.fst h, congrArg Prod.snd h⟩)⟩
                  obtain ⟨hPc6, hrd6, r0, r1, _, _⟩ := HPC.out w6 b6
                  obtain ⟨_, d16, _, dl6, _⟩ := hrd6
                  have hpr6 := prom_any (hPc6.gs.drew.mb t htn)
                  have hop6 := fun W (u : Below w6.drew.heap.size w6.drew W) => open_any ((hPc6.gs.drew.up u).mb t htn)
                  rw [HPN.out] at hpr6
                  rw [HV.out.2.2.1] at hop6
                  unfold vid at hpr6
                  have hS8 : w6.drew.cell? ⟨gq, 1, none⟩ = some (.slice (some ⟨lb, 0, none⟩) j lc) ∧ w6.drew.cell? ⟨lb, t, none⟩ = some (.pointer (some ⟨Az.qs t, 0, none⟩)) ∧ w6.drew.cell? ⟨vx, 0, none⟩ = some (.int .u64 (vn : Nat)) ∧ w6.drew.cell? ⟨vx, 1, none⟩ = some (.int .i64 vp) ∧ w6.drew.cell? ⟨pb, t * 2, none⟩ = some (.int .u64 (pn : Nat)) ∧ w6.drew.cell? ⟨pb, t * 2 + 1, none⟩ = some (.int .i64 pp) := ⟨d16, dl6, k0, k1, r0, r1⟩
                  have H6 : Hid (Pc w (Old w) j gq g g' j j (.slice (some ⟨pb, 0, none⟩) j pc) (.slice (some ⟨cb, 0, none⟩) j cc) w6.drew colz Az) := hPc6.up ((Below.refl _ _).drew)
                  clear hPc5 hvr5 d0 d1 d3 dl dv p0 p1 q0 hm hvv hv1 hop hvc hgetv v0 v1 v2 hm1 HVW hPc6 d16 dl6 k0 k1 r0 r1 uA hbA zf hA0 hvx hw6 u6 b6 bU hwU HPC b5 hM1 y2
                  go_wp2_with fail
                  refine wp_region_noPanic ?_
                  refine wp_region_held_drew (S := fun wx => wx.cell? ⟨gq, 3, none⟩ = some (.slice (some ⟨vb, 0, none⟩) j vc) ∧ wx.cell? ⟨vb, t, none⟩ = some (.slice (some ⟨xg, 0, none⟩) M1 xc) ∧ wx.cell? ⟨cb, t, none⟩ = some (.int .i64 (m : Nat))) (by kernel_rfl) hS6 (fun hHeld => ?_)
                  refine tk4 0 rfl (fun wx ⟨a1, a2, a3⟩ => by go_simp; try with_reducible rfl) ?_
                  refine tk4 1 rfl (fun wx ⟨a1, a2, a3⟩ => by go_simp; try with_reducible rfl) ?_
                  refine tk4 2 rfl (fun wx ⟨a1, a2, a3⟩ => by go_simp; try with_reducible rfl) ?_
                  refine tk4 3 rfl (fun wx ⟨a1, a2, a3⟩ => by go_simp; try with_reducible rfl) ?_
                  refine tk4 4 rfl (fun wx ⟨a1, a2, a3⟩ => by go_simp; try with_reducible rfl) ?_
                  refine tk4 5 rfl (fun wx ⟨a1, a2, a3⟩ => by go_simp; try with_reducible rfl) ?_
                  refine tk4 6 rfl (fun wx ⟨a1, a2, a3⟩ => by go_simp; try with_reducible rfl) ?_
                  refine tk4 7 rfl (fun wx ⟨a1, a2, a3⟩ => by go_simp; try with_reducible rfl) ?_
                  refine tk4 8 rfl (fun wx ⟨a1, a2, a3⟩ => by go_simp; try with_reducible rfl) ?_
                  refine tk4 9 rfl (fun wx ⟨a1, a2, a3⟩ => by go_simp; try with_reducible rfl) ?_
                  refine tk4 10 rfl (fun wx ⟨a1, a2, a3⟩ => by go_simp; try with_reducible rfl) ?_
                  refine tk4 11 rfl (fun wx ⟨a1, a2, a3⟩ => by go_simp; try with_reducible rfl) ?_
                  refine tk4 12 rfl (fun wx ⟨a1, a2, a3⟩ => by go_simp; try with_reducible rfl) ?_
                  refine wpAnyH_done (by kernel_rfl) ?_ _
                  refine NoPanic.normal ?_
                  clear hHeld hS6
                  go_wp2_with fail
                  refine wp_region_noPanic ?_
                  refine wp_region_held_drew (S := fun wx => wx.cell? ⟨gq, 3, none⟩ = some (.slice (some ⟨vb, 0, none⟩) j vc) ∧ wx.cell? ⟨vb, t, none⟩ = some (.slice (some ⟨xg, 0, none⟩) M1 xc) ∧ wx.cell? ⟨xg, m * 3, none⟩ = some (.int .u64 (vn : Nat)) ∧ wx.cell? ⟨xg, m * 3 + 1, none⟩ = some (.int .i64 vp) ∧ wx.cell? ⟨xg, m * 3 + 2, none⟩ = some (.int .u16 (vs : Nat))) (by kernel_rfl) (by rw [HU.out]; exact hS7) (fun hHeld => ?_)
                  rw [HU.out] at hHeld ⊢
                  clear hne hne2 hne3
                  refine tk4 0 rfl (fun wx ⟨a1, a2, a3, a4, a5⟩ => by go_simp; try with_reducible rfl) ?_
                  refine tk4 1 rfl (fun wx ⟨a1, a2, a3, a4, a5⟩ => by go_simp; try with_reducible rfl) ?_
                  refine tk4 2 rfl (fun wx ⟨a1, a2, a3, a4, a5⟩ => by go_simp; try with_reducible rfl) ?_
                  refine tk4 3 rfl (fun wx ⟨a1, a2, a3, a4, a5⟩ => by go_simp; try with_reducible rfl) ?_
                  refine tk4 4 rfl (fun wx ⟨a1, a2, a3, a4, a5⟩ => by go_simp; try with_reducible rfl) ?_
                  refine tk4 5 rfl (fun wx ⟨a1, a2, a3, a4, a5⟩ => by go_simp; try with_reducible rfl) ?_
                  refine tk4 6 rfl (fun wx ⟨a1, a2, a3, a4, a5⟩ => by go_simp; try with_reducible rfl) ?_
                  refine tk4 7 rfl (fun wx ⟨a1, a2, a3, a4, a5⟩ => by go_simp; try with_reducible rfl) ?_
                  refine tk4 8 rfl (fun wx ⟨a1, a2, a3, a4, a5⟩ => by go_simp; try with_reducible rfl) ?_
                  refine tk4 9 rfl (fun wx ⟨a1, a2, a3, a4, a5⟩ => by go_simp; try with_reducible rfl) ?_
                  refine tk4 10 rfl (fun wx ⟨a1, a2, a3, a4, a5⟩ => by go_simp; try with_reducible rfl) ?_
                  refine tk4 11 rfl (fun wx ⟨a1, a2, a3, a4, a5⟩ => by go_simp; try with_reducible rfl) ?_
                  refine tk4 12 rfl (fun wx ⟨a1, a2, a3, a4, a5⟩ => by go_simp; try with_reducible rfl) ?_
                  refine tk4 13 rfl (fun wx ⟨a1, a2, a3, a4, a5⟩ => by go_simp; try with_reducible rfl) ?_
                  refine tk4 14 rfl (fun wx ⟨a1, a2, a3, a4, a5⟩ => by go_simp; try with_reducible rfl) ?_
                  refine tk4 15 rfl (fun wx ⟨a1, a2, a3, a4, a5⟩ => by go_simp; try with_reducible rfl) ?_
                  refine tk4 16 rfl (fun wx ⟨a1, a2, a3, a4, a5⟩ => by go_simp; try with_reducible rfl) ?_
                  refine tk4 17 rfl (fun wx ⟨a1, a2, a3, a4, a5⟩ => by go_simp; try with_reducible rfl) ?_
                  refine comes_up 18 rfl (by kernel_rfl) (fun K hK => ?_)
                  go_simp
                  rw [HA.out.1, HA.out.2.1]
                  refine hK.out _ _ hS7a (fun hHeld => ?_)
                  clear hK K
                  (try simp only [Act.put, List.setIfInBounds_toArray, List.set_cons_zero, List.set_cons_succ])
                  refine comes_up 19 rfl (by kernel_rfl) (fun K hK => ?_)
                  go_simp
                  rw [HA.out.2.2]
                  refine hK.out _ _ hS7b (fun hHeld => ?_)
                  clear hK K
                  (try simp only [Act.put, List.setIfInBounds_toArray, List.set_cons_zero, List.set_cons_succ])
                  refine wpAnyH_done (by kernel_rfl) ?_ _
                  refine NoPanic.normal ?_
                  clear hHeld hS7 hS7a hS7b z0 z1 z2 zf0 zf1 zf2 y1 x2 hsub
                  obtain ⟨rfl, rfl, _, hvc⟩ := HV.out
                  have vqA := fun W => vid_equal vn vp vn vp W
                  simp only [and_self, decide_true] at vqA
                  by_cases hpt : vp = (t : Int)
                  · have hptB : (vp == (t : Int)) = true := by simpa using hpt
                    have hptN : (vp != (t : Int)) = false := by simpa using hpt
                    have hptD : decide (vp = (t : Int)) = true := decide_eq_true hpt
                    clear hpt
                    go_wp2_with fail
                    refine wp_region_noPanic ?_
                    refine wp_region_held_drew (S := fun wx => wx.cell? ⟨gq, 1, none⟩ = some (.slice (some ⟨lb, 0, none⟩) j lc) ∧ wx.cell? ⟨lb, t, none⟩ = some (.pointer (some ⟨Az.qs t, 0, none⟩)) ∧ wx.cell? ⟨vx, 0, none⟩ = some (.int .u64 (vn : Nat)) ∧ wx.cell? ⟨vx, 1, none⟩ = some (.int .i64 vp) ∧ wx.cell? ⟨pb, t * 2, none⟩ = some (.int .u64 (pn : Nat)) ∧ wx.cell? ⟨pb, t * 2 + 1, none⟩ = some (.int .i64 pp)) (by kernel_rfl) hS8 (fun hHeld => ?_)
                    refine tk4 0 rfl (fun wx ⟨a1, a2, a3, a4, a5, a6⟩ => by go_simp; try with_reducible rfl) ?_
                    refine tk4 1 rfl (fun wx ⟨a1, a2, a3, a4, a5, a6⟩ => by go_simp; try with_reducible rfl) ?_
                    refine tk4 2 rfl (fun wx ⟨a1, a2, a3, a4, a5, a6⟩ => by go_simp; try with_reducible rfl) ?_
                    refine tk4 3 rfl (fun wx ⟨a1, a2, a3, a4, a5, a6⟩ => by go_simp; try with_reducible rfl) ?_
                    refine tk4 4 rfl (fun wx ⟨a1, a2, a3, a4, a5, a6⟩ => by go_simp; try with_reducible rfl) ?_
                    refine tk4 5 rfl (fun wx ⟨a1, a2, a3, a4, a5, a6⟩ => by go_simp; try with_reducible rfl) ?_
                    refine tk4 6 rfl (fun wx ⟨a1, a2, a3, a4, a5, a6⟩ => by go_simp; try with_reducible rfl) ?_
                    refine tk4 7 rfl (fun wx ⟨a1, a2, a3, a4, a5, a6⟩ => by go_simp; try with_reducible rfl) ?_
                    refine tk4 8 rfl (fun wx ⟨a1, a2, a3, a4, a5, a6⟩ => by go_simp; try with_reducible rfl) ?_
                    refine comes_up 9 rfl (by kernel_rfl) (fun K hK => ?_)
                    go_simp
                    refine hpr6.mono ?_
                    rintro e w7 ⟨rfl, u7⟩
                    have hS9 : w7.cell? ⟨gq, 1, none⟩ = some (.slice (some ⟨lb, 0, none⟩) j lc) ∧ w7.cell? ⟨lb, t, none⟩ = some (.pointer (some ⟨Az.qs t, 0, none⟩)) ∧ w7.cell? ⟨vx, 0, none⟩ = some (.int .u64 (vn : Nat)) ∧ w7.cell? ⟨vx, 1, none⟩ = some (.int .i64 vp) ∧ w7.cell? ⟨pb, t * 2, none⟩ = some (.int .u64 (pn : Nat)) ∧ w7.cell? ⟨pb, t * 2 + 1, none⟩ = some (.int .i64 pp) := ⟨u7.cell hS8.1, u7.cell hS8.2.1, u7.cell hS8.2.2.1, u7.cell hS8.2.2.2.1, u7.cell hS8.2.2.2.2.1, u7.cell hS8.2.2.2.2.2⟩
                    have hop7 := hop6 w7 u7.bl
                    clear hpr6 hop6
                    go_wp2_with fail
                    refine hK.out _ _ hS9 (fun hHeld => ?_)
                    clear hK K
                    (try simp only [Act.put, List.setIfInBounds_toArray, List.set_cons_zero, List.set_cons_succ])
                    refine tk4 10 rfl (fun wx ⟨a1, a2, a3, a4, a5, a6⟩ => by go_simp; try with_reducible rfl) ?_
                    refine tk4 11 rfl (fun wx ⟨a1, a2, a3, a4, a5, a6⟩ => by go_simp; try with_reducible rfl) ?_
                    refine tk4 12 rfl (fun wx ⟨a1, a2, a3, a4, a5, a6⟩ => by go_simp; try with_reducible rfl) ?_
                    refine tk4 13 rfl (fun wx ⟨a1, a2, a3, a4, a5, a6⟩ => by go_simp; try with_reducible rfl) ?_
                    refine tk4 14 rfl (fun wx ⟨a1, a2, a3, a4, a5, a6⟩ => by go_simp; try with_reducible rfl) ?_
                    refine tk4 15 rfl (fun wx ⟨a1, a2, a3, a4, a5, a6⟩ => by go_simp; try with_reducible rfl) ?_
                    refine tk4 16 rfl (fun wx ⟨a1, a2, a3, a4, a5, a6⟩ => by go_simp; try with_reducible rfl) ?_
                    refine tk4 17 rfl (fun wx ⟨a1, a2, a3, a4, a5, a6⟩ => by go_simp; try with_reducible rfl) ?_
                    refine tk4 18 rfl (fun wx ⟨a1, a2, a3, a4, a5, a6⟩ => by go_simp; try with_reducible rfl) ?_
                    refine comes_up 19 rfl (by kernel_rfl) (fun K hK => ?_)
                    go_simp
                    refine hop7.mono ?_
                    rintro e w8 ⟨rfl, u8⟩
                    have hS10 : w8.cell? ⟨gq, 1, none⟩ = some (.slice (some ⟨lb, 0, none⟩) j lc) ∧ w8.cell? ⟨lb, t, none⟩ = some (.pointer (some ⟨Az.qs t, 0, none⟩)) ∧ w8.cell? ⟨vx, 0, none⟩ = some (.int .u64 (vn : Nat)) ∧ w8.cell? ⟨vx, 1, none⟩ = some (.int .i64 vp) ∧ w8.cell? ⟨pb, t * 2, none⟩ = some (.int .u64 (pn : Nat)) ∧ w8.cell? ⟨pb, t * 2 + 1, none⟩ = some (.int .i64 pp) := ⟨u8.cell hS9.1, u8.cell hS9.2.1, u8.cell hS9.2.2.1, u8.cell hS9.2.2.2.1, u8.cell hS9.2.2.2.2.1, u8.cell hS9.2.2.2.2.2⟩
                    have HNX : Hid (PcAt w (Old w) j gq g g' j (.slice (some ⟨pb, 0, none⟩) j pc) (.slice (some ⟨cb, 0, none⟩) j cc) w8) := ⟨_, _, (H6.out.up u7.bl).up u8.bl⟩
                    clear hop7 u7 u8
                    go_wp2_with fail
                    refine hK.out _ _ hS10 (fun hHeld => ?_)
                    clear hK K
                    (try simp only [Act.put, List.setIfInBounds_toArray, List.set_cons_zero, List.set_cons_succ])
                    refine tk4 20 rfl (fun wx ⟨a1, a2, a3, a4, a5, a6⟩ => by go_simp; try with_reducible rfl) ?_
                    refine tk4 21 rfl (fun wx ⟨a1, a2, a3, a4, a5, a6⟩ => by go_simp; try with_reducible rfl) ?_
                    refine tk4 22 rfl (fun wx ⟨a1, a2, a3, a4, a5, a6⟩ => by go_simp; try with_reducible rfl) ?_
                    refine tk4 23 rfl (fun wx ⟨a1, a2, a3, a4, a5, a6⟩ => by go_simp; try with_reducible rfl) ?_
                    refine tk4 24 rfl (fun wx ⟨a1, a2, a3, a4, a5, a6⟩ => by go_simp; try with_reducible rfl) ?_
                    refine tk4 25 rfl (fun wx ⟨a1, a2, a3, a4, a5, a6⟩ => by go_simp; try with_reducible rfl) ?_
                    refine tk4 26 rfl (fun wx ⟨a1, a2, a3, a4, a5, a6⟩ => by go_simp; try with_reducible rfl) ?_
                    refine tk4 27 rfl (fun wx ⟨a1, a2, a3, a4, a5, a6⟩ => by go_simp; try with_reducible rfl) ?_
                    refine tk4 28 rfl (fun wx ⟨a1, a2, a3, a4, a5, a6⟩ => by go_simp; try with_reducible rfl) ?_
                    refine take_first 29 (v := undef) rfl (by kernel_rfl) (by kernel_rfl) (by kernel_rfl) (fun _ _ _ h => h) (Or.inr ⟨by rfl, rfl⟩) (by assumption) ?_
                    (try simp only [Act.put, List.setIfInBounds_toArray, List.set_cons_zero, List.set_cons_succ])
                    refine take_first 30 (v := undef) rfl (by kernel_rfl) (by kernel_rfl) (by kernel_rfl) (fun _ _ _ h => h) (Or.inr ⟨by rfl, rfl⟩) (by assumption) ?_
                    (try simp only [Act.put, List.setIfInBounds_toArray, List.set_cons_zero, List.set_cons_succ])
                    refine take_first 31 (v := undef) rfl (by kernel_rfl) (by kernel_rfl) (by kernel_rfl) (fun _ _ _ h => h) (Or.inr ⟨by rfl, rfl⟩) (by assumption) ?_
                    (try simp only [Act.put, List.setIfInBounds_toArray, List.set_cons_zero, List.set_cons_succ])
                    refine take_first 32 (v := undef) rfl (by kernel_rfl) (by kernel_rfl) (by kernel_rfl) (fun _ _ _ h => h) (Or.inr ⟨by rfl, rfl⟩) (by assumption) ?_
                    (try simp only [Act.put, List.setIfInBounds_toArray, List.set_cons_zero, List.set_cons_succ])
                    refine take_first 33 (v := undef) rfl (by kernel_rfl) (by kernel_rfl) (by kernel_rfl) (fun _ _ _ h => h) (Or.inr ⟨by rfl, rfl⟩) (by assumption) ?_
                    (try simp only [Act.put, List.setIfInBounds_toArray, List.set_cons_zero, List.set_cons_succ])
                    refine take_first 34 (v := undef) rfl (by kernel_rfl) (by kernel_rfl) (by kernel_rfl) (fun _ _ _ h => h) (Or.inr ⟨by rfl, rfl⟩) (by assumption) ?_
                    (try simp only [Act.put, List.setIfInBounds_toArray, List.set_cons_zero, List.set_cons_succ])
                    refine take_first 35 (v := undef) rfl (by kernel_rfl) (by kernel_rfl) (by kernel_rfl) (fun _ _ _ h => h) (Or.inr ⟨by rfl, rfl⟩) (by assumption) ?_
                    (try simp only [Act.put, List.setIfInBounds_toArray, List.set_cons_zero, List.set_cons_succ])
                    refine tk4 36 rfl (fun wx ⟨a1, a2, a3, a4, a5, a6⟩ => by go_simp; try with_reducible rfl) ?_
                    refine tk4 37 rfl (fun wx ⟨a1, a2, a3, a4, a5, a6⟩ => by go_simp; try with_reducible rfl) ?_
                    refine wpAnyH_done (by kernel_rfl) ?_ _
                    refine NoPanic.normal ?_
                    clear hHeld hS8 hS9 hS10 vqA
                    go_wp2_with fail
                    go_roundw
                    case rel => exact ⟨t + 1, _, by omega, by go_num, rfl, HNX⟩
                    case measure => simp [intOf]; omega
                  · obtain ⟨rfl, rfl⟩ : vn = pn ∧ vp = pp := hvc.resolve_left hpt
                    have hptB : (vp == (t : Int)) = false := by simpa using hpt
                    have hptN : (vp != (t : Int)) = true := by simpa using hpt
                    have hptD : decide (vp = (t : Int)) = false := decide_eq_false hpt
                    go_wp2_with fail
                    refine wp_region_noPanic ?_
                    refine wp_region_held_drew (S := fun wx => wx.cell? ⟨gq, 1, none⟩ = some (.slice (some ⟨lb, 0, none⟩) j lc) ∧ wx.cell? ⟨lb, t, none⟩ = some (.pointer (some ⟨Az.qs t, 0, none⟩)) ∧ wx.cell? ⟨vx, 0, none⟩ = some (.int .u64 (vn : Nat)) ∧ wx.cell? ⟨vx, 1, none⟩ = some (.int .i64 vp) ∧ wx.cell? ⟨pb, t * 2, none⟩ = some (.int .u64 (vn : Nat)) ∧ wx.cell? ⟨pb, t * 2 + 1, none⟩ = some (.int .i64 vp)) (by kernel_rfl) hS8 (fun hHeld => ?_)
                    refine tk4 0 rfl (fun wx ⟨a1, a2, a3, a4, a5, a6⟩ => by go_simp; try with_reducible rfl) ?_
                    refine tk4 1 rfl (fun wx ⟨a1, a2, a3, a4, a5, a6⟩ => by go_simp; try with_reducible rfl) ?_
                    refine tk4 2 rfl (fun wx ⟨a1, a2, a3, a4, a5, a6⟩ => by go_simp; try with_reducible rfl) ?_
                    refine tk4 3 rfl (fun wx ⟨a1, a2, a3, a4, a5, a6⟩ => by go_simp; try with_reducible rfl) ?_
                    refine tk4 4 rfl (fun wx ⟨a1, a2, a3, a4, a5, a6⟩ => by go_simp; try with_reducible rfl) ?_
                    refine tk4 5 rfl (fun wx ⟨a1, a2, a3, a4, a5, a6⟩ => by go_simp; try with_reducible rfl) ?_
                    refine tk4 6 rfl (fun wx ⟨a1, a2, a3, a4, a5, a6⟩ => by go_simp; try with_reducible rfl) ?_
                    refine tk4 7 rfl (fun wx ⟨a1, a2, a3, a4, a5, a6⟩ => by go_simp; try with_reducible rfl) ?_
                    refine tk4 8 rfl (fun wx ⟨a1, a2, a3, a4, a5, a6⟩ => by go_simp; try with_reducible rfl) ?_
                    refine comes_up 9 rfl (by kernel_rfl) (fun K hK => ?_)
                    go_simp
                    refine hpr6.mono ?_
                    rintro e w7 ⟨rfl, u7⟩
                    have hS9 : w7.cell? ⟨gq, 1, none⟩ = some (.slice (some ⟨lb, 0, none⟩) j lc) ∧ w7.cell? ⟨lb, t, none⟩ = some (.pointer (some ⟨Az.qs t, 0, none⟩)) ∧ w7.cell? ⟨vx, 0, none⟩ = some (.int .u64 (vn : Nat)) ∧ w7.cell? ⟨vx, 1, none⟩ = some (.int .i64 vp) ∧ w7.cell? ⟨pb, t * 2, none⟩ = some (.int .u64 (vn : Nat)) ∧ w7.cell? ⟨pb, t * 2 + 1, none⟩ = some (.int .i64 vp) := ⟨u7.cell hS8.1, u7.cell hS8.2.1, u7.cell hS8.2.2.1, u7.cell hS8.2.2.2.1, u7.cell hS8.2.2.2.2.1, u7.cell hS8.2.2.2.2.2⟩
                    have hop7 := hop6 w7 u7.bl
                    clear hpr6 hop6
                    go_wp2_with fail
                    refine hK.out _ _ hS9 (fun hHeld => ?_)
                    clear hK K
                    (try simp only [Act.put, List.setIfInBounds_toArray, List.set_cons_zero, List.set_cons_succ])
                    refine tk4 10 rfl (fun wx ⟨a1, a2, a3, a4, a5, a6⟩ => by go_simp; try with_reducible rfl) ?_
                    refine tk4 11 rfl (fun wx ⟨a1, a2, a3, a4, a5, a6⟩ => by go_simp; try with_reducible rfl) ?_
                    refine tk4 12 rfl (fun wx ⟨a1, a2, a3, a4, a5, a6⟩ => by go_simp; try with_reducible rfl) ?_
                    refine tk4 13 rfl (fun wx ⟨a1, a2, a3, a4, a5, a6⟩ => by go_simp; try with_reducible rfl) ?_
                    refine tk4 14 rfl (fun wx ⟨a1, a2, a3, a4, a5, a6⟩ => by go_simp; try with_reducible rfl) ?_
                    refine tk4 15 rfl (fun wx ⟨a1, a2, a3, a4, a5, a6⟩ => by go_simp; try with_reducible rfl) ?_
                    refine tk4 16 rfl (fun wx ⟨a1, a2, a3, a4, a5, a6⟩ => by go_simp; try with_reducible rfl) ?_
                    refine tk4 17 rfl (fun wx ⟨a1, a2, a3, a4, a5, a6⟩ => by go_simp; try with_reducible rfl) ?_
                    refine tk4 18 rfl (fun wx ⟨a1, a2, a3, a4, a5, a6⟩ => by go_simp; try with_reducible rfl) ?_
                    refine comes_up 19 rfl (by kernel_rfl) (fun K hK => ?_)
                    go_simp
                    refine hop7.mono ?_
                    rintro e w8 ⟨rfl, u8⟩
                    have hS10 : w8.cell? ⟨gq, 1, none⟩ = some (.slice (some ⟨lb, 0, none⟩) j lc) ∧ w8.cell? ⟨lb, t, none⟩ = some (.pointer (some ⟨Az.qs t, 0, none⟩)) ∧ w8.cell? ⟨vx, 0, none⟩ = some (.int .u64 (vn : Nat)) ∧ w8.cell? ⟨vx, 1, none⟩ = some (.int .i64 vp) ∧ w8.cell? ⟨pb, t * 2, none⟩ = some (.int .u64 (vn : Nat)) ∧ w8.cell? ⟨pb, t * 2 + 1, none⟩ = some (.int .i64 vp) := ⟨u8.cell hS9.1, u8.cell hS9.2.1, u8.cell hS9.2.2.1, u8.cell hS9.2.2.2.1, u8.cell hS9.2.2.2.2.1, u8.cell hS9.2.2.2.2.2⟩
                    have HNX : Hid (PcAt w (Old w) j gq g g' j (.slice (some ⟨pb, 0, none⟩) j pc) (.slice (some ⟨cb, 0, none⟩) j cc) w8) := ⟨_, _, (H6.out.up u7.bl).up u8.bl⟩
                    clear hop7 u7 u8
                    go_wp2_with fail
                    refine hK.out _ _ hS10 (fun hHeld => ?_)
                    clear hK K
                    (try simp only [Act.put, List.setIfInBounds_toArray, List.set_cons_zero, List.set_cons_succ])
                    refine tk4 20 rfl (fun wx ⟨a1, a2, a3, a4, a5, a6⟩ => by go_simp; try with_reducible rfl) ?_
                    refine tk4 21 rfl (fun wx ⟨a1, a2, a3, a4, a5, a6⟩ => by go_simp; try with_reducible rfl) ?_
                    refine tk4 22 rfl (fun wx ⟨a1, a2, a3, a4, a5, a6⟩ => by go_simp; try with_reducible rfl) ?_
                    refine tk4 23 rfl (fun wx ⟨a1, a2, a3, a4, a5, a6⟩ => by go_simp; try with_reducible rfl) ?_
                    refine tk4 24 rfl (fun wx ⟨a1, a2, a3, a4, a5, a6⟩ => by go_simp; try with_reducible rfl) ?_
                    refine tk4 25 rfl (fun wx ⟨a1, a2, a3, a4, a5, a6⟩ => by go_simp; try with_reducible rfl) ?_
                    refine tk4 26 rfl (fun wx ⟨a1, a2, a3, a4, a5, a6⟩ => by go_simp; try with_reducible rfl) ?_
                    refine tk4 27 rfl (fun wx ⟨a1, a2, a3, a4, a5, a6⟩ => by go_simp; try with_reducible rfl) ?_
                    refine tk4 28 rfl (fun wx ⟨a1, a2, a3, a4, a5, a6⟩ => by go_simp; try with_reducible rfl) ?_
                    refine tk4 29 rfl (fun wx ⟨a1, a2, a3, a4, a5, a6⟩ => by go_simp; try with_reducible rfl) ?_
                    refine tk4 30 rfl (fun wx ⟨a1, a2, a3, a4, a5, a6⟩ => by go_simp; try with_reducible rfl) ?_
                    refine tk4 31 rfl (fun wx ⟨a1, a2, a3, a4, a5, a6⟩ => by go_simp; try with_reducible rfl) ?_
                    refine tk4 32 rfl (fun wx ⟨a1, a2, a3, a4, a5, a6⟩ => by go_simp; try with_reducible rfl) ?_
                    refine tk4 33 rfl (fun wx ⟨a1, a2, a3, a4, a5, a6⟩ => by go_simp; try with_reducible rfl) ?_
                    refine tk4 34 rfl (fun wx ⟨a1, a2, a3, a4, a5, a6⟩ => by go_simp; try with_reducible rfl) ?_
                    refine tk4 35 rfl (fun wx ⟨a1, a2, a3, a4, a5, a6⟩ => by go_simp; try with_reducible rfl) ?_
                    refine tk4 36 rfl (fun wx ⟨a1, a2, a3, a4, a5, a6⟩ => by go_simp; try with_reducible rfl) ?_
                    refine tk4 37 rfl (fun wx ⟨a1, a2, a3, a4, a5, a6⟩ => by go_simp; try with_reducible rfl) ?_
                    refine wpAnyH_done (by kernel_rfl) ?_ _
                    refine NoPanic.normal ?_
                    clear hHeld hS8 hS9 hS10 vqA
                    go_wp2_with fail
                    go_roundw
                    case rel => exact ⟨t + 1, _, by omega, by go_num, rfl, HNX⟩
                    case measure => simp [intOf]; omega
              · obtain rfl : t = j := by omega
                have htI : ¬ ((t : Int) < (t : Int)) := by omega
                have HNX : Hid (MoAt w (Old w) t gq (k + 1) wr) := ⟨g', ⟨HS3.out, HOK.out.2.1, HOK.out.2.2.1, HOK.out.2.2.2⟩, colz, Az, hPc.gs⟩
                clear hPc hz
                go_wp2_with fail
                go_roundw
                case rel => exact ⟨k + 1, _, _, _, _, _, by omega, by omega, by go_num, rfl, rfl, rfl, rfl, rfl, HNX⟩
                case measure => simp [intOf]; omega
      · have h200I : ¬ ((k : Int) < 150) := by omega
        clear hw
        go_wp2_with fail
        go_ret
        exact ⟨rfl, HB.out⟩
    · have hltI : ¬ ((k : Int) < (len : Int)) := by omega
      clear hw
      go_wp2_with fail
      go_ret
      exact ⟨rfl, HB.out⟩
end Go.Proofs.YtlonbbepoamnmaaDoor
