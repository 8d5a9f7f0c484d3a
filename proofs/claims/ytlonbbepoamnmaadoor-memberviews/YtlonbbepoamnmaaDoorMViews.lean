/-
  MemberViews: the walk.
-/
import Derived.Test.YtlonbbepoamnmaaDoorMVw
import Derived.Deep.CutBlock
namespace Go.Proofs.YtlonbbepoamnmaaDoor
open Go.RowKit
set_option linter.unusedVariables false

/-- What is read of a group. -/
structure Rd (W0 : World) (B : Nat → Prop) (n gq : Nat) (g : Gp) (i : Nat) (w : World) (lb lc q vb vc : Nat) (xo : Option Addr) (xc : Nat) : Prop where
  c0 : w.cell? ⟨gq, 0, none⟩ = some (.int .i64 (n : Nat))
  c1 : w.cell? ⟨gq, 1, none⟩ = some (.slice (some ⟨lb, 0, none⟩) n lc)
  c3 : w.cell? ⟨gq, 3, none⟩ = some (.slice (some ⟨vb, 0, none⟩) n vc)
  cl : w.cell? ⟨lb, i, none⟩ = some (.pointer (some ⟨q, 0, none⟩))
  cv : w.cell? ⟨vb, i, none⟩ = some (.slice xo (g.views i).length xc)
theorem Gs.rd {W0 w : World} {col : Nat → Nat} {B : Nat → Prop} {n gq : Nat} {A : Ga} {g : Gp} (h : Gs W0 B w col n n n gq A g) {i : Nat} (hi : i < n) : ∃ lb lc vb vc xo xc, Rd W0 B n gq g i w lb lc (A.qs i) vb vc xo xc ∧ w.ownsRow 1 34 3 (.slice xo (g.views i).length xc) (g.views i).length (flatV (g.views i)) := by
  obtain ⟨lb, lc, hlv, _, hlc⟩ := h.lcell (by omega)
  obtain ⟨vao, vc, hvv, _, _, hvg⟩ := own_slice h.vs.1
  obtain ⟨vb, rfl⟩ := hvg (by omega)
  have hvl : A.vl.length = n := by have := h.vs.1.1; simpa using this
  obtain ⟨x, hx⟩ : ∃ x, A.vl[i]? = some x := ⟨A.vl[i]'(by omega), List.getElem?_eq_getElem (by omega)⟩
  obtain ⟨r1, _⟩ := h.vs.2.2 i x hx
  obtain ⟨xo, xc, hxe, _⟩ := own_slice r1
  refine ⟨lb, lc, vb, vc, xo, xc, ⟨h.c0, by rw [← hlv]; exact h.c1, by rw [← hvv]; exact h.c3, hlc i hi, ?_⟩, by rw [hxe] at r1; exact r1⟩
  have hv1 := h.vs.1
  rw [hvv] at hv1
  rw [hv1.cellAt i (by omega), hx, hxe]
theorem flatV_get : ∀ (L : List (Vid × Nat)) (k : Nat) (v : Vid × Nat) (j : Nat), L[k]? = some v → j < 3 → (flatV L)[k * 3 + j]? = (vcells v)[j]?
  | [], k, v, j, h, _ => by simp at h
  | y :: L, 0, v, j, h, hj => by
    have e : y = v := by simpa using h
    subst e
    simp only [flatV, List.flatMap_cons]
    rw [List.getElem?_append_left (by simp [vcells]; omega)]
    simp
  | y :: L, k + 1, v, j, h, hj => by
    have h' : L[k]? = some v := by simpa using h
    have := flatV_get L k v j h' hj
    simp only [flatV, List.flatMap_cons] at this ⊢
    rw [List.getElem?_append_right (by simp [vcells]; omega), show (k + 1) * 3 + j - (vcells y).length = k * 3 + j by simp [vcells]; omega]
    exact this
theorem row_views {w : World} {xo : Option Addr} {xc m : Nat} {L : List (Vid × Nat)} (h : w.ownsRow 1 34 3 (.slice xo m xc) L.length (flatV L)) {k : Nat} {v : Vid × Nat} (hv : L[k]? = some v) : ∃ g, xo = some ⟨g, 0, none⟩ ∧ w.cell? ⟨g, k * 3, none⟩ = some (.int .u64 (v.1.1 : Nat)) ∧ w.cell? ⟨g, k * 3 + 1, none⟩ = some (.int .i64 v.1.2) ∧ w.cell? ⟨g, k * 3 + 2, none⟩ = some (.int .u16 (v.2 : Nat)) := by
  have hk := (List.getElem?_eq_some_iff.1 hv).1
  obtain ⟨ao, cap, e, _, _, hg⟩ := own_slice h
  obtain ⟨g, rfl⟩ := hg (by omega)
  simp only [Value.slice.injEq] at e
  obtain ⟨rfl, rfl, rfl⟩ := e
  refine ⟨g, rfl, ?_, ?_, ?_⟩
  · have := flatV_get L k v 0 hv (by omega)
    rw [Nat.add_zero] at this
    rw [h.cellAt _ (by omega), this]; rfl
  · rw [h.cellAt _ (by omega), flatV_get L k v 1 hv (by omega)]; rfl
  · rw [h.cellAt _ (by omega), flatV_get L k v 2 hv (by omega)]; rfl

set_option maxRecDepth 20000 in
set_option maxHeartbeats 8000000 in
theorem views_walk (w : World) (tab : Tab w) (n0 : Nat) (hn0 : n0 < 256) (ao : Option Addr) (len cap : Nat) (xs : Nat → Mv) (hx : Mvs w ao len xs) : Calls Tryd.prog 4 #[.int .u8 (n0 : Nat), .slice ao len cap] w fun e w' => e = .returned (.bool true) ∧ Below w.heap.size w w' := by
  obtain ⟨n, hn⟩ : ∃ n, 1 + n0 % 6 = n := ⟨_, rfl⟩
  have n1 : 1 ≤ n := by omega
  have n6 : n ≤ 6 := by omega
  have HE : Hid ((1 : Int) + (n0 : Int) % 6 = (n : Int)) := by show _ = _; omega
  have ha := awake_any w tab
  have HX : Hid (Mvs w ao len xs) := hx
  have hlen := hx.max
  have HT : Hid (Tab w) := tab
  clear hn hx tab
  go_enter Tryd.func4, Tryd.ntmps4
  go_wp2_with fail
  refine ha.mono ?_
  rintro e w1 ⟨rfl, b1⟩
  have hbeg := begin_any w1 (Kept.of b1) (fun b hb => Nat.lt_of_lt_of_le hb b1.size) HT.out.lt (HT.out.below b1 HT.out.lt) n n1 n6
  clear ha b1
  go_wp2_with fail
  rw [HE.out]
  refine hbeg.mono ?_
  rintro e w2 ⟨gq, rfl, hG2⟩
  have HM : Hid (MvSt w (Old w) n gq 0 w2) := mvst_new hG2 n1 n6
  clear hbeg hG2
  go_upto_block 0 with fail
  go_cut [6] from 22 to 37 (fun _ wx => ∃ k, k ≤ 200 ∧ MvSt w (Old w) n gq k wx)
  case first =>
    go_wp2_with fail
    go_loopw [6] (fun iv wr => ∃ k : Nat, k ≤ 200 ∧ k ≤ len ∧ iv = .int .i64 (k : Nat) ∧ Hid (MvSt w (Old w) n gq k wr)) (fun iv _ => 200 - (intOf iv).toNat)
    case atStart => exact ⟨0, by omega, by omega, rfl, HM⟩
    case round =>
      obtain ⟨k, hk, hkl, rfl, hw⟩ := hrel
      have hk0 : ¬ ((k : Int) < 0) := by omega
      by_cases hlt : k < len
      · have hltI : (k : Int) < (len : Int) := by omega
        by_cases h200 : k < 200
        · have h200I : (k : Int) < 200 := by omega
          obtain ⟨g, H, hok, _⟩ := hw.out
          obtain ⟨_, col, A, hG⟩ := hok
          obtain ⟨b, off, hao, hbl, hc⟩ := (HX.out.keep rfl hG.bel.below).cell (by omega)
          obtain ⟨m0, m1, m2, m3⟩ := hc k hlt
          have hmv := mvst_move hw.out (by omega) (xs k) (HX.out.lt k hlt)
          unfold mval at hmv
          clear hc hG hbl hw
          subst hao
          go_wp2_with fail
          refine hmv.mono ?_
          rintro e w3 ⟨rfl, h3⟩
          have HM3 : Hid (MvSt w (Old w) n gq (k + 1) w3) := h3
          clear hmv h3 m0 m1 m2 m3
          go_wp2_with fail
          go_roundw
          case rel => exact ⟨k + 1, by omega, by omega, by go_num, HM3⟩
          case measure => simp [intOf]; omega
        · have h200I : ¬ ((k : Int) < 200) := by omega
          go_wp2_with fail
          go_meet
          exact ⟨k, hk, hw.out⟩
      · have hltI : ¬ ((k : Int) < (len : Int)) := by omega
        go_wp2_with fail
        go_meet
        exact ⟨k, hk, hw.out⟩
  case rest =>
    obtain ⟨k0, hk0, hM⟩ := hcut
    obtain ⟨g, H, hok, hinv, _, hvl⟩ := hM
    obtain ⟨_, col0, A0, hG0⟩ := hok
    have HI : Hid (GInv n g H ∧ ∀ i, (g.views i).length ≤ 200) := ⟨hinv, fun i => by have := hvl i; omega⟩
    have HV : Hid (Vw w (Old w) n gq g (.slice none 0 0) (allV g 0) none wc) := ⟨col0, A0, hG0, World.ownsRow_nil _ _ _ _, (fun b hb => by cases hb), (fun x l hx => by cases hx)⟩
    clear hinv hvl hG0 HM
    go_wp2_with fail
    go_loopw [7, 8, 9, 10, 11, 12] (fun av iv lv kv vv jv wr => ∃ (i : Nat) (o : Option Addr) (c : Nat) (y1 y2 y3 y4 : Value), i ≤ n ∧ iv = .int .i64 (i : Nat) ∧ av = .slice o (allV g i).length c ∧ lv = y1 ∧ kv = y2 ∧ vv = y3 ∧ jv = y4 ∧ Hid (Vw w (Old w) n gq g (.slice o (allV g i).length c) (allV g i) none wr)) (fun _ iv _ _ _ _ _ => n - (intOf iv).toNat)
    case atStart => exact ⟨0, none, 0, _, _, _, _, by omega, rfl, rfl, rfl, rfl, rfl, rfl, HV⟩
    case round =>
      obtain ⟨i, o, c, y1, y2, y3, y4, hi, rfl, rfl, e1, e2, e3, e4, hw⟩ := hrel
      replace e1 := e1.symm
      replace e2 := e2.symm
      replace e3 := e3.symm
      replace e4 := e4.symm
      subst e1 e2 e3 e4
      have c0 : wr.cell? ⟨gq, 0, none⟩ = some (.int .i64 (n : Nat)) := by obtain ⟨_, _, hG, _⟩ := hw.out; exact hG.c0
      by_cases hlt : i < n
      · have hltI : (i : Int) < (n : Int) := by omega
        have hi0 : ¬ ((i : Int) < 0) := by omega
        obtain ⟨lx, hlx⟩ : ∃ lx, wr.heap.size = lx := ⟨_, rfl⟩
        obtain ⟨wl, hwl⟩ : ∃ wl, wr.alloc (.cells #[.int .u64 0, .int .i64 0] 31) = wl := ⟨_, rfl⟩
        have HF : Hid (Vw w (Old w) n gq g (.slice o (allV g i).length c) (allV g i) (some (lx, (0, 0))) wl) := by
          have := hw.out.first
          rw [hwl, hlx] at this
          exact this
        have HL : Hid (wr.alloc (.cells #[.int .u64 0, .int .i64 0] 31) = wl ∧ wr.heap.size = lx) := ⟨hwl, hlx⟩
        obtain ⟨M, hM⟩ : ∃ M, (g.views i).length = M := ⟨_, rfl⟩
        have HML : Hid ((g.views i).length = M) := hM
        obtain ⟨N, hN⟩ : ∃ N, (allV g i).length = N := ⟨_, rfl⟩
        have HNL : Hid ((allV g i).length = N) := hN
        rw [hN] at HF ⊢
        have hM200 : M ≤ 200 := by rw [← hM]; exact HI.out.2 i
        clear hwl hlx hM hw hN
        go_wp2_with fail
        rw [HL.out.1, HL.out.2]
        clear c0
        go_loopw [7, 10, 11, 12] (fun av kv vv jv wq => ∃ (k : Nat) (o : Option Addr) (c : Nat) (y3 y4 : Value), k ≤ M ∧ kv = .int .i64 (k : Nat) ∧ av = .slice o (N + k) c ∧ vv = y3 ∧ jv = y4 ∧ Hid (Vw w (Old w) n gq g (.slice o (N + k) c) (allV g i ++ (g.views i).take k) (some (lx, lastV (g.views i) k)) wq)) (fun _ kv _ _ _ => M - (intOf kv).toNat)
        case atStart => exact ⟨0, o, c, _, _, by omega, rfl, rfl, rfl, rfl, by simpa [lastV] using HF⟩
        case round =>
          obtain ⟨k, o, c, y3, y4, hk, rfl, rfl, e3, e4, hw⟩ := hrel
          replace e3 := e3.symm
          replace e4 := e4.symm
          subst e3 e4
          have hk0 : ¬ ((k : Int) < 0) := by omega
          obtain ⟨col, A, hG, hrow, hav, hlast⟩ := hw.out
          obtain ⟨lb, lc, vb, vc, xo, xc, hrd, hvr⟩ := hG.rd hlt
          obtain ⟨d0, d1, d3, dl, dv⟩ := hrd
          rw [HML.out] at dv
          obtain ⟨_, _, hlxl, hlxa, l0, l1, lf⟩ := hlast _ _ rfl
          by_cases hkm : k < M
          · have hkI : (k : Int) < (M : Int) := by omega
            obtain ⟨v, hv⟩ : ∃ v, (g.views i)[k]? = some v := by have := HML.out; exact ⟨(g.views i)[k]'(by omega), List.getElem?_eq_getElem (by omega)⟩
            obtain ⟨xg, rfl, v0, v1, v2⟩ := row_views hvr hv
            have hvin := view_in HI.out.1 hlt (List.mem_of_getElem? hv)
            have hris := view_rise HI.out.1 hlt hv
            have huq : Hid (∀ x, x ∈ allV g i ++ (g.views i).take k → x.1 = v.1 → x = v) := fun x hx e => view_uniq HI.out.1 hlt (Nat.le_of_lt hlt) ((List.mem_append.1 hx).imp id List.mem_of_mem_take) (List.mem_of_getElem? hv) e
            have HNX : Hid (lastV (g.views i) (k + 1) = v.1 ∧ (g.views i).take (k + 1) = (g.views i).take k ++ [v]) := ⟨lastV_succ hv, by rw [List.take_add_one, hv]; rfl⟩
            obtain ⟨all, hall⟩ : ∃ all, allV g i ++ (g.views i).take k = all := ⟨_, rfl⟩
            have HAL : Hid (allV g i ++ (g.views i).take k = all ∧ all.length = N + k) := ⟨hall, by rw [← hall, List.length_append, HNL.out, List.length_take, HML.out]; omega⟩
            have hw2 : Vw w (Old w) n gq g (.slice o (N + k) c) all (some (lx, lastV (g.views i) k)) wr := by rw [← hall]; exact hw.out
            rw [hall] at huq
            have hcmp := fun W => refCompare_any W v.1.1 v.1.2 (lastV (g.views i) k).1 (lastV (g.views i) k).2
            have hc1 : cmpV v.1.1 v.1.2 (lastV (g.views i) k).1 (lastV (g.views i) k).2 = 1 := cmpV_one hris
            have hhas := fun W => refHas_any W v.2 hvin.2.2.1 (i : Int)
            have hh1 : hasN v.2 (i : Int) = true := by
              have hn16 := n6
              rw [hasN_nat _ (by omega)]; exact hvin.2.1
            rw [hc1] at hcmp
            rw [hh1] at hhas
            unfold vid at hcmp
            obtain ⟨vx, hvx⟩ : ∃ vx, wr.heap.size = vx := ⟨_, rfl⟩
            obtain ⟨wv, hwv⟩ : ∃ wv, wr.alloc (.cells #[.int .u64 (v.1.1 : Nat), .int .i64 v.1.2, .int .u16 (v.2 : Nat)] 34) = wv := ⟨_, rfl⟩
            have uv : Below wr.heap.size wr wv := by rw [← hwv]; exact bl1 _ _
            have hhv : wv.heap[vx]? = some (.cells #[.int .u64 (v.1.1 : Nat), .int .i64 v.1.2, .int .u16 (v.2 : Nat)] 34 (0, 0)) := by rw [← hwv, ← hvx]; exact heap_alloc_new _ _
            have HWV : Hid (Vw w (Old w) n gq g (.slice o (N + k) c) all (some (lx, lastV (g.views i) k)) wv) := hw2.up uv
            have HQ : Hid (wr.alloc (.cells #[.int .u64 (v.1.1 : Nat), .int .i64 v.1.2, .int .u16 (v.2 : Nat)] 34) = wv ∧ wr.heap.size = vx) := ⟨hwv, hvx⟩
            have HBX : Hid (∀ W, Below wv.heap.size wv W → W.cell? ⟨vx, 0, none⟩ = some (.int .u64 (v.1.1 : Nat)) ∧ W.cell? ⟨vx, 1, none⟩ = some (.int .i64 v.1.2) ∧ W.cell? ⟨vx, 2, none⟩ = some (.int .u16 (v.2 : Nat))) := fun W u => ⟨bl_cell u (heap_cell (j := 0) hhv rfl), bl_cell u (heap_cell (j := 1) hhv rfl), bl_cell u (heap_cell (j := 2) hhv rfl)⟩
            have hlv : lx < vx := by omega
            have b0 : wv.cell? ⟨vx, 0, none⟩ = some (.int .u64 (v.1.1 : Nat)) := heap_cell (j := 0) hhv rfl
            have b1 : wv.cell? ⟨vx, 1, none⟩ = some (.int .i64 v.1.2) := heap_cell (j := 1) hhv rfl
            have b2 : wv.cell? ⟨vx, 2, none⟩ = some (.int .u16 (v.2 : Nat)) := heap_cell (j := 2) hhv rfl
            have l0' := (uv.cell hlxl).trans l0
            have l1' := (uv.cell hlxl).trans l1
            have hm9 : M ≤ 9223372036854775807 := by omega
            obtain ⟨⟨ln, lp⟩, hlv2⟩ : ∃ l : Vid, lastV (g.views i) k = l := ⟨_, rfl⟩
            rw [hlv2] at l0' l1' HWV hcmp
            obtain ⟨⟨vn, vp⟩, vs⟩ := v
            clear hG hrow hav hlast hvr hvin hris hall hw2 hc1 hh1 hvx hwv hhv hw l0 l1 hlxa lf hv hlv2 dl d1 d0
            have HLF : Hid (lx < wv.heap.size ∧ vx < wv.heap.size ∧ (∀ j, wv.frozen? ⟨lx, j, none⟩ = false)) := ⟨by have := uv.size; omega, World.block_lt_of_cell? _ _ b0, fun j => by obtain ⟨_, _, _, _, _, h5⟩ := HWV.out; exact (h5 _ _ rfl).2.2.2.2.2.2 j⟩
            go_upto_region 19 with fail
            rw [HQ.out.1, HQ.out.2]
            clear v0 v1 v2 dv d3 uv
            go_wp2_with fail
            refine (hcmp _).mono ?_
            rintro e w3 ⟨rfl, u3⟩
            have b0 := u3.cell b0
            have b1 := u3.cell b1
            have b2 := u3.cell b2
            have l0 := u3.cell l0'
            have l1 := u3.cell l1'
            have lf0 : w3.frozen? ⟨lx, 0, none⟩ = false := (u3.bl.frozen HLF.out.1).trans (HLF.out.2.2 0)
            have lf1 : w3.frozen? ⟨lx, 1, none⟩ = false := (u3.bl.frozen HLF.out.1).trans (HLF.out.2.2 1)
            have HW3 : Hid (Vw w (Old w) n gq g (.slice o (N + k) c) all (some (lx, (ln, lp))) w3) := HWV.out.up u3.bl
            clear hcmp u3 HWV l0' l1'
            go_wp2_with fail
            refine (hhas _).mono ?_
            rintro e w4 ⟨rfl, rfl⟩
            obtain ⟨w5, hw5⟩ : ∃ w5, (w3.setCell ⟨lx, 0, none⟩ (.int .u64 (vn : Nat))).setCell ⟨lx, 1, none⟩ (.int .i64 vp) = w5 := ⟨_, rfl⟩
            have hbk : w5.heap[vx]? = w3.heap[vx]? := by
              have hne : vx ≠ lx := by omega
              rw [← hw5]; exact (Below.heap_setCell _ _ _ _ hne).trans (Below.heap_setCell _ _ _ _ hne)
            have HW5 : Hid (Vw w (Old w) n gq g (.slice o (N + k) c) all (some (lx, (vn, vp))) w5 ∧ w5.cell? ⟨vx, 0, none⟩ = some (.int .u64 (vn : Nat)) ∧ w5.cell? ⟨vx, 1, none⟩ = some (.int .i64 vp) ∧ w5.cell? ⟨vx, 2, none⟩ = some (.int .u16 (vs : Nat))) := ⟨by rw [← hw5]; exact HW3.out.last (vn, vp), by rw [cell_block hbk]; exact b0, by rw [cell_block hbk]; exact b1, by rw [cell_block hbk]; exact b2⟩
            have HS5 : Hid ((w3.setCell ⟨lx, 0, none⟩ (.int .u64 (vn : Nat))).setCell ⟨lx, 1, none⟩ (.int .i64 vp) = w5) := hw5
            clear hhas hw5 hbk
            go_upto_block 6 with fail
            rw [HS5.out]
            clear b0 b1 b2 l0 l1 lf0 lf1 HW3 HBX
            go_wp2_with fail
            have hNk : N + k ≤ 9223372036854775807 := by
              obtain ⟨_, _, _, hr, _⟩ := HW5.out.1
              obtain ⟨ao', cap', e, e1, e2, _⟩ := own_slice hr
              rw [HAL.out.2] at e1
              unfold maxLen at e2
              omega
            go_loopw [12] (fun jv wz => ∃ j : Nat, j ≤ N + k ∧ jv = .int .i64 (j : Nat) ∧ Hid (Vw w (Old w) n gq g (.slice o (N + k) c) all (some (lx, (vn, vp))) wz ∧ wz.cell? ⟨vx, 0, none⟩ = some (.int .u64 (vn : Nat)) ∧ wz.cell? ⟨vx, 1, none⟩ = some (.int .i64 vp) ∧ wz.cell? ⟨vx, 2, none⟩ = some (.int .u16 (vs : Nat)))) (fun jv _ => N + k - (intOf jv).toNat)
            case atStart => exact ⟨0, by omega, rfl, HW5⟩
            case round =>
              obtain ⟨j, hj, rfl, hz⟩ := hrel
              have hj0 : ¬ ((j : Int) < 0) := by omega
              by_cases hjl : j < N + k
              · have hjI : (j : Int) < ((N + k : Nat) : Int) := by omega
                obtain ⟨⟨⟨xn, xp⟩, xs'⟩, hx⟩ : ∃ x, all[j]? = some x := by have := HAL.out.2; exact ⟨all[j]'(by omega), List.getElem?_eq_getElem (by omega)⟩
                obtain ⟨_, _, _, hr, _⟩ := hz.out.1
                obtain ⟨xg2, rfl, z0, z1, z2⟩ := row_views hr hx
                have HZ : Hid (Vw w (Old w) n gq g (.slice (some ⟨xg2, 0, none⟩) (N + k) c) all (some (lx, (vn, vp))) wr.drew ∧ wr.drew.cell? ⟨vx, 0, none⟩ = some (.int .u64 (vn : Nat)) ∧ wr.drew.cell? ⟨vx, 1, none⟩ = some (.int .i64 vp) ∧ wr.drew.cell? ⟨vx, 2, none⟩ = some (.int .u16 (vs : Nat))) := ⟨hz.out.1.drew, hz.out.2⟩
                have hS : wr.drew.cell? ⟨xg2, j * 3, none⟩ = some (.int .u64 (xn : Nat)) ∧ wr.drew.cell? ⟨xg2, j * 3 + 1, none⟩ = some (.int .i64 xp) ∧ wr.drew.cell? ⟨xg2, j * 3 + 2, none⟩ = some (.int .u16 (xs' : Nat)) ∧ wr.drew.cell? ⟨vx, 0, none⟩ = some (.int .u64 (vn : Nat)) ∧ wr.drew.cell? ⟨vx, 1, none⟩ = some (.int .i64 vp) ∧ wr.drew.cell? ⟨vx, 2, none⟩ = some (.int .u16 (vs : Nat)) := ⟨z0, z1, z2, hz.out.2⟩
                have hu := huq.out ((xn, xp), xs') (List.mem_of_getElem? hx)
                clear hr z0 z1 z2 hz hx
                by_cases he : xn = vn ∧ xp = vp
                · obtain ⟨rfl, rfl⟩ := he
                  have e2 : xs' = vs := congrArg Prod.snd (hu rfl)
                  subst e2
                  have vq := fun W => vid_equal xn xp xn xp W
                  have vq2 := fun W => view_equal xn xp xs' xn xp xs' W
                  simp only [and_self, decide_true] at vq vq2
                  clear hu
                  go_wp2_with fail
                  refine wp_region_noPanic ?_
                  refine wp_region_held_drew (S := fun wx => wx.cell? ⟨xg2, j * 3, none⟩ = some (.int .u64 (xn : Nat)) ∧ wx.cell? ⟨xg2, j * 3 + 1, none⟩ = some (.int .i64 xp) ∧ wx.cell? ⟨xg2, j * 3 + 2, none⟩ = some (.int .u16 (xs' : Nat)) ∧ wx.cell? ⟨vx, 0, none⟩ = some (.int .u64 (xn : Nat)) ∧ wx.cell? ⟨vx, 1, none⟩ = some (.int .i64 xp) ∧ wx.cell? ⟨vx, 2, none⟩ = some (.int .u16 (xs' : Nat))) (by kernel_rfl) hS (fun hHeld => ?_)
                  refine tk 0 rfl (Or.inl ⟨by rfl, by intro wx hSw; obtain ⟨a1, a2, a3, a4, a5, a6⟩ := hSw; go_simp; try with_reducible rfl⟩) ?_
                  refine tk 1 rfl (Or.inl ⟨by rfl, by intro wx hSw; obtain ⟨a1, a2, a3, a4, a5, a6⟩ := hSw; go_simp; try with_reducible rfl⟩) ?_
                  refine tk 2 rfl (Or.inl ⟨by rfl, by intro wx hSw; obtain ⟨a1, a2, a3, a4, a5, a6⟩ := hSw; go_simp; try with_reducible rfl⟩) ?_
                  refine tk 3 rfl (Or.inl ⟨by rfl, by intro wx hSw; obtain ⟨a1, a2, a3, a4, a5, a6⟩ := hSw; go_simp; try with_reducible rfl⟩) ?_
                  refine tk 4 rfl (Or.inl ⟨by rfl, by intro wx hSw; obtain ⟨a1, a2, a3, a4, a5, a6⟩ := hSw; go_simp; try with_reducible rfl⟩) ?_
                  refine tk 5 rfl (Or.inl ⟨by rfl, by intro wx hSw; obtain ⟨a1, a2, a3, a4, a5, a6⟩ := hSw; go_simp; try with_reducible rfl⟩) ?_
                  refine tk 6 rfl (Or.inl ⟨by rfl, by intro wx hSw; obtain ⟨a1, a2, a3, a4, a5, a6⟩ := hSw; go_simp; try with_reducible rfl⟩) ?_
                  refine tk 7 rfl (Or.inl ⟨by rfl, by intro wx hSw; obtain ⟨a1, a2, a3, a4, a5, a6⟩ := hSw; go_simp; try with_reducible rfl⟩) ?_
                  refine tk 8 rfl (Or.inl ⟨by rfl, by intro wx hSw; obtain ⟨a1, a2, a3, a4, a5, a6⟩ := hSw; go_simp; try with_reducible rfl⟩) ?_
                  refine tk 9 rfl (Or.inl ⟨by rfl, by intro wx hSw; obtain ⟨a1, a2, a3, a4, a5, a6⟩ := hSw; go_simp; try with_reducible rfl⟩) ?_
                  refine tk 10 rfl (Or.inl ⟨by rfl, by intro wx hSw; obtain ⟨a1, a2, a3, a4, a5, a6⟩ := hSw; go_simp; try with_reducible rfl⟩) ?_
                  refine tk 11 rfl (Or.inl ⟨by rfl, by intro wx hSw; obtain ⟨a1, a2, a3, a4, a5, a6⟩ := hSw; go_simp; try with_reducible rfl⟩) ?_
                  refine tk 12 rfl (Or.inl ⟨by rfl, by intro wx hSw; obtain ⟨a1, a2, a3, a4, a5, a6⟩ := hSw; go_simp; try with_reducible rfl⟩) ?_
                  refine tk 13 rfl (Or.inl ⟨by rfl, by intro wx hSw; obtain ⟨a1, a2, a3, a4, a5, a6⟩ := hSw; go_simp; try with_reducible rfl⟩) ?_
                  refine tk 14 rfl (Or.inl ⟨by rfl, by intro wx hSw; obtain ⟨a1, a2, a3, a4, a5, a6⟩ := hSw; go_simp; try with_reducible rfl⟩) ?_
                  refine tk 15 rfl (Or.inl ⟨by rfl, by intro wx hSw; obtain ⟨a1, a2, a3, a4, a5, a6⟩ := hSw; go_simp; try with_reducible rfl⟩) ?_
                  refine wpAnyH_done (by kernel_rfl) ?_ _
                  refine NoPanic.normal ?_
                  clear hHeld hS vq vq2
                  go_wp2_with fail
                  go_roundw
                  case rel => exact ⟨j + 1, by omega, by go_num, HZ⟩
                  case measure => simp [intOf]; omega
                · have vq := fun W => vid_equal xn xp vn vp W
                  rw [decide_eq_false he] at vq
                  clear hu he
                  go_wp2_with fail
                  refine wp_region_noPanic ?_
                  refine wp_region_held_drew (S := fun wx => wx.cell? ⟨xg2, j * 3, none⟩ = some (.int .u64 (xn : Nat)) ∧ wx.cell? ⟨xg2, j * 3 + 1, none⟩ = some (.int .i64 xp) ∧ wx.cell? ⟨xg2, j * 3 + 2, none⟩ = some (.int .u16 (xs' : Nat)) ∧ wx.cell? ⟨vx, 0, none⟩ = some (.int .u64 (vn : Nat)) ∧ wx.cell? ⟨vx, 1, none⟩ = some (.int .i64 vp) ∧ wx.cell? ⟨vx, 2, none⟩ = some (.int .u16 (vs : Nat))) (by kernel_rfl) hS (fun hHeld => ?_)
                  refine tk 0 rfl (Or.inl ⟨by rfl, by intro wx hSw; obtain ⟨a1, a2, a3, a4, a5, a6⟩ := hSw; go_simp; try with_reducible rfl⟩) ?_
                  refine tk 1 rfl (Or.inl ⟨by rfl, by intro wx hSw; obtain ⟨a1, a2, a3, a4, a5, a6⟩ := hSw; go_simp; try with_reducible rfl⟩) ?_
                  refine tk 2 rfl (Or.inl ⟨by rfl, by intro wx hSw; obtain ⟨a1, a2, a3, a4, a5, a6⟩ := hSw; go_simp; try with_reducible rfl⟩) ?_
                  refine tk 3 rfl (Or.inl ⟨by rfl, by intro wx hSw; obtain ⟨a1, a2, a3, a4, a5, a6⟩ := hSw; go_simp; try with_reducible rfl⟩) ?_
                  refine tk 4 rfl (Or.inl ⟨by rfl, by intro wx hSw; obtain ⟨a1, a2, a3, a4, a5, a6⟩ := hSw; go_simp; try with_reducible rfl⟩) ?_
                  refine tk 5 rfl (Or.inl ⟨by rfl, by intro wx hSw; obtain ⟨a1, a2, a3, a4, a5, a6⟩ := hSw; go_simp; try with_reducible rfl⟩) ?_
                  refine tk 6 rfl (Or.inl ⟨by rfl, by intro wx hSw; obtain ⟨a1, a2, a3, a4, a5, a6⟩ := hSw; go_simp; try with_reducible rfl⟩) ?_
                  refine tk 7 rfl (Or.inl ⟨by rfl, by intro wx hSw; obtain ⟨a1, a2, a3, a4, a5, a6⟩ := hSw; go_simp; try with_reducible rfl⟩) ?_
                  refine tk 8 rfl (Or.inl ⟨by rfl, by intro wx hSw; obtain ⟨a1, a2, a3, a4, a5, a6⟩ := hSw; go_simp; try with_reducible rfl⟩) ?_
                  refine take_first 9 (v := undef) rfl (by kernel_rfl) (by kernel_rfl) (by kernel_rfl) (fun _ _ _ h => h) (Or.inr ⟨by rfl, rfl⟩) (by assumption) ?_
                  (try simp only [Act.put, List.setIfInBounds_toArray, List.set_cons_zero, List.set_cons_succ])
                  refine take_first 10 (v := undef) rfl (by kernel_rfl) (by kernel_rfl) (by kernel_rfl) (fun _ _ _ h => h) (Or.inr ⟨by rfl, rfl⟩) (by assumption) ?_
                  (try simp only [Act.put, List.setIfInBounds_toArray, List.set_cons_zero, List.set_cons_succ])
                  refine take_first 11 (v := undef) rfl (by kernel_rfl) (by kernel_rfl) (by kernel_rfl) (fun _ _ _ h => h) (Or.inr ⟨by rfl, rfl⟩) (by assumption) ?_
                  (try simp only [Act.put, List.setIfInBounds_toArray, List.set_cons_zero, List.set_cons_succ])
                  refine take_first 12 (v := undef) rfl (by kernel_rfl) (by kernel_rfl) (by kernel_rfl) (fun _ _ _ h => h) (Or.inr ⟨by rfl, rfl⟩) (by assumption) ?_
                  (try simp only [Act.put, List.setIfInBounds_toArray, List.set_cons_zero, List.set_cons_succ])
                  refine take_first 13 (v := undef) rfl (by kernel_rfl) (by kernel_rfl) (by kernel_rfl) (fun _ _ _ h => h) (Or.inr ⟨by rfl, rfl⟩) (by assumption) ?_
                  (try simp only [Act.put, List.setIfInBounds_toArray, List.set_cons_zero, List.set_cons_succ])
                  refine take_first 14 (v := undef) rfl (by kernel_rfl) (by kernel_rfl) (by kernel_rfl) (fun _ _ _ h => h) (Or.inr ⟨by rfl, rfl⟩) (by assumption) ?_
                  (try simp only [Act.put, List.setIfInBounds_toArray, List.set_cons_zero, List.set_cons_succ])
                  refine tk 15 rfl (Or.inl ⟨by rfl, by intro wx hSw; obtain ⟨a1, a2, a3, a4, a5, a6⟩ := hSw; go_simp; try with_reducible rfl⟩) ?_
                  refine wpAnyH_done (by kernel_rfl) ?_ _
                  refine NoPanic.normal ?_
                  clear hHeld hS vq
                  go_wp2_with fail
                  go_roundw
                  case rel => exact ⟨j + 1, by omega, by go_num, HZ⟩
                  case measure => simp [intOf]; omega
              · obtain rfl : j = N + k := by omega
                have hjI : ¬ (((N + k : Nat) : Int) < ((N + k : Nat) : Int)) := by omega
                obtain ⟨hz1, b0, b1, b2⟩ := hz.out
                have hzu := hz1.up (bl1 wr (.cells #[.int .u64 (vn : Nat), .int .i64 vp, .int .u16 (vs : Nat)] 34))
                obtain ⟨colz, Az, hGz, hrz, _⟩ := hzu
                have hhz : (wr.alloc (.cells #[.int .u64 (vn : Nat), .int .i64 vp, .int .u16 (vs : Nat)] 34)).heap[wr.heap.size]? = some (.cells #[.int .u64 (vn : Nat), .int .i64 vp, .int .u16 (vs : Nat)] 34 (0, 0)) := heap_alloc_new _ _
                have hal : all.length ≤ 1000000 := by
                  rw [HAL.out.2]
                  have h9 : ∀ m, m ≤ n → (allV g m).length ≤ m * 200 := fun m => by
                    induction m with
                    | zero => intro _; simp [allV]
                    | succ m ih => intro hm; rw [allV_succ, List.length_append]; have := ih (by omega); have := HI.out.2 m; omega
                  have := h9 i (by omega)
                  have := HNL.out
                  omega
                obtain ⟨v9, w9, hrun9, hrow9, hgr9, hat9⟩ := row_append und71 info34 rfl (by decide) (by decide) hrz (From.one hhz (news := vcells ((vn, vp), vs)) rfl 1 (m := 1)) rfl (vcells_one _) (by omega) (Nat.succ_le_of_lt (hGz.hB 0 hGz.hB1)) 71
                obtain ⟨ao9, cap9, rfl, _⟩ := own_slice hrow9
                have h9 : Vw w (Old w) n gq g (.slice ao9 (all.length + 1) cap9) (all ++ [((vn, vp), vs)]) (some (lx, (vn, vp))) w9 := (hz1.up (bl1 wr _)).more hgr9 hrow9 hat9
                have HR9 : Hid ((Builtin.append_ #[71, 71] 71 #[.slice o (N + k) c, .slice (some ⟨wr.heap.size, 0, none⟩) 1 1]).run Tryd.prog (wr.alloc (.cells #[.int .u64 (vn : Nat), .int .i64 vp, .int .u16 (vs : Nat)] 34)) = .ok (.slice ao9 (N + (k + 1)) cap9) w9) := by
                  have e := HAL.out.2
                  rw [e] at hrun9
                  exact hrun9
                have H9 : Hid (Vw w (Old w) n gq g (.slice ao9 (N + (k + 1)) cap9) (allV g i ++ (g.views i).take (k + 1)) (some (lx, lastV (g.views i) (k + 1))) w9) := by
                  have e := HAL.out.2
                  rw [e] at h9
                  rw [HNX.out.1, HNX.out.2, ← List.append_assoc, HAL.out.1]
                  exact h9
                obtain ⟨NK, hNK⟩ : ∃ NK, N + (k + 1) = NK := ⟨_, rfl⟩
                have HNK : Hid (N + (k + 1) = NK) := hNK
                rw [hNK] at HR9 H9
                clear hz hz1 hGz hrz hhz hal hrun9 hrow9 hgr9 hat9 h9 hNK
                go_wp2_with (at_builtin; refine wpList_append_run rfl _ _ 71 71 rfl (.slice o (N + k) c) (.slice (some ⟨wr.heap.size, 0, none⟩) 1 1) (.slice ao9 NK cap9) w9 rfl rfl HR9.out ?_)
                go_roundw
                case rel => exact ⟨k + 1, ao9, cap9, _, _, by omega, by go_num, by rw [← HNK.out], rfl, rfl, by rw [HNK.out]; exact H9⟩
                case measure => simp [intOf]; omega
          · obtain rfl : k = M := by omega
            have hkI : ¬ ((k : Int) < (k : Int)) := by omega
            have HEQ : Hid (lastV (g.views i) k = (g.ms i).cur ∧ vle (g.ms i).cur (g.ms i).prom) := ⟨by rw [cur_last HI.out.1 hlt, HML.out], (HI.out.1.mi i hlt).cp⟩
            have HN : Hid (Vw w (Old w) n gq g (.slice o (N + k) c) (allV g (i + 1)) none wr ∧ (allV g (i + 1)).length = N + k) := by
              have e : allV g i ++ (g.views i).take k = allV g (i + 1) := by rw [allV_succ, ← HML.out, List.take_length]
              refine ⟨?_, by rw [allV_succ, List.length_append, HNL.out, HML.out]⟩
              have := hw.out.forget
              rw [e] at this
              exact this
            rw [HEQ.out.1] at l0 l1
            have hcu := cur_any (hG.drew.mb i hlt)
            unfold vw at hcu
            have hpr := fun W (u : Below wr.drew.heap.size wr.drew W) => prom_any ((hG.drew.up u).mb i hlt)
            have hcmp := fun W => refCompare_any W (g.ms i).prom.1 (g.ms i).prom.2 (g.ms i).cur.1 (g.ms i).cur.2
            have hcge : Hid (¬ cmpV (g.ms i).prom.1 (g.ms i).prom.2 (g.ms i).cur.1 (g.ms i).cur.2 < 0) := cmpV_ge HEQ.out.2
            have vq := fun W => vid_equal (g.ms i).cur.1 (g.ms i).cur.2 (g.ms i).cur.1 (g.ms i).cur.2 W
            simp only [and_self, decide_true] at vq
            have q34 := fun W => field34_0 ((g.ms i).cur.1 : Nat) (g.ms i).cur.2 ((g.ms i).cset : Nat) W
            have hS : wr.drew.cell? ⟨gq, 1, none⟩ = some (.slice (some ⟨lb, 0, none⟩) n lc) ∧ wr.drew.cell? ⟨lb, i, none⟩ = some (.pointer (some ⟨A.qs i, 0, none⟩)) ∧ wr.drew.cell? ⟨lx, 0, none⟩ = some (.int .u64 ((g.ms i).cur.1 : Nat)) ∧ wr.drew.cell? ⟨lx, 1, none⟩ = some (.int .i64 (g.ms i).cur.2) := ⟨d1, dl, l0, l1⟩
            unfold vid at hcmp hpr
            generalize cmpV (g.ms i).prom.1 (g.ms i).prom.2 (g.ms i).cur.1 (g.ms i).cur.2 = cv at *
            generalize (g.ms i).cur.1 = cn at *
            generalize (g.ms i).cur.2 = cp at *
            generalize (g.ms i).prom.1 = pn at *
            generalize (g.ms i).prom.2 = pp at *
            generalize (g.ms i).cset = cs at *
            have hcg := hcge.out
            clear hG hrow hav hlast hvr hw l0 l1 d1 dl lf hlxa HEQ
            go_wp2_with fail
            refine wp_region_noPanic ?_
            refine wp_region_held_drew (S := fun wx => wx.cell? ⟨gq, 1, none⟩ = some (.slice (some ⟨lb, 0, none⟩) n lc) ∧ wx.cell? ⟨lb, i, none⟩ = some (.pointer (some ⟨A.qs i, 0, none⟩)) ∧ wx.cell? ⟨lx, 0, none⟩ = some (.int .u64 (cn : Nat)) ∧ wx.cell? ⟨lx, 1, none⟩ = some (.int .i64 cp)) (by kernel_rfl) hS (fun hHeld => ?_)
            refine tk 0 rfl (Or.inl ⟨by rfl, by intro wx hSw; obtain ⟨a1, a2, a3, a4⟩ := hSw; go_simp; try with_reducible rfl⟩) ?_
            refine tk 1 rfl (Or.inl ⟨by rfl, by intro wx hSw; obtain ⟨a1, a2, a3, a4⟩ := hSw; go_simp; try with_reducible rfl⟩) ?_
            refine tk 2 rfl (Or.inl ⟨by rfl, by intro wx hSw; obtain ⟨a1, a2, a3, a4⟩ := hSw; go_simp; try with_reducible rfl⟩) ?_
            refine tk 3 rfl (Or.inl ⟨by rfl, by intro wx hSw; obtain ⟨a1, a2, a3, a4⟩ := hSw; go_simp; try with_reducible rfl⟩) ?_
            refine tk 4 rfl (Or.inl ⟨by rfl, by intro wx hSw; obtain ⟨a1, a2, a3, a4⟩ := hSw; go_simp; try with_reducible rfl⟩) ?_
            refine tk 5 rfl (Or.inl ⟨by rfl, by intro wx hSw; obtain ⟨a1, a2, a3, a4⟩ := hSw; go_simp; try with_reducible rfl⟩) ?_
            refine tk 6 rfl (Or.inl ⟨by rfl, by intro wx hSw; obtain ⟨a1, a2, a3, a4⟩ := hSw; go_simp; try with_reducible rfl⟩) ?_
            refine tk 9 rfl (Or.inl ⟨by rfl, by intro wx hSw; obtain ⟨a1, a2, a3, a4⟩ := hSw; go_simp; try with_reducible rfl⟩) ?_
            refine comes_up 7 rfl (by kernel_rfl) (fun K hK => ?_)
            go_simp
            refine hcu.mono ?_
            rintro e w3 ⟨rfl, u3⟩
            have hS3 : w3.cell? ⟨gq, 1, none⟩ = some (.slice (some ⟨lb, 0, none⟩) n lc) ∧ w3.cell? ⟨lb, i, none⟩ = some (.pointer (some ⟨A.qs i, 0, none⟩)) ∧ w3.cell? ⟨lx, 0, none⟩ = some (.int .u64 (cn : Nat)) ∧ w3.cell? ⟨lx, 1, none⟩ = some (.int .i64 cp) := ⟨u3.cell hS.1, u3.cell hS.2.1, u3.cell hS.2.2.1, u3.cell hS.2.2.2⟩
            have hpr3 := hpr w3 u3.bl
            clear hcu hpr
            go_wp2_with fail
            refine hK.out _ _ hS3 (fun hHeld => ?_)
            clear hK K
            (try simp only [Act.put, List.setIfInBounds_toArray, List.set_cons_zero, List.set_cons_succ])
            refine tk 8 rfl (Or.inl ⟨by rfl, by intro wx hSw; obtain ⟨a1, a2, a3, a4⟩ := hSw; go_simp; try with_reducible rfl⟩) ?_
            refine tk 10 rfl (Or.inl ⟨by rfl, by intro wx hSw; obtain ⟨a1, a2, a3, a4⟩ := hSw; go_simp; try with_reducible rfl⟩) ?_
            refine tk 11 rfl (Or.inl ⟨by rfl, by intro wx hSw; obtain ⟨a1, a2, a3, a4⟩ := hSw; go_simp; try with_reducible rfl⟩) ?_
            refine tk 12 rfl (Or.inl ⟨by rfl, by intro wx hSw; obtain ⟨a1, a2, a3, a4⟩ := hSw; go_simp; try with_reducible rfl⟩) ?_
            refine tk 13 rfl (Or.inl ⟨by rfl, by intro wx hSw; obtain ⟨a1, a2, a3, a4⟩ := hSw; go_simp; try with_reducible rfl⟩) ?_
            refine tk 14 rfl (Or.inl ⟨by rfl, by intro wx hSw; obtain ⟨a1, a2, a3, a4⟩ := hSw; go_simp; try with_reducible rfl⟩) ?_
            refine tk 15 rfl (Or.inl ⟨by rfl, by intro wx hSw; obtain ⟨a1, a2, a3, a4⟩ := hSw; go_simp; try with_reducible rfl⟩) ?_
            refine tk 16 rfl (Or.inl ⟨by rfl, by intro wx hSw; obtain ⟨a1, a2, a3, a4⟩ := hSw; go_simp; try with_reducible rfl⟩) ?_
            refine tk 17 rfl (Or.inl ⟨by rfl, by intro wx hSw; obtain ⟨a1, a2, a3, a4⟩ := hSw; go_simp; try with_reducible rfl⟩) ?_
            refine tk 18 rfl (Or.inl ⟨by rfl, by intro wx hSw; obtain ⟨a1, a2, a3, a4⟩ := hSw; go_simp; try with_reducible rfl⟩) ?_
            refine tk 20 rfl (Or.inl ⟨by rfl, by intro wx hSw; obtain ⟨a1, a2, a3, a4⟩ := hSw; go_simp; try with_reducible rfl⟩) ?_
            refine comes_up 19 rfl (by kernel_rfl) (fun K hK => ?_)
            go_simp
            refine hpr3.mono ?_
            rintro e w4 ⟨rfl, u4⟩
            have hS4 : w4.cell? ⟨gq, 1, none⟩ = some (.slice (some ⟨lb, 0, none⟩) n lc) ∧ w4.cell? ⟨lb, i, none⟩ = some (.pointer (some ⟨A.qs i, 0, none⟩)) ∧ w4.cell? ⟨lx, 0, none⟩ = some (.int .u64 (cn : Nat)) ∧ w4.cell? ⟨lx, 1, none⟩ = some (.int .i64 cp) := ⟨u4.cell hS3.1, u4.cell hS3.2.1, u4.cell hS3.2.2.1, u4.cell hS3.2.2.2⟩
            clear hpr3
            go_wp2_with fail
            refine hK.out _ _ hS4 (fun hHeld => ?_)
            clear hK K
            (try simp only [Act.put, List.setIfInBounds_toArray, List.set_cons_zero, List.set_cons_succ])
            refine comes_up 21 rfl (by kernel_rfl) (fun K hK => ?_)
            go_simp
            refine (hcmp _).mono ?_
            rintro e w5 ⟨rfl, u5⟩
            have hS5 : w5.cell? ⟨gq, 1, none⟩ = some (.slice (some ⟨lb, 0, none⟩) n lc) ∧ w5.cell? ⟨lb, i, none⟩ = some (.pointer (some ⟨A.qs i, 0, none⟩)) ∧ w5.cell? ⟨lx, 0, none⟩ = some (.int .u64 (cn : Nat)) ∧ w5.cell? ⟨lx, 1, none⟩ = some (.int .i64 cp) := ⟨u5.cell hS4.1, u5.cell hS4.2.1, u5.cell hS4.2.2.1, u5.cell hS4.2.2.2⟩
            have HN5 : Hid (Vw w (Old w) n gq g (.slice o (N + k) c) (allV g (i + 1)) none w5 ∧ (allV g (i + 1)).length = N + k) := ⟨(((HN.out.1.drew).up u3.bl).up u4.bl).up u5.bl, HN.out.2⟩
            clear hcmp u3 u4 u5 HN
            go_wp2_with fail
            refine hK.out _ _ hS5 (fun hHeld => ?_)
            clear hK K
            (try simp only [Act.put, List.setIfInBounds_toArray, List.set_cons_zero, List.set_cons_succ])
            refine tk 22 rfl (Or.inl ⟨by rfl, by intro wx hSw; obtain ⟨a1, a2, a3, a4⟩ := hSw; go_simp; try with_reducible rfl⟩) ?_
            refine tk 23 rfl (Or.inl ⟨by rfl, by intro wx hSw; obtain ⟨a1, a2, a3, a4⟩ := hSw; go_simp; try with_reducible rfl⟩) ?_
            refine wpAnyH_done (by kernel_rfl) ?_ _
            refine NoPanic.normal ?_
            clear hHeld hS hS3 hS4 hS5 vq q34
            go_wp2_with fail
            go_roundw
            case rel => exact ⟨i + 1, o, c, _, _, _, _, by omega, by go_num, by rw [HN5.out.2], rfl, rfl, rfl, rfl, by rw [HN5.out.2]; exact HN5.out.1⟩
            case measure => simp [intOf]; omega
      · obtain rfl : i = n := by omega
        have hltI : ¬ ((i : Int) < (i : Int)) := by omega
        have HB : Hid (Below w.heap.size w wr) := by obtain ⟨_, _, hG, _⟩ := hw.out; exact hG.bel.below
        clear hw
        go_wp2_with fail
        go_ret
        exact ⟨rfl, HB.out⟩
end Go.Proofs.YtlonbbepoamnmaaDoor
