/-
  Package total's settle: when the last of the view tells, all go on from one order.
-/
import Derived.Test.YtlaihgdfedalmaaGreatTConf
import Derived.Test.YtlaihgdfedalmaaGreatMix3
import Derived.Test.YtlaihgdfedalmaaGreatTView
namespace Go.Proofs.YtlaihgdfedalmaaGreat
open Go.RowKit Go.Sort Go.Conc
set_option linter.unusedVariables false
set_option linter.unusedSimpArgs false

/-- What nodes told, out of a row. -/
theorem tl_rw {w : World} {p : Nat → Prop} {vt : Value} {els : List El} (ho : Rw w 120 6 vt els.length (f6 els)) (hf : ∀ x ∈ els, Fx p w x) : ∃ ta tc, vt = .slice ta els.length tc ∧ TL (fun _ => True) w ta els.length (els.map (·.1)) := by
  obtain ⟨hl, h1, ao, cap, rfl, hm, hcase⟩ := ho
  have hcm : els.length ≤ 9223372036854775807 := by unfold maxLen at hm; omega
  rcases hcase with ⟨h0, hz, rfl⟩ | ⟨b, off, N, f, rfl, hr, hN, hnc, hc⟩
  · exact ⟨ao, _, rfl, by simp, hcm, fun hn => by omega⟩
  · refine ⟨_, _, rfl, by simp, hcm, fun hn => ⟨b, off, rfl, trivial, fun j t hj => ?_⟩⟩
    rw [List.getElem?_map] at hj
    obtain ⟨x, hx, rfl⟩ := Option.map_eq_some_iff.1 hj
    have hcell : ∀ i, i < 6 → w.cell? ⟨b, off + j * 6 + i, none⟩ = (c6 x)[i]? := fun i hi => by
      have e := f6_get els j x i hx hi
      have hlt : i < (c6 x).length := by simpa [c6, c5] using hi
      rw [List.getElem?_eq_getElem hlt] at e ⊢
      have hlt2 := (List.getElem?_eq_some_iff.1 e).1
      have h6 : els.length * 6 ≤ cap * 6 := Nat.mul_le_mul_right _ hnc
      have := hc (6 * j + i) _ e
      rw [show off + j * 6 + i = off + (6 * j + i) by omega, hr.cell (by omega), this]
    obtain ⟨f1, f2, f3, f4, f5⟩ := hf x (List.mem_of_getElem? hx)
    exact ⟨hcell 0 (by omega), x.2.1.1, x.2.1.2, x.2.2.1, x.2.2.2, ⟨hcell 1 (by omega), hcell 2 (by omega), hcell 3 (by omega), hcell 4 (by omega), hcell 5 (by omega)⟩, f1.mono (fun _ _ => trivial), f2, fun _ _ _ => trivial, f4, f5⟩
/-- Bounds on what was told. -/
structure Tb (ts : List Pt) : Prop where
  al : (allT ts).length ≤ 5000
  am : ∀ e ∈ allT ts, e.2.length ≤ 140737488355328
  ao : ∀ e ∈ allT ts, OkL e.1
  ll : ∀ t ∈ ts, t.ls.length ≤ 5000
  lo : ∀ t ∈ ts, ∀ x ∈ t.ls, OkL x
theorem full_len {ts : List Pt} (h : Tb ts) : (fullT ts).length ≤ 10000 := by
  have h1 := short_len h.ll
  have h2 := out_le (shortT ts) ((knownT ts).map (·.1))
  have h3 : (knownT ts).length ≤ (allT ts).length := by have := mergeE_len (allT ts) []; unfold knownT; simpa using this
  have h4 := h.al
  unfold fullT
  rw [List.length_append]
  rw [List.length_map] at h2
  omega
theorem full_ok {ts : List Pt} (h : Tb ts) : ∀ x ∈ fullT ts, OkL x := fun x hx => by
  unfold fullT at hx
  rcases List.mem_append.1 hx with hx | hx
  · exact short_mem h.lo x hx
  · unfold out at hx
    obtain ⟨e, he, rfl⟩ := List.mem_map.1 (List.mem_filter.1 hx).1
    rcases mergeE_mem _ _ e he with h' | h'
    · simp at h'
    · exact h.ao e h'
/-- The view's order is there: the node goes on. -/
def Tot.settled (T : Tot) : Tot :=
  if T.prim then { T with nx := nxT T.told, ord := fullT T.told, hn := T.vn, hp := T.vp, st := 2, K := T.K + (fullT T.told).length }
  else { T with nx := nxT T.told, ord := shortT T.told, hn := (highT T.told).1, hp := (highT T.told).2, st := 2, K := T.K + (shortT T.told).length }
def Tot.settle (T : Tot) : Tot := if T.st = 1 ∧ cntF 16 T.vs ≤ T.told.length then T.settled else T
section
variable {w : World} {col : Nat → Nat} {Z : Nat → Prop} {q : Nat} {T : Tot} {a : Ta}
theorem Tt.setHi (h : Tt w col Z q T a) (n : Nat) (p : Int) : Tt ((w.setCell ⟨q, 15, none⟩ (.int .u64 (n : Nat))).setCell ⟨q, 16, none⟩ (.int .i64 p)) col Z q { T with hn := n, hp := p } a := by
  have h1 := h.setc (T' := { T with hn := n }) (a' := a) 15 (.int .u64 (n : Nat)) (fun j hj => by unfold tcell; split <;> simp_all) (by omega) (fun W d => ⟨d.ch, d.con, d.am, d.sa, d.bu, d.od, d.tl, d.cc, d.ccb, d.cab, d.csb, d.cbv, d.cov, d.ctv, d.lt, d.zf, d.zl⟩)
  exact h1.setc (T' := { T with hn := n, hp := p }) (a' := a) 16 (.int .i64 p) (fun j hj => by unfold tcell; split <;> simp_all) (by omega) (fun W d => ⟨d.ch, d.con, d.am, d.sa, d.bu, d.od, d.tl, d.cc, d.ccb, d.cab, d.csb, d.cbv, d.cov, d.ctv, d.lt, d.zf, d.zl⟩)
theorem Tt.setSt (h : Tt w col Z q T a) (s : Nat) : Tt (w.setCell ⟨q, 7, none⟩ (.int .u8 (s : Nat))) col Z q { T with st := s } a :=
  h.setc 7 _ (fun j hj => by unfold tcell; split <;> simp_all) (by omega) (fun W d => ⟨d.ch, d.con, d.am, d.sa, d.bu, d.od, d.tl, d.cc, d.ccb, d.cab, d.csb, d.cbv, d.cov, d.ctv, d.lt, d.zf, d.zl⟩)
theorem Tt.there (h : Tt w col Z q T a) (o n : Nat) (hn : o + n ≤ 20) : w.there q o n := fun j hj => ⟨by rw [h.cell (o + j) (by omega)]; rfl, h.fr _⟩
theorem Tt.tolds (h : Tt w col Z q T a) : ∃ ta tc, a.tv = .slice ta T.told.length tc ∧ TL (fun _ => True) w ta T.told.length T.told := by
  obtain ⟨xs, h1, h2, h3⟩ := h.d.tl
  have hl : T.told.length = xs.length := by rw [← h1]; simp
  rw [hl] at h2 ⊢
  obtain ⟨ta, tc, e1, e2⟩ := tl_rw h2 h3
  rw [h1] at e2
  exact ⟨ta, tc, e1, e2⟩
/-- A new line of labels is laid into the node. -/
theorem Tt.line (h : Tt w col Z q T a) {w3 w4 : World} {v : Value} {n m : Nat} {ls S' : List Lb} (hv : w3.ownsRow w.heap.size 39 4 v n (flat ls)) (hn : n = ls.length) (u3 : Below w.heap.size w w3) (u4 : Below w3.heap.size w3 w4) (hm : w3.heap.size ≤ m) (hS : Q.SetIs w4 m n S') (hS' : ∀ x, x ∈ S' ↔ x ∈ ls) (hK : n ≤ 10000) :
    Tt ((w4.setCell ⟨q, 11, none⟩ v).setCell ⟨q, 12, none⟩ (.map (some m))) (ocol col a.ab m a.ov v) Z q { T with ord := ls, K := T.K + ls.length } { a with ov := v, ab := m } ∧ Gt w col ((w4.setCell ⟨q, 11, none⟩ v).setCell ⟨q, 12, none⟩ (.map (some m))) (ocol col a.ab m a.ov v) := by
  subst hn
  have hl := hv.lt
  have hR := (rw_of_own (fun x hx => flat_one hx) hv).1
  exact h.newO (bl_step u3 u4) (Nat.le_add_right _ _) (Nat.le_trans u3.size hm) (set_mono hS (Nat.le_add_left _ _)) hS' v (hR.frame (fun k e => u4.block k (hl k e).2)) (fun k e => ⟨(hl k e).1, by have := (hl k e).2; omega⟩)
end
def S3s (q : Nat) (v7 v17 v6 : Value) (W : World) : Prop := W.cell? ⟨q, 7, none⟩ = some v7 ∧ W.cell? ⟨q, 17, none⟩ = some v17 ∧ W.cell? ⟨q, 6, none⟩ = some v6
set_option maxRecDepth 10000 in
set_option maxHeartbeats 2000000 in
theorem settle_idle (w : World) (q s : Nat) (hs : s ≠ 1) (v17 v6 : Value) (h : S3s q (.int .u8 (s : Nat)) v17 v6 w) : Calls Tryz.prog 101 #[.pointer (some ⟨q, 0, none⟩)] w fun e w' => e = .returned (.tuple #[]) ∧ w' = w.drew := by
  have hs0 : S3s q (.int .u8 (s : Nat)) v17 v6 w.drew := h
  have e1 : ((s : Int) != 1) = true := by simp; omega
  clear h
  go_enter Tryz.func101, Tryz.ntmps101
  go_wp2_with fail
  refine wp_region_noPanic ?_
  refine wp_region_held_drew (S := S3s q (.int .u8 (s : Nat)) v17 v6) (by kernel_rfl) (hs0) (fun hHeld => ?_)
  unfold S3s at hHeld
  refine tq 0 ?_
  refine tq 1 ?_
  refine tq 2 ?_
  refine tq 3 ?_
  refine tq 4 ?_
  refine tq 5 ?_
  refine tqS 6 ?_
  refine tqS 7 ?_
  refine tqS 8 ?_
  refine tqS 9 ?_
  refine tqS 10 ?_
  refine tqS 11 ?_
  refine tqS 12 ?_
  refine tqS 13 ?_
  refine tqS 14 ?_
  refine tqS 15 ?_
  refine tqS 16 ?_
  refine tqS 17 ?_
  refine tq 18 ?_
  refine wpAnyH_done (by kernel_rfl) ?_ _
  refine NoPanic.normal ?_
  clear hHeld hs0
  go_wp2
  refine bodyPost_ret (results_none rfl _ _ _) rfl ?_
  exact ⟨rfl, rfl⟩
set_option maxRecDepth 10000 in
set_option maxHeartbeats 2000000 in
theorem settle_few (w : World) (q n s : Nat) (ta : Option Addr) (tc : Nat) (hs : s < 65536) (hn : n < cntF 16 s) (h : S3s q (.int .u8 1) (.slice ta n tc) (.int .u16 (s : Nat)) w) : Calls Tryz.prog 101 #[.pointer (some ⟨q, 0, none⟩)] w fun e w' => e = .returned (.tuple #[]) ∧ ∃ k, w' = w.drewN k := by
  have hs0 : S3s q (.int .u8 1) (.slice ta n tc) (.int .u16 (s : Nat)) w.drew := h
  have hcn := count_any w.drew s hs
  obtain ⟨c, hc⟩ : ∃ c, cntF 16 s = c := ⟨_, rfl⟩
  rw [hc] at hcn hn
  have hlt : (n : Int) < (c : Int) := by omega
  clear h hc hs hn
  go_enter Tryz.func101, Tryz.ntmps101
  go_wp2_with fail
  refine wp_region_noPanic ?_
  refine wp_region_held_drew (S := S3s q (.int .u8 1) (.slice ta n tc) (.int .u16 (s : Nat))) (by kernel_rfl) (hs0) (fun hHeld => ?_)
  unfold S3s at hHeld
  refine tq 0 ?_
  refine tq 1 ?_
  refine tq 2 ?_
  refine tq 3 ?_
  refine tq 4 ?_
  refine tq 5 ?_
  refine tq 6 ?_
  refine tq 7 ?_
  refine tq 8 ?_
  refine tq 9 ?_
  refine tq 10 ?_
  refine tq 11 ?_
  refine tq 12 ?_
  refine tq 13 ?_
  refine tq 14 ?_
  refine tq 15 ?_
  refine comes_up 16 rfl (by kernel_rfl) (fun K hK => ?_)
  go_simp
  refine hcn.mono ?_
  rintro e w1 ⟨rfl, k, rfl⟩
  go_wp2_with fail
  refine hK.out _ _ ((show S3s q (.int .u8 1) (.slice ta n tc) (.int .u16 (s : Nat)) (w.drew.drewN k) from hs0)) (fun hHeld => ?_)
  clear hK K
  (try simp only [Act.put, List.setIfInBounds_toArray, List.set_cons_zero, List.set_cons_succ])
  refine tq 17 ?_
  refine tq 18 ?_
  refine wpAnyH_done (by kernel_rfl) ?_ _
  refine NoPanic.normal ?_
  clear hHeld hs0
  go_wp2
  refine bodyPost_ret (results_none rfl _ _ _) rfl ?_
  exact ⟨rfl, 1 + k, rfl⟩
theorem infoS33 : (Tryz.prog.info? 33).map (·.size) = some 2 := by kernel_rfl
set_option maxRecDepth 10000 in
set_option maxHeartbeats 4000000 in
theorem settle_prim {w : World} {col : Nat → Nat} {Z : Nat → Prop} {q : Nat} {T : Tot} {a : Ta} (h : Tt w col Z q T a) (hn : Tn T) (hb : Tb T.told) (hst : T.st = 1) (hle : cntF 16 T.vs ≤ T.told.length) (hp : T.prim = true) : Calls Tryz.prog 101 #[.pointer (some ⟨q, 0, none⟩)] w fun e w' => e = .returned (.tuple #[]) ∧ LabPost w col Z q T.settled w' := by
  obtain ⟨ta, tc, htv, hTL⟩ := h.tolds
  have h7 := h.cell 7 (by omega)
  have h17 := h.cell 17 (by omega)
  have h6 := h.cell 6 (by omega)
  simp only [tcell] at h7 h17 h6
  rw [htv] at h17
  rw [hst] at h7
  have hs0 : S3s q (.int .u8 1) (.slice ta T.told.length tc) (.int .u16 (T.vs : Nat)) w.drew := ⟨h7, h17, h6⟩
  have hcn := count_any w.drew T.vs hn.vs
  obtain ⟨c, hc⟩ : ∃ c, cntF 16 T.vs = c := ⟨_, rfl⟩
  rw [hc] at hcn hle
  have hlt : ¬ (T.told.length : Int) < (c : Int) := by omega
  have HT : Hid (Tt w col Z q T a ∧ Tn T ∧ Tb T.told ∧ T.prim = true ∧ a.tv = .slice ta T.told.length tc ∧ TL (fun _ => True) w ta T.told.length T.told) := ⟨h, hn, hb, hp, htv, hTL⟩
  have hR : T.settled = { T with nx := nxT T.told, ord := fullT T.told, hn := T.vn, hp := T.vp, st := 2, K := T.K + (fullT T.told).length } := by unfold Tot.settled; rw [if_pos hp]
  have HR : Hid (T.settled = { T with nx := nxT T.told, ord := fullT T.told, hn := T.vn, hp := T.vp, st := 2, K := T.K + (fullT T.told).length }) := hR
  clear h hn hb hp htv hTL hc hle h7 h17 h6 hst hR
  go_enter Tryz.func101, Tryz.ntmps101
  go_wp2_with fail
  refine wp_region_noPanic ?_
  refine wp_region_held_drew (S := S3s q (.int .u8 1) (.slice ta T.told.length tc) (.int .u16 (T.vs : Nat))) (by kernel_rfl) (hs0) (fun hHeld => ?_)
  unfold S3s at hHeld
  refine tq 0 ?_
  refine tq 1 ?_
  refine tq 2 ?_
  refine tq 3 ?_
  refine tq 4 ?_
  refine tq 5 ?_
  refine tq 6 ?_
  refine tq 7 ?_
  refine tq 8 ?_
  refine tq 9 ?_
  refine tq 10 ?_
  refine tq 11 ?_
  refine tq 12 ?_
  refine tq 13 ?_
  refine tq 14 ?_
  refine tq 15 ?_
  refine comes_up 16 rfl (by kernel_rfl) (fun K hK => ?_)
  go_simp
  refine hcn.mono ?_
  rintro e w1 ⟨rfl, k, rfl⟩
  go_wp2_with fail
  refine hK.out _ _ ((show S3s q (.int .u8 1) (.slice ta T.told.length tc) (.int .u16 (T.vs : Nat)) (w.drew.drewN k) from hs0)) (fun hHeld => ?_)
  clear hK K
  (try simp only [Act.put, List.setIfInBounds_toArray, List.set_cons_zero, List.set_cons_succ])
  refine tq 17 ?_
  refine tq 18 ?_
  refine wpAnyH_done (by kernel_rfl) ?_ _
  refine NoPanic.normal ?_
  clear hHeld hs0 hcn
  have u0 : Below w.heap.size w (w.drewN (1 + k)) := ⟨rfl, rfl, rfl, Nat.le_refl _, fun _ _ => rfl⟩
  generalize w.drewN (1 + k) = W0 at *
  have h0 := HT.out.1.still u0
  have c17 : W0.cell? ⟨q, 17, none⟩ = some (.slice ta T.told.length tc) := by have := h0.cell 17 (by omega); simp only [tcell, HT.out.2.2.2.2.1] at this; exact this
  have hnx := next_any _ W0 ta T.told.length tc T.told (HT.out.2.2.2.2.2.bl u0)
  have HU0 : Hid (Below w.heap.size w W0) := u0
  clear u0 h0
  go_wp2_with fail
  refine hnx.mono ?_
  rintro e W1 ⟨rfl, u1⟩
  have HU1 : Hid (Below w.heap.size w W1) := bl_step HU0.out u1
  clear hnx c17 u1 HU0
  have h1 := HT.out.1.still HU1.out
  have c13 := h1.cell 13 (by omega)
  have f13 := h1.fr 13
  simp only [tcell] at c13
  obtain ⟨W2, hW2⟩ : ∃ W2, W1.setCell ⟨q, 13, none⟩ (.int .i64 (nxT T.told)) = W2 := ⟨_, rfl⟩
  have HW2 : Hid (W1.setCell ⟨q, 13, none⟩ (.int .i64 (nxT T.told)) = W2) := hW2
  have h2 : Tt W2 col Z q { T with nx := nxT T.told } a := by rw [← hW2]; exact h1.setNx _
  have G2 : Gt w col W2 col := by rw [← hW2]; exact (Gt.bl col HU1.out).trans (Gt.set (by rw [h1.fq]; omega) _)
  have hpr := prim_any h2 ⟨HT.out.2.1.n, HT.out.2.1.self, HT.out.2.1.vn, HT.out.2.1.vp, HT.out.2.1.vs, HT.out.2.1.st, HT.out.2.1.K⟩
  have hpe : ({ T with nx := nxT T.told } : Tot).prim = true := HT.out.2.2.2.1
  rw [hpe] at hpr
  have H2 : Hid (Tt W2 col Z q { T with nx := nxT T.told } a ∧ Gt w col W2 col) := ⟨h2, G2⟩
  clear h1 hW2 h2 G2 hpe
  generalize nxT T.told = nx at *
  go_upto_region 2 with fail
  rw [HW2.out]
  clear c13 f13 HW2
  go_wp2_with fail
  refine hpr.mono ?_
  rintro e W3 ⟨rfl, k2, hk2⟩
  have u3 : Below W2.heap.size W2 W3 := by rw [hk2]; exact ⟨rfl, rfl, rfl, Nat.le_refl _, fun _ _ => rfl⟩
  have h3 := H2.out.1.still u3
  have G3 := H2.out.2.trans (Gt.bl col u3)
  clear hpr hk2
  have c17 : W3.cell? ⟨q, 17, none⟩ = some (.slice ta T.told.length tc) := by have := h3.cell 17 (by omega); simp only [tcell, HT.out.2.2.2.2.1] at this; exact this
  have hTL3 : TL (fun _ => True) W3 ta T.told.length T.told := by
    obtain ⟨ta', tc', e1, e2⟩ := h3.tolds
    have e3 := e1.symm.trans HT.out.2.2.2.2.1
    simp only [Value.slice.injEq] at e3
    rw [← e3.1]; exact e2
  have hb := HT.out.2.2.1
  have hfu := full_any _ W3 ta T.told.length tc T.told hTL3 hb.al hb.am hb.ao hb.ll hb.lo
  have H3 : Hid (Tt W3 col Z q { T with nx := nx } a ∧ Gt w col W3 col) := ⟨h3, G3⟩
  clear u3 h3 G3 H2 hTL3 hb
  go_wp2_with fail
  refine hfu.mono ?_
  rintro e W4 ⟨v4, rfl, ho4, u4⟩
  clear hfu c17
  obtain ⟨ao4, cap4, rfl, hL4, hz4⟩ := LR.own2 ho4
  have hnl := newLine_any W4 ao4 (fullT T.told).length cap4 (fullT T.told) hL4 (full_ok HT.out.2.2.1) (by have := full_len HT.out.2.2.1; omega)
  have H4 : Hid (W4.ownsRow W3.heap.size 39 4 (.slice ao4 (fullT T.told).length cap4) (fullT T.told).length (flat (fullT T.told)) ∧ Below W3.heap.size W3 W4) := ⟨ho4, u4⟩
  clear hL4 hz4 ho4 u4
  go_wp2_with fail
  refine hnl.mono ?_
  rintro e W5 ⟨m, S', rfl, hm, hS, hS', u5⟩
  clear hnl
  obtain ⟨h6, G6⟩ := H3.out.1.line H4.out.1 rfl H4.out.2 u5 hm hS hS' (by have := full_len HT.out.2.2.1; omega)
  have hth := ((H3.out.1.still H4.out.2).still u5).there 11 2 (by omega)
  obtain ⟨W6, hW6⟩ : ∃ W6, (W5.setCell ⟨q, 11, none⟩ (.slice ao4 (fullT T.told).length cap4)).setCell ⟨q, 12, none⟩ (.map (some m)) = W6 := ⟨_, rfl⟩
  have E6 : Hid (W5.setCells q 11 [.slice ao4 (fullT T.told).length cap4, .map (some m)] = W6) := hW6
  rw [hW6] at h6 G6
  have G6' := H3.out.2.trans G6
  have H6 : Hid (Tt W6 _ Z q _ _ ∧ Gt w col W6 _) := ⟨h6, G6'⟩
  clear hm hS hS' u5 hW6 G6 G6' h6 H3 H4
  have c4 := H6.out.1.cell 4 (by omega)
  have c5 := H6.out.1.cell 5 (by omega)
  simp only [tcell] at c4 c5
  have hth2 := H6.out.1.there 15 2 (by omega)
  have h7 := H6.out.1.setHi T.vn T.vp
  obtain ⟨W7, hW7⟩ : ∃ W7, (W6.setCell ⟨q, 15, none⟩ (.int .u64 (T.vn : Nat))).setCell ⟨q, 16, none⟩ (.int .i64 T.vp) = W7 := ⟨_, rfl⟩
  have E7 : Hid (W6.setCells q 15 [.int .u64 (T.vn : Nat), .int .i64 T.vp] = W7) := hW7
  rw [hW7] at h7
  have hc7 := h7.cell 7 (by omega)
  have hf7 := h7.fr 7
  simp only [tcell] at hc7
  have G7 := H6.out.2.trans ((Gt.set (k := 15) (by rw [H6.out.1.fq]; omega) (.int .u64 (T.vn : Nat))).trans (Gt.set (k := 16) (by rw [H6.out.1.fq]; omega) (.int .i64 T.vp)))
  rw [hW7] at G7
  have HF : Hid (LabPost w col Z q T.settled (W7.setCell ⟨q, 7, none⟩ (.int .u8 2))) := by
    rw [HR.out]
    exact ⟨_, _, h7.setSt 2, G7.trans (Gt.set (by rw [h7.fq]; omega) _)⟩
  clear h7 G7 hW7 H6 HR HT HU1
  go_wp2_with (first | (refine wpList_store_mid rfl 98 (.tmp 39) (.tmp 37) rfl q 11 #[.slice ao4 (fullT T.told).length cap4, .map (some m)] rfl rfl hth infoS98 (by simp [Value.oneCell']) ?_; rw [show (#[.slice ao4 (fullT T.told).length cap4, .map (some m)] : Array Value).toList = [.slice ao4 (fullT T.told).length cap4, .map (some m)] from rfl, E6.out]) | (refine wpList_store_mid rfl 33 (.tmp 47) (.tmp 45) rfl q 15 #[.int .u64 (T.vn : Nat), .int .i64 T.vp] rfl rfl hth2 infoS33 (by simp [Value.oneCell']) ?_; rw [show (#[.int .u64 (T.vn : Nat), .int .i64 T.vp] : Array Value).toList = [.int .u64 (T.vn : Nat), .int .i64 T.vp] from rfl, E7.out]))
  go_end0
  exact ⟨rfl, HF.out⟩
set_option maxRecDepth 10000 in
set_option maxHeartbeats 4000000 in
theorem settle_not {w : World} {col : Nat → Nat} {Z : Nat → Prop} {q : Nat} {T : Tot} {a : Ta} (h : Tt w col Z q T a) (hn : Tn T) (hb : Tb T.told) (hst : T.st = 1) (hle : cntF 16 T.vs ≤ T.told.length) (hp : T.prim = false) : Calls Tryz.prog 101 #[.pointer (some ⟨q, 0, none⟩)] w fun e w' => e = .returned (.tuple #[]) ∧ LabPost w col Z q T.settled w' := by
  obtain ⟨ta, tc, htv, hTL⟩ := h.tolds
  have h7 := h.cell 7 (by omega)
  have h17 := h.cell 17 (by omega)
  have h6 := h.cell 6 (by omega)
  simp only [tcell] at h7 h17 h6
  rw [htv] at h17
  rw [hst] at h7
  have hs0 : S3s q (.int .u8 1) (.slice ta T.told.length tc) (.int .u16 (T.vs : Nat)) w.drew := ⟨h7, h17, h6⟩
  have hcn := count_any w.drew T.vs hn.vs
  obtain ⟨c, hc⟩ : ∃ c, cntF 16 T.vs = c := ⟨_, rfl⟩
  rw [hc] at hcn hle
  have hlt : ¬ (T.told.length : Int) < (c : Int) := by omega
  have HT : Hid (Tt w col Z q T a ∧ Tn T ∧ Tb T.told ∧ T.prim = false ∧ a.tv = .slice ta T.told.length tc ∧ TL (fun _ => True) w ta T.told.length T.told) := ⟨h, hn, hb, hp, htv, hTL⟩
  have hR : T.settled = { T with nx := nxT T.told, ord := shortT T.told, hn := (highT T.told).1, hp := (highT T.told).2, st := 2, K := T.K + (shortT T.told).length } := by unfold Tot.settled; rw [if_neg (by rw [hp]; simp)]
  have HR : Hid (T.settled = { T with nx := nxT T.told, ord := shortT T.told, hn := (highT T.told).1, hp := (highT T.told).2, st := 2, K := T.K + (shortT T.told).length }) := hR
  clear h hn hb hp htv hTL hc hle h7 h17 h6 hst hR
  go_enter Tryz.func101, Tryz.ntmps101
  go_wp2_with fail
  refine wp_region_noPanic ?_
  refine wp_region_held_drew (S := S3s q (.int .u8 1) (.slice ta T.told.length tc) (.int .u16 (T.vs : Nat))) (by kernel_rfl) (hs0) (fun hHeld => ?_)
  unfold S3s at hHeld
  refine tq 0 ?_
  refine tq 1 ?_
  refine tq 2 ?_
  refine tq 3 ?_
  refine tq 4 ?_
  refine tq 5 ?_
  refine tq 6 ?_
  refine tq 7 ?_
  refine tq 8 ?_
  refine tq 9 ?_
  refine tq 10 ?_
  refine tq 11 ?_
  refine tq 12 ?_
  refine tq 13 ?_
  refine tq 14 ?_
  refine tq 15 ?_
  refine comes_up 16 rfl (by kernel_rfl) (fun K hK => ?_)
  go_simp
  refine hcn.mono ?_
  rintro e w1 ⟨rfl, k, rfl⟩
  go_wp2_with fail
  refine hK.out _ _ ((show S3s q (.int .u8 1) (.slice ta T.told.length tc) (.int .u16 (T.vs : Nat)) (w.drew.drewN k) from hs0)) (fun hHeld => ?_)
  clear hK K
  (try simp only [Act.put, List.setIfInBounds_toArray, List.set_cons_zero, List.set_cons_succ])
  refine tq 17 ?_
  refine tq 18 ?_
  refine wpAnyH_done (by kernel_rfl) ?_ _
  refine NoPanic.normal ?_
  clear hHeld hs0 hcn
  have u0 : Below w.heap.size w (w.drewN (1 + k)) := ⟨rfl, rfl, rfl, Nat.le_refl _, fun _ _ => rfl⟩
  generalize w.drewN (1 + k) = W0 at *
  have h0 := HT.out.1.still u0
  have c17 : W0.cell? ⟨q, 17, none⟩ = some (.slice ta T.told.length tc) := by have := h0.cell 17 (by omega); simp only [tcell, HT.out.2.2.2.2.1] at this; exact this
  have hnx := next_any _ W0 ta T.told.length tc T.told (HT.out.2.2.2.2.2.bl u0)
  have HU0 : Hid (Below w.heap.size w W0) := u0
  clear u0 h0
  go_wp2_with fail
  refine hnx.mono ?_
  rintro e W1 ⟨rfl, u1⟩
  have HU1 : Hid (Below w.heap.size w W1) := bl_step HU0.out u1
  clear hnx c17 u1 HU0
  have h1 := HT.out.1.still HU1.out
  have c13 := h1.cell 13 (by omega)
  have f13 := h1.fr 13
  simp only [tcell] at c13
  obtain ⟨W2, hW2⟩ : ∃ W2, W1.setCell ⟨q, 13, none⟩ (.int .i64 (nxT T.told)) = W2 := ⟨_, rfl⟩
  have HW2 : Hid (W1.setCell ⟨q, 13, none⟩ (.int .i64 (nxT T.told)) = W2) := hW2
  have h2 : Tt W2 col Z q { T with nx := nxT T.told } a := by rw [← hW2]; exact h1.setNx _
  have G2 : Gt w col W2 col := by rw [← hW2]; exact (Gt.bl col HU1.out).trans (Gt.set (by rw [h1.fq]; omega) _)
  have hpr := prim_any h2 ⟨HT.out.2.1.n, HT.out.2.1.self, HT.out.2.1.vn, HT.out.2.1.vp, HT.out.2.1.vs, HT.out.2.1.st, HT.out.2.1.K⟩
  have hpe : ({ T with nx := nxT T.told } : Tot).prim = false := HT.out.2.2.2.1
  rw [hpe] at hpr
  have H2 : Hid (Tt W2 col Z q { T with nx := nxT T.told } a ∧ Gt w col W2 col) := ⟨h2, G2⟩
  clear h1 hW2 h2 G2 hpe
  generalize nxT T.told = nx at *
  go_upto_region 2 with fail
  rw [HW2.out]
  clear c13 f13 HW2
  go_wp2_with fail
  refine hpr.mono ?_
  rintro e W3 ⟨rfl, k2, hk2⟩
  have u3 : Below W2.heap.size W2 W3 := by rw [hk2]; exact ⟨rfl, rfl, rfl, Nat.le_refl _, fun _ _ => rfl⟩
  have h3 := H2.out.1.still u3
  have G3 := H2.out.2.trans (Gt.bl col u3)
  clear hpr hk2
  have c17 : W3.cell? ⟨q, 17, none⟩ = some (.slice ta T.told.length tc) := by have := h3.cell 17 (by omega); simp only [tcell, HT.out.2.2.2.2.1] at this; exact this
  have hTL3 : TL (fun _ => True) W3 ta T.told.length T.told := by
    obtain ⟨ta', tc', e1, e2⟩ := h3.tolds
    have e3 := e1.symm.trans HT.out.2.2.2.2.1
    simp only [Value.slice.injEq] at e3
    rw [← e3.1]; exact e2
  have hb := HT.out.2.2.1
  have hfu := short_any _ W3 ta T.told.length tc T.told hTL3 hb.ll
  have H3 : Hid (Tt W3 col Z q { T with nx := nx } a ∧ Gt w col W3 col) := ⟨h3, G3⟩
  clear u3 h3 G3 H2 hTL3 hb
  go_wp2_with fail
  refine hfu.mono ?_
  rintro e W4 ⟨v4, rfl, ho4, u4⟩
  clear hfu c17
  obtain ⟨ao4, cap4, rfl, hL4, hz4⟩ := LR.own2 ho4
  have hnl := newLine_any W4 ao4 (shortT T.told).length cap4 (shortT T.told) hL4 (short_mem HT.out.2.2.1.lo) (by have := short_len HT.out.2.2.1.ll; omega)
  have H4 : Hid (W4.ownsRow W3.heap.size 39 4 (.slice ao4 (shortT T.told).length cap4) (shortT T.told).length (flat (shortT T.told)) ∧ Below W3.heap.size W3 W4) := ⟨ho4, u4⟩
  clear hL4 hz4 ho4 u4
  go_wp2_with fail
  refine hnl.mono ?_
  rintro e W5 ⟨m, S', rfl, hm, hS, hS', u5⟩
  clear hnl
  obtain ⟨h6, G6⟩ := H3.out.1.line H4.out.1 rfl H4.out.2 u5 hm hS hS' (by have := short_len HT.out.2.2.1.ll; omega)
  have hth := ((H3.out.1.still H4.out.2).still u5).there 11 2 (by omega)
  obtain ⟨W6, hW6⟩ : ∃ W6, (W5.setCell ⟨q, 11, none⟩ (.slice ao4 (shortT T.told).length cap4)).setCell ⟨q, 12, none⟩ (.map (some m)) = W6 := ⟨_, rfl⟩
  have E6 : Hid (W5.setCells q 11 [.slice ao4 (shortT T.told).length cap4, .map (some m)] = W6) := hW6
  rw [hW6] at h6 G6
  have G6' := H3.out.2.trans G6
  have H6 : Hid (Tt W6 _ Z q _ _ ∧ Gt w col W6 _) := ⟨h6, G6'⟩
  clear hm hS hS' u5 hW6 G6 G6' h6 H3 H4
  have c17 : W6.cell? ⟨q, 17, none⟩ = some (.slice ta T.told.length tc) := by have := H6.out.1.cell 17 (by omega); simp only [tcell, HT.out.2.2.2.2.1] at this; exact this
  have hTL6 : TL (fun _ => True) W6 ta T.told.length T.told := by
    obtain ⟨ta', tc', e1, e2⟩ := H6.out.1.tolds
    have e3 := e1.symm.trans HT.out.2.2.2.2.1
    simp only [Value.slice.injEq] at e3
    rw [← e3.1]; exact e2
  have hhi := high_any _ W6 ta T.told.length tc T.told hTL6
  obtain ⟨hn1, hhn1⟩ : ∃ n, (highT T.told).1 = n := ⟨_, rfl⟩
  obtain ⟨hp1, hhp1⟩ : ∃ n, (highT T.told).2 = n := ⟨_, rfl⟩
  rw [hhn1, hhp1] at hhi HR
  unfold vid at hhi
  clear hTL6 hhn1 hhp1
  go_wp2_with (refine wpList_store_mid rfl 98 (.tmp 56) (.tmp 54) rfl q 11 #[.slice ao4 (shortT T.told).length cap4, .map (some m)] rfl rfl hth infoS98 (by simp [Value.oneCell']) ?_; rw [show (#[.slice ao4 (shortT T.told).length cap4, .map (some m)] : Array Value).toList = [.slice ao4 (shortT T.told).length cap4, .map (some m)] from rfl, E6.out])
  refine hhi.mono ?_
  rintro e W7 ⟨rfl, u7'⟩
  have u7 : Below W6.heap.size W6 W7 := ⟨u7'.os, u7'.tape, u7'.output, u7'.size, u7'.block⟩
  clear hhi c17 hth E6 u7'
  have h7 := H6.out.1.still u7
  have hth2 := h7.there 15 2 (by omega)
  have h8 := h7.setHi hn1 hp1
  obtain ⟨W8, hW8⟩ : ∃ W8, (W7.setCell ⟨q, 15, none⟩ (.int .u64 (hn1 : Nat))).setCell ⟨q, 16, none⟩ (.int .i64 hp1) = W8 := ⟨_, rfl⟩
  have E8 : Hid (W7.setCells q 15 [.int .u64 (hn1 : Nat), .int .i64 hp1] = W8) := hW8
  rw [hW8] at h8
  have hc7 := h8.cell 7 (by omega)
  have hf7 := h8.fr 7
  simp only [tcell] at hc7
  have G8 := (H6.out.2.trans (Gt.bl _ u7)).trans ((Gt.set (k := 15) (by rw [h7.fq]; omega) (.int .u64 (hn1 : Nat))).trans (Gt.set (k := 16) (by rw [h7.fq]; omega) (.int .i64 hp1)))
  rw [hW8] at G8
  have HF : Hid (LabPost w col Z q T.settled (W8.setCell ⟨q, 7, none⟩ (.int .u8 2))) := by
    rw [HR.out]
    exact ⟨_, _, h8.setSt 2, G8.trans (Gt.set (by rw [h8.fq]; omega) _)⟩
  clear h7 h8 G8 hW8 H6 HR HT HU1 u7
  go_wp2_with (refine wpList_store_mid rfl 33 (.tmp 64) (.tmp 62) rfl q 15 #[.int .u64 (hn1 : Nat), .int .i64 hp1] rfl rfl hth2 infoS33 (by simp [Value.oneCell']) ?_; rw [show (#[.int .u64 (hn1 : Nat), .int .i64 hp1] : Array Value).toList = [.int .u64 (hn1 : Nat), .int .i64 hp1] from rfl, E8.out])
  go_end0
  exact ⟨rfl, HF.out⟩
theorem settle_any {w : World} {col : Nat → Nat} {Z : Nat → Prop} {q : Nat} {T : Tot} {a : Ta} (h : Tt w col Z q T a) (hn : Tn T) (hb : Tb T.told) : Calls Tryz.prog 101 #[.pointer (some ⟨q, 0, none⟩)] w fun e w' => e = .returned (.tuple #[]) ∧ LabPost w col Z q T.settle w' := by
  unfold Tot.settle
  by_cases hst : T.st = 1
  · by_cases hle : cntF 16 T.vs ≤ T.told.length
    · rw [if_pos ⟨hst, hle⟩]
      cases hp : T.prim with
      | true => exact settle_prim h hn hb hst hle hp
      | false => exact settle_not h hn hb hst hle hp
    · rw [if_neg (fun c => hle c.2)]
      obtain ⟨ta, tc, htv, _⟩ := h.tolds
      have h7 := h.cell 7 (by omega)
      have h17 := h.cell 17 (by omega)
      simp only [tcell] at h7 h17
      rw [htv] at h17
      rw [hst] at h7
      refine (settle_few w q T.told.length T.vs ta tc hn.vs (by omega) ⟨h7, h17, h.cell 6 (by omega)⟩).mono ?_
      rintro e w' ⟨rfl, k, rfl⟩
      exact ⟨rfl, col, a, h.still ⟨rfl, rfl, rfl, Nat.le_refl _, fun _ _ => rfl⟩, Gt.bl col ⟨rfl, rfl, rfl, Nat.le_refl _, fun _ _ => rfl⟩⟩
  · rw [if_neg (fun c => hst c.1)]
    refine (settle_idle w q T.st hst _ _ ⟨h.cell 7 (by omega), h.cell 17 (by omega), h.cell 6 (by omega)⟩).mono ?_
    rintro e w' ⟨rfl, rfl⟩
    exact ⟨rfl, col, a, h.still ⟨rfl, rfl, rfl, Nat.le_refl _, fun _ _ => rfl⟩, Gt.bl col ⟨rfl, rfl, rfl, Nat.le_refl _, fun _ _ => rfl⟩⟩
end Go.Proofs.YtlaihgdfedalmaaGreat
