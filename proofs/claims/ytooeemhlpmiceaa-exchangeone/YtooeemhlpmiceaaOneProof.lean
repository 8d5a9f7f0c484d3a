/-
  ExchangeOne: of one node alone its own summary is told. For all summaries and all nodes; no condition but the form's reach.
-/
import Derived.Test.YtooeemhlpmiceaaXOne
namespace Go.Proofs.Ytooeemhlpmiceaa.exchangeOne
open Go.ChangeShapes Go.WideShapes Go.ChangeAt Go.RowKit Go.Deep
set_option linter.unusedVariables false
set_option linter.unusedSimpArgs false

theorem one_yes {u : Pt} (hq : (u.hn, u.hp) = highT [u]) (hn : 0 ≤ u.node) : chT [u] = u.node ∧ shortT [u] = u.ls := by
  have h1 : chT [u] = u.node := by
    show chF (highT [u]) (-1) u = u.node
    unfold chF
    rw [← hq]
    simp only [decide_true, Bool.and_self, if_true]
    rw [if_pos (by omega)]
  refine ⟨h1, ?_⟩
  unfold shortT
  rw [h1, if_neg (by omega)]
  unfold atT
  simp
theorem one_no {u : Pt} (hq : (u.hn, u.hp) ≠ highT [u]) : chT [u] = -1 ∧ shortT [u] = [] ∧ highT [u] = (0, 0) ∧ (decide (u.hn = 0) && decide (u.hp = 0)) = false := by
  have h0 : highT [u] = (0, 0) := by
    rw [one_high] at hq ⊢
    split at hq
    · exact absurd rfl hq
    · rename_i h
      rw [if_neg h]
  have h1 : chT [u] = -1 := by
    show chF (highT [u]) (-1) u = -1
    unfold chF
    split
    · rename_i h
      simp only [Bool.and_eq_true, decide_eq_true_eq] at h
      exact absurd (Prod.ext h.1 h.2) hq
    · rfl
  refine ⟨h1, ?_, h0, ?_⟩
  · unfold shortT
    rw [if_pos h1]
  · rw [h0] at hq
    cases h : (decide (u.hn = 0) && decide (u.hp = 0)) with
    | false => rfl
    | true =>
      simp only [Bool.and_eq_true, decide_eq_true_eq] at h
      exact absurd (Prod.ext h.1 h.2) hq
theorem one_nx (u : Pt) : nxT [u] = if 1 < u.nx then u.nx else 1 := rfl
def S13 (b : Nat) (oa : Option Addr) (L oc : Nat) (hn : Nat) (hp : Int) (w : World) : Prop := w.cell? ⟨b, 1, none⟩ = some (.slice oa L oc) ∧ w.cell? ⟨b, 3, none⟩ = some (.int .u64 (hn : Nat)) ∧ w.cell? ⟨b, 4, none⟩ = some (.int .i64 hp)

set_option maxRecDepth 20000 in
set_option maxHeartbeats 4000000 in
theorem walk (w : World) (t : Pt) (ca : Option Addr) (cc : Nat) (oa : Option Addr) (oc : Nat) (hE : ER (fun _ => True) w ca t.es.length t.es) (hL : LR w oa t.ls.length t.ls) (hz1 : ca = none → t.es.length = 0 ∧ cc = 0) (hz2 : oa = none → t.ls.length = 0 ∧ oc = 0) (hok : OkP t) (m : Nat) (hm : m < 256) :
    Calls Try.prog 11 #[.agg #[.slice ca t.es.length cc, .slice oa t.ls.length oc, .int .i64 t.nx, .int .u64 (t.hn : Nat), .int .i64 t.hp], .int .u8 (m : Nat)] w fun e w' => e = .returned (.bool true) ∧ Below w.heap.size w w' := by
  have haw := fun W => awakeX_any W
  have u0 := bl1 w (.cells #[.slice ca t.es.length cc, .slice oa t.ls.length oc, .int .i64 t.nx, .int .u64 (t.hn : Nat), .int .i64 t.hp] 63)
  have hb0 := cell_box w #[.slice ca t.es.length cc, .slice oa t.ls.length oc, .int .i64 t.nx, .int .u64 (t.hn : Nat), .int .i64 t.hp] 63
  obtain ⟨w0, hw0⟩ : ∃ W, Hid (w.alloc (.cells #[.slice ca t.es.length cc, .slice oa t.ls.length oc, .int .i64 t.nx, .int .u64 (t.hn : Nat), .int .i64 t.hp] 63) = W) := ⟨_, rfl⟩
  rw [hw0.out] at u0 hb0
  have HBX : Hid (∀ W, Below w0.heap.size w0 W → W.cell? ⟨w.heap.size, 0, none⟩ = some (.slice ca t.es.length cc) ∧ W.cell? ⟨w.heap.size, 1, none⟩ = some (.slice oa t.ls.length oc) ∧ W.cell? ⟨w.heap.size, 2, none⟩ = some (.int .i64 t.nx) ∧ W.cell? ⟨w.heap.size, 3, none⟩ = some (.int .u64 (t.hn : Nat)) ∧ W.cell? ⟨w.heap.size, 4, none⟩ = some (.int .i64 t.hp)) := fun W u => ⟨bl_cell u (hb0 0 _ rfl), bl_cell u (hb0 1 _ rfl), bl_cell u (hb0 2 _ rfl), bl_cell u (hb0 3 _ rfl), bl_cell u (hb0 4 _ rfl)⟩
  have HE : Hid (ER (fun _ => True) w0 ca t.es.length t.es ∧ LR w0 oa t.ls.length t.ls) := ⟨hE.bl u0, hL.up u0⟩
  clear hb0 hE hL
  have hsz : szP t ≤ 281474976710656 := by have := hok.2.2.1; have := hok.2.2.2.1; unfold szP; omega
  go_enter Try.func11, Try.ntmps11
  go_wp2_with fail
  rw [hw0.out]
  refine (haw _).mono ?_
  rintro e w1 ⟨rfl, u1⟩
  obtain ⟨k0, k1, k2, k3, k4⟩ := HBX.out w1 u1
  have hs1 := one_sl (HE.out.1.bl u1) (HE.out.2.up u1) hz1 hz2
  have b1 := bl1 w1 (.cells #[.slice ca t.es.length cc, .slice oa t.ls.length oc, .int .i64 t.nx, .int .u64 (t.hn : Nat), .int .i64 t.hp] 63)
  have kf := few_any _ (some ⟨w1.heap.size, 0, none⟩) 1 1 [t] hs1 (fun z hz => by rcases List.mem_singleton.1 hz with rfl; exact hsz)
  clear hw0
  go_wp2_with (refine wpList_load_S rfl (.tmp 2) rfl w.heap.size 0 rfl _ _ _ _ _ k0 k1 k2 k3 k4 ?_)
  refine kf.mono ?_
  rintro e w2 ⟨⟨r, rfl, hr⟩, u2⟩
  have u02 := bl_step u1 (bl_step b1 u2)
  clear kf hs1 b1 u1 u2 k0 k1 k2 k3 k4
  cases r with
  | false =>
    go_wp2_with fail
    refine (haw _).mono ?_
    rintro e wz ⟨rfl, uz⟩
    have uf := bl_step u0 (bl_step u02 uz)
    go_wp2
    go_ret
    exact ⟨rfl, uf⟩
  | true =>
  have hsum : szP t ≤ 150 := by have := (hr rfl).2; simpa [sumT] using this
  clear haw hr hsz
  obtain ⟨k0, k1, k2, k3, k4⟩ := HBX.out w2 u02
  have hs2 := one_sl (HE.out.1.bl u02) (HE.out.2.up u02) hz1 hz2
  have b2 := bl1 w2 (.cells #[.slice ca t.es.length cc, .slice oa t.ls.length oc, .int .i64 t.nx, .int .u64 (t.hn : Nat), .int .i64 t.hp] 63)
  have hel : t.es.length ≤ 150 := by unfold szP at hsum; omega
  have hll : t.ls.length ≤ 150 := by unfold szP at hsum; omega
  have kt := told_any _ (some ⟨w2.heap.size, 0, none⟩) 1 1 [t] hs2 (by omega) (fun z hz => by rcases List.mem_singleton.1 hz with rfl; omega) 0 (by omega)
  clear hsum
  go_wp2_with (refine wpList_load_S rfl (.tmp 2) rfl w.heap.size 0 rfl _ _ _ _ _ k0 k1 k2 k3 k4 ?_)
  refine kt.mono ?_
  rintro e w3 hP
  obtain ⟨g, tc, vn, vs, rfl, hg, hfz, ⟨cv, hcv⟩, hO⟩ := told_one hP
  have HO : Hid (∀ x : Int, TL (fun _ => True) (w3.setCell ⟨g, 0, none⟩ (.int .i64 x)) (some ⟨g, 0, none⟩) 1 [{ t with node := x, es := mergeE [] t.es }] ∧ Below w0.heap.size w0 (w3.setCell ⟨g, 0, none⟩ (.int .i64 x))) := fun x => ⟨(hO x).1, bl_step u02 (bl_step b2 (hO x).2)⟩
  clear kt hP hO hs2 b2 hg u02 k0 k1 k2 k3 k4
  obtain ⟨hTL, u04⟩ := HO.out ((m : Int) % 16)
  obtain ⟨w4, hw4⟩ : ∃ W, Hid (w3.setCell ⟨g, 0, none⟩ (.int .i64 ((m : Int) % 16)) = W) := ⟨_, rfl⟩
  rw [hw4.out] at hTL u04
  obtain ⟨u, hu⟩ : ∃ u : Pt, u = { t with node := (m : Int) % 16, es := mergeE [] t.es } := ⟨_, rfl⟩
  rw [← hu] at hTL
  have hnd : u.node = (m : Int) % 16 := by rw [hu]
  have hn0 : 0 ≤ u.node := by rw [hnd]; omega
  have HU : Hid (u.nx = t.nx ∧ u.hn = t.hn ∧ u.hp = t.hp ∧ u.ls = t.ls) := by rw [hu]; exact ⟨rfl, rfl, rfl, rfl⟩
  have HA : Hid ((allT [u]).length ≤ 1000 ∧ (∀ e ∈ allT [u], e.2.length ≤ 140737488355328) ∧ (∀ e ∈ allT [u], OkL e.1) ∧ (∀ z ∈ [u], z.ls.length ≤ 1000) ∧ ∀ z ∈ [u], ∀ x ∈ z.ls, OkL x) := by
    have e1 : allT [u] = mergeE [] t.es := by rw [hu]; simp [allT]
    have hm2 : ∀ e ∈ allT [u], OkE e := fun e he => by
      rw [e1] at he
      rcases mergeE_mem _ _ e he with h | h
      · simp at h
      · exact hok.1 e h
    refine ⟨by rw [e1]; have := mergeE_len t.es []; simp only [List.length_nil, Nat.zero_add] at this; omega, fun e he => (hm2 e he).2, fun e he => (hm2 e he).1, fun z hz => ?_, fun z hz => ?_⟩
    · rcases List.mem_singleton.1 hz with rfl; rw [hu]; show t.ls.length ≤ 1000; omega
    · rcases List.mem_singleton.1 hz with rfl; rw [hu]; exact hok.2.1
  have kF := full_any _ w4 (some ⟨g, 0, none⟩) 1 tc [u] hTL HA.out.1 HA.out.2.1 HA.out.2.2.1 HA.out.2.2.2.1 HA.out.2.2.2.2
  clear HO hu hok
  go_wp2_with fail
  rw [hw4.out]
  refine kF.mono ?_
  rintro e w5 ⟨v5, rfl, ho5, u5⟩
  obtain ⟨a5, c5, rfl, -⟩ := LR.own ho5
  have hT5 := hTL.bl u5
  have u05 := bl_step u04 u5
  obtain ⟨k0, k1, k2, k3, k4⟩ := HBX.out w5 u05
  have kN := next_any _ w5 (some ⟨g, 0, none⟩) 1 tc [u] hT5
  rw [one_nx, HU.out.1] at kN
  clear kF hw4 hTL u04 ho5 u5 hfz hcv
  by_cases hx : t.nx < 1
  · have hx2 : ¬ (1 < t.nx) := by omega
    rw [if_neg hx2] at kN
    go_wp2_with fail
    refine kN.mono ?_
    rintro e w6 ⟨rfl, u6⟩
    have hT6 := hT5.bl u6
    have u06 := bl_step u05 u6
    have kC := chosen_any _ w6 (some ⟨g, 0, none⟩) 1 tc [u] hT6
    clear kN hT5 u05 u6 k0 k1 k2 k3 k4
    by_cases hq : (u.hn, u.hp) = highT [u]
    · obtain ⟨e1, e2⟩ := one_yes hq hn0
      rw [hnd] at e1
      rw [e1] at kC
      have HCH : Hid (chT [u] = (m : Int) % 16) := e1
      have hm1 : ¬ ((m : Int) % 16 = -1) := by omega
      go_wp2_with fail
      refine kC.mono ?_
      rintro e w7 ⟨rfl, u7⟩
      have hT7 := hT6.bl u7
      have u07 := bl_step u06 u7
      clear kC hT6 u06 u7
      have ud : Below w7.heap.size w7 w7.drew := (Below.refl _ _).drew
      have HS : Hid (∀ W : World, Below w7.heap.size w7 W → S13 w.heap.size oa t.ls.length oc t.hn t.hp W) := fun W u => by
        obtain ⟨_, y1, _, y3, y4⟩ := HBX.out W (bl_step u07 u)
        exact ⟨y1, y3, y4⟩
      have s0 := HS.out _ ud
      unfold S13 at s0
      have kC2 := chosen_any _ w7.drew (some ⟨g, 0, none⟩) 1 tc [u] (hT7.bl ud)
      rw [HCH.out] at kC2
      have hge : ((fullT [u]).length : Int) ≥ (t.ls.length : Int) := by
        have : fullT [u] = shortT [u] ++ out (shortT [u]) ((knownT [u]).map (·.1)) := rfl
        rw [this, e2, HU.out.2.2.2, List.length_append]
        omega
      have HSH : Hid (shortT [u] = t.ls) := by rw [e2]; exact HU.out.2.2.2
      have HHI : Hid (highT [u] = (t.hn, t.hp)) := by show _ = _; rw [← hq, HU.out.2.1, HU.out.2.2.1]
      have hwr : IntKind.i64.wrap (m : Int) = (m : Int) := i64_in _ (by omega)
      have htm : (m : Int).tmod 16 = (m : Int) % 16 := Int.tmod_eq_emod_of_nonneg (by omega)
      have heq := fun W => vid_equal t.hn t.hp t.hn t.hp W
      simp only [decide_true, Bool.and_self] at heq
      clear e1 e2 hq HCH
      obtain ⟨F, hF⟩ : ∃ F, (fullT [u]).length = F := ⟨_, rfl⟩
      rw [hF] at hge
      rw [hF]
      go_wp2_with fail
      refine wp_region_noPanic ?_
      refine wp_region_held_drew (S := S13 w.heap.size oa t.ls.length oc t.hn t.hp) (by kernel_rfl) s0 (fun hHeld => ?_)
      unfold S13 at hHeld
      refine tq 0 ?_
      refine tq 2 ?_
      refine tq 3 ?_
      refine tq 4 ?_
      refine comes_up 1 rfl (by kernel_rfl) (fun K hK => ?_)
      go_simp
      refine kC2.mono ?_
      rintro e w8 ⟨rfl, u8'⟩
      have u8 := bl_step ud u8'
      have kH := high_any _ w8 (some ⟨g, 0, none⟩) 1 tc [u] (hT7.bl u8)
      rw [HHI.out] at kH
      unfold vid at kH
      simp only at kH
      clear kC2 s0 u8'
      go_wp2_with fail
      refine hK.out _ _ (HS.out _ u8) (fun hHeld => ?_)
      clear hK K
      (try simp only [Act.put, List.setIfInBounds_toArray, List.set_cons_zero, List.set_cons_succ])
      refine tq 5 ?_
      refine tq 6 ?_
      refine tq 7 ?_
      refine tq 9 ?_
      refine tq 10 ?_
      refine comes_up 8 rfl (by kernel_rfl) (fun K hK => ?_)
      go_simp
      refine kH.mono ?_
      rintro e w9 ⟨rfl, u9'⟩
      have u9 := bl_step u8 u9'
      have kS := short_any _ w9 (some ⟨g, 0, none⟩) 1 tc [u] (hT7.bl u9) HA.out.2.2.2.1
      rw [HSH.out] at kS
      clear kH u9'
      go_wp2_with fail
      refine hK.out _ _ (HS.out _ u9) (fun hHeld => ?_)
      clear hK K
      (try simp only [Act.put, List.setIfInBounds_toArray, List.set_cons_zero, List.set_cons_succ])
      refine tq 11 ?_
      refine tq 12 ?_
      refine tq 13 ?_
      refine tq 14 ?_
      refine tq 16 ?_
      refine tq 17 ?_
      refine comes_up 15 rfl (by kernel_rfl) (fun K hK => ?_)
      go_simp
      refine kS.mono ?_
      rintro e w10 ⟨v10, rfl, ho10, u10'⟩
      obtain ⟨a10, c10, rfl, hL10⟩ := LR.own ho10
      have u10 := bl_step u9 u10'
      have kE := same_any w10 a10 t.ls.length c10 t.ls hL10 oa t.ls.length oc t.ls (HE.out.2.up (bl_step u07 u10))
      simp only [decide_true] at kE
      clear kS u10' ho10 hL10
      go_wp2_with fail
      refine hK.out _ _ (HS.out _ u10) (fun hHeld => ?_)
      clear hK K
      (try simp only [Act.put, List.setIfInBounds_toArray, List.set_cons_zero, List.set_cons_succ])
      refine comes_up 18 rfl (by kernel_rfl) (fun K hK => ?_)
      go_simp
      refine kE.mono ?_
      rintro e w11 ⟨rfl, u11'⟩
      have u11 := bl_step u10 u11'.bl
      have uf := bl_step u0 (bl_step u07 u11)
      clear kE u11'
      go_wp2_with fail
      refine hK.out _ _ (HS.out _ u11) (fun hHeld => ?_)
      clear hK K
      (try simp only [Act.put, List.setIfInBounds_toArray, List.set_cons_zero, List.set_cons_succ])
      refine tq 19 ?_
      refine tq 20 ?_
      refine tq 21 ?_
      refine tq 22 ?_
      refine tq 23 ?_
      refine tq 24 ?_
      refine tq 25 ?_
      refine tq 26 ?_
      refine tq 27 ?_
      refine tq 28 ?_
      refine wpAnyH_done (by kernel_rfl) ?_ _
      refine NoPanic.normal ?_
      clear hHeld HS
      go_wp2
      go_ret
      exact ⟨rfl, uf⟩
    · obtain ⟨e1, e2, e3, e4⟩ := one_no hq
      rw [HU.out.2.1, HU.out.2.2.1] at e4
      rw [e1] at kC
      have heq0 : ∀ W, Sem.run Try.prog (Op.equalIn 10000 32 (.agg #[.int .u64 0, .int .i64 0]) (.agg #[.int .u64 0, .int .i64 0])) W = .ok true W := fun W => vid_equal 0 0 0 0 W
      have heq1 : ∀ W, Sem.run Try.prog (Op.equalIn 10000 32 (.agg #[.int .u64 (t.hn : Nat), .int .i64 t.hp]) (.agg #[.int .u64 0, .int .i64 0])) W = .ok false W := fun W => (vid_equal t.hn t.hp 0 0 W).trans (by rw [e4])
      clear e4
      go_wp2_with fail
      refine kC.mono ?_
      rintro e w7 ⟨rfl, u7⟩
      have hT7 := hT6.bl u7
      have u07 := bl_step u06 u7
      have kH := high_any _ w7 (some ⟨g, 0, none⟩) 1 tc [u] hT7
      rw [e3] at kH
      unfold vid at kH
      simp only at kH
      clear kC hT6 u06 u7
      go_wp2_with fail
      refine kH.mono ?_
      rintro e w8 ⟨rfl, u8⟩
      have hT8 := hT7.bl u8
      have u08 := bl_step u07 u8
      obtain ⟨y0, y1, y2, y3, y4⟩ := HBX.out w8 u08
      have kS := short_any _ w8 (some ⟨g, 0, none⟩) 1 tc [u] hT8 HA.out.2.2.2.1
      rw [e2] at kS
      simp only [List.length_nil] at kS
      clear kH hT7 u07 u8
      go_wp2_with fail
      refine kS.mono ?_
      rintro e w9 ⟨v9, rfl, ho9, u9⟩
      obtain ⟨a9, c9, rfl, -⟩ := LR.own ho9
      have uf := bl_step u0 (bl_step u08 u9)
      clear kS ho9
      go_wp2
      go_ret
      exact ⟨rfl, uf⟩
  · have hx2 : (if 1 < t.nx then t.nx else 1) = t.nx := by split <;> omega
    rw [hx2] at kN
    go_wp2_with fail
    refine kN.mono ?_
    rintro e w6 ⟨rfl, u6⟩
    have hT6 := hT5.bl u6
    have u06 := bl_step u05 u6
    have kC := chosen_any _ w6 (some ⟨g, 0, none⟩) 1 tc [u] hT6
    clear kN hT5 u05 u6 k0 k1 k2 k3 k4
    by_cases hq : (u.hn, u.hp) = highT [u]
    · obtain ⟨e1, e2⟩ := one_yes hq hn0
      rw [hnd] at e1
      rw [e1] at kC
      have HCH : Hid (chT [u] = (m : Int) % 16) := e1
      have hm1 : ¬ ((m : Int) % 16 = -1) := by omega
      go_wp2_with fail
      refine kC.mono ?_
      rintro e w7 ⟨rfl, u7⟩
      have hT7 := hT6.bl u7
      have u07 := bl_step u06 u7
      clear kC hT6 u06 u7
      have ud : Below w7.heap.size w7 w7.drew := (Below.refl _ _).drew
      have HS : Hid (∀ W : World, Below w7.heap.size w7 W → S13 w.heap.size oa t.ls.length oc t.hn t.hp W) := fun W u => by
        obtain ⟨_, y1, _, y3, y4⟩ := HBX.out W (bl_step u07 u)
        exact ⟨y1, y3, y4⟩
      have s0 := HS.out _ ud
      unfold S13 at s0
      have kC2 := chosen_any _ w7.drew (some ⟨g, 0, none⟩) 1 tc [u] (hT7.bl ud)
      rw [HCH.out] at kC2
      have hge : ((fullT [u]).length : Int) ≥ (t.ls.length : Int) := by
        have : fullT [u] = shortT [u] ++ out (shortT [u]) ((knownT [u]).map (·.1)) := rfl
        rw [this, e2, HU.out.2.2.2, List.length_append]
        omega
      have HSH : Hid (shortT [u] = t.ls) := by rw [e2]; exact HU.out.2.2.2
      have HHI : Hid (highT [u] = (t.hn, t.hp)) := by show _ = _; rw [← hq, HU.out.2.1, HU.out.2.2.1]
      have hwr : IntKind.i64.wrap (m : Int) = (m : Int) := i64_in _ (by omega)
      have htm : (m : Int).tmod 16 = (m : Int) % 16 := Int.tmod_eq_emod_of_nonneg (by omega)
      have heq := fun W => vid_equal t.hn t.hp t.hn t.hp W
      simp only [decide_true, Bool.and_self] at heq
      clear e1 e2 hq HCH
      obtain ⟨F, hF⟩ : ∃ F, (fullT [u]).length = F := ⟨_, rfl⟩
      rw [hF] at hge
      rw [hF]
      go_wp2_with fail
      refine wp_region_noPanic ?_
      refine wp_region_held_drew (S := S13 w.heap.size oa t.ls.length oc t.hn t.hp) (by kernel_rfl) s0 (fun hHeld => ?_)
      unfold S13 at hHeld
      refine tq 0 ?_
      refine tq 2 ?_
      refine tq 3 ?_
      refine tq 4 ?_
      refine comes_up 1 rfl (by kernel_rfl) (fun K hK => ?_)
      go_simp
      refine kC2.mono ?_
      rintro e w8 ⟨rfl, u8'⟩
      have u8 := bl_step ud u8'
      have kH := high_any _ w8 (some ⟨g, 0, none⟩) 1 tc [u] (hT7.bl u8)
      rw [HHI.out] at kH
      unfold vid at kH
      simp only at kH
      clear kC2 s0 u8'
      go_wp2_with fail
      refine hK.out _ _ (HS.out _ u8) (fun hHeld => ?_)
      clear hK K
      (try simp only [Act.put, List.setIfInBounds_toArray, List.set_cons_zero, List.set_cons_succ])
      refine tq 5 ?_
      refine tq 6 ?_
      refine tq 7 ?_
      refine tq 9 ?_
      refine tq 10 ?_
      refine comes_up 8 rfl (by kernel_rfl) (fun K hK => ?_)
      go_simp
      refine kH.mono ?_
      rintro e w9 ⟨rfl, u9'⟩
      have u9 := bl_step u8 u9'
      have kS := short_any _ w9 (some ⟨g, 0, none⟩) 1 tc [u] (hT7.bl u9) HA.out.2.2.2.1
      rw [HSH.out] at kS
      clear kH u9'
      go_wp2_with fail
      refine hK.out _ _ (HS.out _ u9) (fun hHeld => ?_)
      clear hK K
      (try simp only [Act.put, List.setIfInBounds_toArray, List.set_cons_zero, List.set_cons_succ])
      refine tq 11 ?_
      refine tq 12 ?_
      refine tq 13 ?_
      refine tq 14 ?_
      refine tq 16 ?_
      refine tq 17 ?_
      refine comes_up 15 rfl (by kernel_rfl) (fun K hK => ?_)
      go_simp
      refine kS.mono ?_
      rintro e w10 ⟨v10, rfl, ho10, u10'⟩
      obtain ⟨a10, c10, rfl, hL10⟩ := LR.own ho10
      have u10 := bl_step u9 u10'
      have kE := same_any w10 a10 t.ls.length c10 t.ls hL10 oa t.ls.length oc t.ls (HE.out.2.up (bl_step u07 u10))
      simp only [decide_true] at kE
      clear kS u10' ho10 hL10
      go_wp2_with fail
      refine hK.out _ _ (HS.out _ u10) (fun hHeld => ?_)
      clear hK K
      (try simp only [Act.put, List.setIfInBounds_toArray, List.set_cons_zero, List.set_cons_succ])
      refine comes_up 18 rfl (by kernel_rfl) (fun K hK => ?_)
      go_simp
      refine kE.mono ?_
      rintro e w11 ⟨rfl, u11'⟩
      have u11 := bl_step u10 u11'.bl
      have uf := bl_step u0 (bl_step u07 u11)
      clear kE u11'
      go_wp2_with fail
      refine hK.out _ _ (HS.out _ u11) (fun hHeld => ?_)
      clear hK K
      (try simp only [Act.put, List.setIfInBounds_toArray, List.set_cons_zero, List.set_cons_succ])
      refine tq 19 ?_
      refine tq 20 ?_
      refine tq 21 ?_
      refine tq 22 ?_
      refine tq 23 ?_
      refine tq 24 ?_
      refine tq 25 ?_
      refine tq 26 ?_
      refine tq 27 ?_
      refine tq 28 ?_
      refine wpAnyH_done (by kernel_rfl) ?_ _
      refine NoPanic.normal ?_
      clear hHeld HS
      go_wp2
      go_ret
      exact ⟨rfl, uf⟩
    · obtain ⟨e1, e2, e3, e4⟩ := one_no hq
      rw [HU.out.2.1, HU.out.2.2.1] at e4
      rw [e1] at kC
      have heq0 : ∀ W, Sem.run Try.prog (Op.equalIn 10000 32 (.agg #[.int .u64 0, .int .i64 0]) (.agg #[.int .u64 0, .int .i64 0])) W = .ok true W := fun W => vid_equal 0 0 0 0 W
      have heq1 : ∀ W, Sem.run Try.prog (Op.equalIn 10000 32 (.agg #[.int .u64 (t.hn : Nat), .int .i64 t.hp]) (.agg #[.int .u64 0, .int .i64 0])) W = .ok false W := fun W => (vid_equal t.hn t.hp 0 0 W).trans (by rw [e4])
      clear e4
      go_wp2_with fail
      refine kC.mono ?_
      rintro e w7 ⟨rfl, u7⟩
      have hT7 := hT6.bl u7
      have u07 := bl_step u06 u7
      have kH := high_any _ w7 (some ⟨g, 0, none⟩) 1 tc [u] hT7
      rw [e3] at kH
      unfold vid at kH
      simp only at kH
      clear kC hT6 u06 u7
      go_wp2_with fail
      refine kH.mono ?_
      rintro e w8 ⟨rfl, u8⟩
      have hT8 := hT7.bl u8
      have u08 := bl_step u07 u8
      obtain ⟨y0, y1, y2, y3, y4⟩ := HBX.out w8 u08
      have kS := short_any _ w8 (some ⟨g, 0, none⟩) 1 tc [u] hT8 HA.out.2.2.2.1
      rw [e2] at kS
      simp only [List.length_nil] at kS
      clear kH hT7 u07 u8
      go_wp2_with fail
      refine kS.mono ?_
      rintro e w9 ⟨v9, rfl, ho9, u9⟩
      obtain ⟨a9, c9, rfl, -⟩ := LR.own ho9
      have uf := bl_step u0 (bl_step u08 u9)
      clear kS ho9
      go_wp2
      go_ret
      exact ⟨rfl, uf⟩
set_option maxRecDepth 100000 in
theorem lifted (os : Os) (started : os.Started) (H : Type) (enc : TypeId × Value → H) :
    ReturnsInHanded {} Try.checked os 11 .any (Rows.exchangeOneSpec.pre6 enc Try.prog Try.f11 Rows.exchangeOneRow.domain false) (Rows.exchangeOneSpec.post enc Try.prog Try.f11 false true false false) := by
  refine returnsInHanded_of_change_sized (C := Try.checked) own started (by kernel_rfl) Try.func11
    (ChangeSpec.witness6 (enc := enc) (C := Try.checked) false ⟨#[], #[.agg #[.slice none 0 0, .slice none 0 0, .int .i64 0, .int .u64 0, .int .i64 0], .int .u8 0], []⟩ 12 (by kernel_rfl) (by kernel_rfl) (by kernel_rfl) (by kernel_rfl)) ?_
  intro W base args ds gs before hval0 hW hcnd hsz0 _
  have hsz : (DataW.weightsEach Try.prog (Try.f11.params.toList ++ Rows.exchangeOneSpec.plain.varTypes Try.prog) (ds ++ gs)).all (· ≤ reachBytes) = true := hsz0
  have hval : ∀ (j : Nat) t v, Try.f11.params[j]? = some t → args[j]? = some v → Value.okWide Try.prog W .any base t v := hval0
  have hW' := hW
  obtain ⟨p, q, hA0, hV, rfl, hfz, hnd⟩ := hW
  have hA : DataW.TrodAll enc Try.prog W 0 (fun _ => true) true Try.f11.params.toList args.toList ds p := hA0
  rw [Try.params11] at hA hval hsz
  obtain ⟨v0, vs0, d0, ds0, p0, q0, hargs0, rfl, rfl, h0, r0⟩ := trodAll_cons hA
  obtain ⟨v1, vs1, d1, ds1, p1, q1, hargs1, rfl, rfl, h1, r1⟩ := trodAll_cons r0
  obtain ⟨rfl, rfl, rfl⟩ := trodAll_nil r1
  obtain rfl : args = #[v0, v1] := by cases args; simp_all
  obtain ⟨rfl, rfl⟩ := trodVars_none hV
  have k0 := h0
  have lt0 : ∀ x ∈ p0, x.block < W.heap.size := by obtain ⟨m, hm⟩ := k0; exact DataW.trod_lt m _ _ _ hm
  obtain ⟨t0, ca0, cc0, oa0, oc0, rfl, hE0, hL0, hz0, hy0, hok0⟩ := open_sum2 (hval 0 63 v0 rfl rfl) h0 (fits_of hsz (j := 0) rfl rfl)
  obtain ⟨a1, rfl, rfl, rfl, w1⟩ := open_int Try.underlying5 (hval 1 5 v1 rfl rfl) h1
  clear hA0 hval0 hsz hsz0
  obtain ⟨n1, rfl, hn1⟩ := u8_of_wf w1
  refine (walk W t0 ca0 cc0 oa0 oc0 hE0 hL0 hz0 hy0 hok0 n1 hn1).mono fun e W' ⟨he, bel⟩ => ?_
  subst he
  exact ⟨_, rfl, _, _, _, [], _, [], hW', trodAll_mk1 (shut_bool Try.underlying4 _), (trodAll_cons_mk (Below.trod laidOut (by kernel_rfl) (of_decide_eq_true (by kernel_rfl)) k0 bel lt0) (trodAll_cons_mk (shut_int Try.underlying5 w1) trodAll_mk0)), rfl, bel.frame _, fun h => by cases h⟩

theorem over : Rows.exchangeOneRow.holds Try.pinned (OpenSpec.ofChange Rows.exchangeOneSpec) :=
  OpenClaim.holds_of_wide 11 Try.f11 rfl rfl rfl rfl rfl rfl rfl ⟨rfl, rfl, rfl, rfl, rfl⟩ rfl rfl rfl rfl rfl (by kernel_rfl) Try.func11 (by kernel_rfl)
    (of_decide_eq_true (by kernel_rfl)) (by unfold Func.isWrapper; first | (rw [if_pos (by decide +kernel)]; kernel_rfl) | (rw [if_neg (by decide +kernel)]; exact ⟨rfl, rfl⟩))
    (fun os started H enc _ => lifted os started H enc)

end Go.Proofs.Ytooeemhlpmiceaa.exchangeOne
namespace Go.Proofs.Ytooeemhlpmiceaa
theorem exchangeOne_holds : Rows.ExchangeOneSaid := exchangeOne.over
#print axioms exchangeOne_holds
end Go.Proofs.Ytooeemhlpmiceaa
