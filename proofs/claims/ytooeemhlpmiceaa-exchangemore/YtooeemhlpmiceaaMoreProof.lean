/-
  ExchangeMore: one more that told of no primary view, and is no greater node, changes no order that was chosen, and all that it knew is in the full order. For all lists of summaries and all summaries; no condition but the form's reach.
-/
import Derived.Test.YtooeemhlpmiceaaXMore1
namespace Go.Proofs.Ytooeemhlpmiceaa.exchangeMore
open Go.ChangeShapes Go.WideShapes Go.ChangeAt Go.RowKit Go.Deep
set_option linter.unusedVariables false
set_option linter.unusedSimpArgs false

def incP (p : Pt) : Pt := { p with node := p.node + 1 }
theorem inc_map (els : List El) : (els.map inc).map (·.1) = (els.map (·.1)).map incP := by simp [inc, incP]
theorem all_inc (l : List Pt) : allT (l.map incP) = allT l := by
  unfold allT
  rw [List.flatMap_map]
  rfl
theorem told_at {ss : List Pt} {i : Nat} {p : Pt} (h : (toldL ss 0)[i]? = some p) : p.node = (i : Nat) := by
  have hi := (List.getElem?_eq_some_iff.1 h).1
  unfold toldL at h hi
  simp at hi
  rw [List.getElem?_map, List.getElem?_range hi] at h
  simp at h
  rw [← h]
  show ((i + 0) % ss.length : Nat) = (i : Int)
  rw [Nat.add_zero, Nat.mod_eq_of_lt hi]
theorem own_away {w w' : World} {B n g : Nat} {v : Value} {xs : List Value} (h : w.ownsRow B 65 6 v n xs) (k : w.grownBy w' (some g)) (hg : g < B) : w'.ownsRow B 65 6 v n xs := by
  refine h.kept k ?_
  cases e : v.ownBlock with
  | none => exact Or.inl rfl
  | some q => exact Or.inr (fun e2 => by have := (h.lt q e).1; cases e2; omega)
theorem own_bl {w w' : World} {B n : Nat} {v : Value} {xs : List Value} (h : w.ownsRow B 65 6 v n xs) (u : Below w.heap.size w w') : w'.ownsRow B 65 6 v n xs := by
  refine h.kept (gr_below u none) ?_
  cases v.ownBlock with
  | none => exact Or.inl rfl
  | some k => exact Or.inr (by simp)

set_option maxRecDepth 20000 in
set_option maxHeartbeats 4000000 in
theorem walk (w : World) (ao : Option Addr) (n cap : Nat) (ss : List Pt) (h : SL (fun _ => True) w ao n ss) (hoks : ∀ t ∈ ss, OkP t) (hz : ao = none → n = 0 ∧ cap = 0) (h72 : n * 72 ≤ 140737488351232)
    (t : Pt) (ca : Option Addr) (cc : Nat) (oa : Option Addr) (oc : Nat) (hE : ER (fun _ => True) w ca t.es.length t.es) (hL : LR w oa t.ls.length t.ls) (hz1 : ca = none → t.es.length = 0 ∧ cc = 0) (hz2 : oa = none → t.ls.length = 0 ∧ oc = 0) (hok : OkP t) :
    Calls Try.prog 12 #[.slice ao n cap, .agg #[.slice ca t.es.length cc, .slice oa t.ls.length oc, .int .i64 t.nx, .int .u64 (t.hn : Nat), .int .i64 t.hp]] w fun e w' => e = .returned (.bool true) ∧ Below w.heap.size w w' := by
  have haw := fun W => awakeX_any W
  have hl := h.1
  have hlp : 0 ≤ (n : Int) := by omega
  have u0 := bl1 w (.cells #[.slice ca t.es.length cc, .slice oa t.ls.length oc, .int .i64 t.nx, .int .u64 (t.hn : Nat), .int .i64 t.hp] 63)
  have hB0 : Bxs (w.alloc (.cells #[.slice ca t.es.length cc, .slice oa t.ls.length oc, .int .i64 t.nx, .int .u64 (t.hn : Nat), .int .i64 t.hp] 63)) w.heap.size ca t.es.length cc oa t.ls.length oc t.nx t.hn t.hp := heap_alloc_new _ _
  obtain ⟨w0, hw0⟩ : ∃ W, Hid (w.alloc (.cells #[.slice ca t.es.length cc, .slice oa t.ls.length oc, .int .i64 t.nx, .int .u64 (t.hn : Nat), .int .i64 t.hp] 63) = W) := ⟨_, rfl⟩
  rw [hw0.out] at u0 hB0
  have HBX : Hid (Bxs w0 w.heap.size ca t.es.length cc oa t.ls.length oc t.nx t.hn t.hp) := hB0
  have HE : Hid (ER (fun _ => True) w ca t.es.length t.es ∧ LR w oa t.ls.length t.ls ∧ SL (fun _ => True) w ao n ss) := ⟨hE, hL, h⟩
  clear hB0 hE hL h
  go_enter Try.func12, Try.ntmps12
  go_wp2_with fail
  rw [hw0.out]
  refine (haw _).mono ?_
  rintro e w1 ⟨rfl, u1⟩
  have u01 := bl_step u0 u1
  obtain ⟨k0, k1, k2, k3, k4⟩ := (HBX.out.bl u1).cells
  have hX : Fx (fun _ => True) w1 (t, (ca, cc), (oa, oc)) := ⟨HE.out.1.bl u01, HE.out.2.1.up u01, fun _ _ _ => trivial, hz1, hz2⟩
  have hS1 := HE.out.2.2.bl u01
  clear hw0
  obtain ⟨sa, sc, w2, hrun, hsl, u2⟩ := run_append_more (t, (ca, cc), (oa, oc)) hX ao n cap ss hS1 hz h72
  simp only [c5] at hrun
  have kf := few_any w2 sa (n + 1) sc (t :: ss) hsl (fun z hz => by
    rcases List.mem_cons.1 hz with rfl | hz
    · have := hok.2.2.1; have := hok.2.2.2.1; unfold szP; omega
    · have := (hoks z hz).2.2.1; have := (hoks z hz).2.2.2.1; unfold szP; omega)
  have u12 := bl_step u1 u2
  clear hX hS1 hsl u1 u2 u01 hz h72
  go_wp2_with (at_builtin; refine wpList_append_runG (by rfl) (.tmp 19) (.tmp 20) 43 43 rfl _ _ _ _ rfl rfl hrun ?_)
  refine kf.mono ?_
  rintro e w3 ⟨⟨r, rfl, hr⟩, u3⟩
  have u03 := bl_step u12 u3
  clear kf u12 u3 k0 k1 k2 k3 k4 hrun
  cases r with
  | false =>
    go_wp2_with fail
    refine (haw _).mono ?_
    rintro e wz ⟨rfl, uz⟩
    have uf := bl_step u0 (bl_step u03 uz)
    go_wp2
    go_ret
    exact ⟨rfl, uf⟩
  | true =>
  obtain ⟨hn16, hsum⟩ := hr rfl
  have hn15 : ¬ ((15 : Int) < (n : Int)) := by omega
  clear hr
  by_cases hn0 : n = 0
  · have hn0I : (n : Int) = 0 := by omega
    go_wp2_with fail
    refine (haw _).mono ?_
    rintro e wz ⟨rfl, uz⟩
    have uf := bl_step u0 (bl_step u03 uz)
    go_wp2
    go_ret
    exact ⟨rfl, uf⟩
  have hn0I : ((n : Int) == 0) = false := by rw [beq_eq_false_iff_ne]; omega
  have hn15d : decide ((15 : Int) < (n : Int)) = false := decide_eq_false hn15
  clear haw
  have hsumT : sumT (t :: ss) = szP t + sumT ss := by simp [sumT]
  have hst : szP t ≤ 150 := by omega
  have hss : sumT ss ≤ 150 := by omega
  clear hsum hsumT
  have kt := told_any w3 ao n cap ss (HE.out.2.2.bl (bl_step u0 u03)) (by omega) (fun z hz => by have := sum_mem hz; unfold szP at this; omega) 0 (by omega)
  have HB3 : Hid (Bxs w3 w.heap.size ca t.es.length cc oa t.ls.length oc t.nx t.hn t.hp) := HBX.out.bl u03
  have U03 : Hid (Below w.heap.size w w3) := bl_step u0 u03
  clear HBX u0 u03
  go_wp2_with fail
  refine kt.mono ?_
  rintro e w4 ⟨p, vt, vn, vs, els, rfl, hT, hp⟩
  clear kt
  have hlen : els.length = n := by have := congrArg List.length hp; simpa [toldL, hl] using this
  obtain ⟨g, tc, rfl⟩ : ∃ g tc, vt = .slice (some ⟨g, 0, none⟩) n tc := by
    rcases id hT.rt.2 with ⟨_, h0⟩ | ⟨g, cap, cur, hv, _⟩
    · exact absurd h0 (by omega)
    · exact ⟨g, cap, by rw [hv, hlen]⟩
  obtain ⟨na, nc, rfl⟩ := own_shape hT.rn
  obtain ⟨sa', sc', rfl⟩ := own_shape hT.rs
  have HT : Hid (Tol w3 w4 p (.slice (some ⟨g, 0, none⟩) n tc) (.slice na els.length nc) (.slice sa' els.length sc') els els els ∧ els.map (·.1) = toldL ss 0) := ⟨hT, hp⟩
  have HO : Hid (w4.ownsRow w3.heap.size 65 6 (.slice (some ⟨g, 0, none⟩) n tc) n (f6 (bump 0 els))) := by
    show World.ownsRow _ _ _ _ _ _ _
    rw [bump_zero]
    have := hT.rt
    rw [hlen] at this
    exact this
  have HNode : Hid (∀ (i : Nat) (x : El), els[i]? = some x → x.1.node = (i : Int)) := fun i x hx => by
    refine told_at (ss := ss) ?_
    rw [← hp, List.getElem?_map, hx]
    rfl
  have HLEN : Hid (els.length = n) := hlen
  clear hT hp hlen
  go_wp2_with fail
  go_loopw [8] (fun iv wr => ∃ i : Nat, i ≤ n ∧ iv = .int .i64 i ∧ wr.ownsRow w3.heap.size 65 6 (.slice (some ⟨g, 0, none⟩) n tc) n (f6 (bump i els)) ∧ w4.grownBy wr (some g)) (fun iv _ => n - (intOf iv).toNat)
  case atStart => exact ⟨0, by omega, rfl, HO.out, gr_refl _ _⟩
  case round =>
    obtain ⟨i, hi, rfl, hown, hgr⟩ := hrel
    by_cases hlt : i < n
    · have hltI : (i : Int) < (n : Int) := by omega
      have hi0 : ¬ ((i : Int) < 0) := by omega
      obtain ⟨x, hx⟩ : ∃ x, els[i]? = some x := ⟨els[i]'(by rw [HLEN.out]; omega), List.getElem?_eq_getElem _⟩
      have hnx := HNode.out i x hx
      have hcv : (f6 (bump i els))[i * 6]? = some (.int .i64 (i : Int)) := by
        have := f6_get (bump i els) i x 0 (bump_get hx) (by omega)
        rw [show 6 * i + 0 = i * 6 by omega] at this
        rw [this]
        simp [c6, hnx]
      have hcell := hown.cells (g := g) rfl (i * 6) _ hcv
      rw [Addr.add_lit, Nat.zero_add] at hcell
      have hfz := World.ownsRow.frozenAt hown (i * 6)
      have hwr : IntKind.i64.wrap ((i : Int) + 1) = (i : Int) + 1 := i64_in _ (by omega)
      obtain ⟨hst, hgs⟩ := World.ownsRow.stored hown (i * 6) (.int .i64 ((i : Int) + 1))
      have hbs := bump_succ hx
      rw [hnx, show 6 * i = i * 6 by omega] at hbs
      rw [← hbs] at hst
      have HST : Hid ((wr.setCell ⟨g, i * 6, none⟩ (.int .i64 ((i : Int) + 1))).ownsRow w3.heap.size 65 6 (.slice (some ⟨g, 0, none⟩) n tc) n (f6 (bump (i + 1) els)) ∧ w4.grownBy (wr.setCell ⟨g, i * 6, none⟩ (.int .i64 ((i : Int) + 1))) (some g)) := ⟨hst, gr_trans hgr hgs⟩
      clear hown hgr hst hgs hbs hcv hx hnx
      go_wp2
      go_roundw
      case rel => first | exact ⟨i + 1, by omega, by go_num, HST.out.1, HST.out.2⟩ | ((repeat apply Exists.intro); exact ⟨⟨i + 1, by omega, by go_num, HST.out.1, HST.out.2⟩, rfl⟩)
      case measure => simp [intOf]; omega
    · obtain rfl : i = n := by omega
      have hltI : ¬ ((i : Int) < (i : Int)) := by omega
      -- what is known behind the loop
      have hbi : bump i els = els.map inc := by
        have := bump_all els
        rw [HLEN.out] at this
        exact this
      rw [hbi] at hown
      have hgp : ¬ p g := (HT.out.1.nt g rfl).1
      have hFr : ∀ x ∈ els.map inc, Fx (fun _ => True) wr x := fun x hx => by
        obtain ⟨y, hy, rfl⟩ := List.mem_map.1 hx
        have h1 : Fx p wr y := (HT.out.1.ft y hy).kp (fun ad v hpa hv => (World.cell?_of_block (hgr.block _ (World.block_lt_of_cell? w4 _ hv) (fun e => hgp (by injection e with e; rw [← e]; exact hpa)))).trans hv)
        exact h1.mono (fun _ _ => trivial)
      have u34 : Below w3.heap.size w3 wr := bl_grown HT.out.1.bl HT.out.1.bl.size hgr (fun k hk => by cases hk; exact (HT.out.1.rt.lt g rfl).1)
      have hBr := HB3.out.bl u34
      have hlt3 : w.heap.size < w3.heap.size := HB3.out.lt
      have hFa : ∀ x ∈ els.map inc, Fx (fun k => k ≠ w.heap.size) wr x := fun x hx => (hFr x hx).away hBr
      obtain ⟨hth, hBS, hgS⟩ := hBr.high
      have HS : Hid ((wr.setCells w.heap.size 3 [.int .u64 0, .int .i64 0]).ownsRow w3.heap.size 65 6 (.slice (some ⟨g, 0, none⟩) i tc) i (f6 (els.map inc)) ∧ (∀ x ∈ els.map inc, Fx (fun _ => True) (wr.setCells w.heap.size 3 [.int .u64 0, .int .i64 0]) x) ∧ Below w.heap.size w (wr.setCells w.heap.size 3 [.int .u64 0, .int .i64 0]) ∧ Bxs (wr.setCells w.heap.size 3 [.int .u64 0, .int .i64 0]) w.heap.size ca t.es.length cc oa t.ls.length oc t.nx 0 0) := by
        have u4 := bl_step U03.out u34
        exact ⟨own_away hown hgS hlt3, fun x hx => ((hFa x hx).kp (fun ad v hpa hv => (World.cell?_of_block (hgS.block _ (World.block_lt_of_cell? wr _ hv) (fun e => hpa (by injection e)))).trans hv)).mono (fun _ _ => trivial), bl_grown u4 u4.size hgS (fun k hk => by cases hk; exact Nat.le_refl _), hBS⟩
      clear hown hgr hFr hFa u34 hBr hBS hgS hgp hbi HO HB3 U03
      -- the one more told
      obtain ⟨wS, hwS⟩ : ∃ W, Hid (wr.setCells w.heap.size 3 [.int .u64 0, .int .i64 0] = W) := ⟨_, rfl⟩
      rw [hwS.out] at HS
      obtain ⟨k0, k1, k2, k3, k4⟩ := HS.out.2.2.2.cells
      have uS := HS.out.2.2.1
      obtain ⟨t2, ht2⟩ : ∃ t2 : Pt, t2 = { t with hn := 0, hp := 0 } := ⟨_, rfl⟩
      have hs1 := one_sl (w := wS) (t := t2) (ca := ca) (cc := cc) (oa := oa) (oc := oc) (by rw [ht2]; exact HE.out.1.bl uS) (by rw [ht2]; exact HE.out.2.1.up uS) (by rw [ht2]; exact hz1) (by rw [ht2]; exact hz2)
      have b1 := bl1 wS (.cells #[.slice ca t2.es.length cc, .slice oa t2.ls.length oc, .int .i64 t2.nx, .int .u64 (t2.hn : Nat), .int .i64 t2.hp] 63)
      have hte : t2.es.length ≤ 10000 := by rw [ht2]; show t.es.length ≤ 10000; unfold szP at hst; omega
      have kt := told_any _ (some ⟨wS.heap.size, 0, none⟩) 1 1 [t2] hs1 (by omega) (fun z hz => by rcases List.mem_singleton.1 hz with rfl; exact hte) 0 (by omega)
      have HT2 : Hid (t2.es = t.es ∧ t2.ls = t.ls ∧ t2.hn = 0 ∧ t2.hp = 0) := by rw [ht2]; exact ⟨rfl, rfl, rfl, rfl⟩
      rw [show t2.es.length = t.es.length by rw [ht2], show t2.ls.length = t.ls.length by rw [ht2], show t2.nx = t.nx by rw [ht2], show t2.hn = 0 by rw [ht2], show t2.hp = 0 by rw [ht2]] at kt b1
      clear ht2 hs1 hz1 hz2 hte
      have HPP : Hid (els.map (·.1) = toldL ss 0 ∧ els.length = i) := ⟨HT.out.2, HLEN.out⟩
      clear HT HLEN HNode
      rw [← hwS.out] at k0 k1 k2 k3 k4
      go_wp2_with (first | (refine wpList_store_mid rfl 32 (.tmp 57) (.tmp 56) rfl w.heap.size 3 #[.int .u64 0, .int .i64 0] rfl rfl hth info32 (by simp [Value.oneCell']) ?_) | (refine wpList_load_S rfl (.tmp 3) rfl w.heap.size 0 rfl _ _ _ _ _ k0 k1 k2 k3 k4 ?_))
      have hsS : wr.heap.size = wS.heap.size := by rw [← hwS.out]; simp [World.setCells, World.setCell]
      rw [hwS.out, hsS]
      have e0 : ((0 : Nat) : Int) = 0 := rfl
      rw [e0] at kt
      refine kt.mono ?_
      rintro e w6 ⟨p2, vt2, vn2, vs2, els2, rfl, hT2, hp2⟩
      clear kt k0 k1 k2 k3 k4 hth hwS
      have hlen2 : els2.length = 1 := by have := congrArg List.length hp2; simpa [toldL] using this
      obtain ⟨X, rfl⟩ := List.length_eq_one_iff.1 hlen2
      have hX1 : X.1 = { t2 with node := 0, es := mergeE [] t2.es } := by
        have e1 : toldL [t2] 0 = [{ t2 with node := 0, es := mergeE [] t2.es }] := rfl
        rw [e1] at hp2
        simpa using hp2
      have HXP : Hid (X.1.es = mergeE [] t.es ∧ X.1.ls = t.ls ∧ X.1.hn = 0 ∧ X.1.hp = 0 ∧ X.1.node = 0) := by
        rw [hX1]
        exact ⟨by show mergeE [] t2.es = _; rw [HT2.out.1], HT2.out.2.1, HT2.out.2.2.1, HT2.out.2.2.2, rfl⟩
      obtain ⟨g2, tc2, rfl⟩ : ∃ g tc, vt2 = .slice (some ⟨g, 0, none⟩) 1 tc := by
        rcases id hT2.rt.2 with ⟨_, h0⟩ | ⟨g, cap, cur, hv, _⟩
        · simp at h0
        · exact ⟨g, cap, hv⟩
      obtain ⟨na2, nc2, rfl⟩ := own_shape hT2.rn
      obtain ⟨sa2, sc2, rfl⟩ := own_shape hT2.rs
      have uS6 := bl_step b1 hT2.bl
      have hcX : ∀ j, j < 6 → w6.cell? ⟨g2, j, none⟩ = (c6 X)[j]? := fun j hj => by
        have hl6 : j < (c6 X).length := by simpa [c6, c5] using hj
        have := hT2.rt.cells (g := g2) rfl j ((c6 X)[j]'hl6) (by show (f6 [X])[j]? = _; simp [f6])
        rw [Addr.add_lit, Nat.zero_add] at this
        rw [this, List.getElem?_eq_getElem hl6]
      have HX6 : Hid (Fx (fun _ => True) w6 X) := (hT2.ft X (by simp)).mono (fun _ _ => trivial)
      have ho6 := own_bl HS.out.1 uS6
      have HF6 : Hid (∀ x ∈ els.map inc, Fx (fun _ => True) w6 x) := fun x hx => (HS.out.2.1 x hx).bl uS6
      have U6 : Hid (Below w.heap.size w w6) := bl_step uS uS6
      have x0 := hcX 0 (by omega)
      have x1 := hcX 1 (by omega)
      have x2 := hcX 2 (by omega)
      have x3 := hcX 3 (by omega)
      have x4 := hcX 4 (by omega)
      have x5 := hcX 5 (by omega)
      simp [c6, c5] at x0 x1 x2 x3 x4 x5
      have hcT : ∀ j u, (f6 (els.map inc))[j]? = some u → w6.cell? ((⟨g, 0, none⟩ : Addr).add j) = some u := fun j u hj => ho6.cells (g := g) rfl j u hj
      have HC6 : Hid (∀ j, j < 6 → w6.cell? ⟨g2, j, none⟩ = (c6 X)[j]?) := hcX
      have HO6 : Hid (w6.ownsRow w3.heap.size 65 6 (.slice (some ⟨g, 0, none⟩) i tc) i (f6 (els.map inc))) := ho6
      have HLI : Hid ((els.map inc).length = i) := by show _ = _; rw [List.length_map]; exact HPP.out.2
      clear hT2 hp2 hlen2 hX1 HS uS uS6 b1 HT2 hcX ho6
      obtain ⟨i0, hi0, z0, z1, z2⟩ := info_parts infoT
      go_wp2_with (at_builtin; refine wpList_append_own_at _ rfl (.tmp 65) (.tmp 66) 45 rfl w6.heap.size 65 i0 (.agg #[.int .i64 0, .slice none 0 0, .slice none 0 0, .int .i64 0, .int .u64 0, .int .i64 0]) 6 80 und45 hi0 z0 z1 z2 rfl (by decide) (.slice none 0 0) 0 [] rfl (World.ownsRow_nil _ _ _ _) ⟨g, 0, none⟩ i tc (f6 (els.map inc)) rfl ?d1 hcT (f6_one _) ?d2 ?d3 (Nat.le_refl _) ?_)
      case d1 => rw [f6_len, HLI.out]
      case d2 => unfold maxLen; omega
      case d3 => omega
      intro v7 w7 ho7 hg7 _ _
      have u7 : Below w6.heap.size w6 w7 := ⟨hg7.os, hg7.tape, hg7.output, hg7.size, fun k hk => hg7.block k hk (by simp [Value.ownBlock])⟩
      have y0 := bl_cell u7 x0
      have y1 := bl_cell u7 x1
      have y2 := bl_cell u7 x2
      have y3 := bl_cell u7 x3
      have y4 := bl_cell u7 x4
      have y5 := bl_cell u7 x5
      clear x0 x1 x2 x3 x4 x5 hcT hg7
      have hs7 : w6.heap.size ≤ w7.heap.size := u7.size
      have hone : ∀ u ∈ c6 X, u.oneCell' = true := fun u hu => f6_one [X] u (by simpa [f6] using hu)
      simp only [c6, c5] at hone
      go_wp2_with (first | (refine wpList_load_T rfl (.tmp 70) rfl g2 0 rfl _ _ _ _ _ _ y0 y1 y2 y3 y4 y5 ?_) | (at_builtin; refine wpList_append_gen rfl (.tmp 68) (.tmp 72) 45 65 rfl _ 6 80 und45 infoT rfl (by decide) (by omega) w6.heap.size v7 i (f6 (els.map inc)) rfl ho7 [.int .i64 X.1.node, .slice X.2.1.1 X.1.es.length X.2.1.2, .slice X.2.2.1 X.1.ls.length X.2.2.2, .int .i64 X.1.nx, .int .u64 (X.1.hn : Nat), .int .i64 X.1.hp] rfl hone w7.heap.size rfl rfl ?e1 hs7 ?_))
      case e1 => omega
      intro v8 w8 ho8 hg8 _
      have hvb : ∀ k, v7.ownBlock = some k → w6.heap.size ≤ k := fun k hk => (ho7.lt k hk).1
      have u68 : Below w6.heap.size w6 w8 := bl_grown u7 u7.size hg8 hvb
      rw [show f6 (els.map inc) ++ [.int .i64 X.1.node, .slice X.2.1.1 X.1.es.length X.2.1.2, .slice X.2.2.1 X.1.ls.length X.2.2.2, .int .i64 X.1.nx, .int .u64 (X.1.hn : Nat), .int .i64 X.1.hp] = f6 (els.map inc ++ [X]) by rw [f6_snoc]; rfl, show i + 1 = (els.map inc ++ [X]).length by rw [List.length_append, HLI.out]; rfl] at ho8
      obtain ⟨ua, uc, rfl, hTU⟩ := tl_of (p := fun _ => True) ho8 (fun x hx => by
        rcases List.mem_append.1 hx with hx | hx
        · exact (HF6.out x hx).bl u68
        · rcases List.mem_singleton.1 hx with rfl
          exact HX6.out.bl u68)
      obtain ⟨ta, tc', hv, hTT⟩ := tl_of (els := els.map inc) (p := fun _ => True) (own_bl (by rw [HLI.out]; exact HO6.out) u68) (fun x hx => (HF6.out x hx).bl u68)
      rw [HLI.out] at hTT
      have hTT' : TL (fun _ => True) w8 (some ⟨g, 0, none⟩) i ((els.map inc).map (·.1)) := by
        simp only [HLI.out, Value.slice.injEq] at hv
        rw [hv.1]
        exact hTT
      have hlu : (els.map inc ++ [X]).length = i + 1 := by rw [List.length_append, HLI.out]; rfl
      rw [hlu] at hTU
      rw [hlu]
      rw [List.map_append, List.map_cons, List.map_nil, inc_map, HPP.out.1] at hTU
      rw [inc_map, HPP.out.1] at hTT'
      have HX8 : Hid (Fx (fun _ => True) w8 X) := HX6.out.bl u68
      have HC8 : Hid (∀ j u, (c6 X)[j]? = some u → w8.cell? ⟨g2, j, none⟩ = some u) := fun j u hj => bl_cell u68 ((HC6.out j (by have := (List.getElem?_eq_some_iff.1 hj).1; simpa [c6, c5] using this)).trans hj)
      have U8 : Hid (Below w.heap.size w w8) := bl_step U6.out u68
      have HU : Hid ((allT ((toldL ss 0).map incP ++ [X.1])).length ≤ 1000 ∧ (∀ e ∈ allT ((toldL ss 0).map incP ++ [X.1]), OkE e) ∧ (∀ z ∈ (toldL ss 0).map incP ++ [X.1], z.ls.length ≤ 1000) ∧ ∀ z ∈ (toldL ss 0).map incP ++ [X.1], ∀ x ∈ z.ls, OkL x) := by
        have e1 : allT ((toldL ss 0).map incP ++ [X.1]) = allT (toldL ss 0) ++ mergeE [] t.es := by
          rw [allT_app, all_inc]
          congr 1
          simp [allT, HXP.out.1]
        have hm1 := mergeE_len t.es []
        have hm2 := told_all_le ss 0
        have hsz : t.es.length + t.ls.length ≤ 150 := hst
        rw [e1]
        refine ⟨by rw [List.length_append]; simp only [List.length_nil, Nat.zero_add] at hm1; omega, fun e he => ?_, fun z hz => ?_, fun z hz => ?_⟩
        · rcases List.mem_append.1 he with he | he
          · exact told_eok hoks e he
          · rcases mergeE_mem _ _ e he with h | h
            · simp at h
            · exact hok.1 e h
        · rcases List.mem_append.1 hz with hz | hz
          · obtain ⟨y, hy, rfl⟩ := List.mem_map.1 hz
            have : y.ls.length ≤ sumT ss := told_ls hy
            show y.ls.length ≤ 1000
            omega
          · rcases List.mem_singleton.1 hz with rfl
            rw [HXP.out.2.1]
            omega
        · rcases List.mem_append.1 hz with hz | hz
          · obtain ⟨y, hy, rfl⟩ := List.mem_map.1 hz
            exact told_lok hoks y hy
          · rcases List.mem_singleton.1 hz with rfl
            rw [HXP.out.2.1]
            exact hok.2.1
      have HA : Hid (∀ z ∈ (toldL ss 0).map incP, z.ls.length ≤ 1000) := fun z hz => HU.out.2.2.1 z (List.mem_append_left _ hz)
      obtain ⟨A, hA⟩ : ∃ A, Hid ((toldL ss 0).map incP = A) := ⟨_, rfl⟩
      rw [hA.out] at hTU hTT' HU HA
      clear hv hTT hlu HPP HF6 HX6 HO6 HC6 HLI ho7 ho8 hg8 hvb u68 u7 y0 y1 y2 y3 y4 y5 hA U6 hone hst hss hok hoks hs7 HE
      have kC := chosen_any _ w8 (some ⟨g, 0, none⟩) i tc A hTT'
      by_cases hch : chT A < 0
      · go_wp2_with fail
        refine kC.mono ?_
        rintro e w9 ⟨rfl, u9⟩
        have uf := bl_step U8.out u9
        go_wp2
        go_ret
        exact ⟨rfl, uf⟩
      have hchd : decide (chT A < 0) = false := decide_eq_false hch
      have HZ : Hid (highT (A ++ [X.1]) = highT A ∧ chT (A ++ [X.1]) = chT A ∧ shortT (A ++ [X.1]) = shortT A) := ⟨high_more A X.1 ⟨HXP.out.2.2.1, HXP.out.2.2.2.1⟩, ch_more A X.1 ⟨HXP.out.2.2.1, HXP.out.2.2.2.1⟩ HXP.out.2.2.2.2 (by omega), short_more A X.1 ⟨HXP.out.2.2.1, HXP.out.2.2.2.1⟩ HXP.out.2.2.2.2 (by omega)⟩
      have HK : Hid (∀ e ∈ X.1.es, e.1 ∈ fullT (A ++ [X.1])) := fun e he => known_more A X.1 e he
      clear HXP
      go_wp2_with fail
      refine kC.mono ?_
      rintro e w9 ⟨rfl, u9⟩
      have kF := full_any _ w9 ua (i + 1) uc (A ++ [X.1]) (hTU.bl u9) HU.out.1 (fun e he => (HU.out.2.1 e he).2) (fun e he => (HU.out.2.1 e he).1) HU.out.2.2.1 HU.out.2.2.2
      clear kC
      go_wp2_with fail
      refine kF.mono ?_
      rintro e w10 ⟨v10, rfl, ho10, u10⟩
      obtain ⟨a10, c10, rfl, hL10⟩ := LR.own ho10
      have u8a := bl_step u9 u10
      clear kF u9 u10 ho10
      obtain ⟨FL, hFL⟩ : ∃ l, fullT (A ++ [X.1]) = l := ⟨_, rfl⟩
      rw [hFL] at hL10 HK ⊢
      clear hFL
      obtain ⟨xp, ⟨ea, ec⟩, xo⟩ := X
      have hEs := HX8.out.1
      simp only at hEs HK HC8 HU HZ hTU
      have hml := hEs.2.1
      go_wp2_with fail
      go_loopw [14] (fun iv wr => ∃ k : Nat, k ≤ xp.es.length ∧ iv = .int .i64 k ∧ Below w10.heap.size w10 wr) (fun iv _ => xp.es.length - (intOf iv).toNat)
      case atStart => exact ⟨0, by omega, rfl, Below.refl _ _⟩
      case round =>
        obtain ⟨k, hk, rfl, ub2⟩ := hrel
        have ub := bl_step u8a ub2
        have y1 : wr.cell? ⟨g2, 1, none⟩ = some (.slice ea xp.es.length ec) := bl_cell ub (HC8.out 1 _ rfl)
        by_cases hlt : k < xp.es.length
        · have hltI : (k : Int) < (xp.es.length : Int) := by omega
          have hk0 : ¬ ((k : Int) < 0) := by omega
          obtain ⟨b, off, hea, _, hc⟩ := (hEs.bl ub).2.2 (by omega)
          obtain ⟨z, hzk⟩ : ∃ z, xp.es[k]? = some z := ⟨xp.es[k]'hlt, List.getElem?_eq_getElem _⟩
          obtain ⟨so, sn, sc9, c0, c1, c2, c3, _⟩ := hc k z hzk
          have hin := in_any wr a10 FL.length c10 FL (hL10.up ub2) z.1
          rw [show decide (z.1 ∈ FL) = true from decide_eq_true (HK.out z (List.mem_of_getElem? hzk))] at hin
          unfold lab at hin
          clear hc hzk
          subst hea
          go_wp2_with fail
          refine hin.mono ?_
          rintro e wq ⟨rfl, uq⟩
          have ub' := bl_step ub2 uq.bl
          clear hin c0 c1 c2 c3 y1
          go_wp2
          go_roundw
          case rel => first | exact ⟨k + 1, by omega, by go_num, ub'⟩ | ((repeat apply Exists.intro); exact ⟨⟨k + 1, by omega, by go_num, ub'⟩, rfl⟩)
          case measure => simp [intOf]; omega
        · obtain rfl : k = xp.es.length := by omega
          have hltI : ¬ ((xp.es.length : Int) < (xp.es.length : Int)) := by omega
          have hTu := hTU.bl ub
          have hTt := hTT'.bl ub
          have k1 := short_any _ wr ua (i + 1) uc (A ++ [xp]) hTu HU.out.2.2.1
          rw [HZ.out.2.2] at k1
          go_wp2_with fail
          refine k1.mono ?_
          rintro e wa ⟨va, rfl, hoa, uA⟩
          obtain ⟨aa, ca', rfl, hLa⟩ := LR.own hoa
          have k2 := short_any _ wa (some ⟨g, 0, none⟩) i tc A (hTt.bl uA) HA.out
          clear k1 hoa
          go_wp2_with fail
          refine k2.mono ?_
          rintro e wb ⟨vb, rfl, hob, uB⟩
          obtain ⟨ab, cb', rfl, hLb⟩ := LR.own hob
          have k3 := same_any wb aa (shortT A).length ca' (shortT A) (hLa.up uB) ab (shortT A).length cb' (shortT A) hLb
          simp only [decide_true] at k3
          clear k2 hob
          go_wp2_with fail
          refine k3.mono ?_
          rintro e wc ⟨rfl, uC⟩
          have v3 := bl_step ub (bl_step uA (bl_step uB uC.bl))
          have k4 := chosen_any _ wc ua (i + 1) uc (A ++ [xp]) (hTU.bl v3)
          rw [HZ.out.2.1] at k4
          clear k3 uA uB uC hLa hLb hTu hTt
          go_wp2_with fail
          refine k4.mono ?_
          rintro e wd ⟨rfl, uD⟩
          have v4 := bl_step v3 uD
          have k5 := chosen_any _ wd (some ⟨g, 0, none⟩) i tc A (hTT'.bl v4)
          clear k4 uD v3
          go_wp2_with fail
          refine k5.mono ?_
          rintro e we ⟨rfl, uE⟩
          have v5 := bl_step v4 uE
          have k6 := high_any _ we ua (i + 1) uc (A ++ [xp]) (hTU.bl v5)
          rw [HZ.out.1] at k6
          unfold vid at k6
          clear k5 uE v4
          go_wp2_with fail
          refine k6.mono ?_
          rintro e wf ⟨rfl, uF⟩
          have v6 := bl_step v5 uF
          have k7 := high_any _ wf (some ⟨g, 0, none⟩) i tc A (hTT'.bl v6)
          unfold vid at k7
          have heq := fun W => vid_equal (highT A).1 (highT A).2 (highT A).1 (highT A).2 W
          simp only [decide_true, Bool.and_self] at heq
          clear k6 uF v5
          go_wp2_with fail
          refine k7.mono ?_
          rintro e wg ⟨rfl, uG⟩
          have uf := bl_step U8.out (bl_step v6 uG)
          clear k7
          go_wp2
          go_ret
          exact ⟨rfl, uf⟩
set_option maxRecDepth 100000 in
theorem lifted (os : Os) (started : os.Started) (H : Type) (enc : TypeId × Value → H) :
    ReturnsInHanded {} Try.checked os 12 .any (Rows.exchangeMoreSpec.pre6 enc Try.prog Try.f12 Rows.exchangeMoreRow.domain false) (Rows.exchangeMoreSpec.post enc Try.prog Try.f12 false true false false) := by
  refine returnsInHanded_of_change_sized (C := Try.checked) own started (by kernel_rfl) Try.func12
    (ChangeSpec.witness6 (enc := enc) (C := Try.checked) false ⟨#[], #[.slice none 0 0, .agg #[.slice none 0 0, .slice none 0 0, .int .i64 0, .int .u64 0, .int .i64 0]], []⟩ 12 (by kernel_rfl) (by kernel_rfl) (by kernel_rfl) (by kernel_rfl)) ?_
  intro W base args ds gs before hval0 hW hcnd hsz0 _
  have hsz : (DataW.weightsEach Try.prog (Try.f12.params.toList ++ Rows.exchangeMoreSpec.plain.varTypes Try.prog) (ds ++ gs)).all (· ≤ reachBytes) = true := hsz0
  have hval : ∀ (j : Nat) t v, Try.f12.params[j]? = some t → args[j]? = some v → Value.okWide Try.prog W .any base t v := hval0
  have hW' := hW
  obtain ⟨p, q, hA0, hV, rfl, hfz, hnd⟩ := hW
  have hA : DataW.TrodAll enc Try.prog W 0 (fun _ => true) true Try.f12.params.toList args.toList ds p := hA0
  rw [Try.params12] at hA hval hsz
  obtain ⟨v0, vs0, d0, ds0, p0, q0, hargs0, rfl, rfl, h0, r0⟩ := trodAll_cons hA
  obtain ⟨v1, vs1, d1, ds1, p1, q1, hargs1, rfl, rfl, h1, r1⟩ := trodAll_cons r0
  obtain ⟨rfl, rfl, rfl⟩ := trodAll_nil r1
  obtain rfl : args = #[v0, v1] := by cases args; simp_all
  obtain ⟨rfl, rfl⟩ := trodVars_none hV
  obtain ⟨a0, len0, cap0, rfl⟩ := okWide_slice Try.underlying43 (hval 0 43 v0 rfl rfl)
  have k0 := h0
  have lt0 : ∀ x ∈ p0, x.block < W.heap.size := by obtain ⟨m, hm⟩ := k0; exact DataW.trod_lt m _ _ _ hm
  have hs0 := size_sums h0 (fits_of hsz (j := 0) rfl rfl)
  obtain ⟨xs0, hx0, ho0, hl0⟩ := open_sums h0 (fits_of hsz (j := 0) rfl rfl)
  have k1 := h1
  have lt1 : ∀ x ∈ p1, x.block < W.heap.size := by obtain ⟨m, hm⟩ := k1; exact DataW.trod_lt m _ _ _ hm
  obtain ⟨t1, ca1, cc1, oa1, oc1, rfl, hE1, hL1, hz1, hy1, hok1⟩ := open_sum2 (hval 1 63 v1 rfl rfl) h1 (fits_of hsz (j := 1) rfl rfl)
  clear hA0 hval0 hsz hsz0
  refine (walk W a0 len0 cap0 xs0 hx0 ho0 hs0.2 hs0.1 t1 ca1 cc1 oa1 oc1 hE1 hL1 hz1 hy1 hok1).mono fun e W' ⟨he, bel⟩ => ?_
  subst he
  exact ⟨_, rfl, _, _, _, [], _, [], hW', trodAll_mk1 (shut_bool Try.underlying4 _), (trodAll_cons_mk (Below.trod laidOut (by kernel_rfl) (of_decide_eq_true (by kernel_rfl)) k0 bel lt0) (trodAll_cons_mk (Below.trod laidOut (by kernel_rfl) (of_decide_eq_true (by kernel_rfl)) k1 bel lt1) trodAll_mk0)), rfl, bel.frame _, fun h => by cases h⟩

theorem over : Rows.exchangeMoreRow.holds Try.pinned (OpenSpec.ofChange Rows.exchangeMoreSpec) :=
  OpenClaim.holds_of_wide 12 Try.f12 rfl rfl rfl rfl rfl rfl rfl ⟨rfl, rfl, rfl, rfl, rfl⟩ rfl rfl rfl rfl rfl (by kernel_rfl) Try.func12 (by kernel_rfl)
    (of_decide_eq_true (by kernel_rfl)) (by unfold Func.isWrapper; first | (rw [if_pos (by decide +kernel)]; kernel_rfl) | (rw [if_neg (by decide +kernel)]; exact ⟨rfl, rfl⟩))
    (fun os started H enc _ => lifted os started H enc)

end Go.Proofs.Ytooeemhlpmiceaa.exchangeMore
namespace Go.Proofs.Ytooeemhlpmiceaa
theorem exchangeMore_holds : Rows.ExchangeMoreSaid := exchangeMore.over
#print axioms exchangeMore_holds
end Go.Proofs.Ytooeemhlpmiceaa
