/-
  exchange's Short.
-/
import Derived.Test.YtlaihgdfedalmaaGreatXCho
import Derived.Test.YtlaihgdfedalmaaGreatQAll
import Derived.Test.YtlaihgdfedalmaaGreatTMerge
namespace Go.Proofs.YtlaihgdfedalmaaGreat
open Go.RowKit
set_option linter.unusedVariables false
set_option linter.unusedSimpArgs false

/-- The first of a node. -/
def atT (ts : List Pt) (c : Int) : Option Pt := ts.find? (fun t => decide (t.node = c))
def shortT (ts : List Pt) : List Lb := if chT ts = -1 then [] else ((atT ts (chT ts)).map (·.ls)).getD []
theorem ch_has (hh : Nat × Int) : ∀ (ts : List Pt) (c : Int), ts.foldl (chF hh) c = c ∨ ∃ t ∈ ts, t.node = ts.foldl (chF hh) c
  | [], c => .inl rfl
  | t :: r, c => by
    have h1 : chF hh c t = c ∨ chF hh c t = t.node := by
      unfold chF
      split
      · split
        · exact .inr rfl
        · exact .inl rfl
      · exact .inl rfl
    rcases ch_has hh r (chF hh c t) with h | ⟨u, hu, he⟩
    · rcases h1 with h2 | h2
      · exact .inl (by show r.foldl (chF hh) (chF hh c t) = c; rw [h, h2])
      · exact .inr ⟨t, by simp, by show t.node = r.foldl (chF hh) (chF hh c t); rw [h, h2]⟩
    · exact .inr ⟨u, by simp [hu], he⟩

set_option maxRecDepth 10000 in
theorem isNode_any (w : World) (B : Nat) (c : Int) (hB : w.cell? ⟨B, 0, none⟩ = some (.int .i64 c)) (v0 : Int) (v1 v2 v3 v4 v5 : Value) :
    Calls Tryz.prog 161 #[.agg #[.int .i64 v0, v1, v2, v3, v4, v5], .pointer (some ⟨B, 0, none⟩)] w fun e w' => e = .returned (.bool (decide (v0 = c))) ∧ Below w.heap.size w w' := by
  have ba := bl1 w (.cells #[.int .i64 v0, v1, v2, v3, v4, v5] 120)
  have x0 := cell_box w #[.int .i64 v0, v1, v2, v3, v4, v5] 120 0 _ rfl
  have y0 := bl_cell ba hB
  go_enter Tryz.func161, Tryz.ntmps161
  go_wp2
  go_ret
  exact ⟨ret_bool (by first | rfl | (by_cases h : v0 = c <;> simp [h])), ba⟩

set_option maxRecDepth 10000 in
set_option maxHeartbeats 2000000 in
theorem index_any (p : Nat → Prop) (w : World) (ao : Option Addr) (n cap : Nat) (ts : List Pt) (h : TL p w ao n ts) (B : Nat) (c : Int) (hB : w.cell? ⟨B, 0, none⟩ = some (.int .i64 c)) (hex : ∃ t ∈ ts, t.node = c) :
    Calls Tryz.prog 129 #[.slice ao n cap, .func (.func 161) #[] #[.pointer (some ⟨B, 0, none⟩)]] w fun e w' => (∃ (j : Nat) (t : Pt), e = .returned (.int .i64 (j : Nat)) ∧ ts[j]? = some t ∧ atT ts c = some t) ∧ Below w.heap.size w w' := by
  have hl := h.1
  have hmax := h.2.1
  have HEX : Hid (∃ t ∈ ts, t.node = c) := hex
  clear hex
  go_enter Tryz.func129, Tryz.ntmps129
  go_wp2_with fail
  go_loopw [5, 8] (fun jv iv wr => ∃ (k : Nat), k ≤ n ∧ iv = .int .i64 k ∧ (∃ u, jv = u) ∧ (∀ (j : Nat) t, j < k → ts[j]? = some t → t.node ≠ c) ∧ Below w.heap.size w wr) (fun _ iv _ => n - (intOf iv).toNat)
  case atStart => exact ⟨0, by omega, rfl, ⟨_, rfl⟩, fun j t hj => by omega, Below.refl _ _⟩
  case round =>
    obtain ⟨k, hk, rfl, ⟨bv, hbv⟩, hno, hb⟩ := hrel
    have HNO : Hid (∀ (j : Nat) t, j < k → ts[j]? = some t → t.node ≠ c) := hno
    clear hno
    replace hbv := hbv.symm
    subst hbv
    by_cases hlt : k < n
    · have hltI : (k : Int) < (n : Int) := by omega
      have hk0 : ¬ ((k : Int) < 0) := by omega
      obtain ⟨t, ht⟩ : ∃ z, ts[k]? = some z := ⟨ts[k]'(by omega), List.getElem?_eq_getElem (by omega)⟩
      have HT : Hid (ts[k]? = some t) := ht
      obtain ⟨b, off, hao, _, hc⟩ := h.2.2 (by omega)
      obtain ⟨c0, ca, cc, oa, oc, ⟨c1, c2, c3, c4, c5⟩, hrest⟩ := hc k t ht
      have kk : ∀ {ad : Addr} {v : Value}, w.cell? ad = some v → wr.cell? ad = some v := fun hv => (hb.cell (World.block_lt_of_cell? w _ hv)).trans hv
      replace c0 := kk c0
      replace c1 := kk c1
      replace c2 := kk c2
      replace c3 := kk c3
      replace c4 := kk c4
      replace c5 := kk c5
      have hin := isNode_any wr B c (kk hB) t.node (.slice ca t.es.length cc) (.slice oa t.ls.length oc) (.int .i64 t.nx) (.int .u64 (t.hn : Nat)) (.int .i64 t.hp)
      subst hao
      obtain ⟨q, hq⟩ : ∃ q, decide (t.node = c) = q := ⟨_, rfl⟩
      rw [hq] at hin
      clear hc ht kk hrest
      cases q with
      | true =>
        have HA : Hid (atT ts c = some t) := by
          show ts.find? _ = _
          rw [List.find?_eq_some_iff_getElem]
          obtain ⟨h1, h2⟩ := List.getElem?_eq_some_iff.1 HT.out
          refine ⟨hq, k, h1, h2, fun j hj => ?_⟩
          have := HNO.out j _ hj (List.getElem?_eq_getElem (by omega))
          simpa using this
        clear hq HNO
        go_wp2_with (refine wpList_load_T rfl (.tmp 14) rfl b (off + k * 6) rfl _ _ _ _ _ _ c0 c1 c2 c3 c4 c5 ?_)
        refine hin.mono ?_
        rintro e w2 ⟨rfl, u2⟩
        have uf := bl_step hb u2
        clear hin
        go_wp2
        go_ret
        exact ⟨⟨k, t, rfl, HT.out, HA.out⟩, uf⟩
      | false =>
        have HN2 : Hid (∀ (j : Nat) t, j < k + 1 → ts[j]? = some t → t.node ≠ c) := fun j u hj hu => by
          by_cases e : j = k
          · subst e
            rw [HT.out] at hu
            cases hu
            simpa using hq
          · exact HNO.out j u (by omega) hu
        clear hq HNO
        go_wp2_with (refine wpList_load_T rfl (.tmp 14) rfl b (off + k * 6) rfl _ _ _ _ _ _ c0 c1 c2 c3 c4 c5 ?_)
        refine hin.mono ?_
        rintro e w2 ⟨rfl, u2⟩
        have uf := bl_step hb u2
        clear hin
        go_wp2
        go_roundw
        case rel => first | exact ⟨k + 1, by omega, by go_num, ⟨_, rfl⟩, HN2.out, uf⟩ | ((repeat apply Exists.intro); exact ⟨⟨k + 1, by omega, by go_num, ⟨_, rfl⟩, HN2.out, uf⟩, rfl⟩)
        case measure => simp [intOf]; omega
    · exfalso
      obtain ⟨t, ht, hc⟩ := HEX.out
      obtain ⟨j, hj, hje⟩ := List.getElem_of_mem ht
      exact HNO.out j t (by omega) (by rw [← hje]; exact List.getElem?_eq_getElem hj) hc

set_option maxRecDepth 10000 in
set_option maxHeartbeats 2000000 in
theorem short_any (p : Nat → Prop) (w : World) (ao : Option Addr) (n cap : Nat) (ts : List Pt) (h : TL p w ao n ts) (hll : ∀ t ∈ ts, t.ls.length ≤ 5000) :
    Calls Tryz.prog 131 #[.slice ao n cap] w fun e w' => ∃ v, e = .returned v ∧ w'.ownsRow w.heap.size 39 4 v (shortT ts).length (flat (shortT ts)) ∧ Below w.heap.size w w' := by
  have hch := chosen_any p w ao n cap ts h
  have hl := h.1
  have hmax := h.2.1
  have HH : Hid (chT ts ≠ -1 → ∃ t ∈ ts, t.node = chT ts) := fun hne => by
    rcases ch_has (highT ts) ts (-1) with h1 | h1
    · exact absurd h1 hne
    · exact h1
  obtain ⟨c, HC⟩ : ∃ c, Hid (chT ts = c) := ⟨_, rfl⟩
  rw [HC.out] at hch HH
  go_enter Tryz.func131, Tryz.ntmps131
  go_wp2_with fail
  refine hch.mono ?_
  rintro e w1 ⟨rfl, u1⟩
  have ba := bl1 w1 (.cells #[.int .i64 c] 3)
  have y0 := cell_box w1 #[.int .i64 c] 3 0 _ rfl
  have u2 := bl_step u1 ba
  clear hch
  by_cases h1 : c = -1
  · have HS : Hid (shortT ts = []) := by show shortT ts = []; unfold shortT; rw [HC.out, if_pos h1]
    subst h1
    clear HH
    go_wp2
    go_ret
    refine ⟨_, rfl, ?_, u2⟩
    rw [HS.out]
    exact World.ownsRow_nil _ _ _ _
  · have h1b : (c == -1) = false := by simpa using h1
    have hix := index_any p _ ao n cap ts (h.bl u2) w1.heap.size c y0 (HH.out h1)
    clear HH
    go_wp2_with fail
    refine hix.mono ?_
    rintro e w3 ⟨⟨j, t, rfl, hj, hat⟩, u3⟩
    have HS : Hid (shortT ts = t.ls) := by show shortT ts = t.ls; unfold shortT; rw [HC.out, if_neg h1, hat]; rfl
    have u03 := bl_step u2 u3
    have hjl := (List.getElem?_eq_some_iff.1 hj).1
    have hjI : (j : Int) < (n : Int) := by omega
    have hj0 : ¬ ((j : Int) < 0) := by omega
    obtain ⟨b, off, hao, _, hc⟩ := (h.bl u03).2.2 (by omega)
    obtain ⟨c0, ca, cc, oa, oc, ⟨c1, c2, c3, c4, c5⟩, hr1, hr2, hr3, hr4, hr5⟩ := hc j t hj
    subst hao
    have hcl := Q.clone_any w3 oa t.ls.length oc t.ls hr2 (hll t (List.mem_of_getElem? hj)) (fun e => (hr5 e).1)
    clear hix hc hat hj y0
    go_wp2_with fail
    refine hcl.mono ?_
    rintro e w4 ⟨v, rfl, ho, u4⟩
    have uf := bl_step u03 u4
    have HO : Hid (w4.ownsRow w.heap.size 39 4 v t.ls.length (flat t.ls)) := own_base ho u03.size
    clear hcl ho
    go_wp2
    go_ret
    refine ⟨v, rfl, ?_, uf⟩
    rw [HS.out]
    exact HO.out
end Go.Proofs.YtlaihgdfedalmaaGreat
