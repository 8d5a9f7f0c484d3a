/-
  cut.Join: of each view the state that has the most, with copies of its items.
-/
import Derived.Test.YtlonbbepoamnmaaDoorSComp
import Derived.Test.YtlonbbepoamnmaaDoorSCopy2
namespace Go.Proofs.YtlonbbepoamnmaaDoor
open Go.RowKit Go.Sort
set_option linter.unusedVariables false

theorem keepT_mem {M : List Tg} : ∀ k, k ≤ M.length → ∀ t, t ∈ keepT M k ↔ ∃ j, j < k ∧ M[j]? = some t ∧ prevSame M j t = false
  | 0, _, t => by simp [keepT]
  | k + 1, hk, t => by
    obtain ⟨x, hx⟩ : ∃ x, M[k]? = some x := ⟨M[k]'(by omega), List.getElem?_eq_getElem (by omega)⟩
    rw [keepT, hx, List.mem_append, keepT_mem k (by omega) t]
    constructor
    · rintro (⟨j, h1, h2, h3⟩ | h)
      · exact ⟨j, by omega, h2, h3⟩
      · cases hp : prevSame M k x with
        | true => simp [hp] at h
        | false => simp [hp] at h; subst h; exact ⟨k, by omega, hx, hp⟩
    · rintro ⟨j, h1, h2, h3⟩
      by_cases e : j = k
      · subst e
        rw [hx] at h2
        cases h2
        exact .inr (by simp [h3])
      · exact .inl ⟨j, by omega, h2, h3⟩
theorem ltT_ltV {a b : Tg} (h : ltT a b) : ¬ ltV b a := by unfold ltT ltK ltV at *; omega
theorem prevSame_iff {M : List Tg} (hM : Asc M) {j : Nat} {t : Tg} (hj : M[j]? = some t) : prevSame M j t = false ↔ ∀ i u, i < j → M[i]? = some u → ¬ sameV u t := by
  unfold prevSame
  by_cases h0 : 0 < j
  · obtain ⟨y, hy⟩ : ∃ y, M[j - 1]? = some y := ⟨M[j - 1]'(by have := (List.getElem?_eq_some_iff.1 hj).1; omega), List.getElem?_eq_getElem _⟩
    rw [hy, decide_eq_true h0]
    simp only [Bool.true_and, decide_eq_false_iff_not]
    constructor
    · intro h i u hi hu hs
      have h1 := asc_le hM hu hy (by omega)
      have h2 := ltT_ltV (asc_get hM hy hj (by omega))
      have h3 : ¬ ltV y u := by
        rcases h1 with rfl | h1
        · exact ltV_irr _
        · exact ltT_ltV h1
      unfold ltV sameV at *
      omega
    · intro h hs
      exact h (j - 1) y (by omega) hy ⟨hs.1.symm, hs.2.symm⟩
  · have : j = 0 := by omega
    subst this
    simp
theorem keepT_asc {M : List Tg} (hM : Asc M) : ∀ k, k ≤ M.length → (keepT M k).Pairwise ltV
  | 0, _ => by simp [keepT]
  | k + 1, hk => by
    have ih := keepT_asc hM k (by omega)
    obtain ⟨x, hx⟩ : ∃ x, M[k]? = some x := ⟨M[k]'(by omega), List.getElem?_eq_getElem (by omega)⟩
    rw [keepT, hx]
    cases hp : prevSame M k x with
    | true => simpa [hp] using ih
    | false =>
      simp only [hp]
      show (keepT M k ++ [x]).Pairwise ltV
      rw [List.pairwise_append]
      refine ⟨ih, by simp, fun a ha b hb => ?_⟩
      simp at hb
      subst hb
      obtain ⟨j, h1, h2, _⟩ := (keepT_mem k (by omega) a).1 ha
      have hn := (prevSame_iff hM hx).1 hp j a h1 h2
      have hl := ltT_ltV (asc_get hM h2 hx h1)
      exact Classical.byContradiction fun h => hn (ltV_tri h hl)
/-- Those of a view, with where they stood. -/
def viewT (ss : List Sx) : List Tg := (tagl ss).filter (fun t => !decide (t.1.1 = 0))
theorem viewT_map (ss : List Sx) : (viewT ss).map (·.1) = out ss := by
  unfold viewT out
  have h := (List.filter_map (f := (·.1)) (p := fun x : Sx => !decide (x.1 = 0)) (l := tagl ss))
  rw [tagl_map] at h
  exact h.symm
theorem keepT_join {ss : List Sx} {M : List Tg} (hM : Asc M) (hp : M.Perm (viewT ss)) : IsJoin (tagl ss) (keepT M M.length) := by
  have hm : ∀ t, t ∈ M ↔ t ∈ tagl ss ∧ t.1.1 ≠ 0 := fun t => by
    rw [hp.mem_iff]
    unfold viewT
    rw [List.mem_filter]
    simp
  refine ⟨keepT_asc hM _ (Nat.le_refl _), fun t => ?_⟩
  rw [keepT_mem _ (Nat.le_refl _) t]
  constructor
  · rintro ⟨j, _, hj, hpv⟩
    obtain ⟨h1, h2⟩ := (hm t).1 (List.mem_of_getElem? hj)
    refine ⟨h1, h2, fun u hu hs hl => ?_⟩
    have huM : u ∈ M := (hm u).2 ⟨hu, by rw [hs.1]; exact h2⟩
    obtain ⟨i, hi⟩ := List.mem_iff_getElem?.1 huM
    by_cases hij : i < j
    · exact (prevSame_iff hM hj).1 hpv i u hij hi hs
    · rcases asc_le hM hj hi (by omega) with rfl | h
      · exact ltT_irr _ hl
      · exact ltT_irr _ (ltT_trans hl h)
  · rintro ⟨h1, h2, h3⟩
    obtain ⟨j, hj⟩ := List.mem_iff_getElem?.1 ((hm t).2 ⟨h1, h2⟩)
    refine ⟨j, (List.getElem?_eq_some_iff.1 hj).1, hj, (prevSame_iff hM hj).2 (fun i u hi hu hs => ?_)⟩
    exact h3 u ((hm u).1 (List.mem_of_getElem? hu)).1 hs (asc_get hM hu hj hi)

/-- One of the states gets other items. -/
theorem flat_put (A B : List Sx) (x : Sx) (rest : List Value) (a : Option Addr) (l c : Nat) : (flat (A ++ x :: B) ++ rest).set (A.length * 4 + 3) (.slice a l c) = flat (A ++ (x.1, x.2.1, x.2.2.1, a, l, c) :: B) ++ rest := by
  rw [flat_app, flat_cons, flat_app, flat_cons, List.append_assoc, List.append_assoc, List.append_assoc, List.append_assoc, List.set_append_right _ _ (by rw [flat_len]; omega), flat_len, show A.length * 4 + 3 - A.length * 4 = 3 by omega]
  simp [cellsS]
theorem Blk.put3 {w : World} {g cap k : Nat} {cur : List Sx} {x : Sx} (h : Blk w g cap cur) (hk : cur[k]? = some x) (a : Option Addr) (l c : Nat) :
    Blk (w.setCell ⟨g, k * 4 + 3, none⟩ (.slice a l c)) g cap (cur.set k (x.1, x.2.1, x.2.2.1, a, l, c)) ∧ w.grownBy (w.setCell ⟨g, k * 4 + 3, none⟩ (.slice a l c)) (some g) := by
  obtain ⟨r, h1, h2⟩ := h
  obtain ⟨hkl, hkx⟩ := List.getElem?_eq_some_iff.1 hk
  obtain ⟨A, B, rfl, hA⟩ : ∃ A B, cur = A ++ x :: B ∧ A.length = k := ⟨cur.take k, cur.drop (k + 1), by rw [← hkx]; simp, by rw [List.length_take]; omega⟩
  have hset : (A ++ x :: B).set k (x.1, x.2.1, x.2.2.1, a, l, c) = A ++ (x.1, x.2.1, x.2.2.1, a, l, c) :: B := by rw [← hA]; simp
  refine ⟨⟨r, ?_, ?_⟩, ⟨rfl, rfl, rfl, by simp [World.setCell], fun i hi hne => ?_⟩⟩
  · rw [heap_setCell_same w g (k * 4 + 3) _ 45 _ h1, hset]
    congr 2
    rw [← flat_put A B x r a l c, hA]
    simp
  · rw [hset]
    rw [← h2]
    simp [flat_len]
  · exact Below.heap_setCell w _ _ i (fun e => hne (by rw [e]))

/-- What Join answers. -/
def JoinPost (ss : List Sx) (es : List (List Di)) (w : World) (e : Ending) (w' : World) : Prop :=
  ∃ ao cap J rs, e = .returned (.slice ao J.length cap) ∧ IsJoin (tagl ss) J ∧ w'.ownsRow w.heap.size 45 4 (.slice ao J.length cap) J.length (flat rs) ∧ Alike (J.map (·.1)) rs ∧ Sts (fun b => w.heap.size ≤ b) w' ao J.length rs (esAt es J) ∧ (∀ (j : Nat) (x : Sx) (e : List Di), rs[j]? = some x → (esAt es J)[j]? = some e → Its (fun b => w.heap.size ≤ b ∧ ∀ a, ao = some a → b ≠ a.block) w' x.2.2.2.1 x.2.2.2.2.1 e) ∧ (∀ x ∈ rs, x.2.2.2.2.1 ≤ x.2.2.2.2.2 ∧ x.2.2.2.2.2 ≤ 9223372036854775807) ∧ Below w.heap.size w w'
theorem JoinPost.nil {ss : List Sx} {es : List (List Di)} {w w' : World} (h : viewT ss = []) (hb : Below w.heap.size w w') : JoinPost ss es w (.returned (.slice none 0 0)) w' := by
  have hj := keepT_join (ss := ss) (M := []) (by unfold Asc; simp) (by rw [h])
  refine ⟨none, 0, [], [], rfl, hj, ⟨rfl, .inl ⟨rfl, rfl⟩⟩, Alike.refl _, ⟨⟨rfl, by simp, fun _ => rfl, fun h => by simp at h⟩, rfl, fun j x e hx => by simp at hx⟩, (fun j x e hx => by simp at hx), by simp, hb⟩

set_option maxRecDepth 10000 in
set_option maxHeartbeats 4000000 in
theorem join_any (p : Nat → Prop) (w : World) (ao : Option Addr) (n cap : Nat) (ss : List Sx) (es : List (List Di)) (h : Sts p w ao n ss es) (hok : ∀ x ∈ ss, OkS x) (hn : n ≤ 1000) :
    Calls Tryd.prog 79 #[.slice ao n cap] w fun e w' => JoinPost ss es w e w' := by
  have hl := h.1.1
  have hcl := clone_any w ao n cap p ss h.1 hn
  have HS : Hid (Sts p w ao n ss es ∧ ∀ x ∈ ss, OkS x) := ⟨h, hok⟩
  clear h hok
  go_enter Tryd.func79, Tryd.ntmps79
  go_wp2_with fail
  refine hcl.mono ?_
  rintro e w1 ⟨v, rfl, hown, hb1⟩
  clear hcl
  rcases own_shape hown with ⟨rfl, rfl⟩ | ⟨g, cp, rfl, hbg, _⟩
  · have hv : viewT ss = [] := by rw [List.length_eq_zero_iff.1 hl]; rfl
    clear hown
    go_wp2_with fail
    refine (deleteFunc_none _).mono ?_
    rintro e w2 ⟨rfl, hu2⟩
    have hb2 := bl_step hb1 hu2.bl
    clear hu2 hb1
    go_wp2_with fail
    refine (sort_none _).mono ?_
    rintro e w3 ⟨rfl, rfl⟩
    go_wp2_with fail
    refine (compact_none _).mono ?_
    rintro e w3 ⟨rfl, rfl⟩
    go_wp2
    refine wp_loop_rounds 1 ?_
    rw [rounds_succ]
    go_wp2
    go_ret
    exact JoinPost.nil hv hb2
  · have hdl := deleteFunc_some w1 g n cp w.heap.size ss hown
    clear hown
    go_wp2_with fail
    refine hdl.mono ?_
    rintro e w2 ⟨v2, rfl, hown2, hg2⟩
    have hb2 : Below w.heap.size w w2 := bl_grown hb1 hb1.size hg2 (fun k hk => by cases hk; exact hbg)
    clear hdl hg2 hb1 hbg
    have hvl : (viewT ss).length = (out ss).length := by rw [← viewT_map]; simp
    rcases own_shape hown2 with ⟨rfl, h0⟩ | ⟨g2, cp2, rfl, hbg2, _⟩
    · have hv : viewT ss = [] := List.length_eq_zero_iff.1 (by omega)
      clear hown2 hvl h0
      go_wp2_with fail
      refine (sort_none _).mono ?_
      rintro e w3 ⟨rfl, rfl⟩
      go_wp2_with fail
      refine (compact_none _).mono ?_
      rintro e w3 ⟨rfl, rfl⟩
      go_wp2
      refine wp_loop_rounds 1 ?_
      rw [rounds_succ]
      go_wp2
      go_ret
      exact JoinPost.nil hv hb2
    · obtain ⟨hblk, _, hnc2, hcm2⟩ := Blk.ofOwn hown2
      have hblkT : BlkT w2 g2 cp2 (viewT ss) := by unfold BlkT; rw [viewT_map]; exact hblk
      have hol : (out ss).length ≤ 1000 := by
        have := List.length_filter_le (fun x : Sx => !decide (x.1 = 0)) ss
        unfold out
        omega
      have hso := sort_any w2 g2 cp2 (out ss).length (viewT ss) hblkT hvl (by omega) (List.Pairwise.sublist List.filter_sublist (tagl_tags ss)) (fun t ht => HS.out.2 t.1 (List.mem_of_getElem? (tagl_mem (List.mem_filter.1 ht).1)))
      obtain ⟨n2, hn2⟩ : ∃ n2, (out ss).length = n2 := ⟨_, rfl⟩
      simp only [hn2] at *
      clear hown2 hblk hblkT hnc2
      go_wp2_with fail
      refine hso.mono ?_
      rintro e w3 ⟨rfl, M, hpm, hasc, hblk3, hg3⟩
      have hb3 : Below w.heap.size w w3 := bl_grown hb2 hb2.size hg3 (fun k hk => by cases hk; exact hbg2)
      have hML : M.length = n2 := by rw [hpm.length_eq]; exact hvl
      have hcp := compact_some w3 g2 n2 cp2 w.heap.size M hblk3 hML hbg2 hcm2
      have HJ : Hid (IsJoin (tagl ss) (keepT M n2)) := by have := keepT_join hasc hpm; rw [hML] at this; exact this
      clear hso hpm hasc hblk3 hg3 hb2
      go_wp2_with fail
      refine hcp.mono ?_
      rintro e w4 ⟨v4, rfl, hown4, hg4⟩
      have hb4 : Below w.heap.size w w4 := bl_grown hb3 hb3.size hg4 (fun k hk => by cases hk; exact hbg2)
      obtain ⟨J, hJe⟩ : ∃ J, keepT M n2 = J := ⟨_, rfl⟩
      rw [hJe] at HJ hown4
      clear hcp hg4 hb3 hbg2 hML hJe
      rcases own_shape hown4 with ⟨rfl, h0⟩ | ⟨g4, cp4, rfl, hbg4, hgs4⟩
      · have hJ0 : J = [] := List.length_eq_zero_iff.1 h0
        subst hJ0
        clear hown4 h0
        go_wp2
        refine wp_loop_rounds 1 ?_
        rw [rounds_succ]
        go_wp2
        go_ret
        refine ⟨none, 0, [], [], rfl, HJ.out, ⟨rfl, .inl ⟨rfl, rfl⟩⟩, Alike.refl _, ⟨⟨rfl, by simp, fun _ => rfl, fun h => by simp at h⟩, rfl, fun j x e hx => by simp at hx⟩, (fun j x e hx => by simp at hx), by simp, hb4⟩
      · obtain ⟨hblk4, _, hnc4, hcm4⟩ := Blk.ofOwn (ls := J.map (·.1)) hown4
        have HB4 : Hid (Blk w4 g4 cp4 (J.map (·.1))) := hblk4
        have hJl : J.length ≤ 1000 := by
          have := nodup_len (ascV_nodup HJ.out.1) (fun x hx => ((HJ.out.2 x).1 hx).1)
          rw [tagl_len] at this
          omega
        have hwide : cp4 ≤ 9223372036854775807 := by unfold maxLen at hcm4; omega
        clear hown4 hblk4
        go_wp2_with fail
        go_loopw [4, 14] (fun _ kv wr => ∃ (k : Nat) (rs : List Sx), k ≤ J.length ∧ kv = .int .i64 (k : Nat) ∧ Blk wr g4 cp4 rs ∧ Alike (J.map (·.1)) rs ∧ (∀ j, k ≤ j → rs[j]? = (J.map (·.1))[j]?) ∧ (∀ (j : Nat) (x : Sx) (e : List Di), j < k → rs[j]? = some x → (esAt es J)[j]? = some e → Its (fun b => w.heap.size ≤ b ∧ b ≠ g4) wr x.2.2.2.1 x.2.2.2.2.1 e ∧ x.2.2.2.2.1 ≤ x.2.2.2.2.2 ∧ x.2.2.2.2.2 ≤ 9223372036854775807) ∧ Below w.heap.size w wr ∧ g4 < wr.heap.size) (fun _ kv _ => J.length - (intOf kv).toNat)
        case atStart => exact ⟨0, J.map (·.1), by omega, rfl, HB4.out, Alike.refl _, fun _ _ => rfl, fun j x e hj => by omega, hb4, hgs4⟩
        case round =>
          clear HB4 hb4 hgs4
          obtain ⟨k, rs, hk, rfl, hblk, hal, hrs, hits, hbl, hgl⟩ := hrel
          by_cases hlt : k < J.length
          · have hltI : (k : Int) < (J.length : Int) := by omega
            obtain ⟨t, ht⟩ : ∃ t, J[k]? = some t := ⟨J[k]'(by omega), List.getElem?_eq_getElem (by omega)⟩
            have hrk : rs[k]? = some t.1 := by rw [hrs k (Nat.le_refl _), List.getElem?_map, ht]; rfl
            have hts := tagl_mem ((HJ.out.2 t).1 (List.mem_of_getElem? ht)).1
            obtain ⟨e0, he0⟩ : ∃ e0, es[t.2]? = some e0 := ⟨es[t.2]'(by have := (List.getElem?_eq_some_iff.1 hts).1; have := HS.out.1.2.1; omega), List.getElem?_eq_getElem _⟩
            have hek : (esAt es J)[k]? = some e0 := by unfold esAt; rw [List.getElem?_map, ht]; simp [he0]
            have hi0 := (HS.out.1.2.2 t.2 t.1 e0 hts he0).keep (Kp.up hbl)
            have hco := copied2_any p wr t.1.2.2.2.1 t.1.2.2.2.2.1 t.1.2.2.2.2.2 e0 hi0
            obtain ⟨c0, c1, c2, c3⟩ := Blk.cell hblk hrk
            have hfz := fun j => Blk.free hblk j
            have HIN : Hid (Blk wr g4 cp4 rs ∧ Alike (J.map (·.1)) rs ∧ (∀ j, k ≤ j → rs[j]? = (J.map (·.1))[j]?) ∧ (∀ (j : Nat) (x : Sx) (e : List Di), j < k → rs[j]? = some x → (esAt es J)[j]? = some e → Its (fun b => w.heap.size ≤ b ∧ b ≠ g4) wr x.2.2.2.1 x.2.2.2.2.1 e ∧ x.2.2.2.2.1 ≤ x.2.2.2.2.2 ∧ x.2.2.2.2.2 ≤ 9223372036854775807) ∧ rs[k]? = some t.1 ∧ (esAt es J)[k]? = some e0) := ⟨hblk, hal, hrs, hits, hrk, hek⟩
            have hk0 : ¬ ((k : Int) < 0) := by omega
            clear hblk hal hrs hits ht hrk hts he0 hek hi0
            go_wp2_with fail
            refine hco.mono ?_
            rintro e w5 ⟨ao5, cap5, rfl, hcc1, hcc2, hit5, hb5⟩
            have c3' : w5.cell? ⟨g4, k * 4 + 3, none⟩ = some (.slice t.1.2.2.2.1 t.1.2.2.2.2.1 t.1.2.2.2.2.2) := (hb5.cell hgl).trans c3
            have hf5 : ∀ i, w5.frozen? ⟨g4, i, none⟩ = false := fun i => (hb5.frozen hgl).trans (hfz i)
            obtain ⟨w6, hw6⟩ : ∃ w6, w5.setCell ⟨g4, k * 4 + 3, none⟩ (.slice ao5 t.1.2.2.2.2.1 cap5) = w6 := ⟨_, rfl⟩
            have HN : Hid (∃ rs' : List Sx, Blk w6 g4 cp4 rs' ∧ Alike (J.map (·.1)) rs' ∧ (∀ j, k + 1 ≤ j → rs'[j]? = (J.map (·.1))[j]?) ∧ (∀ (j : Nat) (x : Sx) (e : List Di), j < k + 1 → rs'[j]? = some x → (esAt es J)[j]? = some e → Its (fun b => w.heap.size ≤ b ∧ b ≠ g4) w6 x.2.2.2.1 x.2.2.2.2.1 e ∧ x.2.2.2.2.1 ≤ x.2.2.2.2.2 ∧ x.2.2.2.2.2 ≤ 9223372036854775807) ∧ Below w.heap.size w w6 ∧ g4 < w6.heap.size) := by
              obtain ⟨i1, i2, i3, i4, i5, i6⟩ := HIN.out
              rw [← hw6]
              have hkl := (List.getElem?_eq_some_iff.1 i5).1
              have hbw : Below w.heap.size w w5 := bl_step hbl hb5
              have kp1 : Kp (fun b => w.heap.size ≤ b ∧ b ≠ g4) w5 (w5.setCell ⟨g4, k * 4 + 3, none⟩ (.slice ao5 t.1.2.2.2.2.1 cap5)) := Kp.setCell (fun b hb => hb.2)
              refine ⟨rs.set k (t.1.1, t.1.2.1, t.1.2.2.1, ao5, t.1.2.2.2.2.1, cap5), ((i1.up hb5).put3 i5 ao5 _ cap5).1, ⟨by rw [List.length_set]; exact i2.1, fun j x y hx hy => ?_⟩, fun j hj => by rw [List.getElem?_set_ne (by omega)]; exact i3 j (by omega), fun j x e hj hx he => ?_, hbw.setCell (by omega) _, ?_⟩
              · by_cases e : j = k
                · subst e
                  rw [List.getElem?_set_self hkl] at hy
                  cases hy
                  rw [← i3 j (Nat.le_refl _), i5] at hx
                  cases hx
                  exact ⟨rfl, rfl, rfl⟩
                · rw [List.getElem?_set_ne (by omega)] at hy
                  exact i2.2 j x y hx hy
              · by_cases e' : j = k
                · subst e'
                  rw [List.getElem?_set_self hkl] at hx
                  cases hx
                  rw [i6] at he
                  cases he
                  refine ⟨(hit5.imp (fun b _ hb => ?_)).keep kp1, hcc1, hcc2⟩
                  have := hbl.size
                  exact ⟨by omega, by omega⟩
                · rw [List.getElem?_set_ne (by omega)] at hx
                  obtain ⟨q1, q2⟩ := i4 j x e (by omega) hx he
                  exact ⟨(q1.keep (Kp.up hb5)).keep kp1, q2⟩
              · have := hb5.size
                simp [World.setCell]; omega
            clear hco hit5 hb5 HIN hbl c0 c1 c2 c3
            go_wp2_with fail
            (try simp only [hw6])
            clear hw6
            go_roundw
            case rel =>
              obtain ⟨rs', n1, n2, n3, n4, n5, n6⟩ := HN.out
              first | exact ⟨k + 1, rs', by omega, by go_num, n1, n2, n3, n4, n5, n6⟩ | ((repeat apply Exists.intro); exact ⟨⟨k + 1, rs', by omega, by go_num, n1, n2, n3, n4, n5, n6⟩, rfl⟩)
            case measure => simp [intOf]; omega
          · have hkJ : k = J.length := by omega
            have hltI : ¬ ((k : Int) < (J.length : Int)) := by omega
            have hrl : rs.length = J.length := by rw [← hal.1]; simp
            have HE : Hid (wr.ownsRow w.heap.size 45 4 (.slice (some ⟨g4, 0, none⟩) J.length cp4) J.length (flat rs) ∧ Alike (J.map (·.1)) rs ∧ Sts (fun b => w.heap.size ≤ b) wr (some ⟨g4, 0, none⟩) J.length rs (esAt es J) ∧ (∀ (j : Nat) (x : Sx) (e : List Di), rs[j]? = some x → (esAt es J)[j]? = some e → Its (fun b => w.heap.size ≤ b ∧ ∀ a, (some ⟨g4, 0, none⟩ : Option Addr) = some a → b ≠ a.block) wr x.2.2.2.1 x.2.2.2.2.1 e) ∧ (∀ x ∈ rs, x.2.2.2.2.1 ≤ x.2.2.2.2.2 ∧ x.2.2.2.2.2 ≤ 9223372036854775807) ∧ Below w.heap.size w wr) := by
              have how := Blk.own hblk hbg4 hcm4 J.length (by omega)
              rw [List.take_of_length_le (by omega)] at how
              obtain ⟨ao', c', e', hsr, _⟩ := SR.own how
              simp only [Value.slice.injEq] at e'
              obtain ⟨rfl, _, rfl⟩ := e'
              have hel : (esAt es J).length = J.length := by simp [esAt]
              refine ⟨how, hal, ⟨hsr.imp (fun b _ hb => hb.2), hel, fun j x e hx he => ((hits j x e (by have := (List.getElem?_eq_some_iff.1 hx).1; omega) hx he).1).imp (fun b _ hb => hb.1)⟩, (fun j x e hx he => ((hits j x e (by have := (List.getElem?_eq_some_iff.1 hx).1; omega) hx he).1).imp (fun b _ hb => ⟨hb.1, fun a ha => by cases ha; exact hb.2⟩)), fun x hx => ?_, hbl⟩
              obtain ⟨j, hj⟩ := List.mem_iff_getElem?.1 hx
              have hjl := (List.getElem?_eq_some_iff.1 hj).1
              exact (hits j x _ (by omega) hj (List.getElem?_eq_getElem (by omega))).2
            clear hblk hal hrs hits hbl
            go_wp2
            go_ret
            exact ⟨some ⟨g4, 0, none⟩, cp4, J, rs, rfl, HJ.out, HE.out⟩
end Go.Proofs.YtlonbbepoamnmaaDoor
