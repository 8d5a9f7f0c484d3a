/-
  Sorting a row of entries of one's own; what the sorted row says.
-/
import Derived.Test.YtlaihgdfedalmaaGreatTAll
import Derived.Test.YtlaihgdfedalmaaGreatTCat
import Derived.Test.YtlaihgdfedalmaaGreatTPlain
import Derived.Test.YtlaihgdfedalmaaGreatTRound
namespace Go.Proofs.YtlaihgdfedalmaaGreat
open Go.RowKit Go.Sort
set_option linter.unusedVariables false
set_option linter.unusedSimpArgs false

theorem sort_nil (w : World) : Calls Tryz.prog 142 #[.slice none 0 0, .func (.func 143) #[] #[]] w fun e w' => e = .returned (.tuple #[]) ∧ w' = w := by
  have hin : ∀ W, Calls Tryz.prog 179 #[.slice none 0 0, .int .i64 0, .int .i64 0, .func (.func 143) #[] #[]] W fun e w' => e = .returned (.tuple #[]) ∧ w' = W := fun W => by
    go_enter Tryz.func179, Tryz.ntmps179
    go_wp2
    refine wp_loop_rounds 1 ?_
    rw [rounds_succ]
    go_wp2
    go_end0
    exact ⟨rfl, rfl⟩
  have hst : Calls Tryz.prog 169 #[.slice none 0 0, .int .i64 0, .func (.func 143) #[] #[]] w fun e w' => e = .returned (.tuple #[]) ∧ w' = w := by
    go_enter Tryz.func169, Tryz.ntmps169
    go_wp2
    refine wp_loop_rounds 1 ?_
    rw [rounds_succ]
    go_wp2_with fail
    refine (hin _).mono ?_
    rintro e w1 ⟨rfl, rfl⟩
    go_wp2
    refine wp_loop_rounds 1 ?_
    rw [rounds_succ]
    go_wp2
    go_end0
    exact ⟨rfl, rfl⟩
  clear hin
  go_enter Tryz.func142, Tryz.ntmps142
  go_wp2_with fail
  refine hst.mono ?_
  rintro e w1 ⟨rfl, rfl⟩
  go_wp2
  go_end0
  exact ⟨rfl, rfl⟩
theorem tags_zip (xs : List T.Sx) : T.Tags xs.zipIdx := by
  unfold T.Tags
  rw [List.pairwise_iff_getElem]
  intro i j hi hj hij
  simpa using hij
/-- A row of entries of one's own, sorted. -/
theorem sort_own (w : World) (B n : Nat) (v : Value) (xs : List T.Sx) (h : w.ownsRow B 41 5 v n (T.flat xs)) (hx : xs.length = n) (hmax : n ≤ 1000000) :
    Calls Tryz.prog 142 #[v, .func (.func 143) #[] #[]] w fun e w' => e = .returned (.tuple #[]) ∧ ∃ M : List T.Tg, M.Perm xs.zipIdx ∧ T.Asc M ∧ w'.ownsRow B 41 5 v n (T.flat (M.map (·.1))) ∧ w.grownBy w' v.ownBlock := by
  rcases id h.2 with ⟨rfl, h0⟩ | ⟨g, cap, cur, rfl, hg, hh, hnc, hcm, hcs, htk⟩
  · obtain rfl : xs = [] := List.eq_nil_of_length_eq_zero (by omega)
    refine (sort_nil w).mono ?_
    rintro e w' ⟨rfl, rfl⟩
    exact ⟨rfl, [], by simp, by unfold T.Asc; simp, h, T.gr_refl _ _⟩
  · obtain ⟨hb, _, _, _⟩ := T.Blk.ofOwn h
    have hb2 : T.BlkT w g cap xs.zipIdx := by
      unfold T.BlkT
      rw [List.zipIdx_map_fst]
      exact hb
    refine (T.sort_any w g cap n xs.zipIdx hb2 (by simpa using hx) hmax (tags_zip xs) (fun _ _ => trivial)).mono ?_
    rintro e w' ⟨rfl, M, hp, ha, hb', hgr⟩
    have hl : (M.map (·.1)).length = n := by rw [List.length_map, hp.length_eq]; simpa using hx
    refine ⟨rfl, M, hp, ha, ?_, hgr⟩
    have := T.Blk.own (B := B) hb' hg hcm n (by omega)
    rw [List.take_of_length_le (by omega)] at this
    exact this
/-- Its cells. -/
theorem own_c5 {w : World} {B n : Nat} {v : Value} {xs : List T.Sx} (h : w.ownsRow B 41 5 v n (T.flat xs)) (hx : xs.length = n) :
    ∃ go cap g, v = .slice go n cap ∧ (0 < n → go = some ⟨g, 0, none⟩ ∧ v.ownBlock = some g ∧ B ≤ g ∧ g < w.heap.size) ∧ ∀ j x, xs[j]? = some x → C5 w g (0 + j * 5) x := by
  rcases id h.2 with ⟨rfl, h0⟩ | ⟨g, cap, cur, rfl, hg, hh, hnc, hcm, hcs, htk⟩
  · obtain rfl : xs = [] := List.eq_nil_of_length_eq_zero (by omega)
    exact ⟨none, 0, 0, by rw [h0], fun hn => by omega, fun j x hj => by simp at hj⟩
  · obtain ⟨hb, _, _, _⟩ := T.Blk.ofOwn h
    refine ⟨_, _, g, rfl, fun _ => ⟨rfl, rfl, hg, hb.lt⟩, fun j x hj => ?_⟩
    have := T.Blk.cell hb hj
    rw [Nat.zero_add]
    exact this
/-- Blocks that are no cells may turn. -/
theorem row_gr2 {w w' : World} {ao : Option Addr} {n cap : Nat} {xs : List UInt8} {row : Option Nat} (h : Cd.Row w ao n cap xs) (g : w.grownBy w' row) (hr : ∀ r, row = some r → ∃ o : Obj, w.heap[r]? = some o ∧ o.isCells = false) : Cd.Row w' ao n cap xs := by
  refine row_grown h g (fun a ha hn e => ?_)
  obtain ⟨o, h1, h2⟩ := hr _ e
  have hc := h.2.2.2.2 a ha 0 hn
  unfold World.cell? at hc
  rw [add_block, h1] at hc
  cases o <;> simp_all [Obj.isCells]
theorem EO.gr2 {B : Nat} {w w' : World} {v : Value} {es : List En} {row : Option Nat} (h : EO B w v es) (g : w.grownBy w' row) (hr : ∀ r, row = some r → ∃ o : Obj, w.heap[r]? = some o ∧ o.isCells = false) : EO B w' v es := by
  obtain ⟨xs, hl, ho, hm⟩ := h
  refine ⟨xs, hl, ho.kept (row := row) g ?_, fun j e x he hx => ?_⟩
  · rcases id ho.2 with ⟨rfl, h0⟩ | ⟨b, cap, cur, rfl, hg, hh, _⟩
    · exact Or.inl rfl
    · refine Or.inr (fun e => ?_)
      obtain ⟨o, h1, h2⟩ := hr b e.symm
      rw [hh] at h1
      cases h1
      simp [Obj.isCells] at h2
  · obtain ⟨h1, h2, h3⟩ := hm j e x he hx
    exact ⟨h1, row_gr2 h2 g hr, fun a ha hn => ⟨(h3 a ha hn).1, Nat.lt_of_lt_of_le (h3 a ha hn).2.1 g.size, (h3 a ha hn).2.2⟩⟩
theorem dft_getD {xs : List T.Sx} {k : Nat} {x : T.Sx} (h : xs[k]? = some x) : xs.getD k dsl = x := by simp [List.getD, h]
/-- What the sorted row says. -/
theorem sorted_says {w : World} {E : List En} {xs : List T.Sx} {M : List T.Tg} (hl : xs.length = E.length)
    (hx : ∀ (j : Nat) e x, E[j]? = some e → xs[j]? = some x → x.1 = e.1 ∧ Cd.Row w x.2.1 x.2.2.1 x.2.2.2 e.2) (hp : M.Perm xs.zipIdx) (ha : T.Asc M) :
    ∃ F : List En, F.length = E.length ∧ M.length = E.length ∧ keptE F E.length = mergeE [] E ∧ (∀ (k : Nat) e x, F[k]? = some e → (M.map (·.1))[k]? = some x → x.1 = e.1 ∧ Cd.Row w x.2.1 x.2.2.1 x.2.2.2 e.2 ∧ e ∈ E) ∧ ∀ k, k < E.length → abv (M.map (·.1)) k = abvE F k := by
  have hml : M.length = E.length := by rw [hp.length_eq]; simpa using hl
  have mem : ∀ t : T.Tg, t ∈ M ↔ xs[t.2]? = some t.1 := fun t => by
    rw [hp.mem_iff]
    have := List.mem_zipIdx_iff_getElem? (x := t) (l := xs)
    exact this
  have each : ∀ i (h : i < M.length), ∃ e, E[(M[i]).2]? = some e ∧ (M[i]).1.1 = e.1 ∧ Cd.Row w (M[i]).1.2.1 (M[i]).1.2.2.1 (M[i]).1.2.2.2 e.2 := fun i h => by
    have h1 := (mem (M[i])).1 (List.getElem_mem h)
    have h2 := (List.getElem?_eq_some_iff.1 h1).1
    refine ⟨E[(M[i]).2]'(by omega), List.getElem?_eq_getElem (by omega), ?_⟩
    exact hx _ _ _ (List.getElem?_eq_getElem (by omega)) h1
  let f : T.Tg → En := fun t => (E[t.2]?).getD ((0, 0, 0, 0), [])
  have hf : ∀ i (h : i < M.length) e, E[(M[i]).2]? = some e → f (M[i]) = e := fun i h e he => by
    show (E[(M[i]).2]?).getD _ = e
    rw [he]
    rfl
  have hlab : ∀ i (h : i < M.length), (f (M[i])).1 = (M[i]).1.1 := fun i h => by
    obtain ⟨e, h1, h2, _⟩ := each i h
    rw [hf i h e h1]
    exact h2.symm
  have hfl : (M.map f).length = E.length := by rw [List.length_map]; exact hml
  have hget : ∀ k (h : k < M.length), (M.map f)[k]? = some (f (M[k])) := fun k h => by rw [List.getElem?_map, List.getElem?_eq_getElem h]; rfl
  have hget2 : ∀ k (h : k < M.length), (M.map (·.1))[k]? = some (M[k]).1 := fun k h => by rw [List.getElem?_map, List.getElem?_eq_getElem h]; rfl
  refine ⟨M.map f, hfl, hml, ?_, fun k e x he hxk => ?_, fun k hk => ?_⟩
  · have ho : Ord (M.map fun t => (f t, t.2)) := by
      unfold Ord
      rw [List.pairwise_iff_getElem]
      intro i j hi hj hij
      simp only [List.length_map] at hi hj
      simp only [List.getElem_map]
      rw [hlab i hi, hlab j hj]
      have := (List.pairwise_iff_getElem.1 ha) i j hi hj hij
      unfold T.ltT T.ltK at this
      exact this
    have hmm : ∀ x, x ∈ (M.map fun t => (f t, t.2)) ↔ E[x.2]? = some x.1 := fun x => by
      constructor
      · intro hxm
        obtain ⟨t, ht, rfl⟩ := List.mem_map.1 hxm
        obtain ⟨i, hi, rfl⟩ := List.getElem_of_mem ht
        obtain ⟨e, h1, _⟩ := each i hi
        show E[(M[i]).2]? = some (f (M[i]))
        rw [hf i hi e h1]
        exact h1
      · intro hE
        have hlt := (List.getElem?_eq_some_iff.1 hE).1
        have hxs : xs[x.2]? = some (xs[x.2]'(by omega)) := List.getElem?_eq_getElem (by omega)
        have ht := (mem (xs[x.2]'(by omega), x.2)).2 hxs
        refine List.mem_map.2 ⟨_, ht, ?_⟩
        have : f (xs[x.2]'(by omega), x.2) = x.1 := by
          show (E[x.2]?).getD _ = x.1
          rw [hE]
          rfl
        rw [this]
    have := kept_is ho hmm
    rw [List.map_map, List.length_map, hml] at this
    exact this
  · have hk : k < M.length := by have := (List.getElem?_eq_some_iff.1 he).1; simpa using this
    rw [hget k hk] at he
    rw [hget2 k hk] at hxk
    simp only [Option.some.injEq] at he hxk
    subst he hxk
    obtain ⟨e, h1, h2, h3⟩ := each k hk
    rw [hf k hk e h1]
    exact ⟨h2, h3, List.mem_of_getElem? h1⟩
  · have hk' : k < M.length := by omega
    unfold abv abvE
    have h1 : ((M.map (·.1)).getD k dsl).1 = ((M.map f)[k]?.map (·.1)).getD (0, 0, 0, 0) := by
      rw [dft_getD (hget2 k hk'), hget k hk']
      exact (hlab k hk').symm
    have h2 : ((M.map (·.1)).getD (k - 1) dsl).1 = ((M.map f)[k - 1]?.map (·.1)).getD (0, 0, 0, 0) := by
      rw [dft_getD (hget2 (k - 1) (by omega)), hget (k - 1) (by omega)]
      exact (hlab (k - 1) (by omega)).symm
    rw [h1, h2]
end Go.Proofs.YtlaihgdfedalmaaGreat
