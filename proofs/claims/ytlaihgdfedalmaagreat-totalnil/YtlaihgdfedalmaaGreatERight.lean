/-
  rightEntries: are entries right, by their labels?
-/
import Derived.Test.YtlaihgdfedalmaaGreatEClimb
import Derived.Test.YtlaihgdfedalmaaGreatERow
import Derived.Laws.Tables
namespace Go.Proofs.YtlaihgdfedalmaaGreat
open Go.RowKit Go.Shelf
set_option linter.unusedVariables false
set_option linter.unusedSimpArgs false
attribute [local go_sem] Oper.semAt_some

theorem pick_lt {α : Type} [Inhabited α] {P : Nat → α → Prop} {n : Nat} (h : ∀ i, i < n → ∃ a, P i a) : ∃ f : Nat → α, ∀ i, i < n → P i (f i) := by
  classical
  refine ⟨fun i => if hi : i < n then (h i hi).choose else default, fun i hi => ?_⟩
  simp only [hi, dif_pos]
  exact (h i hi).choose_spec
/-- Where the messages of entries lie. -/
theorem ER.split {p : Nat → Prop} {w : World} {ao : Option Addr} {n : Nat} {es : List (Lb × List UInt8)} (h : ER p w ao n es) :
    ∃ xs : List (Lb × Sl), xs.length = n ∧ (∀ (j : Nat) (e : Lb × List UInt8) (x : Lb × Sl), es[j]? = some e → xs[j]? = some x → x.1 = e.1 ∧ Cd.Row w x.2.1 x.2.2.1 x.2.2.2 e.2 ∧ ∀ a, x.2.1 = some a → 0 < x.2.2.1 → p a.block) ∧
      ∃ b off, (0 < n → ao = some ⟨b, off, none⟩ ∧ p b) ∧ ∀ (j : Nat) x, xs[j]? = some x → C5 w b (off + j * 5) x := by
  by_cases hn : 0 < n
  · obtain ⟨b, off, hao, hp, hc⟩ := h.2.2 hn
    have hl := h.1
    obtain ⟨f, hf⟩ := pick_lt (α := Lb × Sl) (P := fun j x => ∃ e, es[j]? = some e ∧ C5 w b (off + j * 5) x ∧ x.1 = e.1 ∧ Cd.Row w x.2.1 x.2.2.1 x.2.2.2 e.2 ∧ ∀ a, x.2.1 = some a → 0 < x.2.2.1 → p a.block) (n := n) (fun j hj => by
      have he : es[j]? = some (es[j]'(by omega)) := List.getElem?_eq_getElem (by omega)
      obtain ⟨so, sn, sc, c0, c1, c2, c3, c4, c5, c6⟩ := hc j _ he
      exact ⟨((es[j]'(by omega)).1, so, sn, sc), _, he, ⟨c0, c1, c2, c3, c4⟩, rfl, c5, c6⟩)
    have hx : ∀ (j : Nat) x, ((List.range n).map f)[j]? = some x → j < n ∧ x = f j := fun j x hx => by
      obtain ⟨h1, h2⟩ := List.getElem?_eq_some_iff.1 hx
      simp at h1 h2
      exact ⟨h1, h2.symm⟩
    refine ⟨(List.range n).map f, by simp, fun j e x he hj => ?_, b, off, fun _ => ⟨hao, hp⟩, fun j x hj => ?_⟩
    · obtain ⟨h1, rfl⟩ := hx j x hj
      obtain ⟨e', he', _, h2⟩ := hf j h1
      rw [he] at he'
      cases he'
      exact h2
    · obtain ⟨h1, rfl⟩ := hx j x hj
      obtain ⟨_, _, h2, _⟩ := hf j h1
      exact h2
  · obtain rfl : n = 0 := by omega
    exact ⟨[], rfl, fun j e x he hx => (by simp at hx), 0, 0, fun h => absurd h (by omega), fun j x hx => (by simp at hx)⟩
/-- Is the k-th entry right, and above the one ahead of it? -/
def goodE (xs : List (Lb × Sl)) (k : Nat) : Bool := abv xs k && formE (xs.getD k dsl).1 (xs.getD k dsl).2.2.1
def goodAll (xs : List (Lb × Sl)) : Bool := (List.range xs.length).all (goodE xs)
theorem keeps_bl {B : Nat} {W W' : World} (u : Below W.heap.size W W') : KeepsFrom B W W' := ⟨u.size, fun k o _ hk _ => (u.block k (Array.getElem?_eq_some_iff.1 hk).1).trans hk⟩
theorem bl_row {B : Nat} {w W : World} (h : Below B w W) {g : Nat} (hg : B ≤ g) (cs : Array Value) : Below B w (W.setRow g cs) :=
  ⟨h.os, h.tape, h.output, by simpa using h.size, fun k hk => (setRow_other _ _ _ _ (by omega)).trans (h.block k hk)⟩
theorem firsts_mem (n : Nat) : ∀ (k : Nat) (h : k ≤ n) (j : Nat) (hj : j < k), (⟨j, by omega⟩ : { k : Nat // k < n }) ∈ firsts n k h
  | 0, _, j, hj => by omega
  | k + 1, h, j, hj => by
    unfold firsts
    by_cases e : j = k
    · subst e; simp
    · exact List.mem_append_left _ (firsts_mem n k (by omega) j (by omega))

set_option maxRecDepth 100000 in
set_option maxHeartbeats 2000000 in
theorem rightEntries_any (w : World) (ao : Option Addr) (cap b off : Nat) (xs : List (Lb × Sl)) (hmax : xs.length ≤ 140737488355328) (hao : 0 < xs.length → ao = some ⟨b, off, none⟩) (hc : ∀ j x, xs[j]? = some x → C5 w b (off + j * 5) x) :
    Calls Tryz.prog 116 #[.slice ao xs.length cap] w fun e w' => e = .returned (.bool (goodAll xs)) ∧ Below w.heap.size w w' := by
  have hmax' := hmax
  refine (callsIn_wide (n := 6)).1 ?_
  refine callsIn_of_wp_marks Tryz.func116 rfl trivial ?_ rfl
  simp only [Tryz.ntmps116, List.size_toArray, List.length_cons, List.length_nil, Nat.reduceAdd, Nat.reduceSub, Array.replicate_succ, Array.replicate_zero, List.push_toArray, List.append_toArray, List.nil_append, List.cons_append]
  gi_wp2_with (refine ⟨trivial, ?_⟩; gi_at_call 144; refine (callsIn_wide.2 (climb_any _ _ _ _)).mono ?_; rintro e w' ⟨rfl, rfl⟩)
  obtain ⟨W0, hW0⟩ : ∃ W0, (w.alloc (.cells #[.bool false] 4)).alloc (.cells #[.slice ao xs.length cap] 42) = W0 := ⟨_, rfl⟩
  have hB0 : Below w.heap.size w W0 := by rw [← hW0]; exact bl2 _ _ _
  have hsz : W0.heap.size = w.heap.size + 2 := by rw [← hW0]; simp
  have hR0 : W0.heap[w.heap.size]? = some (.cells #[.bool false] 4 (0, 0)) := by
    rw [← hW0]
    exact (Below.heap_alloc _ _ _ (by simp)).trans (heap_alloc_new _ _)
  have hBs0 : W0.cell? ⟨w.heap.size + 1, 0, none⟩ = some (.slice ao xs.length cap) := by
    rw [← hW0]
    have hs1 : (w.alloc (.cells #[.bool false] 4)).heap.size = w.heap.size + 1 := by simp
    have := cell_box (w.alloc (.cells #[.bool false] 4)) #[.slice ao xs.length cap] 42 0 _ rfl
    rw [hs1] at this
    exact this
  have hc0 : ∀ j x, xs[j]? = some x → C5 W0 b (off + j * 5) x := fun j x hj => by
    obtain ⟨c0, c1, c2, c3, c4⟩ := hc j x hj
    exact ⟨bl_cell hB0 c0, bl_cell hB0 c1, bl_cell hB0 c2, bl_cell hB0 c3, bl_cell hB0 c4⟩
  have hbl : 0 < xs.length → b < w.heap.size := fun h => World.block_lt_of_cell? w _ (hc 0 _ (List.getElem?_eq_getElem h)).1
  rw [hW0]
  have hRk : ∀ (A B : World) (row : Option Nat), A.heap[w.heap.size]? = some (.cells #[.bool false] 4 (0, 0)) → A.grownBy B row → (∀ r, row = some r → W0.heap.size ≤ r ∧ ∃ o : Obj, A.heap[r]? = some o ∧ o.isCells = false) → B.heap[w.heap.size]? = some (.cells #[.bool false] 4 (0, 0)) := fun A B row h hg hr =>
    (hg.block _ (Array.getElem?_eq_some_iff.1 h).1 (fun e => by have := (hr _ e.symm).1; omega)).trans h
  have hBk : ∀ (A B : World) (row : Option Nat), Below w.heap.size w A → A.grownBy B row → (∀ r, row = some r → W0.heap.size ≤ r ∧ ∃ o : Obj, A.heap[r]? = some o ∧ o.isCells = false) → Below w.heap.size w B := fun A B row h hg hr =>
    bl_grown h h.size hg (fun k hk => by have := (hr _ hk).1; omega)
  obtain ⟨b, hbl', hao, hc0⟩ : ∃ b, b < w.heap.size + 1 ∧ (0 < xs.length → ao = some ⟨b, off, none⟩) ∧ ∀ j x, xs[j]? = some x → C5 W0 b (off + j * 5) x := by
    by_cases h0 : xs.length = 0
    · have e : xs = [] := List.eq_nil_of_length_eq_zero h0
      subst e
      exact ⟨0, by omega, fun h => absurd h (by simp), fun j x hx => (by simp at hx)⟩
    · exact ⟨b, by have := hbl (by omega); omega, hao, hc0⟩
  clear hc hbl hW0 hmax'
  refine wpIn_rangeFunc_ownH rfl (by omega) (gf := 171) (lb := #[.pointer (some ⟨w.heap.size + 1, 0, none⟩)]) rfl trivial (enters_of Tryz.func171 (by kernel_rfl) rfl)
    (climb_stops 5 (by omega) (w.heap.size + 1) b off cap ao xs hmax W0 hBs0 hao hc0) (fun h k => Kb.trans h k)
    (fun W l o o' hl ho _ _ => ⟨World.putObj_heap_other (by omega), World.putObj_heap_other (by omega)⟩) (Below.refl _ _) (fun _ => rfl)
    (fun pre W => (Below w.heap.size w W ∧ W0.heap.size ≤ W.heap.size) ∧ W.heap[w.heap.size]? = some (.cells #[.bool false] 4 (0, 0)) ∧ ∀ x ∈ pre, goodE xs x.1 = true)
    (fun c pre W => c = .ret ∧ Below w.heap.size w W ∧ W.heap[w.heap.size]? = some (.cells #[.bool false] 4 (0, 0)) ∧ ∃ x ∈ pre, goodE xs x.1 = false)
    (fun s A B row hs hg hr => ⟨⟨hBk A B row hs.1.1 hg hr, Nat.le_trans hs.1.2 hg.size⟩, hRk A B row hs.2.1 hg hr, hs.2.2⟩)
    (fun c s A B row hs hg hr => ⟨hs.1, hBk A B row hs.2.1 hg hr, hRk A B row hs.2.2.1 hg hr, hs.2.2.2⟩)
    ⟨⟨hB0, Nat.le_refl _⟩, hR0, by simp⟩
    (fun x a' W => ∃ Bx, W0.heap.size ≤ Bx ∧ W.heap[Bx]? = some (.cells (entS (xs.getD x.1 dsl)).cells 41 (0, 0)) ∧ a' = { tmps := #[.slice ao xs.length cap, undef, .pointer (some ⟨w.heap.size, 0, none⟩), .pointer (some ⟨Bx, 0, none⟩), .bool (abv xs x.1), .slice ao xs.length cap, .func (.func 171) #[] #[.pointer (some ⟨w.heap.size + 1, 0, none⟩)], entS (xs.getD x.1 dsl), .bool (abv xs x.1), undef, undef, undef, undef, undef, undef, undef], defers := [] })
    (fun x a' _ A B row hs hg hr => by
      obtain ⟨Bx, e1, e2, e3⟩ := hs
      refine ⟨Bx, e1, (hg.block _ (Array.getElem?_eq_some_iff.1 e2).1 (fun e => ?_)).trans e2, e3⟩
      obtain ⟨_, o, h1, h2⟩ := hr _ e.symm
      rw [e2] at h1
      cases h1
      cases h2)
    ?assign ?body ?done ?stop
  case assign =>
    rintro l pre x W K ⟨⟨hb1, hz1⟩, hr1, hp1⟩ hK
    unfold encs
    generalize hE : xs.getD x.1 dsl = E at hK ⊢
    obtain ⟨⟨a0, a1, a2, a3⟩, so, sn, sc⟩ := E
    unfold entS ent at hK ⊢
    simp only [Value.cells] at hK ⊢
    gi_wp2
    have hs1 := hb1.size
    have hrl := (Array.getElem?_eq_some_iff.1 hr1).1
    exact hK _ _ (keeps_bl (bl1 _ _)) ⟨Below.heap_alloc _ _ _ (by omega), Below.heap_alloc _ _ _ (by omega)⟩ ⟨⟨bl_step hb1 (bl1 _ _), by simp; omega⟩, (Below.heap_alloc _ _ _ hrl).trans hr1, hp1⟩ ⟨W.heap.size, hz1, heap_alloc_new _ _, rfl⟩
  case body =>
    rintro l pre x a' W hl ⟨r, hr⟩ ⟨⟨hb1, hz1⟩, hr1, hp1⟩ ⟨Bx, hBx, hX, rfl⟩ hlt
    have hgE : goodE xs x.1 = (abv xs x.1 && formE (xs.getD x.1 dsl).1 (xs.getD x.1 dsl).2.2.1) := rfl
    generalize xs.getD x.1 dsl = E at *
    obtain ⟨⟨a0, a1, a2, a3⟩, so, sn, sc⟩ := E
    unfold entS ent at *
    simp only [Value.cells] at *
    have hfm := fun W' => formE_any W' (a0, a1, a2, a3) so sn sc
    unfold ent at hfm
    simp only at hfm
    have kX := fun j => cell_of_row W Bx j _ 41 (0, 0) hX
    have k0 := kX 0
    have k1 := kX 1
    have k2 := kX 2
    have k3 := kX 3
    have k4 := kX 4
    simp at k0 k1 k2 k3 k4
    have kR := cell_of_row W w.heap.size 0 _ 4 (0, 0) hr1
    have zR := frozen_of_row W w.heap.size 0 _ 4 hr1
    simp at kR
    have h66 : 1 ≤ 6 - 1 - 1 := by omega
    have bad : ∀ W', Below W.heap.size W W' → goodE xs x.1 = false → Hid (KeepsFrom W0.heap.size W (W'.setCell ⟨w.heap.size, 0, none⟩ (.bool false)) ∧ (Code.ret = .ret ∧ Below w.heap.size w (W'.setCell ⟨w.heap.size, 0, none⟩ (.bool false)) ∧ (W'.setCell ⟨w.heap.size, 0, none⟩ (.bool false)).heap[w.heap.size]? = some (.cells #[.bool false] 4 (0, 0)) ∧ ∃ y ∈ pre ++ [x], goodE xs y.1 = false)) := by
      intro W' u hg
      have hr' : W'.heap[w.heap.size]? = some (.cells #[.bool false] 4 (0, 0)) := (u.block _ (Array.getElem?_eq_some_iff.1 hr1).1).trans hr1
      have he := setCell_eq_setRow W' w.heap.size 0 _ 4 (0, 0) (.bool false) hr'
      refine ⟨(keeps_bl u).trans ((KeepsOthers.setCell _ _ _).from _), rfl, ?_, ?_, x, by simp, hg⟩
      · rw [he]
        exact bl_row (bl_step hb1 u) (Nat.le_refl _) _
      · rw [he]
        exact setRow_heap _ _ _ _ _ _ hr'
    cases hab : abv xs x.1 with
    | false =>
      rw [hab] at hgE
      have bd := bad W (Below.refl _ _) (by rw [hgE]; rfl)
      clear bad hfm hgE
      gi_wp2
      refine ⟨trivial, ?_⟩
      gi_wp2
      exact ⟨bd.out.1, rfl, bd.out.2.2⟩
    | true =>
      rw [hab] at hgE
      simp only [Bool.true_and] at hgE
      cases hf : formE (a0, a1, a2, a3) sn with
      | false =>
        rw [hf] at hfm hgE
        have kk : ∀ W', Below W.heap.size W W' → W'.cell? ⟨w.heap.size, 0, none⟩ = some (.bool false) ∧ W'.frozen? ⟨w.heap.size, 0, none⟩ = false := fun W' u => by
          have hr' : W'.heap[w.heap.size]? = some (.cells #[.bool false] 4 (0, 0)) := (u.block _ (Array.getElem?_eq_some_iff.1 hr1).1).trans hr1
          exact ⟨cell_of_row W' w.heap.size 0 _ 4 (0, 0) hr', frozen_of_row W' w.heap.size 0 _ 4 hr'⟩
        have bd := fun W' u => bad W' u hgE
        clear bad hgE
        gi_wp2_with (refine ⟨trivial, ?_⟩; gi_at_call 97; refine (CallsIn.inRound l (callsIn_wide.2 (hfm _))).mono ?_; rintro e w' ⟨rfl, hu⟩; have bd' := bd _ hu.bl; obtain ⟨q1, q2⟩ := kk _ hu.bl; clear bd kk hfm)
        exact ⟨bd'.out.1, rfl, bd'.out.2.2⟩
      | true =>
        rw [hf] at hfm hgE
        have fin : ∀ W', Below W.heap.size W W' → KeepsFrom W0.heap.size W W' ∧ Kb b (w.heap.size + 1) W W' ∧ (Below w.heap.size w W' ∧ W0.heap.size ≤ W'.heap.size) ∧ W'.heap[w.heap.size]? = some (.cells #[.bool false] 4 (0, 0)) ∧ ∀ y ∈ pre ++ [x], goodE xs y.1 = true := fun W' u =>
          ⟨keeps_bl u, Kb.bl u (by omega) (by omega), ⟨bl_step hb1 u, Nat.le_trans hz1 u.size⟩, (u.block _ (Array.getElem?_eq_some_iff.1 hr1).1).trans hr1, fun y hy => by
            rcases List.mem_append.1 hy with h | h
            · exact hp1 y h
            · obtain rfl := List.mem_singleton.1 h
              exact hgE⟩
        clear bad hgE
        gi_wp2_with (refine ⟨trivial, ?_⟩; gi_at_call 97; refine (CallsIn.inRound l (callsIn_wide.2 (hfm _))).mono ?_; rintro e w' ⟨rfl, hu⟩; have fin' := fin _ hu.bl; clear fin hfm)
        exact fin'
  case done =>
    rintro D ys W hD rfl ⟨⟨hb, hz⟩, hr, hp⟩ hK
    have kR := cell_of_row W w.heap.size 0 _ 4 (0, 0) hr
    have zR := frozen_of_row W w.heap.size 0 _ 4 hr
    simp at kR
    have hgood : goodAll xs = true := by
      unfold goodAll
      rw [List.all_eq_true]
      intro k hk
      exact hp _ (firsts_mem xs.length xs.length (Nat.le_refl _) k (by simpa using hk))
    have hDl := (Array.getElem?_eq_some_iff.1 hK).1
    have he := setCell_eq_setRow W w.heap.size 0 _ 4 (0, 0) (.bool true) hr
    have hK' : (W.setCell ⟨w.heap.size, 0, none⟩ (.bool true)).heap[D]? = some (.deferred (some [])) := by
      rw [he]
      exact (setRow_other _ _ _ _ (by omega)).trans hK
    have hB' : Below w.heap.size w ((W.setCell ⟨w.heap.size, 0, none⟩ (.bool true)).putObj D (.deferred none)) := by
      have h1 : Below w.heap.size w (W.setCell ⟨w.heap.size, 0, none⟩ (.bool true)) := by
        rw [he]
        exact bl_row hb (Nat.le_refl _) _
      exact h1.trans (belowK_b (w := w) (Nat.le_refl _) _ D _ _ (by omega) hK' rfl rfl)
    have hc' : ((W.setCell ⟨w.heap.size, 0, none⟩ (.bool true)).putObj D (.deferred none)).cell? ⟨w.heap.size, 0, none⟩ = some (.bool true) := by
      have h1 : ((W.setCell ⟨w.heap.size, 0, none⟩ (.bool true)).putObj D (.deferred none)).heap[w.heap.size]? = some (.cells #[.bool true] 4 (0, 0)) := by
        rw [World.putObj_heap_other (by omega), he]
        exact setRow_heap _ _ _ _ _ _ hr
      exact cell_of_row _ w.heap.size 0 _ 4 (0, 0) h1
    clear he
    gi_wp2
    refine ⟨by simp, .inl ⟨_, _, rfl, run_takeDeferred hK', ?_⟩⟩
    refine ⟨.bool true, ?_, by rw [hgood], hB'⟩
    simp [results, Tryz.results116, go_sem, hc']
  case stop =>
    rintro D c pre W hD hpre ⟨rfl, hb, hr, hbad⟩ hK
    have kR := cell_of_row W w.heap.size 0 _ 4 (0, 0) hr
    simp at kR
    have hgood : goodAll xs = false := by
      unfold goodAll
      obtain ⟨x, _, hx⟩ := hbad
      rw [List.all_eq_false]
      exact ⟨x.1, by simpa using x.2, by simp [hx]⟩
    have hDl := (Array.getElem?_eq_some_iff.1 hK).1
    have hB' : Below w.heap.size w (W.putObj D (.deferred none)) := hb.trans (belowK_b (w := w) (Nat.le_refl _) _ D _ _ (by omega) hK rfl rfl)
    have hc' : (W.putObj D (.deferred none)).cell? ⟨w.heap.size, 0, none⟩ = some (.bool false) := by
      have h1 : (W.putObj D (.deferred none)).heap[w.heap.size]? = some (.cells #[.bool false] 4 (0, 0)) := by
        rw [World.putObj_heap_other (by omega)]
        exact hr
      exact cell_of_row _ w.heap.size 0 _ 4 (0, 0) h1
    gi_wp2
    refine ⟨by simp, .inl ⟨_, _, rfl, run_takeDeferred hK, ?_⟩⟩
    refine ⟨.bool false, ?_, by rw [hgood], hB'⟩
    simp [results, Tryz.results116, go_sem, hc']
end Go.Proofs.YtlaihgdfedalmaaGreat
