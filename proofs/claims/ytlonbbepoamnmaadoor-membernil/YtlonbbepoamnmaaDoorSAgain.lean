/-
  Joined states, joined again, with one of those that were joined: the same.
-/
import Derived.Test.YtlonbbepoamnmaaDoorSJoin
namespace Go.Proofs.YtlonbbepoamnmaaDoor
open Go.RowKit Go.Sort
set_option linter.unusedVariables false

theorem least {L : List Tg} : L ≠ [] → (∀ a ∈ L, ∀ b ∈ L, a.2 = b.2 → a = b) → ∃ t ∈ L, ∀ u ∈ L, ¬ ltT u t := by
  induction L with
  | nil => intro h; exact absurd rfl h
  | cons a r ih =>
    intro _ hd
    by_cases hr : r = []
    · subst hr
      exact ⟨a, by simp, fun u hu => by simp at hu; subst hu; exact ltT_irr _⟩
    · obtain ⟨t, ht, hmin⟩ := ih hr (fun x hx y hy => hd x (by simp [hx]) y (by simp [hy]))
      by_cases hl : ltT a t
      · refine ⟨a, by simp, fun u hu hlu => ?_⟩
        rw [List.mem_cons] at hu
        rcases hu with rfl | hu
        · exact ltT_irr _ hlu
        · exact hmin u hu (ltT_trans hlu hl)
      · refine ⟨t, by simp [ht], fun u hu => ?_⟩
        rw [List.mem_cons] at hu
        rcases hu with rfl | hu
        · exact hl
        · exact hmin u hu
theorem tagl_inj {ss : List Sx} : ∀ a ∈ tagl ss, ∀ b ∈ tagl ss, a.2 = b.2 → a = b := fun a ha b hb h => by
  have h1 := tagl_mem ha
  have h2 := tagl_mem hb
  rw [h, h2] at h1
  have : b.1 = a.1 := by simpa using h1
  exact Prod.ext this.symm h
/-- Each view of which somebody told has a best one. -/
theorem best_of {ss : List Sx} {x : Tg} (hx : x ∈ tagl ss) (h0 : x.1.1 ≠ 0) : ∃ t ∈ tagl ss, sameV t x ∧ Best (tagl ss) t := by
  obtain ⟨t, ht, hmin⟩ := least (L := (tagl ss).filter (fun t => decide (sameV t x))) (fun e => by
    have : x ∈ (tagl ss).filter (fun t => decide (sameV t x)) := List.mem_filter.2 ⟨hx, by simp [sameV]⟩
    rw [e] at this
    simp at this) (fun a ha b hb => tagl_inj a (List.mem_filter.1 ha).1 b (List.mem_filter.1 hb).1)
  obtain ⟨h1, h2⟩ := List.mem_filter.1 ht
  have hs : sameV t x := by simpa using h2
  refine ⟨t, h1, hs, by rw [hs.1]; exact h0, fun u hu hsu => hmin u (List.mem_filter.2 ⟨hu, ?_⟩)⟩
  have : sameV u x := ⟨hsu.1.trans hs.1, hsu.2.trans hs.2⟩
  simpa using this

/-- Two lists of states of which each has its like's numbers, and as many items. -/
def Twin (xs ys : List Sx) : Prop := xs.length = ys.length ∧ ∀ (j : Nat) (x y : Sx), xs[j]? = some x → ys[j]? = some y → y.1 = x.1 ∧ y.2.1 = x.2.1 ∧ y.2.2.1 = x.2.2.1 ∧ y.2.2.2.2.1 = x.2.2.2.2.1
theorem twin_of {p q : Nat → Prop} {w w' : World} {ao bo : Option Addr} {n m : Nat} {xs ys : List Sx} {es : List (List Di)} (h : Alike xs ys) (h1 : Sts p w ao n xs es) (h2 : Sts q w' bo m ys es) : Twin xs ys := by
  refine ⟨h.1, fun j x y hx hy => ?_⟩
  obtain ⟨a, b, c⟩ := h.2 j x y hx hy
  have hl := (List.getElem?_eq_some_iff.1 hx).1
  have hes : es[j]? = some (es[j]'(by have := h1.2.1; have := h1.1.1; omega)) := List.getElem?_eq_getElem _
  have e1 := (h1.2.2 j x _ hx hes).len
  have e2 := (h2.2.2 j y _ hy hes).len
  exact ⟨a, b, c, by rw [← e1, ← e2]⟩
theorem Twin.get {xs ys : List Sx} (h : Twin xs ys) {j : Nat} {y : Sx} (hy : ys[j]? = some y) : ∃ x, xs[j]? = some x ∧ y.1 = x.1 ∧ y.2.1 = x.2.1 ∧ endS y = endS x := by
  have hl := (List.getElem?_eq_some_iff.1 hy).1
  have hx : xs[j]? = some (xs[j]'(by have := h.1; omega)) := List.getElem?_eq_getElem _
  obtain ⟨a, b, c, d⟩ := h.2 j _ y hx hy
  exact ⟨_, hx, a, b, by unfold endS; rw [c, d]⟩
theorem Twin.get' {xs ys : List Sx} (h : Twin xs ys) {j : Nat} {x : Sx} (hx : xs[j]? = some x) : ∃ y, ys[j]? = some y ∧ y.1 = x.1 ∧ y.2.1 = x.2.1 ∧ endS y = endS x := by
  have hl := (List.getElem?_eq_some_iff.1 hx).1
  have hy : ys[j]? = some (ys[j]'(by have := h.1; omega)) := List.getElem?_eq_getElem _
  obtain ⟨a, b, c, d⟩ := h.2 j x _ hx hy
  exact ⟨_, hy, a, b, by unfold endS; rw [c, d]⟩

theorem join_pair {J : List Tg} {rs : List Sx} (hJ : J.Pairwise ltV) (hT : Twin (J.map (·.1)) rs) : (tagl rs).Pairwise ltV := by
  rw [List.pairwise_iff_getElem]
  intro i j hi hj hij
  rw [tagl_len] at hi hj
  have e1 := tagl_get (List.getElem?_eq_getElem hi)
  have e2 := tagl_get (List.getElem?_eq_getElem hj)
  rw [(List.getElem?_eq_some_iff.1 e1).2, (List.getElem?_eq_some_iff.1 e2).2]
  obtain ⟨x, hx, a1, a2, _⟩ := hT.get (List.getElem?_eq_getElem hi)
  obtain ⟨y, hy, b1, b2, _⟩ := hT.get (List.getElem?_eq_getElem hj)
  rw [List.getElem?_map] at hx hy
  obtain ⟨t, ht, rfl⟩ := Option.map_eq_some_iff.1 hx
  obtain ⟨u, hu, rfl⟩ := Option.map_eq_some_iff.1 hy
  obtain ⟨k1, rfl⟩ := List.getElem?_eq_some_iff.1 ht
  obtain ⟨k2, rfl⟩ := List.getElem?_eq_some_iff.1 hu
  have := List.pairwise_iff_getElem.1 hJ i j k1 k2 hij
  unfold ltV at this ⊢
  simp only [a1, a2, b1, b2]
  exact this
/-- Joined states, joined with others that were joined: they stay. -/
theorem again {ss xs : List Sx} {J : List Tg} {rs : List Sx} (hJ : IsJoin (tagl ss) J) (hT : Twin (J.map (·.1)) rs) (hxs : ∀ x ∈ xs, x ∈ ss) : IsJoin (tagl (rs ++ xs)) (tagl rs) := by
  have hpw := join_pair hJ.1 hT
  have hsub : ∀ t : Tg, t ∈ tagl (rs ++ xs) ↔ t ∈ tagl rs ∨ (rs.length ≤ t.2 ∧ (rs ++ xs)[t.2]? = some t.1) := fun t => by
    constructor
    · intro ht
      have hm := tagl_mem ht
      by_cases hl : t.2 < rs.length
      · rw [List.getElem?_append_left hl] at hm
        exact .inl (List.mem_of_getElem? (tagl_get hm))
      · exact .inr ⟨by omega, hm⟩
    · rintro (ht | ⟨_, hm⟩)
      · have hm := tagl_mem ht
        have hl := (List.getElem?_eq_some_iff.1 hm).1
        exact List.mem_of_getElem? (tagl_get (show (rs ++ xs)[t.2]? = some t.1 by rw [List.getElem?_append_left hl]; exact hm))
      · exact List.mem_of_getElem? (tagl_get hm)
  have hin : ∀ t : Tg, rs.length ≤ t.2 → (rs ++ xs)[t.2]? = some t.1 → ∃ k, (t.1, k) ∈ tagl ss := fun t h1 h2 => by
    rw [List.getElem?_append_right h1] at h2
    obtain ⟨k, hk⟩ := List.mem_iff_getElem?.1 (hxs t.1 (List.mem_of_getElem? h2))
    exact ⟨k, List.mem_of_getElem? (tagl_get hk)⟩
  have hbase : ∀ t : Tg, t ∈ tagl rs → ∃ u, u ∈ J ∧ t.1.1 = u.1.1 ∧ t.1.2.1 = u.1.2.1 ∧ endS t.1 = endS u.1 := fun t ht => by
    obtain ⟨x, hx, a, b, c⟩ := hT.get (tagl_mem ht)
    rw [List.getElem?_map] at hx
    obtain ⟨u, hu, rfl⟩ := Option.map_eq_some_iff.1 hx
    exact ⟨u, List.mem_of_getElem? hu, a, b, c⟩
  have hone : ∀ t ∈ tagl rs, ∀ u ∈ tagl rs, sameV u t → u = t := fun t ht u hu hs => by
    obtain ⟨i, hi⟩ := List.mem_iff_getElem?.1 ht
    obtain ⟨j, hj⟩ := List.mem_iff_getElem?.1 hu
    obtain ⟨k1, rfl⟩ := List.getElem?_eq_some_iff.1 hi
    obtain ⟨k2, rfl⟩ := List.getElem?_eq_some_iff.1 hj
    have hp := List.pairwise_iff_getElem.1 hpw
    by_cases h1 : i < j
    · exact absurd ⟨hs.1.symm, hs.2.symm⟩ (ltV_ne (hp i j k1 k2 h1))
    · by_cases h2 : j < i
      · exact absurd hs (ltV_ne (hp j i k2 k1 h2))
      · have : i = j := by omega
        subst this; rfl
  refine ⟨hpw, fun t => ?_⟩
  constructor
  · intro ht
    obtain ⟨u, hu, a, b, c⟩ := hbase t ht
    obtain ⟨hu1, hu2⟩ := (hJ.2 u).1 hu
    refine ⟨(hsub t).2 (.inl ht), by rw [a]; exact hu2.1, fun v hv hs hl => ?_⟩
    rcases (hsub v).1 hv with hv | ⟨h1, h2⟩
    · rw [hone t ht v hv hs] at hl
      exact ltT_irr _ hl
    · obtain ⟨k, hk⟩ := hin v h1 h2
      have hnb := hu2.2 (v.1, k) hk ⟨by show v.1.1 = u.1.1; rw [← a]; exact hs.1, by show v.1.2.1 = u.1.2.1; rw [← b]; exact hs.2⟩
      have htl := (List.getElem?_eq_some_iff.1 (tagl_mem ht)).1
      unfold ltT ltK sameV at *
      simp only at *
      omega
  · rintro ⟨ht, hb⟩
    rcases (hsub t).1 ht with ht | ⟨h1, h2⟩
    · exact ht
    · exfalso
      obtain ⟨k, hk⟩ := hin t h1 h2
      obtain ⟨u, hu, hs, hbu⟩ := best_of hk hb.1
      have huJ := (hJ.2 u).2 ⟨hu, hbu⟩
      obtain ⟨i, hi⟩ := List.mem_iff_getElem?.1 huJ
      obtain ⟨y, hy, a, b, c⟩ := hT.get' (j := i) (x := u.1) (by rw [List.getElem?_map, hi]; rfl)
      have hyl := (List.getElem?_eq_some_iff.1 hy).1
      have hyin : ((y, i) : Tg) ∈ tagl (rs ++ xs) := (hsub _).2 (.inl (List.mem_of_getElem? (tagl_get hy)))
      have hn1 := hbu.2 (t.1, k) hk ⟨hs.1.symm, hs.2.symm⟩
      have hn2 := hb.2 (y, i) hyin ⟨by show y.1 = t.1.1; rw [a]; exact hs.1, by show y.2.1 = t.1.2.1; rw [b]; exact hs.2⟩
      unfold ltT ltK sameV at *
      simp only at *
      omega
/-- What their items say. -/
theorem esAt_again {es2 : List (List Di)} {es1 : List (List Di)} {rs : List Sx} (h : es1.length = rs.length) : esAt (es1 ++ es2) (tagl rs) = es1 := by
  apply List.ext_getElem?
  intro j
  unfold esAt
  rw [List.getElem?_map]
  by_cases hj : j < rs.length
  · rw [tagl_get (List.getElem?_eq_getElem hj)]
    simp [List.getElem?_append_left (show j < es1.length by omega), List.getElem?_eq_getElem (show j < es1.length by omega)]
  · rw [List.getElem?_eq_none (by rw [tagl_len]; omega), List.getElem?_eq_none (by omega)]
    rfl
theorem Alike.symm {xs ys : List Sx} (h : Alike xs ys) : Alike ys xs := ⟨h.1.symm, fun j x y hx hy => by obtain ⟨a, b, c⟩ := h.2 j y x hy hx; exact ⟨a.symm, b.symm, c.symm⟩⟩
def AgainPost (rs : List Sx) (es : List (List Di)) (w : World) (e : Ending) (w' : World) : Prop := ∃ ao' cap' rs', e = .returned (.slice ao' rs.length cap') ∧ Alike rs' rs ∧ Sts (fun _ => True) w' ao' rs.length rs' es ∧ Below w.heap.size w w'
theorem join_again (p : Nat → Prop) (w : World) (mo : Option Addr) (ml mcap : Nat) (ss xs : List Sx) (J : List Tg) (rs : List Sx) (es1 es2 : List (List Di)) (hJ : IsJoin (tagl ss) J) (hT : Twin (J.map (·.1)) rs) (hxs : ∀ x ∈ xs, x ∈ ss)
    (h : Sts p w mo ml (rs ++ xs) (es1 ++ es2)) (he : es1.length = rs.length) (hok : ∀ x ∈ rs ++ xs, OkS x) (hn : ml ≤ 1000) : Calls Tryd.prog 79 #[.slice mo ml mcap] w fun e w' => AgainPost rs es1 w e w' := by
  refine (join_any p w mo ml mcap (rs ++ xs) (es1 ++ es2) h hok hn).mono ?_
  rintro e w' ⟨ao', cap', J', rs', rfl, hJ', hown, hal, hsts, _, _, hb⟩
  obtain rfl := hJ'.unique (again hJ hT hxs)
  rw [tagl_map] at hal
  rw [esAt_again he] at hsts
  rw [tagl_len] at hsts ⊢
  exact ⟨ao', cap', rs', rfl, hal.symm, hsts.imp (fun _ _ _ => trivial), hb⟩
theorem twin_ok {xs ys : List Sx} (h : Twin xs ys) (hok : ∀ x ∈ xs, OkS x) : ∀ y ∈ ys, OkS y := fun y hy => by
  obtain ⟨j, hj⟩ := List.mem_iff_getElem?.1 hy
  have hl := (List.getElem?_eq_some_iff.1 hj).1
  have hx : xs[j]? = some (xs[j]'(by have := h.1; omega)) := List.getElem?_eq_getElem _
  obtain ⟨_, _, c, d⟩ := h.2 j _ y hx hj
  have := hok _ (List.mem_of_getElem? hx)
  exact trivial
theorem Sts.app {p : Nat → Prop} {w : World} {ao bo : Option Addr} {n m k : Nat} {xs ys : List Sx} {es fs : List (List Di)} {q : Nat → Prop} (h1 : Sts p w ao n xs es) (h2 : ∀ (j : Nat) (x : Sx) (e : List Di), ys[j]? = some x → fs[j]? = some e → Its p w x.2.2.2.1 x.2.2.2.2.1 e) (hl : fs.length = ys.length) (hs : SR q w bo k (xs ++ ys)) : Sts (fun b => p b ∨ q b) w bo k (xs ++ ys) (es ++ fs) := by
  have e1 := h1.1.1
  have e2 := h1.2.1
  have e3 := hs.1
  refine ⟨hs.imp (fun _ _ h => .inr h), by simp at e3 ⊢; omega, fun j x e hx he => ?_⟩
  by_cases hj : j < xs.length
  · rw [List.getElem?_append_left hj] at hx
    rw [List.getElem?_append_left (by omega)] at he
    exact (h1.2.2 j x e hx he).imp (fun _ _ h => .inl h)
  · rw [List.getElem?_append_right (by omega)] at hx
    rw [List.getElem?_append_right (by omega), show j - es.length = j - xs.length by omega] at he
    exact (h2 _ x e hx he).imp (fun _ _ h => .inl h)
end Go.Proofs.YtlonbbepoamnmaaDoor
