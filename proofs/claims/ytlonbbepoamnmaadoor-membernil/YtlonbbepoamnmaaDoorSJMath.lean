/-
  Of each view the state that has the most: what that is, and how the document lays it.
-/
import Derived.Test.YtlonbbepoamnmaaDoorSMath
import Derived.Test.YtlonbbepoamnmaaDoorSRow
import Derived.Laws.AppendOwnNone
namespace Go.Proofs.YtlonbbepoamnmaaDoor
open Go.RowKit Go.Sort
set_option linter.unusedVariables false

/-- Is a view's number less? -/
def ltV (a b : Tg) : Prop := a.1.1 < b.1.1 ∨ a.1.1 = b.1.1 ∧ a.1.2.1 < b.1.2.1
instance (a b : Tg) : Decidable (ltV a b) := by unfold ltV; infer_instance
def sameV (a b : Tg) : Prop := a.1.1 = b.1.1 ∧ a.1.2.1 = b.1.2.1
instance (a b : Tg) : Decidable (sameV a b) := by unfold sameV; infer_instance
theorem ltV_trans {a b c : Tg} (h : ltV a b) (k : ltV b c) : ltV a c := by unfold ltV at *; omega
theorem ltV_irr (a : Tg) : ¬ ltV a a := by unfold ltV; omega
theorem ltV_tri {a b : Tg} (h : ¬ ltV a b) (k : ¬ ltV b a) : sameV a b := by unfold ltV sameV at *; omega
theorem ltV_ne {a b : Tg} (h : ltV a b) : ¬ sameV a b := by unfold ltV sameV at *; omega
theorem cmpV_gt (x y : Tg) : cmpV y.1.1 y.1.2.1 x.1.1 x.1.2.1 > 0 ↔ ltV x y := by
  unfold cmpV sgn ltV
  repeat' split
  all_goals omega

/-- A state laid into the first k of a list: what is there, and whether it is laid. -/
def insK (x : Tg) (rs : List Tg) : Nat → List Tg × Bool
  | 0 => ([], false)
  | k + 1 => match rs[k]? with
    | some y => if ((insK x rs k).2 == false && decide (ltV x y)) = true then ((insK x rs k).1 ++ [x] ++ [y], true) else ((insK x rs k).1 ++ [y], (insK x rs k).2)
    | none => insK x rs k
theorem insK_done {x : Tg} {rs : List Tg} {k : Nat} {y : Tg} (h : rs[k]? = some y) (hd : (insK x rs k).2 = true) : insK x rs (k + 1) = ((insK x rs k).1 ++ [y], true) := by
  rw [insK, h]; simp only; rw [hd]; simp
theorem insK_now {x : Tg} {rs : List Tg} {k : Nat} {y : Tg} (h : rs[k]? = some y) (hd : (insK x rs k).2 = false) (hl : decide (ltV x y) = true) : insK x rs (k + 1) = ((insK x rs k).1 ++ [x] ++ [y], true) := by
  rw [insK, h]; simp only; rw [hd, hl]; simp
theorem insK_not {x : Tg} {rs : List Tg} {k : Nat} {y : Tg} (h : rs[k]? = some y) (hd : (insK x rs k).2 = false) (hl : decide (ltV x y) = false) : insK x rs (k + 1) = ((insK x rs k).1 ++ [y], false) := by
  rw [insK, h]; simp only; rw [hd, hl]; simp
theorem insK_len (x : Tg) (rs : List Tg) : ∀ k, k ≤ rs.length → (insK x rs k).1.length ≤ k + 1 ∧ ((insK x rs k).2 = false → (insK x rs k).1.length = k)
  | 0, _ => by simp [insK]
  | k + 1, hk => by
    have ih := insK_len x rs k (by omega)
    obtain ⟨y, hy⟩ : ∃ y, rs[k]? = some y := ⟨rs[k]'(by omega), List.getElem?_eq_getElem (by omega)⟩
    cases hd : (insK x rs k).2 with
    | true => rw [insK_done hy hd]; simp; omega
    | false =>
      have := ih.2 hd
      cases hl : decide (ltV x y) with
      | true => rw [insK_now hy hd hl]; simp; omega
      | false => rw [insK_not hy hd hl]; simp; omega
theorem insK_asc {x : Tg} {rs : List Tg} (h : rs.Pairwise ltV) (hx : ∀ y ∈ rs, ¬ sameV x y) : ∀ k, k ≤ rs.length → (insK x rs k).1.Pairwise ltV ∧ (∀ z, z ∈ (insK x rs k).1 ↔ z ∈ rs.take k ∨ ((insK x rs k).2 = true ∧ z = x)) ∧ ((insK x rs k).2 = false → ∀ z ∈ rs.take k, ltV z x) ∧ ((insK x rs k).2 = true → ∀ z ∈ rs.drop k, ltV x z)
  | 0, _ => by simp [insK]
  | k + 1, hk => by
    obtain ⟨h1, h2, h3, h4⟩ := insK_asc h hx k (by omega)
    obtain ⟨y, hy⟩ : ∃ y, rs[k]? = some y := ⟨rs[k]'(by omega), List.getElem?_eq_getElem (by omega)⟩
    have hyk : rs[k]'(by omega) = y := (List.getElem?_eq_some_iff.1 hy).2
    have ht : ∀ z, z ∈ rs.take (k + 1) ↔ z ∈ rs.take k ∨ z = y := fun z => by rw [List.take_add_one, hy]; simp
    have hdr : rs.drop k = y :: rs.drop (k + 1) := by rw [List.drop_eq_getElem_cons (by omega), hyk]
    have hpa : ∀ z ∈ rs.take k, ltV z y := fun z hz => by
      obtain ⟨j, hj, rfl⟩ := List.mem_iff_getElem.1 hz
      rw [List.length_take] at hj
      have := List.pairwise_iff_getElem.1 h j k (by omega) (by omega) (by omega)
      rw [hyk] at this
      simpa using this
    have hpb : ∀ z ∈ rs.drop (k + 1), ltV y z := fun z hz => by
      have hp : (rs.drop k).Pairwise ltV := h.drop
      rw [hdr] at hp
      exact (List.pairwise_cons.1 hp).1 z hz
    have hyr : y ∈ rs := List.mem_of_getElem? hy
    cases hd : (insK x rs k).2 with
    | true =>
      have h4' := h4 hd
      rw [insK_done hy hd]
      refine ⟨?_, fun z => ?_, fun e => by simp at e, fun _ z hz => h4' z (by rw [hdr]; exact List.mem_cons_of_mem _ hz)⟩
      · rw [List.pairwise_append]
        refine ⟨h1, by simp, fun a ha b hb => ?_⟩
        simp at hb
        subst hb
        rcases (h2 a).1 ha with ha | ⟨_, rfl⟩
        · exact hpa a ha
        · exact h4' b (by rw [hdr]; simp)
      · simp only [List.mem_append, h2 z, ht z, hd, List.mem_singleton]
        simp only [true_and]
        constructor
        · rintro ((a | a) | a)
          · exact Or.inl (Or.inl a)
          · exact Or.inr a
          · exact Or.inl (Or.inr a)
        · rintro ((a | a) | a)
          · exact Or.inl (Or.inl a)
          · exact Or.inr a
          · exact Or.inl (Or.inr a)
    | false =>
      have h3' := h3 hd
      cases hl : decide (ltV x y) with
      | true =>
        have hxy : ltV x y := (by simpa using hl)
        rw [insK_now hy hd hl]
        refine ⟨?_, fun z => ?_, fun e => by simp at e, fun _ z hz => ltV_trans hxy (hpb z hz)⟩
        · rw [List.pairwise_append, List.pairwise_append]
          refine ⟨⟨h1, by simp, fun a ha b hb => ?_⟩, by simp, fun a ha b hb => ?_⟩
          · simp at hb; subst hb
            rcases (h2 a).1 ha with ha | ⟨e, _⟩
            · exact h3' a ha
            · rw [hd] at e; cases e
          · simp at hb; subst hb
            rw [List.mem_append] at ha
            rcases ha with ha | ha
            · rcases (h2 a).1 ha with ha | ⟨e, _⟩
              · exact hpa a ha
              · rw [hd] at e; cases e
            · simp at ha; subst ha; exact hxy
        · simp only [List.mem_append, h2 z, ht z, hd, List.mem_singleton]
          simp only [Bool.false_eq_true, false_and, or_false, true_and]
          constructor
          · rintro ((a | a) | a)
            · exact Or.inl (Or.inl a)
            · exact Or.inr a
            · exact Or.inl (Or.inr a)
          · rintro ((a | a) | a)
            · exact Or.inl (Or.inl a)
            · exact Or.inr a
            · exact Or.inl (Or.inr a)
      | false =>
        have hnxy : ¬ ltV x y := fun e => by simp [e] at hl
        have hyx : ltV y x := Classical.byContradiction fun hn => hx y hyr (ltV_tri hnxy hn)
        rw [insK_not hy hd hl]
        refine ⟨?_, fun z => ?_, fun _ z hz => ?_, fun e => by simp at e⟩
        · rw [List.pairwise_append]
          refine ⟨h1, by simp, fun a ha b hb => ?_⟩
          simp at hb
          subst hb
          rcases (h2 a).1 ha with ha | ⟨e, _⟩
          · exact hpa a ha
          · rw [hd] at e; cases e
        · simp only [List.mem_append, h2 z, ht z, hd, List.mem_singleton]
          simp
        · rcases (ht z).1 hz with hz | rfl
          · exact h3' z hz
          · exact hyx
/-- A state laid into a list. -/
def ins (x : Tg) (rs : List Tg) : List Tg := if (insK x rs rs.length).2 then (insK x rs rs.length).1 else (insK x rs rs.length).1 ++ [x]
theorem ins_asc {x : Tg} {rs : List Tg} (h : rs.Pairwise ltV) (hx : ∀ y ∈ rs, ¬ sameV x y) : (ins x rs).Pairwise ltV ∧ ∀ z, z ∈ ins x rs ↔ z ∈ rs ∨ z = x := by
  obtain ⟨h1, h2, h3, h4⟩ := insK_asc h hx rs.length (Nat.le_refl _)
  rw [List.take_of_length_le (Nat.le_refl _)] at h2 h3
  unfold ins
  cases hd : (insK x rs rs.length).2 with
  | true =>
    rw [if_pos rfl]
    refine ⟨h1, fun z => ?_⟩
    rw [h2 z, hd]; simp
  | false =>
    rw [if_neg (by simp)]
    refine ⟨?_, fun z => ?_⟩
    · rw [List.pairwise_append]
      refine ⟨h1, by simp, fun a ha b hb => ?_⟩
      simp at hb
      subst hb
      rcases (h2 a).1 ha with ha | ⟨e, _⟩
      · exact h3 hd a ha
      · rw [hd] at e; cases e
    · rw [List.mem_append, h2 z, hd]; simp
theorem ascV_eq : ∀ {a b : List Tg}, a.Pairwise ltV → b.Pairwise ltV → (∀ x, x ∈ a ↔ x ∈ b) → a = b
  | [], [], _, _, _ => rfl
  | [], y :: b, _, _, h => by have := (h y).2 (by simp); simp at this
  | x :: a, [], _, _, h => by have := (h x).1 (by simp); simp at this
  | x :: a, y :: b, ha, hb, h => by
    obtain ⟨ha1, ha2⟩ := List.pairwise_cons.1 ha
    obtain ⟨hb1, hb2⟩ := List.pairwise_cons.1 hb
    have hxy : x = y := by
      have h1 := (h x).1 (by simp)
      have h2 := (h y).2 (by simp)
      rw [List.mem_cons] at h1 h2
      rcases h1 with e | h1
      · exact e
      · rcases h2 with e | h2
        · exact e.symm
        · exact absurd (ltV_trans (ha1 y h2) (hb1 x h1)) (ltV_irr x)
    subst hxy
    have hna : x ∉ a := fun hm => ltV_irr x (ha1 x hm)
    have hnb : x ∉ b := fun hm => ltV_irr x (hb1 x hm)
    rw [ascV_eq ha2 hb2 (fun z => ?_)]
    have := h z
    rw [List.mem_cons, List.mem_cons] at this
    constructor
    · intro hz
      rcases this.1 (Or.inr hz) with e | hz'
      · subst e; exact absurd hz hna
      · exact hz'
    · intro hz
      rcases this.2 (Or.inr hz) with e | hz'
      · subst e; exact absurd hz hnb
      · exact hz'
theorem ascV_nodup {a : List Tg} (h : a.Pairwise ltV) : a.Nodup := h.imp (fun {x y} hxy e => by subst e; exact ltV_irr _ hxy)
theorem nodup_len : ∀ {a b : List Tg}, a.Nodup → (∀ x ∈ a, x ∈ b) → a.length ≤ b.length
  | [], b, _, _ => by simp
  | x :: a, b, h, hs => by
    obtain ⟨h1, h2⟩ := List.nodup_cons.1 h
    have hxb := hs x (by simp)
    have := nodup_len (b := b.erase x) h2 (fun y hy => (List.mem_erase_of_ne (fun (e : y = x) => h1 (e ▸ hy))).2 (hs y (by simp [hy])))
    rw [List.length_erase_of_mem hxb] at this
    have : 0 < b.length := List.length_pos_of_mem hxb
    simp
    omega

/-- Does none of its view come ahead of it? -/
def Best (tl : List Tg) (t : Tg) : Prop := t.1.1 ≠ 0 ∧ ∀ u ∈ tl, sameV u t → ¬ ltT u t
/-- Of each view the state that has the most, by the views' numbers. -/
def IsJoin (tl J : List Tg) : Prop := J.Pairwise ltV ∧ ∀ t, t ∈ J ↔ t ∈ tl ∧ Best tl t
theorem IsJoin.unique {tl J J' : List Tg} (h : IsJoin tl J) (h' : IsJoin tl J') : J = J' := ascV_eq h.1 h'.1 (fun t => by rw [h.2 t, h'.2 t])

def beats (u t : Tg) : Bool := decide (u.1.1 = t.1.1 ∧ u.1.2.1 = t.1.2.1) && (decide (endS t.1 < endS u.1) || (decide (endS u.1 = endS t.1) && decide (u.2 < t.2)))
theorem beats_iff (u t : Tg) : beats u t = true ↔ sameV u t ∧ ltT u t := by
  unfold beats sameV ltT ltK
  simp only [Bool.and_eq_true, Bool.or_eq_true, decide_eq_true_eq]
  omega
/-- So far none came ahead. -/
def bestK (tl : List Tg) (t : Tg) (k : Nat) : Bool := decide (0 < t.1.1) && (tl.take k).all (fun u => !(beats u t))
theorem bestK_step {tl : List Tg} {t u : Tg} {k : Nat} (h : tl[k]? = some u) : bestK tl t (k + 1) = (bestK tl t k && !(beats u t)) := by
  unfold bestK
  rw [List.take_add_one, h]
  simp [Bool.and_assoc]
theorem bestK_all {tl : List Tg} {t : Tg} {k : Nat} (h : tl.length ≤ k) : bestK tl t k = true ↔ Best tl t := by
  unfold bestK Best
  rw [List.take_of_length_le h]
  simp only [Bool.and_eq_true, decide_eq_true_eq, List.all_eq_true, Bool.not_eq_true']
  constructor
  · rintro ⟨h1, h2⟩
    refine ⟨by omega, fun u hu hs hl => ?_⟩
    have := h2 u hu
    rw [(beats_iff u t).2 ⟨hs, hl⟩] at this
    cases this
  · rintro ⟨h1, h2⟩
    refine ⟨by omega, fun u hu => ?_⟩
    cases hb : beats u t with
    | false => rfl
    | true => exact absurd ((beats_iff u t).1 hb).2 (h2 u hu ((beats_iff u t).1 hb).1)
theorem best_one {tl : List Tg} {a b : Tg} (ha : a ∈ tl) (hb : b ∈ tl) (h1 : Best tl a) (h2 : Best tl b) (hne : a.2 ≠ b.2) : ¬ sameV a b := fun hs =>
  h1.2 b hb ⟨hs.1.symm, hs.2.symm⟩ (ltT_tri hne (h2.2 a ha hs))

/-- States with where they stand. -/
def tagl (ss : List Sx) : List Tg := ss.zipIdx
theorem tagl_get {ss : List Sx} {k : Nat} {x : Sx} (h : ss[k]? = some x) : (tagl ss)[k]? = some (x, k) := by
  unfold tagl
  rw [List.getElem?_zipIdx, h]
  simp
theorem tagl_len (ss : List Sx) : (tagl ss).length = ss.length := by simp [tagl]
theorem tagl_mem {ss : List Sx} {t : Tg} (h : t ∈ tagl ss) : ss[t.2]? = some t.1 := by
  obtain ⟨k, hk⟩ := List.mem_iff_getElem?.1 h
  unfold tagl at hk
  rw [List.getElem?_zipIdx] at hk
  obtain ⟨x, hx, e⟩ := Option.map_eq_some_iff.1 hk
  subst e
  simpa using hx
theorem tagl_take {ss : List Sx} {t : Tg} {k : Nat} (h : t ∈ (tagl ss).take k) : t.2 < k := by
  obtain ⟨j, hj, e⟩ := List.mem_iff_getElem.1 h
  rw [List.length_take, tagl_len] at hj
  rw [List.getElem_take] at e
  have hx : ss[j]? = some (ss[j]'(by omega)) := List.getElem?_eq_getElem (by omega)
  have := tagl_get hx
  obtain ⟨h1, h2⟩ := List.getElem?_eq_some_iff.1 this
  rw [h2] at e
  subst e
  show j < k
  omega
theorem tagl_map (ss : List Sx) : (tagl ss).map (·.1) = ss := by simp [tagl]
theorem tagl_tags (ss : List Sx) : Tags (tagl ss) := by
  unfold Tags
  rw [List.pairwise_iff_getElem]
  intro i j hi hj hij
  simp [tagl]
  omega
/-- One more of the document's: it is not the best of its view. -/
theorem join_skip {ss : List Sx} {J : List Tg} {i : Nat} {x : Sx} (hx : ss[i]? = some x) (h : J.Pairwise ltV ∧ ∀ t, t ∈ J ↔ t ∈ (tagl ss).take i ∧ Best (tagl ss) t) (hb : ¬ Best (tagl ss) (x, i)) :
    J.Pairwise ltV ∧ ∀ t, t ∈ J ↔ t ∈ (tagl ss).take (i + 1) ∧ Best (tagl ss) t := by
  refine ⟨h.1, fun t => ?_⟩
  rw [h.2 t, List.take_add_one, tagl_get hx]
  simp only [Option.toList_some, List.mem_append, List.mem_singleton]
  constructor
  · rintro ⟨a, b⟩; exact ⟨.inl a, b⟩
  · rintro ⟨a | a, b⟩
    · exact ⟨a, b⟩
    · subst a; exact absurd b hb
/-- .. it is. -/
theorem join_take {ss : List Sx} {J : List Tg} {i : Nat} {x : Sx} (hx : ss[i]? = some x) (h : J.Pairwise ltV ∧ ∀ t, t ∈ J ↔ t ∈ (tagl ss).take i ∧ Best (tagl ss) t) (hb : Best (tagl ss) (x, i)) :
    (ins (x, i) J).Pairwise ltV ∧ ∀ t, t ∈ ins (x, i) J ↔ t ∈ (tagl ss).take (i + 1) ∧ Best (tagl ss) t := by
  have hin : ((x, i) : Tg) ∈ tagl ss := List.mem_of_getElem? (tagl_get hx)
  obtain ⟨a1, a2⟩ := ins_asc h.1 (x := (x, i)) (fun y hy => by
    obtain ⟨b1, b2⟩ := (h.2 y).1 hy
    have hlt := tagl_take b1
    exact best_one hin (List.mem_of_mem_take b1) hb b2 (by show i ≠ y.2; omega))
  refine ⟨a1, fun t => ?_⟩
  rw [a2 t, h.2 t, List.take_add_one, tagl_get hx]
  simp only [Option.toList_some, List.mem_append, List.mem_singleton]
  constructor
  · rintro (⟨a, b⟩ | rfl)
    · exact ⟨.inl a, b⟩
    · exact ⟨.inr rfl, hb⟩
  · rintro ⟨a | a, b⟩
    · exact .inl ⟨a, b⟩
    · exact .inr a

/-! ### Rows of one's own -/
def fl (J : List Tg) : List Value := flat (J.map (·.1))
theorem fl_app (A B : List Tg) : fl (A ++ B) = fl A ++ fl B := by unfold fl; rw [List.map_append, flat_app]
theorem infoS : (Tryd.prog.info? 45).map (fun i => (i.zero, i.size, i.bytes)) = some (some (.agg #[.int .u64 0, .int .i64 0, .int .i64 0, .slice none 0 0]), 4, 48) := by kernel_rfl
theorem SR.one (w : World) (x : Sx) : SR (fun _ => True) (w.alloc (.cells #[.int .u64 (x.1 : Nat), .int .i64 x.2.1, .int .i64 x.2.2.1, .slice x.2.2.2.1 x.2.2.2.2.1 x.2.2.2.2.2] 45)) (some ⟨w.heap.size, 0, none⟩) 1 [x] := by
  refine ⟨rfl, by omega, fun e => (by cases e), fun _ => ⟨w.heap.size, 0, rfl, trivial, fun j y hj => ?_⟩⟩
  obtain rfl : j = 0 := by have := (List.getElem?_eq_some_iff.1 hj).1; simp at this; omega
  simp at hj
  subst hj
  exact ⟨cell_box w _ 45 0 _ rfl, cell_box w _ 45 1 _ rfl, cell_box w _ 45 2 _ rfl, cell_box w _ 45 3 _ rfl⟩
theorem own_mono {w : World} {B B' n : Nat} {v : Value} {xs : List Value} (h : w.ownsRow B 45 4 v n xs) (hB : B' ≤ B) : w.ownsRow B' 45 4 v n xs := by
  refine ⟨h.1, ?_⟩
  rcases h.2 with h0 | ⟨g, cap', cur, h0, h1, h2⟩
  · exact Or.inl h0
  · exact Or.inr ⟨g, cap', cur, h0, Nat.le_trans hB h1, h2⟩
theorem own_below {w w' : World} {B n : Nat} {v : Value} {xs : List Value} (h : w.ownsRow B 45 4 v n xs) (u : Below w.heap.size w w') : w'.ownsRow B 45 4 v n xs := by
  refine h.kept (gr_below u none) ?_
  cases v.ownBlock with
  | none => exact Or.inl rfl
  | some g => exact Or.inr (by simp)
/-- Any states behind a row of one's own. -/
theorem wpList_append_S {w : World} {ops : Array Oper} {rest : List Oper} {o : Oper} {a : Act} {Q : Exit → Act → World → Prop} (hgd : o.guard = none) (s x : Operand)
    (ho : o.op = .call { callee := .builtin .append, args := #[s, x], argTypes := #[36, 36] }) (base : Nat)
    (v : Value) (n : Nat) (xs : List Sx) (hs : a.eval s = v) (hown : w.ownsRow base 45 4 v n (flat xs)) (p : Nat → Prop)
    (bo : Option Addr) (m c : Nat) (ms : List Sx) (hx : a.eval x = .slice bo m c) (hu : SR p w bo m ms) (hz : bo = none → m = 0 ∧ c = 0)
    (hnm : n + m ≤ 1000000) (hbase : base ≤ w.heap.size)
    (h : ∀ v' w', w'.ownsRow base 45 4 v' (n + m) (flat (xs ++ ms)) → w.grownBy w' v.ownBlock → wpList Tryd.prog ops Q rest (a.put o.dst v') w') :
    wpList Tryd.prog ops Q (o :: rest) a w := by
  obtain ⟨i0, hi0, hz0, hz1, hz2⟩ := info_parts infoS
  cases bo with
  | none =>
    obtain ⟨rfl, rfl⟩ := hz rfl
    obtain rfl : ms = [] := List.length_eq_zero_iff.1 hu.1
    refine wpList_append_own_none hgd s x 36 ho base 45 i0 4 und22 hi0 v n (flat xs) hs hown hx ?_
    exact h v w (by simpa using hown) ⟨rfl, rfl, rfl, Nat.le_refl _, fun _ _ _ => rfl⟩
  | some ad =>
    refine wpList_append_own_at _ hgd s x 36 ho base 45 i0 (.agg #[.int .u64 0, .int .i64 0, .int .i64 0, .slice none 0 0]) 4 48 und22 hi0 hz0 hz1 hz2 rfl (by decide) v n (flat xs) hs hown ad m c (flat ms) hx (by rw [flat_len, hu.1]) hu.cells (fun u hu' => flat_one hu') (by unfold maxLen; omega) (by omega) hbase (fun v' w' a b _ _ => h v' w' (by rw [flat_app]; exact a) b)
end Go.Proofs.YtlonbbepoamnmaaDoor
