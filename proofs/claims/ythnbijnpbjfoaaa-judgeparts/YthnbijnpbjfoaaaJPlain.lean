/-
  The document's Views in plain data: it is what the code's stays say.
-/
import Derived.Test.YthnbijnpbjfoaaaJDefs
import Derived.Test.YthnbijnpbjfoaaaJViews1
namespace Go.Proofs.Ythnbijnpbjfoaaa
open Go.RowKit Go.Sort
set_option linter.unusedVariables false

def vwY (y : Sy) : Vw := (y.n, y.p, y.s)

/-- What a stay has of the events. -/
structure YI (node : Nat) (es : List Ev) (y : Sy) : Prop where
  nd : y.node = node
  i2 : itemsE node 2 y.n y.p es = y.sent.map (fun m => (((node : Nat) : Int), m))
  i3 : itemsE node 3 y.n y.p es = y.got
  i4 : itemsE node 4 y.n y.p es = y.got.take y.safe
  le : y.safe ≤ y.got.length
structure RunI (node : Nat) (es : List Ev) (done : List Sy) (cur : Sy) : Prop where
  views : viewsE es = ((done ++ [cur]).tail).map vwY
  inc : (done ++ [cur]).Pairwise (fun a b => ltV a.n a.p b.n b.p)
  its : ∀ y ∈ done ++ [cur], YI node es y
  evs : ∀ e ∈ es, ∃ y ∈ done ++ [cur], e.n = y.n ∧ e.p = y.p
  nxt : ∀ (i : Nat) y z, (done ++ [cur])[i]? = some y → (done ++ [cur])[i + 1]? = some z → y.nn = z.n ∧ y.np = z.p
  last : cur.nn = 0 ∧ cur.np = 0
  pos : ∀ y ∈ (done ++ [cur]).tail, 0 < y.n
  zero : done = [] → cur = zeroY node
  big : done ≠ [] → 0 < cur.n
/-- The document's state beside the code's. -/
def AR (es : List Ev) (done : List Sy) (cur : Sy) (a : As) : Prop := (a.on = true ↔ done ≠ []) ∧ a.n = cur.n ∧ a.p = cur.p ∧ a.s = cur.s ∧ a.recv = cur.got.length ∧ a.safe = cur.safe
theorem itemsE_none {node k n : Nat} {p : Int} {es : List Ev} (h : ∀ e ∈ es, ¬ (e.n = n ∧ e.p = p)) : itemsE node k n p es = [] := by
  unfold itemsE
  rw [List.filter_eq_nil_iff.2 (fun e he => by have := h e he; simp only [decide_eq_true_eq]; exact fun h2 => this h2.2)]
  rfl
theorem RunI.start (node : Nat) : RunI node [] [] (zeroY node) where
  views := rfl
  inc := by simp
  its := fun y hy => by
    simp at hy; subst hy
    exact ⟨rfl, rfl, rfl, rfl, Nat.le_refl _⟩
  evs := fun e he => by simp at he
  nxt := fun i y z h1 h2 => by simp at h2
  last := ⟨rfl, rfl⟩
  pos := fun y hy => by simp at hy
  zero := fun _ => rfl
  big := fun h => absurd rfl h
theorem ltV_irr {n : Nat} {p : Int} (h : ltV n p n p) : False := by unfold ltV at h; omega
theorem ltV_trans {a b c : Nat} {p q r : Int} (h : ltV a p b q) (h' : ltV b q c r) : ltV a p c r := by unfold ltV at *; omega
theorem tail_snoc2 {α : Type} (l : List α) (a b : α) : (l ++ [a] ++ [b]).tail = (l ++ [a]).tail ++ [b] := by cases l <;> rfl
theorem YI.snoc {node : Nat} {es : List Ev} {y : Sy} {e : Ev} (h : YI node es y) (hn : ¬ (e.n = y.n ∧ e.p = y.p) ∨ e.k = 1) : YI node (es ++ [e]) y := by
  have hk : ∀ k, k ≠ 1 → itemsE node k y.n y.p (es ++ [e]) = itemsE node k y.n y.p es := fun k hk => by
    rw [itemsE_snoc, if_neg, List.append_nil]
    rintro ⟨a, b⟩
    rcases hn with hn | hn
    · exact hn b
    · omega
  exact ⟨h.nd, by rw [hk 2 (by decide)]; exact h.i2, by rw [hk 3 (by decide)]; exact h.i3, by rw [hk 4 (by decide)]; exact h.i4, h.le⟩
/-- One more view. -/
theorem RunI.view {node : Nat} {es : List Ev} {done : List Sy} {cur : Sy} {e : Ev} (h : RunI node es done cur) (hk : e.k = 1) (h0 : 0 < e.n) (hl : ltV cur.n cur.p e.n e.p) :
    RunI node (es ++ [e]) (done ++ [{ cur with nn := e.n, np := e.p }]) (fresh node e) := by
  have hmem : ∀ y ∈ done ++ [{ cur with nn := e.n, np := e.p }], ∃ y' ∈ done ++ [cur], y.n = y'.n ∧ y.p = y'.p ∧ (YI node es y' → YI node es y) := fun y hy => by
    rcases List.mem_append.1 hy with hy | hy
    · exact ⟨y, List.mem_append_left _ hy, rfl, rfl, id⟩
    · simp at hy; subst hy
      exact ⟨cur, by simp, rfl, rfl, fun k => ⟨k.nd, k.i2, k.i3, k.i4, k.le⟩⟩
  have hall : ∀ y ∈ done ++ [cur], ltV y.n y.p e.n e.p := fun y hy => by
    rcases List.mem_append.1 hy with hy | hy
    · exact ltV_trans ((List.pairwise_append.1 h.inc).2.2 y hy cur (by simp)) hl
    · simp at hy; subst hy; exact hl
  have hold : ∀ x ∈ es, ¬ (x.n = e.n ∧ x.p = e.p) := fun x hx hh => by
    obtain ⟨y, hy, a, b⟩ := h.evs x hx
    have := hall y hy
    rw [← a, ← b, hh.1, hh.2] at this
    exact ltV_irr this
  refine ⟨?_, ?_, fun y hy => ?_, fun x hx => ?_, fun i y z h1 h2 => ?_, ⟨rfl, rfl⟩, fun y hy => ?_, fun h1 => by simp at h1, fun _ => h0⟩
  · rw [viewsE_snoc, if_pos hk, tail_snoc2, List.map_append, h.views]
    congr 1
    · cases done <;> simp [vwY]
  · rw [List.pairwise_append]
    refine ⟨?_, by simp, fun a ha b hb => ?_⟩
    · rw [List.pairwise_append]
      have := List.pairwise_append.1 h.inc
      refine ⟨this.1, by simp, fun a ha b hb => ?_⟩
      simp at hb; subst hb
      exact this.2.2 a ha cur (by simp)
    · simp at hb; subst hb
      obtain ⟨y', hy', e1, e2, _⟩ := hmem a ha
      rw [e1, e2]
      exact hall y' hy'
  · rcases List.mem_append.1 hy with hy | hy
    · obtain ⟨y', hy', _, _, k⟩ := hmem y hy
      exact (k (h.its y' hy')).snoc (.inr hk)
    · simp at hy; subst hy
      have hk2 : ∀ k, k ≠ 1 → itemsE node k e.n e.p (es ++ [e]) = [] := fun k hk' => by
        rw [itemsE_snoc, itemsE_none hold, if_neg (by omega)]; rfl
      exact ⟨rfl, hk2 2 (by decide), hk2 3 (by decide), hk2 4 (by decide), Nat.le_refl _⟩
  · rcases List.mem_append.1 hx with hx | hx
    · obtain ⟨y, hy, a, b⟩ := h.evs x hx
      rcases List.mem_append.1 hy with hy | hy
      · exact ⟨y, by simp [hy], a, b⟩
      · simp at hy; subst hy
        exact ⟨{ y with nn := e.n, np := e.p }, by simp, a, b⟩
    · simp at hx; subst hx
      exact ⟨fresh node x, by simp, rfl, rfl⟩
  · by_cases hi : i + 1 < done.length + 1
    · rw [List.getElem?_append_left (by simp; omega)] at h1 h2
      by_cases hi2 : i + 1 < done.length
      · rw [List.getElem?_append_left (by omega)] at h1 h2
        exact h.nxt i y z (by rw [List.getElem?_append_left (by omega)]; exact h1) (by rw [List.getElem?_append_left (by omega)]; exact h2)
      · have hi3 : i + 1 = done.length := by omega
        rw [List.getElem?_append_left (by omega)] at h1
        rw [List.getElem?_append_right (by omega), hi3] at h2
        simp at h2; subst h2
        exact h.nxt i y cur (by rw [List.getElem?_append_left (by omega)]; exact h1) (by rw [List.getElem?_append_right (by omega), hi3]; simp)
    · have hl2 := (List.getElem?_eq_some_iff.1 h2).1
      simp at hl2
      have hi3 : i = done.length := by omega
      subst hi3
      rw [List.getElem?_append_left (by simp), List.getElem?_append_right (by omega)] at h1
      rw [List.getElem?_append_right (by simp)] at h2
      simp at h1 h2
      subst h1 h2
      exact ⟨rfl, rfl⟩
  · rw [tail_snoc2] at hy
    rcases List.mem_append.1 hy with hy | hy
    · have : y ∈ (done ++ [cur]).tail ∨ y = { cur with nn := e.n, np := e.p } ∧ done ≠ [] := by
        cases done with
        | nil => simp at hy
        | cons d r =>
          simp at hy ⊢
          rcases hy with hy | hy
          · exact .inl (.inl hy)
          · exact .inr hy
      rcases this with hy | ⟨rfl, hd⟩
      · exact h.pos y hy
      · exact h.big hd
    · simp at hy; subst hy; exact h0
/-- One more event in the view. -/
theorem RunI.more {node : Nat} {es : List Ev} {done : List Sy} {cur cur' : Sy} {e : Ev} (h : RunI node es done cur) (hd : done ≠ []) (hid : cur'.n = cur.n ∧ cur'.p = cur.p ∧ cur'.s = cur.s) (hnn : cur'.nn = cur.nn ∧ cur'.np = cur.np) (hen : e.n = cur.n ∧ e.p = cur.p) (hk : e.k ≠ 1) (hy' : YI node (es ++ [e]) cur') :
    RunI node (es ++ [e]) done cur' := by
  have hlt : ∀ y ∈ done, ltV y.n y.p cur.n cur.p := fun y hy => (List.pairwise_append.1 h.inc).2.2 y hy cur (by simp)
  refine ⟨?_, ?_, fun y hy => ?_, fun x hx => ?_, fun i y z h1 h2 => ?_, by rw [hnn.1, hnn.2]; exact h.last, fun y hy => ?_, fun h1 => absurd h1 hd, fun _ => by rw [hid.1]; exact h.big hd⟩
  · rw [viewsE_snoc, if_neg hk, List.append_nil, h.views]
    obtain ⟨d, r, rfl⟩ := List.exists_cons_of_ne_nil hd
    simp [vwY, hid.1, hid.2.1, hid.2.2]
  · have := List.pairwise_append.1 h.inc
    rw [List.pairwise_append]
    refine ⟨this.1, by simp, fun a ha b hb => ?_⟩
    simp at hb; subst hb
    rw [hid.1, hid.2.1]
    exact hlt a ha
  · rcases List.mem_append.1 hy with hy | hy
    · refine (h.its y (List.mem_append_left _ hy)).snoc (.inl ?_)
      rintro ⟨a, b⟩
      have := hlt y hy
      rw [← hen.1, ← hen.2, a, b] at this
      exact ltV_irr this
    · simp at hy; subst hy; exact hy'
  · have hc : ∃ y ∈ done ++ [cur'], cur.n = y.n ∧ cur.p = y.p := ⟨cur', by simp, hid.1.symm, hid.2.1.symm⟩
    rcases List.mem_append.1 hx with hx | hx
    · obtain ⟨y, hy, a, b⟩ := h.evs x hx
      rcases List.mem_append.1 hy with hy | hy
      · exact ⟨y, by simp [hy], a, b⟩
      · simp at hy; subst hy
        rw [a, b]; exact hc
    · simp at hx; subst hx
      rw [hen.1, hen.2]; exact hc
  · have hl2 := (List.getElem?_eq_some_iff.1 h2).1
    simp at hl2
    rw [List.getElem?_append_left (by omega)] at h1
    have h1' : (done ++ [cur])[i]? = some y := by rw [List.getElem?_append_left (by omega)]; exact h1
    by_cases hi : i + 1 < done.length
    · rw [List.getElem?_append_left hi] at h2
      exact h.nxt i y z h1' (by rw [List.getElem?_append_left hi]; exact h2)
    · have hi3 : i + 1 = done.length := by omega
      rw [List.getElem?_append_right (by omega), hi3] at h2
      simp at h2; subst h2
      have := h.nxt i y cur h1' (by rw [List.getElem?_append_right (by omega), hi3]; simp)
      rw [hid.1, hid.2.1]; exact this
  · obtain ⟨d, r, rfl⟩ := List.exists_cons_of_ne_nil hd
    simp at hy
    rcases hy with hy | rfl
    · exact h.pos y (by simp [hy])
    · rw [hid.1]; exact h.big hd
theorem snocInd {P : List Ev → Prop} (h0 : P []) (h1 : ∀ l e, P l → P (l ++ [e])) (l : List Ev) : P l := by
  have : ∀ r : List Ev, P r.reverse := fun r => by
    induction r with
    | nil => exact h0
    | cons a r ih => simpa using h1 _ _ ih
  simpa using this l.reverse
theorem vw_same {y : Sy} {e : Ev} : sameView y e = true ↔ (e.n = y.n ∧ e.p = y.p ∧ e.s = y.s) := by simp [sameView]
/-- Both take one more event alike. -/
theorem step_view {node : Nat} {es : List Ev} {done : List Sy} {cur : Sy} {e : Ev} {a : As} (h : RunI node es done cur) (ha : AR es done cur a) (hk : e.k = 1) :
    (beforeD cur e = true → RunI node (es ++ [e]) (done ++ [{ cur with nn := e.n, np := e.p }]) (fresh node e) ∧ ∃ a', stepA node a e = some a' ∧ AR (es ++ [e]) (done ++ [{ cur with nn := e.n, np := e.p }]) (fresh node e) a') ∧ (beforeD cur e = false → stepA node a e = none) := by
  have hnd : cur.node = node := (h.its cur (by simp)).nd
  obtain ⟨a1, a2, a3, a4, a5, a6⟩ := ha
  constructor
  · intro hb
    unfold beforeD at hb
    simp only [Bool.and_eq_true, decide_eq_true_eq] at hb
    obtain ⟨b1, b2, b3⟩ := hb
    rw [hnd] at b2
    refine ⟨h.view hk b1 ((cmpV_gt _ _ _ _).1 b3), ⟨true, e.n, e.p, e.s, 0, 0⟩, ?_, by simp, rfl, rfl, rfl, rfl, rfl⟩
    unfold stepA
    rw [if_pos hk, if_neg]
    rintro (c | c | ⟨_, c⟩)
    · omega
    · rw [b2] at c; cases c
    · rw [a2, a3] at c; exact c b3
  · intro hb
    unfold stepA
    rw [if_pos hk, if_pos]
    by_cases b1 : e.n = 0
    · exact .inl b1
    by_cases b2 : hasN e.s node = true
    · refine .inr (.inr ⟨?_, ?_⟩)
      · rw [a1]
        intro hd
        have hz := h.zero hd
        unfold beforeD at hb
        rw [hnd, b2, hz] at hb
        have : 0 < cmpV e.n e.p 0 0 := by rw [cmpV_gt]; exact .inl (by omega)
        simp [zeroY, this] at hb
        omega
      · rw [a2, a3]
        intro hc
        unfold beforeD at hb
        rw [hnd, b2] at hb
        simp [hc] at hb
        omega
    · exact .inr (.inl (by simpa using b2))
theorem step_more {node : Nat} {es : List Ev} {done : List Sy} {cur cur' : Sy} {e : Ev} {a : As} (h : RunI node es done cur) (ha : AR es done cur a) (hk : e.k ≠ 1) (ht : takeD cur e = some cur') :
    RunI node (es ++ [e]) done cur' ∧ ∃ a', stepA node a e = some a' ∧ AR (es ++ [e]) done cur' a' := by
  obtain ⟨a1, a2, a3, a4, a5, a6⟩ := ha
  have hy := h.its cur (by simp)
  unfold takeD at ht
  by_cases h1 : cur.n = 0 ∨ sameView cur e = false
  · rw [if_pos h1] at ht; cases ht
  rw [if_neg h1] at ht
  have hn0 : cur.n ≠ 0 := fun c => h1 (.inl c)
  have hsv : sameView cur e = true := by
    cases hs : sameView cur e with
    | true => rfl
    | false => exact absurd (.inr hs) h1
  obtain ⟨v1, v2, v3⟩ := vw_same.1 hsv
  have hd : done ≠ [] := fun c => hn0 (by rw [h.zero c]; rfl)
  have hon : a.on = true := a1.2 hd
  have hsn : ∀ k, itemsE node k cur.n cur.p (es ++ [e]) = itemsE node k cur.n cur.p es ++ (if e.k = k then [(if k = 2 then ((node : Nat) : Int) else e.f, e.m)] else []) := fun k => by
    rw [itemsE_snoc]
    by_cases c : e.k = k
    · rw [if_pos ⟨c, v1, v2⟩, if_pos c]
    · rw [if_neg (fun x => c x.1), if_neg c]
  have hstep : (e.k = 2 ∨ e.k = 3 ∨ e.k = 4) → ¬ (a.recv + (if e.k = 3 then 1 else 0) < a.safe + (if e.k = 4 then 1 else 0)) → stepA node a e = some { a with recv := a.recv + (if e.k = 3 then 1 else 0), safe := a.safe + (if e.k = 4 then 1 else 0) } := fun x1 x2 => by
    unfold stepA
    rw [if_neg hk, if_pos x1, if_neg]
    rintro (c | c | c)
    · rw [hon] at c; cases c
    · exact c ⟨by rw [a2]; exact v1, by rw [a3]; exact v2, by rw [a4]; exact v3⟩
    · exact x2 c
  by_cases k2 : e.k = 2
  · rw [if_pos k2] at ht
    cases ht
    refine ⟨h.more hd ⟨rfl, rfl, rfl⟩ ⟨rfl, rfl⟩ ⟨v1, v2⟩ hk ⟨hy.nd, ?_, ?_, ?_, hy.le⟩, _, hstep (.inl k2) ?_, a1, a2, a3, a4, ?_, ?_⟩
    · dsimp only; rw [hsn, if_pos k2, hy.i2]; simp
    · dsimp only; rw [hsn, if_neg (by omega), List.append_nil]; exact hy.i3
    · dsimp only; rw [hsn, if_neg (by omega), List.append_nil]; exact hy.i4
    · rw [if_neg (show ¬ e.k = 3 by omega), if_neg (show ¬ e.k = 4 by omega)]; have := hy.le; omega
    · rw [if_neg (show ¬ e.k = 3 by omega)]; exact a5
    · rw [if_neg (show ¬ e.k = 4 by omega)]; exact a6
  rw [if_neg k2] at ht
  by_cases k3 : e.k = 3
  · rw [if_pos k3] at ht
    cases ht
    refine ⟨h.more hd ⟨rfl, rfl, rfl⟩ ⟨rfl, rfl⟩ ⟨v1, v2⟩ hk ⟨hy.nd, ?_, ?_, ?_, ?_⟩, _, hstep (.inr (.inl k3)) ?_, a1, a2, a3, a4, ?_, ?_⟩
    · dsimp only; rw [hsn, if_neg (by omega), List.append_nil]; exact hy.i2
    · dsimp only; rw [hsn, if_pos k3, hy.i3]; simp
    · dsimp only; rw [hsn, if_neg (by omega), List.append_nil, hy.i4, List.take_append_of_le_length hy.le]
    · dsimp only; have := hy.le; simp; omega
    · rw [if_pos k3, if_neg (show ¬ e.k = 4 by omega)]; have := hy.le; omega
    · rw [if_pos k3]; simp [a5]
    · rw [if_neg (show ¬ e.k = 4 by omega)]; exact a6
  rw [if_neg k3] at ht
  by_cases k4 : e.k = 4
  · rw [if_pos k4] at ht
    by_cases hg : cur.got[cur.safe]? = some (e.f, e.m)
    · rw [if_pos hg] at ht
      cases ht
      have hlt := (List.getElem?_eq_some_iff.1 hg).1
      refine ⟨h.more hd ⟨rfl, rfl, rfl⟩ ⟨rfl, rfl⟩ ⟨v1, v2⟩ hk ⟨hy.nd, ?_, ?_, ?_, ?_⟩, _, hstep (.inr (.inr k4)) ?_, a1, a2, a3, a4, ?_, ?_⟩
      · dsimp only; rw [hsn, if_neg (by omega), List.append_nil]; exact hy.i2
      · dsimp only; rw [hsn, if_neg (by omega), List.append_nil]; exact hy.i3
      · dsimp only; rw [hsn, if_pos k4, hy.i4, if_neg (by decide), List.take_add_one, hg]; rfl
      · dsimp only; omega
      · rw [if_neg k3, if_pos k4]; omega
      · rw [if_neg k3]; exact a5
      · rw [if_pos k4, a6]
    · rw [if_neg hg] at ht; cases ht
  · rw [if_neg k4] at ht; cases ht
theorem run_fwd {node : Nat} (es : List Ev) : ∀ {done : List Sy} {cur : Sy}, runD node es ([], zeroY node) = some (done, cur) → RunI node es done cur ∧ ∃ a, runA node es zeroA = some a ∧ AR es done cur a := by
  refine snocInd (P := fun es => ∀ {done : List Sy} {cur : Sy}, runD node es ([], zeroY node) = some (done, cur) → RunI node es done cur ∧ ∃ a, runA node es zeroA = some a ∧ AR es done cur a) ?_ ?_ es
  · intro done cur h
    simp only [runD, Option.some.injEq, Prod.mk.injEq] at h
    obtain ⟨rfl, rfl⟩ := h
    exact ⟨RunI.start node, zeroA, rfl, by simp [zeroA], rfl, rfl, rfl, rfl, rfl⟩
  · intro l e ih done cur h
    rw [runD_snoc] at h
    cases hr : runD node l ([], zeroY node) with
    | none => rw [hr] at h; cases h
    | some st =>
      rw [hr] at h
      obtain ⟨hI, a, ha, hAR⟩ := ih (done := st.1) (cur := st.2) hr
      replace h : stepD node st e = some (done, cur) := h
      unfold stepD at h
      rw [runA_snoc, ha]
      by_cases hk : e.k = 1
      · rw [if_pos hk] at h
        cases hb : beforeD st.2 e with
        | false => rw [hb] at h; cases h
        | true =>
          rw [hb] at h
          simp only [if_true, Option.some.injEq, Prod.mk.injEq] at h
          obtain ⟨rfl, rfl⟩ := h
          exact (step_view hI hAR hk).1 hb
      · rw [if_neg hk] at h
        obtain ⟨y, hy, h2⟩ := Option.map_eq_some_iff.1 h
        simp only [Prod.mk.injEq] at h2
        obtain ⟨rfl, rfl⟩ := h2
        exact step_more hI hAR hk hy
theorem prefix_at {α : Type} {a b : List α} (h : a <+: b) {i : Nat} {x : α} (hx : a[i]? = some x) : b[i]? = some x := by
  obtain ⟨t, rfl⟩ := h
  rw [List.getElem?_append_left (List.getElem?_eq_some_iff.1 hx).1]; exact hx
theorem run_back {node : Nat} (es : List Ev) : ∀ (rest : List Ev) {a : As}, runA node es zeroA = some a → (∀ v ∈ viewsE (es ++ rest), itemsE node 4 v.1 v.2.1 (es ++ rest) <+: itemsE node 3 v.1 v.2.1 (es ++ rest)) → ∃ st, runD node es ([], zeroY node) = some st := by
  refine snocInd (P := fun es => ∀ (rest : List Ev) {a : As}, runA node es zeroA = some a → (∀ v ∈ viewsE (es ++ rest), itemsE node 4 v.1 v.2.1 (es ++ rest) <+: itemsE node 3 v.1 v.2.1 (es ++ rest)) → ∃ st, runD node es ([], zeroY node) = some st) ?_ ?_ es
  · intro rest a _ _
    exact ⟨_, rfl⟩
  · intro l e ih rest a ha hp
    rw [List.append_assoc] at hp
    rw [runA_snoc] at ha
    cases hr : runA node l zeroA with
    | none => rw [hr] at ha; cases ha
    | some a0 =>
      rw [hr] at ha
      replace ha : stepA node a0 e = some a := ha
      obtain ⟨st, hst⟩ := ih ([e] ++ rest) hr hp
      obtain ⟨hI, a', ha', hAR⟩ := run_fwd l (done := st.1) (cur := st.2) hst
      rw [hr] at ha'; cases ha'
      rw [runD_snoc, hst]
      show ∃ x, stepD node st e = some x
      unfold stepD
      by_cases hk : e.k = 1
      · rw [if_pos hk]
        cases hb : beforeD st.2 e with
        | false => rw [(step_view hI hAR hk).2 hb] at ha; cases ha
        | true => exact ⟨_, rfl⟩
      · rw [if_neg hk]
        suffices h : ∃ y, takeD st.2 e = some y by
          obtain ⟨y, hy⟩ := h
          rw [hy]; exact ⟨_, rfl⟩
        unfold stepA at ha
        rw [if_neg hk] at ha
        by_cases h234 : e.k = 2 ∨ e.k = 3 ∨ e.k = 4
        · rw [if_pos h234] at ha
          by_cases hbad : a0.on = false ∨ ¬ (e.n = a0.n ∧ e.p = a0.p ∧ e.s = a0.s) ∨ a0.recv + (if e.k = 3 then 1 else 0) < a0.safe + (if e.k = 4 then 1 else 0)
          · rw [if_pos hbad] at ha; cases ha
          · obtain ⟨a1, a2, a3, a4, a5, a6⟩ := hAR
            have hon : a0.on = true := by
              cases ho : a0.on with
              | true => rfl
              | false => exact absurd (.inl ho) hbad
            have hd := a1.1 hon
            have hv : e.n = a0.n ∧ e.p = a0.p ∧ e.s = a0.s := Decidable.byContradiction fun c => hbad (.inr (.inl c))
            rw [a2, a3, a4] at hv
            have hpos := hI.big hd
            unfold takeD
            rw [if_neg (by rw [vw_same.2 hv]; simp; omega)]
            by_cases k2 : e.k = 2
            · rw [if_pos k2]; exact ⟨_, rfl⟩
            rw [if_neg k2]
            by_cases k3 : e.k = 3
            · rw [if_pos k3]; exact ⟨_, rfl⟩
            have k4 : e.k = 4 := by omega
            rw [if_neg k3, if_pos k4]
            have hlt : st.2.safe < st.2.got.length := by
              have hnb : ¬ (a0.recv + (if e.k = 3 then 1 else 0) < a0.safe + (if e.k = 4 then 1 else 0)) := fun c => hbad (.inr (.inr c))
              rw [if_neg k3, if_pos k4, a5, a6] at hnb
              have := hI.its st.2 (by simp)
              omega
            have hy := hI.its st.2 (by simp)
            have hmem : vwY st.2 ∈ viewsE (l ++ ([e] ++ rest)) := by
              have : vwY st.2 ∈ viewsE l := by
                rw [hI.views]
                refine List.mem_map_of_mem ?_
                obtain ⟨d, r, hdr⟩ := List.exists_cons_of_ne_nil hd
                rw [hdr]; simp
              unfold viewsE at this ⊢
              rw [List.filter_append, List.map_append]
              exact List.mem_append_left _ this
            have hpre := hp _ hmem
            have e4 : (itemsE node 4 st.2.n st.2.p (l ++ [e]))[st.2.safe]? = some (e.f, e.m) := by
              rw [itemsE_snoc, if_pos ⟨k4, hv.1, hv.2.1⟩, hy.i4, if_neg (by decide), List.getElem?_append_right (by simp; omega)]
              simp
              rw [Nat.min_eq_left (by omega), Nat.sub_self]; rfl
            have e4' : (itemsE node 4 st.2.n st.2.p (l ++ ([e] ++ rest)))[st.2.safe]? = some (e.f, e.m) := by
              rw [← List.append_assoc]
              exact prefix_at (itemsE_prefix node 4 st.2.n st.2.p (l ++ [e]) rest) e4
            have e3 : (itemsE node 3 st.2.n st.2.p (l ++ ([e] ++ rest)))[st.2.safe]? = st.2.got[st.2.safe]? := by
              obtain ⟨x, hx⟩ : ∃ x, st.2.got[st.2.safe]? = some x := ⟨_, List.getElem?_eq_getElem hlt⟩
              rw [hx]
              refine prefix_at (itemsE_prefix node 3 st.2.n st.2.p l ([e] ++ rest)) ?_
              rw [hy.i3]; exact hx
            have := prefix_at hpre e4'
            have hg : st.2.got[st.2.safe]? = some (e.f, e.m) := by rw [← e3]; exact this
            rw [if_pos hg]; exact ⟨_, rfl⟩
        · rw [if_neg h234] at ha; cases ha
theorem yi_prefix {node : Nat} {es : List Ev} {y : Sy} (h : YI node es y) : itemsE node 4 y.n y.p es <+: itemsE node 3 y.n y.p es := by
  rw [h.i3, h.i4]; exact List.take_prefix _ _
/-- The document's alone is the code's staysOf. -/
theorem alone_iff (node : Nat) (es : List Ev) : AloneOk node es ↔ (staysD node es).isSome = true := by
  unfold staysD
  rw [Option.isSome_map]
  constructor
  · rintro ⟨⟨a, ha⟩, hp⟩
    obtain ⟨st, hst⟩ := run_back es [] ha (by simpa using hp)
    rw [hst]; rfl
  · intro h
    obtain ⟨st, hst⟩ := Option.isSome_iff_exists.1 h
    obtain ⟨hI, a, ha, _⟩ := run_fwd es (done := st.1) (cur := st.2) hst
    refine ⟨⟨a, ha⟩, fun v hv => ?_⟩
    rw [hI.views] at hv
    obtain ⟨y, hy, rfl⟩ := List.mem_map.1 hv
    exact yi_prefix (hI.its y (List.mem_of_mem_tail hy))
/-- All of a node's stays. -/
structure SF (node : Nat) (es : List Ev) (ys : List Sy) : Prop where
  views : viewsE es = ys.map vwY
  inc : ys.Pairwise (fun a b => ltV a.n a.p b.n b.p)
  its : ∀ y ∈ ys, YI node es y
  nxt : ∀ (i : Nat) y z, ys[i]? = some y → ys[i + 1]? = some z → y.nn = z.n ∧ y.np = z.p
  last : ∀ y, ys.getLast? = some y → y.nn = 0 ∧ y.np = 0
  pos : ∀ y ∈ ys, 0 < y.n
theorem sf_of {node : Nat} {es : List Ev} {ys : List Sy} (h : staysD node es = some ys) : SF node es ys := by
  unfold staysD at h
  obtain ⟨⟨done, cur⟩, hst, rfl⟩ := Option.map_eq_some_iff.1 h
  obtain ⟨hI, _⟩ := run_fwd es hst
  dsimp only
  cases done with
  | nil =>
    refine ⟨by simpa using hI.views, by simp, fun y hy => by simp at hy, fun i y z h1 => by simp at h1, fun y hy => by simp at hy, fun y hy => by simp at hy⟩
  | cons d r =>
    refine ⟨hI.views, ?_, fun y hy => hI.its y (List.mem_of_mem_tail hy), fun i y z h1 h2 => ?_, fun y hy => ?_, hI.pos⟩
    · have := hI.inc
      simp only [List.cons_append, List.pairwise_cons] at this
      simpa using this.2
    · exact hI.nxt (i + 1) y z (by simpa using h1) (by simpa using h2)
    · simp at hy
      subst hy
      exact hI.last
theorem SF.uniq {node : Nat} {es : List Ev} {ys : List Sy} (h : SF node es ys) {a b : Sy} (ha : a ∈ ys) (hb : b ∈ ys) (hs : sameId a b) : a = b := by
  obtain ⟨i, hi⟩ := List.getElem?_of_mem ha
  obtain ⟨j, hj⟩ := List.getElem?_of_mem hb
  have hi' := (List.getElem?_eq_some_iff.1 hi)
  have hj' := (List.getElem?_eq_some_iff.1 hj)
  obtain ⟨li, ei⟩ := hi'
  obtain ⟨lj, ej⟩ := hj'
  rcases Nat.lt_trichotomy i j with c | c | c
  · have := List.pairwise_iff_getElem.1 h.inc i j li lj c
    rw [ei, ej, hs.1, hs.2] at this
    exact (ltV_irr this).elim
  · subst c; rw [← ei, ← ej]
  · have := List.pairwise_iff_getElem.1 h.inc j i lj li c
    rw [ei, ej, hs.1, hs.2] at this
    exact (ltV_irr this).elim
theorem SF.has {node : Nat} {es : List Ev} {ys : List Sy} (h : SF node es ys) (n : Nat) (p : Int) :
    (hasE es n p = none ∧ ∀ y ∈ ys, ¬ (y.n = n ∧ y.p = p)) ∨ ∃ y ∈ ys, hasE es n p = some (vwY y) ∧ y.n = n ∧ y.p = p := by
  unfold hasE
  rw [h.views]
  cases hf : (ys.map vwY).find? (fun v => decide (v.1 = n ∧ v.2.1 = p)) with
  | none =>
    refine .inl ⟨rfl, fun y hy => ?_⟩
    have := List.find?_eq_none.1 hf (vwY y) (List.mem_map_of_mem hy)
    intro hc
    exact this (decide_eq_true hc)
  | some v =>
    have h1 := List.find?_some hf
    have h2 := List.mem_of_find?_eq_some hf
    obtain ⟨y, hy, rfl⟩ := List.mem_map.1 h2
    exact .inr ⟨y, hy, rfl, of_decide_eq_true h1⟩
theorem next_list : ∀ (ys : List Sy), ys.Pairwise (fun a b => ltV a.n a.p b.n b.p) → (∀ (i : Nat) y z, ys[i]? = some y → ys[i + 1]? = some z → y.nn = z.n ∧ y.np = z.p) → (∀ y, ys.getLast? = some y → y.nn = 0 ∧ y.np = 0) →
    ∀ y ∈ ys, nextV (ys.map vwY) y.n y.p = (y.nn, y.np)
  | [], _, _, _, y, hy => by simp at hy
  | [a], _, _, hl, y, hy => by
    simp at hy; subst hy
    obtain ⟨h1, h2⟩ := hl y rfl
    simp [nextV, h1, h2]
  | a :: b :: r, hi, hn, hl, y, hy => by
    simp only [List.map_cons, nextV]
    rcases List.mem_cons.1 hy with rfl | hy
    · obtain ⟨h1, h2⟩ := hn 0 y b rfl rfl
      rw [if_pos ⟨rfl, rfl⟩]
      simp [vwY, h1, h2]
    · have hlt := (List.pairwise_cons.1 hi).1 y hy
      rw [if_neg]
      · exact next_list (b :: r) (List.pairwise_cons.1 hi).2 (fun i y z h1 h2 => hn (i + 1) y z (by simpa using h1) (by simpa using h2)) (fun y hy => hl y (by simpa using hy)) y hy
      · rintro ⟨h1, h2⟩
        simp only [vwY] at h1 h2
        rw [h1, h2] at hlt
        exact ltV_irr hlt
theorem SF.next {node : Nat} {es : List Ev} {ys : List Sy} (h : SF node es ys) {y : Sy} (hy : y ∈ ys) : nextV (viewsE es) y.n y.p = (y.nn, y.np) := by
  rw [h.views]; exact next_list ys h.inc h.nxt h.last y hy

/-- Those of a number, as members. -/
structure AgreeM (M : Sy → Prop) : Prop where
  set : ∀ a b, M a → M b → a.s = b.s
  pre : ∀ a b, M a → M b → a.got <+: b.got ∨ b.got <+: a.got
  sent : ∀ a, M a → ∀ k d, a.got[k]? = some d → ∃ c, M c ∧ d.1 = ((c.node : Nat) : Int) ∧ c.sent[cnt (a.got.take k) d.1]? = some d.2
  safe : ∀ a, M a → ∀ i : Nat, hasN a.s i = true → 0 < a.safe → ∃ c, M c ∧ c.node = i ∧ a.safe ≤ c.got.length
  tog : ∀ a b, M a → M b → TogP a b
def Dist (l : List Sy) : Prop := l.Pairwise (fun a b => a.node ≠ b.node)
theorem sentF_mem {l : List Sy} (hd : Dist l) {y : Sy} (hy : y ∈ l) : sentF l y.node = y.sent := by
  induction l with
  | nil => simp at hy
  | cons a r ih =>
    unfold sentF
    obtain ⟨h1, h2⟩ := List.pairwise_cons.1 hd
    rcases List.mem_cons.1 hy with rfl | hy
    · rw [if_neg, if_pos rfl]
      simp only [List.any_eq_true, decide_eq_true_eq, not_exists, not_and]
      exact fun z hz e => h1 z hz e.symm
    · rw [if_pos]
      · exact ih h2 hy
      · simp only [List.any_eq_true, decide_eq_true_eq]
        exact ⟨y, hy, rfl⟩
theorem sentF_none {l : List Sy} {i : Nat} (h : ∀ y ∈ l, y.node ≠ i) : sentF l i = [] := by
  induction l with
  | nil => rfl
  | cons a r ih =>
    unfold sentF
    rw [if_neg, if_neg (h a (by simp))]
    simp only [List.any_eq_true, decide_eq_true_eq, not_exists, not_and]
    exact fun z hz => h z (by simp [hz])
theorem hadF_mem {l : List Sy} (hd : Dist l) {y : Sy} (hy : y ∈ l) : hadF l y.node = y.got.length := by
  induction l with
  | nil => simp at hy
  | cons a r ih =>
    unfold hadF
    obtain ⟨h1, h2⟩ := List.pairwise_cons.1 hd
    rcases List.mem_cons.1 hy with rfl | hy
    · rw [if_neg, if_pos rfl]
      simp only [List.any_eq_true, decide_eq_true_eq, not_exists, not_and]
      exact fun z hz e => h1 z hz e.symm
    · rw [if_pos]
      · exact ih h2 hy
      · simp only [List.any_eq_true, decide_eq_true_eq]
        exact ⟨y, hy, rfl⟩
theorem hadF_none {l : List Sy} {i : Nat} (h : ∀ y ∈ l, y.node ≠ i) : hadF l i = 0 := by
  induction l with
  | nil => rfl
  | cons a r ih =>
    unfold hadF
    rw [if_neg, if_neg (h a (by simp))]
    simp only [List.any_eq_true, decide_eq_true_eq, not_exists, not_and]
    exact fun z hz => h z (by simp [hz])
theorem maxS_fold (l : List Sy) : ∀ m : Nat, (∀ y ∈ l, y.safe ≤ l.foldl (fun m y => max m y.safe) m) ∧ m ≤ l.foldl (fun m y => max m y.safe) m ∧ (l.foldl (fun m y => max m y.safe) m = m ∨ ∃ y ∈ l, l.foldl (fun m y => max m y.safe) m = y.safe) := by
  induction l with
  | nil => intro m; simp
  | cons a r ih =>
    intro m
    obtain ⟨h1, h2, h3⟩ := ih (max m a.safe)
    refine ⟨fun y hy => ?_, ?_, ?_⟩
    · rcases List.mem_cons.1 hy with rfl | hy
      · simp only [List.foldl_cons]; omega
      · exact h1 y hy
    · simp only [List.foldl_cons]; omega
    · simp only [List.foldl_cons]
      rcases h3 with h3 | ⟨y, hy, h3⟩
      · by_cases hm : m ≤ a.safe
        · exact .inr ⟨a, by simp, by omega⟩
        · exact .inl (by omega)
      · exact .inr ⟨y, by simp [hy], h3⟩
theorem hasN_nat {s i : Nat} : hasN s (i : Int) = true ↔ i < 16 ∧ s.testBit i = true := by
  unfold hasN
  simp
  omega
theorem len_total {S : List (List Di)} : ∃ x : List Di, (∀ l ∈ S, l.length ≤ x.length) ∧ (x = [] ∨ x ∈ S) := by
  induction S with
  | nil => exact ⟨[], by simp, .inl rfl⟩
  | cons a r ih =>
    obtain ⟨x, h1, h2⟩ := ih
    by_cases h : x.length ≤ a.length
    · exact ⟨a, fun l hl => by rcases List.mem_cons.1 hl with rfl | hl; exact Nat.le_refl _; exact Nat.le_trans (h1 l hl) h, .inr (by simp)⟩
    · refine ⟨x, fun l hl => by rcases List.mem_cons.1 hl with rfl | hl; omega; exact h1 l hl, ?_⟩
      rcases h2 with h2 | h2
      · exact .inl h2
      · exact .inr (by simp [h2])
theorem pre_len {α : Type} {a b : List α} (h : a <+: b ∨ b <+: a) (hl : a.length ≤ b.length) : a <+: b := by
  rcases h with h | h
  · exact h
  · rw [h.eq_of_length (Nat.le_antisymm h.length_le hl)]; exact List.prefix_refl _
theorem take_pre {α : Type} {a b : List α} (h : a <+: b) {k : Nat} (hk : k ≤ a.length) : b.take k = a.take k := by
  obtain ⟨t, rfl⟩ := h
  rw [List.take_append_of_le_length hk]
theorem agree_iff {G : List Sy} (hd : Dist G) (hn : ∀ y ∈ G, y.node < 16) (h0 : G ≠ []) : AgreeOk G ↔ AgreeM (· ∈ G) := by
  obtain ⟨g0, r, hG⟩ := List.exists_cons_of_ne_nil h0
  have hg0 : G[0]? = some g0 := by rw [hG]; rfl
  have hg0m : g0 ∈ G := by rw [hG]; simp
  constructor
  · rintro ⟨h1, ⟨S, h2, h3, h4⟩, h5, h6⟩
    have hset : ∀ a ∈ G, a.s = g0.s := fun a ha => by
      have := List.all_eq_true.1 h1 a ha
      rw [hg0] at this
      simpa using this
    refine ⟨fun a b ha hb => by rw [hset a ha, hset b hb], fun a b ha hb => ?_, fun a ha k d hk => ?_, fun a ha i hi h0 => ?_, fun a b ha hb => ?_⟩
    · exact List.prefix_or_prefix_of_prefix (h2 _ (List.mem_map_of_mem ha)) (h2 _ (List.mem_map_of_mem hb))
    · have hp := h2 _ (List.mem_map_of_mem ha)
      obtain ⟨hp0, own, ho, hv⟩ := h4 k d (prefix_at hp hk)
      rw [take_pre hp (Nat.le_of_lt (List.getElem?_eq_some_iff.1 hk).1)] at hv
      have hlt := (List.getElem?_eq_some_iff.1 ho).1
      rw [List.length_map, List.length_range] at hlt
      rw [List.getElem?_map, List.getElem?_range hlt] at ho
      simp at ho
      by_cases hex : ∃ c ∈ G, c.node = d.1.toNat
      · obtain ⟨c, hc, hcn⟩ := hex
        refine ⟨c, hc, by omega, ?_⟩
        rw [← hcn, sentF_mem hd hc] at ho
        subst ho
        exact hv
      · rw [sentF_none (fun y hy e => hex ⟨y, hy, e⟩)] at ho
        subst ho
        simp at hv
    · obtain ⟨hi1, hi2⟩ := hasN_nat.1 hi
      have hb := h5 i hi1 (by rw [hg0]; simpa [← hset a ha] using hi2)
      have ha1 := (maxS_fold G 0).1 a ha
      have hb' : a.safe ≤ hadF G i := Nat.le_trans ha1 hb
      by_cases hex : ∃ c ∈ G, c.node = i
      · obtain ⟨c, hc, rfl⟩ := hex
        rw [hadF_mem hd hc] at hb'
        exact ⟨c, hc, rfl, hb'⟩
      · rw [hadF_none (fun y hy e => hex ⟨y, hy, e⟩)] at hb'
        omega
    · obtain ⟨i, hi⟩ := List.getElem?_of_mem ha
      obtain ⟨j, hj⟩ := List.getElem?_of_mem hb
      rcases Nat.lt_trichotomy j i with c | c | c
      · exact h6 i j a b c hi hj
      · subst c; rw [hi] at hj; cases hj; exact fun _ _ _ => rfl
      · have := h6 j i b a c hj hi
        exact fun x y z => (this (by rw [← y]; exact x) y.symm z.symm).symm
  · intro h
    refine ⟨?_, ?_, ?_, ?_⟩
    · unfold oneSetD
      rw [List.all_eq_true]
      intro y hy
      rw [hg0]
      simpa using h.set y g0 hy hg0m
    · obtain ⟨x, hx1, hx2⟩ := len_total (S := G.map (·.got))
      have hx3 : x = [] ∨ ∃ a ∈ G, a.got = x := by
        rcases hx2 with hx | hx
        · exact .inl hx
        · exact .inr (List.mem_map.1 hx)
      refine ⟨x, fun l hl => ?_, hx2, fun k d hk => ?_⟩
      · obtain ⟨a, ha, rfl⟩ := List.mem_map.1 hl
        have hle := hx1 _ hl
        rcases hx3 with hx | ⟨b, hb, rfl⟩
        · subst hx
          simp at hle
          rw [hle]; exact List.prefix_refl _
        · exact pre_len (h.pre a b ha hb) hle
      · rcases hx3 with hx | ⟨b, hb, rfl⟩
        · subst hx; simp at hk
        · obtain ⟨c, hc, hdc, hv⟩ := h.sent b hb k d hk
          refine ⟨by omega, c.sent, ?_, hv⟩
          have hc16 := hn c hc
          rw [hdc, Int.toNat_natCast, List.getElem?_map, List.getElem?_range hc16]
          simp [sentF_mem hd hc]
    · intro i hi hb
      rw [hg0] at hb
      simp at hb
      rcases (maxS_fold G 0).2.2 with e | ⟨a, ha, e⟩
      · show maxS G ≤ _
        unfold maxS; rw [e]; exact Nat.zero_le _
      · show maxS G ≤ _
        unfold maxS; rw [e]
        by_cases hz : a.safe = 0
        · omega
        · obtain ⟨c, hc, rfl, hle⟩ := h.safe a ha i (hasN_nat.2 ⟨hi, by rw [h.set a g0 ha hg0m]; exact hb⟩) (by omega)
          rw [hadF_mem hd hc]; exact hle
    · intro i j a b _ hi hj
      exact h.tog a b (List.mem_of_getElem? hi) (List.mem_of_getElem? hj)
theorem grp_mem {srt : List Sy} (hs : srt.Pairwise (fun x y => ¬ ltV y.n y.p x.n x.p)) {j m : Nat} {y0 : Sy} (h0 : srt[j]? = some y0) (hb : Bnd srt j) (hf : FirstN (srt.drop j) y0 m) (y : Sy) :
    y ∈ (srt.drop j).take m ↔ y ∈ srt ∧ sameId y y0 := by
  obtain ⟨hm0, hml, hin, hout⟩ := hf
  have hjl := (List.getElem?_eq_some_iff.1 h0).1
  have hle : ∀ (a b : Nat) (x z : Sy), a < b → srt[a]? = some x → srt[b]? = some z → ¬ ltV z.n z.p x.n x.p := fun a b x z hab hx hz => by
    obtain ⟨la, ea⟩ := List.getElem?_eq_some_iff.1 hx
    obtain ⟨lb, eb⟩ := List.getElem?_eq_some_iff.1 hz
    have := List.pairwise_iff_getElem.1 hs a b la lb hab
    rw [ea, eb] at this; exact this
  constructor
  · intro hy
    obtain ⟨t, ht⟩ := List.getElem?_of_mem hy
    have hlt := (List.getElem?_eq_some_iff.1 ht).1
    rw [List.length_take] at hlt
    have hlt1 : t < m := by omega
    rw [List.getElem?_take_of_lt hlt1] at ht
    exact ⟨List.mem_of_mem_drop (List.mem_of_getElem? ht), hin t y hlt1 ht⟩
  · rintro ⟨hy, hid⟩
    obtain ⟨t, ht⟩ := List.getElem?_of_mem hy
    have htl := (List.getElem?_eq_some_iff.1 ht).1
    have h1 : j ≤ t := by
      apply Nat.le_of_not_lt
      intro hlt
      obtain ⟨x, hx⟩ : ∃ x, srt[j - 1]? = some x := ⟨_, List.getElem?_eq_getElem (by omega)⟩
      have hne := hb x y0 (by omega) hx h0
      have k1 := hle (j - 1) j x y0 (by omega) hx h0
      have k2 : t = j - 1 ∨ ¬ ltV x.n x.p y.n y.p := by
        by_cases e : t = j - 1
        · exact .inl e
        · exact .inr (hle t (j - 1) y x (by omega) ht hx)
      rcases k2 with e | k2
      · subst e
        rw [ht] at hx; cases hx
        exact hne ⟨hid.1.symm, hid.2.symm⟩
      · rw [hid.1, hid.2] at k2
        unfold sameId at hne
        unfold ltV at k1 k2
        omega
    have h2 : t < j + m := by
      apply Nat.lt_of_not_le
      intro hge
      simp at hml
      obtain ⟨x, hx⟩ : ∃ x, srt[j + m]? = some x := ⟨_, List.getElem?_eq_getElem (by omega)⟩
      have hne := hout x (by rw [List.getElem?_drop]; exact hx)
      have k1 := hle j (j + m) y0 x (by omega) h0 hx
      have k2 : t = j + m ∨ ¬ ltV y.n y.p x.n x.p := by
        by_cases e : t = j + m
        · exact .inl e
        · exact .inr (hle (j + m) t x y (by omega) hx ht)
      rcases k2 with e | k2
      · subst e
        rw [ht] at hx; cases hx
        exact hne hid
      · rw [hid.1, hid.2] at k2
        unfold sameId at hne
        unfold ltV at k1 k2
        omega
    refine List.mem_of_getElem? (i := t - j) ?_
    rw [List.getElem?_take_of_lt (by omega), List.getElem?_drop, show j + (t - j) = t by omega]
    exact ht
instance (a b : Sy) : Decidable (sameId a b) := by unfold sameId; infer_instance
theorem grps_iff {srt : List Sy} (hs : srt.Pairwise (fun x y => ¬ ltV y.n y.p x.n x.p)) (hd : srt.Pairwise (fun a b => sameId a b → a.node ≠ b.node)) (hn : ∀ y ∈ srt, y.node < 16) :
    GrpsOk srt ↔ ∀ y0 ∈ srt, AgreeM (fun y => y ∈ srt ∧ sameId y y0) := by
  have key : ∀ (j m : Nat) (y0 : Sy), srt[j]? = some y0 → Bnd srt j → FirstN (srt.drop j) y0 m → (AgreeOk ((srt.drop j).take m) ↔ AgreeM (fun y => y ∈ srt ∧ sameId y y0)) := fun j m y0 h0 hb hf => by
    have hm := grp_mem hs h0 hb hf
    rw [agree_iff]
    · have e : (fun y => y ∈ (srt.drop j).take m) = (fun y => y ∈ srt ∧ sameId y y0) := funext fun y => propext (hm y)
      rw [e]
    · have h1 : ((srt.drop j).take m).Pairwise (fun a b => sameId a b → a.node ≠ b.node) := (hd.sublist (List.drop_sublist j srt)).sublist (List.take_sublist m _)
      refine h1.imp_of_mem (fun {a b} ha hb' h => h ?_)
      have := ((hm a).1 ha).2
      have := ((hm b).1 hb').2
      unfold sameId at *
      omega
    · exact fun y hy => hn y ((hm y).1 hy).1
    · intro e
      have := (hm y0).2 ⟨List.mem_of_getElem? h0, rfl, rfl⟩
      rw [e] at this; simp at this
  constructor
  · intro h y0 hy0
    obtain ⟨j, hj⟩ : ∃ j, srt.findIdx (fun y => decide (sameId y y0)) = j := ⟨_, rfl⟩
    have hjl : j < srt.length := by
      rw [← hj]
      exact List.findIdx_lt_length_of_exists ⟨y0, hy0, by simp [sameId]⟩
    obtain ⟨z, hz⟩ : ∃ z, srt[j]? = some z := ⟨_, List.getElem?_eq_getElem hjl⟩
    have hzs : sameId z y0 := by
      have := List.findIdx_getElem (xs := srt) (p := fun y => decide (sameId y y0)) (w := by rw [hj]; exact hjl)
      simp only [hj, decide_eq_true_eq] at this
      obtain ⟨_, e⟩ := List.getElem?_eq_some_iff.1 hz
      rw [e] at this; exact this
    have hb : Bnd srt j := fun a b h0 ha hb hab => by
      rw [hz] at hb; cases hb
      have hlt : j - 1 < srt.findIdx (fun y => decide (sameId y y0)) := by omega
      have := List.not_of_lt_findIdx hlt
      obtain ⟨_, e⟩ := List.getElem?_eq_some_iff.1 ha
      rw [e] at this
      simp at this
      unfold sameId at *
      omega
    obtain ⟨m, hm⟩ : ∃ m, (srt.drop j).findIdx (fun y => !decide (sameId y z)) = m := ⟨_, rfl⟩
    have hf : FirstN (srt.drop j) z m := by
      have hin : ∀ i y, i < m → (srt.drop j)[i]? = some y → sameId y z := fun i y hi hy => by
        have hlt : i < (srt.drop j).findIdx (fun y => !decide (sameId y z)) := by omega
        have := List.not_of_lt_findIdx hlt
        obtain ⟨_, e⟩ := List.getElem?_eq_some_iff.1 hy
        rw [e] at this
        simpa using this
      have hout : ∀ y, (srt.drop j)[m]? = some y → ¬ sameId y z := fun y hy => by
        obtain ⟨hl, e⟩ := List.getElem?_eq_some_iff.1 hy
        have := List.findIdx_getElem (xs := srt.drop j) (p := fun y => !decide (sameId y z)) (w := by rw [hm]; exact hl)
        simp only [hm] at this
        rw [e] at this
        simpa using this
      refine ⟨Nat.pos_of_ne_zero fun e => ?_, by rw [← hm]; exact List.findIdx_le_length, hin, hout⟩
      subst e
      exact hout z (by rw [List.getElem?_drop]; exact hz) ⟨rfl, rfl⟩
    have := (key j m z hz hb hf).1 (h j hjl m z hz hb hf)
    have e : (fun y => y ∈ srt ∧ sameId y z) = (fun y => y ∈ srt ∧ sameId y y0) := funext fun y => propext (by unfold sameId at *; rw [hzs.1, hzs.2])
    rw [e] at this
    exact this
  · intro h j hj m y0 h0 hb hf
    exact (key j m y0 h0 hb hf).2 (h y0 (List.mem_of_getElem? h0))
theorem cnt_at (l : List Di) (f : Nat) : ∀ {k : Nat} {d : Di}, l[k]? = some d → d.1 = (f : Int) → (fromD l f)[cnt (l.take k) f]? = some d := by
  induction l with
  | nil => intro k d h; simp at h
  | cons a r ih =>
    intro k d h hf
    cases k with
    | zero =>
      simp at h; subst h
      unfold fromD
      rw [List.filter_cons_of_pos (by simpa using hf)]
      rfl
    | succ k =>
      simp at h
      have := ih h hf
      unfold fromD cnt at this ⊢
      simp only [List.take_succ_cons, List.countP_cons]
      by_cases ha : a.1 = (f : Int)
      · rw [List.filter_cons_of_pos (by simpa using ha), if_pos (by simpa using ha)]
        simpa using this
      · rw [List.filter_cons_of_neg (by simpa using ha), if_neg (by simpa using ha)]
        simpa using this
theorem at_cnt (l : List Di) (f : Nat) : ∀ {t : Nat} {d : Di}, (fromD l f)[t]? = some d → ∃ k, l[k]? = some d ∧ cnt (l.take k) f = t ∧ d.1 = (f : Int) := by
  induction l with
  | nil => intro t d h; simp [fromD] at h
  | cons a r ih =>
    intro t d h
    unfold fromD at h
    by_cases ha : a.1 = (f : Int)
    · rw [List.filter_cons_of_pos (by simpa using ha)] at h
      cases t with
      | zero => simp at h; subst h; exact ⟨0, rfl, rfl, ha⟩
      | succ t =>
        simp at h
        obtain ⟨k, h1, h2, h3⟩ := ih h
        refine ⟨k + 1, by simpa using h1, ?_, h3⟩
        unfold cnt at h2 ⊢
        simp only [List.take_succ_cons, List.countP_cons]
        rw [if_pos (by simpa using ha), h2]
    · rw [List.filter_cons_of_neg (by simpa using ha)] at h
      obtain ⟨k, h1, h2, h3⟩ := ih h
      refine ⟨k + 1, by simpa using h1, ?_, h3⟩
      unfold cnt at h2 ⊢
      simp only [List.take_succ_cons, List.countP_cons]
      rw [if_neg (by simpa using ha), h2]; rfl
theorem prefix_of_at {α : Type} : ∀ {a b : List α}, (∀ (t : Nat) (x : α), a[t]? = some x → b[t]? = some x) → a <+: b
  | [], b, h => List.nil_prefix
  | x :: a, b, h => by
    have h0 := h 0 x rfl
    cases b with
    | nil => simp at h0
    | cons y b =>
      simp at h0; subst h0
      have := prefix_of_at (a := a) (b := b) (fun t z hz => by simpa using h (t + 1) z (by simpa using hz))
      exact List.cons_prefix_cons.2 ⟨rfl, this⟩
theorem allD_mem {ess : List (List Ev)} {all : List Sy} (h : AllD ess ess.length all) (hA : ∀ i es, ess[i]? = some es → (staysD i es).isSome = true) :
    (∀ y, y ∈ all ↔ ∃ i es ys, ess[i]? = some es ∧ SF i es ys ∧ y ∈ ys) ∧ (∀ i es, ess[i]? = some es → ∃ ys, SF i es ys ∧ ∀ y ∈ ys, y ∈ all) ∧ all.Pairwise (fun a b => sameId a b → a.node ≠ b.node) := by
  obtain ⟨yss, hl, rfl, hy⟩ := h
  have hat : ∀ i ys, yss[i]? = some ys → ∃ es, ess[i]? = some es ∧ SF i es ys := fun i ys hi => by
    have := (List.getElem?_eq_some_iff.1 hi).1
    refine ⟨ess[i]'(by omega), List.getElem?_eq_getElem (by omega), sf_of (hy i ys _ hi (List.getElem?_eq_getElem (by omega)))⟩
  have hat2 : ∀ i es, ess[i]? = some es → ∃ ys, yss[i]? = some ys ∧ SF i es ys := fun i es hi => by
    have := (List.getElem?_eq_some_iff.1 hi).1
    refine ⟨yss[i]'(by omega), List.getElem?_eq_getElem (by omega), sf_of (hy i _ es (List.getElem?_eq_getElem (by omega)) hi)⟩
  refine ⟨fun y => ⟨fun h => ?_, ?_⟩, fun i es hi => ?_, ?_⟩
  · obtain ⟨ys, hys, hyy⟩ := List.mem_flatten.1 h
    obtain ⟨i, hi⟩ := List.getElem?_of_mem hys
    obtain ⟨es, h1, h2⟩ := hat i ys hi
    exact ⟨i, es, ys, h1, h2, hyy⟩
  · rintro ⟨i, es, ys, h1, h2, h3⟩
    obtain ⟨ys', h4, h5⟩ := hat2 i es h1
    have he : staysD i es = some ys' := hy i ys' es h4 h1
    have : ys.map vwY = ys'.map vwY := by rw [← h2.views, h5.views]
    obtain ⟨t, ht⟩ := List.getElem?_of_mem h3
    have hlen : ys.length = ys'.length := by simpa using congrArg List.length this
    have htl := (List.getElem?_eq_some_iff.1 ht).1
    obtain ⟨z, hz⟩ : ∃ z, ys'[t]? = some z := ⟨_, List.getElem?_eq_getElem (by omega)⟩
    have hvz : vwY y = vwY z := by
      have h6 : (ys.map vwY)[t]? = (ys'.map vwY)[t]? := by rw [this]
      rw [List.getElem?_map, List.getElem?_map, ht, hz] at h6
      simpa using h6
    have hzm := List.mem_of_getElem? hz
    have n1 := h2.next h3
    have n2 := h5.next hzm
    simp only [vwY, Prod.mk.injEq] at hvz
    obtain ⟨v1, v2, v3⟩ := hvz
    have hy1 := h2.its y h3
    have hz1 := h5.its z hzm
    rw [v1, v2] at n1
    rw [n2] at n1
    have e2 := hy1.i2
    have e3 := hy1.i3
    have e4 := hy1.i4
    rw [v1, v2] at e2 e3 e4
    have e2' := hz1.i2
    rw [e2] at e2'
    have e3' := hz1.i3
    rw [e3] at e3'
    have e4' := hz1.i4
    rw [e4, e3'] at e4'
    have hsf : y.safe = z.safe := by
      have l1 := congrArg List.length e4'
      have := hy1.le
      have := hz1.le
      rw [e3'] at *
      simp at l1
      omega
    have hsent : y.sent = z.sent := by
      have := congrArg (List.map Prod.snd) e2'
      simpa [List.map_map, Function.comp_def] using this
    simp only [Prod.mk.injEq] at n1
    have : y = z := by
      have hnode : y.node = z.node := by rw [hy1.nd, hz1.nd]
      cases y; cases z
      simp only [Sy.mk.injEq]
      exact ⟨hnode, v1, v2, v3, hsent, e3', hsf, n1.1.symm, n1.2.symm⟩
    rw [this]
    exact List.mem_flatten.2 ⟨ys', List.mem_of_getElem? h4, hzm⟩
  · obtain ⟨ys, h1, h2⟩ := hat2 i es hi
    exact ⟨ys, h2, fun y hy => List.mem_flatten.2 ⟨ys, List.mem_of_getElem? h1, hy⟩⟩
  · rw [List.pairwise_flatten]
    refine ⟨fun ys hys => ?_, ?_⟩
    · obtain ⟨i, hi⟩ := List.getElem?_of_mem hys
      obtain ⟨es, _, h2⟩ := hat i ys hi
      refine h2.inc.imp (fun {a b} hab hid => ?_)
      rw [hid.1, hid.2] at hab
      exact (ltV_irr hab).elim
    · rw [List.pairwise_iff_getElem]
      intro i j hi hj hij x hx y hy _ hne
      obtain ⟨_, _, h2⟩ := hat i _ (List.getElem?_eq_getElem hi)
      obtain ⟨_, _, h3⟩ := hat j _ (List.getElem?_eq_getElem hj)
      have := (h2.its x hx).nd
      have := (h3.its y hy).nd
      omega
theorem i4_len {node : Nat} {es : List Ev} {y : Sy} (h : YI node es y) : (itemsE node 4 y.n y.p es).length = y.safe := by
  rw [h.i4, List.length_take, Nat.min_eq_left h.le]
theorem doc_iff {ess : List (List Ev)} {all : List Sy} (h : AllD ess ess.length all) (hA : ∀ i es, ess[i]? = some es → (staysD i es).isSome = true) :
    (∀ i es, ess[i]? = some es → ∀ v ∈ viewsE es, InV ess i es v) ↔ ∀ y0 ∈ all, AgreeM (fun y => y ∈ all ∧ sameId y y0) := by
  obtain ⟨hm, hall, _⟩ := allD_mem h hA
  constructor
  · intro hd y0 hy0
    have both : ∀ a b, a ∈ all ∧ sameId a y0 → b ∈ all ∧ sameId b y0 → ∃ i es j fs, ess[i]? = some es ∧ ess[j]? = some fs ∧ YI i es a ∧ YI j fs b ∧ nextV (viewsE es) a.n a.p = (a.nn, a.np) ∧ nextV (viewsE fs) a.n a.p = (b.nn, b.np) ∧ hasE fs a.n a.p = some (vwY b) ∧ InV ess i es (vwY a) ∧ b.n = a.n ∧ b.p = a.p := fun a b ha hb => by
      obtain ⟨i, es, ys, h1, h2, h3⟩ := (hm a).1 ha.1
      obtain ⟨j, fs, zs, k1, k2, k3⟩ := (hm b).1 hb.1
      have e1 : b.n = a.n := by have := ha.2.1; have := hb.2.1; omega
      have e2 : b.p = a.p := by have := ha.2.2; have := hb.2.2; omega
      refine ⟨i, es, j, fs, h1, k1, h2.its a h3, k2.its b k3, h2.next h3, ?_, ?_, hd i es h1 _ (by rw [h2.views]; exact List.mem_map_of_mem h3), e1, e2⟩
      · rw [← e1, ← e2]; exact k2.next k3
      · rcases k2.has a.n a.p with ⟨_, hno⟩ | ⟨c, hc, hh, c1, c2⟩
        · exact (hno b k3 ⟨e1, e2⟩).elim
        · rw [hh, k2.uniq hc k3 ⟨by omega, by omega⟩]
    refine ⟨fun a b ha hb => ?_, fun a b ha hb => ?_, fun a ha k d hk => ?_, fun a ha i hi h0 => ?_, fun a b ha hb => ?_⟩
    · obtain ⟨i, es, j, fs, h1, h2, h3, h4, h5, h6, h7, ⟨_, hj, _⟩, _, _⟩ := both a b ha hb
      have := hj j fs h2
      unfold JOk at this
      rw [show (vwY a).1 = a.n from rfl, show (vwY a).2.1 = a.p from rfl, h7] at this
      have := this.1
      simp only [vwY, Prod.mk.injEq] at this
      exact this.2.2.symm
    · obtain ⟨i, es, j, fs, h1, h2, h3, h4, h5, h6, h7, ⟨_, hj, _⟩, e1, e2⟩ := both a b ha hb
      have := hj j fs h2
      unfold JOk at this
      rw [show (vwY a).1 = a.n from rfl, show (vwY a).2.1 = a.p from rfl, h7] at this
      have := this.2.1
      rw [h3.i3, ← e1, ← e2, h4.i3] at this
      exact this
    · obtain ⟨i, es, _, _, h1, _, h3, _, _, _, _, ⟨hr, hj, _⟩, _, _⟩ := both a a ha ha
      rw [show (vwY a).1 = a.n from rfl, show (vwY a).2.1 = a.p from rfl] at hr hj
      rw [h3.i3] at hr hj
      obtain ⟨d0, d1⟩ := hr d (List.mem_of_getElem? hk)
      obtain ⟨f, hf⟩ : ∃ f : Nat, d.1 = (f : Int) := ⟨d.1.toNat, by omega⟩
      have hfl : f < ess.length := by omega
      obtain ⟨fs, hfs⟩ : ∃ fs, ess[f]? = some fs := ⟨_, List.getElem?_eq_getElem hfl⟩
      have := hj f fs hfs
      unfold JOk at this
      obtain ⟨zs, hz, hzall⟩ := hall f fs hfs
      rcases hz.has a.n a.p with ⟨hno, _⟩ | ⟨c, hc, hh, c1, c2⟩
      · rw [show (vwY a).1 = a.n from rfl, show (vwY a).2.1 = a.p from rfl, hno] at this
        have hc := cnt_at a.got f hk hf
        rw [this.1] at hc
        simp at hc
      · rw [show (vwY a).1 = a.n from rfl, show (vwY a).2.1 = a.p from rfl, hh] at this
        have hp := this.2.2.1
        have hyc := hz.its c hc
        rw [← c1, ← c2, hyc.i2] at hp
        have := prefix_at hp (cnt_at a.got f hk hf)
        refine ⟨c, ⟨hzall c hc, ?_⟩, by rw [hyc.nd]; exact hf, ?_⟩
        · have := ha.2; unfold sameId at *; omega
        · rw [List.getElem?_map] at this
          obtain ⟨x, hx, hxd⟩ := Option.map_eq_some_iff.1 this
          rw [hf, hx, ← hxd]
    · obtain ⟨t, es, _, _, h1, _, h3, _, _, _, _, ⟨_, hj, hj2⟩, _, _⟩ := both a a ha ha
      rw [show (vwY a).1 = a.n from rfl, show (vwY a).2.1 = a.p from rfl, i4_len h3] at hj hj2
      by_cases hil : i < ess.length
      · obtain ⟨fs, hfs⟩ : ∃ fs, ess[i]? = some fs := ⟨_, List.getElem?_eq_getElem hil⟩
        have := hj i fs hfs
        unfold JOk at this
        obtain ⟨zs, hz, hzall⟩ := hall i fs hfs
        rcases hz.has a.n a.p with ⟨hno, _⟩ | ⟨c, hc, hh, c1, c2⟩
        · rw [show (vwY a).1 = a.n from rfl, show (vwY a).2.1 = a.p from rfl, hno] at this
          exact (this.2 ⟨h0, hi⟩).elim
        · rw [show (vwY a).1 = a.n from rfl, show (vwY a).2.1 = a.p from rfl, hh] at this
          have hp := this.2.2.2.1
          have hyc := hz.its c hc
          rw [← c1, ← c2, hyc.i3] at hp
          refine ⟨c, ⟨hzall c hc, ?_⟩, hyc.nd, Nat.le_of_not_lt fun hlt => hp ⟨hlt, hi⟩⟩
          have := ha.2; unfold sameId at *; omega
      · exact (hj2 i (by omega) (hasN_nat.1 hi).1 ⟨h0, hi⟩).elim
    · obtain ⟨i, es, j, fs, h1, h2, h3, h4, h5, h6, h7, ⟨_, hj, _⟩, e1, e2⟩ := both a b ha hb
      have := hj j fs h2
      unfold JOk at this
      rw [show (vwY a).1 = a.n from rfl, show (vwY a).2.1 = a.p from rfl, h7] at this
      have := this.2.2.2.2
      rw [h5, h6, h3.i3, ← e1, ← e2, h4.i3] at this
      intro x1 x2 x3
      apply Decidable.byContradiction
      intro hne
      exact this ⟨x1, by rw [x2, x3], hne⟩
  · intro hg i es hes v hv
    obtain ⟨ys, hs, hall1⟩ := hall i es hes
    rw [hs.views] at hv
    obtain ⟨a, ha, rfl⟩ := List.mem_map.1 hv
    have haA := hall1 a ha
    have hM := hg a haA
    have hya := hs.its a ha
    have hself : a ∈ all ∧ sameId a a := ⟨haA, rfl, rfl⟩
    have hnd : ∀ c, c ∈ all → ∀ j fs zs, ess[j]? = some fs → SF j fs zs → c.node = j → c ∈ zs := fun c hc j fs zs h1 h2 h3 => by
      obtain ⟨j', fs', zs', k1, k2, k3⟩ := (hm c).1 hc
      have := (k2.its c k3).nd
      obtain rfl : j' = j := by omega
      rw [h1] at k1; cases k1
      rcases h2.has c.n c.p with ⟨hno, hno2⟩ | ⟨e, he, hh, e1, e2⟩
      · exfalso
        have : vwY c ∈ zs.map vwY := by rw [← h2.views, k2.views]; exact List.mem_map_of_mem k3
        obtain ⟨x, hx, hxc⟩ := List.mem_map.1 this
        simp only [vwY, Prod.mk.injEq] at hxc
        exact hno2 x hx ⟨hxc.1, hxc.2.1⟩
      · have hA2 := (hm e).2 ⟨j', fs, zs, h1, h2, he⟩
        obtain ⟨zs3, h5, h6⟩ := hall j' fs h1
        have hd := (allD_mem h hA).2.2
        by_cases hce : c = e
        · rw [hce]; exact he
        · exfalso
          have hen := (h2.its e he).nd
          obtain ⟨p, hp⟩ := List.getElem?_of_mem hc
          obtain ⟨q, hq⟩ := List.getElem?_of_mem hA2
          obtain ⟨lp, ep⟩ := List.getElem?_eq_some_iff.1 hp
          obtain ⟨lq, eq⟩ := List.getElem?_eq_some_iff.1 hq
          rcases Nat.lt_trichotomy p q with x | x | x
          · have := List.pairwise_iff_getElem.1 hd p q lp lq x
            rw [ep, eq] at this
            exact this ⟨e1.symm, e2.symm⟩ (by omega)
          · subst x; exact hce (by rw [← ep, ← eq])
          · have := List.pairwise_iff_getElem.1 hd q p lq lp x
            rw [ep, eq] at this
            exact this ⟨e1, e2⟩ (by omega)
    refine ⟨fun d hd => ?_, fun j fs hfs => ?_, fun j hj hj16 => ?_⟩
    · rw [show (vwY a).1 = a.n from rfl, show (vwY a).2.1 = a.p from rfl, hya.i3] at hd
      obtain ⟨k, hk⟩ := List.getElem?_of_mem hd
      obtain ⟨c, hc, hdc, _⟩ := hM.sent a hself k d hk
      obtain ⟨j, fs, zs, k1, k2, k3⟩ := (hm c).1 hc.1
      have := (k2.its c k3).nd
      have := (List.getElem?_eq_some_iff.1 k1).1
      omega
    · obtain ⟨zs, hz, hzall⟩ := hall j fs hfs
      unfold JOk
      rw [show (vwY a).1 = a.n from rfl, show (vwY a).2.1 = a.p from rfl, hya.i3, i4_len hya]
      rcases hz.has a.n a.p with ⟨hno, hno2⟩ | ⟨c, hc, hh, c1, c2⟩
      · rw [hno]
        refine ⟨List.eq_nil_iff_forall_not_mem.2 fun d hd => ?_, fun hc => ?_⟩
        · unfold fromD at hd
          obtain ⟨hd1, hd2⟩ := List.mem_filter.1 hd
          obtain ⟨k, hk⟩ := List.getElem?_of_mem hd1
          obtain ⟨c, hc, hdc, _⟩ := hM.sent a hself k d hk
          simp at hd2
          have hcz := hnd c hc.1 j fs zs hfs hz (by omega)
          exact hno2 c hcz ⟨hc.2.1, hc.2.2⟩
        · obtain ⟨c, hcM, hcn, _⟩ := hM.safe a hself j hc.2 hc.1
          have hcz := hnd c hcM.1 j fs zs hfs hz hcn
          exact hno2 c hcz ⟨hcM.2.1, hcM.2.2⟩
      · rw [hh]
        have hyc := hz.its c hc
        have hcM : c ∈ all ∧ sameId c a := ⟨hzall c hc, c1, c2⟩
        dsimp only
        rw [← c1, ← c2, hyc.i3, hyc.i2, c1, c2, hs.next ha, ← c1, ← c2, hz.next hc]
        refine ⟨?_, hM.pre a c hself hcM, prefix_of_at fun t d ht => ?_, fun hx => ?_, fun hx => ?_⟩
        · have := hM.set c a hcM hself
          simp [vwY, c1, c2, this]
        · obtain ⟨k, hk, hcnt, hdj⟩ := at_cnt a.got j ht
          obtain ⟨e, he, hde, hv⟩ := hM.sent a hself k d hk
          have hez := hnd e he.1 j fs zs hfs hz (by omega)
          have : e = c := hz.uniq hez hc ⟨by have := he.2.1; omega, by have := he.2.2; omega⟩
          subst this
          rw [hdj, hcnt] at hv
          rw [List.getElem?_map, hv]
          simp only [Option.map_some, ← hdj]
        · obtain ⟨e, he, hen, hle⟩ := hM.safe a hself j hx.2 (by omega)
          have hez := hnd e he.1 j fs zs hfs hz hen
          have : e = c := hz.uniq hez hc ⟨by have := he.2.1; omega, by have := he.2.2; omega⟩
          subst this
          omega
        · obtain ⟨x1, x2, x3⟩ := hx
          simp only [Prod.mk.injEq] at x2
          exact x3 (hM.tog a c hself hcM x1 x2.1 x2.2)
    · rw [show (vwY a).1 = a.n from rfl, show (vwY a).2.1 = a.p from rfl, i4_len hya]
      intro hc
      obtain ⟨e, he, hen, _⟩ := hM.safe a hself j hc.2 hc.1
      obtain ⟨j', fs, zs, k1, k2, k3⟩ := (hm e).1 he.1
      have := (k2.its e k3).nd
      have := (List.getElem?_eq_some_iff.1 k1).1
      omega
/-- What Views answers is what the document says. -/
theorem viewsR_doc {ess : List (List Ev)} {b : Bool} (h : ViewsR ess b) (hn : ∀ i es ys, ess[i]? = some es → staysD i es = some ys → ∀ y ∈ ys, y.node < 16) : b = true ↔ DocViews ess := by
  rcases h with ⟨rfl, i, es, hi, hno⟩ | ⟨all, srt, hall, hp, hs, hb⟩
  · constructor
    · intro h; cases h
    · intro h
      have := (alone_iff i es).1 (h.1 i es hi)
      rw [hno] at this; cases this
  · have hA : ∀ i es, ess[i]? = some es → (staysD i es).isSome = true := fun i es hi => by
      obtain ⟨yss, hl, _, hy⟩ := hall
      have := (List.getElem?_eq_some_iff.1 hi).1
      rw [hy i _ es (List.getElem?_eq_getElem (by omega)) hi]; rfl
    obtain ⟨hm, _, hd⟩ := allD_mem hall hA
    have hn' : ∀ y ∈ srt, y.node < 16 := fun y hy => by
      obtain ⟨yss, hl, he, hy'⟩ := hall
      have := hp.mem_iff.1 hy
      rw [he] at this
      obtain ⟨ys, hys, hyy⟩ := List.mem_flatten.1 this
      obtain ⟨i, hi⟩ := List.getElem?_of_mem hys
      have hil := (List.getElem?_eq_some_iff.1 hi).1
      exact hn i _ ys (List.getElem?_eq_getElem (by omega)) (hy' i ys _ hi (List.getElem?_eq_getElem (by omega))) y hyy
    have hd' : srt.Pairwise (fun a b => sameId a b → a.node ≠ b.node) := (hp.pairwise_iff (fun {a b} hab hs => fun e => hab ⟨hs.1.symm, hs.2.symm⟩ e.symm)).2 hd
    rw [hb, grps_iff hs hd' hn']
    unfold DocViews
    rw [doc_iff hall hA]
    constructor
    · intro h
      refine ⟨fun i es hi => (alone_iff i es).2 (hA i es hi), fun y0 hy0 => ?_⟩
      have := h y0 (hp.mem_iff.2 hy0)
      have e : (fun y => y ∈ srt ∧ sameId y y0) = (fun y => y ∈ all ∧ sameId y y0) := funext fun y => by rw [hp.mem_iff]
      rw [e] at this; exact this
    · rintro ⟨_, h⟩ y0 hy0
      have := h y0 (hp.mem_iff.1 hy0)
      have e : (fun y => y ∈ srt ∧ sameId y y0) = (fun y => y ∈ all ∧ sameId y y0) := funext fun y => by rw [hp.mem_iff]
      rw [e]; exact this
end Go.Proofs.Ythnbijnpbjfoaaa
