/-
  The statements' traces without what is known to be safe, one of them cut behind its first view: still those of one group. In plain data.
-/
import Derived.Test.YthnbijnpbjfoaaaJTrOk
namespace Go.Proofs.Ythnbijnpbjfoaaa
open Go.RowKit Go.Sort
set_option linter.unusedVariables false

def noSafe' (es : List Ev) : List Ev := es.filter (fun e => decide (e.k ≠ 4))
/-- Nothing is known to be safe. -/
def Gd.unsafe' (G : Gd) : Gd := { G with saf := fun _ _ => [] }
/-- Of node k the time f alone. -/
def Gd.only (G : Gd) (k f : Nat) : Gd := { G with on := fun r i => G.on r i && (decide (i ≠ k) || decide (r = f)), saf := fun _ _ => [] }
theorem noSafe'_app (a b : List Ev) : noSafe' (a ++ b) = noSafe' a ++ noSafe' b := List.filter_append ..
theorem noSafe'_all {l : List Ev} {k : Nat} {v : Vw} (h : ∀ e ∈ l, ofV k v e) (hk : k ≠ 4) : noSafe' l = l := List.filter_eq_self.2 (fun e he => by have := (h e he).1; simp; omega)
theorem noSafe'_none {l : List Ev} {v : Vw} (h : ∀ e ∈ l, ofV 4 v e) : noSafe' l = [] := List.filter_eq_nil_iff.2 (fun e he => by have := (h e he).1; simp; omega)
theorem GdOk.noSafe_seg {G : Gd} {n R : Nat} (h : GdOk G n R) (r i : Nat) : noSafe' (G.seg r i) = G.unsafe'.seg r i := by
  unfold Gd.seg
  show noSafe' (if G.on r i = true then _ else _) = if G.on r i = true then evV (G.vw r) :: (G.own r i ++ (G.rcv r i ++ [])) else []
  split
  · rw [← List.singleton_append, noSafe'_app, noSafe'_app, noSafe'_app, noSafe'_all (h.own r i) (by omega), noSafe'_all (h.rcv r i) (by omega), noSafe'_none (h.saf r i)]
    rfl
  · rfl
theorem GdOk.noSafe_L {G : Gd} {n R : Nat} (h : GdOk G n R) (i : Nat) : ∀ q, noSafe' (G.L q i) = G.unsafe'.L q i
  | 0 => rfl
  | q + 1 => by
    show noSafe' (G.L q i ++ G.seg q i) = G.unsafe'.L q i ++ G.unsafe'.seg q i
    rw [noSafe'_app, h.noSafe_L i q, h.noSafe_seg]
/-- The events ahead of a second view. -/
def headV : List Ev → List Ev
  | [] => []
  | e :: r => e :: r.takeWhile (fun e => decide (e.k ≠ 1))
theorem takeWhile_stop {p : Ev → Bool} {a b : List Ev} (ha : ∀ e ∈ a, p e = true) (hb : b = [] ∨ ∃ e r, b = e :: r ∧ p e = false) : (a ++ b).takeWhile p = a := by
  induction a with
  | nil =>
    rcases hb with rfl | ⟨e, r, rfl, he⟩
    · rfl
    · simp [he]
  | cons x a ih =>
    have hx := ha x (List.mem_cons_self ..)
    simp only [List.cons_append, List.takeWhile_cons, hx, if_true]
    rw [ih (fun e he => ha e (List.mem_cons_of_mem _ he))]
/-- Node k's events: none ahead of time f; then those of it; then perhaps another view. -/
theorem GdOk.cut {G : Gd} {n R : Nat} (h : GdOk G n R) {k f : Nat} (hf : ∀ r, r < f → G.on r k = false) : ∀ q,
    (q ≤ f → G.unsafe'.L q k = [] ∧ (G.only k f).L q k = []) ∧ (f < q → (G.only k f).L q k = G.unsafe'.seg f k ∧ ∃ rest, G.unsafe'.L q k = G.unsafe'.seg f k ++ rest ∧ (rest = [] ∨ ∃ e r, rest = e :: r ∧ e.k = 1))
  | 0 => ⟨fun _ => ⟨rfl, rfl⟩, fun h => by omega⟩
  | q + 1 => by
    obtain ⟨i1, i2⟩ := h.cut hf q
    have eU : G.unsafe'.L (q + 1) k = G.unsafe'.L q k ++ G.unsafe'.seg q k := rfl
    have eO : (G.only k f).L (q + 1) k = (G.only k f).L q k ++ (G.only k f).seg q k := rfl
    have so : (G.only k f).seg q k = if q = f then G.unsafe'.seg q k else [] := by
      show (if (G.on q k && (decide (k ≠ k) || decide (q = f))) = true then _ else _) = _
      by_cases e : q = f
      · rw [if_pos e, decide_eq_true e]
        simp only [Bool.or_true, Bool.and_true]
        rfl
      · rw [if_neg e, decide_eq_false e]
        simp
    constructor
    · intro hq
      obtain ⟨a, b⟩ := i1 (by omega)
      have hs : G.unsafe'.seg q k = [] := by
        show (if G.on q k = true then _ else _) = _
        rw [hf q (by omega)]
        rfl
      rw [eU, eO, a, b, so, if_neg (by omega), hs]
      exact ⟨rfl, rfl⟩
    · intro hq
      by_cases e : q = f
      · subst e
        obtain ⟨a, b⟩ := i1 (Nat.le_refl _)
        rw [eU, eO, a, b, so, if_pos rfl]
        exact ⟨rfl, [], by simp, .inl rfl⟩
      · obtain ⟨a, rest, b, c⟩ := i2 (by omega)
        rw [eU, eO, a, b, so, if_neg e]
        refine ⟨by simp, rest ++ G.unsafe'.seg q k, by simp, ?_⟩
        rcases c with rfl | ⟨e', r', rfl, hk⟩
        · have : G.unsafe'.seg q k = [] ∨ ∃ e r, G.unsafe'.seg q k = e :: r ∧ e.k = 1 := by
            show (if G.on q k = true then _ else _) = [] ∨ ∃ (e : Ev) (r : List Ev), (if G.on q k = true then _ else _) = e :: r ∧ e.k = 1
            split
            · exact .inr ⟨_, _, rfl, rfl⟩
            · exact .inl rfl
          simpa using this
        · exact .inr ⟨e', _, rfl, hk⟩
theorem GdOk.head {G : Gd} {n R : Nat} (h : GdOk G n R) {k f : Nat} (hf : ∀ r, r < f → G.on r k = false) (hR : f < R → G.on f k = true) : headV (G.unsafe'.L R k) = (G.only k f).L R k := by
  obtain ⟨i1, i2⟩ := h.cut hf R
  by_cases hq : R ≤ f
  · obtain ⟨a, b⟩ := i1 hq
    rw [a, b]; rfl
  · obtain ⟨a, rest, b, c⟩ := i2 (by omega)
    have ho := hR (by omega)
    rw [a, b]
    have hs : G.unsafe'.seg f k = evV (G.vw f) :: (G.own f k ++ G.rcv f k) := by
      show (if G.on f k = true then evV (G.vw f) :: (G.own f k ++ (G.rcv f k ++ [])) else _) = _
      rw [ho, List.append_nil]
      rfl
    rw [hs]
    show _ :: ((G.own f k ++ G.rcv f k) ++ rest).takeWhile _ = _
    rw [takeWhile_stop]
    · intro e he
      rw [List.mem_append] at he
      rcases he with he | he
      · have := (h.own f k e he).1; simp; omega
      · have := (h.rcv f k e he).1; simp; omega
    · rcases c with c | ⟨e, r, c, hk⟩
      · exact .inl c
      · exact .inr ⟨e, r, c, by simp [hk]⟩
theorem Gd.only_ne {G : Gd} {k f i : Nat} (hi : i ≠ k) : ∀ q, (G.only k f).L q i = G.unsafe'.L q i
  | 0 => rfl
  | q + 1 => by
    show (G.only k f).L q i ++ (G.only k f).seg q i = G.unsafe'.L q i ++ G.unsafe'.seg q i
    rw [Gd.only_ne hi q]
    congr 1
    show (if (G.on q i && (decide (i ≠ k) || decide (q = f))) = true then _ else _) = if G.on q i = true then _ else _
    rw [decide_eq_true hi]
    simp only [Bool.true_or, Bool.and_true]
    rfl
theorem GdOk.only {G : Gd} {n R : Nat} (h : GdOk G n R) {k f : Nat} (hf : ∀ r, r < f → G.on r k = false) (hl : ∀ r i, r < R → i < n → i ≠ k → G.on r i = true → (∃ e ∈ G.rcv r i, e.f = (k : Int)) → r ≤ f) : GdOk (G.only k f) n R := by
  have hon : ∀ {r i}, (G.only k f).on r i = true → G.on r i = true ∧ (i ≠ k ∨ r = f) := fun {r i} ho => by
    have h' : (G.on r i && (decide (i ≠ k) || decide (r = f))) = true := ho
    simp only [Bool.and_eq_true, Bool.or_eq_true, decide_eq_true_eq] at h'
    exact h'
  refine ⟨h.own, h.rcv, fun r i e he => (by cases he), fun r i hr hi ho => h.has r i hr hi (hon ho).1, fun r i hr hi ho => List.nil_prefix, fun r i hr hi ho => h.frm r i hr hi (hon ho).1, fun r i j hr hi hj ho hp => h.two r i j hr hi hj (hon ho).1 (hon hp).1, fun r i j hr hi hj ho hp => h.snt r i j hr hi hj (hon ho).1 (hon hp).1, fun r i j hr hi hj ho hp => ?_, fun r i j hr hi hj ho hp => Nat.zero_le _, fun r i j hr hi ho h2 h3 hc => ?_, fun r i j t hr hi hj ho hp hrt ht hto htp => ?_⟩
  · refine ⟨?_, fun hc => absurd hc.1 (Nat.lt_irrefl 0)⟩
    cases hb : G.on r j with
    | false => exact (h.off r i j hr hi hj (hon ho).1 hb).1
    | true =>
      have h' : (G.on r j && (decide (j ≠ k) || decide (r = f))) = false := hp
      rw [hb, Bool.true_and] at h'
      simp only [Bool.or_eq_false_iff, decide_eq_false_iff_not, ne_eq, Decidable.not_not] at h'
      obtain ⟨rfl, hrf⟩ := h'
      have hij : i ≠ j := by
        rcases (hon ho).2 with c | c
        · exact c
        · exact absurd c hrf
      refine List.eq_nil_iff_forall_not_mem.2 (fun d hd => ?_)
      unfold fromD at hd
      obtain ⟨hd1, hd2⟩ := List.mem_filter.1 hd
      obtain ⟨e, he, rfl⟩ := List.mem_map.1 hd1
      have hd3 : e.f = (j : Int) := of_decide_eq_true hd2
      have := hl r i hr hi hij (hon ho).1 ⟨e, he, hd3⟩
      have h4 := hf r (by omega)
      rw [h4] at hb
      cases hb
  · exact absurd hc.1 (Nat.lt_irrefl 0)
  · have hi' := (hon ho).2
    have hj' := (hon hp).2
    have hti := (hon hto).2
    have htj := (hon htp).2
    exact h.tog r i j t hr hi hj (hon ho).1 (hon hp).1 hrt ht (hon hto).1 (hon htp).1
/-- The first time of which a node is. -/
theorem first_on (p : Nat → Bool) : ∀ R, ∃ f, (∀ r, r < f → p r = false) ∧ (f < R → p f = true) ∧ f ≤ R
  | 0 => ⟨0, fun r h => by omega, fun h => by omega, Nat.le_refl _⟩
  | R + 1 => by
    obtain ⟨f, h1, h2, h3⟩ := first_on p R
    by_cases e : f < R
    · exact ⟨f, h1, fun _ => h2 e, by omega⟩
    · obtain rfl : f = R := by omega
      by_cases hp : p f = true
      · exact ⟨f, h1, fun _ => hp, by omega⟩
      · refine ⟨f + 1, fun r hr => ?_, fun h => by omega, Nat.le_refl _⟩
        by_cases e2 : r = f
        · subst e2; simpa using hp
        · exact h1 r (by omega)
/-- What is received from a node beside it, in which view. -/
theorem parts_doc {n k : Nat} {runs : List Rn} (h1 : 1 ≤ n) (h6 : n ≤ 6) (hk : k < n) {ess : List (List Ev)} {m : List Ev} (hess : ess = (tracesD n runs).map noSafe') (hm : m = headV (ess.getD k [])) (hl : ∀ i es, ess[i]? = some es → i ≠ k → ∀ e ∈ es, e.k = 3 → e.f = (k : Int) → (match m with
    | [] => False
    | v :: _ => e.n ≤ v.n)) : DocViews (ess.set k m) := by
  have hok := gdT_ok n runs h1 h6
  obtain ⟨f, f1, f2, f3⟩ := first_on (fun r => (gdT n runs).on r k) (min runs.length 6)
  have hL : ∀ i, i < n → ess[i]? = some ((gdT n runs).unsafe'.L (min runs.length 6) i) := fun i hi => by
    rw [hess, List.getElem?_map]
    unfold tracesD
    rw [List.getElem?_map, List.getElem?_range hi]
    simp only [Option.map_some]
    rw [traceX_gd, hok.noSafe_L]
  have hmk : m = ((gdT n runs).only k f).L (min runs.length 6) k := by
    rw [hm, List.getD_eq_getElem?_getD, hL k hk]
    exact hok.head f1 f2
  have hG := hok.only (k := k) f1 (fun r i hr hi hik ho ⟨e, he, hef⟩ => by
    have hmem : e ∈ (gdT n runs).unsafe'.L (min runs.length 6) i := by
      have hs : e ∈ (gdT n runs).unsafe'.seg r i := by
        show e ∈ (if (gdT n runs).on r i = true then _ else _)
        rw [ho]
        show e ∈ _ :: (_ ++ (_ ++ _))
        rw [List.mem_cons, List.mem_append, List.mem_append]
        exact .inr (.inr (.inl he))
      have : ∀ q, r < q → e ∈ (gdT n runs).unsafe'.L q i := fun q => by
        induction q with
        | zero => intro hq; omega
        | succ q ih =>
          intro hq
          show e ∈ (gdT n runs).unsafe'.L q i ++ (gdT n runs).unsafe'.seg q i
          rw [List.mem_append]
          by_cases e' : r = q
          · subst e'; exact .inr hs
          · exact .inl (ih (by omega))
      exact this _ hr
    have h3 := hok.rcv r i e he
    have := hl i _ (hL i hi) hik e hmem h3.1 hef
    by_cases hfR : f < min runs.length 6
    · obtain ⟨_, i2⟩ := hok.cut f1 (min runs.length 6)
      obtain ⟨a, _⟩ := i2 hfR
      have hs : (gdT n runs).unsafe'.seg f k = evV ((gdT n runs).vw f) :: ((gdT n runs).own f k ++ ((gdT n runs).rcv f k ++ [])) := by
        show (if (gdT n runs).on f k = true then _ else _) = _
        rw [if_pos (f2 hfR)]
        rfl
      rw [hmk, a, hs] at this
      have h4 : e.n ≤ f + 1 := this
      have h5 : e.n = r + 1 := h3.2.1
      omega
    · omega)
  have hd := hG.doc
  have e : (List.range n).map (((gdT n runs).only k f).L (min runs.length 6)) = ess.set k m := by
    have hel : ess.length = n := by rw [hess]; unfold tracesD; simp
    refine List.ext_getElem? (fun j => ?_)
    by_cases hj : j < n
    · rw [List.getElem?_map, List.getElem?_range hj]
      by_cases ejk : j = k
      · subst ejk
        rw [List.getElem?_set_self (by omega), hmk]
        rfl
      · rw [List.getElem?_set_ne (by omega), hL j hj]
        simp only [Option.map_some]
        rw [Gd.only_ne ejk]
    · rw [List.getElem?_eq_none (by simp; omega), List.getElem?_eq_none (by rw [List.length_set]; omega)]
  rw [e] at hd
  exact hd
end Go.Proofs.Ythnbijnpbjfoaaa
