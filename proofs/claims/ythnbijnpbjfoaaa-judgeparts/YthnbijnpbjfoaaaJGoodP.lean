/-
  Traces of a group that is as it should be are those that the document asks for: in plain data.
-/
import Derived.Test.YthnbijnpbjfoaaaJTrP
namespace Go.Proofs.Ythnbijnpbjfoaaa
open Go.RowKit Go.Sort
set_option linter.unusedVariables false

/-- What a node has in the times of a group. -/
structure Gd where
  set : Nat → Nat
  on : Nat → Nat → Bool
  own : Nat → Nat → List Ev
  rcv : Nat → Nat → List Ev
  saf : Nat → Nat → List Ev
def Gd.vw (G : Gd) (r : Nat) : Vw := (r + 1, 0, G.set r)
def Gd.seg (G : Gd) (r i : Nat) : List Ev := if G.on r i = true then evV (G.vw r) :: (G.own r i ++ (G.rcv r i ++ G.saf r i)) else []
def Gd.L (G : Gd) : Nat → Nat → List Ev
  | 0, _ => []
  | r + 1, i => G.L r i ++ G.seg r i
def itmE (e : Ev) : Di := (e.f, e.m)
def ofV (k : Nat) (v : Vw) (e : Ev) : Prop := e.k = k ∧ e.n = v.1 ∧ e.p = v.2.1 ∧ e.s = v.2.2
/-- What is right of them. -/
structure GdOk (G : Gd) (n R : Nat) : Prop where
  own : ∀ r i, ∀ e ∈ G.own r i, ofV 2 (G.vw r) e
  rcv : ∀ r i, ∀ e ∈ G.rcv r i, ofV 3 (G.vw r) e
  saf : ∀ r i, ∀ e ∈ G.saf r i, ofV 4 (G.vw r) e
  has : ∀ r i, r < R → i < n → G.on r i = true → hasN (G.set r) i = true
  pre : ∀ r i, r < R → i < n → G.on r i = true → (G.saf r i).map itmE <+: (G.rcv r i).map itmE
  frm : ∀ r i, r < R → i < n → G.on r i = true → ∀ e ∈ G.rcv r i, 0 ≤ e.f ∧ e.f < (n : Int)
  two : ∀ r i j, r < R → i < n → j < n → G.on r i = true → G.on r j = true → (G.rcv r i).map itmE <+: (G.rcv r j).map itmE ∨ (G.rcv r j).map itmE <+: (G.rcv r i).map itmE
  snt : ∀ r i j, r < R → i < n → j < n → G.on r i = true → G.on r j = true → fromD ((G.rcv r i).map itmE) j <+: (G.own r j).map (fun e => (((j : Nat) : Int), e.m))
  off : ∀ r i j, r < R → i < n → j < n → G.on r i = true → G.on r j = false → fromD ((G.rcv r i).map itmE) j = [] ∧ ¬ (0 < (G.saf r i).length ∧ hasN (G.set r) j = true)
  sfe : ∀ r i j, r < R → i < n → j < n → G.on r i = true → G.on r j = true → (G.saf r i).length ≤ (G.rcv r j).length
  out : ∀ r i, ∀ j : Nat, r < R → i < n → G.on r i = true → n ≤ j → j < 16 → ¬ (0 < (G.saf r i).length ∧ hasN (G.set r) j = true)
  tog : ∀ r i j t, r < R → i < n → j < n → G.on r i = true → G.on r j = true → r < t → t < R → G.on t i = true → G.on t j = true → (G.rcv r i).length = (G.rcv r j).length

theorem itemsX_app (node k n : Nat) (p : Int) (a b : List Ev) : itemsE node k n p (a ++ b) = itemsE node k n p a ++ itemsE node k n p b := by
  unfold itemsE
  rw [List.filter_append, List.map_append]
theorem viewsX_app (a b : List Ev) : viewsE (a ++ b) = viewsE a ++ viewsE b := by
  unfold viewsE
  rw [List.filter_append, List.map_append]
theorem itemsX_none {node k n : Nat} {p : Int} {l : List Ev} (h : ∀ e ∈ l, ¬ (e.k = k ∧ e.n = n ∧ e.p = p)) : itemsE node k n p l = [] := by
  unfold itemsE
  rw [List.filter_eq_nil_iff.2 (fun e he => by simpa using h e he)]
  rfl
theorem itemsX_all {node k n : Nat} {p : Int} {l : List Ev} (h : ∀ e ∈ l, e.k = k ∧ e.n = n ∧ e.p = p) : itemsE node k n p l = l.map (fun e => (if k = 2 then ((node : Nat) : Int) else e.f, e.m)) := by
  unfold itemsE
  rw [List.filter_eq_self.2 (fun e he => by simpa using h e he)]
theorem viewsX_none {l : List Ev} (h : ∀ e ∈ l, e.k ≠ 1) : viewsE l = [] := by
  unfold viewsE
  rw [List.filter_eq_nil_iff.2 (fun e he => by simpa using h e he)]
  rfl
theorem GdOk.inv {G : Gd} {n R : Nat} (h : GdOk G n R) {r i : Nat} : ∀ e ∈ G.seg r i, e.n = r + 1 ∧ e.p = 0 ∧ e.s = G.set r := fun e he => by
  unfold Gd.seg at he
  split at he
  · rw [List.mem_cons, List.mem_append, List.mem_append] at he
    rcases he with rfl | he | he | he
    · exact ⟨rfl, rfl, rfl⟩
    · exact (h.own r i e he).2
    · exact (h.rcv r i e he).2
    · exact (h.saf r i e he).2
  · cases he
theorem GdOk.items_other {G : Gd} {n R : Nat} (h : GdOk G n R) (node k i r : Nat) : ∀ q, q ≤ r → itemsE node k (r + 1) 0 (G.L q i) = []
  | 0, _ => rfl
  | q + 1, hq => by
    show itemsE node k (r + 1) 0 (G.L q i ++ G.seg q i) = []
    rw [itemsX_app, h.items_other node k i r q (by omega), itemsX_none (fun e he hc => by
      have := (h.inv e he).1
      omega)]
    rfl
theorem GdOk.items {G : Gd} {n R : Nat} (h : GdOk G n R) (node k i r : Nat) : ∀ q, r < q → itemsE node k (r + 1) 0 (G.L q i) = itemsE node k (r + 1) 0 (G.seg r i)
  | 0, hq => by omega
  | q + 1, hq => by
    show itemsE node k (r + 1) 0 (G.L q i ++ G.seg q i) = _
    rw [itemsX_app]
    by_cases e : q = r
    · subst e
      rw [h.items_other node k i q q (Nat.le_refl _), List.nil_append]
    · rw [h.items node k i r q (by omega), itemsX_none (l := G.seg q i) (fun e' he hc => by
        have := (h.inv e' he).1
        omega), List.append_nil]
theorem GdOk.seg2 {G : Gd} {n R : Nat} (h : GdOk G n R) (node : Nat) {r i : Nat} (ho : G.on r i = true) : itemsE node 2 (r + 1) 0 (G.seg r i) = (G.own r i).map (fun e => (((node : Nat) : Int), e.m)) := by
  unfold Gd.seg
  rw [if_pos ho, ← List.singleton_append, itemsX_app, itemsX_app, itemsX_app, itemsX_none (l := [evV (G.vw r)]) (fun e he hc => by simp at he; subst he; simp [evV] at hc), itemsX_none (l := G.rcv r i) (fun e he hc => by have := (h.rcv r i e he).1; omega), itemsX_none (l := G.saf r i) (fun e he hc => by have := (h.saf r i e he).1; omega), itemsX_all (n := r + 1) (p := 0) (l := G.own r i) (fun e he => ⟨(h.own r i e he).1, (h.own r i e he).2.1, (h.own r i e he).2.2.1⟩)]
  simp
theorem GdOk.seg3 {G : Gd} {n R : Nat} (h : GdOk G n R) (node : Nat) {r i : Nat} (ho : G.on r i = true) : itemsE node 3 (r + 1) 0 (G.seg r i) = (G.rcv r i).map itmE := by
  unfold Gd.seg
  rw [if_pos ho, ← List.singleton_append, itemsX_app, itemsX_app, itemsX_app, itemsX_none (l := [evV (G.vw r)]) (fun e he hc => by simp at he; subst he; simp [evV] at hc), itemsX_none (l := G.own r i) (fun e he hc => by have := (h.own r i e he).1; omega), itemsX_none (l := G.saf r i) (fun e he hc => by have := (h.saf r i e he).1; omega), itemsX_all (n := r + 1) (p := 0) (l := G.rcv r i) (fun e he => ⟨(h.rcv r i e he).1, (h.rcv r i e he).2.1, (h.rcv r i e he).2.2.1⟩)]
  simp [itmE]
theorem GdOk.seg4 {G : Gd} {n R : Nat} (h : GdOk G n R) (node : Nat) {r i : Nat} (ho : G.on r i = true) : itemsE node 4 (r + 1) 0 (G.seg r i) = (G.saf r i).map itmE := by
  unfold Gd.seg
  rw [if_pos ho, ← List.singleton_append, itemsX_app, itemsX_app, itemsX_app, itemsX_none (l := [evV (G.vw r)]) (fun e he hc => by simp at he; subst he; simp [evV] at hc), itemsX_none (l := G.own r i) (fun e he hc => by have := (h.own r i e he).1; omega), itemsX_none (l := G.rcv r i) (fun e he hc => by have := (h.rcv r i e he).1; omega), itemsX_all (n := r + 1) (p := 0) (l := G.saf r i) (fun e he => ⟨(h.saf r i e he).1, (h.saf r i e he).2.1, (h.saf r i e he).2.2.1⟩)]
  simp [itmE]
/-- Its views. -/
def Gd.vs (G : Gd) : Nat → Nat → List Vw
  | 0, _ => []
  | r + 1, i => G.vs r i ++ (if G.on r i = true then [G.vw r] else [])
theorem GdOk.views {G : Gd} {n R : Nat} (h : GdOk G n R) (i : Nat) : ∀ q, viewsE (G.L q i) = G.vs q i
  | 0 => rfl
  | q + 1 => by
    show viewsE (G.L q i ++ G.seg q i) = G.vs q i ++ _
    rw [viewsX_app, h.views i q]
    congr 1
    unfold Gd.seg
    split
    · rw [← List.singleton_append, viewsX_app, viewsX_none (l := G.own q i ++ (G.rcv q i ++ G.saf q i)) (fun e he => by
        rw [List.mem_append, List.mem_append] at he
        rcases he with he | he | he
        · have := (h.own q i e he).1; omega
        · have := (h.rcv q i e he).1; omega
        · have := (h.saf q i e he).1; omega)]
      rfl
    · rfl
theorem Gd.vs_mem (G : Gd) (i : Nat) : ∀ q v, v ∈ G.vs q i → ∃ r, r < q ∧ G.on r i = true ∧ v = G.vw r
  | 0, v, h => by cases h
  | q + 1, v, h => by
    unfold Gd.vs at h
    rw [List.mem_append] at h
    rcases h with h | h
    · obtain ⟨r, h1, h2⟩ := G.vs_mem i q v h
      exact ⟨r, by omega, h2⟩
    · split at h
      · rename_i ho
        rw [List.mem_singleton] at h
        exact ⟨q, by omega, ho, h⟩
      · cases h
theorem Gd.vs_asc (G : Gd) (i : Nat) : ∀ q, (G.vs q i).Pairwise (fun a b => a.1 < b.1)
  | 0 => List.Pairwise.nil
  | q + 1 => by
    unfold Gd.vs
    rw [List.pairwise_append]
    refine ⟨G.vs_asc i q, ?_, fun a ha b hb => ?_⟩
    · split <;> simp
    · obtain ⟨r, h1, _, rfl⟩ := G.vs_mem i q a ha
      split at hb
      · rw [List.mem_singleton] at hb
        subst hb
        show r + 1 < q + 1
        omega
      · cases hb
theorem Gd.vs_in (G : Gd) (i : Nat) : ∀ q r, r < q → G.on r i = true → G.vw r ∈ G.vs q i
  | 0, r, h, _ => by omega
  | q + 1, r, h, ho => by
    unfold Gd.vs
    rw [List.mem_append]
    by_cases e : r = q
    · subst e; rw [if_pos ho]; exact .inr (List.mem_singleton.2 rfl)
    · exact .inl (G.vs_in i q r (by omega) ho)
theorem find_memX {α : Type} {p : α → Bool} {l : List α} {x : α} (hx : x ∈ l) (hp : p x = true) (hu : ∀ y ∈ l, p y = true → y = x) : l.find? p = some x := by
  cases h : l.find? p with
  | none => have := List.find?_eq_none.1 h x hx; exact absurd hp this
  | some y =>
    have h1 := List.find?_some h
    have h2 := List.mem_of_find?_eq_some h
    rw [hu y h2 h1]
theorem GdOk.hasOn {G : Gd} {n R : Nat} (h : GdOk G n R) {i r q : Nat} (hr : r < q) : hasE (G.L q i) (r + 1) 0 = if G.on r i = true then some (G.vw r) else none := by
  unfold hasE
  rw [h.views i q]
  split
  · rename_i ho
    refine find_memX (G.vs_in i q r hr ho) (by simp [Gd.vw]) (fun y hy hp => ?_)
    obtain ⟨t, _, _, rfl⟩ := G.vs_mem i q y hy
    simp [Gd.vw] at hp
    rw [hp]
  · rename_i ho
    refine List.find?_eq_none.2 (fun y hy hp => ?_)
    obtain ⟨t, _, ht, rfl⟩ := G.vs_mem i q y hy
    simp [Gd.vw] at hp
    rw [hp] at ht
    exact ho ht
theorem next_specX : ∀ {l : List Vw} {n : Nat} {p : Int}, l.Pairwise (fun a b => a.1 < b.1) → 0 < (nextV l n p).1 → ∃ v ∈ l, nextV l n p = (v.1, v.2.1) ∧ n < v.1
  | [], n, p, _, h => by simp [nextV] at h
  | [a], n, p, _, h => by simp [nextV] at h
  | a :: b :: r, n, p, hp, h => by
    unfold nextV at h ⊢
    by_cases e : a.1 = n ∧ a.2.1 = p
    · rw [if_pos e] at h ⊢
      have := (List.pairwise_cons.1 hp).1 b (List.mem_cons_self ..)
      exact ⟨b, by simp, rfl, by omega⟩
    · rw [if_neg e] at h ⊢
      obtain ⟨v, h1, h2, h3⟩ := next_specX (List.pairwise_cons.1 hp).2 h
      exact ⟨v, List.mem_cons_of_mem _ h1, h2, h3⟩
/-- Runs of the document's alone. -/
theorem runX_app (node : Nat) : ∀ (l r : List Ev) (a : As), runA node (l ++ r) a = (runA node l a).bind (runA node r)
  | [], r, a => rfl
  | e :: l, r, a => by
    show (stepA node a e).bind (runA node (l ++ r)) = ((stepA node a e).bind (runA node l)).bind (runA node r)
    cases stepA node a e with
    | none => rfl
    | some b => exact runX_app node l r b
theorem step_in {node : Nat} {a : As} {e : Ev} {v : Vw} {k : Nat} (h : ofV k v e) (hk : k = 2 ∨ k = 3 ∨ k = 4) (hon : a.on = true) (hv : a.n = v.1 ∧ a.p = v.2.1 ∧ a.s = v.2.2) (hs : a.safe + (if k = 4 then 1 else 0) ≤ a.recv + (if k = 3 then 1 else 0)) :
    stepA node a e = some { a with recv := a.recv + (if k = 3 then 1 else 0), safe := a.safe + (if k = 4 then 1 else 0) } := by
  obtain ⟨h1, h2, h3, h4⟩ := h
  subst h1
  unfold stepA
  rw [if_neg (by omega), if_pos hk, if_neg]
  rintro (h | h | h)
  · rw [hon] at h; cases h
  · exact h ⟨by omega, by omega, by omega⟩
  · omega
theorem run_own {node : Nat} {v : Vw} : ∀ (l : List Ev) (a : As), (∀ e ∈ l, ofV 2 v e) → a.on = true → (a.n = v.1 ∧ a.p = v.2.1 ∧ a.s = v.2.2) → a.safe ≤ a.recv → runA node l a = some a
  | [], a, _, _, _, _ => rfl
  | e :: l, a, h, h1, h2, h3 => by
    show (stepA node a e).bind _ = _
    rw [step_in (h e (List.mem_cons_self ..)) (.inl rfl) h1 h2 (by simpa using h3)]
    exact run_own l a (fun e' he' => h e' (List.mem_cons_of_mem _ he')) h1 h2 h3
theorem run_rec {node : Nat} {v : Vw} : ∀ (l : List Ev) (a : As), (∀ e ∈ l, ofV 3 v e) → a.on = true → (a.n = v.1 ∧ a.p = v.2.1 ∧ a.s = v.2.2) → a.safe ≤ a.recv → runA node l a = some { a with recv := a.recv + l.length }
  | [], a, _, _, _, _ => rfl
  | e :: l, a, h, h1, h2, h3 => by
    show (stepA node a e).bind _ = _
    have hs : stepA node a e = some { a with recv := a.recv + 1 } := by
      rw [step_in (h e (List.mem_cons_self ..)) (.inr (.inl rfl)) h1 h2 (by simp; omega)]; rfl
    rw [hs]
    refine (run_rec l { a with recv := a.recv + 1 } (fun e' he' => h e' (List.mem_cons_of_mem _ he')) h1 h2 (Nat.le_succ_of_le h3)).trans ?_
    simp only [List.length_cons, Option.some.injEq, As.mk.injEq, true_and, and_true]
    omega
theorem run_saf {node : Nat} {v : Vw} : ∀ (l : List Ev) (a : As), (∀ e ∈ l, ofV 4 v e) → a.on = true → (a.n = v.1 ∧ a.p = v.2.1 ∧ a.s = v.2.2) → a.safe + l.length ≤ a.recv → runA node l a = some { a with safe := a.safe + l.length }
  | [], a, _, _, _, _ => rfl
  | e :: l, a, h, h1, h2, h3 => by
    show (stepA node a e).bind _ = _
    rw [List.length_cons] at h3
    have hs : stepA node a e = some { a with safe := a.safe + 1 } := by
      rw [step_in (h e (List.mem_cons_self ..)) (.inr (.inr rfl)) h1 h2 (by simp; omega)]; rfl
    rw [hs]
    refine (run_saf l { a with safe := a.safe + 1 } (fun e' he' => h e' (List.mem_cons_of_mem _ he')) h1 h2 (by show a.safe + 1 + l.length ≤ a.recv; omega)).trans ?_
    simp only [List.length_cons, Option.some.injEq, As.mk.injEq, true_and]
    omega
theorem cmp_up {n1 n2 : Nat} {p : Int} (h : n2 < n1) (hp : p = 0) : 0 < cmpV n1 0 n2 p := by
  unfold cmpV
  rw [if_neg (by omega), if_pos h]
  decide
theorem GdOk.run {G : Gd} {n R : Nat} (h : GdOk G n R) {i : Nat} (hi : i < n) : ∀ q, q ≤ R → ∃ a, runA i (G.L q i) zeroA = some a ∧ (a.on = false ∨ (a.n < q + 1 ∧ a.p = 0))
  | 0, _ => ⟨zeroA, rfl, .inl rfl⟩
  | q + 1, hq => by
    obtain ⟨a, h1, h2⟩ := h.run hi q (by omega)
    show ∃ b, runA i (G.L q i ++ G.seg q i) zeroA = some b ∧ _
    rw [runX_app, h1]
    show ∃ b, runA i (G.seg q i) a = some b ∧ _
    unfold Gd.seg
    split
    · rename_i ho
      have hs : stepA i a (evV (G.vw q)) = some ⟨true, q + 1, 0, G.set q, 0, 0⟩ := by
        unfold stepA
        rw [if_pos (show (evV (G.vw q)).k = 1 from rfl), if_neg]
        · rfl
        · rintro (c | c | ⟨c, d⟩)
          · simp [evV, Gd.vw] at c
          · have := h.has q i (by omega) hi ho
            rw [show (evV (G.vw q)).s = G.set q from rfl, this] at c
            cases c
          · refine d ?_
            rcases h2 with h2 | h2
            · rw [h2] at c; cases c
            · rw [show (evV (G.vw q)).n = q + 1 from rfl, show (evV (G.vw q)).p = 0 from rfl]
              exact cmp_up h2.1 h2.2
      have hl : (G.saf q i).length ≤ (G.rcv q i).length := by
        have := (h.pre q i (by omega) hi ho).length_le
        simpa using this
      refine ⟨⟨true, q + 1, 0, G.set q, (G.rcv q i).length, (G.saf q i).length⟩, ?_, .inr ⟨by show q + 1 < q + 1 + 1; omega, rfl⟩⟩
      show (stepA i a (evV (G.vw q))).bind _ = _
      rw [hs]
      show runA i (G.own q i ++ (G.rcv q i ++ G.saf q i)) _ = _
      rw [runX_app, run_own _ _ (h.own q i) rfl ⟨rfl, rfl, rfl⟩ (Nat.le_refl _)]
      show runA i (G.rcv q i ++ G.saf q i) _ = _
      rw [runX_app, run_rec _ _ (h.rcv q i) rfl ⟨rfl, rfl, rfl⟩ (Nat.le_refl _)]
      show runA i (G.saf q i) _ = _
      rw [run_saf _ _ (h.saf q i) rfl ⟨rfl, rfl, rfl⟩ (by simp; omega)]
      simp
    · refine ⟨a, rfl, ?_⟩
      rcases h2 with h2 | h2
      · exact .inl h2
      · exact .inr ⟨by omega, h2.2⟩
theorem GdOk.alone {G : Gd} {n R : Nat} (h : GdOk G n R) {i : Nat} (hi : i < n) : AloneOk i (G.L R i) := by
  refine ⟨?_, fun v hv => ?_⟩
  · obtain ⟨a, h1, _⟩ := h.run hi R (Nat.le_refl _)
    exact ⟨a, h1⟩
  · rw [h.views i R] at hv
    obtain ⟨r, hr, ho, rfl⟩ := G.vs_mem i R v hv
    show itemsE i 4 (r + 1) 0 _ <+: itemsE i 3 (r + 1) 0 _
    rw [h.items i 4 i r R hr, h.items i 3 i r R hr, h.seg4 i ho, h.seg3 i ho]
    exact h.pre r i hr hi ho
/-- They are those of one group. -/
theorem GdOk.doc {G : Gd} {n R : Nat} (h : GdOk G n R) : DocViews ((List.range n).map (G.L R)) := by
  have hget : ∀ {j : Nat} {y : List Ev}, ((List.range n).map (G.L R))[j]? = some y → j < n ∧ y = G.L R j := fun {j y} hj => by
    obtain ⟨h1, h2⟩ := List.getElem?_eq_some_iff.1 hj
    simp at h1 h2
    exact ⟨h1, h2.symm⟩
  refine ⟨fun i es hi => ?_, fun i es hi v hv => ?_⟩
  · obtain ⟨a, rfl⟩ := hget hi
    exact h.alone a
  · obtain ⟨hin, rfl⟩ := hget hi
    rw [h.views i R] at hv
    obtain ⟨r, hr, ho, rfl⟩ := G.vs_mem i R v hv
    have e3 : itemsE i 3 (G.vw r).1 (G.vw r).2.1 (G.L R i) = (G.rcv r i).map itmE := by
      show itemsE i 3 (r + 1) 0 _ = _
      rw [h.items i 3 i r R hr, h.seg3 i ho]
    have e4 : itemsE i 4 (G.vw r).1 (G.vw r).2.1 (G.L R i) = (G.saf r i).map itmE := by
      show itemsE i 4 (r + 1) 0 _ = _
      rw [h.items i 4 i r R hr, h.seg4 i ho]
    unfold InV
    rw [e3, e4, show ((G.saf r i).map itmE).length = (G.saf r i).length from List.length_map ..]
    refine ⟨fun d hd => ?_, fun j fs hj => ?_, fun j h1 h2 => ?_⟩
    · obtain ⟨e, he, rfl⟩ := List.mem_map.1 hd
      rw [List.length_map, List.length_range]
      exact h.frm r i hr hin ho e he
    · obtain ⟨hjn, rfl⟩ := hget hj
      have hh := h.hasOn (i := j) hr
      unfold JOk
      rw [show (G.vw r).1 = r + 1 from rfl, show (G.vw r).2.1 = 0 from rfl, hh]
      by_cases hoj : G.on r j = true
      · rw [if_pos hoj]
        dsimp only
        have f3 : itemsE j 3 (r + 1) 0 (G.L R j) = (G.rcv r j).map itmE := by rw [h.items j 3 j r R hr, h.seg3 j hoj]
        have f2 : itemsE j 2 (r + 1) 0 (G.L R j) = (G.own r j).map (fun e => (((j : Nat) : Int), e.m)) := by rw [h.items j 2 j r R hr, h.seg2 j hoj]
        rw [f3, f2]
        refine ⟨rfl, h.two r i j hr hin hjn ho hoj, h.snt r i j hr hin hjn ho hoj, ?_, ?_⟩
        · have := h.sfe r i j hr hin hjn ho hoj
          rw [List.length_map]; omega
        · rw [h.views i R, h.views j R]
          rintro ⟨c1, c2, c3⟩
          obtain ⟨v, hv1, hv2, hv3⟩ := next_specX (G.vs_asc i R) c1
          rw [c2] at c1
          obtain ⟨u, hu1, hu2, hu3⟩ := next_specX (G.vs_asc j R) c1
          obtain ⟨t, ht, hto, rfl⟩ := G.vs_mem i R v hv1
          obtain ⟨s, hs, hso, rfl⟩ := G.vs_mem j R u hu1
          rw [c2, hu2] at hv2
          simp [Gd.vw] at hv2
          subst hv2
          have ht2 : r + 1 < s + 1 := hv3
          have := h.tog r i j s hr hin hjn ho hoj (by omega) hs hto hso
          simp at c3
          exact c3 this
      · rw [if_neg hoj]
        dsimp only
        exact h.off r i j hr hin hjn ho (by simpa using hoj)
    · rw [List.length_map, List.length_range] at h1
      exact h.out r i j hr hin ho h1 h2
end Go.Proofs.Ythnbijnpbjfoaaa
