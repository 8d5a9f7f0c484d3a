/-
  turn of a packet, and Turn of a net.
-/
import Derived.Test.YtagabmhgcmnldaaNTell
namespace Go.Proofs.Ytagabmhgcmnldaa
open Go.RowKit
set_option linter.unusedVariables false
set_option linter.unusedSimpArgs false

/-- One more bit of a packet is turned. -/
def Px.turn (x : Px) (b : Int) : Px := if x.k = 0 then { x with t0 := b, k := 1 } else { x with t1 := b, k := 2 }
def Pa.turn (a : Pa) (b : Nat) : Pa := { a with ts := a.ts ++ [b] }
/-- May it be? -/
def turnE (a : Pa) (b : Int) : Int := if b < 0 ∨ (a.xs.length : Int) ≤ b / 8 then 1 else if a.ts.length = 2 then 8 else 0
theorem turn_err (w : World) (g off : Nat) (x : Px) (a : Pa) (h : At w g off x) (hp : PIs w x a) (b : Int) (hR : b ≤ 9223372036854775807) (he : turnE a b ≠ 0) :
    Calls Try.prog 49 #[.pointer (some ⟨g, off, none⟩), .int .i64 b] w fun e w' => e = .returned (.int .i64 (turnE a b)) ∧ w = w' := by
  obtain ⟨c0, c1, c2, c3, c4, c5⟩ := h.cells
  rw [hp.n] at c2
  rw [hp.k] at c5
  have hsm := hp.small
  have hk2 := hp.k2
  unfold turnE at he ⊢
  clear h hp c0 c1 c3 c4
  generalize a.xs.length = n at *
  generalize a.ts.length = m at *
  by_cases h0 : b < 0
  · rw [if_pos (.inl h0)]
    clear he
    go_enter Try.func49, Try.ntmps49
    go_wp2
    go_ret
    exact ⟨rfl, rfl⟩
  · obtain ⟨k, rfl⟩ : ∃ k : Nat, b = k := ⟨b.toNat, by omega⟩
    obtain ⟨q, hq⟩ : ∃ q, q = k / 8 := ⟨_, rfl⟩
    have hqi : (k : Int) / 8 = (q : Int) := by omega
    have hqb : (q : Int) ≤ 1152921504606846975 := by omega
    by_cases h1 : n ≤ q
    · rw [if_pos (.inr (by omega))]
      clear he hq
      have h1I : (n : Int) ≤ (q : Int) := by omega
      go_enter Try.func49, Try.ntmps49
      go_wp2
      go_ret
      exact ⟨rfl, rfl⟩
    · rw [if_neg (by omega)] at he ⊢
      by_cases h2 : m = 2
      · subst h2
        rw [if_pos rfl]
        clear he hq
        go_enter Try.func49, Try.ntmps49
        go_wp2
        go_ret
        exact ⟨rfl, rfl⟩
      · rw [if_neg h2] at he
        exact absurd rfl he
theorem turn_ok (w : World) (g off : Nat) (x : Px) (a : Pa) (h : At w g off x) (hf : ∀ i, w.frozen? ⟨g, i, none⟩ = false) (hp : PIs w x a) (b : Nat) (he : turnE a b = 0) :
    Calls Try.prog 49 #[.pointer (some ⟨g, off, none⟩), .int .i64 (b : Nat)] w fun e w' => e = .returned (.int .i64 0) ∧ ∃ q, w' = (((w.setCell ⟨g, off + 3 + x.k, none⟩ (.int .i64 (b : Nat))).setCell ⟨g, off + 5, none⟩ (.int .i64 ((x.k + 1 : Nat) : Int))).drewN q) := by
  obtain ⟨c0, c1, c2, c3, c4, c5⟩ := h.cells
  rw [hp.n] at c2
  have hkk := hp.k
  have hsm := hp.small
  have hk2 := hp.k2
  unfold turnE at he
  clear h hp c0 c1
  generalize a.xs.length = n at *
  generalize a.ts.length = m at *
  obtain ⟨q, hq⟩ : ∃ q, q = b / 8 := ⟨_, rfl⟩
  have hqi : (b : Int) / 8 = (q : Int) := by omega
  have h1 : ¬ ((b : Int) < 0 ∨ (n : Int) ≤ (b : Int) / 8) := by
    intro h; rw [if_pos h] at he; omega
  rw [if_neg h1] at he
  have h2 : m ≠ 2 := by
    intro h; rw [if_pos h] at he; omega
  have h1I : (q : Int) < n := by omega
  clear hq he h1
  have hk : x.k = 0 ∨ x.k = 1 := by omega
  clear hkk h2 hk2
  rcases hk with hk | hk
  · rw [hk] at c5 ⊢
    clear hk
    go_enter Try.func49, Try.ntmps49
    go_wp2_with fail
    go_region
    go_wp2
    go_ret
    exact ⟨rfl, 1, rfl⟩
  · rw [hk] at c5 ⊢
    clear hk
    go_enter Try.func49, Try.ntmps49
    go_wp2_with fail
    go_region
    go_wp2
    go_ret
    exact ⟨rfl, 1, rfl⟩

section
variable {w : World} {p N : Nat} {H : Nat → Nat} {sv : Value} {lost : Nat} {L : List Px} {A : List Pa}
theorem bag_at {g c : Nat} (h : w.ownsRow 0 79 6 (.slice (some ⟨g, 0, none⟩) L.length c) L.length (flat L)) {j : Nat} {x : Px} (hj : L[j]? = some x) : At w g (j * 6) x := by
  intro i v hv
  have hi : i < 6 := by have := (List.getElem?_eq_some_iff.1 hv).1; simpa [cellsP] using this
  have hjl := (List.getElem?_eq_some_iff.1 hj).1
  rw [h.cellAt _ (by omega), show j * 6 + i = 6 * j + i by omega, flat_get L j x i hj hi]
  exact hv
theorem PIs.turned {w w' : World} {x : Px} {a : Pa} (h : PIs w x a) (e : w'.heap[x.g]? = w.heap[x.g]?) (b : Nat) (hb : turnE a b = 0) : PIs w' (x.turn b) (a.turn b) := by
  unfold turnE at hb
  have h1 : ¬ ((b : Int) < 0 ∨ (a.xs.length : Int) ≤ (b : Int) / 8) := by
    intro h; rw [if_pos h] at hb; omega
  rw [if_neg h1] at hb
  have h2 : a.ts.length ≠ 2 := by
    intro h; rw [if_pos h] at hb; omega
  have hk := h.k
  have hk2 := h.k2
  have hl : (a.turn b).ts = a.ts ++ [b] := rfl
  have hlt : ∀ c ∈ (a.turn b).ts, c / 8 < a.xs.length := fun c hc => by
    rw [hl, List.mem_append, List.mem_singleton] at hc
    rcases hc with hc | rfl
    · exact h.lt c hc
    · omega
  unfold Px.turn
  by_cases h0 : x.k = 0
  · rw [if_pos h0]
    have ht : a.ts = [] := List.length_eq_zero_iff.1 (by omega)
    exact { f := h.f, t := h.t, by' := h.by'.of e, n := h.n, k := by rw [hl, ht]; rfl, k2 := by rw [hl, ht]; simp, t0 := fun c hc => by rw [hl, ht] at hc; simp at hc; rw [hc], t1 := fun c hc => by rw [hl, ht] at hc; simp at hc, lt := hlt, small := h.small }
  · rw [if_neg h0]
    have ht : a.ts.length = 1 := by omega
    refine { f := h.f, t := h.t, by' := h.by'.of e, n := h.n, k := by rw [hl, List.length_append, ht]; rfl, k2 := by rw [hl, List.length_append, ht]; simp, t0 := fun c hc => ?_, t1 := fun c hc => ?_, lt := hlt, small := h.small }
    · rw [hl, List.getElem?_append_left (by omega)] at hc
      exact h.t0 c hc
    · rw [hl, List.getElem?_append_right (by omega), ht] at hc
      simp at hc
      rw [hc]
theorem turn_cells (x : Px) (b : Int) (hk : x.k ≤ 1) : ((cellsP x).set (3 + x.k) (.int .i64 b)).set 5 (.int .i64 ((x.k + 1 : Nat) : Int)) = cellsP (x.turn b) := by
  have : x.k = 0 ∨ x.k = 1 := by omega
  unfold Px.turn
  rcases this with e | e <;> simp [e, cellsP]

set_option maxRecDepth 10000 in
theorem turnNet_is (h : NetIs w p N H sv lost L A) (i : Nat) (a : Pa) (hi : A[i]? = some a) (b : Nat) (hb : turnE a b = 0) :
    Calls Try.prog 26 #[.pointer (some ⟨p, 0, none⟩), .int .i64 (i : Nat), .int .i64 (b : Nat)] w fun e w' => e = .returned (.int .i64 0) ∧ (∃ L', NetIs w' p N H sv lost L' (A.set i (a.turn b)) ∧ ∀ y, Ft p sv L' y → Ft p sv L y) ∧ Turned (Ft p sv L) w w' := by
  have hil := (List.getElem?_eq_some_iff.1 hi).1
  have hpl := place_is h (i : Int)
  rw [if_pos ⟨by omega, by omega⟩] at hpl
  have hlen := h.len
  obtain ⟨x, hx⟩ : ∃ x, L[i]? = some x := ⟨_, List.getElem?_eq_getElem (by omega)⟩
  obtain ⟨g, c, rfl, hc1, hc2, hc3⟩ := bag_some h.bag (List.mem_of_getElem? hx)
  have hat := bag_at h.bag hx
  have hfr : ∀ j, w.frozen? ⟨g, j, none⟩ = false := fun j => h.bag.frozenAt j
  have hpi := h.pk i x a hx hi
  have htu := turn_ok w g (i * 6) x a hat hfr hpi b hb
  have cB := h.cB
  have HE : Hid (∀ q, (∃ L', NetIs (((w.setCell ⟨g, i * 6 + 3 + x.k, none⟩ (.int .i64 (b : Nat))).setCell ⟨g, i * 6 + 5, none⟩ (.int .i64 ((x.k + 1 : Nat) : Int))).drewN q) p N H (.slice (some ⟨g, 0, none⟩) L.length c) lost L' (A.set i (a.turn b)) ∧ ∀ y, Ft p (.slice (some ⟨g, 0, none⟩) L.length c) L' y → Ft p (.slice (some ⟨g, 0, none⟩) L.length c) L y) ∧ Turned (Ft p (.slice (some ⟨g, 0, none⟩) L.length c) L) w (((w.setCell ⟨g, i * 6 + 3 + x.k, none⟩ (.int .i64 (b : Nat))).setCell ⟨g, i * 6 + 5, none⟩ (.int .i64 ((x.k + 1 : Nat) : Int))).drewN q)) := fun q => by
    have hF : Ft p (.slice (some ⟨g, 0, none⟩) L.length c) L g := .inr (.inl rfl)
    have hk1 : x.k ≤ 1 := by
      have := hpi.k
      have h2 := hpi.k2
      have : a.ts.length ≠ 2 := by
        intro h
        unfold turnE at hb
        rw [if_pos h] at hb
        split at hb <;> omega
      omega
    have hgp : g ≠ p := fun e => h.bp (by rw [e]; rfl)
    have hxg : ∀ y ∈ L, y.g ≠ g := fun y hy e => (h.xp y hy).2 (by rw [e]; rfl)
    have hblk : ∀ y, y ≠ g → (((w.setCell ⟨g, i * 6 + 3 + x.k, none⟩ (.int .i64 (b : Nat))).setCell ⟨g, i * 6 + 5, none⟩ (.int .i64 ((x.k + 1 : Nat) : Int))).drewN q).heap[y]? = w.heap[y]? := fun y hy => (set_block_other hy).trans (set_block_other hy)
    have hlenS : (L.set i (x.turn b)).length = L.length := by simp
    have htg : (x.turn b).g = x.g := by unfold Px.turn; split <;> rfl
    have hmem : ∀ y ∈ L.set i (x.turn b), ∃ z ∈ L, z.g = y.g := fun y hy => by
      rcases List.mem_or_eq_of_mem_set hy with h1 | rfl
      · exact ⟨y, h1, rfl⟩
      · exact ⟨x, List.mem_of_getElem? hx, htg.symm⟩
    refine ⟨⟨L.set i (x.turn b), { h with obj := h.obj.of_block (hblk p hgp.symm), bag := ?_, len := by simp [hlen], pk := ?_, xp := ?_, most := by rw [hlenS]; exact h.most }, ?_⟩, (((Turned.refl _ w).setCell (.inl hF) _).setCell (.inl hF) _).drewN q⟩
    · have s1 := (h.bag.stored (i * 6 + 3 + x.k) (.int .i64 (b : Nat))).1
      have s2 := (s1.stored (i * 6 + 5) (.int .i64 ((x.k + 1 : Nat) : Int))).1
      have e2 : ((flat L).set (i * 6 + 3 + x.k) (.int .i64 (b : Nat))).set (i * 6 + 5) (.int .i64 ((x.k + 1 : Nat) : Int)) = flat (L.set i (x.turn b)) := by
        have hk : x.k = 0 ∨ x.k = 1 := by omega
        have e3 := flat_turn L i x (if x.k = 0 then { x with t0 := b } else { x with t1 := b }) hx (3 + x.k) (by omega) (.int .i64 (b : Nat)) (by rcases hk with e | e <;> simp [e, cellsP])
        have hset : (L.set i (if x.k = 0 then { x with t0 := (b : Int) } else { x with t1 := (b : Int) }))[i]? = some (if x.k = 0 then { x with t0 := (b : Int) } else { x with t1 := (b : Int) }) := by rw [List.getElem?_set_self (by omega)]
        have e4 := flat_turn (L.set i (if x.k = 0 then { x with t0 := (b : Int) } else { x with t1 := (b : Int) })) i _ (x.turn b) hset 5 (by omega) (.int .i64 ((x.k + 1 : Nat) : Int)) (by unfold Px.turn; rcases hk with e | e <;> simp [e, cellsP])
        rw [show i * 6 + 3 + x.k = 6 * i + (3 + x.k) by omega, show i * 6 + 5 = 6 * i + 5 by omega, e3, e4, List.set_set]
      rw [e2] at s2
      rw [hlenS]
      exact s2
    · intro j y d hy hd
      by_cases e : j = i
      · subst e
        rw [List.getElem?_set_self (by omega)] at hy hd
        cases hy
        cases hd
        exact hpi.turned (hblk _ (hxg x (List.mem_of_getElem? hx))) b hb
      · rw [List.getElem?_set_ne (by omega)] at hy hd
        exact (h.pk j y d hy hd).of (hblk _ (hxg y (List.mem_of_getElem? hy)))
    · intro y hy
      obtain ⟨z, hz, e⟩ := hmem y hy
      rw [← e]
      exact h.xp z hz
    · rintro y (rfl | hy | ⟨z, hz, rfl⟩)
      · exact .inl rfl
      · exact .inr (.inl hy)
      · obtain ⟨z', hz', e⟩ := hmem z hz
        exact .inr (.inr ⟨z', hz', e⟩)
  have hiL : (i : Int) < (L.length : Int) := by omega
  have hmost := h.most
  clear h hat hpi hb hx hi hlen hil hfr
  generalize L.length = n at *
  generalize hkk : x.k = kk at *
  clear hkk
  go_enter Try.func26, Try.ntmps26
  go_wp2_with fail
  refine hpl.mono ?_
  rintro e w1 ⟨rfl, rfl⟩
  go_wp2_with fail
  refine htu.mono ?_
  rintro e w1 ⟨rfl, q, rfl⟩
  go_wp2
  go_ret
  exact ⟨rfl, HE.out q⟩
theorem turnNet_err (h : NetIs w p N H sv lost L A) (i : Nat) (a : Pa) (hi : A[i]? = some a) (b : Int) (hR : b ≤ 9223372036854775807) (hb : turnE a b ≠ 0) :
    Calls Try.prog 26 #[.pointer (some ⟨p, 0, none⟩), .int .i64 (i : Nat), .int .i64 b] w fun e w' => e = .returned (.int .i64 (turnE a b)) ∧ w = w' := by
  have hil := (List.getElem?_eq_some_iff.1 hi).1
  have hpl := place_is h (i : Int)
  rw [if_pos ⟨by omega, by omega⟩] at hpl
  have hlen := h.len
  obtain ⟨x, hx⟩ : ∃ x, L[i]? = some x := ⟨_, List.getElem?_eq_getElem (by omega)⟩
  obtain ⟨g, c, rfl, hc1, hc2, hc3⟩ := bag_some h.bag (List.mem_of_getElem? hx)
  have hat := bag_at h.bag hx
  have hpi := h.pk i x a hx hi
  have htu := turn_err w g (i * 6) x a hat hpi b hR hb
  have cB := h.cB
  have hiL : (i : Int) < (L.length : Int) := by omega
  have hmost := h.most
  clear h hat hpi hb hx hi hlen hil
  generalize L.length = n at *
  generalize turnE a b = r at *
  go_enter Try.func26, Try.ntmps26
  go_wp2_with fail
  refine hpl.mono ?_
  rintro e w1 ⟨rfl, rfl⟩
  go_wp2_with fail
  refine htu.mono ?_
  rintro e w1 ⟨rfl, rfl⟩
  go_wp2
  go_ret
  exact ⟨rfl, rfl⟩
theorem turnNet_none (h : NetIs w p N H sv lost L A) (i : Int) (hi : ¬ (0 ≤ i ∧ i < A.length)) (b : Int) :
    Calls Try.prog 26 #[.pointer (some ⟨p, 0, none⟩), .int .i64 i, .int .i64 b] w fun e w' => e = .returned (.int .i64 1) ∧ w = w' := by
  have hpl := place_is h i
  rw [if_neg hi] at hpl
  clear h
  go_enter Try.func26, Try.ntmps26
  go_wp2_with fail
  refine hpl.mono ?_
  rintro e w1 ⟨rfl, rfl⟩
  go_wp2
  go_ret
  exact ⟨rfl, rfl⟩
end
theorem turn_nil (w : World) (i b : Int) : Calls Try.prog 26 #[.pointer none, .int .i64 i, .int .i64 b] w fun e w' => e = .returned (.int .i64 6) ∧ w = w' := by
  go_enter Try.func26, Try.ntmps26
  go_wp2_with fail
  refine (place_nil _ _).mono ?_
  rintro e w1 ⟨rfl, rfl⟩
  go_wp2
  go_ret
  exact ⟨rfl, rfl⟩
end Go.Proofs.Ytagabmhgcmnldaa
