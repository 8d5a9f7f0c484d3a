/-
  The program's net and the document's side by side: what one does, the other does.
-/
import Derived.Test.YtagabmhgcmnldaaMTurn
import Derived.Test.YtagabmhgcmnldaaNArgs3
namespace Go.Proofs.Ytagabmhgcmnldaa
open Go.RowKit
set_option linter.unusedVariables false
set_option linter.unusedSimpArgs false

theorem Row.turned {G : Nat → Prop} {w w' : World} {ao : Option Addr} {n cap : Nat} {xs : List UInt8} (h : Row w ao n cap xs) (t : Turned G w w') (hG : ∀ a, ao = some a → 0 < n → ¬ G a.block) : Row w' ao n cap xs := by
  obtain ⟨h1, h2, h3, h4, h5⟩ := h
  refine ⟨h1, h2, h3, h4, fun a ha i hi => ?_⟩
  have hc := h5 a ha i hi
  have hlt := World.block_lt_of_cell? w _ hc
  have hb : w'.heap[(a.add i).block]? = w.heap[(a.add i).block]? := t.block _ hlt (by have hq := hG a ha (by omega); obtain ⟨ab, aof, asp⟩ := a; unfold Addr.add; split <;> exact hq)
  rw [← hc]
  exact World.cell?_of_block (w := w) hb

/-- Both nets, in step. -/
def Bth (w : World) (G : Nat → Prop) (p m N lost : Nat) (A : List Pa) : Prop :=
  (∃ F H D lv bv L, Nt w F p N H lost A ∧ MIs w m N lv bv D lost L A ∧ Rel N H D ∧ (∀ b, F b → ¬ Fm m lv bv L b) ∧ (∀ b, F b → G b) ∧ (∀ b, Fm m lv bv L b → G b)) ∧ ∀ b, G b → b < w.heap.size
def Nxt (w : World) (G : Nat → Prop) (p m N lost : Nat) (A : List Pa) (w2 : World) : Prop := ∃ G' lost' A', Bth w2 G' p m N lost' A' ∧ A'.length ≤ A.length + 1 ∧ lost' ≤ lost + 1 ∧ Goes G w G' w2
def PairI (f1 f2 : Nat) (as1 as2 : Array Value) (w : World) (G : Nat → Prop) (p m N lost : Nat) (A : List Pa) : Prop :=
  ∃ r : Int, Calls Try.prog f1 as1 w fun e w1 => e = .returned (.int .i64 r) ∧ Turned G w w1 ∧ Calls Try.prog f2 as2 w1 fun e w2 => e = .returned (.int .i64 r) ∧ Nxt w G p m N lost A w2

section
variable {w w1 w2 : World} {F G : Nat → Prop} {p m N : Nat} {H : Nat → Nat} {lv bv : Value} {D : Nat → Bool} {lost : Nat} {L : List Mx} {A : List Pa}
theorem Bth.frame (h : Bth w G p m N lost A) {w' : World} (hs : w.heap.size ≤ w'.heap.size) (hb : ∀ b, G b → w'.heap[b]? = w.heap[b]?) : Bth w' G p m N lost A := by
  obtain ⟨⟨F, H, D, lv, bv, L, a1, a2, a3, a4, a5, a6⟩, a7⟩ := h
  exact ⟨⟨F, H, D, lv, bv, L, a1.frame hs (fun b hbb => hb b (a5 b hbb)), a2.frame (fun b hbb => hb b (a6 b hbb)), a3, a4, a5, a6⟩, fun b hbb => Nat.lt_of_lt_of_le (a7 b hbb) hs⟩
theorem Bth.up (h : Bth w G p m N lost A) {w' : World} (u : Below w.heap.size w w') : Bth w' G p m N lost A := h.frame u.size (fun b hb => u.block b (h.2 b hb))
theorem both {F' : Nat → Prop} {H' : Nat → Nat} {lv' bv' : Value} {D' : Nat → Bool} {lost' : Nat} {L' : List Mx} {A' : List Pa} (hM : MIs w m N lv bv D lost L A) (hd : ∀ b, F b → ¬ Fm m lv bv L b) (hF : ∀ b, F b → G b) (hMG : ∀ b, Fm m lv bv L b → G b)
    (n1 : Nt w1 F' p N H' lost' A') (g1 : Goes F w F' w1) (m2 : MIs w2 m N lv' bv' D' lost' L' A') (g2 : Goes (Fm m lv bv L) w1 (Fm m lv' bv' L') w2) (hr : Rel N H' D') (hA : A'.length ≤ A.length + 1) (hl : lost' ≤ lost + 1) : Nxt w G p m N lost A w2 := by
  have hnot : ∀ b, F' b → ¬ Fm m lv bv L b := fun b hb hm => (g1.foot b hb).elim (fun h => hd b h hm) (fun hle => by have := hM.lt b hm; omega)
  refine ⟨fun b => F' b ∨ Fm m lv' bv' L' b, lost', A', ⟨⟨F', H', D', lv', bv', L', n1.frame g2.turned.size (fun b hb => g2.turned.block b (n1.2 b hb) (hnot b hb)), m2, hr, ?_, fun b => .inl, fun b => .inr⟩, ?_⟩, hA, hl, ?_, ?_⟩
  · intro b hb hm
    have h1 := n1.2 b hb
    exact (g2.foot b hm).elim (hnot b hb) (fun hle => by omega)
  · rintro b (hb | hb)
    · exact Nat.lt_of_lt_of_le (n1.2 b hb) g2.turned.size
    · exact m2.lt b hb
  · exact (g1.turned.mono hF).trans g2.turned (fun b hb => .inl (hMG b hb))
  · rintro b (hb | hb)
    · exact (g1.foot b hb).imp (hF b) id
    · exact (g2.foot b hb).imp (hMG b) (fun hle => Nat.le_trans g1.turned.size hle)
theorem mis_after (hM : MIs w m N lv bv D lost L A) (hd : ∀ b, F b → ¬ Fm m lv bv L b) (t : Turned F w w1) : MIs w1 m N lv bv D lost L A := hM.frame (fun b hb => t.block b (hM.lt b hb) (fun hF => hd b hF hb))
theorem goes_turn {F : Nat → Prop} {w w' : World} (t : Turned F w w') : Goes F w F w' := ⟨t, fun _ h => .inl h⟩
theorem same_goes {w w' : World} (F : Nat → Prop) (e : w = w') : Goes F w F w' := by subst e; exact Goes.refl _ _

theorem pair_drop (h : Bth w G p m N lost A) (i : Int) (hl : lost < 1000000) : PairI 27 33 #[.pointer (some ⟨p, 0, none⟩), .int .i64 i] #[.pointer (some ⟨m, 0, none⟩), .int .i64 i] w G p m N lost A := by
  obtain ⟨⟨F, H, D, lv, bv, L, n, k, r, hd, hF, hM⟩, hlt⟩ := h
  by_cases hi : 0 ≤ i ∧ i < A.length
  · obtain ⟨j, rfl⟩ : ∃ j : Nat, i = j := ⟨i.toNat, by omega⟩
    refine ⟨0, (drop_any n j (by omega) hl).mono fun e w1 ⟨he, h1, h2⟩ => ⟨he, h2.mono hF, (refDrop_is (mis_after k hd h2) j (by have := k.len; omega) hl).mono fun e w2 ⟨he2, lv', bv', L', h3, h4⟩ => ⟨he2, both k hd hF hM h1 (goes_turn h2) h3 h4 r (by rw [List.length_eraseIdx]; split <;> omega) (by omega)⟩⟩⟩
  · obtain ⟨⟨sv, Lp, np, hsub⟩, nlt⟩ := n
    refine ⟨1, (drop_none np i hi).mono fun e w1 ⟨he, e1⟩ => ⟨he, by subst e1; exact Turned.refl _ _, ?_⟩⟩
    subst e1
    exact (refDrop_none k i hi).mono fun e w2 ⟨he2, e2⟩ => ⟨he2, both k hd hF hM ⟨⟨sv, Lp, np, hsub⟩, nlt⟩ (Goes.refl _ _) (by rw [← e2]; exact k) (same_goes _ e2) r (by omega) (by omega)⟩
theorem pair_double (h : Bth w G p m N lost A) (i : Int) (hA : A.length < 80) : PairI 23 34 #[.pointer (some ⟨p, 0, none⟩), .int .i64 i] #[.pointer (some ⟨m, 0, none⟩), .int .i64 i] w G p m N lost A := by
  obtain ⟨⟨F, H, D, lv, bv, L, n, k, r, hd, hF, hM⟩, hlt⟩ := h
  by_cases hi : 0 ≤ i ∧ i < A.length
  · obtain ⟨j, rfl⟩ : ∃ j : Nat, i = j := ⟨i.toNat, by omega⟩
    obtain ⟨a, ha⟩ : ∃ a, A[j]? = some a := ⟨_, List.getElem?_eq_getElem (by omega)⟩
    refine ⟨0, (double_any n j a ha (by omega)).mono fun e w1 ⟨he, F', h1, h2⟩ => ⟨he, h2.turned.mono hF, (refDouble_is (mis_after k hd h2.turned) j a ha (by have := k.len; omega)).mono fun e w2 ⟨he2, lv', bv', L', h3, h4⟩ => ⟨he2, both k hd hF hM h1 h2 h3 h4 r (by simp) (by omega)⟩⟩⟩
  · obtain ⟨⟨sv, Lp, np, hsub⟩, nlt⟩ := n
    refine ⟨1, (double_none np i hi).mono fun e w1 ⟨he, e1⟩ => ⟨he, by subst e1; exact Turned.refl _ _, ?_⟩⟩
    subst e1
    exact (refDouble_none k i hi).mono fun e w2 ⟨he2, e2⟩ => ⟨he2, both k hd hF hM ⟨⟨sv, Lp, np, hsub⟩, nlt⟩ (Goes.refl _ _) (by rw [← e2]; exact k) (same_goes _ e2) r (by omega) (by omega)⟩
theorem pair_turn (h : Bth w G p m N lost A) (i b : Int) (hb : b ≤ 9223372036854775807) : PairI 26 35 #[.pointer (some ⟨p, 0, none⟩), .int .i64 i, .int .i64 b] #[.pointer (some ⟨m, 0, none⟩), .int .i64 i, .int .i64 b] w G p m N lost A := by
  obtain ⟨⟨F, H, D, lv, bv, L, n, k, r, hd, hF, hM⟩, hlt⟩ := h
  by_cases hi : 0 ≤ i ∧ i < A.length
  · obtain ⟨j, rfl⟩ : ∃ j : Nat, i = j := ⟨i.toNat, by omega⟩
    obtain ⟨a, ha⟩ : ∃ a, A[j]? = some a := ⟨_, List.getElem?_eq_getElem (by omega)⟩
    by_cases ht : turnE a b = 0
    · obtain ⟨c, rfl⟩ : ∃ c : Nat, b = c := ⟨b.toNat, by
        have : ¬ b < 0 := fun hn => by unfold turnE at ht; rw [if_pos (.inl hn)] at ht; omega
        omega⟩
      refine ⟨0, (turn_any n j a ha c ht).mono fun e w1 ⟨he, h1, h2⟩ => ⟨he, h2.mono hF, (refTurn_is (mis_after k hd h2) j a ha c ht).mono fun e w2 ⟨he2, h3, h4⟩ => ⟨he2, both k hd hF hM h1 (goes_turn h2) h3 (goes_turn h4) r (by simp) (by omega)⟩⟩⟩
    · refine ⟨turnE a b, (turn_errs n j a ha b hb ht).mono fun e w1 ⟨he, e1⟩ => ⟨he, by subst e1; exact Turned.refl _ _, ?_⟩⟩
      subst e1
      exact (refTurn_err k j a ha b hb ht).mono fun e w2 ⟨he2, e2⟩ => ⟨he2, both k hd hF hM n (Goes.refl _ _) (by rw [← e2]; exact k) (same_goes _ e2) r (by omega) (by omega)⟩
  · obtain ⟨⟨sv, Lp, np, hsub⟩, nlt⟩ := n
    refine ⟨1, (turnNet_none np i hi b).mono fun e w1 ⟨he, e1⟩ => ⟨he, by subst e1; exact Turned.refl _ _, ?_⟩⟩
    subst e1
    exact (refTurn_none k i hi b).mono fun e w2 ⟨he2, e2⟩ => ⟨he2, both k hd hF hM ⟨⟨sv, Lp, np, hsub⟩, nlt⟩ (Goes.refl _ _) (by rw [← e2]; exact k) (same_goes _ e2) r (by omega) (by omega)⟩
theorem pair_put (h : Bth w G p m N lost A) (f t : Int) (ao : Option Addr) (n cap : Nat) (xs : List UInt8) (hx : Row w ao n cap xs) (hn : n ≤ 140737488351232) (hG : ∀ a, ao = some a → 0 < n → ¬ G a.block) (hA : A.length < 80) : PairI 22 30 #[.pointer (some ⟨p, 0, none⟩), .agg #[.int .i64 f, .int .i64 t, .slice ao n cap]] #[.pointer (some ⟨m, 0, none⟩), .agg #[.int .i64 f, .int .i64 t, .slice ao n cap]] w G p m N lost A := by
  obtain ⟨⟨F, H, D, lv, bv, L, nt, k, r, hd, hF, hM⟩, hlt⟩ := h
  by_cases hi : (0 ≤ f ∧ f < N) ∧ (0 ≤ t ∧ t < N)
  · obtain ⟨f', rfl⟩ : ∃ j : Nat, f = j := ⟨f.toNat, by omega⟩
    obtain ⟨t', rfl⟩ : ∃ j : Nat, t = j := ⟨t.toNat, by omega⟩
    refine ⟨0, (put_any nt f' t' (by omega) (by omega) ao n cap xs hx (by omega) (by omega)).mono fun e w1 ⟨he, F', h1, h2⟩ => ⟨he, h2.turned.mono hF, (refPut_is (mis_after k hd h2.turned) f' t' (by omega) (by omega) ao n cap xs (hx.turned h2.turned (fun a ha h0 hf => hG a ha h0 (hF _ hf))) hn (by have := k.len; omega)).mono fun e w2 ⟨he2, lv', bv', L', h3, h4⟩ => ⟨he2, both k hd hF hM h1 h2 h3 h4 r (by simp) (by omega)⟩⟩⟩
  · obtain ⟨⟨sv, Lp, np, hsub⟩, nlt⟩ := nt
    refine ⟨1, (put_arg np f t (.slice ao n cap) hi).mono fun e w1 ⟨he, e1⟩ => ⟨he, tu_below e1 _, (refPut_arg (k.up e1) f t (.slice ao n cap) hi).mono fun e w2 ⟨he2, e2⟩ => ⟨he2, ?_⟩⟩⟩
    have nt : Nt w F p N H lost A := ⟨⟨sv, Lp, np, hsub⟩, nlt⟩
    exact both k hd hF hM (nt.up e1) (goes_below e1) ((k.up e1).up e2) (goes_below e2) r (by omega) (by omega)
theorem without_bit {s N b : Nat} (hs : s < 2 ^ N) (h16 : N ≤ 16) (hb : b < N) : withoutN s (b : Int) < 2 ^ N ∧ ∀ j, j < N → (withoutN s (b : Int)).testBit j = (s.testBit j && !decide (j = b)) := by
  have hbo : onlyN (b : Int) = 2 ^ b := by unfold onlyN; rw [if_pos (by omega)]; rfl
  have h2 : 2 ^ b < 2 ^ 16 := Nat.pow_lt_pow_right (by omega) (by omega)
  refine ⟨?_, fun j hj => ?_⟩
  · unfold withoutN
    exact Nat.lt_of_le_of_lt Nat.and_le_left hs
  · unfold withoutN
    rw [Nat.testBit_and, hbo, show 65535 - 2 ^ b = 2 ^ 16 - (2 ^ b + 1) by omega, Nat.testBit_two_pow_sub_succ h2, Nat.testBit_two_pow]
    rw [show decide (j < 16) = true by simp; omega, Bool.true_and]
    congr 1
    by_cases e : b = j
    · simp [e]
    · simp [e, Ne.symm e]
theorem with_bit {s N b : Nat} (hs : s < 2 ^ N) (h16 : N ≤ 16) (hb : b < N) : withN s (b : Int) < 2 ^ N ∧ ∀ j, j < N → (withN s (b : Int)).testBit j = (s.testBit j || decide (j = b)) := by
  have hbo : onlyN (b : Int) = 2 ^ b := by unfold onlyN; rw [if_pos (by omega)]; rfl
  refine ⟨?_, fun j hj => ?_⟩
  · unfold withN
    rw [hbo]
    exact Nat.or_lt_two_pow hs (Nat.pow_lt_pow_right (by omega) hb)
  · unfold withN
    rw [Nat.testBit_or, hbo, Nat.testBit_two_pow]
    congr 1
    by_cases e : b = j
    · simp [e]
    · simp [e, Ne.symm e]
theorem Rel.cut (h : Rel N H D) (h16 : N ≤ 16) {a b : Nat} (ha : a < N) (hb : b < N) (hab : a ≠ b) : Rel N (put (put H a (withoutN (H a) b)) b (withoutN (H b) a)) (putB (putB D (a * 16 + b) true) (b * 16 + a) true) := by
  intro c hc
  obtain ⟨ha1, ha2⟩ := h a ha
  obtain ⟨hb1, hb2⟩ := h b hb
  obtain ⟨hc1, hc2⟩ := h c hc
  obtain ⟨p1, p2⟩ := without_bit ha1 h16 hb
  obtain ⟨q1, q2⟩ := without_bit hb1 h16 ha
  unfold put putB
  by_cases e1 : c = b
  · subst e1
    rw [if_pos rfl]
    refine ⟨q1, fun j hj => ?_⟩
    rw [q2 j hj, hb2 j hj]
    by_cases e2 : j = a
    · subst e2; simp
    · rw [if_neg (by omega), if_neg (by omega)]; simp [e2]
  · rw [if_neg e1]
    by_cases e3 : c = a
    · subst e3
      rw [if_pos rfl]
      refine ⟨p1, fun j hj => ?_⟩
      rw [p2 j hj, ha2 j hj]
      by_cases e2 : j = b
      · subst e2; simp
      · rw [if_neg (by omega), if_neg (by omega)]; simp [e2]
    · rw [if_neg e3]
      refine ⟨hc1, fun j hj => ?_⟩
      rw [hc2 j hj, if_neg (by omega), if_neg (by omega)]
theorem Rel.join (h : Rel N H D) (h16 : N ≤ 16) {a b : Nat} (ha : a < N) (hb : b < N) (hab : a ≠ b) : Rel N (put (put H a (withN (H a) b)) b (withN (H b) a)) (putB (putB D (a * 16 + b) false) (b * 16 + a) false) := by
  intro c hc
  obtain ⟨ha1, ha2⟩ := h a ha
  obtain ⟨hb1, hb2⟩ := h b hb
  obtain ⟨hc1, hc2⟩ := h c hc
  obtain ⟨p1, p2⟩ := with_bit ha1 h16 hb
  obtain ⟨q1, q2⟩ := with_bit hb1 h16 ha
  unfold put putB
  by_cases e1 : c = b
  · subst e1
    rw [if_pos rfl]
    refine ⟨q1, fun j hj => ?_⟩
    rw [q2 j hj, hb2 j hj]
    by_cases e2 : j = a
    · subst e2; simp
    · rw [if_neg (by omega), if_neg (by omega)]; simp [e2]
  · rw [if_neg e1]
    by_cases e3 : c = a
    · subst e3
      rw [if_pos rfl]
      refine ⟨p1, fun j hj => ?_⟩
      rw [p2 j hj, ha2 j hj]
      by_cases e2 : j = b
      · subst e2; simp
      · rw [if_neg (by omega), if_neg (by omega)]; simp [e2]
    · rw [if_neg e3]
      refine ⟨hc1, fun j hj => ?_⟩
      rw [hc2 j hj, if_neg (by omega), if_neg (by omega)]
theorem Rel.all (N : Nat) : Rel N (allN N) (fun _ => false) := by
  intro a ha
  unfold allN
  rw [if_pos ha]
  refine ⟨by have := Nat.two_pow_pos N; omega, fun b hb => ?_⟩
  rw [Nat.testBit_two_pow_sub_one]
  simp [hb]
theorem fm_p {w w' : World} (t : Turned (fun b => b = m) w w') : Goes (Fm m lv bv L) w (Fm m lv bv L) w' := goes_turn (t.mono (fun b hb => .inl hb))
theorem pair_cut (h : Bth w G p m N lost A) (a b : Int) : PairI 20 36 #[.pointer (some ⟨p, 0, none⟩), .int .i64 a, .int .i64 b] #[.pointer (some ⟨m, 0, none⟩), .int .i64 a, .int .i64 b, .bool true] w G p m N lost A := by
  obtain ⟨⟨F, H, D, lv, bv, L, n, k, r, hd, hF, hM⟩, hlt⟩ := h
  by_cases hi : (0 ≤ a ∧ a < N) ∧ (0 ≤ b ∧ b < N) ∧ a ≠ b
  · obtain ⟨a', rfl⟩ : ∃ j : Nat, a = j := ⟨a.toNat, by omega⟩
    obtain ⟨b', rfl⟩ : ∃ j : Nat, b = j := ⟨b.toNat, by omega⟩
    refine ⟨0, (cut_any n a' b' (by omega) (by omega) (by omega)).mono fun e w1 ⟨he, h1, h2⟩ => ⟨he, h2.mono hF, (refSet_is (mis_after k hd h2) a' b' true (by omega) (by omega) (by omega)).mono fun e w2 ⟨he2, h3, h4⟩ => ⟨he2, both k hd hF hM h1 (goes_turn h2) h3 (fm_p h4) (Rel.cut r k.n16 (by omega) (by omega) (by omega)) (by omega) (by omega)⟩⟩⟩
  · refine ⟨1, (cut_err n a b hi).mono fun e w1 ⟨he, e1⟩ => ⟨he, by subst e1; exact Turned.refl _ _, ?_⟩⟩
    subst e1
    exact (refSet_err k a b true hi).mono fun e w2 ⟨he2, e2⟩ => ⟨he2, both k hd hF hM n (Goes.refl _ _) (by rw [← e2]; exact k) (same_goes _ e2) r (by omega) (by omega)⟩
theorem pair_join (h : Bth w G p m N lost A) (a b : Int) : PairI 28 36 #[.pointer (some ⟨p, 0, none⟩), .int .i64 a, .int .i64 b] #[.pointer (some ⟨m, 0, none⟩), .int .i64 a, .int .i64 b, .bool false] w G p m N lost A := by
  obtain ⟨⟨F, H, D, lv, bv, L, n, k, r, hd, hF, hM⟩, hlt⟩ := h
  by_cases hi : (0 ≤ a ∧ a < N) ∧ (0 ≤ b ∧ b < N) ∧ a ≠ b
  · obtain ⟨a', rfl⟩ : ∃ j : Nat, a = j := ⟨a.toNat, by omega⟩
    obtain ⟨b', rfl⟩ : ∃ j : Nat, b = j := ⟨b.toNat, by omega⟩
    refine ⟨0, (join_any n a' b' (by omega) (by omega) (by omega)).mono fun e w1 ⟨he, h1, h2⟩ => ⟨he, h2.mono hF, (refSet_is (mis_after k hd h2) a' b' false (by omega) (by omega) (by omega)).mono fun e w2 ⟨he2, h3, h4⟩ => ⟨he2, both k hd hF hM h1 (goes_turn h2) h3 (fm_p h4) (Rel.join r k.n16 (by omega) (by omega) (by omega)) (by omega) (by omega)⟩⟩⟩
  · refine ⟨1, (join_err n a b hi).mono fun e w1 ⟨he, e1⟩ => ⟨he, by subst e1; exact Turned.refl _ _, ?_⟩⟩
    subst e1
    exact (refSet_err k a b false hi).mono fun e w2 ⟨he2, e2⟩ => ⟨he2, both k hd hF hM n (Goes.refl _ _) (by rw [← e2]; exact k) (same_goes _ e2) r (by omega) (by omega)⟩
end
end Go.Proofs.Ytagabmhgcmnldaa
