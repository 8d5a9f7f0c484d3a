/-
  MemberRefuses: the walk.
-/
import Derived.Test.YtlonbbepoamnmaaDoorMAwake
import Derived.Test.YtlonbbepoamnmaaDoorSRefC
namespace Go.Proofs.YtlonbbepoamnmaaDoor
set_option linter.unusedVariables false

theorem withN_bit2 (s k x : Nat) (hk : k < 16) : (withN s (k : Int)).testBit x = (s.testBit x || decide (k = x)) := by
  unfold withN onlyN
  rw [if_pos (by omega), Int.toNat_natCast, Nat.testBit_or, Nat.testBit_two_pow]
def proF (v : Vid) (s : Nat) : PF := { zeroF with kind := 2, frm := v.2, idN := v.1, idP := v.2, set := s }
theorem has_zero_node : ∀ i : Fin 16, 1 ≤ i.val → hasN (withoutN (2 ^ 16 - 1) ((0 : Nat) : Int)) (i.val : Int) = true := by decide
theorem has_with (s k : Nat) (i : Nat) (hk : k < 16) (hi : i < 16) (h : hasN s (i : Int) = true ∨ i = k) : hasN (withN s (k : Int)) (i : Int) = true := by
  have hb := withN_bit2 s k i hk
  have e1 : ∀ t : Nat, hasN t (i : Int) = t.testBit i := fun t => by simp [hasN]; omega
  rw [e1, hb]
  rcases h with h | h
  · rw [e1] at h; simp [h]
  · simp [h]
/-- The set that is proposed: with the node 0 and both that propose. -/
def refS (set a b : Nat) : Nat := withN (withN (withN set 0) (a : Int)) (b : Int)
theorem refS_lt (set a b : Nat) (h : set < 65536) : refS set a b < 65536 := withN_lt _ (withN_lt _ (withN_lt _ h _) _) _
theorem refS_has (set a b : Nat) (ha : a < 16) (hb : b < 16) : hasN (refS set a b) ((0 : Nat) : Int) = true ∧ hasN (refS set a b) (a : Int) = true ∧ hasN (refS set a b) (b : Int) = true :=
  ⟨has_with _ _ _ hb (by omega) (.inl (has_with _ _ _ ha (by omega) (.inl (has_with set 0 0 (by omega) (by omega) (.inr rfl))))), has_with _ _ _ hb ha (.inl (has_with _ _ _ ha ha (.inr rfl))), has_with _ _ _ hb hb (.inr rfl)⟩
theorem pro_inn {M : Mm} {N P s : Nat} {d : Sd} (hn : M.n = 16) (hs : M.self = 0) (hP : 1 ≤ P) (hP16 : P < 16) (h0 : hasN s ((0 : Nat) : Int) = true) (hp : hasN s (P : Int) = true) :
    M.inn (proF (N, (P : Int)) s) d = if (N, (P : Int)) ≠ (M.took (proF (N, (P : Int)) s)).prom ∨ (N, (P : Int)) = M.cur then ⟨M.took (proF (N, (P : Int)) s), [(P, (M.took (proF (N, (P : Int)) s)).no (proF (N, (P : Int)) s))], none, 9⟩ else ⟨M.took (proF (N, (P : Int)) s), [(P, M.yes (proF (N, (P : Int)) s) d)], none, 0⟩ := by
  unfold Mm.inn
  have e1 : hasN (withoutN (2 ^ M.n - 1) (M.self : Nat)) (proF (N, (P : Int)) s).frm = true := by
    rw [hn, hs]; exact has_zero_node ⟨P, hP16⟩ hP
  rw [if_neg (by rw [e1]; simp), if_neg (by simp [proF]), if_pos (by simp [proF])]
  unfold Mm.proposed
  rw [if_neg (by
    rw [hn, hs]
    rintro (h | h | h)
    · exact h rfl
    · exact h ⟨hp, h0⟩
    · simp at h)]
  rfl
theorem ref_first {aN a b set : Nat} (hN : 0 < aN) (ha : 1 ≤ a) (ha16 : a < 16) (hb16 : b < 16) (d : Sd) : ∃ M G, (newM 16 0).inn (proF (aN, (a : Int)) (refS set a b)) d = ⟨M, [(a, G)], none, 0⟩ ∧ G.kind = 3 ∧ M.n = 16 ∧ M.self = 0 ∧ M.prom = (aN, (a : Int)) ∧ M.cur = (0, 0) := by
  obtain ⟨h0, h1, _⟩ := refS_has set a b ha16 hb16
  have ht : (newM 16 0).took (proF (aN, (a : Int)) (refS set a b)) = { newM 16 0 with high := max 0 aN, prom := (aN, (a : Int)), own := none } := by
    unfold Mm.took
    rw [if_pos (by left; exact hN)]
    rfl
  rw [pro_inn rfl rfl ha ha16 h0 h1, ht, if_neg (by
    rintro (h | h)
    · exact h rfl
    · have := congrArg Prod.fst h
      simp [newM] at this
      omega)]
  exact ⟨_, _, rfl, rfl, rfl, rfl, rfl, rfl⟩
theorem ref_low {M : Mm} {aN bN a b set : Nat} (hn : M.n = 16) (hs : M.self = 0) (hp : M.prom = (aN, (a : Int))) (hc : M.cur = (0, 0)) (ha16 : a < 16) (hb : 1 ≤ b) (hb16 : b < 16) (hl : bN < aN ∨ bN = aN ∧ b < a) (d : Sd) :
    ∃ T G, M.inn (proF (bN, (b : Int)) (refS set a b)) d = ⟨T, [(b, G)], none, 9⟩ ∧ G.kind = 4 ∧ G.promN = aN ∧ G.promP = (a : Int) ∧ G.idN = bN ∧ G.idP = (b : Int) ∧ T.prom = (aN, (a : Int)) := by
  obtain ⟨h0, _, h2⟩ := refS_has set a b ha16 hb16
  have ht : M.took (proF (bN, (b : Int)) (refS set a b)) = { M with high := max M.high bN } := by
    unfold Mm.took
    rw [if_neg (by
      rw [hp]
      rintro (h | h)
      · have h' : aN < bN := h
        omega
      · have h' : aN = bN ∧ (a : Int) < (b : Int) := h
        omega)]
    rfl
  rw [pro_inn hn hs hb hb16 h0 h2, ht, if_pos (by
    left
    show (bN, (b : Int)) ≠ M.prom
    rw [hp]
    intro h
    have e1 := congrArg Prod.fst h
    have e2 := congrArg Prod.snd h
    simp at e1 e2
    omega)]
  refine ⟨_, _, rfl, rfl, ?_, ?_, rfl, rfl, hp⟩
  · show M.prom.1 = aN; rw [hp]
  · show M.prom.2 = (a : Int); rw [hp]
theorem ref_high {M : Mm} {aN bN a b set : Nat} (hn : M.n = 16) (hs : M.self = 0) (hp : M.prom = (aN, (a : Int))) (hc : M.cur = (0, 0)) (hbN : 0 < bN) (ha16 : a < 16) (hb : 1 ≤ b) (hb16 : b < 16) (hl : ¬ (bN < aN ∨ bN = aN ∧ b < a)) (d : Sd) :
    ∃ T G, M.inn (proF (bN, (b : Int)) (refS set a b)) d = ⟨T, [(b, G)], none, 0⟩ ∧ G.kind = 3 ∧ T.prom = (bN, (b : Int)) ∧ T.opn = false := by
  obtain ⟨h0, _, h2⟩ := refS_has set a b ha16 hb16
  have ht : (M.took (proF (bN, (b : Int)) (refS set a b))).prom = (bN, (b : Int)) ∧ (M.took (proF (bN, (b : Int)) (refS set a b))).cur = (0, 0) := by
    unfold Mm.took
    by_cases hv : vlt M.prom (proF (bN, (b : Int)) (refS set a b)).id
    · rw [if_pos hv]; exact ⟨rfl, hc⟩
    · rw [if_neg hv]
      refine ⟨?_, hc⟩
      show M.prom = _
      rw [hp] at hv ⊢
      have hv' : ¬ (aN < bN ∨ aN = bN ∧ (a : Int) < (b : Int)) := hv
      have e1 : aN = bN := by omega
      have e2 : a = b := by omega
      rw [e1, e2]
  rw [pro_inn hn hs hb hb16 h0 h2, if_neg (by
    rw [ht.1, hc]
    rintro (h | h)
    · exact h rfl
    · have e1 := congrArg Prod.fst h
      simp at e1
      omega)]
  refine ⟨_, _, rfl, rfl, ht.1, ?_⟩
  unfold Mm.opn
  rw [ht.2]
  rfl
end Go.Proofs.YtlonbbepoamnmaaDoor
namespace Go.Proofs.YtlonbbepoamnmaaDoor
open Go.RowKit
set_option linter.unusedVariables false
def formB (n : Nat) (p : Int) : Bool := if n = 0 then decide (p = 0) else decide (0 ≤ p) && decide (p ≤ 15)
theorem formB_in {n : Nat} {p : Int} (h : formB n p = true) (hn : ¬ n = 0) : 0 ≤ p ∧ p ≤ 15 := by
  unfold formB at h
  rw [if_neg hn] at h
  simpa using h
theorem refForm_any (w : World) (n : Nat) (p : Int) : Calls Tryd.prog 29 #[vid n p] w fun e w' => e = .returned (.bool (formB n p)) ∧ Below w.heap.size w w' := by
  unfold formB vid
  by_cases hn : n = 0
  · have hn' : (n : Int) = 0 := by omega
    rw [if_pos hn]
    clear hn
    go_enter Tryd.func29, Tryd.ntmps29
    go_wp2
    go_ret
    exact ⟨rfl, bl1 _ _⟩
  · have hn' : ¬ (n : Int) = 0 := by omega
    rw [if_neg hn]
    clear hn
    by_cases h0 : 0 ≤ p
    · go_enter Tryd.func29, Tryd.ntmps29
      go_wp2
      go_ret
      exact ⟨by simp [h0], bl1 _ _⟩
    · go_enter Tryd.func29, Tryd.ntmps29
      go_wp2
      go_ret
      exact ⟨by simp; intro h; omega, bl1 _ _⟩
theorem cell_up {W W' : World} {ad : Addr} {v : Value} (u : Below W.heap.size W W') (h : W.cell? ad = some v) : W'.cell? ad = some v := (u.cell (World.block_lt_of_cell? W _ h)).trans h
theorem cmpV_low {n1 n2 : Nat} {p1 p2 : Int} (h : n1 < n2 ∨ n1 = n2 ∧ p1 < p2) : cmpV n1 p1 n2 p2 = -1 := by
  unfold cmpV sgn
  repeat' split
  all_goals (first | rfl | omega)
theorem cmpV_high {n1 n2 : Nat} {p1 p2 : Int} (h : ¬ (n1 < n2 ∨ n1 = n2 ∧ p1 < p2)) : ¬ cmpV n1 p1 n2 p2 < 0 := by
  unfold cmpV sgn
  repeat' split
  all_goals omega

set_option maxRecDepth 20000 in
set_option maxHeartbeats 8000000 in
theorem refuse_walk (w : World) (tab : Tab w) (aN : Nat) (aP : Int) (bN : Nat) (bP : Int) (set : Nat) (hset : set < 65536) : Calls Tryd.prog 9 #[vid aN aP, vid bN bP, .int .u16 (set : Nat)] w fun e w' => e = .returned (.bool true) ∧ Below w.heap.size w w' := by
  obtain ⟨w1, hw1⟩ : ∃ w1, (w.alloc (.cells #[.int .u64 (aN : Nat), .int .i64 aP] 31)).alloc (.cells #[.int .u64 (bN : Nat), .int .i64 bP] 31) = w1 := ⟨_, rfl⟩
  have b1 : Below w.heap.size w w1 := by rw [← hw1]; exact bl2 _ _ _
  have s1 : w1.heap.size = w.heap.size + 2 := by rw [← hw1]; simp
  have tab1 : Tab w1 := tab.below b1 tab.lt
  obtain ⟨A, hA⟩ : ∃ A, w.heap.size = A := ⟨_, rfl⟩
  have hcA : w1.heap[A]? = some (.cells #[.int .u64 (aN : Nat), .int .i64 aP] 31 (0, 0)) := by
    rw [← hw1, Below.heap_alloc _ _ _ (by simp; omega), ← hA]; exact heap_alloc_new _ _
  have hcB : w1.heap[A + 1]? = some (.cells #[.int .u64 (bN : Nat), .int .i64 bP] 31 (0, 0)) := by
    have := heap_alloc_new (w.alloc (.cells #[.int .u64 (aN : Nat), .int .i64 aP] 31)) (.cells #[.int .u64 (bN : Nat), .int .i64 bP] 31)
    rw [← hw1, ← hA]; simpa using this
  have hAB : ∀ W, Below w1.heap.size w1 W → W.cell? ⟨A, 0, none⟩ = some (.int .u64 (aN : Nat)) ∧ W.cell? ⟨A, 1, none⟩ = some (.int .i64 aP) ∧ W.cell? ⟨A + 1, 0, none⟩ = some (.int .u64 (bN : Nat)) ∧ W.cell? ⟨A + 1, 1, none⟩ = some (.int .i64 bP) := fun W u =>
    ⟨cell_up u (heap_cell (j := 0) hcA rfl), cell_up u (heap_cell (j := 1) hcA rfl), cell_up u (heap_cell (j := 0) hcB rfl), cell_up u (heap_cell (j := 1) hcB rfl)⟩
  have hTb : ∀ W, Below w1.heap.size w1 W → Tab W := fun W u => tab1.below u tab1.lt
  have hAw := fun W (u : Below w1.heap.size w1 W) => awake_any W (hTb W u)
  have hFa := fun W => refForm_any W aN aP
  have hFb := fun W => refForm_any W bN bP
  have HF : Hid (∀ W, Below w1.heap.size w1 W → Below w.heap.size w W) := fun W u => Up.below b1 (by omega) u
  have HW : Hid ((w.alloc (.cells #[.int .u64 (aN : Nat), .int .i64 aP] 31)).alloc (.cells #[.int .u64 (bN : Nat), .int .i64 bP] 31) = w1) := hw1
  unfold vid at hFa hFb ⊢
  clear hcA hcB b1 s1 hw1 tab tab1
  cases hfa : formB aN aP with
  | false =>
    rw [hfa] at hFa
    clear hfa
    go_enter Tryd.func9, Tryd.ntmps9
    go_wp2_with fail
    rw [HW.out]
    refine (hAw w1 (Below.refl _ _)).mono ?_
    rintro e w2 ⟨rfl, b2⟩
    obtain ⟨a0, a1, c0, c1⟩ := hAB w2 b2
    go_wp2_with fail
    refine (hFa w2).mono ?_
    rintro e w3 ⟨rfl, u3⟩
    have b3 := bl_step b2 u3
    clear a0 a1 c0 c1
    obtain ⟨a0, a1, c0, c1⟩ := hAB w3 b3
    go_wp2_with fail
    refine (hAw w3 b3).mono ?_
    rintro e w9 ⟨rfl, b9⟩
    go_wp2
    go_ret
    exact ⟨rfl, HF.out _ (bl_step b3 b9)⟩
  | true =>
    rw [hfa] at hFa
    cases hfb : formB bN bP with
    | false =>
      rw [hfb] at hFb
      clear hfb hfa
      go_enter Tryd.func9, Tryd.ntmps9
      go_wp2_with fail
      rw [HW.out]
      refine (hAw w1 (Below.refl _ _)).mono ?_
      rintro e w2 ⟨rfl, b2⟩
      obtain ⟨a0, a1, c0, c1⟩ := hAB w2 b2
      go_wp2_with fail
      refine (hFa w2).mono ?_
      rintro e w3 ⟨rfl, u3⟩
      have b3 := bl_step b2 u3
      clear a0 a1 c0 c1
      obtain ⟨a0, a1, c0, c1⟩ := hAB w3 b3
      go_wp2_with fail
      refine (hFb w3).mono ?_
      rintro e w4 ⟨rfl, u4⟩
      have b4 := bl_step b3 u4
      clear a0 a1 c0 c1
      obtain ⟨a0, a1, c0, c1⟩ := hAB w4 b4
      go_wp2_with fail
      refine (hAw w4 b4).mono ?_
      rintro e w9 ⟨rfl, b9⟩
      go_wp2
      go_ret
      exact ⟨rfl, HF.out _ (bl_step b4 b9)⟩
    | true =>
      rw [hfb] at hFb
      by_cases n1 : aN = 0
      · have q1 : ((aN : Int) == 0) = true := by simp; omega
        clear hfa hfb n1
        go_enter Tryd.func9, Tryd.ntmps9
        go_wp2_with fail
        rw [HW.out]
        refine (hAw w1 (Below.refl _ _)).mono ?_
        rintro e w2 ⟨rfl, b2⟩
        obtain ⟨a0, a1, c0, c1⟩ := hAB w2 b2
        go_wp2_with fail
        refine (hFa w2).mono ?_
        rintro e w3 ⟨rfl, u3⟩
        have b3 := bl_step b2 u3
        clear a0 a1 c0 c1
        obtain ⟨a0, a1, c0, c1⟩ := hAB w3 b3
        go_wp2_with fail
        refine (hFb w3).mono ?_
        rintro e w4 ⟨rfl, u4⟩
        have b4 := bl_step b3 u4
        clear a0 a1 c0 c1
        obtain ⟨a0, a1, c0, c1⟩ := hAB w4 b4
        go_wp2_with fail
        refine (hAw w4 b4).mono ?_
        rintro e w9 ⟨rfl, b9⟩
        go_wp2
        go_ret
        exact ⟨rfl, HF.out _ (bl_step b4 b9)⟩
      · have q1 : ((aN : Int) == 0) = false := by simp; omega
        by_cases n2 : bN = 0
        · have q2 : ((bN : Int) == 0) = true := by simp; omega
          clear hfa hfb n1 n2
          go_enter Tryd.func9, Tryd.ntmps9
          go_wp2_with fail
          rw [HW.out]
          refine (hAw w1 (Below.refl _ _)).mono ?_
          rintro e w2 ⟨rfl, b2⟩
          obtain ⟨a0, a1, c0, c1⟩ := hAB w2 b2
          go_wp2_with fail
          refine (hFa w2).mono ?_
          rintro e w3 ⟨rfl, u3⟩
          have b3 := bl_step b2 u3
          clear a0 a1 c0 c1
          obtain ⟨a0, a1, c0, c1⟩ := hAB w3 b3
          go_wp2_with fail
          refine (hFb w3).mono ?_
          rintro e w4 ⟨rfl, u4⟩
          have b4 := bl_step b3 u4
          clear a0 a1 c0 c1
          obtain ⟨a0, a1, c0, c1⟩ := hAB w4 b4
          go_wp2_with fail
          refine (hAw w4 b4).mono ?_
          rintro e w9 ⟨rfl, b9⟩
          go_wp2
          go_ret
          exact ⟨rfl, HF.out _ (bl_step b4 b9)⟩
        · have q2 : ((bN : Int) == 0) = false := by simp; omega
          by_cases n3 : aP = 0
          · have q3 : (aP == 0) = true := by simp; omega
            clear hfa hfb n1 n2 n3
            go_enter Tryd.func9, Tryd.ntmps9
            go_wp2_with fail
            rw [HW.out]
            refine (hAw w1 (Below.refl _ _)).mono ?_
            rintro e w2 ⟨rfl, b2⟩
            obtain ⟨a0, a1, c0, c1⟩ := hAB w2 b2
            go_wp2_with fail
            refine (hFa w2).mono ?_
            rintro e w3 ⟨rfl, u3⟩
            have b3 := bl_step b2 u3
            clear a0 a1 c0 c1
            obtain ⟨a0, a1, c0, c1⟩ := hAB w3 b3
            go_wp2_with fail
            refine (hFb w3).mono ?_
            rintro e w4 ⟨rfl, u4⟩
            have b4 := bl_step b3 u4
            clear a0 a1 c0 c1
            obtain ⟨a0, a1, c0, c1⟩ := hAB w4 b4
            go_wp2_with fail
            refine (hAw w4 b4).mono ?_
            rintro e w9 ⟨rfl, b9⟩
            go_wp2
            go_ret
            exact ⟨rfl, HF.out _ (bl_step b4 b9)⟩
          · have q3 : (aP == 0) = false := by simp; omega
            by_cases n4 : bP = 0
            · have q4 : (bP == 0) = true := by simp; omega
              clear hfa hfb n1 n2 n4
              go_enter Tryd.func9, Tryd.ntmps9
              go_wp2_with fail
              rw [HW.out]
              refine (hAw w1 (Below.refl _ _)).mono ?_
              rintro e w2 ⟨rfl, b2⟩
              obtain ⟨a0, a1, c0, c1⟩ := hAB w2 b2
              go_wp2_with fail
              refine (hFa w2).mono ?_
              rintro e w3 ⟨rfl, u3⟩
              have b3 := bl_step b2 u3
              clear a0 a1 c0 c1
              obtain ⟨a0, a1, c0, c1⟩ := hAB w3 b3
              go_wp2_with fail
              refine (hFb w3).mono ?_
              rintro e w4 ⟨rfl, u4⟩
              have b4 := bl_step b3 u4
              clear a0 a1 c0 c1
              obtain ⟨a0, a1, c0, c1⟩ := hAB w4 b4
              go_wp2_with fail
              refine (hAw w4 b4).mono ?_
              rintro e w9 ⟨rfl, b9⟩
              go_wp2
              go_ret
              exact ⟨rfl, HF.out _ (bl_step b4 b9)⟩
            · have q4 : (bP == 0) = false := by simp; omega
              have fa := formB_in hfa n1
              have fb := formB_in hfb n2
              obtain ⟨a, rfl⟩ : ∃ a : Nat, aP = (a : Int) := ⟨aP.toNat, by omega⟩
              obtain ⟨b, rfl⟩ : ∃ b : Nat, bP = (b : Int) := ⟨bP.toNat, by omega⟩
              have ha0 : 0 < aN := by omega
              have hb0 : 0 < bN := by omega
              have ha1 : 1 ≤ a := by omega
              have hb1 : 1 ≤ b := by omega
              have ha16 : a < 16 := by omega
              have hb16 : b < 16 := by omega
              clear hfa hfb n1 n2 n3 n4 fa fb
              by_cases hl : bN < aN ∨ bN = aN ∧ b < a
              · skip
                go_enter Tryd.func9, Tryd.ntmps9
                go_wp2_with fail
                rw [HW.out]
                refine (hAw w1 (Below.refl _ _)).mono ?_
                rintro e w2 ⟨rfl, b2⟩
                obtain ⟨a0, a1, c0, c1⟩ := hAB w2 b2
                go_wp2_with fail
                refine (hFa w2).mono ?_
                rintro e w3 ⟨rfl, u3⟩
                have b3 := bl_step b2 u3
                clear a0 a1 c0 c1
                obtain ⟨a0, a1, c0, c1⟩ := hAB w3 b3
                go_wp2_with fail
                refine (hFb w3).mono ?_
                rintro e w4 ⟨rfl, u4⟩
                have b4 := bl_step b3 u4
                clear a0 a1 c0 c1
                obtain ⟨a0, a1, c0, c1⟩ := hAB w4 b4
                have hnew := new_any w4 16 0 (by omega) (by omega) (by omega)
                clear hFa hFb
                go_wp2_with fail
                refine hnew.mono ?_
                rintro e w5 ⟨q, rfl, hN⟩
                clear hnew
                have h5 := hN.mb (fun _ => False) (fun b hb => hb.elim) (hTb w4 b4) (by omega) (by omega)
                have b5 : Below w1.heap.size w1 w5 ∧ w1.heap.size ≤ w5.heap.size ∧ ∀ b, b = q → w1.heap.size ≤ b := ⟨bl_step b4 hN.b, Nat.le_trans b4.size hN.b.size, fun b hb => by have := hN.hq; have := b4.size; omega⟩
                clear a0 a1 c0 c1 hN
                obtain ⟨a0, a1, c0, c1⟩ := hAB w5 b5.1
                have hS : w5.drew.cell? ⟨A, 1, none⟩ = some (.int .i64 (a : Nat)) ∧ w5.drew.cell? ⟨A + 1, 1, none⟩ = some (.int .i64 (b : Nat)) := ⟨a1, c1⟩
                have hw0 := fun W => refWith_any W set hset 0
                have hw1 := fun W => refWith_any W (withN set 0) (withN_lt _ hset _) (a : Int)
                have hw2 := fun W => refWith_any W (withN (withN set 0) (a : Int)) (withN_lt _ (withN_lt _ hset _) _) (b : Int)
                have HS : Hid (withN (withN (withN set 0) (a : Int)) (b : Int) = refS set a b) := rfl
                obtain ⟨M1, G1, eM1, gk1, m1n, m1s, m1p, m1c⟩ := ref_first (set := set) ha0 ha1 ha16 hb16 zd
                have hin := in_any (h5.still ((Below.refl _ w5).drew)) (proF (aN, (a : Int)) (refS set a b)) Fa.none (Ss.nil _ _) (by simp [proF, zeroF]) (refS_lt _ _ _ hset) (0, 0, 0, none, 0, 0) zd (Si.nil _ _ _ _ _ _)
                rw [eM1] at hin
                unfold fval fcells sta proF zeroF Fa.none at hin
                have HB5 : Hid (Below w1.heap.size w1 w5.drew ∧ w1.heap.size ≤ w5.drew.heap.size ∧ ∀ b, b = q → w1.heap.size ≤ b) := ⟨b5.1.drew, b5.2.1, b5.2.2⟩
                have hAB5 := hAB w5.drew b5.1.drew
                clear h5 b5 a0 a1 c0 c1 eM1
                go_wp2_with fail
                refine wp_region_noPanic ?_
                refine wp_region_held_drew (S := fun wx => wx.cell? ⟨A, 1, none⟩ = some (.int .i64 (a : Nat)) ∧ wx.cell? ⟨A + 1, 1, none⟩ = some (.int .i64 (b : Nat))) (by kernel_rfl) hS (fun hHeld => ?_)
                refine take_first 0 (v := ?_) rfl (by kernel_rfl) (by kernel_rfl) (by kernel_rfl) (fun _ _ _ h => h) (Or.inl ⟨by rfl, by intro wx hSw; (try dsimp only at hSw); obtain ⟨s1, s2⟩ := hSw; go_simp; try with_reducible rfl⟩) (by assumption) ?_
                (try simp only [Act.put, List.setIfInBounds_toArray, List.set_cons_zero, List.set_cons_succ])
                refine take_first 2 (v := ?_) rfl (by kernel_rfl) (by kernel_rfl) (by kernel_rfl) (fun _ _ _ h => h) (Or.inl ⟨by rfl, by intro wx hSw; (try dsimp only at hSw); obtain ⟨s1, s2⟩ := hSw; go_simp; try with_reducible rfl⟩) (by assumption) ?_
                (try simp only [Act.put, List.setIfInBounds_toArray, List.set_cons_zero, List.set_cons_succ])
                refine take_first 3 (v := ?_) rfl (by kernel_rfl) (by kernel_rfl) (by kernel_rfl) (fun _ _ _ h => h) (Or.inl ⟨by rfl, by intro wx hSw; (try dsimp only at hSw); obtain ⟨s1, s2⟩ := hSw; go_simp; try with_reducible rfl⟩) (by assumption) ?_
                (try simp only [Act.put, List.setIfInBounds_toArray, List.set_cons_zero, List.set_cons_succ])
                refine take_first 5 (v := ?_) rfl (by kernel_rfl) (by kernel_rfl) (by kernel_rfl) (fun _ _ _ h => h) (Or.inl ⟨by rfl, by intro wx hSw; (try dsimp only at hSw); obtain ⟨s1, s2⟩ := hSw; go_simp; try with_reducible rfl⟩) (by assumption) ?_
                (try simp only [Act.put, List.setIfInBounds_toArray, List.set_cons_zero, List.set_cons_succ])
                refine take_first 6 (v := ?_) rfl (by kernel_rfl) (by kernel_rfl) (by kernel_rfl) (fun _ _ _ h => h) (Or.inl ⟨by rfl, by intro wx hSw; (try dsimp only at hSw); obtain ⟨s1, s2⟩ := hSw; go_simp; try with_reducible rfl⟩) (by assumption) ?_
                (try simp only [Act.put, List.setIfInBounds_toArray, List.set_cons_zero, List.set_cons_succ])
                refine comes_up 1 rfl (by kernel_rfl) (fun K hK => ?_)
                go_simp
                refine (hw0 _).mono ?_
                rintro e w0 ⟨rfl, rfl⟩
                go_wp2_with fail
                refine hK.out _ _ hS (fun hHeld => ?_)
                clear hK K
                (try simp only [Act.put, List.setIfInBounds_toArray, List.set_cons_zero, List.set_cons_succ])
                refine comes_up 4 rfl (by kernel_rfl) (fun K hK => ?_)
                go_simp
                refine (hw1 _).mono ?_
                rintro e w0 ⟨rfl, rfl⟩
                go_wp2_with fail
                refine hK.out _ _ hS (fun hHeld => ?_)
                clear hK K
                (try simp only [Act.put, List.setIfInBounds_toArray, List.set_cons_zero, List.set_cons_succ])
                refine comes_up 7 rfl (by kernel_rfl) (fun K hK => ?_)
                go_simp
                refine (hw2 _).mono ?_
                rintro e w0 ⟨rfl, rfl⟩
                go_wp2_with fail
                refine hK.out _ _ hS (fun hHeld => ?_)
                clear hK K
                (try simp only [Act.put, List.setIfInBounds_toArray, List.set_cons_zero, List.set_cons_succ])
                refine take_first 8 (v := ?_) rfl (by kernel_rfl) (by kernel_rfl) (by kernel_rfl) (fun _ _ _ h => h) (Or.inl ⟨by rfl, by intro wx hSw; (try dsimp only at hSw); obtain ⟨s1, s2⟩ := hSw; go_simp; try with_reducible rfl⟩) (by assumption) ?_
                (try simp only [Act.put, List.setIfInBounds_toArray, List.set_cons_zero, List.set_cons_succ])
                refine wpAnyH_done (by kernel_rfl) ?_ _
                refine NoPanic.normal ?_
                clear hHeld hS hw0 hw1 hw2
                rw [HS.out]
                obtain ⟨a0, a1, c0, c1⟩ := hAB5
                go_wp2_with fail
                refine hin.mono ?_
                rintro e w6 ⟨v6, iv6, rfl, F6, Z6, o6, sp6, h6, ho6, hi6⟩
                clear hin a0 a1 c0 c1
                obtain ⟨g1, cap1, f1, rfl, hz1, hc1⟩ := outs_read ho6
                have hiv6 : iv6 = .pointer none := hi6
                subst hiv6
                have HB6 : Hid (Below w1.heap.size w1 w6 ∧ w1.heap.size ≤ w6.heap.size ∧ ∀ b, F6 b → w1.heap.size ≤ b) := below_sp HB5.out.1 HB5.out.2.1 sp6 HB5.out.2.2
                obtain ⟨a0, a1, c0, c1⟩ := hAB w6 HB6.out.1
                have k1 : w6.cell? ⟨g1, 1, none⟩ = some (.int .u8 3) := by rw [hc1 1 (.int .u8 (G1.kind : Nat)) rfl, gk1]; rfl
                obtain ⟨T, G2, eM2, gk2, gp1, gp2, gi1, gi2, tp⟩ := ref_low (set := set) (bN := bN) m1n m1s m1p m1c ha16 hb1 hb16 hl zd
                have hin := in_any h6 (proF (bN, (b : Int)) (refS set a b)) Fa.none (Ss.nil _ _) (by simp [proF, zeroF]) (refS_lt _ _ _ hset) (0, 0, 0, none, 0, 0) zd (Si.nil _ _ _ _ _ _)
                rw [eM2] at hin
                unfold fval fcells sta proF zeroF Fa.none at hin
                have HZ : Hid (Z6 g1 ∧ w6.cell? ⟨g1, 1, none⟩ = some (.int .u8 3) ∧ ∀ b, Z6 b → ¬ F6 b) := ⟨hz1, k1, h6.zf⟩
                clear h6 ho6 hi6 sp6 hc1 k1 HB5 eM2 hz1 gk1 m1n m1s m1p m1c
                go_wp2_with fail
                refine hin.mono ?_
                rintro e w7 ⟨v7, iv7, rfl, F7, Z7, o7, sp7, h7, ho7, hi7⟩
                clear hin a0 a1 c0 c1
                obtain ⟨g2, cap2, f2, rfl, hz2, hc2⟩ := outs_read ho7
                have hiv7 : iv7 = .pointer none := hi7
                subst hiv7
                have HB7 : Hid (Below w1.heap.size w1 w7 ∧ w1.heap.size ≤ w7.heap.size ∧ ∀ b, F7 b → w1.heap.size ≤ b) := below_sp HB6.out.1 HB6.out.2.1 sp7 HB6.out.2.2
                have k1 : w7.cell? ⟨g1, 1, none⟩ = some (.int .u8 3) := sp7.kp HZ.out.2.2 ⟨g1, 1, none⟩ _ HZ.out.1 HZ.out.2.1
                have k2 : w7.cell? ⟨g2, 0, none⟩ = some (.int .i64 (b : Nat)) := hc2 0 _ rfl
                have k3 : w7.cell? ⟨g2, 1, none⟩ = some (.int .u8 4) := by rw [hc2 1 (.int .u8 (G2.kind : Nat)) rfl, gk2]; rfl
                have k4 : w7.cell? ⟨g2, 3, none⟩ = some (.int .u64 (bN : Nat)) := by rw [hc2 3 (.int .u64 (G2.idN : Nat)) rfl, gi1]
                have k5 : w7.cell? ⟨g2, 4, none⟩ = some (.int .i64 (b : Nat)) := by rw [hc2 4 (.int .i64 G2.idP) rfl, gi2]
                have k6 : w7.cell? ⟨g2, 8, none⟩ = some (.int .u64 (aN : Nat)) := by rw [hc2 8 (.int .u64 (G2.promN : Nat)) rfl, gp1]
                have k7 : w7.cell? ⟨g2, 9, none⟩ = some (.int .i64 (a : Nat)) := by rw [hc2 9 (.int .i64 G2.promP) rfl, gp2]
                obtain ⟨a0, a1, c0, c1⟩ := hAB w7 HB7.out.1
                have hS : w7.drew.cell? ⟨g1, 1, none⟩ = some (.int .u8 3) ∧ w7.drew.cell? ⟨g2, 0, none⟩ = some (.int .i64 (b : Nat)) ∧ w7.drew.cell? ⟨A + 1, 1, none⟩ = some (.int .i64 (b : Nat)) := ⟨k1, k2, c1⟩
                have hcm := refCompare_any w7.drew bN (b : Int) aN (a : Int)
                have hS7 : ((w7.cell? ⟨g2, 1, none⟩ = some (.int .u8 4) ∧ w7.cell? ⟨g2, 3, none⟩ = some (.int .u64 (bN : Nat)) ∧ w7.cell? ⟨g2, 4, none⟩ = some (.int .i64 (b : Nat)) ∧ w7.cell? ⟨g2, 8, none⟩ = some (.int .u64 (aN : Nat)) ∧ w7.cell? ⟨g2, 9, none⟩ = some (.int .i64 (a : Nat))) ∧ w7.cell? ⟨A, 0, none⟩ = some (.int .u64 (aN : Nat)) ∧ w7.cell? ⟨A, 1, none⟩ = some (.int .i64 (a : Nat)) ∧ w7.cell? ⟨A + 1, 0, none⟩ = some (.int .u64 (bN : Nat)) ∧ w7.cell? ⟨A + 1, 1, none⟩ = some (.int .i64 (b : Nat))) := ⟨⟨k3, k4, k5, k6, k7⟩, a0, a1, c0, c1⟩
                have HKS : Hid (∀ W W', ((W.cell? ⟨g2, 1, none⟩ = some (.int .u8 4) ∧ W.cell? ⟨g2, 3, none⟩ = some (.int .u64 (bN : Nat)) ∧ W.cell? ⟨g2, 4, none⟩ = some (.int .i64 (b : Nat)) ∧ W.cell? ⟨g2, 8, none⟩ = some (.int .u64 (aN : Nat)) ∧ W.cell? ⟨g2, 9, none⟩ = some (.int .i64 (a : Nat))) ∧ W.cell? ⟨A, 0, none⟩ = some (.int .u64 (aN : Nat)) ∧ W.cell? ⟨A, 1, none⟩ = some (.int .i64 (a : Nat)) ∧ W.cell? ⟨A + 1, 0, none⟩ = some (.int .u64 (bN : Nat)) ∧ W.cell? ⟨A + 1, 1, none⟩ = some (.int .i64 (b : Nat))) → Below W.heap.size W W' → ((W'.cell? ⟨g2, 1, none⟩ = some (.int .u8 4) ∧ W'.cell? ⟨g2, 3, none⟩ = some (.int .u64 (bN : Nat)) ∧ W'.cell? ⟨g2, 4, none⟩ = some (.int .i64 (b : Nat)) ∧ W'.cell? ⟨g2, 8, none⟩ = some (.int .u64 (aN : Nat)) ∧ W'.cell? ⟨g2, 9, none⟩ = some (.int .i64 (a : Nat))) ∧ W'.cell? ⟨A, 0, none⟩ = some (.int .u64 (aN : Nat)) ∧ W'.cell? ⟨A, 1, none⟩ = some (.int .i64 (a : Nat)) ∧ W'.cell? ⟨A + 1, 0, none⟩ = some (.int .u64 (bN : Nat)) ∧ W'.cell? ⟨A + 1, 1, none⟩ = some (.int .i64 (b : Nat)))) := fun W W' hs u => by
                  obtain ⟨⟨s1, s2, s3, s4, s5⟩, s6, s7, s8, s9⟩ := hs
                  exact ⟨⟨cell_up u s1, cell_up u s2, cell_up u s3, cell_up u s4, cell_up u s5⟩, cell_up u s6, cell_up u s7, cell_up u s8, cell_up u s9⟩
                have HPR : Hid (∀ W, Below w7.heap.size w7 W → Calls Tryd.prog 21 #[.pointer (some ⟨q, 0, none⟩)] W fun e w' => e = .returned (vid aN (a : Int)) ∧ Up W w') := fun W u => by
                  have := prom_any (h7.still u)
                  rw [tp] at this
                  exact this
                have HFN : Hid (∀ W, Below w7.heap.size w7 W → Below w.heap.size w W) := fun W u => HF.out _ (bl_step HB7.out.1 u)
                have hcv : cmpV bN (b : Int) aN (a : Int) = -1 := cmpV_low (by omega)
                unfold vid at hcm HPR
                rw [hcv] at hcm
                clear h7 ho7 hi7 sp7 hc2 HZ HB6 HB7 hz2 tp gk2 gp1 gp2 gi1 gi2 hAw hAB hTb HF k1 k2 k3 k4 k5 k6 k7
                go_wp2_with fail
                refine wp_region_noPanic ?_
                refine wp_region_held_drew (S := fun wx => wx.cell? ⟨g1, 1, none⟩ = some (.int .u8 3) ∧ wx.cell? ⟨g2, 0, none⟩ = some (.int .i64 (b : Nat)) ∧ wx.cell? ⟨A + 1, 1, none⟩ = some (.int .i64 (b : Nat))) (by kernel_rfl) hS (fun hHeld => ?_)
                refine take_first 0 (v := ?_) rfl (by kernel_rfl) (by kernel_rfl) (by kernel_rfl) (fun _ _ _ h => h) (Or.inl ⟨by rfl, by intro wx hSw; (try dsimp only at hSw); obtain ⟨s1, s2, s3⟩ := hSw; go_simp; try with_reducible rfl⟩) (by assumption) ?_
                (try simp only [Act.put, List.setIfInBounds_toArray, List.set_cons_zero, List.set_cons_succ])
                refine take_first 1 (v := ?_) rfl (by kernel_rfl) (by kernel_rfl) (by kernel_rfl) (fun _ _ _ h => h) (Or.inl ⟨by rfl, by intro wx hSw; (try dsimp only at hSw); obtain ⟨s1, s2, s3⟩ := hSw; go_simp; try with_reducible rfl⟩) (by assumption) ?_
                (try simp only [Act.put, List.setIfInBounds_toArray, List.set_cons_zero, List.set_cons_succ])
                refine take_first 2 (v := ?_) rfl (by kernel_rfl) (by kernel_rfl) (by kernel_rfl) (fun _ _ _ h => h) (Or.inl ⟨by rfl, by intro wx hSw; (try dsimp only at hSw); obtain ⟨s1, s2, s3⟩ := hSw; go_simp; try with_reducible rfl⟩) (by assumption) ?_
                (try simp only [Act.put, List.setIfInBounds_toArray, List.set_cons_zero, List.set_cons_succ])
                refine take_first 3 (v := ?_) rfl (by kernel_rfl) (by kernel_rfl) (by kernel_rfl) (fun _ _ _ h => h) (Or.inl ⟨by rfl, by intro wx hSw; (try dsimp only at hSw); obtain ⟨s1, s2, s3⟩ := hSw; go_simp; try with_reducible rfl⟩) (by assumption) ?_
                (try simp only [Act.put, List.setIfInBounds_toArray, List.set_cons_zero, List.set_cons_succ])
                refine take_first 4 (v := ?_) rfl (by kernel_rfl) (by kernel_rfl) (by kernel_rfl) (fun _ _ _ h => h) (Or.inl ⟨by rfl, by intro wx hSw; (try dsimp only at hSw); obtain ⟨s1, s2, s3⟩ := hSw; go_simp; try with_reducible rfl⟩) (by assumption) ?_
                (try simp only [Act.put, List.setIfInBounds_toArray, List.set_cons_zero, List.set_cons_succ])
                refine take_first 5 (v := ?_) rfl (by kernel_rfl) (by kernel_rfl) (by kernel_rfl) (fun _ _ _ h => h) (Or.inl ⟨by rfl, by intro wx hSw; (try dsimp only at hSw); obtain ⟨s1, s2, s3⟩ := hSw; go_simp; try with_reducible rfl⟩) (by assumption) ?_
                (try simp only [Act.put, List.setIfInBounds_toArray, List.set_cons_zero, List.set_cons_succ])
                refine take_first 6 (v := ?_) rfl (by kernel_rfl) (by kernel_rfl) (by kernel_rfl) (fun _ _ _ h => h) (Or.inl ⟨by rfl, by intro wx hSw; (try dsimp only at hSw); obtain ⟨s1, s2, s3⟩ := hSw; go_simp; try with_reducible rfl⟩) (by assumption) ?_
                (try simp only [Act.put, List.setIfInBounds_toArray, List.set_cons_zero, List.set_cons_succ])
                refine take_first 7 (v := ?_) rfl (by kernel_rfl) (by kernel_rfl) (by kernel_rfl) (fun _ _ _ h => h) (Or.inl ⟨by rfl, by intro wx hSw; (try dsimp only at hSw); obtain ⟨s1, s2, s3⟩ := hSw; go_simp; try with_reducible rfl⟩) (by assumption) ?_
                (try simp only [Act.put, List.setIfInBounds_toArray, List.set_cons_zero, List.set_cons_succ])
                refine take_first 8 (v := ?_) rfl (by kernel_rfl) (by kernel_rfl) (by kernel_rfl) (fun _ _ _ h => h) (Or.inl ⟨by rfl, by intro wx hSw; (try dsimp only at hSw); obtain ⟨s1, s2, s3⟩ := hSw; go_simp; try with_reducible rfl⟩) (by assumption) ?_
                (try simp only [Act.put, List.setIfInBounds_toArray, List.set_cons_zero, List.set_cons_succ])
                refine take_first 9 (v := ?_) rfl (by kernel_rfl) (by kernel_rfl) (by kernel_rfl) (fun _ _ _ h => h) (Or.inl ⟨by rfl, by intro wx hSw; (try dsimp only at hSw); obtain ⟨s1, s2, s3⟩ := hSw; go_simp; try with_reducible rfl⟩) (by assumption) ?_
                (try simp only [Act.put, List.setIfInBounds_toArray, List.set_cons_zero, List.set_cons_succ])
                refine take_first 10 (v := ?_) rfl (by kernel_rfl) (by kernel_rfl) (by kernel_rfl) (fun _ _ _ h => h) (Or.inl ⟨by rfl, by intro wx hSw; (try dsimp only at hSw); obtain ⟨s1, s2, s3⟩ := hSw; go_simp; try with_reducible rfl⟩) (by assumption) ?_
                (try simp only [Act.put, List.setIfInBounds_toArray, List.set_cons_zero, List.set_cons_succ])
                refine take_first 11 (v := ?_) rfl (by kernel_rfl) (by kernel_rfl) (by kernel_rfl) (fun _ _ _ h => h) (Or.inl ⟨by rfl, by intro wx hSw; (try dsimp only at hSw); obtain ⟨s1, s2, s3⟩ := hSw; go_simp; try with_reducible rfl⟩) (by assumption) ?_
                (try simp only [Act.put, List.setIfInBounds_toArray, List.set_cons_zero, List.set_cons_succ])
                refine take_first 12 (v := ?_) rfl (by kernel_rfl) (by kernel_rfl) (by kernel_rfl) (fun _ _ _ h => h) (Or.inl ⟨by rfl, by intro wx hSw; (try dsimp only at hSw); obtain ⟨s1, s2, s3⟩ := hSw; go_simp; try with_reducible rfl⟩) (by assumption) ?_
                (try simp only [Act.put, List.setIfInBounds_toArray, List.set_cons_zero, List.set_cons_succ])
                refine take_first 13 (v := ?_) rfl (by kernel_rfl) (by kernel_rfl) (by kernel_rfl) (fun _ _ _ h => h) (Or.inl ⟨by rfl, by intro wx hSw; (try dsimp only at hSw); obtain ⟨s1, s2, s3⟩ := hSw; go_simp; try with_reducible rfl⟩) (by assumption) ?_
                (try simp only [Act.put, List.setIfInBounds_toArray, List.set_cons_zero, List.set_cons_succ])
                refine take_first 14 (v := ?_) rfl (by kernel_rfl) (by kernel_rfl) (by kernel_rfl) (fun _ _ _ h => h) (Or.inl ⟨by rfl, by intro wx hSw; (try dsimp only at hSw); obtain ⟨s1, s2, s3⟩ := hSw; go_simp; try with_reducible rfl⟩) (by assumption) ?_
                (try simp only [Act.put, List.setIfInBounds_toArray, List.set_cons_zero, List.set_cons_succ])
                refine take_first 15 (v := ?_) rfl (by kernel_rfl) (by kernel_rfl) (by kernel_rfl) (fun _ _ _ h => h) (Or.inl ⟨by rfl, by intro wx hSw; (try dsimp only at hSw); obtain ⟨s1, s2, s3⟩ := hSw; go_simp; try with_reducible rfl⟩) (by assumption) ?_
                (try simp only [Act.put, List.setIfInBounds_toArray, List.set_cons_zero, List.set_cons_succ])
                refine take_first 16 (v := ?_) rfl (by kernel_rfl) (by kernel_rfl) (by kernel_rfl) (fun _ _ _ h => h) (Or.inl ⟨by rfl, by intro wx hSw; (try dsimp only at hSw); obtain ⟨s1, s2, s3⟩ := hSw; go_simp; try with_reducible rfl⟩) (by assumption) ?_
                (try simp only [Act.put, List.setIfInBounds_toArray, List.set_cons_zero, List.set_cons_succ])
                refine take_first 17 (v := ?_) rfl (by kernel_rfl) (by kernel_rfl) (by kernel_rfl) (fun _ _ _ h => h) (Or.inl ⟨by rfl, by intro wx hSw; (try dsimp only at hSw); obtain ⟨s1, s2, s3⟩ := hSw; go_simp; try with_reducible rfl⟩) (by assumption) ?_
                (try simp only [Act.put, List.setIfInBounds_toArray, List.set_cons_zero, List.set_cons_succ])
                refine take_first 18 (v := ?_) rfl (by kernel_rfl) (by kernel_rfl) (by kernel_rfl) (fun _ _ _ h => h) (Or.inl ⟨by rfl, by intro wx hSw; (try dsimp only at hSw); obtain ⟨s1, s2, s3⟩ := hSw; go_simp; try with_reducible rfl⟩) (by assumption) ?_
                (try simp only [Act.put, List.setIfInBounds_toArray, List.set_cons_zero, List.set_cons_succ])
                refine take_first 19 (v := ?_) rfl (by kernel_rfl) (by kernel_rfl) (by kernel_rfl) (fun _ _ _ h => h) (Or.inl ⟨by rfl, by intro wx hSw; (try dsimp only at hSw); obtain ⟨s1, s2, s3⟩ := hSw; go_simp; try with_reducible rfl⟩) (by assumption) ?_
                (try simp only [Act.put, List.setIfInBounds_toArray, List.set_cons_zero, List.set_cons_succ])
                refine take_first 20 (v := ?_) rfl (by kernel_rfl) (by kernel_rfl) (by kernel_rfl) (fun _ _ _ h => h) (Or.inl ⟨by rfl, by intro wx hSw; (try dsimp only at hSw); obtain ⟨s1, s2, s3⟩ := hSw; go_simp; try with_reducible rfl⟩) (by assumption) ?_
                (try simp only [Act.put, List.setIfInBounds_toArray, List.set_cons_zero, List.set_cons_succ])
                refine take_first 21 (v := ?_) rfl (by kernel_rfl) (by kernel_rfl) (by kernel_rfl) (fun _ _ _ h => h) (Or.inl ⟨by rfl, by intro wx hSw; (try dsimp only at hSw); obtain ⟨s1, s2, s3⟩ := hSw; go_simp; try with_reducible rfl⟩) (by assumption) ?_
                (try simp only [Act.put, List.setIfInBounds_toArray, List.set_cons_zero, List.set_cons_succ])
                refine take_first 22 (v := ?_) rfl (by kernel_rfl) (by kernel_rfl) (by kernel_rfl) (fun _ _ _ h => h) (Or.inl ⟨by rfl, by intro wx hSw; (try dsimp only at hSw); obtain ⟨s1, s2, s3⟩ := hSw; go_simp; try with_reducible rfl⟩) (by assumption) ?_
                (try simp only [Act.put, List.setIfInBounds_toArray, List.set_cons_zero, List.set_cons_succ])
                refine take_first 23 (v := ?_) rfl (by kernel_rfl) (by kernel_rfl) (by kernel_rfl) (fun _ _ _ h => h) (Or.inl ⟨by rfl, by intro wx hSw; (try dsimp only at hSw); obtain ⟨s1, s2, s3⟩ := hSw; go_simp; try with_reducible rfl⟩) (by assumption) ?_
                (try simp only [Act.put, List.setIfInBounds_toArray, List.set_cons_zero, List.set_cons_succ])
                refine take_first 24 (v := ?_) rfl (by kernel_rfl) (by kernel_rfl) (by kernel_rfl) (fun _ _ _ h => h) (Or.inl ⟨by rfl, by intro wx hSw; (try dsimp only at hSw); obtain ⟨s1, s2, s3⟩ := hSw; go_simp; try with_reducible rfl⟩) (by assumption) ?_
                (try simp only [Act.put, List.setIfInBounds_toArray, List.set_cons_zero, List.set_cons_succ])
                refine take_first 25 (v := ?_) rfl (by kernel_rfl) (by kernel_rfl) (by kernel_rfl) (fun _ _ _ h => h) (Or.inl ⟨by rfl, by intro wx hSw; (try dsimp only at hSw); obtain ⟨s1, s2, s3⟩ := hSw; go_simp; try with_reducible rfl⟩) (by assumption) ?_
                (try simp only [Act.put, List.setIfInBounds_toArray, List.set_cons_zero, List.set_cons_succ])
                refine take_first 26 (v := ?_) rfl (by kernel_rfl) (by kernel_rfl) (by kernel_rfl) (fun _ _ _ h => h) (Or.inl ⟨by rfl, by intro wx hSw; (try dsimp only at hSw); obtain ⟨s1, s2, s3⟩ := hSw; go_simp; try with_reducible rfl⟩) (by assumption) ?_
                (try simp only [Act.put, List.setIfInBounds_toArray, List.set_cons_zero, List.set_cons_succ])
                refine take_first 27 (v := ?_) rfl (by kernel_rfl) (by kernel_rfl) (by kernel_rfl) (fun _ _ _ h => h) (Or.inl ⟨by rfl, by intro wx hSw; (try dsimp only at hSw); obtain ⟨s1, s2, s3⟩ := hSw; go_simp; try with_reducible rfl⟩) (by assumption) ?_
                (try simp only [Act.put, List.setIfInBounds_toArray, List.set_cons_zero, List.set_cons_succ])
                refine take_first 28 (v := ?_) rfl (by kernel_rfl) (by kernel_rfl) (by kernel_rfl) (fun _ _ _ h => h) (Or.inl ⟨by rfl, by intro wx hSw; (try dsimp only at hSw); obtain ⟨s1, s2, s3⟩ := hSw; go_simp; try with_reducible rfl⟩) (by assumption) ?_
                (try simp only [Act.put, List.setIfInBounds_toArray, List.set_cons_zero, List.set_cons_succ])
                refine take_first 29 (v := ?_) rfl (by kernel_rfl) (by kernel_rfl) (by kernel_rfl) (fun _ _ _ h => h) (Or.inl ⟨by rfl, by intro wx hSw; (try dsimp only at hSw); obtain ⟨s1, s2, s3⟩ := hSw; go_simp; try with_reducible rfl⟩) (by assumption) ?_
                (try simp only [Act.put, List.setIfInBounds_toArray, List.set_cons_zero, List.set_cons_succ])
                refine take_first 30 (v := ?_) rfl (by kernel_rfl) (by kernel_rfl) (by kernel_rfl) (fun _ _ _ h => h) (Or.inl ⟨by rfl, by intro wx hSw; (try dsimp only at hSw); obtain ⟨s1, s2, s3⟩ := hSw; go_simp; try with_reducible rfl⟩) (by assumption) ?_
                (try simp only [Act.put, List.setIfInBounds_toArray, List.set_cons_zero, List.set_cons_succ])
                refine take_first 31 (v := ?_) rfl (by kernel_rfl) (by kernel_rfl) (by kernel_rfl) (fun _ _ _ h => h) (Or.inl ⟨by rfl, by intro wx hSw; (try dsimp only at hSw); obtain ⟨s1, s2, s3⟩ := hSw; go_simp; try with_reducible rfl⟩) (by assumption) ?_
                (try simp only [Act.put, List.setIfInBounds_toArray, List.set_cons_zero, List.set_cons_succ])
                refine take_first 32 (v := ?_) rfl (by kernel_rfl) (by kernel_rfl) (by kernel_rfl) (fun _ _ _ h => h) (Or.inl ⟨by rfl, by intro wx hSw; (try dsimp only at hSw); obtain ⟨s1, s2, s3⟩ := hSw; go_simp; try with_reducible rfl⟩) (by assumption) ?_
                (try simp only [Act.put, List.setIfInBounds_toArray, List.set_cons_zero, List.set_cons_succ])
                refine wpAnyH_done (by kernel_rfl) ?_ _
                refine NoPanic.normal ?_
                clear hHeld hS
                go_wp2_with fail
                refine hcm.mono ?_
                rintro e w8 ⟨rfl, u8⟩
                have b8 : Below w7.heap.size w7 w8 := ⟨u8.bl.os, u8.bl.tape, u8.bl.output, u8.bl.size, u8.bl.block⟩
                have hS8 : ((w8.drew.cell? ⟨g2, 1, none⟩ = some (.int .u8 4) ∧ w8.drew.cell? ⟨g2, 3, none⟩ = some (.int .u64 (bN : Nat)) ∧ w8.drew.cell? ⟨g2, 4, none⟩ = some (.int .i64 (b : Nat)) ∧ w8.drew.cell? ⟨g2, 8, none⟩ = some (.int .u64 (aN : Nat)) ∧ w8.drew.cell? ⟨g2, 9, none⟩ = some (.int .i64 (a : Nat))) ∧ w8.drew.cell? ⟨A, 0, none⟩ = some (.int .u64 (aN : Nat)) ∧ w8.drew.cell? ⟨A, 1, none⟩ = some (.int .i64 (a : Nat)) ∧ w8.drew.cell? ⟨A + 1, 0, none⟩ = some (.int .u64 (bN : Nat)) ∧ w8.drew.cell? ⟨A + 1, 1, none⟩ = some (.int .i64 (b : Nat))) := HKS.out w7 w8 hS7 b8
                have hpr := HPR.out w8.drew b8.drew
                clear hcm a0 a1 c0 c1 hS7
                go_wp2_with fail
                refine wp_region_noPanic ?_
                refine wp_region_held_drew (S := fun wx => ((wx.cell? ⟨g2, 1, none⟩ = some (.int .u8 4) ∧ wx.cell? ⟨g2, 3, none⟩ = some (.int .u64 (bN : Nat)) ∧ wx.cell? ⟨g2, 4, none⟩ = some (.int .i64 (b : Nat)) ∧ wx.cell? ⟨g2, 8, none⟩ = some (.int .u64 (aN : Nat)) ∧ wx.cell? ⟨g2, 9, none⟩ = some (.int .i64 (a : Nat))) ∧ wx.cell? ⟨A, 0, none⟩ = some (.int .u64 (aN : Nat)) ∧ wx.cell? ⟨A, 1, none⟩ = some (.int .i64 (a : Nat)) ∧ wx.cell? ⟨A + 1, 0, none⟩ = some (.int .u64 (bN : Nat)) ∧ wx.cell? ⟨A + 1, 1, none⟩ = some (.int .i64 (b : Nat)))) (by kernel_rfl) hS8 (fun hHeld => ?_)
                have vq1 := fun W => vid_equal aN (a : Int) aN (a : Int) W
                have vq2 := fun W => vid_equal bN (b : Int) bN (b : Int) W
                simp only [and_self, decide_true] at vq1 vq2
                refine take_first 0 (v := ?_) rfl (by kernel_rfl) (by kernel_rfl) (by kernel_rfl) (fun _ _ _ h => h) (Or.inl ⟨by rfl, by intro wx hSw; (try dsimp only at hSw); obtain ⟨⟨s1, s2, s3, s4, s5⟩, s6, s7, s8, s9⟩ := hSw; go_simp; try with_reducible rfl⟩) (by assumption) ?_
                (try simp only [Act.put, List.setIfInBounds_toArray, List.set_cons_zero, List.set_cons_succ])
                refine take_first 1 (v := ?_) rfl (by kernel_rfl) (by kernel_rfl) (by kernel_rfl) (fun _ _ _ h => h) (Or.inl ⟨by rfl, by intro wx hSw; (try dsimp only at hSw); obtain ⟨⟨s1, s2, s3, s4, s5⟩, s6, s7, s8, s9⟩ := hSw; go_simp; try with_reducible rfl⟩) (by assumption) ?_
                (try simp only [Act.put, List.setIfInBounds_toArray, List.set_cons_zero, List.set_cons_succ])
                refine take_first 2 (v := ?_) rfl (by kernel_rfl) (by kernel_rfl) (by kernel_rfl) (fun _ _ _ h => h) (Or.inl ⟨by rfl, by intro wx hSw; (try dsimp only at hSw); obtain ⟨⟨s1, s2, s3, s4, s5⟩, s6, s7, s8, s9⟩ := hSw; go_simp; try with_reducible rfl⟩) (by assumption) ?_
                (try simp only [Act.put, List.setIfInBounds_toArray, List.set_cons_zero, List.set_cons_succ])
                refine take_first 3 (v := ?_) rfl (by kernel_rfl) (by kernel_rfl) (by kernel_rfl) (fun _ _ _ h => h) (Or.inl ⟨by rfl, by intro wx hSw; (try dsimp only at hSw); obtain ⟨⟨s1, s2, s3, s4, s5⟩, s6, s7, s8, s9⟩ := hSw; go_simp; try with_reducible rfl⟩) (by assumption) ?_
                (try simp only [Act.put, List.setIfInBounds_toArray, List.set_cons_zero, List.set_cons_succ])
                refine take_first 4 (v := ?_) rfl (by kernel_rfl) (by kernel_rfl) (by kernel_rfl) (fun _ _ _ h => h) (Or.inl ⟨by rfl, by intro wx hSw; (try dsimp only at hSw); obtain ⟨⟨s1, s2, s3, s4, s5⟩, s6, s7, s8, s9⟩ := hSw; go_simp; try with_reducible rfl⟩) (by assumption) ?_
                (try simp only [Act.put, List.setIfInBounds_toArray, List.set_cons_zero, List.set_cons_succ])
                refine take_first 5 (v := ?_) rfl (by kernel_rfl) (by kernel_rfl) (by kernel_rfl) (fun _ _ _ h => h) (Or.inl ⟨by rfl, by intro wx hSw; (try dsimp only at hSw); obtain ⟨⟨s1, s2, s3, s4, s5⟩, s6, s7, s8, s9⟩ := hSw; go_simp; try with_reducible rfl⟩) (by assumption) ?_
                (try simp only [Act.put, List.setIfInBounds_toArray, List.set_cons_zero, List.set_cons_succ])
                refine take_first 6 (v := ?_) rfl (by kernel_rfl) (by kernel_rfl) (by kernel_rfl) (fun _ _ _ h => h) (Or.inl ⟨by rfl, by intro wx hSw; (try dsimp only at hSw); obtain ⟨⟨s1, s2, s3, s4, s5⟩, s6, s7, s8, s9⟩ := hSw; go_simp; try with_reducible rfl⟩) (by assumption) ?_
                (try simp only [Act.put, List.setIfInBounds_toArray, List.set_cons_zero, List.set_cons_succ])
                refine take_first 7 (v := ?_) rfl (by kernel_rfl) (by kernel_rfl) (by kernel_rfl) (fun _ _ _ h => h) (Or.inl ⟨by rfl, by intro wx hSw; (try dsimp only at hSw); obtain ⟨⟨s1, s2, s3, s4, s5⟩, s6, s7, s8, s9⟩ := hSw; go_simp; try with_reducible rfl⟩) (by assumption) ?_
                (try simp only [Act.put, List.setIfInBounds_toArray, List.set_cons_zero, List.set_cons_succ])
                refine take_first 8 (v := ?_) rfl (by kernel_rfl) (by kernel_rfl) (by kernel_rfl) (fun _ _ _ h => h) (Or.inl ⟨by rfl, by intro wx hSw; (try dsimp only at hSw); obtain ⟨⟨s1, s2, s3, s4, s5⟩, s6, s7, s8, s9⟩ := hSw; go_simp; try with_reducible rfl⟩) (by assumption) ?_
                (try simp only [Act.put, List.setIfInBounds_toArray, List.set_cons_zero, List.set_cons_succ])
                refine take_first 9 (v := ?_) rfl (by kernel_rfl) (by kernel_rfl) (by kernel_rfl) (fun _ _ _ h => h) (Or.inl ⟨by rfl, by intro wx hSw; (try dsimp only at hSw); obtain ⟨⟨s1, s2, s3, s4, s5⟩, s6, s7, s8, s9⟩ := hSw; go_simp; try with_reducible rfl⟩) (by assumption) ?_
                (try simp only [Act.put, List.setIfInBounds_toArray, List.set_cons_zero, List.set_cons_succ])
                refine take_first 10 (v := ?_) rfl (by kernel_rfl) (by kernel_rfl) (by kernel_rfl) (fun _ _ _ h => h) (Or.inl ⟨by rfl, by intro wx hSw; (try dsimp only at hSw); obtain ⟨⟨s1, s2, s3, s4, s5⟩, s6, s7, s8, s9⟩ := hSw; go_simp; try with_reducible rfl⟩) (by assumption) ?_
                (try simp only [Act.put, List.setIfInBounds_toArray, List.set_cons_zero, List.set_cons_succ])
                refine take_first 11 (v := ?_) rfl (by kernel_rfl) (by kernel_rfl) (by kernel_rfl) (fun _ _ _ h => h) (Or.inl ⟨by rfl, by intro wx hSw; (try dsimp only at hSw); obtain ⟨⟨s1, s2, s3, s4, s5⟩, s6, s7, s8, s9⟩ := hSw; go_simp; try with_reducible rfl⟩) (by assumption) ?_
                (try simp only [Act.put, List.setIfInBounds_toArray, List.set_cons_zero, List.set_cons_succ])
                refine take_first 12 (v := ?_) rfl (by kernel_rfl) (by kernel_rfl) (by kernel_rfl) (fun _ _ _ h => h) (Or.inl ⟨by rfl, by intro wx hSw; (try dsimp only at hSw); obtain ⟨⟨s1, s2, s3, s4, s5⟩, s6, s7, s8, s9⟩ := hSw; go_simp; try with_reducible rfl⟩) (by assumption) ?_
                (try simp only [Act.put, List.setIfInBounds_toArray, List.set_cons_zero, List.set_cons_succ])
                refine take_first 13 (v := ?_) rfl (by kernel_rfl) (by kernel_rfl) (by kernel_rfl) (fun _ _ _ h => h) (Or.inl ⟨by rfl, by intro wx hSw; (try dsimp only at hSw); obtain ⟨⟨s1, s2, s3, s4, s5⟩, s6, s7, s8, s9⟩ := hSw; go_simp; try with_reducible rfl⟩) (by assumption) ?_
                (try simp only [Act.put, List.setIfInBounds_toArray, List.set_cons_zero, List.set_cons_succ])
                refine take_first 14 (v := ?_) rfl (by kernel_rfl) (by kernel_rfl) (by kernel_rfl) (fun _ _ _ h => h) (Or.inl ⟨by rfl, by intro wx hSw; (try dsimp only at hSw); obtain ⟨⟨s1, s2, s3, s4, s5⟩, s6, s7, s8, s9⟩ := hSw; go_simp; try with_reducible rfl⟩) (by assumption) ?_
                (try simp only [Act.put, List.setIfInBounds_toArray, List.set_cons_zero, List.set_cons_succ])
                refine take_first 15 (v := ?_) rfl (by kernel_rfl) (by kernel_rfl) (by kernel_rfl) (fun _ _ _ h => h) (Or.inl ⟨by rfl, by intro wx hSw; (try dsimp only at hSw); obtain ⟨⟨s1, s2, s3, s4, s5⟩, s6, s7, s8, s9⟩ := hSw; go_simp; try with_reducible rfl⟩) (by assumption) ?_
                (try simp only [Act.put, List.setIfInBounds_toArray, List.set_cons_zero, List.set_cons_succ])
                refine take_first 16 (v := ?_) rfl (by kernel_rfl) (by kernel_rfl) (by kernel_rfl) (fun _ _ _ h => h) (Or.inl ⟨by rfl, by intro wx hSw; (try dsimp only at hSw); obtain ⟨⟨s1, s2, s3, s4, s5⟩, s6, s7, s8, s9⟩ := hSw; go_simp; try with_reducible rfl⟩) (by assumption) ?_
                (try simp only [Act.put, List.setIfInBounds_toArray, List.set_cons_zero, List.set_cons_succ])
                refine take_first 17 (v := ?_) rfl (by kernel_rfl) (by kernel_rfl) (by kernel_rfl) (fun _ _ _ h => h) (Or.inl ⟨by rfl, by intro wx hSw; (try dsimp only at hSw); obtain ⟨⟨s1, s2, s3, s4, s5⟩, s6, s7, s8, s9⟩ := hSw; go_simp; try with_reducible rfl⟩) (by assumption) ?_
                (try simp only [Act.put, List.setIfInBounds_toArray, List.set_cons_zero, List.set_cons_succ])
                refine take_first 18 (v := ?_) rfl (by kernel_rfl) (by kernel_rfl) (by kernel_rfl) (fun _ _ _ h => h) (Or.inl ⟨by rfl, by intro wx hSw; (try dsimp only at hSw); obtain ⟨⟨s1, s2, s3, s4, s5⟩, s6, s7, s8, s9⟩ := hSw; go_simp; try with_reducible rfl⟩) (by assumption) ?_
                (try simp only [Act.put, List.setIfInBounds_toArray, List.set_cons_zero, List.set_cons_succ])
                refine take_first 19 (v := ?_) rfl (by kernel_rfl) (by kernel_rfl) (by kernel_rfl) (fun _ _ _ h => h) (Or.inl ⟨by rfl, by intro wx hSw; (try dsimp only at hSw); obtain ⟨⟨s1, s2, s3, s4, s5⟩, s6, s7, s8, s9⟩ := hSw; go_simp; try with_reducible rfl⟩) (by assumption) ?_
                (try simp only [Act.put, List.setIfInBounds_toArray, List.set_cons_zero, List.set_cons_succ])
                refine take_first 20 (v := ?_) rfl (by kernel_rfl) (by kernel_rfl) (by kernel_rfl) (fun _ _ _ h => h) (Or.inl ⟨by rfl, by intro wx hSw; (try dsimp only at hSw); obtain ⟨⟨s1, s2, s3, s4, s5⟩, s6, s7, s8, s9⟩ := hSw; go_simp; try with_reducible rfl⟩) (by assumption) ?_
                (try simp only [Act.put, List.setIfInBounds_toArray, List.set_cons_zero, List.set_cons_succ])
                refine take_first 21 (v := ?_) rfl (by kernel_rfl) (by kernel_rfl) (by kernel_rfl) (fun _ _ _ h => h) (Or.inl ⟨by rfl, by intro wx hSw; (try dsimp only at hSw); obtain ⟨⟨s1, s2, s3, s4, s5⟩, s6, s7, s8, s9⟩ := hSw; go_simp; try with_reducible rfl⟩) (by assumption) ?_
                (try simp only [Act.put, List.setIfInBounds_toArray, List.set_cons_zero, List.set_cons_succ])
                refine take_first 22 (v := ?_) rfl (by kernel_rfl) (by kernel_rfl) (by kernel_rfl) (fun _ _ _ h => h) (Or.inl ⟨by rfl, by intro wx hSw; (try dsimp only at hSw); obtain ⟨⟨s1, s2, s3, s4, s5⟩, s6, s7, s8, s9⟩ := hSw; go_simp; try with_reducible rfl⟩) (by assumption) ?_
                (try simp only [Act.put, List.setIfInBounds_toArray, List.set_cons_zero, List.set_cons_succ])
                refine take_first 23 (v := ?_) rfl (by kernel_rfl) (by kernel_rfl) (by kernel_rfl) (fun _ _ _ h => h) (Or.inl ⟨by rfl, by intro wx hSw; (try dsimp only at hSw); obtain ⟨⟨s1, s2, s3, s4, s5⟩, s6, s7, s8, s9⟩ := hSw; go_simp; try with_reducible rfl⟩) (by assumption) ?_
                (try simp only [Act.put, List.setIfInBounds_toArray, List.set_cons_zero, List.set_cons_succ])
                refine take_first 24 (v := ?_) rfl (by kernel_rfl) (by kernel_rfl) (by kernel_rfl) (fun _ _ _ h => h) (Or.inl ⟨by rfl, by intro wx hSw; (try dsimp only at hSw); obtain ⟨⟨s1, s2, s3, s4, s5⟩, s6, s7, s8, s9⟩ := hSw; go_simp; try with_reducible rfl⟩) (by assumption) ?_
                (try simp only [Act.put, List.setIfInBounds_toArray, List.set_cons_zero, List.set_cons_succ])
                refine take_first 25 (v := ?_) rfl (by kernel_rfl) (by kernel_rfl) (by kernel_rfl) (fun _ _ _ h => h) (Or.inl ⟨by rfl, by intro wx hSw; (try dsimp only at hSw); obtain ⟨⟨s1, s2, s3, s4, s5⟩, s6, s7, s8, s9⟩ := hSw; go_simp; try with_reducible rfl⟩) (by assumption) ?_
                (try simp only [Act.put, List.setIfInBounds_toArray, List.set_cons_zero, List.set_cons_succ])
                refine take_first 26 (v := ?_) rfl (by kernel_rfl) (by kernel_rfl) (by kernel_rfl) (fun _ _ _ h => h) (Or.inl ⟨by rfl, by intro wx hSw; (try dsimp only at hSw); obtain ⟨⟨s1, s2, s3, s4, s5⟩, s6, s7, s8, s9⟩ := hSw; go_simp; try with_reducible rfl⟩) (by assumption) ?_
                (try simp only [Act.put, List.setIfInBounds_toArray, List.set_cons_zero, List.set_cons_succ])
                refine take_first 27 (v := ?_) rfl (by kernel_rfl) (by kernel_rfl) (by kernel_rfl) (fun _ _ _ h => h) (Or.inl ⟨by rfl, by intro wx hSw; (try dsimp only at hSw); obtain ⟨⟨s1, s2, s3, s4, s5⟩, s6, s7, s8, s9⟩ := hSw; go_simp; try with_reducible rfl⟩) (by assumption) ?_
                (try simp only [Act.put, List.setIfInBounds_toArray, List.set_cons_zero, List.set_cons_succ])
                refine take_first 28 (v := ?_) rfl (by kernel_rfl) (by kernel_rfl) (by kernel_rfl) (fun _ _ _ h => h) (Or.inl ⟨by rfl, by intro wx hSw; (try dsimp only at hSw); obtain ⟨⟨s1, s2, s3, s4, s5⟩, s6, s7, s8, s9⟩ := hSw; go_simp; try with_reducible rfl⟩) (by assumption) ?_
                (try simp only [Act.put, List.setIfInBounds_toArray, List.set_cons_zero, List.set_cons_succ])
                refine take_first 29 (v := ?_) rfl (by kernel_rfl) (by kernel_rfl) (by kernel_rfl) (fun _ _ _ h => h) (Or.inl ⟨by rfl, by intro wx hSw; (try dsimp only at hSw); obtain ⟨⟨s1, s2, s3, s4, s5⟩, s6, s7, s8, s9⟩ := hSw; go_simp; try with_reducible rfl⟩) (by assumption) ?_
                (try simp only [Act.put, List.setIfInBounds_toArray, List.set_cons_zero, List.set_cons_succ])
                refine take_first 31 (v := ?_) rfl (by kernel_rfl) (by kernel_rfl) (by kernel_rfl) (fun _ _ _ h => h) (Or.inl ⟨by rfl, by intro wx hSw; (try dsimp only at hSw); obtain ⟨⟨s1, s2, s3, s4, s5⟩, s6, s7, s8, s9⟩ := hSw; go_simp; try with_reducible rfl⟩) (by assumption) ?_
                (try simp only [Act.put, List.setIfInBounds_toArray, List.set_cons_zero, List.set_cons_succ])
                refine comes_up 30 rfl (by kernel_rfl) (fun K hK => ?_)
                go_simp
                refine hpr.mono ?_
                rintro e w9 ⟨rfl, u9⟩
                have hS9 : ((w9.cell? ⟨g2, 1, none⟩ = some (.int .u8 4) ∧ w9.cell? ⟨g2, 3, none⟩ = some (.int .u64 (bN : Nat)) ∧ w9.cell? ⟨g2, 4, none⟩ = some (.int .i64 (b : Nat)) ∧ w9.cell? ⟨g2, 8, none⟩ = some (.int .u64 (aN : Nat)) ∧ w9.cell? ⟨g2, 9, none⟩ = some (.int .i64 (a : Nat))) ∧ w9.cell? ⟨A, 0, none⟩ = some (.int .u64 (aN : Nat)) ∧ w9.cell? ⟨A, 1, none⟩ = some (.int .i64 (a : Nat)) ∧ w9.cell? ⟨A + 1, 0, none⟩ = some (.int .u64 (bN : Nat)) ∧ w9.cell? ⟨A + 1, 1, none⟩ = some (.int .i64 (b : Nat))) := HKS.out _ _ hS8 u9.bl
                have b9 : Below w7.heap.size w7 w9 := bl_step b8.drew u9.bl
                go_wp2_with fail
                refine hK.out _ _ hS9 (fun hHeld => ?_)
                clear hK K
                (try simp only [Act.put, List.setIfInBounds_toArray, List.set_cons_zero, List.set_cons_succ])
                refine take_first 32 (v := ?_) rfl (by kernel_rfl) (by kernel_rfl) (by kernel_rfl) (fun _ _ _ h => h) (Or.inl ⟨by rfl, by intro wx hSw; (try dsimp only at hSw); obtain ⟨⟨s1, s2, s3, s4, s5⟩, s6, s7, s8, s9⟩ := hSw; go_simp; try with_reducible rfl⟩) (by assumption) ?_
                (try simp only [Act.put, List.setIfInBounds_toArray, List.set_cons_zero, List.set_cons_succ])
                refine take_first 33 (v := ?_) rfl (by kernel_rfl) (by kernel_rfl) (by kernel_rfl) (fun _ _ _ h => h) (Or.inl ⟨by rfl, by intro wx hSw; (try dsimp only at hSw); obtain ⟨⟨s1, s2, s3, s4, s5⟩, s6, s7, s8, s9⟩ := hSw; go_simp; try with_reducible rfl⟩) (by assumption) ?_
                (try simp only [Act.put, List.setIfInBounds_toArray, List.set_cons_zero, List.set_cons_succ])
                refine take_first 34 (v := ?_) rfl (by kernel_rfl) (by kernel_rfl) (by kernel_rfl) (fun _ _ _ h => h) (Or.inl ⟨by rfl, by intro wx hSw; (try dsimp only at hSw); obtain ⟨⟨s1, s2, s3, s4, s5⟩, s6, s7, s8, s9⟩ := hSw; go_simp; try with_reducible rfl⟩) (by assumption) ?_
                (try simp only [Act.put, List.setIfInBounds_toArray, List.set_cons_zero, List.set_cons_succ])
                refine wpAnyH_done (by kernel_rfl) ?_ _
                refine NoPanic.normal ?_
                clear hHeld hS8 hS9 hpr
                go_wp2
                go_ret
                exact ⟨rfl, HFN.out _ b9⟩
              · skip
                go_enter Tryd.func9, Tryd.ntmps9
                go_wp2_with fail
                rw [HW.out]
                refine (hAw w1 (Below.refl _ _)).mono ?_
                rintro e w2 ⟨rfl, b2⟩
                obtain ⟨a0, a1, c0, c1⟩ := hAB w2 b2
                go_wp2_with fail
                refine (hFa w2).mono ?_
                rintro e w3 ⟨rfl, u3⟩
                have b3 := bl_step b2 u3
                clear a0 a1 c0 c1
                obtain ⟨a0, a1, c0, c1⟩ := hAB w3 b3
                go_wp2_with fail
                refine (hFb w3).mono ?_
                rintro e w4 ⟨rfl, u4⟩
                have b4 := bl_step b3 u4
                clear a0 a1 c0 c1
                obtain ⟨a0, a1, c0, c1⟩ := hAB w4 b4
                have hnew := new_any w4 16 0 (by omega) (by omega) (by omega)
                clear hFa hFb
                go_wp2_with fail
                refine hnew.mono ?_
                rintro e w5 ⟨q, rfl, hN⟩
                clear hnew
                have h5 := hN.mb (fun _ => False) (fun b hb => hb.elim) (hTb w4 b4) (by omega) (by omega)
                have b5 : Below w1.heap.size w1 w5 ∧ w1.heap.size ≤ w5.heap.size ∧ ∀ b, b = q → w1.heap.size ≤ b := ⟨bl_step b4 hN.b, Nat.le_trans b4.size hN.b.size, fun b hb => by have := hN.hq; have := b4.size; omega⟩
                clear a0 a1 c0 c1 hN
                obtain ⟨a0, a1, c0, c1⟩ := hAB w5 b5.1
                have hS : w5.drew.cell? ⟨A, 1, none⟩ = some (.int .i64 (a : Nat)) ∧ w5.drew.cell? ⟨A + 1, 1, none⟩ = some (.int .i64 (b : Nat)) := ⟨a1, c1⟩
                have hw0 := fun W => refWith_any W set hset 0
                have hw1 := fun W => refWith_any W (withN set 0) (withN_lt _ hset _) (a : Int)
                have hw2 := fun W => refWith_any W (withN (withN set 0) (a : Int)) (withN_lt _ (withN_lt _ hset _) _) (b : Int)
                have HS : Hid (withN (withN (withN set 0) (a : Int)) (b : Int) = refS set a b) := rfl
                obtain ⟨M1, G1, eM1, gk1, m1n, m1s, m1p, m1c⟩ := ref_first (set := set) ha0 ha1 ha16 hb16 zd
                have hin := in_any (h5.still ((Below.refl _ w5).drew)) (proF (aN, (a : Int)) (refS set a b)) Fa.none (Ss.nil _ _) (by simp [proF, zeroF]) (refS_lt _ _ _ hset) (0, 0, 0, none, 0, 0) zd (Si.nil _ _ _ _ _ _)
                rw [eM1] at hin
                unfold fval fcells sta proF zeroF Fa.none at hin
                have HB5 : Hid (Below w1.heap.size w1 w5.drew ∧ w1.heap.size ≤ w5.drew.heap.size ∧ ∀ b, b = q → w1.heap.size ≤ b) := ⟨b5.1.drew, b5.2.1, b5.2.2⟩
                have hAB5 := hAB w5.drew b5.1.drew
                clear h5 b5 a0 a1 c0 c1 eM1
                go_wp2_with fail
                refine wp_region_noPanic ?_
                refine wp_region_held_drew (S := fun wx => wx.cell? ⟨A, 1, none⟩ = some (.int .i64 (a : Nat)) ∧ wx.cell? ⟨A + 1, 1, none⟩ = some (.int .i64 (b : Nat))) (by kernel_rfl) hS (fun hHeld => ?_)
                refine take_first 0 (v := ?_) rfl (by kernel_rfl) (by kernel_rfl) (by kernel_rfl) (fun _ _ _ h => h) (Or.inl ⟨by rfl, by intro wx hSw; (try dsimp only at hSw); obtain ⟨s1, s2⟩ := hSw; go_simp; try with_reducible rfl⟩) (by assumption) ?_
                (try simp only [Act.put, List.setIfInBounds_toArray, List.set_cons_zero, List.set_cons_succ])
                refine take_first 2 (v := ?_) rfl (by kernel_rfl) (by kernel_rfl) (by kernel_rfl) (fun _ _ _ h => h) (Or.inl ⟨by rfl, by intro wx hSw; (try dsimp only at hSw); obtain ⟨s1, s2⟩ := hSw; go_simp; try with_reducible rfl⟩) (by assumption) ?_
                (try simp only [Act.put, List.setIfInBounds_toArray, List.set_cons_zero, List.set_cons_succ])
                refine take_first 3 (v := ?_) rfl (by kernel_rfl) (by kernel_rfl) (by kernel_rfl) (fun _ _ _ h => h) (Or.inl ⟨by rfl, by intro wx hSw; (try dsimp only at hSw); obtain ⟨s1, s2⟩ := hSw; go_simp; try with_reducible rfl⟩) (by assumption) ?_
                (try simp only [Act.put, List.setIfInBounds_toArray, List.set_cons_zero, List.set_cons_succ])
                refine take_first 5 (v := ?_) rfl (by kernel_rfl) (by kernel_rfl) (by kernel_rfl) (fun _ _ _ h => h) (Or.inl ⟨by rfl, by intro wx hSw; (try dsimp only at hSw); obtain ⟨s1, s2⟩ := hSw; go_simp; try with_reducible rfl⟩) (by assumption) ?_
                (try simp only [Act.put, List.setIfInBounds_toArray, List.set_cons_zero, List.set_cons_succ])
                refine take_first 6 (v := ?_) rfl (by kernel_rfl) (by kernel_rfl) (by kernel_rfl) (fun _ _ _ h => h) (Or.inl ⟨by rfl, by intro wx hSw; (try dsimp only at hSw); obtain ⟨s1, s2⟩ := hSw; go_simp; try with_reducible rfl⟩) (by assumption) ?_
                (try simp only [Act.put, List.setIfInBounds_toArray, List.set_cons_zero, List.set_cons_succ])
                refine comes_up 1 rfl (by kernel_rfl) (fun K hK => ?_)
                go_simp
                refine (hw0 _).mono ?_
                rintro e w0 ⟨rfl, rfl⟩
                go_wp2_with fail
                refine hK.out _ _ hS (fun hHeld => ?_)
                clear hK K
                (try simp only [Act.put, List.setIfInBounds_toArray, List.set_cons_zero, List.set_cons_succ])
                refine comes_up 4 rfl (by kernel_rfl) (fun K hK => ?_)
                go_simp
                refine (hw1 _).mono ?_
                rintro e w0 ⟨rfl, rfl⟩
                go_wp2_with fail
                refine hK.out _ _ hS (fun hHeld => ?_)
                clear hK K
                (try simp only [Act.put, List.setIfInBounds_toArray, List.set_cons_zero, List.set_cons_succ])
                refine comes_up 7 rfl (by kernel_rfl) (fun K hK => ?_)
                go_simp
                refine (hw2 _).mono ?_
                rintro e w0 ⟨rfl, rfl⟩
                go_wp2_with fail
                refine hK.out _ _ hS (fun hHeld => ?_)
                clear hK K
                (try simp only [Act.put, List.setIfInBounds_toArray, List.set_cons_zero, List.set_cons_succ])
                refine take_first 8 (v := ?_) rfl (by kernel_rfl) (by kernel_rfl) (by kernel_rfl) (fun _ _ _ h => h) (Or.inl ⟨by rfl, by intro wx hSw; (try dsimp only at hSw); obtain ⟨s1, s2⟩ := hSw; go_simp; try with_reducible rfl⟩) (by assumption) ?_
                (try simp only [Act.put, List.setIfInBounds_toArray, List.set_cons_zero, List.set_cons_succ])
                refine wpAnyH_done (by kernel_rfl) ?_ _
                refine NoPanic.normal ?_
                clear hHeld hS hw0 hw1 hw2
                rw [HS.out]
                obtain ⟨a0, a1, c0, c1⟩ := hAB5
                go_wp2_with fail
                refine hin.mono ?_
                rintro e w6 ⟨v6, iv6, rfl, F6, Z6, o6, sp6, h6, ho6, hi6⟩
                clear hin a0 a1 c0 c1
                obtain ⟨g1, cap1, f1, rfl, hz1, hc1⟩ := outs_read ho6
                have hiv6 : iv6 = .pointer none := hi6
                subst hiv6
                have HB6 : Hid (Below w1.heap.size w1 w6 ∧ w1.heap.size ≤ w6.heap.size ∧ ∀ b, F6 b → w1.heap.size ≤ b) := below_sp HB5.out.1 HB5.out.2.1 sp6 HB5.out.2.2
                obtain ⟨a0, a1, c0, c1⟩ := hAB w6 HB6.out.1
                have k1 : w6.cell? ⟨g1, 1, none⟩ = some (.int .u8 3) := by rw [hc1 1 (.int .u8 (G1.kind : Nat)) rfl, gk1]; rfl
                obtain ⟨T, G2, eM2, gk2, tp, topn⟩ := ref_high (set := set) (bN := bN) m1n m1s m1p m1c hb0 ha16 hb1 hb16 hl zd
                have hin := in_any h6 (proF (bN, (b : Int)) (refS set a b)) Fa.none (Ss.nil _ _) (by simp [proF, zeroF]) (refS_lt _ _ _ hset) (0, 0, 0, none, 0, 0) zd (Si.nil _ _ _ _ _ _)
                rw [eM2] at hin
                unfold fval fcells sta proF zeroF Fa.none at hin
                have HZ : Hid (Z6 g1 ∧ w6.cell? ⟨g1, 1, none⟩ = some (.int .u8 3) ∧ ∀ b, Z6 b → ¬ F6 b) := ⟨hz1, k1, h6.zf⟩
                clear h6 ho6 hi6 sp6 hc1 k1 HB5 eM2 hz1 gk1 m1n m1s m1p m1c
                go_wp2_with fail
                refine hin.mono ?_
                rintro e w7 ⟨v7, iv7, rfl, F7, Z7, o7, sp7, h7, ho7, hi7⟩
                clear hin a0 a1 c0 c1
                obtain ⟨g2, cap2, f2, rfl, hz2, hc2⟩ := outs_read ho7
                have hiv7 : iv7 = .pointer none := hi7
                subst hiv7
                have HB7 : Hid (Below w1.heap.size w1 w7 ∧ w1.heap.size ≤ w7.heap.size ∧ ∀ b, F7 b → w1.heap.size ≤ b) := below_sp HB6.out.1 HB6.out.2.1 sp7 HB6.out.2.2
                have k1 : w7.cell? ⟨g1, 1, none⟩ = some (.int .u8 3) := sp7.kp HZ.out.2.2 ⟨g1, 1, none⟩ _ HZ.out.1 HZ.out.2.1
                have k2 : w7.cell? ⟨g2, 0, none⟩ = some (.int .i64 (b : Nat)) := hc2 0 _ rfl
                have k3 : w7.cell? ⟨g2, 1, none⟩ = some (.int .u8 3) := by rw [hc2 1 (.int .u8 (G2.kind : Nat)) rfl, gk2]; rfl
                obtain ⟨a0, a1, c0, c1⟩ := hAB w7 HB7.out.1
                have hS : w7.drew.cell? ⟨g1, 1, none⟩ = some (.int .u8 3) ∧ w7.drew.cell? ⟨g2, 0, none⟩ = some (.int .i64 (b : Nat)) ∧ w7.drew.cell? ⟨A + 1, 1, none⟩ = some (.int .i64 (b : Nat)) := ⟨k1, k2, c1⟩
                have hcm := refCompare_any w7.drew bN (b : Int) aN (a : Int)
                have hS7 : (w7.cell? ⟨g2, 1, none⟩ = some (.int .u8 3) ∧ w7.cell? ⟨A + 1, 0, none⟩ = some (.int .u64 (bN : Nat)) ∧ w7.cell? ⟨A + 1, 1, none⟩ = some (.int .i64 (b : Nat))) := ⟨k3, c0, c1⟩
                have HKS : Hid (∀ W W', (W.cell? ⟨g2, 1, none⟩ = some (.int .u8 3) ∧ W.cell? ⟨A + 1, 0, none⟩ = some (.int .u64 (bN : Nat)) ∧ W.cell? ⟨A + 1, 1, none⟩ = some (.int .i64 (b : Nat))) → Below W.heap.size W W' → (W'.cell? ⟨g2, 1, none⟩ = some (.int .u8 3) ∧ W'.cell? ⟨A + 1, 0, none⟩ = some (.int .u64 (bN : Nat)) ∧ W'.cell? ⟨A + 1, 1, none⟩ = some (.int .i64 (b : Nat)))) := fun W W' hs u => by
                  obtain ⟨s1, s2, s3⟩ := hs
                  exact ⟨cell_up u s1, cell_up u s2, cell_up u s3⟩
                have HPR : Hid (∀ W, Below w7.heap.size w7 W → Calls Tryd.prog 21 #[.pointer (some ⟨q, 0, none⟩)] W fun e w' => e = .returned (vid bN (b : Int)) ∧ Up W w') := fun W u => by
                  have := prom_any (h7.still u)
                  rw [tp] at this
                  exact this
                have HOP : Hid (∀ W, Below w7.heap.size w7 W → Calls Tryd.prog 22 #[.pointer (some ⟨q, 0, none⟩)] W fun e w' => e = .returned (.bool false) ∧ Up W w') := fun W u => by
                  have := open_any (h7.still u)
                  rw [topn] at this
                  exact this
                have HFN : Hid (∀ W, Below w7.heap.size w7 W → Below w.heap.size w W) := fun W u => HF.out _ (bl_step HB7.out.1 u)
                have hcv : ¬ cmpV bN (b : Int) aN (a : Int) < 0 := cmpV_high (by omega)
                unfold vid at hcm HPR
                generalize cmpV bN (b : Int) aN (a : Int) = cv at *
                clear h7 ho7 hi7 sp7 hc2 HZ HB6 HB7 hz2 tp gk2 topn hAw hAB hTb HF k1 k2 k3 
                go_wp2_with fail
                refine wp_region_noPanic ?_
                refine wp_region_held_drew (S := fun wx => wx.cell? ⟨g1, 1, none⟩ = some (.int .u8 3) ∧ wx.cell? ⟨g2, 0, none⟩ = some (.int .i64 (b : Nat)) ∧ wx.cell? ⟨A + 1, 1, none⟩ = some (.int .i64 (b : Nat))) (by kernel_rfl) hS (fun hHeld => ?_)
                refine take_first 0 (v := ?_) rfl (by kernel_rfl) (by kernel_rfl) (by kernel_rfl) (fun _ _ _ h => h) (Or.inl ⟨by rfl, by intro wx hSw; (try dsimp only at hSw); obtain ⟨s1, s2, s3⟩ := hSw; go_simp; try with_reducible rfl⟩) (by assumption) ?_
                (try simp only [Act.put, List.setIfInBounds_toArray, List.set_cons_zero, List.set_cons_succ])
                refine take_first 1 (v := ?_) rfl (by kernel_rfl) (by kernel_rfl) (by kernel_rfl) (fun _ _ _ h => h) (Or.inl ⟨by rfl, by intro wx hSw; (try dsimp only at hSw); obtain ⟨s1, s2, s3⟩ := hSw; go_simp; try with_reducible rfl⟩) (by assumption) ?_
                (try simp only [Act.put, List.setIfInBounds_toArray, List.set_cons_zero, List.set_cons_succ])
                refine take_first 2 (v := ?_) rfl (by kernel_rfl) (by kernel_rfl) (by kernel_rfl) (fun _ _ _ h => h) (Or.inl ⟨by rfl, by intro wx hSw; (try dsimp only at hSw); obtain ⟨s1, s2, s3⟩ := hSw; go_simp; try with_reducible rfl⟩) (by assumption) ?_
                (try simp only [Act.put, List.setIfInBounds_toArray, List.set_cons_zero, List.set_cons_succ])
                refine take_first 3 (v := ?_) rfl (by kernel_rfl) (by kernel_rfl) (by kernel_rfl) (fun _ _ _ h => h) (Or.inl ⟨by rfl, by intro wx hSw; (try dsimp only at hSw); obtain ⟨s1, s2, s3⟩ := hSw; go_simp; try with_reducible rfl⟩) (by assumption) ?_
                (try simp only [Act.put, List.setIfInBounds_toArray, List.set_cons_zero, List.set_cons_succ])
                refine take_first 4 (v := ?_) rfl (by kernel_rfl) (by kernel_rfl) (by kernel_rfl) (fun _ _ _ h => h) (Or.inl ⟨by rfl, by intro wx hSw; (try dsimp only at hSw); obtain ⟨s1, s2, s3⟩ := hSw; go_simp; try with_reducible rfl⟩) (by assumption) ?_
                (try simp only [Act.put, List.setIfInBounds_toArray, List.set_cons_zero, List.set_cons_succ])
                refine take_first 5 (v := ?_) rfl (by kernel_rfl) (by kernel_rfl) (by kernel_rfl) (fun _ _ _ h => h) (Or.inl ⟨by rfl, by intro wx hSw; (try dsimp only at hSw); obtain ⟨s1, s2, s3⟩ := hSw; go_simp; try with_reducible rfl⟩) (by assumption) ?_
                (try simp only [Act.put, List.setIfInBounds_toArray, List.set_cons_zero, List.set_cons_succ])
                refine take_first 6 (v := ?_) rfl (by kernel_rfl) (by kernel_rfl) (by kernel_rfl) (fun _ _ _ h => h) (Or.inl ⟨by rfl, by intro wx hSw; (try dsimp only at hSw); obtain ⟨s1, s2, s3⟩ := hSw; go_simp; try with_reducible rfl⟩) (by assumption) ?_
                (try simp only [Act.put, List.setIfInBounds_toArray, List.set_cons_zero, List.set_cons_succ])
                refine take_first 7 (v := ?_) rfl (by kernel_rfl) (by kernel_rfl) (by kernel_rfl) (fun _ _ _ h => h) (Or.inl ⟨by rfl, by intro wx hSw; (try dsimp only at hSw); obtain ⟨s1, s2, s3⟩ := hSw; go_simp; try with_reducible rfl⟩) (by assumption) ?_
                (try simp only [Act.put, List.setIfInBounds_toArray, List.set_cons_zero, List.set_cons_succ])
                refine take_first 8 (v := ?_) rfl (by kernel_rfl) (by kernel_rfl) (by kernel_rfl) (fun _ _ _ h => h) (Or.inl ⟨by rfl, by intro wx hSw; (try dsimp only at hSw); obtain ⟨s1, s2, s3⟩ := hSw; go_simp; try with_reducible rfl⟩) (by assumption) ?_
                (try simp only [Act.put, List.setIfInBounds_toArray, List.set_cons_zero, List.set_cons_succ])
                refine take_first 9 (v := ?_) rfl (by kernel_rfl) (by kernel_rfl) (by kernel_rfl) (fun _ _ _ h => h) (Or.inl ⟨by rfl, by intro wx hSw; (try dsimp only at hSw); obtain ⟨s1, s2, s3⟩ := hSw; go_simp; try with_reducible rfl⟩) (by assumption) ?_
                (try simp only [Act.put, List.setIfInBounds_toArray, List.set_cons_zero, List.set_cons_succ])
                refine take_first 10 (v := ?_) rfl (by kernel_rfl) (by kernel_rfl) (by kernel_rfl) (fun _ _ _ h => h) (Or.inl ⟨by rfl, by intro wx hSw; (try dsimp only at hSw); obtain ⟨s1, s2, s3⟩ := hSw; go_simp; try with_reducible rfl⟩) (by assumption) ?_
                (try simp only [Act.put, List.setIfInBounds_toArray, List.set_cons_zero, List.set_cons_succ])
                refine take_first 11 (v := ?_) rfl (by kernel_rfl) (by kernel_rfl) (by kernel_rfl) (fun _ _ _ h => h) (Or.inl ⟨by rfl, by intro wx hSw; (try dsimp only at hSw); obtain ⟨s1, s2, s3⟩ := hSw; go_simp; try with_reducible rfl⟩) (by assumption) ?_
                (try simp only [Act.put, List.setIfInBounds_toArray, List.set_cons_zero, List.set_cons_succ])
                refine take_first 12 (v := ?_) rfl (by kernel_rfl) (by kernel_rfl) (by kernel_rfl) (fun _ _ _ h => h) (Or.inl ⟨by rfl, by intro wx hSw; (try dsimp only at hSw); obtain ⟨s1, s2, s3⟩ := hSw; go_simp; try with_reducible rfl⟩) (by assumption) ?_
                (try simp only [Act.put, List.setIfInBounds_toArray, List.set_cons_zero, List.set_cons_succ])
                refine take_first 13 (v := ?_) rfl (by kernel_rfl) (by kernel_rfl) (by kernel_rfl) (fun _ _ _ h => h) (Or.inl ⟨by rfl, by intro wx hSw; (try dsimp only at hSw); obtain ⟨s1, s2, s3⟩ := hSw; go_simp; try with_reducible rfl⟩) (by assumption) ?_
                (try simp only [Act.put, List.setIfInBounds_toArray, List.set_cons_zero, List.set_cons_succ])
                refine take_first 14 (v := ?_) rfl (by kernel_rfl) (by kernel_rfl) (by kernel_rfl) (fun _ _ _ h => h) (Or.inl ⟨by rfl, by intro wx hSw; (try dsimp only at hSw); obtain ⟨s1, s2, s3⟩ := hSw; go_simp; try with_reducible rfl⟩) (by assumption) ?_
                (try simp only [Act.put, List.setIfInBounds_toArray, List.set_cons_zero, List.set_cons_succ])
                refine take_first 15 (v := ?_) rfl (by kernel_rfl) (by kernel_rfl) (by kernel_rfl) (fun _ _ _ h => h) (Or.inl ⟨by rfl, by intro wx hSw; (try dsimp only at hSw); obtain ⟨s1, s2, s3⟩ := hSw; go_simp; try with_reducible rfl⟩) (by assumption) ?_
                (try simp only [Act.put, List.setIfInBounds_toArray, List.set_cons_zero, List.set_cons_succ])
                refine take_first 16 (v := ?_) rfl (by kernel_rfl) (by kernel_rfl) (by kernel_rfl) (fun _ _ _ h => h) (Or.inl ⟨by rfl, by intro wx hSw; (try dsimp only at hSw); obtain ⟨s1, s2, s3⟩ := hSw; go_simp; try with_reducible rfl⟩) (by assumption) ?_
                (try simp only [Act.put, List.setIfInBounds_toArray, List.set_cons_zero, List.set_cons_succ])
                refine take_first 17 (v := ?_) rfl (by kernel_rfl) (by kernel_rfl) (by kernel_rfl) (fun _ _ _ h => h) (Or.inl ⟨by rfl, by intro wx hSw; (try dsimp only at hSw); obtain ⟨s1, s2, s3⟩ := hSw; go_simp; try with_reducible rfl⟩) (by assumption) ?_
                (try simp only [Act.put, List.setIfInBounds_toArray, List.set_cons_zero, List.set_cons_succ])
                refine take_first 18 (v := ?_) rfl (by kernel_rfl) (by kernel_rfl) (by kernel_rfl) (fun _ _ _ h => h) (Or.inl ⟨by rfl, by intro wx hSw; (try dsimp only at hSw); obtain ⟨s1, s2, s3⟩ := hSw; go_simp; try with_reducible rfl⟩) (by assumption) ?_
                (try simp only [Act.put, List.setIfInBounds_toArray, List.set_cons_zero, List.set_cons_succ])
                refine take_first 19 (v := ?_) rfl (by kernel_rfl) (by kernel_rfl) (by kernel_rfl) (fun _ _ _ h => h) (Or.inl ⟨by rfl, by intro wx hSw; (try dsimp only at hSw); obtain ⟨s1, s2, s3⟩ := hSw; go_simp; try with_reducible rfl⟩) (by assumption) ?_
                (try simp only [Act.put, List.setIfInBounds_toArray, List.set_cons_zero, List.set_cons_succ])
                refine take_first 20 (v := ?_) rfl (by kernel_rfl) (by kernel_rfl) (by kernel_rfl) (fun _ _ _ h => h) (Or.inl ⟨by rfl, by intro wx hSw; (try dsimp only at hSw); obtain ⟨s1, s2, s3⟩ := hSw; go_simp; try with_reducible rfl⟩) (by assumption) ?_
                (try simp only [Act.put, List.setIfInBounds_toArray, List.set_cons_zero, List.set_cons_succ])
                refine take_first 21 (v := ?_) rfl (by kernel_rfl) (by kernel_rfl) (by kernel_rfl) (fun _ _ _ h => h) (Or.inl ⟨by rfl, by intro wx hSw; (try dsimp only at hSw); obtain ⟨s1, s2, s3⟩ := hSw; go_simp; try with_reducible rfl⟩) (by assumption) ?_
                (try simp only [Act.put, List.setIfInBounds_toArray, List.set_cons_zero, List.set_cons_succ])
                refine take_first 22 (v := ?_) rfl (by kernel_rfl) (by kernel_rfl) (by kernel_rfl) (fun _ _ _ h => h) (Or.inl ⟨by rfl, by intro wx hSw; (try dsimp only at hSw); obtain ⟨s1, s2, s3⟩ := hSw; go_simp; try with_reducible rfl⟩) (by assumption) ?_
                (try simp only [Act.put, List.setIfInBounds_toArray, List.set_cons_zero, List.set_cons_succ])
                refine take_first 23 (v := ?_) rfl (by kernel_rfl) (by kernel_rfl) (by kernel_rfl) (fun _ _ _ h => h) (Or.inl ⟨by rfl, by intro wx hSw; (try dsimp only at hSw); obtain ⟨s1, s2, s3⟩ := hSw; go_simp; try with_reducible rfl⟩) (by assumption) ?_
                (try simp only [Act.put, List.setIfInBounds_toArray, List.set_cons_zero, List.set_cons_succ])
                refine take_first 24 (v := ?_) rfl (by kernel_rfl) (by kernel_rfl) (by kernel_rfl) (fun _ _ _ h => h) (Or.inl ⟨by rfl, by intro wx hSw; (try dsimp only at hSw); obtain ⟨s1, s2, s3⟩ := hSw; go_simp; try with_reducible rfl⟩) (by assumption) ?_
                (try simp only [Act.put, List.setIfInBounds_toArray, List.set_cons_zero, List.set_cons_succ])
                refine take_first 25 (v := ?_) rfl (by kernel_rfl) (by kernel_rfl) (by kernel_rfl) (fun _ _ _ h => h) (Or.inl ⟨by rfl, by intro wx hSw; (try dsimp only at hSw); obtain ⟨s1, s2, s3⟩ := hSw; go_simp; try with_reducible rfl⟩) (by assumption) ?_
                (try simp only [Act.put, List.setIfInBounds_toArray, List.set_cons_zero, List.set_cons_succ])
                refine take_first 26 (v := ?_) rfl (by kernel_rfl) (by kernel_rfl) (by kernel_rfl) (fun _ _ _ h => h) (Or.inl ⟨by rfl, by intro wx hSw; (try dsimp only at hSw); obtain ⟨s1, s2, s3⟩ := hSw; go_simp; try with_reducible rfl⟩) (by assumption) ?_
                (try simp only [Act.put, List.setIfInBounds_toArray, List.set_cons_zero, List.set_cons_succ])
                refine take_first 27 (v := ?_) rfl (by kernel_rfl) (by kernel_rfl) (by kernel_rfl) (fun _ _ _ h => h) (Or.inl ⟨by rfl, by intro wx hSw; (try dsimp only at hSw); obtain ⟨s1, s2, s3⟩ := hSw; go_simp; try with_reducible rfl⟩) (by assumption) ?_
                (try simp only [Act.put, List.setIfInBounds_toArray, List.set_cons_zero, List.set_cons_succ])
                refine take_first 28 (v := ?_) rfl (by kernel_rfl) (by kernel_rfl) (by kernel_rfl) (fun _ _ _ h => h) (Or.inl ⟨by rfl, by intro wx hSw; (try dsimp only at hSw); obtain ⟨s1, s2, s3⟩ := hSw; go_simp; try with_reducible rfl⟩) (by assumption) ?_
                (try simp only [Act.put, List.setIfInBounds_toArray, List.set_cons_zero, List.set_cons_succ])
                refine take_first 29 (v := ?_) rfl (by kernel_rfl) (by kernel_rfl) (by kernel_rfl) (fun _ _ _ h => h) (Or.inl ⟨by rfl, by intro wx hSw; (try dsimp only at hSw); obtain ⟨s1, s2, s3⟩ := hSw; go_simp; try with_reducible rfl⟩) (by assumption) ?_
                (try simp only [Act.put, List.setIfInBounds_toArray, List.set_cons_zero, List.set_cons_succ])
                refine take_first 30 (v := ?_) rfl (by kernel_rfl) (by kernel_rfl) (by kernel_rfl) (fun _ _ _ h => h) (Or.inl ⟨by rfl, by intro wx hSw; (try dsimp only at hSw); obtain ⟨s1, s2, s3⟩ := hSw; go_simp; try with_reducible rfl⟩) (by assumption) ?_
                (try simp only [Act.put, List.setIfInBounds_toArray, List.set_cons_zero, List.set_cons_succ])
                refine take_first 31 (v := ?_) rfl (by kernel_rfl) (by kernel_rfl) (by kernel_rfl) (fun _ _ _ h => h) (Or.inl ⟨by rfl, by intro wx hSw; (try dsimp only at hSw); obtain ⟨s1, s2, s3⟩ := hSw; go_simp; try with_reducible rfl⟩) (by assumption) ?_
                (try simp only [Act.put, List.setIfInBounds_toArray, List.set_cons_zero, List.set_cons_succ])
                refine take_first 32 (v := ?_) rfl (by kernel_rfl) (by kernel_rfl) (by kernel_rfl) (fun _ _ _ h => h) (Or.inl ⟨by rfl, by intro wx hSw; (try dsimp only at hSw); obtain ⟨s1, s2, s3⟩ := hSw; go_simp; try with_reducible rfl⟩) (by assumption) ?_
                (try simp only [Act.put, List.setIfInBounds_toArray, List.set_cons_zero, List.set_cons_succ])
                refine wpAnyH_done (by kernel_rfl) ?_ _
                refine NoPanic.normal ?_
                clear hHeld hS
                go_wp2_with fail
                refine hcm.mono ?_
                rintro e w8 ⟨rfl, u8⟩
                have b8 : Below w7.heap.size w7 w8 := ⟨u8.bl.os, u8.bl.tape, u8.bl.output, u8.bl.size, u8.bl.block⟩
                have hS8 : (w8.drew.cell? ⟨g2, 1, none⟩ = some (.int .u8 3) ∧ w8.drew.cell? ⟨A + 1, 0, none⟩ = some (.int .u64 (bN : Nat)) ∧ w8.drew.cell? ⟨A + 1, 1, none⟩ = some (.int .i64 (b : Nat))) := HKS.out w7 w8 hS7 b8
                have hpr := HPR.out w8.drew b8.drew
                clear hcm a0 a1 c0 c1 hS7
                go_wp2_with fail
                refine wp_region_noPanic ?_
                refine wp_region_held_drew (S := fun wx => (wx.cell? ⟨g2, 1, none⟩ = some (.int .u8 3) ∧ wx.cell? ⟨A + 1, 0, none⟩ = some (.int .u64 (bN : Nat)) ∧ wx.cell? ⟨A + 1, 1, none⟩ = some (.int .i64 (b : Nat)))) (by kernel_rfl) hS8 (fun hHeld => ?_)
                have vq2 := fun W => vid_equal bN (b : Int) bN (b : Int) W
                simp only [and_self, decide_true] at vq2
                refine take_first 0 (v := ?_) rfl (by kernel_rfl) (by kernel_rfl) (by kernel_rfl) (fun _ _ _ h => h) (Or.inl ⟨by rfl, by intro wx hSw; (try dsimp only at hSw); obtain ⟨s1, s2, s3⟩ := hSw; go_simp; try with_reducible rfl⟩) (by assumption) ?_
                (try simp only [Act.put, List.setIfInBounds_toArray, List.set_cons_zero, List.set_cons_succ])
                refine take_first 1 (v := ?_) rfl (by kernel_rfl) (by kernel_rfl) (by kernel_rfl) (fun _ _ _ h => h) (Or.inl ⟨by rfl, by intro wx hSw; (try dsimp only at hSw); obtain ⟨s1, s2, s3⟩ := hSw; go_simp; try with_reducible rfl⟩) (by assumption) ?_
                (try simp only [Act.put, List.setIfInBounds_toArray, List.set_cons_zero, List.set_cons_succ])
                refine take_first 2 (v := ?_) rfl (by kernel_rfl) (by kernel_rfl) (by kernel_rfl) (fun _ _ _ h => h) (Or.inl ⟨by rfl, by intro wx hSw; (try dsimp only at hSw); obtain ⟨s1, s2, s3⟩ := hSw; go_simp; try with_reducible rfl⟩) (by assumption) ?_
                (try simp only [Act.put, List.setIfInBounds_toArray, List.set_cons_zero, List.set_cons_succ])
                refine take_first 3 (v := ?_) rfl (by kernel_rfl) (by kernel_rfl) (by kernel_rfl) (fun _ _ _ h => h) (Or.inl ⟨by rfl, by intro wx hSw; (try dsimp only at hSw); obtain ⟨s1, s2, s3⟩ := hSw; go_simp; try with_reducible rfl⟩) (by assumption) ?_
                (try simp only [Act.put, List.setIfInBounds_toArray, List.set_cons_zero, List.set_cons_succ])
                refine take_first 4 (v := ?_) rfl (by kernel_rfl) (by kernel_rfl) (by kernel_rfl) (fun _ _ _ h => h) (Or.inl ⟨by rfl, by intro wx hSw; (try dsimp only at hSw); obtain ⟨s1, s2, s3⟩ := hSw; go_simp; try with_reducible rfl⟩) (by assumption) ?_
                (try simp only [Act.put, List.setIfInBounds_toArray, List.set_cons_zero, List.set_cons_succ])
                refine take_first 5 (v := ?_) rfl (by kernel_rfl) (by kernel_rfl) (by kernel_rfl) (fun _ _ _ h => h) (Or.inl ⟨by rfl, by intro wx hSw; (try dsimp only at hSw); obtain ⟨s1, s2, s3⟩ := hSw; go_simp; try with_reducible rfl⟩) (by assumption) ?_
                (try simp only [Act.put, List.setIfInBounds_toArray, List.set_cons_zero, List.set_cons_succ])
                refine take_first 6 (v := ?_) rfl (by kernel_rfl) (by kernel_rfl) (by kernel_rfl) (fun _ _ _ h => h) (Or.inl ⟨by rfl, by intro wx hSw; (try dsimp only at hSw); obtain ⟨s1, s2, s3⟩ := hSw; go_simp; try with_reducible rfl⟩) (by assumption) ?_
                (try simp only [Act.put, List.setIfInBounds_toArray, List.set_cons_zero, List.set_cons_succ])
                refine take_first 7 (v := ?_) rfl (by kernel_rfl) (by kernel_rfl) (by kernel_rfl) (fun _ _ _ h => h) (Or.inl ⟨by rfl, by intro wx hSw; (try dsimp only at hSw); obtain ⟨s1, s2, s3⟩ := hSw; go_simp; try with_reducible rfl⟩) (by assumption) ?_
                (try simp only [Act.put, List.setIfInBounds_toArray, List.set_cons_zero, List.set_cons_succ])
                refine take_first 8 (v := ?_) rfl (by kernel_rfl) (by kernel_rfl) (by kernel_rfl) (fun _ _ _ h => h) (Or.inl ⟨by rfl, by intro wx hSw; (try dsimp only at hSw); obtain ⟨s1, s2, s3⟩ := hSw; go_simp; try with_reducible rfl⟩) (by assumption) ?_
                (try simp only [Act.put, List.setIfInBounds_toArray, List.set_cons_zero, List.set_cons_succ])
                refine take_first 9 (v := ?_) rfl (by kernel_rfl) (by kernel_rfl) (by kernel_rfl) (fun _ _ _ h => h) (Or.inl ⟨by rfl, by intro wx hSw; (try dsimp only at hSw); obtain ⟨s1, s2, s3⟩ := hSw; go_simp; try with_reducible rfl⟩) (by assumption) ?_
                (try simp only [Act.put, List.setIfInBounds_toArray, List.set_cons_zero, List.set_cons_succ])
                refine take_first 10 (v := ?_) rfl (by kernel_rfl) (by kernel_rfl) (by kernel_rfl) (fun _ _ _ h => h) (Or.inl ⟨by rfl, by intro wx hSw; (try dsimp only at hSw); obtain ⟨s1, s2, s3⟩ := hSw; go_simp; try with_reducible rfl⟩) (by assumption) ?_
                (try simp only [Act.put, List.setIfInBounds_toArray, List.set_cons_zero, List.set_cons_succ])
                refine take_first 11 (v := ?_) rfl (by kernel_rfl) (by kernel_rfl) (by kernel_rfl) (fun _ _ _ h => h) (Or.inl ⟨by rfl, by intro wx hSw; (try dsimp only at hSw); obtain ⟨s1, s2, s3⟩ := hSw; go_simp; try with_reducible rfl⟩) (by assumption) ?_
                (try simp only [Act.put, List.setIfInBounds_toArray, List.set_cons_zero, List.set_cons_succ])
                refine take_first 13 (v := ?_) rfl (by kernel_rfl) (by kernel_rfl) (by kernel_rfl) (fun _ _ _ h => h) (Or.inl ⟨by rfl, by intro wx hSw; (try dsimp only at hSw); obtain ⟨s1, s2, s3⟩ := hSw; go_simp; try with_reducible rfl⟩) (by assumption) ?_
                (try simp only [Act.put, List.setIfInBounds_toArray, List.set_cons_zero, List.set_cons_succ])
                refine comes_up 12 rfl (by kernel_rfl) (fun K hK => ?_)
                go_simp
                refine hpr.mono ?_
                rintro e w9 ⟨rfl, u9⟩
                have hS9 : (w9.cell? ⟨g2, 1, none⟩ = some (.int .u8 3) ∧ w9.cell? ⟨A + 1, 0, none⟩ = some (.int .u64 (bN : Nat)) ∧ w9.cell? ⟨A + 1, 1, none⟩ = some (.int .i64 (b : Nat))) := HKS.out _ _ hS8 u9.bl
                have b9 : Below w7.heap.size w7 w9 := bl_step b8.drew u9.bl
                have hop := HOP.out w9 b9
                go_wp2_with fail
                refine hK.out _ _ hS9 (fun hHeld => ?_)
                clear hK K
                (try simp only [Act.put, List.setIfInBounds_toArray, List.set_cons_zero, List.set_cons_succ])
                refine take_first 14 (v := ?_) rfl (by kernel_rfl) (by kernel_rfl) (by kernel_rfl) (fun _ _ _ h => h) (Or.inl ⟨by rfl, by intro wx hSw; (try dsimp only at hSw); obtain ⟨s1, s2, s3⟩ := hSw; go_simp; try with_reducible rfl⟩) (by assumption) ?_
                (try simp only [Act.put, List.setIfInBounds_toArray, List.set_cons_zero, List.set_cons_succ])
                refine take_first 15 (v := ?_) rfl (by kernel_rfl) (by kernel_rfl) (by kernel_rfl) (fun _ _ _ h => h) (Or.inl ⟨by rfl, by intro wx hSw; (try dsimp only at hSw); obtain ⟨s1, s2, s3⟩ := hSw; go_simp; try with_reducible rfl⟩) (by assumption) ?_
                (try simp only [Act.put, List.setIfInBounds_toArray, List.set_cons_zero, List.set_cons_succ])
                refine take_first 16 (v := ?_) rfl (by kernel_rfl) (by kernel_rfl) (by kernel_rfl) (fun _ _ _ h => h) (Or.inl ⟨by rfl, by intro wx hSw; (try dsimp only at hSw); obtain ⟨s1, s2, s3⟩ := hSw; go_simp; try with_reducible rfl⟩) (by assumption) ?_
                (try simp only [Act.put, List.setIfInBounds_toArray, List.set_cons_zero, List.set_cons_succ])
                refine take_first 17 (v := ?_) rfl (by kernel_rfl) (by kernel_rfl) (by kernel_rfl) (fun _ _ _ h => h) (Or.inl ⟨by rfl, by intro wx hSw; (try dsimp only at hSw); obtain ⟨s1, s2, s3⟩ := hSw; go_simp; try with_reducible rfl⟩) (by assumption) ?_
                (try simp only [Act.put, List.setIfInBounds_toArray, List.set_cons_zero, List.set_cons_succ])
                refine comes_up 18 rfl (by kernel_rfl) (fun K hK => ?_)
                go_simp
                refine hop.mono ?_
                rintro e w10 ⟨rfl, u10⟩
                have hS10 : (w10.cell? ⟨g2, 1, none⟩ = some (.int .u8 3) ∧ w10.cell? ⟨A + 1, 0, none⟩ = some (.int .u64 (bN : Nat)) ∧ w10.cell? ⟨A + 1, 1, none⟩ = some (.int .i64 (b : Nat))) := HKS.out _ _ hS9 u10.bl
                have b10 : Below w7.heap.size w7 w10 := bl_step b9 u10.bl
                go_wp2_with fail
                refine hK.out _ _ hS10 (fun hHeld => ?_)
                clear hK K
                (try simp only [Act.put, List.setIfInBounds_toArray, List.set_cons_zero, List.set_cons_succ])
                refine take_first 19 (v := ?_) rfl (by kernel_rfl) (by kernel_rfl) (by kernel_rfl) (fun _ _ _ h => h) (Or.inl ⟨by rfl, by intro wx hSw; (try dsimp only at hSw); obtain ⟨s1, s2, s3⟩ := hSw; go_simp; try with_reducible rfl⟩) (by assumption) ?_
                (try simp only [Act.put, List.setIfInBounds_toArray, List.set_cons_zero, List.set_cons_succ])
                refine take_first 20 (v := ?_) rfl (by kernel_rfl) (by kernel_rfl) (by kernel_rfl) (fun _ _ _ h => h) (Or.inl ⟨by rfl, by intro wx hSw; (try dsimp only at hSw); obtain ⟨s1, s2, s3⟩ := hSw; go_simp; try with_reducible rfl⟩) (by assumption) ?_
                (try simp only [Act.put, List.setIfInBounds_toArray, List.set_cons_zero, List.set_cons_succ])
                refine take_first 21 (v := ?_) rfl (by kernel_rfl) (by kernel_rfl) (by kernel_rfl) (fun _ _ _ h => h) (Or.inl ⟨by rfl, by intro wx hSw; (try dsimp only at hSw); obtain ⟨s1, s2, s3⟩ := hSw; go_simp; try with_reducible rfl⟩) (by assumption) ?_
                (try simp only [Act.put, List.setIfInBounds_toArray, List.set_cons_zero, List.set_cons_succ])
                refine wpAnyH_done (by kernel_rfl) ?_ _
                refine NoPanic.normal ?_
                clear hHeld hS8 hS9 hS10 hpr hop
                go_wp2
                go_ret
                exact ⟨rfl, HFN.out _ b10⟩
end Go.Proofs.YtlonbbepoamnmaaDoor
