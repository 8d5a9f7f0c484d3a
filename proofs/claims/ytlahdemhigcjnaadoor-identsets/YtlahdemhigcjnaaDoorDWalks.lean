/-
  The walks of IdentSets and IdentBuilt, where the table of package math/bits is as its text lays it.
-/
import Derived.Test.YtlahdemhigcjnaaDoorDLeast
namespace Go.Proofs.YtlahdemhigcjnaaDoor
open Go.RowKit
set_option linter.unusedVariables false

theorem bl_step {w a b : World} (h : Below w.heap.size w a) (k : Below a.heap.size a b) : Below w.heap.size w b := h.trans (k.mono h.size)

/-- A list of numbers in memory. -/
def Lc (w : World) (v : Value) (c : Nat) (xs : List Nat) : Prop := xs.length = c ∧ ∃ ao cap, v = .slice ao c cap ∧ ∀ j x, xs[j]? = some x → ∃ g, ao = some ⟨g, 0, none⟩ ∧ w.cell? ⟨g, j, none⟩ = some (.int .i64 (x : Nat))
theorem lc_of_row {w : World} {B c : Nat} {v : Value} {xs : List Nat} (h : w.ownsRow B 3 1 v c (ints xs)) : Lc w v c xs := by
  have hl : xs.length = c := by have := h.1; rw [ints_len] at this; omega
  refine ⟨hl, ?_⟩
  obtain ⟨ao, cap, rfl⟩ := row_shape h
  refine ⟨ao, cap, rfl, fun j x hj => ?_⟩
  have hj2 := (List.getElem?_eq_some_iff.1 hj).1
  obtain ⟨g, cap', hv, hc⟩ := row_cells h (by omega)
  simp only [Value.slice.injEq] at hv
  exact ⟨g, hv.1, hc j x hj⟩
theorem Lc.below {w w' : World} {v : Value} {c : Nat} {xs : List Nat} (h : Lc w v c xs) (hb : Below w.heap.size w w') : Lc w' v c xs := by
  obtain ⟨hl, ao, cap, rfl, hc⟩ := h
  refine ⟨hl, ao, cap, rfl, fun j x hj => ?_⟩
  obtain ⟨g, e, hcell⟩ := hc j x hj
  exact ⟨g, e, (hb.cell (World.block_lt_of_cell? w _ hcell)).trans hcell⟩

set_option maxRecDepth 10000 in
set_option maxHeartbeats 4000000 in
theorem sets_walk (w : World) (hT : Tab w) (s : Nat) (hs : s < 65536) (i n : Int) :
    Calls Tryd.prog 3 #[.int .u16 (s : Nat), .int .i64 i, .int .i64 n] w fun e w' => e = .returned (.bool true) ∧ Below w.heap.size w w' := by
  have h0 := hT.lt
  have hcl := cntF_le 16 s
  have HM : Hid (∀ W, Calls Tryd.prog 16 #[.int .u16 (s : Nat), .int .i64 n] W fun e w' => e = .returned (.bool (mostN s n)) ∧ ∃ q, w' = W.drewN q) := fun W => most_any W s hs n
  go_enter Tryd.func3, Tryd.ntmps3
  go_wp2_with fail
  refine (awake_any _).mono ?_
  rintro e w1 ⟨rfl, hb1⟩
  have hT1 := hT.below hb1 h0
  go_wp2_with fail
  refine (list_any _ s hs).mono ?_
  rintro e w2 ⟨v1, rfl, hr1, hb2⟩
  have hT2 := hT1.below hb2 hT1.lt
  have l1 := lc_of_row hr1
  have bl2 := bl_step hb1 hb2
  clear hr1 hT hT1
  go_wp2_with fail
  refine (refList_any _ s hs).mono ?_
  rintro e w3 ⟨v2, rfl, hr2, hb3⟩
  have hT3 := hT2.below hb3 hT2.lt
  have l2 := lc_of_row hr2
  have l1 := l1.below hb3
  have bl3 := bl_step bl2 hb3
  clear hr2 hT2 bl2 hb1 hb2 hb3
  have hcnt := fun W => count_any W s hs
  have HC : Hid (cntF 16 s = cntF 16 s) := rfl
  obtain ⟨c, Hc⟩ : ∃ c, Hid (cntF 16 s = c) := ⟨_, rfl⟩
  have ec := Hc.out
  simp only [ec] at hcnt l1 l2 hcl
  clear ec
  obtain ⟨hlen, ao1, cap1, rfl, hc1⟩ := l1
  obtain ⟨_, ao2, cap2, rfl, hc2⟩ := l2
  have H1 : Hid (∀ j x, (nodes s 16)[j]? = some x → ∃ g, ao1 = some ⟨g, 0, none⟩ ∧ w3.cell? ⟨g, j, none⟩ = some (.int .i64 (x : Nat))) := hc1
  have H2 : Hid (∀ j x, (nodes s 16)[j]? = some x → ∃ g, ao2 = some ⟨g, 0, none⟩ ∧ w3.cell? ⟨g, j, none⟩ = some (.int .i64 (x : Nat))) := hc2
  have HLEN : Hid ((nodes s 16).length = c) := hlen
  have HT : Hid (Tab w3) := hT3
  clear hc1 hc2 hlen hT3
  have a1 := fun W => has_any W s hs i
  have a2 := fun W => refHas_any W s hs i
  have a3 := fun W => with_any W s hs i
  have a4 := fun W => refWith_any W s hs i
  have a5 := fun W => without_any W s hs i
  have a6 := fun W => refWithout_any W s hs i
  generalize hasN s i = bi at *
  generalize withN s i = x1 at *
  generalize withoutN s i = x2 at *
  go_wp2_with fail
  refine (hcnt _).mono ?_
  rintro e w4 ⟨rfl, q4, rfl⟩
  go_wp2_with fail
  refine (a1 _).mono ?_
  rintro e w5 ⟨rfl, rfl⟩
  go_wp2_with fail
  refine (a2 _).mono ?_
  rintro e w5 ⟨rfl, rfl⟩
  go_wp2_with fail
  refine (a3 _).mono ?_
  rintro e w5 ⟨rfl, rfl⟩
  go_wp2_with fail
  refine (a4 _).mono ?_
  rintro e w5 ⟨rfl, rfl⟩
  go_wp2_with fail
  refine (a5 _).mono ?_
  rintro e w5 ⟨rfl, rfl⟩
  go_wp2_with fail
  refine (a6 _).mono ?_
  rintro e w5 ⟨rfl, rfl⟩
  go_wp2_with fail
  clear a1 a2 a3 a4 a5 a6 hcnt
  go_loopw [9] (fun iv wr => ∃ k q : Nat, k ≤ c ∧ iv = .int .i64 k ∧ wr = w3.drewN q) (fun iv _ => c - (intOf iv).toNat)
  case atStart => exact ⟨0, q4, by omega, rfl, rfl⟩
  case round =>
    obtain ⟨k, q, hk, rfl, rfl⟩ := hrel
    by_cases hlt : k < c
    · have hltI : (k : Int) < c := by omega
      obtain ⟨x, hx⟩ : ∃ x, (nodes s 16)[k]? = some x := ⟨_, List.getElem?_eq_getElem (by rw [HLEN.out]; exact hlt)⟩
      obtain ⟨g1, rfl, d1⟩ := H1.out k x hx
      obtain ⟨g2, rfl, d2⟩ := H2.out k x hx
      clear hx
      go_wp2_with fail
      go_quiet (fail)
      go_wp2
      go_roundw
      case rel => first | exact ⟨k + 1, _, by omega, by go_num, rfl⟩ | ((repeat apply Exists.intro); exact ⟨⟨k + 1, _, by omega, by go_num, rfl⟩, rfl⟩)
      case measure => simp [intOf]; omega
    · have hleast := least_any (w3.drewN q) (HT.out.drewN q) s hs
      have hmost := HM.out (w3.drewN q)
      unfold mostN at hmost
      rw [Hc.out] at hmost
      have bl4 := bl_drewN bl3 q
      have fin : ∀ q2, Below w.heap.size w ((w3.drewN q).drewN q2) := fun q2 => bl_drewN bl4 q2
      have hq : (1 ≤ n ∧ n ≤ 16 ∧ n < 2 * (c : Int)) ∨ (1 ≤ n ∧ n ≤ 16 ∧ ¬ (n < 2 * (c : Int))) ∨ (1 ≤ n ∧ ¬ n ≤ 16) ∨ ¬ 1 ≤ n := by omega
      by_cases hc0 : c = 0
      · have hl0 : leastN s = -1 := by
          unfold leastN
          rw [List.length_eq_zero_iff.1 (HLEN.out.trans hc0)]; rfl
        rw [hl0] at hleast
        subst hc0
        clear hl0 HT HLEN H1 H2 HM HC Hc
        rcases hq with ⟨g1, g2, g3⟩ | ⟨g1, g2, g3⟩ | ⟨g1, g2⟩ | g1
        · exfalso; omega
        · rw [show (decide (1 ≤ n) && decide (n ≤ 16) && decide (n < 2 * ((0 : Nat) : Int))) = false by simp; omega] at hmost
          go_wp2_with fail
          refine hleast.mono ?_
          rintro e w6 ⟨rfl, rfl⟩
          go_wp2_with fail
          refine hmost.mono ?_
          rintro e w6 ⟨rfl, q6, rfl⟩
          have hfin := fin q6
          clear fin hmost hleast bl3 bl4
          go_wp2
          go_ret
          first | exact ⟨rfl, by simpa using hfin⟩ | exact ⟨ret_bool (by simp; omega), by simpa using hfin⟩
        · rw [show (decide (1 ≤ n) && decide (n ≤ 16) && decide (n < 2 * ((0 : Nat) : Int))) = false by simp; omega] at hmost
          go_wp2_with fail
          refine hleast.mono ?_
          rintro e w6 ⟨rfl, rfl⟩
          go_wp2_with fail
          refine hmost.mono ?_
          rintro e w6 ⟨rfl, q6, rfl⟩
          have hfin := fin q6
          clear fin hmost hleast bl3 bl4
          go_wp2
          go_ret
          first | exact ⟨rfl, by simpa using hfin⟩ | exact ⟨ret_bool (by simp; omega), by simpa using hfin⟩
        · rw [show (decide (1 ≤ n) && decide (n ≤ 16) && decide (n < 2 * ((0 : Nat) : Int))) = false by simp; omega] at hmost
          go_wp2_with fail
          refine hleast.mono ?_
          rintro e w6 ⟨rfl, rfl⟩
          go_wp2_with fail
          refine hmost.mono ?_
          rintro e w6 ⟨rfl, q6, rfl⟩
          have hfin := fin q6
          clear fin hmost hleast bl3 bl4
          go_wp2
          go_ret
          first | exact ⟨rfl, by simpa using hfin⟩ | exact ⟨ret_bool (by simp; omega), by simpa using hfin⟩
      · obtain ⟨x, hx⟩ : ∃ x, (nodes s 16)[0]? = some x := ⟨_, List.getElem?_eq_getElem (by rw [HLEN.out]; omega)⟩
        obtain ⟨g2', rfl, d2⟩ := H2.out 0 x hx
        rw [leastN_some hx] at hleast
        have hcpos : (0 : Int) < c := by omega
        clear hx HT HLEN H1 H2 HM HC Hc
        rcases hq with ⟨g1, g2, g3⟩ | ⟨g1, g2, g3⟩ | ⟨g1, g2⟩ | g1
        · rw [show (decide (1 ≤ n) && decide (n ≤ 16) && decide (n < 2 * ((c : Nat) : Int))) = true by simp; omega] at hmost
          go_wp2_with fail
          refine hleast.mono ?_
          rintro e w6 ⟨rfl, rfl⟩
          go_wp2_with fail
          refine hmost.mono ?_
          rintro e w6 ⟨rfl, q6, rfl⟩
          have hfin := fin q6
          clear fin hmost hleast bl3 bl4
          go_wp2
          go_ret
          first | exact ⟨rfl, by simpa using hfin⟩ | exact ⟨ret_bool (by simp; omega), by simpa using hfin⟩
        · rw [show (decide (1 ≤ n) && decide (n ≤ 16) && decide (n < 2 * ((c : Nat) : Int))) = false by simp; omega] at hmost
          go_wp2_with fail
          refine hleast.mono ?_
          rintro e w6 ⟨rfl, rfl⟩
          go_wp2_with fail
          refine hmost.mono ?_
          rintro e w6 ⟨rfl, q6, rfl⟩
          have hfin := fin q6
          clear fin hmost hleast bl3 bl4
          go_wp2
          go_ret
          first | exact ⟨rfl, by simpa using hfin⟩ | exact ⟨ret_bool (by simp; omega), by simpa using hfin⟩
        · rw [show (decide (1 ≤ n) && decide (n ≤ 16) && decide (n < 2 * ((c : Nat) : Int))) = false by simp; omega] at hmost
          go_wp2_with fail
          refine hleast.mono ?_
          rintro e w6 ⟨rfl, rfl⟩
          go_wp2_with fail
          refine hmost.mono ?_
          rintro e w6 ⟨rfl, q6, rfl⟩
          have hfin := fin q6
          clear fin hmost hleast bl3 bl4
          go_wp2
          go_ret
          first | exact ⟨rfl, by simpa using hfin⟩ | exact ⟨ret_bool (by simp; omega), by simpa using hfin⟩
        · rw [show (decide (1 ≤ n) && decide (n ≤ 16) && decide (n < 2 * ((c : Nat) : Int))) = false by simp; omega] at hmost
          go_wp2_with fail
          refine hleast.mono ?_
          rintro e w6 ⟨rfl, rfl⟩
          go_wp2_with fail
          refine hmost.mono ?_
          rintro e w6 ⟨rfl, q6, rfl⟩
          have hfin := fin q6
          clear fin hmost hleast bl3 bl4
          go_wp2
          go_ret
          first | exact ⟨rfl, by simpa using hfin⟩ | exact ⟨ret_bool (by simp; omega), by simpa using hfin⟩
end Go.Proofs.YtlahdemhigcjnaaDoor
