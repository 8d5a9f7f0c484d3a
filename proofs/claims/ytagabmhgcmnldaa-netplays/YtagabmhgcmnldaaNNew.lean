/-
  New of a net: all hear all.
-/
import Derived.Test.YtagabmhgcmnldaaNCall
namespace Go.Proofs.Ytagabmhgcmnldaa
open Go.RowKit
set_option linter.unusedVariables false

theorem with_next : ∀ b : Fin 16, withN (2 ^ b.val - 1) (b.val : Int) = 2 ^ (b.val + 1) - 1 := by decide +kernel
/-- All of the first N nodes. -/
def allN (N : Nat) : Nat → Nat := fun k => if k < N then 2 ^ N - 1 else 0
theorem pow_small {b : Nat} (h : b ≤ 16) : 2 ^ b - 1 < 65536 := by
  have := Nat.pow_le_pow_right (show 0 < 2 by omega) h
  omega
theorem ncell_set {N : Nat} {H H' : Nat → Nat} {sv : Value} {lost a s : Nat} (ha : a < 16) (hH : ∀ k, k < 16 → H' k = if k = a then s else H k) (j : Nat) (hj : j < 19) :
    (if j = 1 + a then Value.int .u16 (s : Nat) else ncell N H sv lost j) = ncell N H' sv lost j := by
  unfold ncell
  by_cases h0 : j = 0
  · rw [if_neg (by omega), if_pos h0, if_pos h0]
  · rw [if_neg h0, if_neg h0]
    by_cases h1 : j < 17
    · rw [if_pos h1, if_pos h1, hH (j - 1) (by omega)]
      by_cases h2 : j = 1 + a
      · rw [if_pos h2, if_pos (by omega)]
      · rw [if_neg h2, if_neg (by omega)]
    · rw [if_neg h1, if_neg h1, if_neg (by omega)]

theorem new_err (w : World) (n : Int) (h : n < 1 ∨ 16 < n) : Calls Try.prog 12 #[.int .i64 n] w fun e w' => e = .returned (.tuple #[.pointer none, .int .i64 1]) ∧ w = w' := by
  by_cases h1 : n < 1
  · go_enter Try.func12, Try.ntmps12
    go_wp2
    go_ret2
    exact ⟨rfl, rfl⟩
  · have h2 : 16 < n := by omega
    clear h
    go_enter Try.func12, Try.ntmps12
    go_wp2
    go_ret2
    exact ⟨rfl, rfl⟩

def zeros16 (N : Nat) : Array Value := #[.int .i64 (N : Nat), .int .u16 0, .int .u16 0, .int .u16 0, .int .u16 0, .int .u16 0, .int .u16 0, .int .u16 0, .int .u16 0, .int .u16 0, .int .u16 0, .int .u16 0, .int .u16 0, .int .u16 0, .int .u16 0, .int .u16 0, .int .u16 0, .slice none 0 0, .int .i64 0]
theorem obj_new (w : World) (N : Nat) : (w.alloc (.cells (zeros16 N) 65)).rowIs w.heap.size 65 19 (ncell N (fun _ => 0) (.slice none 0 0) 0) := by
  refine World.rowIs_alloc w (zeros16 N) 65 _ (fun i hi => ?_)
  have hi' : i < 19 := hi
  have : ∀ j : Fin 19, (zeros16 N)[j.val]? = some (ncell N (fun _ => 0) (.slice none 0 0) 0 j.val) := by
    intro ⟨j, hj⟩
    match j, hj with
    | 0, _ => rfl
    | 1, _ => rfl
    | 2, _ => rfl
    | 3, _ => rfl
    | 4, _ => rfl
    | 5, _ => rfl
    | 6, _ => rfl
    | 7, _ => rfl
    | 8, _ => rfl
    | 9, _ => rfl
    | 10, _ => rfl
    | 11, _ => rfl
    | 12, _ => rfl
    | 13, _ => rfl
    | 14, _ => rfl
    | 15, _ => rfl
    | 16, _ => rfl
    | 17, _ => rfl
    | 18, _ => rfl
    | j + 19, hj => exact absurd hj (by omega)
  exact this ⟨i, hi'⟩

set_option maxRecDepth 10000 in
set_option maxHeartbeats 1000000 in
theorem new_is (w : World) (N : Nat) (h1 : 1 ≤ N) (h2 : N ≤ 16) : Calls Try.prog 12 #[.int .i64 (N : Nat)] w fun e w' => e = .returned (.tuple #[.pointer (some ⟨w.heap.size, 0, none⟩), .int .i64 0]) ∧ w'.rowIs w.heap.size 65 19 (ncell N (allN N) (.slice none 0 0) 0) ∧ Below w.heap.size w w' := by
  have H0 : Hid ((w.alloc (.cells (zeros16 N) 65)).rowIs w.heap.size 65 19 (ncell N (fun _ => 0) (.slice none 0 0) 0)) := obj_new w N
  go_enter Try.func12, Try.ntmps12
  go_wp2
  go_loopw [5, 6, 17] (fun _ _ av wr => ∃ a : Nat, a ≤ N ∧ av = .int .i64 (a : Nat) ∧ Below w.heap.size w wr ∧ wr.rowIs w.heap.size 65 19 (ncell N (fun k => if k < a then 2 ^ N - 1 else 0) (.slice none 0 0) 0)) (fun _ _ av _ => N - (intOf av).toNat)
  case atStart => exact ⟨0, by omega, rfl, bl1 _ _, H0.out⟩
  case round =>
    clear H0
    obtain ⟨a, ha, rfl, hb, hr⟩ := hrel
    by_cases hlt : a < N
    · have hltI : (a : Int) < N := by omega
      have hr0 : wr.rowIs w.heap.size 65 19 (ncell N (fun k => if k < a then 2 ^ N - 1 else if k = a then 2 ^ 0 - 1 else 0) (.slice none 0 0) 0) := by
        refine hr.congr (fun i hi => ?_)
        congr 1
        funext k
        by_cases h1 : k < a
        · simp [h1]
        · simp [h1]
      clear hr
      generalize hw8 : wr = w8 at *
      clear hw8
      go_wp2
      go_loopw [6, 21] (fun _ bv wr => ∃ b : Nat, b ≤ N ∧ bv = .int .i64 (b : Nat) ∧ Below w.heap.size w wr ∧ wr.rowIs w.heap.size 65 19 (ncell N (fun k => if k < a then 2 ^ N - 1 else if k = a then 2 ^ b - 1 else 0) (.slice none 0 0) 0)) (fun _ bv _ => N - (intOf bv).toNat)
      case atStart => exact ⟨0, by omega, rfl, hb, hr0⟩
      case round =>
        clear hb hr0
        obtain ⟨b, hbN, rfl, hb, hr⟩ := hrel
        by_cases hlt2 : b < N
        · have hlt2I : (b : Int) < N := by omega
          have hc : wr.cell? ⟨w.heap.size, 1 + a, none⟩ = some (.int .u16 ((2 ^ b - 1 : Nat) : Int)) := by
            have := hr.cell (i := 1 + a) (by omega)
            rw [this]
            unfold ncell
            rw [if_neg (by omega), if_pos (by omega), show 1 + a - 1 = a by omega]
            dsimp only
            rw [if_neg (by omega), if_pos rfl]
          have hfr := hr.frozen (1 + a)
          have ha16 : (a : Int) < 16 := by omega
          have hwi := fun W => with_any W (2 ^ b - 1) (pow_small (by omega)) (b : Int)
          rw [with_next ⟨b, by omega⟩] at hwi
          have HE : Hid (∀ q, Below w.heap.size w ((wr.drewN q).setCell ⟨w.heap.size, 1 + a, none⟩ (.int .u16 ((2 ^ (b + 1) - 1 : Nat) : Int))) ∧ ((wr.drewN q).setCell ⟨w.heap.size, 1 + a, none⟩ (.int .u16 ((2 ^ (b + 1) - 1 : Nat) : Int))).rowIs w.heap.size 65 19 (ncell N (fun k => if k < a then 2 ^ N - 1 else if k = a then 2 ^ (b + 1) - 1 else 0) (.slice none 0 0) 0)) := fun q =>
            ⟨(bl_drewN hb q).setCell (Nat.le_refl _) _, (World.rowIs.set (w := wr.drewN q) hr (1 + a) _).congr (fun i hi => ncell_set (by omega) (fun k _ => by
              by_cases h1 : k = a
              · rw [if_neg (by omega), if_pos h1, if_pos h1]
              · rw [if_neg h1]; by_cases h2 : k < a <;> simp [h1, h2]) i hi)⟩
          obtain ⟨s1, HS1⟩ : ∃ s1, Hid (2 ^ (b + 1) - 1 = s1) := ⟨2 ^ (b + 1) - 1, Eq.refl (2 ^ (b + 1) - 1)⟩
          have hs1 := HS1.out
          rw [hs1] at hwi HE
          clear hs1
          generalize 2 ^ b - 1 = s0 at *
          clear hr hb
          go_wp2_with fail
          refine wp_region_noPanic ?_
          refine wp_region_held_drew (S := fun wx => True) (by kernel_rfl) trivial (fun hHeld => ?_)
          refine take_first 0 (v := ?_) rfl (by kernel_rfl) (by kernel_rfl) (by kernel_rfl) (fun _ _ _ h => h) (Or.inl ⟨by rfl, by intro wx hSw; (try dsimp only at hSw); go_simp; try with_reducible rfl⟩) (by assumption) ?_
          (try simp only [Act.put, List.setIfInBounds_toArray, List.set_cons_zero, List.set_cons_succ])
          refine take_first 1 (v := ?_) rfl (by kernel_rfl) (by kernel_rfl) (by kernel_rfl) (fun _ _ _ h => h) (Or.inl ⟨by rfl, by intro wx hSw; (try dsimp only at hSw); go_simp; try with_reducible rfl⟩) (by assumption) ?_
          (try simp only [Act.put, List.setIfInBounds_toArray, List.set_cons_zero, List.set_cons_succ])
          refine take_first 2 (v := ?_) rfl (by kernel_rfl) (by kernel_rfl) (by kernel_rfl) (fun _ _ _ h => h) (Or.inl ⟨by rfl, by intro wx hSw; (try dsimp only at hSw); go_simp; try with_reducible rfl⟩) (by assumption) ?_
          (try simp only [Act.put, List.setIfInBounds_toArray, List.set_cons_zero, List.set_cons_succ])
          refine take_first 3 (v := ?_) rfl (by kernel_rfl) (by kernel_rfl) (by kernel_rfl) (fun _ _ _ h => h) (Or.inl ⟨by rfl, by intro wx hSw; (try dsimp only at hSw); go_simp; try with_reducible rfl⟩) (by assumption) ?_
          (try simp only [Act.put, List.setIfInBounds_toArray, List.set_cons_zero, List.set_cons_succ])
          refine take_first 4 (v := ?_) rfl (by kernel_rfl) (by kernel_rfl) (by kernel_rfl) (fun _ _ _ h => h) (Or.inl ⟨by rfl, by intro wx hSw; (try dsimp only at hSw); go_simp; try with_reducible rfl⟩) (by assumption) ?_
          (try simp only [Act.put, List.setIfInBounds_toArray, List.set_cons_zero, List.set_cons_succ])
          refine take_first 5 (v := ?_) rfl (by kernel_rfl) (by kernel_rfl) (by kernel_rfl) (fun _ _ _ h => h) (Or.inl ⟨by rfl, by intro wx hSw; (try dsimp only at hSw); go_simp; try with_reducible rfl⟩) (by assumption) ?_
          (try simp only [Act.put, List.setIfInBounds_toArray, List.set_cons_zero, List.set_cons_succ])
          refine take_first 6 (v := ?_) rfl (by kernel_rfl) (by kernel_rfl) (by kernel_rfl) (fun _ _ _ h => h) (Or.inl ⟨by rfl, by intro wx hSw; (try dsimp only at hSw); go_simp; try with_reducible rfl⟩) (by assumption) ?_
          (try simp only [Act.put, List.setIfInBounds_toArray, List.set_cons_zero, List.set_cons_succ])
          refine take_first 8 (v := ?_) rfl (by kernel_rfl) (by kernel_rfl) (by kernel_rfl) (fun _ _ _ h => h) (Or.inl ⟨by rfl, by intro wx hSw; (try dsimp only at hSw); go_simp; try with_reducible rfl⟩) (by assumption) ?_
          (try simp only [Act.put, List.setIfInBounds_toArray, List.set_cons_zero, List.set_cons_succ])
          refine take_first 10 (v := ?_) rfl (by kernel_rfl) (by kernel_rfl) (by kernel_rfl) (fun _ _ _ h => h) (Or.inl ⟨by rfl, by intro wx hSw; (try dsimp only at hSw); go_simp; try with_reducible rfl⟩) (by assumption) ?_
          (try simp only [Act.put, List.setIfInBounds_toArray, List.set_cons_zero, List.set_cons_succ])
          refine take_first 11 (v := ?_) rfl (by kernel_rfl) (by kernel_rfl) (by kernel_rfl) (fun _ _ _ h => h) (Or.inl ⟨by rfl, by intro wx hSw; (try dsimp only at hSw); go_simp; try with_reducible rfl⟩) (by assumption) ?_
          (try simp only [Act.put, List.setIfInBounds_toArray, List.set_cons_zero, List.set_cons_succ])
          refine comes_up 7 rfl (by kernel_rfl) (fun K hK => ?_)
          go_simp
          refine hK.out _ _ trivial (fun hHeld => ?_)
          clear hK K
          (try simp only [Act.put, List.setIfInBounds_toArray, List.set_cons_zero, List.set_cons_succ])
          refine comes_up 9 rfl (by kernel_rfl) (fun K hK => ?_)
          go_simp
          refine (hwi _).mono ?_
          rintro e w2 ⟨rfl, rfl⟩
          go_wp2_with fail
          refine hK.out _ _ trivial (fun hHeld => ?_)
          clear hK K
          (try simp only [Act.put, List.setIfInBounds_toArray, List.set_cons_zero, List.set_cons_succ])
          refine take_first 12 (v := ?_) rfl (by kernel_rfl) (by kernel_rfl) (by kernel_rfl) (fun _ _ _ h => h) (Or.inl ⟨by rfl, by intro wx hSw; (try dsimp only at hSw); go_simp; try with_reducible rfl⟩) (by assumption) ?_
          (try simp only [Act.put, List.setIfInBounds_toArray, List.set_cons_zero, List.set_cons_succ])
          refine comes_up 13 rfl (by kernel_rfl) (fun K hK => ?_)
          go_simp
          refine hK.out _ _ trivial (fun hHeld => ?_)
          clear hK K
          (try simp only [Act.put, List.setIfInBounds_toArray, List.set_cons_zero, List.set_cons_succ])
          refine wpAnyH_done (by kernel_rfl) ?_ _
          refine NoPanic.normal ?_
          go_wp2
          go_roundw
          case rel => exact ⟨b + 1, by omega, by go_num, (HE.out 1).1, by rw [HS1.out]; exact (HE.out 1).2⟩
          case measure => simp [intOf]; omega
        · obtain rfl : b = N := by omega
          go_wp2
          go_roundw
          case rel =>
            refine ⟨a + 1, by omega, by go_num, hb, hr.congr (fun i hi => ?_)⟩
            congr 1
            funext k
            by_cases h1 : k < a
            · rw [if_pos h1, if_pos (by omega)]
            · rw [if_neg h1]
              by_cases h2 : k = a
              · rw [if_pos h2, if_pos (by omega)]
              · rw [if_neg h2, if_neg (by omega)]
          case measure => simp [intOf]; omega
    · obtain rfl : a = N := by omega
      go_wp2
      go_ret2
      exact ⟨rfl, hr, hb⟩

theorem net_new {w w' : World} {p N : Nat} (h1 : 1 ≤ N) (h2 : N ≤ 16) (hr : w'.rowIs p 65 19 (ncell N (allN N) (.slice none 0 0) 0)) : NetIs w' p N (allN N) (.slice none 0 0) 0 [] [] where
  obj := hr
  bag := World.ownsRow_nil _ _ _ _
  len := rfl
  pk := fun j x a hx => by simp at hx
  bp := by simp [Value.ownBlock]
  xp := by simp
  n1 := h1
  n16 := h2
  hs := fun k => by
    unfold allN
    split
    · exact pow_small h2
    · omega
  most := by simp
  lost' := by omega
theorem new_any (w : World) (N : Nat) (h1 : 1 ≤ N) (h2 : N ≤ 16) : Calls Try.prog 12 #[.int .i64 (N : Nat)] w fun e w' => ∃ p F, e = .returned (.tuple #[.pointer (some ⟨p, 0, none⟩), .int .i64 0]) ∧ Nt w' F p N (allN N) 0 [] ∧ Below w.heap.size w w' ∧ ∀ b, F b → w.heap.size ≤ b :=
  (new_is w N h1 h2).mono fun e w' ⟨he, hr, hb⟩ => ⟨w.heap.size, fun b => b = w.heap.size, he, ⟨⟨_, _, net_new (w := w) h1 h2 hr, by rintro b (rfl | hb | ⟨x, hx, _⟩); rfl; simp [Value.ownBlock] at hb; simp at hx⟩, by rintro b rfl; exact hr.lt⟩, hb, by rintro b rfl; exact Nat.le_refl _⟩
end Go.Proofs.Ytagabmhgcmnldaa
