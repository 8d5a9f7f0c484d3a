/-
  Contracts of what seals bytes with their sum, more: sum and Seal of package code; Seal of the document's answer.
-/
import Derived.Test.YtfemjbaadnjanaaCdSeal
namespace Go.Proofs.Ytfemjbaadnjanaa.Cd
open Go.RowKit
set_option linter.unusedVariables false
set_option linter.unusedSimpArgs false

/-- A sum as four bytes, the lowest first. -/
def le4 (s : Nat) : List UInt8 := [UInt8.ofNat (s % 256), UInt8.ofNat (s / 256 % 256), UInt8.ofNat (s / 65536 % 256), UInt8.ofNat (s / 16777216 % 256)]
theorem le4_len (s : Nat) : (le4 s).length = 4 := rfl
theorem by8_ofNat (m : Nat) : by8 (UInt8.ofNat (m % 256)) = .int .u8 ((m % 256 : Nat) : Int) := by rw [by8, ofNat_toNat _ (by omega)]
theorem le4_cells (s : Nat) (h : s < 4294967296) : (le4 s).map by8 = [.int .u8 ((s : Int) % 256), .int .u8 ((s : Int) / 256 % 256), .int .u8 ((s : Int) / 65536 % 256), .int .u8 ((s : Int) / 16777216)] := by
  simp only [le4, List.map_cons, List.map_nil, by8_ofNat]
  rw [show s / 16777216 % 256 = s / 16777216 by omega]
  rfl

set_option maxRecDepth 10000 in
set_option maxHeartbeats 1000000 in
theorem sumArr_any (w : World) (ao : Option Addr) (n cap : Nat) (xs : List UInt8) (h : Row w ao n cap xs) :
    Calls Try.prog 55 #[.slice ao n cap] w fun e w' => e = .returned (.agg ((le4 (crcSum xs)).map by8).toArray) ∧ Below w.heap.size w w' := by
  have hlt := crcSum_lt xs
  obtain ⟨s, hs⟩ : ∃ s, s = crcSum xs := ⟨_, rfl⟩
  have hrow2 : ∀ A B, Row ((w.alloc A).alloc B) ao n cap xs := fun A B => (h.below ((Below.refl _ _).alloc (Nat.le_refl _) _) (Nat.le_refl _)).below ((Below.refl _ _).alloc (Nat.le_refl _) _) (Nat.le_refl _)
  have hsum := fun A B => sum_any _ _ _ _ _ (hrow2 A B)
  rw [← hs] at hsum hlt ⊢
  rw [le4_cells s hlt]
  clear hs h hrow2
  go_enter Try.func55, Try.ntmps55
  go_wp2_with fail
  refine (hsum _ _).mono ?_
  rintro e w2 ⟨rfl, rfl⟩
  go_wp2
  refine wp_loop_rounds 5 ?_
  rw [rounds_succ]
  go_wp2
  rw [rounds_succ]
  go_wp2
  rw [rounds_succ]
  go_wp2
  rw [rounds_succ]
  go_wp2
  rw [rounds_succ]
  go_wp2
  exact bodyPost_ret (v := .agg #[.int .u8 ((s : Int) % 256), .int .u8 ((s : Int) / 256 % 256), .int .u8 ((s : Int) / 65536 % 256), .int .u8 ((s : Int) / 16777216)]) (by simp [results, Try.results55, go_sem]) rfl ⟨rfl, ((Below.refl _ _).alloc (Nat.le_refl _) _).alloc (by simp) _⟩

theorem le4_at (s j : Nat) (hj : j < 4) : by8 ((le4 s).getD j 0) = .int .u8 ((s : Int) / 2 ^ (8 * j) % 256) := by
  match j, hj with
  | 0, _ => show by8 (UInt8.ofNat (s % 256)) = _; rw [by8_ofNat]; congr 1; simp
  | 1, _ => show by8 (UInt8.ofNat (s / 256 % 256)) = _; rw [by8_ofNat]; congr 1
  | 2, _ => show by8 (UInt8.ofNat (s / 65536 % 256)) = _; rw [by8_ofNat]; congr 1
  | 3, _ => show by8 (UInt8.ofNat (s / 16777216 % 256)) = _; rw [by8_ofNat]; congr 1
theorem row_lit62 (w : World) (g : Nat) (ys : List UInt8) (h : w.heap[g]? = some (.cells (ys.map by8).toArray 92)) : ∀ (j : Nat) u, (ys.map by8)[j]? = some u → w.cell? ((⟨g, 0, none⟩ : Addr).add j) = some u := by
  intro j u hu
  rw [Addr.add_lit, cell_of_row w g _ _ 92 (0, 0) h, Nat.zero_add]
  simpa using hu
theorem seal_step {w w1 w2 : World} {o : Obj} {n : Nat} {xs es : List UInt8} {v' : Value} (hb : Below w.heap.size w w1) (hown : w2.ownsRow ((w1.alloc o).drew).heap.size 5 1 v' (n + 4) (xs.map by8 ++ es.map by8)) (hg : ((w1.alloc o).drew).grownBy w2 none) :
    w2.ownsRow w.heap.size 5 1 v' (n + 4) ((xs ++ es).map by8) ∧ Below w.heap.size w w2 := by
  have hs := hb.size
  have hd : ((w1.alloc o).drew).heap.size = w1.heap.size + 1 := by simp [World.drew]
  refine ⟨by rw [List.map_append]; exact owns_mono hown (by omega), ((hb.alloc hs o).drew).grown hg (by omega) (by simp)⟩

set_option maxRecDepth 10000 in
set_option maxHeartbeats 1000000 in
theorem seal_any (w : World) (ao : Option Addr) (n cap : Nat) (xs : List UInt8) (h : Row w ao n cap xs) (hr : n + 4 ≤ 140737488355328) :
    Calls Try.prog 21 #[.slice ao n cap] w fun e w' => ∃ v, e = .returned v ∧ w'.ownsRow w.heap.size 5 1 v (n + 4) ((xs ++ le4 (crcSum xs)).map by8) ∧ Below w.heap.size w w' := by
  obtain ⟨i0, hi, hz0, hz1, hz2⟩ := info_parts Try.info5
  have hlen := h.1
  have hle := h.2.1
  have hm := h.2.2.1
  go_enter Try.func21, Try.ntmps21
  go_wp2_with fail
  refine (sumArr_any _ _ _ _ _ h).mono ?_
  rintro e w1 ⟨rfl, hb1⟩
  have h1 := h.below hb1 (Nat.le_refl _)
  have hs1 := hb1.size
  have hl4 := le4_cells (crcSum xs) (crcSum_lt xs)
  rw [hl4]
  have hnew : (w1.alloc (.cells ((le4 (crcSum xs)).map by8).toArray 92)).heap[w1.heap.size]? = some (.cells ((le4 (crcSum xs)).map by8).toArray 92) := heap_alloc_new _ _
  have hblk := row_lit62 _ _ _ hnew
  have hal := (h1.below ((Below.refl _ _).alloc (Nat.le_refl _) (.cells ((le4 (crcSum xs)).map by8).toArray 92)) (Nat.le_refl _))
  rw [hl4] at hal
  have hfull : ∀ wx, Calls Try.prog 56 #[.slice ao n cap] wx fun e w' => e = .returned (.slice ao n n) ∧ wx = w' := fun wx => full_any wx ao n cap hle hm
  go_wp2
  refine wp_region_noPanic ?_
  refine wp_region_held_drew (S := fun _ => True) (by kernel_rfl) trivial (fun hHeld => ?_)
  refine take_first 0 (v := ?_) rfl (by kernel_rfl) (by kernel_rfl) (by kernel_rfl) (fun _ _ _ h => h) (Or.inl ⟨by rfl, by intro wx hSw; go_simp; try with_reducible rfl⟩) (by assumption) ?_
  (try simp only [Act.put, List.setIfInBounds_toArray, List.set_cons_zero, List.set_cons_succ])
  refine take_first 2 (v := ?_) rfl (by kernel_rfl) (by kernel_rfl) (by kernel_rfl) (fun _ _ _ h => h) (Or.inl ⟨by rfl, by intro wx hSw; go_simp; try with_reducible rfl⟩) (by assumption) ?_
  (try simp only [Act.put, List.setIfInBounds_toArray, List.set_cons_zero, List.set_cons_succ])
  refine comes_up 1 rfl (by kernel_rfl) (fun K hK => ?_)
  go_simp
  refine (hfull _).mono ?_
  rintro e w5 ⟨rfl, rfl⟩
  go_wp2_with fail
  refine hK.out _ _ trivial (fun hHeld => ?_)
  clear hK K
  (try simp only [Act.put, List.setIfInBounds_toArray, List.set_cons_zero, List.set_cons_succ])
  refine comes_up 3 rfl (by kernel_rfl) (fun K hK => ?_)
  refine step_append_grows rfl _ _ 33 rfl 5 i0 (.int .u8 0) 1 1 Try.underlying33 hi hz0 hz1 hz2 rfl (by decide) ao n n (xs.map by8) (by rfl) ?c0 ?c1 ?c2 ⟨w1.heap.size, 0, none⟩ 4 4 ((le4 (crcSum xs)).map by8) (by rfl) ?c3 ?c4 ?c5 ?c6 ?c7 ?c8 ?_
  case c0 => intro e; have := h.2.2.2.1 e; omega
  case c1 => simp [hlen]
  case c2 => exact hal.olds
  case c3 => simp [le4_len]
  case c4 => intro j u hu; have := hblk j u hu; rw [hl4] at this; exact this
  case c5 => exact by8_one _
  case c6 => omega
  case c7 => unfold maxLen; omega
  case c8 => omega
  intro v' w2 hown2 hgrow2
  have R := seal_step hb1 hown2 hgrow2
  clear hown2 hgrow2
  refine hK.out _ _ trivial (fun hHeld => ?_)
  clear hK K
  (try simp only [Act.put, List.setIfInBounds_toArray, List.set_cons_zero, List.set_cons_succ])
  refine take_first 4 (v := ?_) rfl (by kernel_rfl) (by kernel_rfl) (by kernel_rfl) (fun _ _ _ h => h) (Or.inl ⟨by rfl, by intro wx hSw; go_simp; try with_reducible rfl⟩) (by assumption) ?_
  (try simp only [Act.put, List.setIfInBounds_toArray, List.set_cons_zero, List.set_cons_succ])
  refine wpAnyH_done (by kernel_rfl) ?_ _
  refine NoPanic.normal ?_
  go_wp2
  go_ret
  exact ⟨v', rfl, R⟩

set_option maxRecDepth 10000 in
set_option maxHeartbeats 1000000 in
theorem refSeal_any (w : World) (ao : Option Addr) (n cap : Nat) (xs : List UInt8) (h : Row w ao n cap xs) (hr : n + 4 ≤ 140737488355328) :
    Calls Try.prog 17 #[.slice ao n cap] w fun e w' => ∃ v, e = .returned v ∧ w'.ownsRow w.heap.size 5 1 v (n + 4) ((xs ++ le4 (crcSum xs)).map by8) ∧ Below w.heap.size w w' := by
  obtain ⟨i0, hi, hz0, hz1, hz2⟩ := info_parts Try.info5
  have hlen := h.1
  have hslt := crcSum_lt xs
  cases ao with
  | none =>
    obtain ⟨rfl, rfl⟩ := h.2.2.2.1 rfl
    have hx : xs = [] := List.eq_nil_of_length_eq_zero hlen
    have hb : Below w.heap.size w w := Below.refl _ _
    have h1 := h
    have hown1 : w.ownsRow w.heap.size 5 1 (.slice none 0 0) 0 (xs.map by8) := by rw [hx]; exact World.ownsRow_nil _ _ _ _
    clear hx
    go_enter Try.func17, Try.ntmps17
    go_wp2_with (first | (go_at_call 37; refine (refSum_any _ _ _ _ _ h1).mono ?_; rintro e w2 ⟨rfl, rfl⟩))
    obtain ⟨s, hs0⟩ : ∃ s, s = crcSum xs := ⟨_, rfl⟩
    rw [← hs0] at hslt ⊢
    have HS : Hid (s = crcSum xs) := hs0
    clear hs0
    go_loopw [3, 5] (fun v i wr => ∃ j : Nat, j ≤ 4 ∧ i = .int .i64 j ∧ wr.ownsRow w.heap.size 5 1 v (0 + j) ((xs ++ (le4 s).take j).map by8) ∧ Below w.heap.size w wr) (fun _ i _ => 4 - (intOf i).toNat)
    case atStart => exact ⟨0, by omega, rfl, by simpa using hown1, hb⟩
    case round =>
      obtain ⟨j, hj, rfl, hown, hbel⟩ := hrel
      have hsz := hbel.size
      by_cases hlt : j < 4
      · obtain ⟨y, hy⟩ : ∃ y, y = (le4 s).getD j 0 := ⟨_, rfl⟩
        have HY : Hid (by8 y = .int .u8 ((s : Int) / 2 ^ (8 * j) % 256)) := by show by8 y = _; rw [hy]; exact le4_at s j hlt
        have HT : Hid ((le4 s).take (j + 1) = (le4 s).take j ++ [y]) := by
          show (le4 s).take (j + 1) = (le4 s).take j ++ [y]
          rw [List.take_succ_eq_append_getElem (by rw [le4_len]; exact hlt), hy]
          simp [List.getD, List.getElem?_eq_getElem (show j < (le4 s).length by rw [le4_len]; exact hlt)]
        clear hy
        go_wp2_with (first | (at_builtin; refine wpList_append_own _ rfl _ _ 33 rfl w.heap.size 5 i0 (.int .u8 0) 1 1 Try.underlying33 hi hz0 hz1 hz2 rfl (by decide) u3 _ _ rfl (hown.alloc _) ⟨wr.heap.size, 0, none⟩ 1 1 [by8 y] rfl rfl ?n3 ?n4 ?n6 ?n7 ?n8 ?_))
        case n3 => rw [HY.out]; exact cell_one_new _ _ _
        case n4 => exact by8_one [y]
        case n6 => unfold maxLen; omega
        case n7 => omega
        case n8 => simp; omega
        · intro v2 w3 hown3 hgrow3 _
          have R := own_step (y := y) hbel hown (by simpa using hown3) hgrow3
          clear hown3 hgrow3
          go_wp2
          go_roundw
          case rel => exact ⟨j + 1, by omega, by go_num, by rw [HT.out, ← List.append_assoc]; exact R.1, R.2⟩
          case measure => simp [intOf]; omega
      · have hj4 : j = 4 := by omega
        subst hj4
        go_wp2
        go_ret
        exact ⟨_, rfl, by rw [← HS.out]; exact hown, hbel⟩
  | some a =>
    go_enter Try.func17, Try.ntmps17
    go_wp2_with (first | (at_builtin; refine wpList_append_own _ rfl _ _ 33 rfl w.heap.size 5 i0 (.int .u8 0) 1 1 Try.underlying33 hi hz0 hz1 hz2 rfl (by decide) (.slice none 0 0) 0 [] rfl (World.ownsRow_nil _ _ _ _) a n cap (xs.map by8) rfl ?f2 ?f3 ?f4 ?f6 ?f7 ?f8 ?_))
    case f2 => simp [hlen]
    case f3 => exact h.olds a rfl
    case f4 => exact by8_one xs
    case f6 => unfold maxLen; omega
    case f7 => omega
    case f8 => omega
    intro v' w1 hown0 hgrow1 _
    have hb : Below w.heap.size w w1 := (Below.refl _ _).grown hgrow1 (Nat.le_refl _) (fun k hk => by simp [Value.ownBlock] at hk)
    have hs := hb.size
    have h1 := h.below hb (Nat.le_refl _)
    have hown1 : w1.ownsRow w.heap.size 5 1 v' n (xs.map by8) := by simpa using hown0
    clear hown0 hgrow1
    go_wp2_with (first | (go_at_call 37; refine (refSum_any _ _ _ _ _ h1).mono ?_; rintro e w2 ⟨rfl, rfl⟩))
    obtain ⟨s, hs0⟩ : ∃ s, s = crcSum xs := ⟨_, rfl⟩
    rw [← hs0] at hslt ⊢
    have HS : Hid (s = crcSum xs) := hs0
    clear hs0
    go_loopw [3, 5] (fun v i wr => ∃ j : Nat, j ≤ 4 ∧ i = .int .i64 j ∧ wr.ownsRow w.heap.size 5 1 v (n + j) ((xs ++ (le4 s).take j).map by8) ∧ Below w.heap.size w wr) (fun _ i _ => 4 - (intOf i).toNat)
    case atStart => exact ⟨0, by omega, rfl, by simpa using hown1, hb⟩
    case round =>
      obtain ⟨j, hj, rfl, hown, hbel⟩ := hrel
      have hsz := hbel.size
      by_cases hlt : j < 4
      · obtain ⟨y, hy⟩ : ∃ y, y = (le4 s).getD j 0 := ⟨_, rfl⟩
        have HY : Hid (by8 y = .int .u8 ((s : Int) / 2 ^ (8 * j) % 256)) := by show by8 y = _; rw [hy]; exact le4_at s j hlt
        have HT : Hid ((le4 s).take (j + 1) = (le4 s).take j ++ [y]) := by
          show (le4 s).take (j + 1) = (le4 s).take j ++ [y]
          rw [List.take_succ_eq_append_getElem (by rw [le4_len]; exact hlt), hy]
          simp [List.getD, List.getElem?_eq_getElem (show j < (le4 s).length by rw [le4_len]; exact hlt)]
        clear hy
        go_wp2_with (first | (at_builtin; refine wpList_append_own _ rfl _ _ 33 rfl w.heap.size 5 i0 (.int .u8 0) 1 1 Try.underlying33 hi hz0 hz1 hz2 rfl (by decide) u3 _ _ rfl (hown.alloc _) ⟨wr.heap.size, 0, none⟩ 1 1 [by8 y] rfl rfl ?g3 ?g4 ?g6 ?g7 ?g8 ?_))
        case g3 => rw [HY.out]; exact cell_one_new _ _ _
        case g4 => exact by8_one [y]
        case g6 => unfold maxLen; omega
        case g7 => omega
        case g8 => simp; omega
        · intro v2 w3 hown3 hgrow3 _
          have R := own_step (y := y) hbel hown (by simpa using hown3) hgrow3
          clear hown3 hgrow3
          go_wp2
          go_roundw
          case rel => exact ⟨j + 1, by omega, by go_num, by rw [HT.out, ← List.append_assoc]; exact R.1, R.2⟩
          case measure => simp [intOf]; omega
      · have hj4 : j = 4 := by omega
        subst hj4
        go_wp2
        go_ret
        exact ⟨_, rfl, by rw [← HS.out]; exact hown, hbel⟩

end Go.Proofs.Ytfemjbaadnjanaa.Cd
