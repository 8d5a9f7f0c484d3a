/-
  Proved: for all bytes p and b, CodeBytes(p, b) returns true: bytes are written behind other bytes, and read back; one less is refused. No condition.
-/
import Derived.Test.YtlnphniokaclcaaArgs
import Derived.Test.YtlnphniokaclcaaStr
import Derived.Test.YtlnphniokaclcaaBytes
import Derived.Test.YtlnphniokaclcaaRegion
import Derived.RegionTactic
namespace Go.Proofs.Ytlnphniokaclcaa.codeBytes
open Go.ChangeShapes Go.WideShapes Go.ChangeAt Go.RowKit
open Go.ChangeMaps (open_string shut_string)
set_option linter.unusedVariables false
set_option linter.unusedSimpArgs false

theorem rBytes_back (m : Nat) (ys : List UInt8) (hm : ys.length = m) (hl : m < 18446744073709551616) : rBytes (some (enc m ++ ys)) (m : Int) = (ys, some []) := by
  have h1 : rUint (some (enc m ++ ys)) = (m, some ys) := by simp [rUint, rd_enc m ys hl]
  have h2 : rInt (some (enc m ++ ys)) (m : Int) = (m, some ys) := by
    unfold rInt
    rw [h1]
    simp only
    rw [if_neg (by omega)]
  unfold rBytes
  rw [h2]
  simp only
  rw [if_neg (by omega), ← hm]
  simp
theorem rBytes_less (m : Nat) (ys : List UInt8) (hm : ys.length = m) (hl : m < 18446744073709551616) : rBytes (some (enc m ++ ys)) ((m : Int) - 1) = ([], none) := by
  have h1 : rUint (some (enc m ++ ys)) = (m, some ys) := by simp [rUint, rd_enc m ys hl]
  have h2 : rInt (some (enc m ++ ys)) ((m : Int) - 1) = (0, none) := by
    unfold rInt
    rw [h1]
    simp only
    rw [if_pos (by omega)]
  unfold rBytes
  rw [h2]

/-- What holds while the last statement is reckoned. -/
def Good (w wx : World) (r s : Nat) (qo : Option Addr) (qn qc : Nat) (ao : Option Addr) (n cap : Nat) (bo : Option Addr) (m bcap : Nat) (co : Option Addr) (cc : Nat) (xs ys qs : List UInt8) : Prop :=
  Row wx qo qn qc qs ∧ Row wx ao n cap xs ∧ Row wx bo m bcap ys ∧ Row wx co m cc ys ∧ Rd wx r (some []) ∧ Rd wx s none ∧ Below w.heap.size w wx
theorem Good.below {w wx wy : World} {r s : Nat} {qo : Option Addr} {qn qc : Nat} {ao : Option Addr} {n cap : Nat} {bo : Option Addr} {m bcap : Nat} {co : Option Addr} {cc : Nat} {xs ys qs : List UInt8}
    (h : Good w wx r s qo qn qc ao n cap bo m bcap co cc xs ys qs) (hb : Below wx.heap.size wx wy) : Good w wy r s qo qn qc ao n cap bo m bcap co cc xs ys qs :=
  ⟨h.1.below hb (Nat.le_refl _), h.2.1.below hb (Nat.le_refl _), h.2.2.1.below hb (Nat.le_refl _), h.2.2.2.1.below hb (Nat.le_refl _), rd_below h.2.2.2.2.1 hb, rd_below h.2.2.2.2.2.1 hb, h.2.2.2.2.2.2.trans (hb.mono h.2.2.2.2.2.2.size)⟩

set_option maxRecDepth 10000 in
set_option maxHeartbeats 1000000 in
theorem walk_long (w : World) (ao : Option Addr) (n cap : Nat) (bo : Option Addr) (m bcap : Nat) (hm : 100000 < m) (hc : m ≤ bcap) (hx : bcap ≤ maxLen) :
    Calls Try.prog 4 #[.slice ao n cap, .slice bo m bcap] w fun e w' => e = .returned (.bool true) ∧ Below w.heap.size w w' := by
  unfold maxLen at hx
  go_enter Try.func4, Try.ntmps4
  go_wp2_with fail
  refine (awake_any _).mono ?_
  rintro e w1 ⟨rfl, hb1⟩
  go_wp2_with fail
  refine (awake_any _).mono ?_
  rintro e w2 ⟨rfl, hb2⟩
  go_wp2
  go_ret
  exact ⟨rfl, hb1.trans (hb2.mono hb1.size)⟩

set_option maxRecDepth 10000 in
set_option maxHeartbeats 2000000 in
theorem walk (w : World) (ao : Option Addr) (n cap : Nat) (xs : List UInt8) (h : Row w ao n cap xs) (bo : Option Addr) (m bcap : Nat) (ys : List UInt8) (hy : Row w bo m bcap ys) (hr : n + 10 ≤ 140737488355328) (hm : m ≤ 100000) :
    Calls Try.prog 4 #[.slice ao n cap, .slice bo m bcap] w fun e w' => e = .returned (.bool true) ∧ Below w.heap.size w w' := by
  have hen := enc_length m
  have hep := enc_pos m
  have hle := h.2.1
  have hxl : xs.length = n := h.1
  have hyl : ys.length = m := hy.1
  have HB : Hid (rBytes (some (enc m ++ ys)) (m : Int) = (ys, some [])) := rBytes_back m ys hyl (by omega)
  have HL : Hid (rBytes (some (enc m ++ ys)) ((m : Int) - 1) = ([], none)) := rBytes_less m ys hyl (by omega)
  go_enter Try.func4, Try.ntmps4
  go_wp2_with fail
  refine (awake_any _).mono ?_
  rintro e w1 ⟨rfl, hb1⟩
  have hs1 := hb1.size
  have h1 := h.below hb1 (Nat.le_refl _)
  have hy1 := hy.below hb1 (Nat.le_refl _)
  go_wp2_with fail
  refine (bytes_any _ _ _ _ _ h1 _ _ _ _ hy1 hr (by omega)).mono ?_
  rintro e w2 ⟨v, rfl, hown, hb2⟩
  have hs2 := hb2.size
  have hb : Below w.heap.size w w2 := hb1.trans (hb2.mono hs1)
  rcases hown.2 with ⟨_, h0⟩ | ⟨g, cq, cur, hv, hg, _, hc1, hc2, _, _⟩
  · omega
  unfold maxLen at hc2
  rw [hv]
  obtain ⟨ao', cap', hv', hrow, _⟩ := owns_row hown
  rw [hv] at hv'
  cases hv'
  obtain ⟨L, hL⟩ : ∃ L, L = (enc m).length + ys.length := ⟨_, rfl⟩
  have hLn : n + (enc m).length + ys.length = n + L := by omega
  have hLb : L ≤ 100010 := by omega
  have hLp : 0 < L := by omega
  rw [hLn] at hrow hc1 ⊢
  have hdrop : Row w2 (some ⟨g, n, none⟩) L (cq - n) (enc m ++ ys) := by
    have := hrow.drop_at n (by omega)
    rw [List.append_assoc, List.drop_left' hxl] at this
    simpa using this
  have HLL : Hid (L = (enc m).length + ys.length) := hL
  clear hown hv hL hLn
  go_wp2_with fail
  refine (newReader_any _ _ _ _ _ hdrop (by omega)).mono ?_
  rintro e w3 ⟨r, rfl, hr3, hrd3, hb3⟩
  have hs3 := hb3.size
  go_wp2_with fail
  refine (bytes_rd _ _ _ hrd3 (m : Int) (by omega) (by omega) (by intro zs hz; cases hz; have := HLL.out; simp; omega)).mono ?_
  rw [HB.out]
  rintro e w4 ⟨v4, rfl, hown4, hrd4, hg4⟩
  have hb4 : Below w2.heap.size w2 w4 := hb3.grown hg4 hs3 (fun k hk => by simp at hk; omega)
  have hs4 := hb4.size
  obtain ⟨co, cc, hv4, hrow4, hnew4⟩ := owns_row hown4
  rw [hyl] at hv4 hrow4
  rw [hv4]
  have hdrop4 := hdrop.below hb4 (Nat.le_refl _)
  clear hown4 hv4
  go_wp2_with fail
  refine (newReader_any _ _ _ _ _ hdrop4 (by omega)).mono ?_
  rintro e w5 ⟨s, rfl, hr5, hrd5, hb5⟩
  have hs5 := hb5.size
  have hrd45 := rd_below hrd4 hb5
  have hrs : r ≠ s := by have := hrd4.lt; omega
  go_wp2_with fail
  refine (bytes_rd _ _ _ hrd5 ((m : Int) - 1) (by omega) (by omega) (by intro zs hz; cases hz; have := HLL.out; simp; omega)).mono ?_
  rw [HL.out]
  rintro e w6 ⟨v6, rfl, hown6, hrd6, hg6⟩
  have hb6 : Below w4.heap.size w4 w6 := hb5.grown hg6 hs5 (fun k hk => by simp at hk; omega)
  have hs6 := hb6.size
  have hb26 : Below w2.heap.size w2 w6 := hb4.trans (hb6.mono hs4)
  have hgd0 : Good w w6 r s (some ⟨g, 0, none⟩) (n + L) cq ao n cap bo m bcap co cc xs ys (xs ++ enc m ++ ys) :=
    ⟨hrow.below hb26 (Nat.le_refl _), (h1.below hb2 (Nat.le_refl _)).below hb26 (Nat.le_refl _), (hy1.below hb2 (Nat.le_refl _)).below hb26 (Nat.le_refl _), hrow4.below hb6 (Nat.le_refl _), rd_kept hrd45 hrd5 hrs hg6, hrd6, hb.trans (hb26.mono (by omega))⟩
  have hgd : Good w w6.drew r s (some ⟨g, 0, none⟩) (n + L) cq ao n cap bo m bcap co cc xs ys (xs ++ enc m ++ ys) := hgd0.below (Below.refl _ _).drew
  have hcq : ∀ wx, Good w wx r s (some ⟨g, 0, none⟩) (n + L) cq ao n cap bo m bcap co cc xs ys (xs ++ enc m ++ ys) → (convert 22 9 (.slice (some ⟨g, 0, none⟩) (n + L) cq)).run Try.prog wx = .ok (.string (str (xs ++ enc m ++ ys))) wx ∧ (convert 22 9 (.slice ao n cap)).run Try.prog wx = .ok (.string (str xs)) wx ∧ (convert 22 9 (.slice bo m bcap)).run Try.prog wx = .ok (.string (str ys)) wx ∧ (convert 22 9 (.slice co m cc)).run Try.prog wx = .ok (.string (str ys)) wx :=
    fun wx hx => ⟨conv_row hx.1, conv_row hx.2.1, conv_row hx.2.2.1, conv_row hx.2.2.2.1⟩
  have hadd : ∀ wx, (Op.stringOp .add (str xs) (str (enc m ++ ys))).run Try.prog wx = .ok (.string (str (xs ++ enc m ++ ys))) wx := fun wx => by
    have := add_run wx xs (enc m ++ ys) (by simp; omega)
    rw [← List.append_assoc] at this
    exact this
  obtain ⟨qs, hqs⟩ : ∃ qs, qs = xs ++ enc m ++ ys := ⟨_, rfl⟩
  rw [← hqs] at hgd hcq hadd
  obtain ⟨es, hes⟩ : ∃ es, es = enc m ++ ys := ⟨_, rfl⟩
  have HES : Hid (es = enc m ++ ys) := hes
  rw [← hes] at hadd
  clear hb1 hb2 hb3 hb4 hb5 hb6 hb26 hg4 hg6 hrd3 hrd4 hrd5 hrd6 hrd45 hrow hrow4 hdrop hdrop4 h1 hy1 hb h hy HB HL hown6 hgd0 hqs hes hnew4
  go_wp2
  refine wp_region_noPanic ?_
  refine wp_region_held_drew (S := (fun wx => Good w wx r s (some ⟨g, 0, none⟩) (n + L) cq ao n cap bo m bcap co cc xs ys qs ∧ (convert 22 9 (.slice (some ⟨g, 0, none⟩) (n + L) cq)).run Try.prog wx = .ok (.string (str qs)) wx ∧ (convert 22 9 (.slice ao n cap)).run Try.prog wx = .ok (.string (str xs)) wx ∧ (convert 22 9 (.slice bo m bcap)).run Try.prog wx = .ok (.string (str ys)) wx ∧ (convert 22 9 (.slice co m cc)).run Try.prog wx = .ok (.string (str ys)) wx)) (by kernel_rfl) ⟨hgd, hcq _ hgd⟩ (fun hHeld => ?_)
  refine take_first 0 (v := ?_) rfl (by kernel_rfl) (by kernel_rfl) (by kernel_rfl) (fun _ _ _ h => h) (Or.inl ⟨by rfl, by intro wx hSw; (try dsimp only at hSw); go_simp; try with_reducible rfl⟩) (by assumption) ?_
  (try simp only [Act.put, List.setIfInBounds_toArray, List.set_cons_zero, List.set_cons_succ])
  refine take_first 1 (v := ?_) rfl (by kernel_rfl) (by kernel_rfl) (by kernel_rfl) (fun _ _ _ h => h) (Or.inl ⟨by rfl, by intro wx hSw; (try dsimp only at hSw); go_simp; try with_reducible rfl⟩) (by assumption) ?_
  (try simp only [Act.put, List.setIfInBounds_toArray, List.set_cons_zero, List.set_cons_succ])
  refine take_first 2 (v := ?_) rfl (by kernel_rfl) (by kernel_rfl) (by kernel_rfl) (fun _ _ _ h => h) (Or.inl ⟨by rfl, by intro wx hSw; (try dsimp only at hSw); go_simp; try with_reducible rfl⟩) (by assumption) ?_
  (try simp only [Act.put, List.setIfInBounds_toArray, List.set_cons_zero, List.set_cons_succ])
  refine take_first 3 (v := ?_) rfl (by kernel_rfl) (by kernel_rfl) (by kernel_rfl) (fun _ _ _ h => h) (Or.inl ⟨by rfl, by intro wx hSw; (try dsimp only at hSw); go_simp; try with_reducible rfl⟩) (by assumption) ?_
  (try simp only [Act.put, List.setIfInBounds_toArray, List.set_cons_zero, List.set_cons_succ])
  refine take_first 4 (v := ?_) rfl (by kernel_rfl) (by kernel_rfl) (by kernel_rfl) (fun _ _ _ h => h) (Or.inl ⟨by rfl, by intro wx hSw; (try dsimp only at hSw); go_simp; try with_reducible rfl⟩) (by assumption) ?_
  (try simp only [Act.put, List.setIfInBounds_toArray, List.set_cons_zero, List.set_cons_succ])
  refine comes_up 5 rfl (by kernel_rfl) (fun K hK => ?_)
  go_simp
  refine (refBytes_any _ _ _ _ _ hgd.2.2.1 (by omega)).mono ?_; rintro e w7 ⟨v7, rfl, hown7, hb7⟩; have hg7 := hgd.below hb7; obtain ⟨ao7, cap7, hv7, hrow7, _⟩ := owns_row hown7; rw [hv7]; have hc7 := conv_row hrow7; rw [← HES.out, hyl] at hc7; clear hown7 hrow7 hv7; go_wp2_with fail
  refine hK.out _ _ ⟨hg7, hcq _ hg7⟩ (fun hHeld => ?_)
  clear hK K
  (try simp only [Act.put, List.setIfInBounds_toArray, List.set_cons_zero, List.set_cons_succ])
  refine comes_up 6 rfl (by kernel_rfl) (fun K hK => ?_)
  go_simp
  refine hK.out _ _ ⟨hg7, hcq _ hg7⟩ (fun hHeld => ?_)
  clear hK K
  (try simp only [Act.put, List.setIfInBounds_toArray, List.set_cons_zero, List.set_cons_succ])
  refine take_first 7 (v := ?_) rfl (by kernel_rfl) (by kernel_rfl) (by kernel_rfl) (fun _ _ _ h => h) (Or.inl ⟨by rfl, by intro wx hSw; (try dsimp only at hSw); go_simp; try with_reducible rfl⟩) (by assumption) ?_
  (try simp only [Act.put, List.setIfInBounds_toArray, List.set_cons_zero, List.set_cons_succ])
  refine take_first 8 (v := ?_) rfl (by kernel_rfl) (by kernel_rfl) (by kernel_rfl) (fun _ _ _ h => h) (Or.inl ⟨by rfl, by intro wx hSw; (try dsimp only at hSw); go_simp; try with_reducible rfl⟩) (by assumption) ?_
  (try simp only [Act.put, List.setIfInBounds_toArray, List.set_cons_zero, List.set_cons_succ])
  refine take_first 9 (v := ?_) rfl (by kernel_rfl) (by kernel_rfl) (by kernel_rfl) (fun _ _ _ h => h) (Or.inl ⟨by rfl, by intro wx hSw; (try dsimp only at hSw); go_simp; try with_reducible rfl⟩) (by assumption) ?_
  (try simp only [Act.put, List.setIfInBounds_toArray, List.set_cons_zero, List.set_cons_succ])
  refine take_first 10 (v := ?_) rfl (by kernel_rfl) (by kernel_rfl) (by kernel_rfl) (fun _ _ _ h => h) (Or.inl ⟨by rfl, by intro wx hSw; (try dsimp only at hSw); go_simp; try with_reducible rfl⟩) (by assumption) ?_
  (try simp only [Act.put, List.setIfInBounds_toArray, List.set_cons_zero, List.set_cons_succ])
  refine take_first 11 (v := ?_) rfl (by kernel_rfl) (by kernel_rfl) (by kernel_rfl) (fun _ _ _ h => h) (Or.inl ⟨by rfl, by intro wx hSw; (try dsimp only at hSw); go_simp; try with_reducible rfl⟩) (by assumption) ?_
  (try simp only [Act.put, List.setIfInBounds_toArray, List.set_cons_zero, List.set_cons_succ])
  refine take_first 12 (v := ?_) rfl (by kernel_rfl) (by kernel_rfl) (by kernel_rfl) (fun _ _ _ h => h) (Or.inl ⟨by rfl, by intro wx hSw; (try dsimp only at hSw); go_simp; try with_reducible rfl⟩) (by assumption) ?_
  (try simp only [Act.put, List.setIfInBounds_toArray, List.set_cons_zero, List.set_cons_succ])
  refine take_first 13 (v := ?_) rfl (by kernel_rfl) (by kernel_rfl) (by kernel_rfl) (fun _ _ _ h => h) (Or.inl ⟨by rfl, by intro wx hSw; (try dsimp only at hSw); go_simp; try with_reducible rfl⟩) (by assumption) ?_
  (try simp only [Act.put, List.setIfInBounds_toArray, List.set_cons_zero, List.set_cons_succ])
  refine take_first 14 (v := ?_) rfl (by kernel_rfl) (by kernel_rfl) (by kernel_rfl) (fun _ _ _ h => h) (Or.inl ⟨by rfl, by intro wx hSw; (try dsimp only at hSw); go_simp; try with_reducible rfl⟩) (by assumption) ?_
  (try simp only [Act.put, List.setIfInBounds_toArray, List.set_cons_zero, List.set_cons_succ])
  refine take_first 15 (v := ?_) rfl (by kernel_rfl) (by kernel_rfl) (by kernel_rfl) (fun _ _ _ h => h) (Or.inl ⟨by rfl, by intro wx hSw; (try dsimp only at hSw); go_simp; try with_reducible rfl⟩) (by assumption) ?_
  (try simp only [Act.put, List.setIfInBounds_toArray, List.set_cons_zero, List.set_cons_succ])
  refine take_first 16 (v := ?_) rfl (by kernel_rfl) (by kernel_rfl) (by kernel_rfl) (fun _ _ _ h => h) (Or.inl ⟨by rfl, by intro wx hSw; (try dsimp only at hSw); go_simp; try with_reducible rfl⟩) (by assumption) ?_
  (try simp only [Act.put, List.setIfInBounds_toArray, List.set_cons_zero, List.set_cons_succ])
  refine take_first 17 (v := ?_) rfl (by kernel_rfl) (by kernel_rfl) (by kernel_rfl) (fun _ _ _ h => h) (Or.inl ⟨by rfl, by intro wx hSw; (try dsimp only at hSw); go_simp; try with_reducible rfl⟩) (by assumption) ?_
  (try simp only [Act.put, List.setIfInBounds_toArray, List.set_cons_zero, List.set_cons_succ])
  refine comes_up 18 rfl (by kernel_rfl) (fun K hK => ?_)
  go_simp
  refine (bad_rd _ _ _ hg7.2.2.2.2.1).mono ?_; rintro e w8 ⟨rfl, rfl⟩; go_wp2_with fail
  refine hK.out _ _ ⟨hg7, hcq _ hg7⟩ (fun hHeld => ?_)
  clear hK K
  (try simp only [Act.put, List.setIfInBounds_toArray, List.set_cons_zero, List.set_cons_succ])
  refine take_first 19 (v := ?_) rfl (by kernel_rfl) (by kernel_rfl) (by kernel_rfl) (fun _ _ _ h => h) (Or.inl ⟨by rfl, by intro wx hSw; (try dsimp only at hSw); go_simp; try with_reducible rfl⟩) (by assumption) ?_
  (try simp only [Act.put, List.setIfInBounds_toArray, List.set_cons_zero, List.set_cons_succ])
  refine take_first 20 (v := ?_) rfl (by kernel_rfl) (by kernel_rfl) (by kernel_rfl) (fun _ _ _ h => h) (Or.inl ⟨by rfl, by intro wx hSw; (try dsimp only at hSw); go_simp; try with_reducible rfl⟩) (by assumption) ?_
  (try simp only [Act.put, List.setIfInBounds_toArray, List.set_cons_zero, List.set_cons_succ])
  refine take_first 21 (v := ?_) rfl (by kernel_rfl) (by kernel_rfl) (by kernel_rfl) (fun _ _ _ h => h) (Or.inl ⟨by rfl, by intro wx hSw; (try dsimp only at hSw); go_simp; try with_reducible rfl⟩) (by assumption) ?_
  (try simp only [Act.put, List.setIfInBounds_toArray, List.set_cons_zero, List.set_cons_succ])
  refine take_first 22 (v := ?_) rfl (by kernel_rfl) (by kernel_rfl) (by kernel_rfl) (fun _ _ _ h => h) (Or.inl ⟨by rfl, by intro wx hSw; (try dsimp only at hSw); go_simp; try with_reducible rfl⟩) (by assumption) ?_
  (try simp only [Act.put, List.setIfInBounds_toArray, List.set_cons_zero, List.set_cons_succ])
  refine comes_up 23 rfl (by kernel_rfl) (fun K hK => ?_)
  go_simp
  refine (left_rd _ _ _ hg7.2.2.2.2.1).mono ?_; rintro e w8 ⟨rfl, rfl⟩; go_wp2_with fail
  refine hK.out _ _ ⟨hg7, hcq _ hg7⟩ (fun hHeld => ?_)
  clear hK K
  (try simp only [Act.put, List.setIfInBounds_toArray, List.set_cons_zero, List.set_cons_succ])
  refine take_first 24 (v := ?_) rfl (by kernel_rfl) (by kernel_rfl) (by kernel_rfl) (fun _ _ _ h => h) (Or.inl ⟨by rfl, by intro wx hSw; (try dsimp only at hSw); go_simp; try with_reducible rfl⟩) (by assumption) ?_
  (try simp only [Act.put, List.setIfInBounds_toArray, List.set_cons_zero, List.set_cons_succ])
  refine take_first 25 (v := ?_) rfl (by kernel_rfl) (by kernel_rfl) (by kernel_rfl) (fun _ _ _ h => h) (Or.inl ⟨by rfl, by intro wx hSw; (try dsimp only at hSw); go_simp; try with_reducible rfl⟩) (by assumption) ?_
  (try simp only [Act.put, List.setIfInBounds_toArray, List.set_cons_zero, List.set_cons_succ])
  refine take_first 26 (v := ?_) rfl (by kernel_rfl) (by kernel_rfl) (by kernel_rfl) (fun _ _ _ h => h) (Or.inl ⟨by rfl, by intro wx hSw; (try dsimp only at hSw); go_simp; try with_reducible rfl⟩) (by assumption) ?_
  (try simp only [Act.put, List.setIfInBounds_toArray, List.set_cons_zero, List.set_cons_succ])
  refine take_first 27 (v := ?_) rfl (by kernel_rfl) (by kernel_rfl) (by kernel_rfl) (fun _ _ _ h => h) (Or.inl ⟨by rfl, by intro wx hSw; (try dsimp only at hSw); go_simp; try with_reducible rfl⟩) (by assumption) ?_
  (try simp only [Act.put, List.setIfInBounds_toArray, List.set_cons_zero, List.set_cons_succ])
  refine comes_up 28 rfl (by kernel_rfl) (fun K hK => ?_)
  go_simp
  refine (bad_rd _ _ _ hg7.2.2.2.2.2.1).mono ?_; rintro e w8 ⟨rfl, rfl⟩; go_wp2_with fail
  refine hK.out _ _ ⟨hg7, hcq _ hg7⟩ (fun hHeld => ?_)
  clear hK K
  (try simp only [Act.put, List.setIfInBounds_toArray, List.set_cons_zero, List.set_cons_succ])
  refine take_first 29 (v := ?_) rfl (by kernel_rfl) (by kernel_rfl) (by kernel_rfl) (fun _ _ _ h => h) (Or.inl ⟨by rfl, by intro wx hSw; (try dsimp only at hSw); go_simp; try with_reducible rfl⟩) (by assumption) ?_
  (try simp only [Act.put, List.setIfInBounds_toArray, List.set_cons_zero, List.set_cons_succ])
  refine take_first 30 (v := ?_) rfl (by kernel_rfl) (by kernel_rfl) (by kernel_rfl) (fun _ _ _ h => h) (Or.inl ⟨by rfl, by intro wx hSw; (try dsimp only at hSw); go_simp; try with_reducible rfl⟩) (by assumption) ?_
  (try simp only [Act.put, List.setIfInBounds_toArray, List.set_cons_zero, List.set_cons_succ])
  refine wpAnyH_done (by kernel_rfl) ?_ _
  refine NoPanic.normal ?_
  go_wp2
  go_ret
  exact ⟨rfl, hg7.2.2.2.2.2.2⟩

set_option maxRecDepth 100000 in
theorem lifted (os : Os) (started : os.Started) (H : Type) (enc : TypeId × Value → H) :
    ReturnsInHanded {} Try.checked os 4 .any (Rows.codeBytesSpec.pre6 enc Try.prog Try.f4 Rows.codeBytesRow.domain false) (Rows.codeBytesSpec.post enc Try.prog Try.f4 false true false false) := by
  refine returnsInHanded_of_change_sized (C := Try.checked) own started (by kernel_rfl) Try.func4
    (ChangeSpec.witness6 (enc := enc) (C := Try.checked) false ⟨#[], #[.slice none 0 0, .slice none 0 0], []⟩ 8 (by kernel_rfl) (by kernel_rfl) (by kernel_rfl) (by kernel_rfl)) ?_
  intro W base args ds gs before hval0 hW hcnd hsz0 _
  have hsz : (DataW.weightsEach Try.prog (Try.f4.params.toList ++ Rows.codeBytesSpec.plain.varTypes Try.prog) (ds ++ gs)).all (· ≤ reachBytes) = true := hsz0
  have hval : ∀ (j : Nat) t v, Try.f4.params[j]? = some t → args[j]? = some v → Value.okWide Try.prog W .any base t v := hval0
  have hW' := hW
  obtain ⟨p, q, hA0, hV, rfl, hfz, hnd⟩ := hW
  have hA : DataW.TrodAll enc Try.prog W 0 (fun _ => true) true Try.f4.params.toList args.toList ds p := hA0
  rw [Try.params4] at hA hval hsz
  obtain ⟨v0, vs0, d0, ds0, p0, q0, hargs, rfl, rfl, h0, r0⟩ := trodAll_cons hA
  obtain ⟨v1, vs1, d1, ds1, p1, q1, rfl, rfl, rfl, h1, r1⟩ := trodAll_cons r0
  obtain ⟨rfl, rfl, rfl⟩ := trodAll_nil r1
  obtain rfl : args = #[v0, v1] := by cases args; simp_all
  obtain ⟨rfl, rfl⟩ := trodVars_none hV
  obtain ⟨a0, len0, cap0, rfl⟩ := okWide_slice Try.underlying22 (hval 0 22 v0 rfl rfl)
  obtain ⟨a1, len1, cap1, rfl⟩ := okWide_slice Try.underlying22 (hval 1 22 v1 rfl rfl)
  have k0 := h0
  have lt0 : ∀ x ∈ p0, x.block < W.heap.size := by obtain ⟨m, hm⟩ := k0; exact DataW.trod_lt m _ _ _ hm
  have k1 := h1
  have lt1 : ∀ x ∈ p1, x.block < W.heap.size := by obtain ⟨m, hm⟩ := k1; exact DataW.trod_lt m _ _ _ hm
  obtain ⟨xs, hrow0, hcap0⟩ := open_bytes h0 hsz (j := 0) rfl rfl
  obtain ⟨ys, hrow1, hcap1⟩ := open_bytes h1 hsz (j := 1) rfl rfl
  clear hA0 hval0
  have fin : Calls Try.prog 4 #[.slice a0 len0 cap0, .slice a1 len1 cap1] W fun e w' => e = .returned (.bool true) ∧ Below W.heap.size W w' := by
    by_cases hm : len1 ≤ 100000
    · exact walk W a0 len0 cap0 xs hrow0 a1 len1 cap1 ys hrow1 (by have := hrow0.2.1; omega) hm
    · exact walk_long W a0 len0 cap0 a1 len1 cap1 (by omega) hrow1.2.1 hrow1.2.2.1
  refine fin.mono fun e W' ⟨he, bel⟩ => ?_
  subst he
  exact ⟨_, rfl, _, _, _, [], _, [], hW', trodAll_mk1 (shut_bool Try.underlying4 _), (trodAll_cons_mk (Below.trod laidOut (by kernel_rfl) (of_decide_eq_true (by kernel_rfl)) k0 bel lt0) (trodAll_cons_mk (Below.trod laidOut (by kernel_rfl) (of_decide_eq_true (by kernel_rfl)) k1 bel lt1) trodAll_mk0)), rfl, bel.frame _, fun h => by cases h⟩

theorem over : Rows.codeBytesRow.holds Try.pinned (OpenSpec.ofChange Rows.codeBytesSpec) :=
  OpenClaim.holds_of_wide 4 Try.f4 rfl rfl rfl rfl rfl rfl rfl ⟨rfl, rfl, rfl, rfl, rfl⟩ rfl rfl rfl rfl rfl (by kernel_rfl) Try.func4 (by kernel_rfl)
    (of_decide_eq_true (by kernel_rfl)) (by unfold Func.isWrapper; first | (rw [if_pos (by decide +kernel)]; kernel_rfl) | (rw [if_neg (by decide +kernel)]; exact ⟨rfl, rfl⟩))
    (fun os started H enc _ => lifted os started H enc)

end Go.Proofs.Ytlnphniokaclcaa.codeBytes
namespace Go.Proofs.Ytlnphniokaclcaa
theorem codeBytes_holds : Rows.CodeBytesSaid := codeBytes.over
#print axioms codeBytes_holds
end Go.Proofs.Ytlnphniokaclcaa
