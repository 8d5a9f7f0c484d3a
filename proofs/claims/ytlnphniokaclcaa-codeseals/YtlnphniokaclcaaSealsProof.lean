/-
  Proved: for all bytes p and q, CodeSeals(p, q) returns true: bytes are sealed and opened again, and any bytes are opened as the document says. No condition.
-/
import Derived.Test.YtlnphniokaclcaaArgs
import Derived.Test.YtlnphniokaclcaaRefOpen
namespace Go.Proofs.Ytlnphniokaclcaa.codeSeals
open Go.ChangeShapes Go.WideShapes Go.ChangeAt Go.RowKit
open Go.ChangeMaps (open_string shut_string)
set_option linter.unusedVariables false
set_option linter.unusedSimpArgs false

theorem open_all (w : World) (ao : Option Addr) (n cap : Nat) (xs : List UInt8) (h : Row w ao n cap xs) (hr : n ≤ 140737488355328) :
    Calls Try.prog 29 #[.slice ao n cap] w fun e w' => ∃ vo vc, e = .returned (.tuple #[.slice vo (opened xs).2.length vc, .int .i64 ((opened xs).1 : Nat)]) ∧ Row w' vo (opened xs).2.length vc (opened xs).2 ∧ Below w.heap.size w w' := by
  by_cases h4 : 4 ≤ n
  · refine (open_long w ao n cap xs h h4 hr).mono ?_
    rintro e w' ⟨v, rfl, hown, hb⟩
    obtain ⟨vo, vc, rfl, hrow, _⟩ := owns_row hown
    exact ⟨vo, vc, rfl, hrow, hb⟩
  · refine (open_short w ao n cap (by omega) h.2.2.1).mono ?_
    rintro e w' ⟨rfl, rfl⟩
    have : opened xs = (3, []) := by unfold opened; rw [if_pos (by have := h.1; omega)]
    rw [this]
    exact ⟨none, 0, rfl, ⟨rfl, Nat.le_refl _, by unfold maxLen; omega, fun _ => ⟨rfl, rfl⟩, fun a ha => (by cases ha)⟩, Below.refl _ _⟩
theorem refOpen_all (w : World) (ao : Option Addr) (n cap : Nat) (xs : List UInt8) (h : Row w ao n cap xs) (hr : n ≤ 140737488355328) :
    Calls Try.prog 30 #[.slice ao n cap] w fun e w' => ∃ vo vc, e = .returned (.tuple #[.slice vo (opened xs).2.length vc, .int .i64 ((opened xs).1 : Nat)]) ∧ Row w' vo (opened xs).2.length vc (opened xs).2 ∧ Below w.heap.size w w' := by
  by_cases h4 : 4 ≤ n
  · exact refOpen_long w ao n cap xs h h4 hr
  · refine (refOpen_short w ao n cap (by omega)).mono ?_
    rintro e w' ⟨rfl, rfl⟩
    have : opened xs = (3, []) := by unfold opened; rw [if_pos (by have := h.1; omega)]
    rw [this]
    exact ⟨none, 0, rfl, ⟨rfl, Nat.le_refl _, by unfold maxLen; omega, fun _ => ⟨rfl, rfl⟩, fun a ha => (by cases ha)⟩, Below.refl _ _⟩
theorem opened_seal (xs : List UInt8) : opened (xs ++ le4 (crcSum xs)) = (0, xs) := by
  have hl : (xs ++ le4 (crcSum xs)).length = xs.length + 4 := by rw [List.length_append, le4_len]
  unfold opened
  rw [if_neg (by omega), hl, show xs.length + 4 - 4 = xs.length by omega, List.take_left, List.drop_left, if_pos rfl]

def Good (w wx : World) (so : Option Addr) (sn sc : Nat) (ss : List UInt8) (oo : Option Addr) (oc : Nat) (ao : Option Addr) (n cap : Nat) (xs : List UInt8) (co : Option Addr) (cn cc : Nat) (d : Option Addr) (dc : Nat) (ys : List UInt8) : Prop :=
  Row wx so sn sc ss ∧ Row wx oo n oc xs ∧ Row wx ao n cap xs ∧ Row wx co cn cc ys ∧ Row wx d cn dc ys ∧ Below w.heap.size w wx
theorem Good.below {w wx wy : World} {so : Option Addr} {sn sc : Nat} {ss : List UInt8} {oo : Option Addr} {oc : Nat} {ao : Option Addr} {n cap : Nat} {xs : List UInt8} {co : Option Addr} {cn cc : Nat} {d : Option Addr} {dc : Nat} {ys : List UInt8}
    (h : Good w wx so sn sc ss oo oc ao n cap xs co cn cc d dc ys) (hb : Below wx.heap.size wx wy) : Good w wy so sn sc ss oo oc ao n cap xs co cn cc d dc ys :=
  ⟨h.1.below hb (Nat.le_refl _), h.2.1.below hb (Nat.le_refl _), h.2.2.1.below hb (Nat.le_refl _), h.2.2.2.1.below hb (Nat.le_refl _), h.2.2.2.2.1.below hb (Nat.le_refl _), h.2.2.2.2.2.trans (hb.mono h.2.2.2.2.2.size)⟩

set_option maxRecDepth 10000 in
set_option maxHeartbeats 2000000 in
theorem walk (w : World) (ao : Option Addr) (n cap : Nat) (xs : List UInt8) (h : Row w ao n cap xs) (qo : Option Addr) (m qcap : Nat) (zs : List UInt8) (hz : Row w qo m qcap zs) (hr : n + 4 ≤ 140737488355328) (hr2 : m ≤ 140737488355328) :
    Calls Try.prog 6 #[.slice ao n cap, .slice qo m qcap] w fun e w' => e = .returned (.bool true) ∧ Below w.heap.size w w' := by
  have HO : Hid (opened (xs ++ le4 (crcSum xs)) = (0, xs)) := opened_seal xs
  have hlen := h.1
  obtain ⟨S, hS⟩ : ∃ S, S = crcSum xs := ⟨_, rfl⟩
  have hSl := crcSum_lt xs
  go_enter Try.func6, Try.ntmps6
  go_wp2_with fail
  refine (awake_any _).mono ?_
  rintro e w1 ⟨rfl, hb1⟩
  have hs1 := hb1.size
  have h1 := h.below hb1 (Nat.le_refl _)
  have hz1 := hz.below hb1 (Nat.le_refl _)
  go_wp2_with fail
  refine (sum_any _ _ _ _ _ h1).mono ?_
  rintro e w2 ⟨rfl, rfl⟩
  go_wp2_with fail
  refine (refSum_any _ _ _ _ _ h1).mono ?_
  rintro e w2 ⟨rfl, rfl⟩
  go_wp2_with fail
  refine (seal_any _ _ _ _ _ h1 hr).mono ?_
  rintro e w3 ⟨v3, rfl, hown3, hb3⟩
  have hs3 := hb3.size
  obtain ⟨ss, hss⟩ : ∃ ss, ss = xs ++ le4 (crcSum xs) := ⟨_, rfl⟩
  rw [← hss] at hown3 HO
  obtain ⟨so, sc, hv3, hrow3, _⟩ := owns_row hown3
  rw [hv3]
  have h3 := h1.below hb3 (Nat.le_refl _)
  have hz3 := hz1.below hb3 (Nat.le_refl _)
  clear hown3 hv3
  go_wp2_with fail
  refine (open_all _ _ _ _ _ hrow3 (by omega)).mono ?_
  rw [HO.out]
  rintro e w4 ⟨oo, oc, rfl, hrow4, hb4⟩
  have hs4 := hb4.size
  have hrow4' : Row w4 oo n oc xs := by have := hrow4; simp only [hlen] at this; exact this
  simp only [hlen]
  have h4 := h3.below hb4 (Nat.le_refl _)
  have hz4 := hz3.below hb4 (Nat.le_refl _)
  have hss4 := hrow3.below hb4 (Nat.le_refl _)
  go_wp2_with fail
  refine (open_all _ _ _ _ _ hz4 hr2).mono ?_
  rintro e w5 ⟨co, cc, rfl, hrow5, hb5⟩
  have hs5 := hb5.size
  have hz5 := hz4.below hb5 (Nat.le_refl _)
  go_wp2_with fail
  refine (refOpen_all _ _ _ _ _ hz5 hr2).mono ?_
  rintro e w6 ⟨d, dc, rfl, hrow6, hb6⟩
  have hs6 := hb6.size
  obtain ⟨E, hE⟩ : ∃ E, E = (opened zs).1 := ⟨_, rfl⟩
  obtain ⟨ys, hys⟩ : ∃ ys, ys = (opened zs).2 := ⟨_, rfl⟩
  rw [← hys] at hrow5 hrow6
  rw [← hE, ← hys]
  have hb46 : Below w4.heap.size w4 w6 := hb5.trans (hb6.mono hs5)
  have hgd0 : Good w w6 so (n + 4) sc ss oo oc ao n cap xs co ys.length cc d dc ys :=
    ⟨hss4.below hb46 (Nat.le_refl _), hrow4'.below hb46 (Nat.le_refl _), h4.below hb46 (Nat.le_refl _), hrow5.below hb6 (Nat.le_refl _), hrow6, hb1.trans ((hb3.trans ((hb4.trans (hb46.mono hs4)).mono hs3)).mono hs1)⟩
  have hgd : Good w w6.drew so (n + 4) sc ss oo oc ao n cap xs co ys.length cc d dc ys := hgd0.below (Below.refl _ _).drew
  have hcq : ∀ wx, Good w wx so (n + 4) sc ss oo oc ao n cap xs co ys.length cc d dc ys → (convert 22 9 (.slice so (n + 4) sc)).run Try.prog wx = .ok (.string (str ss)) wx ∧ (convert 22 9 (.slice oo n oc)).run Try.prog wx = .ok (.string (str xs)) wx ∧ (convert 22 9 (.slice ao n cap)).run Try.prog wx = .ok (.string (str xs)) wx ∧ (convert 22 9 (.slice co ys.length cc)).run Try.prog wx = .ok (.string (str ys)) wx ∧ (convert 22 9 (.slice d ys.length dc)).run Try.prog wx = .ok (.string (str ys)) wx :=
    fun wx hx => ⟨conv_row hx.1, conv_row hx.2.1, conv_row hx.2.2.1, conv_row hx.2.2.2.1, conv_row hx.2.2.2.2.1⟩
  have HSS : Hid (ss = xs ++ le4 (crcSum xs)) := hss
  clear hb1 hb3 hb4 hb5 hb6 hb46 hrow3 hrow4 hrow4' hrow5 hrow6 hss4 h1 h3 h4 hz1 hz3 hz4 hz5 h hz HO hgd0 hE hys hss hS
  go_wp2
  refine wp_region_noPanic ?_
  refine wp_region_held_drew (S := (fun wx => Good w wx so (n + 4) sc ss oo oc ao n cap xs co ys.length cc d dc ys ∧ (convert 22 9 (.slice so (n + 4) sc)).run Try.prog wx = .ok (.string (str ss)) wx ∧ (convert 22 9 (.slice oo n oc)).run Try.prog wx = .ok (.string (str xs)) wx ∧ (convert 22 9 (.slice ao n cap)).run Try.prog wx = .ok (.string (str xs)) wx ∧ (convert 22 9 (.slice co ys.length cc)).run Try.prog wx = .ok (.string (str ys)) wx ∧ (convert 22 9 (.slice d ys.length dc)).run Try.prog wx = .ok (.string (str ys)) wx)) (by kernel_rfl) ⟨hgd, hcq _ hgd⟩ (fun hHeld => ?_)
  refine take_first 0 (v := ?_) rfl (by kernel_rfl) (by kernel_rfl) (by kernel_rfl) (fun _ _ _ h => h) (Or.inl ⟨by rfl, by intro wx hSw; (try dsimp only at hSw); go_simp; try with_reducible rfl⟩) (by assumption) ?_
  (try simp only [Act.put, List.setIfInBounds_toArray, List.set_cons_zero, List.set_cons_succ])
  refine take_first 1 (v := ?_) rfl (by kernel_rfl) (by kernel_rfl) (by kernel_rfl) (fun _ _ _ h => h) (Or.inl ⟨by rfl, by intro wx hSw; (try dsimp only at hSw); go_simp; try with_reducible rfl⟩) (by assumption) ?_
  (try simp only [Act.put, List.setIfInBounds_toArray, List.set_cons_zero, List.set_cons_succ])
  refine take_first 2 (v := ?_) rfl (by kernel_rfl) (by kernel_rfl) (by kernel_rfl) (fun _ _ _ h => h) (Or.inl ⟨by rfl, by intro wx hSw; (try dsimp only at hSw); go_simp; try with_reducible rfl⟩) (by assumption) ?_
  (try simp only [Act.put, List.setIfInBounds_toArray, List.set_cons_zero, List.set_cons_succ])
  refine comes_up 3 rfl (by kernel_rfl) (fun K hK => ?_)
  go_simp
  refine (refSeal_any _ _ _ _ _ hgd.2.2.1 hr).mono ?_; rintro e w7 ⟨v7, rfl, hown7, hb7⟩; have hg7 := hgd.below hb7; obtain ⟨ao7, cap7, hv7, hrow7, _⟩ := owns_row hown7; rw [hv7]; have hc7 := conv_row hrow7; rw [← HSS.out] at hc7; clear hown7 hrow7 hv7; go_wp2_with fail
  refine hK.out _ _ ⟨hg7, hcq _ hg7⟩ (fun hHeld => ?_)
  clear hK K
  (try simp only [Act.put, List.setIfInBounds_toArray, List.set_cons_zero, List.set_cons_succ])
  refine comes_up 4 rfl (by kernel_rfl) (fun K hK => ?_)
  go_simp
  refine hK.out _ _ ⟨hg7, hcq _ hg7⟩ (fun hHeld => ?_)
  clear hK K
  (try simp only [Act.put, List.setIfInBounds_toArray, List.set_cons_zero, List.set_cons_succ])
  refine take_first 5 (v := ?_) rfl (by kernel_rfl) (by kernel_rfl) (by kernel_rfl) (fun _ _ _ h => h) (Or.inl ⟨by rfl, by intro wx hSw; (try dsimp only at hSw); go_simp; try with_reducible rfl⟩) (by assumption) ?_
  (try simp only [Act.put, List.setIfInBounds_toArray, List.set_cons_zero, List.set_cons_succ])
  refine take_first 6 (v := ?_) rfl (by kernel_rfl) (by kernel_rfl) (by kernel_rfl) (fun _ _ _ h => h) (Or.inl ⟨by rfl, by intro wx hSw; (try dsimp only at hSw); go_simp; try with_reducible rfl⟩) (by assumption) ?_
  (try simp only [Act.put, List.setIfInBounds_toArray, List.set_cons_zero, List.set_cons_succ])
  refine take_first 7 (v := ?_) rfl (by kernel_rfl) (by kernel_rfl) (by kernel_rfl) (fun _ _ _ h => h) (Or.inl ⟨by rfl, by intro wx hSw; (try dsimp only at hSw); go_simp; try with_reducible rfl⟩) (by assumption) ?_
  (try simp only [Act.put, List.setIfInBounds_toArray, List.set_cons_zero, List.set_cons_succ])
  refine take_first 8 (v := ?_) rfl (by kernel_rfl) (by kernel_rfl) (by kernel_rfl) (fun _ _ _ h => h) (Or.inl ⟨by rfl, by intro wx hSw; (try dsimp only at hSw); go_simp; try with_reducible rfl⟩) (by assumption) ?_
  (try simp only [Act.put, List.setIfInBounds_toArray, List.set_cons_zero, List.set_cons_succ])
  refine take_first 9 (v := ?_) rfl (by kernel_rfl) (by kernel_rfl) (by kernel_rfl) (fun _ _ _ h => h) (Or.inl ⟨by rfl, by intro wx hSw; (try dsimp only at hSw); go_simp; try with_reducible rfl⟩) (by assumption) ?_
  (try simp only [Act.put, List.setIfInBounds_toArray, List.set_cons_zero, List.set_cons_succ])
  refine take_first 10 (v := ?_) rfl (by kernel_rfl) (by kernel_rfl) (by kernel_rfl) (fun _ _ _ h => h) (Or.inl ⟨by rfl, by intro wx hSw; (try dsimp only at hSw); go_simp; try with_reducible rfl⟩) (by assumption) ?_
  (try simp only [Act.put, List.setIfInBounds_toArray, List.set_cons_zero, List.set_cons_succ])
  refine take_first 11 (v := ?_) rfl (by kernel_rfl) (by kernel_rfl) (by kernel_rfl) (fun _ _ _ h => h) (Or.inl ⟨by rfl, by intro wx hSw; (try dsimp only at hSw); go_simp; try with_reducible rfl⟩) (by assumption) ?_
  (try simp only [Act.put, List.setIfInBounds_toArray, List.set_cons_zero, List.set_cons_succ])
  refine take_first 12 (v := ?_) rfl (by kernel_rfl) (by kernel_rfl) (by kernel_rfl) (fun _ _ _ h => h) (Or.inl ⟨by rfl, by intro wx hSw; (try dsimp only at hSw); go_simp; try with_reducible rfl⟩) (by assumption) ?_
  (try simp only [Act.put, List.setIfInBounds_toArray, List.set_cons_zero, List.set_cons_succ])
  refine take_first 13 (v := ?_) rfl (by kernel_rfl) (by kernel_rfl) (by kernel_rfl) (fun _ _ _ h => h) (Or.inl ⟨by rfl, by intro wx hSw; (try dsimp only at hSw); go_simp; try with_reducible rfl⟩) (by assumption) ?_
  (try simp only [Act.put, List.setIfInBounds_toArray, List.set_cons_zero, List.set_cons_succ])
  refine take_first 14 (v := ?_) rfl (by kernel_rfl) (by kernel_rfl) (by kernel_rfl) (fun _ _ _ h => h) (Or.inl ⟨by rfl, by intro wx hSw; (try dsimp only at hSw); go_simp; try with_reducible rfl⟩) (by assumption) ?_
  (try simp only [Act.put, List.setIfInBounds_toArray, List.set_cons_zero, List.set_cons_succ])
  refine take_first 15 (v := ?_) rfl (by kernel_rfl) (by kernel_rfl) (by kernel_rfl) (fun _ _ _ h => h) (Or.inl ⟨by rfl, by intro wx hSw; (try dsimp only at hSw); go_simp; try with_reducible rfl⟩) (by assumption) ?_
  (try simp only [Act.put, List.setIfInBounds_toArray, List.set_cons_zero, List.set_cons_succ])
  refine take_first 16 (v := ?_) rfl (by kernel_rfl) (by kernel_rfl) (by kernel_rfl) (fun _ _ _ h => h) (Or.inl ⟨by rfl, by intro wx hSw; (try dsimp only at hSw); go_simp; try with_reducible rfl⟩) (by assumption) ?_
  (try simp only [Act.put, List.setIfInBounds_toArray, List.set_cons_zero, List.set_cons_succ])
  refine take_first 17 (v := ?_) rfl (by kernel_rfl) (by kernel_rfl) (by kernel_rfl) (fun _ _ _ h => h) (Or.inl ⟨by rfl, by intro wx hSw; (try dsimp only at hSw); go_simp; try with_reducible rfl⟩) (by assumption) ?_
  (try simp only [Act.put, List.setIfInBounds_toArray, List.set_cons_zero, List.set_cons_succ])
  refine take_first 18 (v := ?_) rfl (by kernel_rfl) (by kernel_rfl) (by kernel_rfl) (fun _ _ _ h => h) (Or.inl ⟨by rfl, by intro wx hSw; (try dsimp only at hSw); go_simp; try with_reducible rfl⟩) (by assumption) ?_
  (try simp only [Act.put, List.setIfInBounds_toArray, List.set_cons_zero, List.set_cons_succ])
  refine take_first 19 (v := ?_) rfl (by kernel_rfl) (by kernel_rfl) (by kernel_rfl) (fun _ _ _ h => h) (Or.inl ⟨by rfl, by intro wx hSw; (try dsimp only at hSw); go_simp; try with_reducible rfl⟩) (by assumption) ?_
  (try simp only [Act.put, List.setIfInBounds_toArray, List.set_cons_zero, List.set_cons_succ])
  refine take_first 20 (v := ?_) rfl (by kernel_rfl) (by kernel_rfl) (by kernel_rfl) (fun _ _ _ h => h) (Or.inl ⟨by rfl, by intro wx hSw; (try dsimp only at hSw); go_simp; try with_reducible rfl⟩) (by assumption) ?_
  (try simp only [Act.put, List.setIfInBounds_toArray, List.set_cons_zero, List.set_cons_succ])
  refine take_first 21 (v := ?_) rfl (by kernel_rfl) (by kernel_rfl) (by kernel_rfl) (fun _ _ _ h => h) (Or.inl ⟨by rfl, by intro wx hSw; (try dsimp only at hSw); go_simp; try with_reducible rfl⟩) (by assumption) ?_
  (try simp only [Act.put, List.setIfInBounds_toArray, List.set_cons_zero, List.set_cons_succ])
  refine take_first 22 (v := ?_) rfl (by kernel_rfl) (by kernel_rfl) (by kernel_rfl) (fun _ _ _ h => h) (Or.inl ⟨by rfl, by intro wx hSw; (try dsimp only at hSw); go_simp; try with_reducible rfl⟩) (by assumption) ?_
  (try simp only [Act.put, List.setIfInBounds_toArray, List.set_cons_zero, List.set_cons_succ])
  refine take_first 23 (v := ?_) rfl (by kernel_rfl) (by kernel_rfl) (by kernel_rfl) (fun _ _ _ h => h) (Or.inl ⟨by rfl, by intro wx hSw; (try dsimp only at hSw); go_simp; try with_reducible rfl⟩) (by assumption) ?_
  (try simp only [Act.put, List.setIfInBounds_toArray, List.set_cons_zero, List.set_cons_succ])
  refine take_first 24 (v := ?_) rfl (by kernel_rfl) (by kernel_rfl) (by kernel_rfl) (fun _ _ _ h => h) (Or.inl ⟨by rfl, by intro wx hSw; (try dsimp only at hSw); go_simp; try with_reducible rfl⟩) (by assumption) ?_
  (try simp only [Act.put, List.setIfInBounds_toArray, List.set_cons_zero, List.set_cons_succ])
  refine take_first 25 (v := ?_) rfl (by kernel_rfl) (by kernel_rfl) (by kernel_rfl) (fun _ _ _ h => h) (Or.inl ⟨by rfl, by intro wx hSw; (try dsimp only at hSw); go_simp; try with_reducible rfl⟩) (by assumption) ?_
  (try simp only [Act.put, List.setIfInBounds_toArray, List.set_cons_zero, List.set_cons_succ])
  refine take_first 26 (v := ?_) rfl (by kernel_rfl) (by kernel_rfl) (by kernel_rfl) (fun _ _ _ h => h) (Or.inl ⟨by rfl, by intro wx hSw; (try dsimp only at hSw); go_simp; try with_reducible rfl⟩) (by assumption) ?_
  (try simp only [Act.put, List.setIfInBounds_toArray, List.set_cons_zero, List.set_cons_succ])
  refine take_first 27 (v := ?_) rfl (by kernel_rfl) (by kernel_rfl) (by kernel_rfl) (fun _ _ _ h => h) (Or.inl ⟨by rfl, by intro wx hSw; (try dsimp only at hSw); go_simp; try with_reducible rfl⟩) (by assumption) ?_
  (try simp only [Act.put, List.setIfInBounds_toArray, List.set_cons_zero, List.set_cons_succ])
  refine take_first 28 (v := ?_) rfl (by kernel_rfl) (by kernel_rfl) (by kernel_rfl) (fun _ _ _ h => h) (Or.inl ⟨by rfl, by intro wx hSw; (try dsimp only at hSw); go_simp; try with_reducible rfl⟩) (by assumption) ?_
  (try simp only [Act.put, List.setIfInBounds_toArray, List.set_cons_zero, List.set_cons_succ])
  refine take_first 29 (v := ?_) rfl (by kernel_rfl) (by kernel_rfl) (by kernel_rfl) (fun _ _ _ h => h) (Or.inl ⟨by rfl, by intro wx hSw; (try dsimp only at hSw); go_simp; try with_reducible rfl⟩) (by assumption) ?_
  (try simp only [Act.put, List.setIfInBounds_toArray, List.set_cons_zero, List.set_cons_succ])
  refine wpAnyH_done (by kernel_rfl) ?_ _
  refine NoPanic.normal ?_
  go_wp2
  go_ret
  exact ⟨rfl, hg7.2.2.2.2.2⟩

set_option maxRecDepth 100000 in
theorem lifted (os : Os) (started : os.Started) (H : Type) (enc : TypeId × Value → H) :
    ReturnsInHanded {} Try.checked os 6 .any (Rows.codeSealsSpec.pre6 enc Try.prog Try.f6 Rows.codeSealsRow.domain false) (Rows.codeSealsSpec.post enc Try.prog Try.f6 false true false false) := by
  refine returnsInHanded_of_change_sized (C := Try.checked) own started (by kernel_rfl) Try.func6
    (ChangeSpec.witness6 (enc := enc) (C := Try.checked) false ⟨#[], #[.slice none 0 0, .slice none 0 0], []⟩ 8 (by kernel_rfl) (by kernel_rfl) (by kernel_rfl) (by kernel_rfl)) ?_
  intro W base args ds gs before hval0 hW hcnd hsz0 _
  have hsz : (DataW.weightsEach Try.prog (Try.f6.params.toList ++ Rows.codeSealsSpec.plain.varTypes Try.prog) (ds ++ gs)).all (· ≤ reachBytes) = true := hsz0
  have hval : ∀ (j : Nat) t v, Try.f6.params[j]? = some t → args[j]? = some v → Value.okWide Try.prog W .any base t v := hval0
  have hW' := hW
  obtain ⟨p, q, hA0, hV, rfl, hfz, hnd⟩ := hW
  have hA : DataW.TrodAll enc Try.prog W 0 (fun _ => true) true Try.f6.params.toList args.toList ds p := hA0
  rw [Try.params6] at hA hval hsz
  obtain ⟨v0, vs0, d0, ds0, p0, q0, hargs, rfl, rfl, h0, r0⟩ := trodAll_cons hA
  obtain ⟨v1, vs1, d1, ds1, p1, q1, rfl, rfl, rfl, h1, r1⟩ := trodAll_cons r0
  obtain ⟨rfl, rfl, rfl⟩ := trodAll_nil r1
  obtain rfl : args = #[v0, v1] := by cases args; simp_all
  obtain ⟨rfl, rfl⟩ := trodVars_none hV
  obtain ⟨a0, len0, cap0, rfl⟩ := okWide_slice Try.underlying22 (hval 0 22 v0 rfl rfl)
  obtain ⟨a1, len1, cap1, rfl⟩ := okWide_slice Try.underlying22 (hval 1 22 v1 rfl rfl)
  have k0 := h0
  have lt0 : ∀ x ∈ p0, x.block < W.heap.size := by obtain ⟨m, hm⟩ := k0; exact DataW.trod_lt m _ _ _ hm
  have k1 := h1
  have lt1 : ∀ x ∈ p1, x.block < W.heap.size := by obtain ⟨m, hm⟩ := k1; exact DataW.trod_lt m _ _ _ hm
  obtain ⟨xs, hrow0, hcap0⟩ := open_bytes h0 hsz (j := 0) rfl rfl
  obtain ⟨ys, hrow1, hcap1⟩ := open_bytes h1 hsz (j := 1) rfl rfl
  clear hA0 hval0
  have fin := walk W a0 len0 cap0 xs hrow0 a1 len1 cap1 ys hrow1 (by have := hrow0.2.1; omega) (by have := hrow1.2.1; omega)
  refine fin.mono fun e W' ⟨he, bel⟩ => ?_
  subst he
  exact ⟨_, rfl, _, _, _, [], _, [], hW', trodAll_mk1 (shut_bool Try.underlying4 _), (trodAll_cons_mk (Below.trod laidOut (by kernel_rfl) (of_decide_eq_true (by kernel_rfl)) k0 bel lt0) (trodAll_cons_mk (Below.trod laidOut (by kernel_rfl) (of_decide_eq_true (by kernel_rfl)) k1 bel lt1) trodAll_mk0)), rfl, bel.frame _, fun h => by cases h⟩

theorem over : Rows.codeSealsRow.holds Try.pinned (OpenSpec.ofChange Rows.codeSealsSpec) :=
  OpenClaim.holds_of_wide 6 Try.f6 rfl rfl rfl rfl rfl rfl rfl ⟨rfl, rfl, rfl, rfl, rfl⟩ rfl rfl rfl rfl rfl (by kernel_rfl) Try.func6 (by kernel_rfl)
    (of_decide_eq_true (by kernel_rfl)) (by unfold Func.isWrapper; first | (rw [if_pos (by decide +kernel)]; kernel_rfl) | (rw [if_neg (by decide +kernel)]; exact ⟨rfl, rfl⟩))
    (fun os started H enc _ => lifted os started H enc)

end Go.Proofs.Ytlnphniokaclcaa.codeSeals
namespace Go.Proofs.Ytlnphniokaclcaa
theorem codeSeals_holds : Rows.CodeSealsSaid := codeSeals.over
#print axioms codeSeals_holds
end Go.Proofs.Ytlnphniokaclcaa
