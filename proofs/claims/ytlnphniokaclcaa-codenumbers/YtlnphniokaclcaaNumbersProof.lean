/-
  Proved: for all bytes p and every number n, CodeNumbers(p, n) returns true: the number is written behind the bytes, and read back. No condition.
-/
import Derived.Test.YtlnphniokaclcaaArgs
import Derived.Test.YtlnphniokaclcaaRefUint
import Derived.Test.YtlnphniokaclcaaRegion
import Derived.RegionTactic
namespace Go.Proofs.Ytlnphniokaclcaa.codeNumbers
open Go.ChangeShapes Go.WideShapes Go.ChangeAt Go.RowKit
open Go.ChangeMaps (open_string shut_string)
set_option linter.unusedVariables false
set_option linter.unusedSimpArgs false
def Good (w wx : World) (r g n cq cap : Nat) (ao : Option Addr) (xs es : List UInt8) : Prop :=
  Row wx (some ⟨g, 0, none⟩) (n + es.length) cq (xs ++ es) ∧ Row wx ao n cap xs ∧ Rd wx r (some []) ∧ Below w.heap.size w wx
theorem rd_below {w w' : World} {r : Nat} {st : Option (List UInt8)} (h : Rd w r st) (hb : Below w.heap.size w w') : Rd w' r st := by
  cases st with
  | none =>
    show w'.heap[r]? = _
    rw [hb.block r (Array.getElem?_eq_some_iff.1 h).1]
    exact h
  | some xs =>
    obtain ⟨ao, n, cap, hr, hrow⟩ := h
    exact ⟨ao, n, cap, by rw [hb.block r (Array.getElem?_eq_some_iff.1 hr).1]; exact hr, hrow.below hb (Nat.le_refl _)⟩
theorem Good.below {w wx wy : World} {r g n cq cap : Nat} {ao : Option Addr} {xs es : List UInt8} (h : Good w wx r g n cq cap ao xs es) (hb : Below wx.heap.size wx wy) : Good w wy r g n cq cap ao xs es :=
  ⟨h.1.below hb (Nat.le_refl _), h.2.1.below hb (Nat.le_refl _), rd_below h.2.2.1 hb, h.2.2.2.trans (hb.mono h.2.2.2.size)⟩
theorem str_append (xs es : List UInt8) : str xs ++ str es = str (xs ++ es) := by
  apply ByteArray.ext
  simp [str, ByteArray.data_append]
theorem str_size (xs : List UInt8) : (str xs).size = xs.length := by simp [str, ByteArray.size]
theorem add_run (w : World) (xs es : List UInt8) (h : xs.length + es.length ≤ 9223372036854775807) : (Op.stringOp .add (str xs) (str es)).run Try.prog w = .ok (.string (str (xs ++ es))) w := by
  have := run_string_add_sum (P := Try.prog) (w := w) (str xs) (str es) (by rw [str_size, str_size]; exact h)
  rw [str_append] at this
  exact this

set_option maxRecDepth 10000 in
set_option maxHeartbeats 1000000 in
theorem walk (w : World) (ao : Option Addr) (n cap : Nat) (xs : List UInt8) (h : Row w ao n cap xs) (N : Nat) (hN : N < 18446744073709551616) (hr : n + 10 ≤ 140737488355328) :
    Calls Try.prog 3 #[.slice ao n cap, .int .u64 N] w fun e w' => e = .returned (.bool true) ∧ Below w.heap.size w w' := by
  have hen := enc_length N
  have hep := enc_pos N
  have hm := h.2.2.1
  unfold maxLen at hm
  have hle := h.2.1
  go_enter Try.func3, Try.ntmps3
  go_wp2_with (first | (go_at_call 11; refine (awake_any _).mono ?_; rintro e w1 ⟨rfl, hb1⟩))
  have h1 := h.below hb1 (Nat.le_refl _)
  refine (uint_any _ _ _ _ _ h1 N hN hr).mono ?_
  rintro e w2 ⟨v, rfl, hown, hb2⟩
  have hs1 := hb1.size
  have hs2 := hb2.size
  have hb : Below w.heap.size w w2 := hb1.trans (hb2.mono hs1)
  rcases hown.2 with ⟨_, h0⟩ | ⟨g, cq, cur, hv, hg, _, hc1, hc2, _, _⟩
  · omega
  unfold maxLen at hc2
  rw [hv]
  obtain ⟨ao', cap', hv', hrow, _⟩ := owns_row hown
  rw [hv] at hv'
  cases hv'
  have hxl : xs.length = n := h.1
  have hdrop : Row w2 (some ⟨g, n, none⟩) (enc N).length (cq - n) (enc N) := by
    have := hrow.drop_at n (by omega)
    rw [List.drop_left' hxl] at this
    simpa using this
  have HEN : Hid (rUint (some (enc N)) = (N, some [])) := by
    have := rd_enc N [] hN
    rw [List.append_nil] at this
    show rUint (some (enc N)) = (N, some [])
    simp [rUint, this]
  clear hown hv
  go_wp2_with fail
  refine (newReader_any _ _ _ _ _ hdrop (by omega)).mono ?_
  rintro e w3 ⟨r, rfl, hr3, hrd3, hb3⟩
  go_wp2_with fail
  refine (uint_rd _ _ _ hrd3).mono ?_
  rw [HEN.out]
  rintro e w4 ⟨rfl, hrd4, hg4⟩
  have hs3 := hb3.size
  have hb4 : Below w2.heap.size w2 w4 := hb3.grown hg4 hs3 (fun k hk => by simp at hk; omega)
  have hq4 := hrow.below hb4 (Nat.le_refl _)
  have hp4 : Row w4 ao n cap xs := (h1.below hb2 (Nat.le_refl _)).below hb4 (Nat.le_refl _)
  have hbw : Below w.heap.size w w4 := hb.trans (hb4.mono (by omega))
  have hgd : Good w w4.drew r g n cq cap ao xs (enc N) := Good.below (wx := w4) ⟨hq4, hp4, hrd4, hbw⟩ (Below.refl _ _).drew
  have hcq : ∀ wx, Good w wx r g n cq cap ao xs (enc N) → (convert 22 9 (.slice (some ⟨g, 0, none⟩) (n + (enc N).length) cq)).run Try.prog wx = .ok (.string (str (xs ++ enc N))) wx := fun wx hx => conv_row hx.1
  have hcp : ∀ wx, Good w wx r g n cq cap ao xs (enc N) → (convert 22 9 (.slice ao n cap)).run Try.prog wx = .ok (.string (str xs)) wx := fun wx hx => conv_row hx.2.1
  have hadd : ∀ wx, (Op.stringOp .add (str xs) (str (enc N))).run Try.prog wx = .ok (.string (str (xs ++ enc N))) wx := fun wx => add_run wx xs (enc N) (by omega)
  clear hb1 hb2 hb3 hb4 hg4 hrd3 hrow hdrop h1 hb h HEN hq4 hp4 hrd4 hbw
  go_wp2
  refine wp_region_noPanic ?_
  refine wp_region_held_drew (S := (fun wx => Good w wx r g n cq cap ao xs (enc N) ∧ (convert 22 9 (.slice (some ⟨g, 0, none⟩) (n + (enc N).length) cq)).run Try.prog wx = .ok (.string (str (xs ++ enc N))) wx ∧ (convert 22 9 (.slice ao n cap)).run Try.prog wx = .ok (.string (str xs)) wx)) (by kernel_rfl) ⟨hgd, hcq _ hgd, hcp _ hgd⟩ (fun hHeld => ?_)
  refine take_first 0 (v := ?_) rfl (by kernel_rfl) (by kernel_rfl) (by kernel_rfl) (fun _ _ _ h => h) (Or.inl ⟨by rfl, by intro wx hSw; (try dsimp only at hSw); go_simp; try with_reducible rfl⟩) (by assumption) ?_
  (try simp only [Act.put, List.setIfInBounds_toArray, List.set_cons_zero, List.set_cons_succ])
  refine take_first 1 (v := ?_) rfl (by kernel_rfl) (by kernel_rfl) (by kernel_rfl) (fun _ _ _ h => h) (Or.inl ⟨by rfl, by intro wx hSw; (try dsimp only at hSw); go_simp; try with_reducible rfl⟩) (by assumption) ?_
  (try simp only [Act.put, List.setIfInBounds_toArray, List.set_cons_zero, List.set_cons_succ])
  refine take_first 2 (v := ?_) rfl (by kernel_rfl) (by kernel_rfl) (by kernel_rfl) (fun _ _ _ h => h) (Or.inl ⟨by rfl, by intro wx hSw; (try dsimp only at hSw); go_simp; try with_reducible rfl⟩) (by assumption) ?_
  (try simp only [Act.put, List.setIfInBounds_toArray, List.set_cons_zero, List.set_cons_succ])
  refine take_first 3 (v := ?_) rfl (by kernel_rfl) (by kernel_rfl) (by kernel_rfl) (fun _ _ _ h => h) (Or.inl ⟨by rfl, by intro wx hSw; (try dsimp only at hSw); go_simp; try with_reducible rfl⟩) (by assumption) ?_
  (try simp only [Act.put, List.setIfInBounds_toArray, List.set_cons_zero, List.set_cons_succ])
  refine take_first 4 (v := ?_) rfl (by kernel_rfl) (by kernel_rfl) (by kernel_rfl) (fun _ _ _ h => h) (Or.inl ⟨by rfl, by intro wx hSw; (try dsimp only at hSw); go_simp; try with_reducible rfl⟩) (by assumption) ?_
  (try simp only [Act.put, List.setIfInBounds_toArray, List.set_cons_zero, List.set_cons_succ])
  refine comes_up 5 rfl (by kernel_rfl) (fun K hK => ?_)
  go_simp
  refine (refUint_any _ N hN).mono ?_; rintro e w5 ⟨v5, rfl, hown5, hb5⟩; have hg5 := hgd.below hb5; obtain ⟨ao5, cap5, hv5, hrow5, _⟩ := owns_row hown5; rw [hv5]; have hc5 := conv_row hrow5; clear hown5 hrow5 hv5; go_wp2_with fail
  refine hK.out _ _ ⟨hg5, hcq _ hg5, hcp _ hg5⟩ (fun hHeld => ?_)
  clear hK K
  (try simp only [Act.put, List.setIfInBounds_toArray, List.set_cons_zero, List.set_cons_succ])
  refine comes_up 6 rfl (by kernel_rfl) (fun K hK => ?_)
  go_simp
  refine hK.out _ _ ⟨hg5, hcq _ hg5, hcp _ hg5⟩ (fun hHeld => ?_)
  clear hK K
  (try simp only [Act.put, List.setIfInBounds_toArray, List.set_cons_zero, List.set_cons_succ])
  refine take_first 7 (v := ?_) rfl (by kernel_rfl) (by kernel_rfl) (by kernel_rfl) (fun _ _ _ h => h) (Or.inl ⟨by rfl, by intro wx hSw; (try dsimp only at hSw); go_simp; try with_reducible rfl⟩) (by assumption) ?_
  (try simp only [Act.put, List.setIfInBounds_toArray, List.set_cons_zero, List.set_cons_succ])
  refine take_first 8 (v := ?_) rfl (by kernel_rfl) (by kernel_rfl) (by kernel_rfl) (fun _ _ _ h => h) (Or.inl ⟨by rfl, by intro wx hSw; (try dsimp only at hSw); go_simp; try with_reducible rfl⟩) (by assumption) ?_
  (try simp only [Act.put, List.setIfInBounds_toArray, List.set_cons_zero, List.set_cons_succ])
  refine take_first 9 (v := ?_) rfl (by kernel_rfl) (by kernel_rfl) (by kernel_rfl) (fun _ _ _ h => h) (Or.inl ⟨by rfl, by intro wx hSw; (try dsimp only at hSw); go_simp; try with_reducible rfl⟩) (by assumption) ?_
  (try simp only [Act.put, List.setIfInBounds_toArray, List.set_cons_zero, List.set_cons_succ])
  refine take_first 10 (v := ?_) rfl (by kernel_rfl) (by kernel_rfl) (by kernel_rfl) (fun _ _ _ h => h) (Or.inl ⟨by rfl, by intro wx hSw; (try dsimp only at hSw); go_simp; try with_reducible rfl⟩) (by assumption) ?_
  (try simp only [Act.put, List.setIfInBounds_toArray, List.set_cons_zero, List.set_cons_succ])
  refine take_first 11 (v := ?_) rfl (by kernel_rfl) (by kernel_rfl) (by kernel_rfl) (fun _ _ _ h => h) (Or.inl ⟨by rfl, by intro wx hSw; (try dsimp only at hSw); go_simp; try with_reducible rfl⟩) (by assumption) ?_
  (try simp only [Act.put, List.setIfInBounds_toArray, List.set_cons_zero, List.set_cons_succ])
  refine take_first 12 (v := ?_) rfl (by kernel_rfl) (by kernel_rfl) (by kernel_rfl) (fun _ _ _ h => h) (Or.inl ⟨by rfl, by intro wx hSw; (try dsimp only at hSw); go_simp; try with_reducible rfl⟩) (by assumption) ?_
  (try simp only [Act.put, List.setIfInBounds_toArray, List.set_cons_zero, List.set_cons_succ])
  refine take_first 13 (v := ?_) rfl (by kernel_rfl) (by kernel_rfl) (by kernel_rfl) (fun _ _ _ h => h) (Or.inl ⟨by rfl, by intro wx hSw; (try dsimp only at hSw); go_simp; try with_reducible rfl⟩) (by assumption) ?_
  (try simp only [Act.put, List.setIfInBounds_toArray, List.set_cons_zero, List.set_cons_succ])
  refine take_first 14 (v := ?_) rfl (by kernel_rfl) (by kernel_rfl) (by kernel_rfl) (fun _ _ _ h => h) (Or.inl ⟨by rfl, by intro wx hSw; (try dsimp only at hSw); go_simp; try with_reducible rfl⟩) (by assumption) ?_
  (try simp only [Act.put, List.setIfInBounds_toArray, List.set_cons_zero, List.set_cons_succ])
  refine take_first 15 (v := ?_) rfl (by kernel_rfl) (by kernel_rfl) (by kernel_rfl) (fun _ _ _ h => h) (Or.inl ⟨by rfl, by intro wx hSw; (try dsimp only at hSw); go_simp; try with_reducible rfl⟩) (by assumption) ?_
  (try simp only [Act.put, List.setIfInBounds_toArray, List.set_cons_zero, List.set_cons_succ])
  refine comes_up 16 rfl (by kernel_rfl) (fun K hK => ?_)
  go_simp
  refine (bad_rd _ _ _ hg5.2.2.1).mono ?_; rintro e w7 ⟨rfl, rfl⟩; go_wp2_with fail
  refine hK.out _ _ ⟨hg5, hcq _ hg5, hcp _ hg5⟩ (fun hHeld => ?_)
  clear hK K
  (try simp only [Act.put, List.setIfInBounds_toArray, List.set_cons_zero, List.set_cons_succ])
  refine take_first 17 (v := ?_) rfl (by kernel_rfl) (by kernel_rfl) (by kernel_rfl) (fun _ _ _ h => h) (Or.inl ⟨by rfl, by intro wx hSw; (try dsimp only at hSw); go_simp; try with_reducible rfl⟩) (by assumption) ?_
  (try simp only [Act.put, List.setIfInBounds_toArray, List.set_cons_zero, List.set_cons_succ])
  refine take_first 18 (v := ?_) rfl (by kernel_rfl) (by kernel_rfl) (by kernel_rfl) (fun _ _ _ h => h) (Or.inl ⟨by rfl, by intro wx hSw; (try dsimp only at hSw); go_simp; try with_reducible rfl⟩) (by assumption) ?_
  (try simp only [Act.put, List.setIfInBounds_toArray, List.set_cons_zero, List.set_cons_succ])
  refine take_first 19 (v := ?_) rfl (by kernel_rfl) (by kernel_rfl) (by kernel_rfl) (fun _ _ _ h => h) (Or.inl ⟨by rfl, by intro wx hSw; (try dsimp only at hSw); go_simp; try with_reducible rfl⟩) (by assumption) ?_
  (try simp only [Act.put, List.setIfInBounds_toArray, List.set_cons_zero, List.set_cons_succ])
  refine take_first 20 (v := ?_) rfl (by kernel_rfl) (by kernel_rfl) (by kernel_rfl) (fun _ _ _ h => h) (Or.inl ⟨by rfl, by intro wx hSw; (try dsimp only at hSw); go_simp; try with_reducible rfl⟩) (by assumption) ?_
  (try simp only [Act.put, List.setIfInBounds_toArray, List.set_cons_zero, List.set_cons_succ])
  refine comes_up 21 rfl (by kernel_rfl) (fun K hK => ?_)
  go_simp
  refine (left_rd _ _ _ hg5.2.2.1).mono ?_; rintro e w7 ⟨rfl, rfl⟩; go_wp2_with fail
  refine hK.out _ _ ⟨hg5, hcq _ hg5, hcp _ hg5⟩ (fun hHeld => ?_)
  clear hK K
  (try simp only [Act.put, List.setIfInBounds_toArray, List.set_cons_zero, List.set_cons_succ])
  refine take_first 22 (v := ?_) rfl (by kernel_rfl) (by kernel_rfl) (by kernel_rfl) (fun _ _ _ h => h) (Or.inl ⟨by rfl, by intro wx hSw; (try dsimp only at hSw); go_simp; try with_reducible rfl⟩) (by assumption) ?_
  (try simp only [Act.put, List.setIfInBounds_toArray, List.set_cons_zero, List.set_cons_succ])
  refine take_first 23 (v := ?_) rfl (by kernel_rfl) (by kernel_rfl) (by kernel_rfl) (fun _ _ _ h => h) (Or.inl ⟨by rfl, by intro wx hSw; (try dsimp only at hSw); go_simp; try with_reducible rfl⟩) (by assumption) ?_
  (try simp only [Act.put, List.setIfInBounds_toArray, List.set_cons_zero, List.set_cons_succ])
  refine take_first 24 (v := ?_) rfl (by kernel_rfl) (by kernel_rfl) (by kernel_rfl) (fun _ _ _ h => h) (Or.inl ⟨by rfl, by intro wx hSw; (try dsimp only at hSw); go_simp; try with_reducible rfl⟩) (by assumption) ?_
  (try simp only [Act.put, List.setIfInBounds_toArray, List.set_cons_zero, List.set_cons_succ])
  refine wpAnyH_done (by kernel_rfl) ?_ _
  refine NoPanic.normal ?_
  go_wp2
  go_ret
  exact ⟨rfl, hg5.2.2.2⟩

set_option maxRecDepth 100000 in
theorem lifted (os : Os) (started : os.Started) (H : Type) (enc : TypeId × Value → H) :
    ReturnsInHanded {} Try.checked os 3 .any (Rows.codeNumbersSpec.pre6 enc Try.prog Try.f3 Rows.codeNumbersRow.domain false) (Rows.codeNumbersSpec.post enc Try.prog Try.f3 false true false false) := by
  refine returnsInHanded_of_change_sized (C := Try.checked) own started (by kernel_rfl) Try.func3
    (ChangeSpec.witness6 (enc := enc) (C := Try.checked) false ⟨#[], #[.slice none 0 0, .int .u64 0], []⟩ 8 (by kernel_rfl) (by kernel_rfl) (by kernel_rfl) (by kernel_rfl)) ?_
  intro W base args ds gs before hval0 hW hcnd hsz0 _
  have hsz : (DataW.weightsEach Try.prog (Try.f3.params.toList ++ Rows.codeNumbersSpec.plain.varTypes Try.prog) (ds ++ gs)).all (· ≤ reachBytes) = true := hsz0
  have hval : ∀ (j : Nat) t v, Try.f3.params[j]? = some t → args[j]? = some v → Value.okWide Try.prog W .any base t v := hval0
  have hW' := hW
  obtain ⟨p, q, hA0, hV, rfl, hfz, hnd⟩ := hW
  have hA : DataW.TrodAll enc Try.prog W 0 (fun _ => true) true Try.f3.params.toList args.toList ds p := hA0
  rw [Try.params3] at hA hval hsz
  obtain ⟨v0, vs0, d0, ds0, p0, q0, hargs, rfl, rfl, h0, r0⟩ := trodAll_cons hA
  obtain ⟨v1, vs1, d1, ds1, p1, q1, rfl, rfl, rfl, h1, r1⟩ := trodAll_cons r0
  obtain ⟨rfl, rfl, rfl⟩ := trodAll_nil r1
  obtain rfl : args = #[v0, v1] := by cases args; simp_all
  obtain ⟨rfl, rfl⟩ := trodVars_none hV
  obtain ⟨a0, len0, cap0, rfl⟩ := okWide_slice Try.underlying22 (hval 0 22 v0 rfl rfl)
  have k0 := h0
  have lt0 : ∀ x ∈ p0, x.block < W.heap.size := by obtain ⟨m, hm⟩ := k0; exact DataW.trod_lt m _ _ _ hm
  obtain ⟨a1, rfl, rfl, rfl, w1⟩ := open_int Try.underlying23 (hval 1 23 v1 rfl rfl) h1
  obtain ⟨xs, hrow, hcap⟩ := open_bytes h0 hsz (j := 0) rfl rfl
  clear hA0 hval0
  have b1 := bounds_u64 w1
  obtain ⟨N, rfl⟩ := Int.eq_ofNat_of_zero_le b1.1
  refine (walk W a0 len0 cap0 xs hrow N (by omega) (by have := hrow.2.1; omega)).mono fun e W' ⟨he, bel⟩ => ?_
  subst he
  exact ⟨_, rfl, _, _, _, [], _, [], hW', trodAll_mk1 (shut_bool Try.underlying4 _), (trodAll_cons_mk (Below.trod laidOut (by kernel_rfl) (of_decide_eq_true (by kernel_rfl)) k0 bel lt0) (trodAll_cons_mk (shut_int Try.underlying23 w1) trodAll_mk0)), rfl, bel.frame _, fun h => by cases h⟩

theorem over : Rows.codeNumbersRow.holds Try.pinned (OpenSpec.ofChange Rows.codeNumbersSpec) :=
  OpenClaim.holds_of_wide 3 Try.f3 rfl rfl rfl rfl rfl rfl rfl ⟨rfl, rfl, rfl, rfl, rfl⟩ rfl rfl rfl rfl rfl (by kernel_rfl) Try.func3 (by kernel_rfl)
    (of_decide_eq_true (by kernel_rfl)) (by unfold Func.isWrapper; first | (rw [if_pos (by decide +kernel)]; kernel_rfl) | (rw [if_neg (by decide +kernel)]; exact ⟨rfl, rfl⟩))
    (fun os started H enc _ => lifted os started H enc)

end Go.Proofs.Ytlnphniokaclcaa.codeNumbers
namespace Go.Proofs.Ytlnphniokaclcaa
theorem codeNumbers_holds : Rows.CodeNumbersSaid := codeNumbers.over
#print axioms codeNumbers_holds
end Go.Proofs.Ytlnphniokaclcaa
