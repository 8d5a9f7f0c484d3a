/-
  Are two lists of numbers one? And the document's example.
-/
import Derived.Test.YtplcmaiphbjfcaaWNew
namespace Go.Proofs.Ytplcmaiphbjfcaa
open Go.RowKit
set_option linter.unusedVariables false

def Ints (w : World) (v : Value) (xs : List Int) : Prop := w.ownsRow 0 3 1 v xs.length (xs.map (Value.int .i64))
theorem Ints.cell {w : World} {ao : Option Addr} {n cap : Nat} {xs : List Int} (h : Ints w (.slice ao n cap) xs) {j : Nat} (hj : j < xs.length) : ∃ g, ao = some ⟨g, 0, none⟩ ∧ ∀ j x, xs[j]? = some x → w.cell? ⟨g, j, none⟩ = some (.int .i64 x) := by
  rcases h.2 with ⟨h0, h1⟩ | ⟨g, cap', cur, h0, _⟩
  · omega
  · simp only [Value.slice.injEq] at h0
    obtain ⟨rfl, rfl, rfl⟩ := h0
    refine ⟨g, rfl, fun j x hx => ?_⟩
    have := h.cells (g := g) rfl j (.int .i64 x) (by rw [List.getElem?_map, hx]; rfl)
    rwa [Addr.add_lit, Nat.zero_add] at this
theorem eq_of_take {xs ys : List Int} (hl : xs.length = ys.length) (h : ∀ j, j < xs.length → xs[j]? = ys[j]?) : xs = ys := by
  apply List.ext_getElem?
  intro j
  by_cases hj : j < xs.length
  · exact h j hj
  · rw [List.getElem?_eq_none (by omega), List.getElem?_eq_none (by omega)]

set_option maxRecDepth 20000 in
set_option maxHeartbeats 1000000 in
theorem same_any (w : World) (v1 v2 : Value) (xs ys : List Int) (h1 : Ints w v1 xs) (h2 : Ints w v2 ys) (hlx : xs.length < 1099511627776) (hly : ys.length < 1099511627776) :
    Calls Try.prog 18 #[v1, v2] w fun e w' => e = .returned (.bool (decide (xs = ys))) ∧ ∃ q, w' = w.drewN q := by
  obtain ⟨X, HX⟩ : ∃ X, Hid (xs.length = X) := ⟨_, rfl⟩
  obtain ⟨Y, HY⟩ : ∃ Y, Hid (ys.length = Y) := ⟨_, rfl⟩
  obtain ⟨a1, c1, rfl, _, _⟩ := row_shape h1
  obtain ⟨a2, c2, rfl, _, _⟩ := row_shape h2
  have H1 : Hid (Ints w (.slice a1 X c1) xs) := by unfold Hid; rw [← HX.out]; exact h1
  have H2 : Hid (Ints w (.slice a2 Y c2) ys) := by unfold Hid; rw [← HY.out]; exact h2
  have ex := HX.out
  have ey := HY.out
  rw [ex] at hlx ⊢
  rw [ey] at hly ⊢
  clear h1 h2 ex ey
  by_cases hXY : X = Y
  · subst hXY
    go_enter Try.func18, Try.ntmps18
    go_wp2
    go_loopw [5] (fun i wr => ∃ k q, k ≤ X ∧ i = .int .i64 (k : Nat) ∧ wr = w.drewN q ∧ ∀ j, j < k → xs[j]? = ys[j]?) (fun i _ => X - (intOf i).toNat)
    case atStart => exact ⟨0, 0, by omega, rfl, rfl, by omega⟩
    case round =>
      obtain ⟨k, q, hk, rfl, rfl, hpre⟩ := hrel
      by_cases hkX : k = X
      · subst hkX
        have HE : Hid (decide (xs = ys) = true) := by
          unfold Hid
          rw [decide_eq_true_eq]
          exact eq_of_take (by rw [HX.out, HY.out]) (fun j hj => hpre j (by rw [HX.out] at hj; exact hj))
        clear hpre
        go_wp2
        go_ret
        exact ⟨by rw [HE.out]; rfl, q, rfl⟩
      · have hxk : k < xs.length := by rw [HX.out]; omega
        have hyk : k < ys.length := by rw [HY.out]; omega
        obtain ⟨g1, rfl, hc1⟩ := H1.out.cell hxk
        obtain ⟨g2, rfl, hc2⟩ := H2.out.cell hyk
        obtain ⟨x, hx⟩ : ∃ x, xs[k]? = some x := ⟨_, List.getElem?_eq_getElem hxk⟩
        obtain ⟨y, hy⟩ : ∃ y, ys[k]? = some y := ⟨_, List.getElem?_eq_getElem hyk⟩
        have d1 : w.cell? ⟨g1, k, none⟩ = some (.int .i64 x) := hc1 k x hx
        have d2 : w.cell? ⟨g2, k, none⟩ = some (.int .i64 y) := hc2 k y hy
        have HPRE : Hid (∀ j, j < k → xs[j]? = ys[j]?) := hpre
        have HXK : Hid (xs[k]? = some x) := hx
        have HYK : Hid (ys[k]? = some y) := hy
        clear hpre hx hy hc1 hc2 hxk hyk
        by_cases hxy : x = y
        · subst hxy
          go_wp2
          go_region
          go_wp2
          go_roundw
          case rel => 
            refine ⟨k + 1, q + 1, by omega, by go_num, rfl, ?_⟩
            intro j hj
            by_cases e : j = k
            · subst e; rw [HXK.out, HYK.out]
            · exact HPRE.out j (by omega)
          case measure => simp [intOf]; omega
        · have HE : Hid (decide (xs = ys) = false) := by
            unfold Hid
            rw [decide_eq_false_iff_not]
            rintro rfl
            have h3 := HYK.out
            rw [HXK.out] at h3
            exact hxy (Option.some.inj h3)
          go_wp2
          go_region
          go_wp2
          go_ret
          exact ⟨by rw [HE.out]; rfl, q + 1, rfl⟩
  · have HE : Hid (decide (xs = ys) = false) := by
      unfold Hid
      rw [decide_eq_false_iff_not]
      rintro rfl
      exact hXY (HX.out.symm.trans HY.out)
    go_enter Try.func18, Try.ntmps18
    go_wp2
    go_ret
    exact ⟨by rw [HE.out]; rfl, 0, rfl⟩

/-- A wheel of one's own: nothing that was there has turned. -/
structure Fresh (w w' : World) (p m : Nat) (V : Nat → Value) : Prop where
  turned : Turned (fun _ => False) w w'
  foot : ∀ b, Foot p m V b → w.heap.size ≤ b
theorem Fresh.goes {w w' w'' : World} {p m : Nat} {V V' : Nat → Value} (h : Fresh w w' p m V) (g : Goes p m V w' V' w'') : Fresh w w'' p m V' :=
  ⟨h.turned.trans g.turned (fun i hi => .inr (h.foot i hi)), fun b hb => (g.foot b hb).elim (h.foot b) (fun hle => Nat.le_trans h.turned.size hle)⟩

theorem In_small {i : Int} (h : -1000000 ≤ i ∧ i ≤ 1000000) : In i := by unfold In; omega

theorem ex_new (w : World) : Calls Try.prog 11 #[.int .u64 0] w fun e w' => ∃ p m V, e = .returned (.tuple #[.pointer (some ⟨p, 0, none⟩), .int .i64 0]) ∧ Wh w' p m V 0 0 [] ∧ Fresh w w' p m V :=
  (new_any w 0 (by omega)).mono fun e w' ⟨p, m, V, he, h1, h2, h3⟩ => ⟨p, m, V, he, h1, h2, h3⟩
theorem ex_arm1 {w0 w : World} {p m : Nat} {V : Nat → Value} (h : Wh w p m V 0 0 []) (hf : Fresh w0 w p m V) :
    Calls Try.prog 12 #[.pointer (some ⟨p, 0, none⟩), .int .i64 1, .int .u64 2] w fun e w' => e = .returned (.int .i64 0) ∧ ∃ V', Wh w' p m V' 0 1 [(1, 2)] ∧ Fresh w0 w' p m V' :=
  (arm_any w p m V 0 0 [] h (by omega) 1 (In_small (by omega)) 2 (by omega) (by omega)).mono fun e w' ⟨he, V', h1, h2⟩ => ⟨he, V', h1, hf.goes h2⟩
theorem ex_arm2 {w0 w : World} {p m : Nat} {V : Nat → Value} (h : Wh w p m V 0 1 [(1, 2)]) (hf : Fresh w0 w p m V) :
    Calls Try.prog 12 #[.pointer (some ⟨p, 0, none⟩), .int .i64 2, .int .u64 1] w fun e w' => e = .returned (.int .i64 0) ∧ ∃ V', Wh w' p m V' 0 2 [(1, 2), (2, 1)] ∧ Fresh w0 w' p m V' :=
  (arm_any w p m V 0 1 [(1, 2)] h (by omega) 2 (In_small (by omega)) 1 (by omega) (by omega)).mono fun e w' ⟨he, V', h1, h2⟩ => ⟨he, V', h1, hf.goes h2⟩
theorem ex_arm3 {w0 w : World} {p m : Nat} {V : Nat → Value} (h : Wh w p m V 0 2 [(1, 2), (2, 1)]) (hf : Fresh w0 w p m V) :
    Calls Try.prog 12 #[.pointer (some ⟨p, 0, none⟩), .int .i64 2, .int .u64 2] w fun e w' => e = .returned (.int .i64 0) ∧ ∃ V', Wh w' p m V' 0 3 [(1, 2), (2, 2)] ∧ Fresh w0 w' p m V' :=
  (arm_any w p m V 0 2 [(1, 2), (2, 1)] h (by omega) 2 (In_small (by omega)) 2 (by omega) (by omega)).mono fun e w' ⟨he, V', h1, h2⟩ => ⟨he, V', h1, hf.goes h2⟩
theorem ex_tick1 {w0 w : World} {p m : Nat} {V : Nat → Value} (h : Wh w p m V 0 3 [(1, 2), (2, 2)]) (hf : Fresh w0 w p m V) :
    Calls Try.prog 16 #[.pointer (some ⟨p, 0, none⟩)] w fun e w' => ∃ ao cap V', e = .returned (.tuple #[.slice ao 0 cap, .int .i64 0]) ∧ Wh w' p m V' 1 3 [(1, 2), (2, 2)] ∧ Fresh w0 w' p m V' := by
  refine (tick_wh w p m V 0 3 _ h (by omega) (by omega)).mono ?_
  rintro e w' ⟨v, V', he, hrow, h1, h2, h3⟩
  obtain ⟨ao, cap, rfl, _, _⟩ := row_shape hrow
  exact ⟨ao, cap, V', he, h1, hf.goes h2⟩
theorem ex_tick2 {w0 w : World} {p m : Nat} {V : Nat → Value} (h : Wh w p m V 1 3 [(1, 2), (2, 2)]) (hf : Fresh w0 w p m V) :
    Calls Try.prog 16 #[.pointer (some ⟨p, 0, none⟩)] w fun e w' => ∃ ao cap V', e = .returned (.tuple #[.slice ao 2 cap, .int .i64 0]) ∧ Ints w' (.slice ao 2 cap) [1, 2] ∧ Fresh w0 w' p m V' := by
  refine (tick_wh w p m V 1 3 _ h (by omega) (by omega)).mono ?_
  rintro e w' ⟨v, V', he, hrow, h1, h2, h3⟩
  obtain ⟨ao, cap, rfl, _, _⟩ := row_shape hrow
  exact ⟨ao, cap, V', he, row_base hrow (Nat.zero_le _), hf.goes h2⟩

set_option maxRecDepth 20000 in
set_option maxHeartbeats 1000000 in
theorem awake_any (w : World) : Calls Try.prog 10 #[] w fun e w' => e = .returned (.bool true) ∧ Turned (fun _ => False) w w' := by
  go_enter Try.func10, Try.ntmps10
  go_wp2_with fail
  refine (ex_new _).mono ?_
  rintro e w1 ⟨p, m, V1, rfl, h1, f1⟩
  go_wp2_with fail
  refine (ex_arm1 h1 f1).mono ?_
  rintro e w2 ⟨rfl, V2, h2, f2⟩
  go_wp2_with fail
  refine (ex_arm2 h2 f2).mono ?_
  rintro e w3 ⟨rfl, V3, h3, f3⟩
  go_wp2_with fail
  refine (ex_arm3 h3 f3).mono ?_
  rintro e w4 ⟨rfl, V4, h4, f4⟩
  go_wp2_with fail
  refine (ex_tick1 h4 f4).mono ?_
  rintro e w5 ⟨ao5, cap5, V5, rfl, h5, f5⟩
  go_wp2_with fail
  refine (ex_tick2 h5 f5).mono ?_
  rintro e w6 ⟨ao6, cap6, V6, rfl, h6, f6⟩
  go_wp2_with fail
  have r1 : Ints (w6.alloc (Obj.cells #[Value.int IntKind.i64 1, Value.int IntKind.i64 2] 3)) (.slice ao6 2 cap6) [1, 2] := row_block h6 (fun b hb => Below.heap_alloc _ _ b (h6.lt b hb).2)
  have r2 : Ints (w6.alloc (Obj.cells #[Value.int IntKind.i64 1, Value.int IntKind.i64 2] 3)) (.slice (some ⟨w6.heap.size, 0, none⟩) 2 2) [1, 2] := ⟨rfl, .inr ⟨_, 2, _, rfl, Nat.zero_le _, heap_alloc_new _ _, Nat.le_refl _, by unfold maxLen; omega, rfl, rfl⟩⟩
  refine (same_any _ _ _ [1, 2] [1, 2] r1 r2 (by simp) (by simp)).mono ?_
  rintro e w7 ⟨rfl, q, rfl⟩
  have HT : Hid (∀ (o : Obj) q, Turned (fun _ => False) w ((w6.alloc o).drewN q)) := fun o q => (f6.turned.alloc o).drewN q
  clear r1 r2 h6 f6 h5 f5 h4 f4 h3 f3 h2 f2 h1 f1
  go_wp2_with fail
  go_ret
  exact ⟨rfl, HT.out _ _⟩

end Go.Proofs.Ytplcmaiphbjfcaa
