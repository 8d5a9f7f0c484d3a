/-
  slices.BinarySearchFunc over entries by their labels, and Find.
-/
import Derived.Test.YtooeemhlpmiceaaFFind
import Derived.Test.YtooeemhlpmiceaaECmp
namespace Go.Proofs.Ytooeemhlpmiceaa
open Go.RowKit
set_option linter.unusedVariables false
set_option linter.unusedSimpArgs false

/-- What a round reads. -/
def S10 (b o : Nat) (x : Lb) (so : Option Addr) (sn sc : Nat) (g : Nat) (y : Lb) (w : World) : Prop :=
  w.cell? ⟨b, o, none⟩ = some (.int .u64 (x.1 : Nat)) ∧ w.cell? ⟨b, o + 1, none⟩ = some (.int .i64 x.2.1) ∧ w.cell? ⟨b, o + 2, none⟩ = some (.int .u64 (x.2.2.1 : Nat)) ∧ w.cell? ⟨b, o + 3, none⟩ = some (.int .i64 x.2.2.2) ∧ w.cell? ⟨b, o + 4, none⟩ = some (.slice so sn sc) ∧
  w.cell? ⟨g, 0, none⟩ = some (.int .u64 (y.1 : Nat)) ∧ w.cell? ⟨g, 1, none⟩ = some (.int .i64 y.2.1) ∧ w.cell? ⟨g, 2, none⟩ = some (.int .u64 (y.2.2.1 : Nat)) ∧ w.cell? ⟨g, 3, none⟩ = some (.int .i64 y.2.2.2) ∧ w.cell? ⟨g, 4, none⟩ = some (.slice none 0 0)
theorem asc_get {es : List En} (h : Asc es) {i j : Nat} {a b : En} (hi : es[i]? = some a) (hj : es[j]? = some b) (hij : i < j) : ltL a.1 b.1 := by
  obtain ⟨h1, h2⟩ := List.getElem?_eq_some_iff.1 hi
  obtain ⟨h3, h4⟩ := List.getElem?_eq_some_iff.1 hj
  have := List.pairwise_iff_getElem.1 h i j h1 h3 hij
  rwa [h2, h4] at this

set_option maxRecDepth 10000 in
set_option maxHeartbeats 2000000 in
theorem binsearch_any (p : Nat → Prop) (w : World) (ao : Option Addr) (n cap : Nat) (es : List En) (h : ER p w ao n es) (hasc : Asc es) (hn : n ≤ 1000000) (y : Lb) :
    Calls Try.prog 47 #[.slice ao n cap, ent y (.slice none 0 0), .func (.func 44) #[] #[]] w fun e w' => ∃ (i : Nat) (b : Bool), e = .returned (.tuple #[.int .i64 (i : Nat), .bool b]) ∧ (∀ j z, j < i → es[j]? = some z → ltL z.1 y) ∧ (∀ j z, i ≤ j → es[j]? = some z → ¬ ltL z.1 y) ∧ (b = true ↔ ∃ z, es[i]? = some z ∧ z.1 = y) ∧ Up w w' := by
  have hl := h.1
  have b0 : Up w (w.alloc (.cells #[.int .u64 (y.1 : Nat), .int .i64 y.2.1, .int .u64 (y.2.2.1 : Nat), .int .i64 y.2.2.2, .slice none 0 0] 37)) := (Up.refl _).alloc _
  have c0 := ex_new w y (.slice none 0 0) 37
  have H := h.bl b0.bl
  obtain ⟨W0, hW0⟩ : ∃ W, Hid (w.alloc (.cells #[.int .u64 (y.1 : Nat), .int .i64 y.2.1, .int .u64 (y.2.2.1 : Nat), .int .i64 y.2.2.2, .slice none 0 0] 37) = W) := ⟨_, rfl⟩
  rw [hW0.out] at b0 c0 H
  obtain ⟨g0, hg0⟩ : ∃ g, Hid (w.heap.size = g) := ⟨_, rfl⟩
  rw [hg0.out] at c0
  have HASC : Hid (Asc es) := hasc
  clear h hasc
  unfold ent
  go_enter Try.func47, Try.ntmps47
  go_wp2_with fail
  rw [hW0.out, hg0.out]
  go_loopw [9, 10] (fun iv jv wr => ∃ lo hi : Nat, lo ≤ hi ∧ hi ≤ n ∧ iv = .int .i64 lo ∧ jv = .int .i64 hi ∧ (∀ j z, j < lo → es[j]? = some z → ltL z.1 y) ∧ (∀ j z, hi ≤ j → es[j]? = some z → ¬ ltL z.1 y) ∧ ER p wr ao n es ∧ Ex g0 y (.slice none 0 0) wr ∧ Up w wr) (fun iv jv _ => (intOf jv).toNat - (intOf iv).toNat)
  case atStart => exact ⟨0, n, by omega, by omega, rfl, rfl, fun j z hj => by omega, fun j z hj hz => by have := (List.getElem?_eq_some_iff.1 hz).1; omega, H, c0, b0⟩
  case round =>
    clear H c0 b0
    obtain ⟨lo, hi, hlh, hhn, rfl, rfl, hA, hB, hr, hex, hu⟩ := hrel
    have HAB : Hid ((∀ j z, j < lo → es[j]? = some z → ltL z.1 y) ∧ (∀ j z, hi ≤ j → es[j]? = some z → ¬ ltL z.1 y)) := ⟨hA, hB⟩
    clear hA hB
    by_cases hlt : lo < hi
    · have hltI : (lo : Int) < (hi : Int) := by omega
      obtain ⟨m, hm⟩ : ∃ m, (lo + hi) / 2 = m := ⟨_, rfl⟩
      have hm1 : lo ≤ m := by omega
      have hm2 : m < hi := by omega
      have hw1 : wrap64 ((lo : Int) + hi) = (lo : Int) + hi := IntWalk.wrap64_in _ (by omega)
      have hw2 : IntKind.u64.wrap ((lo : Int) + hi) = (lo : Int) + hi := IntWalk.u64_in _ (by omega)
      have hw3 : ((lo : Int) + hi) / 2 = (m : Nat) := by omega
      have hw4 : IntKind.i64.wrap (m : Int) = (m : Int) := IntWalk.i64_in _ (by omega)
      obtain ⟨x, hx⟩ : ∃ z, es[m]? = some z := ⟨es[m]'(by omega), List.getElem?_eq_getElem (by omega)⟩
      obtain ⟨b, off, hao, _, hc⟩ := hr.2.2 (by omega)
      obtain ⟨so, sn, sc, c0, c1, c2, c3, c4, hrow, _⟩ := hc m x hx
      have u0 : Below wr.heap.size wr wr.drew := (Below.refl _ _).drew
      have HS : Hid (∀ W : World, Below wr.heap.size wr W → S10 b (off + m * 5) x.1 so sn sc g0 y W) := fun W u => ⟨bl_cell u c0, bl_cell u c1, bl_cell u c2, bl_cell u c3, bl_cell u c4, bl_cell u hex.1, bl_cell u hex.2.1, bl_cell u hex.2.2.1, bl_cell u hex.2.2.2.1, bl_cell u hex.2.2.2.2⟩
      have s0 := HS.out _ u0
      have hcmp := fun W => compareE_any W x.1 y (.slice so sn sc) (.slice none 0 0)
      have HX : Hid (es[m]? = some x) := hx
      have HR : Hid (ER p wr ao n es ∧ Ex g0 y (.slice none 0 0) wr) := ⟨hr, hex⟩
      subst hao
      clear hc hx hr hex hrow c0 c1 c2 c3 c4
      obtain ⟨x, xm⟩ := x
      simp only at hcmp s0 HS
      unfold ent at hcmp
      unfold S10 at s0
      have hk0 : ¬ ((m : Int) < 0) := by omega
      have hk1 : (m : Int) < (n : Int) := by omega
      have HC := cmpL_lt x y
      by_cases hneg : cmpL x y < 0
      · have HN : Hid ((∀ j z, j < m + 1 → es[j]? = some z → ltL z.1 y) ∧ (∀ j z, hi ≤ j → es[j]? = some z → ¬ ltL z.1 y)) := by
          refine ⟨fun j z hj hz => ?_, HAB.out.2⟩
          by_cases e : j = m
          · subst e
            rw [HX.out] at hz
            cases hz
            exact HC.1 hneg
          · exact ltL_trans (asc_get HASC.out hz HX.out (by omega)) (HC.1 hneg)
        clear HAB HC
        go_wp2_with fail
        refine wp_region_noPanic ?_
        refine wp_region_held_drew (S := S10 b (off + m * 5) x so sn sc g0 y) (by kernel_rfl) s0 (fun hHeld => ?_)
        unfold S10 at hHeld
        refine tq 0 ?_
        refine tq 1 ?_
        refine tq 2 ?_
        refine tq 3 ?_
        refine tq 4 ?_
        refine tq 5 ?_
        refine comes_up 6 rfl (by kernel_rfl) (fun K hK => ?_)
        go_simp
        refine (hcmp _).mono ?_
        rintro e w1 ⟨rfl, hu1⟩
        have u1 := bl_step u0 hu1.bl
        have hu2 : Up w w1 := (hu.drew).trans hu1
        clear hcmp s0 hu1
        go_wp2_with fail
        refine hK.out _ _ (HS.out _ u1) (fun hHeld => ?_)
        clear hK K
        (try simp only [Act.put, List.setIfInBounds_toArray, List.set_cons_zero, List.set_cons_succ])
        refine tq 7 ?_
        refine wpAnyH_done (by kernel_rfl) ?_ _
        refine NoPanic.normal ?_
        clear hHeld
        go_wp2
        go_roundw
        case rel => first | exact ⟨m + 1, hi, by omega, hhn, by go_num, rfl, HN.out.1, HN.out.2, HR.out.1.bl u1, HR.out.2.bl u1, hu2⟩ | ((repeat apply Exists.intro); exact ⟨⟨m + 1, hi, by omega, hhn, by go_num, rfl, HN.out.1, HN.out.2, HR.out.1.bl u1, HR.out.2.bl u1, hu2⟩, rfl⟩)
        case measure => simp [intOf]; omega
      · have HN : Hid ((∀ j z, j < lo → es[j]? = some z → ltL z.1 y) ∧ (∀ j z, m ≤ j → es[j]? = some z → ¬ ltL z.1 y)) := by
          refine ⟨HAB.out.1, fun j z hj hz hlt2 => ?_⟩
          by_cases e : j = m
          · subst e
            rw [HX.out] at hz
            cases hz
            exact hneg (HC.2 hlt2)
          · exact hneg (HC.2 (ltL_trans (asc_get HASC.out HX.out hz (by omega)) hlt2))
        clear HAB HC
        go_wp2_with fail
        refine wp_region_noPanic ?_
        refine wp_region_held_drew (S := S10 b (off + m * 5) x so sn sc g0 y) (by kernel_rfl) s0 (fun hHeld => ?_)
        unfold S10 at hHeld
        refine tq 0 ?_
        refine tq 1 ?_
        refine tq 2 ?_
        refine tq 3 ?_
        refine tq 4 ?_
        refine tq 5 ?_
        refine comes_up 6 rfl (by kernel_rfl) (fun K hK => ?_)
        go_simp
        refine (hcmp _).mono ?_
        rintro e w1 ⟨rfl, hu1⟩
        have u1 := bl_step u0 hu1.bl
        have hu2 : Up w w1 := (hu.drew).trans hu1
        clear hcmp s0 hu1
        go_wp2_with fail
        refine hK.out _ _ (HS.out _ u1) (fun hHeld => ?_)
        clear hK K
        (try simp only [Act.put, List.setIfInBounds_toArray, List.set_cons_zero, List.set_cons_succ])
        refine tq 7 ?_
        refine wpAnyH_done (by kernel_rfl) ?_ _
        refine NoPanic.normal ?_
        clear hHeld
        go_wp2
        go_roundw
        case rel => first | exact ⟨lo, m, hm1, by omega, rfl, rfl, HN.out.1, HN.out.2, HR.out.1.bl u1, HR.out.2.bl u1, hu2⟩ | ((repeat apply Exists.intro); exact ⟨⟨lo, m, hm1, by omega, rfl, rfl, HN.out.1, HN.out.2, HR.out.1.bl u1, HR.out.2.bl u1, hu2⟩, rfl⟩)
        case measure => simp [intOf]; omega
    · obtain rfl : lo = hi := by omega
      have hltI : ¬ ((lo : Int) < (lo : Int)) := by omega
      by_cases hln : lo < n
      · have hlnI : (lo : Int) < (n : Int) := by omega
        have hk0 : ¬ ((lo : Int) < 0) := by omega
        obtain ⟨x, hx⟩ : ∃ z, es[lo]? = some z := ⟨es[lo]'(by omega), List.getElem?_eq_getElem (by omega)⟩
        obtain ⟨b, off, hao, _, hc⟩ := hr.2.2 (by omega)
        obtain ⟨so, sn, sc, c0, c1, c2, c3, c4, hrow, _⟩ := hc lo x hx
        have u0 : Below wr.heap.size wr wr.drew := (Below.refl _ _).drew
        have HS : Hid (∀ W : World, Below wr.heap.size wr W → S10 b (off + lo * 5) x.1 so sn sc g0 y W) := fun W u => ⟨bl_cell u c0, bl_cell u c1, bl_cell u c2, bl_cell u c3, bl_cell u c4, bl_cell u hex.1, bl_cell u hex.2.1, bl_cell u hex.2.2.1, bl_cell u hex.2.2.2.1, bl_cell u hex.2.2.2.2⟩
        have s0 := HS.out _ u0
        have hcmp := fun W => compareE_any W x.1 y (.slice so sn sc) (.slice none 0 0)
        have HX : Hid (es[lo]? = some x) := hx
        have HR : Hid (ER p wr ao n es ∧ Ex g0 y (.slice none 0 0) wr) := ⟨hr, hex⟩
        subst hao
        clear hc hx hr hex hrow c0 c1 c2 c3 c4
        obtain ⟨x, xm⟩ := x
        simp only at hcmp s0 HS
        unfold ent at hcmp
        unfold S10 at s0
        have HC := cmpL_eq x y
        obtain ⟨d, hd⟩ : ∃ d : Bool, (cmpL x y == 0) = d := ⟨_, rfl⟩
        have HF : Hid (∃ (i : Nat) (b : Bool), Ending.returned (.tuple #[.int .i64 (lo : Nat), .bool d]) = .returned (.tuple #[.int .i64 (i : Nat), .bool b]) ∧ (∀ j z, j < i → es[j]? = some z → ltL z.1 y) ∧ (∀ j z, i ≤ j → es[j]? = some z → ¬ ltL z.1 y) ∧ (b = true ↔ ∃ z, es[i]? = some z ∧ z.1 = y)) := by
          refine ⟨lo, d, rfl, HAB.out.1, HAB.out.2, ?_⟩
          rw [← hd, beq_iff_eq, HC]
          constructor
          · intro e; exact ⟨_, HX.out, e⟩
          · rintro ⟨z, hz, e⟩
            rw [HX.out] at hz
            cases hz
            exact e
        clear HAB HC HX HR
        go_wp2_with fail
        refine wp_region_noPanic ?_
        refine wp_region_held_drew (S := S10 b (off + lo * 5) x so sn sc g0 y) (by kernel_rfl) s0 (fun hHeld => ?_)
        unfold S10 at hHeld
        refine tq 0 ?_
        refine tq 1 ?_
        refine tq 2 ?_
        refine tq 3 ?_
        refine tq 4 ?_
        refine tq 5 ?_
        refine tq 6 ?_
        refine tq 7 ?_
        refine tq 8 ?_
        refine tq 9 ?_
        refine tq 10 ?_
        refine comes_up 11 rfl (by kernel_rfl) (fun K hK => ?_)
        go_simp
        refine (hcmp _).mono ?_
        rintro e w1 ⟨rfl, hu1⟩
        have u1 := bl_step u0 hu1.bl
        have hu2 : Up w w1 := (hu.drew).trans hu1
        clear hcmp s0 hu1
        go_wp2_with fail
        refine hK.out _ _ (HS.out _ u1) (fun hHeld => ?_)
        clear hK K
        (try simp only [Act.put, List.setIfInBounds_toArray, List.set_cons_zero, List.set_cons_succ])
        refine tq 12 ?_
        refine tq 13 ?_
        refine tq 14 ?_
        refine tq 15 ?_
        refine wpAnyH_done (by kernel_rfl) ?_ _
        refine NoPanic.normal ?_
        clear hHeld
        go_wp2
        go_ret2
        obtain ⟨i, b', q1, q2, q3, q4⟩ := HF.out
        exact ⟨i, b', by simpa [hd] using q1, q2, q3, q4, hu2⟩
      · obtain rfl : lo = n := by omega
        have HF : Hid (∃ (i : Nat) (b : Bool), Ending.returned (.tuple #[.int .i64 (lo : Nat), .bool false]) = .returned (.tuple #[.int .i64 (i : Nat), .bool b]) ∧ (∀ j z, j < i → es[j]? = some z → ltL z.1 y) ∧ (∀ j z, i ≤ j → es[j]? = some z → ¬ ltL z.1 y) ∧ (b = true ↔ ∃ z, es[i]? = some z ∧ z.1 = y)) := by
          refine ⟨lo, false, rfl, HAB.out.1, HAB.out.2, ?_⟩
          simp only [Bool.false_eq_true, false_iff]
          rintro ⟨z, hz, _⟩
          have := (List.getElem?_eq_some_iff.1 hz).1
          omega
        have u0 : Below wr.heap.size wr wr.drew := (Below.refl _ _).drew
        clear HAB hr hex
        go_wp2_with fail
        refine wp_region_noPanic ?_
        refine wp_region_held_drew (S := fun _ => True) (by kernel_rfl) trivial (fun hHeld => ?_)
        refine tq 0 ?_
        refine tq 1 ?_
        refine tq 2 ?_
        refine tq 3 ?_
        refine tq 4 ?_
        refine tqS 5 ?_
        refine tqS 6 ?_
        refine tqS 7 ?_
        refine tqS 8 ?_
        refine tqS 9 ?_
        refine tqS 10 ?_
        refine tqS 11 ?_
        refine tqS 12 ?_
        refine tq 13 ?_
        refine tq 14 ?_
        refine tq 15 ?_
        refine wpAnyH_done (by kernel_rfl) ?_ _
        refine NoPanic.normal ?_
        clear hHeld
        go_wp2
        go_ret2
        obtain ⟨i, b', q1, q2, q3, q4⟩ := HF.out
        exact ⟨i, b', q1, q2, q3, q4, hu.drew⟩

set_option maxRecDepth 10000 in
set_option maxHeartbeats 1000000 in
theorem find_any (p : Nat → Prop) (w : World) (ao : Option Addr) (n cap : Nat) (es : List En) (h : ER p w ao n es) (hasc : Asc es) (hn : n ≤ 1000000) (hml : ∀ e ∈ es, e.2.length ≤ 140737488355328) (y : Lb) :
    Calls Try.prog 21 #[.slice ao n cap, lab y] w fun e w' => FindIs w w' es y e ∧ Below w.heap.size w w' := by
  have hl := h.1
  have b0 : Up w (w.alloc (.cells #[.int .u64 (y.1 : Nat), .int .i64 y.2.1, .int .u64 (y.2.2.1 : Nat), .int .i64 y.2.2.2] 34)) := (Up.refl _).alloc _
  obtain ⟨d0, d1, d2, d3⟩ := bx_new w y.1 y.2.1 y.2.2.1 y.2.2.2 34
  have hbs := binsearch_any p _ ao n cap es (h.bl b0.bl) hasc hn y
  have hcl := fun W a m c xs (hW : Cd.Row W a m c xs) (hm : m ≤ 140737488355328) => bclone_any W a m c xs hW hm
  unfold lab
  unfold ent at hbs
  go_enter Try.func21, Try.ntmps21
  go_wp2_with fail
  refine hbs.mono ?_
  rintro e w1 ⟨i, b, rfl, hA, hB, hb, hu1⟩
  have up1 := b0.trans hu1
  have H1 := h.bl up1.bl
  clear hbs d0 d1 d2 d3
  cases b with
  | false =>
    have HF : Hid (findE es y = none) := find_not (fun j z hz e => by
      by_cases hj : j < i
      · have := hA j z hj hz
        rw [e] at this
        exact ltL_irr _ this
      · by_cases hji : j = i
        · subst hji
          have := hb.2 ⟨z, hz, e⟩
          cases this
        · have hlen := (List.getElem?_eq_some_iff.1 hz).1
          have hi : es[i]? = some (es[i]'(by omega)) := List.getElem?_eq_getElem (by omega)
          have h1 := asc_get hasc hi hz (by omega)
          rw [e] at h1
          exact hB i _ (Nat.le_refl _) hi h1)
    clear hA hB hb hasc hcl
    go_wp2
    go_ret2
    refine ⟨⟨_, _, rfl, by rw [HF.out]; rfl, none, 0, 0, rfl, ?_⟩, up1.bl⟩
    rw [HF.out]
    exact nil_row _
  | true =>
    obtain ⟨x, hx, hxy⟩ := hb.1 rfl
    have hin := (List.getElem?_eq_some_iff.1 hx).1
    have hil : i < n := by omega
    have hiI : (i : Int) < (n : Int) := by omega
    have hk0 : ¬ ((i : Int) < 0) := by omega
    obtain ⟨bb, off, hao, _, hc⟩ := H1.2.2 (by omega)
    obtain ⟨so, sn, sc, c0, c1, c2, c3, c4, hrow, _⟩ := hc i x hx
    have HF : Hid (findE es y = some x.2) := find_at hx hxy (fun j z hj hz e => by
      have := hA j z hj hz
      rw [e] at this
      exact ltL_irr _ this)
    have hk := hcl w1 so sn sc x.2 hrow (by rw [← hrow.1]; exact hml x (List.mem_of_getElem? hx))
    subst hao
    clear hA hB hb hasc hcl hc hx H1
    go_wp2_with fail
    refine hk.mono ?_
    rintro e w2 ⟨v2, rfl, ho2, hb2⟩
    have bl2' := bl_step up1.bl hb2
    obtain ⟨qo, qc, rfl, hr2, _⟩ := Cd.owns_row ho2
    clear hk ho2 c0 c1 c2 c3 c4
    go_wp2
    go_ret2
    refine ⟨⟨_, _, rfl, by rw [HF.out]; rfl, qo, _, qc, rfl, ?_⟩, bl2'⟩
    rw [HF.out]
    exact hr2
end Go.Proofs.Ytooeemhlpmiceaa
