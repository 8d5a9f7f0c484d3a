/-
  The document's Right: is a summary right?
-/
import Derived.Test.YtpdgoalbknopiaaERight3
namespace Go.Proofs.Ytpdgoalbknopiaa
open Go.RowKit
set_option linter.unusedVariables false
set_option linter.unusedSimpArgs false

theorem cmpL_gt (x y : Lb) : 0 < cmpL y x ↔ ltL x y := by
  obtain ⟨a, b, c, d⟩ := x
  obtain ⟨a', b', c', d'⟩ := y
  unfold cmpL cmpV sgn ltL
  simp only
  repeat' split
  all_goals omega
/-- Do entries rise by their labels? -/
def risE (es : List (Lb × List UInt8)) : Prop := ∀ k, 1 ≤ k → k < es.length → ltL (es.getD (k - 1) den).1 (es.getD k den).1
def frmE (es : List (Lb × List UInt8)) : Prop := ∀ k, k < es.length → formE (es.getD k den).1 (es.getD k den).2.length = true
theorem asc_iff (es : List (Lb × List UInt8)) : ascE es = true ↔ frmE es ∧ risE es := by
  unfold ascE
  rw [List.all_eq_true]
  constructor
  · intro h
    refine ⟨fun k hk => ?_, fun k h1 hk => ?_⟩
    · have := h k (by simpa using hk)
      unfold gooE at this
      simp only [Bool.and_eq_true] at this
      exact this.2
    · have := h k (by simpa using hk)
      unfold gooE at this
      simp only [Bool.and_eq_true, Bool.or_eq_true, decide_eq_true_eq] at this
      rcases this.1 with h2 | h2
      · omega
      · exact (cmpL_gt _ _).1 h2
  · rintro ⟨h1, h2⟩ k hk
    have hk' : k < es.length := by simpa using hk
    unfold gooE
    simp only [Bool.and_eq_true, Bool.or_eq_true, decide_eq_true_eq]
    refine ⟨?_, h1 k hk'⟩
    by_cases h0 : k = 0
    · exact .inl h0
    · exact .inr ((cmpL_gt _ _).2 (h2 k (by omega) hk'))
def S8 (b o : Nat) (x : Lb) (o' : Nat) (y : Lb) (w : World) : Prop :=
  w.cell? ⟨b, o, none⟩ = some (.int .u64 (x.1 : Nat)) ∧ w.cell? ⟨b, o + 1, none⟩ = some (.int .i64 x.2.1) ∧ w.cell? ⟨b, o + 2, none⟩ = some (.int .u64 (x.2.2.1 : Nat)) ∧ w.cell? ⟨b, o + 3, none⟩ = some (.int .i64 x.2.2.2) ∧
  w.cell? ⟨b, o', none⟩ = some (.int .u64 (y.1 : Nat)) ∧ w.cell? ⟨b, o' + 1, none⟩ = some (.int .i64 y.2.1) ∧ w.cell? ⟨b, o' + 2, none⟩ = some (.int .u64 (y.2.2.1 : Nat)) ∧ w.cell? ⟨b, o' + 3, none⟩ = some (.int .i64 y.2.2.2)
theorem LR.takeK {w : World} {ao : Option Addr} {n : Nat} {ls : List Lb} (h : LR w ao n ls) (k : Nat) (hk : k ≤ n) : LR w ao k (ls.take k) := by
  refine ⟨by simp; have := h.1; omega, by have := h.2.1; omega, fun h0 => ?_⟩
  obtain ⟨b, off, e, hc⟩ := h.2.2 (by omega)
  refine ⟨b, off, e, fun j x hj => hc j x ?_⟩
  rw [List.getElem?_take] at hj
  split at hj
  · exact hj
  · cases hj
/-- What a round of the second loop reads. -/
def S9 (g0 : Nat) (c o : Value) (nx : Int) (hn : Nat) (hp : Int) (b f : Nat) (x : Lb) (w : World) : Prop :=
  w.cell? ⟨b, f, none⟩ = some (.int .u64 (x.1 : Nat)) ∧ w.cell? ⟨b, f + 1, none⟩ = some (.int .i64 x.2.1) ∧ w.cell? ⟨b, f + 2, none⟩ = some (.int .u64 (x.2.2.1 : Nat)) ∧ w.cell? ⟨b, f + 3, none⟩ = some (.int .i64 x.2.2.2) ∧ Sb g0 c o nx hn hp w
theorem getD_some {α : Type} {l : List α} {k : Nat} {x d : α} (h : l[k]? = some x) : l.getD k d = x := by simp [List.getD, h]

set_option maxRecDepth 10000 in
set_option maxHeartbeats 1000000 in
theorem rising_any (p : Nat → Prop) (w : World) (ao : Option Addr) (n cap : Nat) (es : List (Lb × List UInt8)) (h : ER p w ao n es) :
    Calls Try.prog 35 #[.slice ao n cap] w fun e w' => ∃ r, e = .returned (.bool r) ∧ (r = true ↔ risE es) ∧ Up w w' := by
  have hl := h.1
  have hmax := h.2.1
  go_enter Try.func35, Try.ntmps35
  go_wp2_with fail
  go_loopw [3] (fun iv wr => ∃ k : Nat, (k ≤ n ∨ k = 1) ∧ 1 ≤ k ∧ iv = .int .i64 k ∧ (∀ j, 1 ≤ j → j < k → ltL (es.getD (j - 1) den).1 (es.getD j den).1) ∧ ER p wr ao n es ∧ Up w wr) (fun iv _ => n + 1 - (intOf iv).toNat)
  case atStart => exact ⟨1, by omega, by omega, rfl, fun j h1 h2 => by omega, h, Up.refl _⟩
  case round =>
    obtain ⟨k, hk, hk1, rfl, hno, hr, hu⟩ := hrel
    have HNO : Hid (∀ j, 1 ≤ j → j < k → ltL (es.getD (j - 1) den).1 (es.getD j den).1) := hno
    clear hno h
    by_cases hlt : k < n
    · obtain ⟨j, rfl⟩ : ∃ j, k = j + 1 := ⟨k - 1, by omega⟩
      obtain ⟨x, hx⟩ : ∃ y, es[j]? = some y := ⟨es[j]'(by omega), List.getElem?_eq_getElem (by omega)⟩
      obtain ⟨y, hy⟩ : ∃ y, es[j + 1]? = some y := ⟨es[j + 1]'(by omega), List.getElem?_eq_getElem (by omega)⟩
      obtain ⟨b, off, hao, _, hc⟩ := hr.2.2 (by omega)
      obtain ⟨so, sn, sc, c0, c1, c2, c3, _⟩ := hc j x hx
      obtain ⟨to, tn, tc, d0, d1, d2, d3, _⟩ := hc (j + 1) y hy
      have HS : Hid (∀ W : World, Below wr.heap.size wr W → S8 b (off + j * 5) x.1 (off + (j + 1) * 5) y.1 W) := fun W u => ⟨bl_cell u c0, bl_cell u c1, bl_cell u c2, bl_cell u c3, bl_cell u d0, bl_cell u d1, bl_cell u d2, bl_cell u d3⟩
      have u0 : Below wr.heap.size wr wr.drew := (Below.refl _ _).drew
      have s0 := HS.out _ u0
      have hls := fun W => less_any W x.1 y.1
      have HC := cmpL_lt x.1 y.1
      have HX : Hid (es.getD j den = x ∧ es.getD (j + 1) den = y) := ⟨getD_some hx, getD_some hy⟩
      subst hao
      have hR := hr
      clear hc hx hy hr c0 c1 c2 c3 d0 d1 d2 d3
      obtain ⟨x, xm⟩ := x
      obtain ⟨y, ym⟩ := y
      have hltI : ((j : Int) + 1) < (n : Int) := by omega
      have hjl : ((j : Nat) : Int) < (n : Int) := by omega
      have hj0 : ¬ (((j : Nat) : Int) < 0) := by omega
      have hj1 : ¬ ((j : Int) + 1 < 0) := by omega
      have hwk : IntKind.i64.wrap (j : Int) = (j : Int) := IntWalk.i64_in _ (by omega)
      have hsub : ((j : Int) + 1) - 1 = (j : Int) := by omega
      have hk00 : (0 : Int) ≤ (j : Int) := by omega
      have hk01 : (0 : Int) ≤ (j : Int) + 1 := by omega
      have hwj : IntKind.i64.wrap ((j : Int) + 1) = (j : Int) + 1 := IntWalk.i64_in _ (by omega)
      have hto : ((j : Int) + 1).toNat = j + 1 := by omega
      simp only at hls HC s0 HS
      obtain ⟨f, hf⟩ : ∃ f, decide (cmpL x y < 0) = f := ⟨_, rfl⟩
      rw [hf] at hls
      unfold lab at hls
      unfold S8 at s0
      cases f with
      | true =>
        have HN2 : Hid (∀ i, 1 ≤ i → i < j + 1 + 1 → ltL (es.getD (i - 1) den).1 (es.getD i den).1) := fun i h1 h2 => by
          by_cases e : i = j + 1
          · subst e
            rw [show j + 1 - 1 = j by omega, HX.out.1, HX.out.2]
            exact HC.1 (by simpa using hf)
          · exact HNO.out i h1 (by omega)
        clear HNO HC hf HX
        go_wp2_with fail
        refine wp_region_noPanic ?_
        refine wp_region_held_drew (S := S8 b (off + j * 5) x (off + (j + 1) * 5) y) (by kernel_rfl) s0 (fun hHeld => ?_)
        unfold S8 at hHeld
        refine tq 0 ?_
        refine tq 1 ?_
        refine tq 2 ?_
        refine tq 3 ?_
        refine tq 4 ?_
        refine tq 5 ?_
        refine tq 6 ?_
        refine tq 7 ?_
        refine tq 8 ?_
        refine tq 9 ?_
        refine tq 10 ?_
        refine comes_up 11 rfl (by kernel_rfl) (fun K hK => ?_)
        go_simp
        refine (hls _).mono ?_
        rintro e w1 ⟨rfl, hu1⟩
        have u1 := bl_step u0 hu1.bl
        have hu2 : Up w w1 := (hu.drew).trans hu1
        clear hls s0 hu1
        go_wp2_with fail
        refine hK.out _ _ (HS.out _ u1) (fun hHeld => ?_)
        clear hK K
        (try simp only [Act.put, List.setIfInBounds_toArray, List.set_cons_zero, List.set_cons_succ])
        refine tq 12 ?_
        refine wpAnyH_done (by kernel_rfl) ?_ _
        refine NoPanic.normal ?_
        clear hHeld
        go_wp2
        go_roundw
        case rel => first | exact ⟨j + 1 + 1, by omega, by omega, by go_num, HN2.out, hR.bl u1, hu2⟩ | ((repeat apply Exists.intro); exact ⟨⟨j + 1 + 1, by omega, by omega, by go_num, HN2.out, hR.bl u1, hu2⟩, rfl⟩)
        case measure => simp [intOf]; omega
      | false =>
        have HN2 : Hid (¬ risE es) := fun hh => by
          have := hh (j + 1) (by omega) (by omega)
          rw [show j + 1 - 1 = j by omega, HX.out.1, HX.out.2] at this
          have := HC.2 this
          simp at hf
          omega
        clear HNO HC hf HX
        go_wp2_with fail
        refine wp_region_noPanic ?_
        refine wp_region_held_drew (S := S8 b (off + j * 5) x (off + (j + 1) * 5) y) (by kernel_rfl) s0 (fun hHeld => ?_)
        unfold S8 at hHeld
        refine tq 0 ?_
        refine tq 1 ?_
        refine tq 2 ?_
        refine tq 3 ?_
        refine tq 4 ?_
        refine tq 5 ?_
        refine tq 6 ?_
        refine tq 7 ?_
        refine tq 8 ?_
        refine tq 9 ?_
        refine tq 10 ?_
        refine comes_up 11 rfl (by kernel_rfl) (fun K hK => ?_)
        go_simp
        refine (hls _).mono ?_
        rintro e w1 ⟨rfl, hu1⟩
        have u1 := bl_step u0 hu1.bl
        have hu2 : Up w w1 := (hu.drew).trans hu1
        clear hls s0 hu1
        go_wp2_with fail
        refine hK.out _ _ (HS.out _ u1) (fun hHeld => ?_)
        clear hK K
        (try simp only [Act.put, List.setIfInBounds_toArray, List.set_cons_zero, List.set_cons_succ])
        refine tq 12 ?_
        refine wpAnyH_done (by kernel_rfl) ?_ _
        refine NoPanic.normal ?_
        clear hHeld
        go_wp2
        go_ret
        exact ⟨false, rfl, by simp [HN2.out], hu2⟩
    · have HN2 : Hid (risE es) := fun j h1 h2 => HNO.out j h1 (by omega)
      have hlt' : ¬ ((k : Int) < (n : Int)) := by omega
      clear HNO hr
      go_wp2
      go_ret
      exact .inr ⟨rfl, HN2.out, hu⟩

set_option maxRecDepth 10000 in
set_option maxHeartbeats 2000000 in
theorem refRight_any (p : Nat → Prop) (w : World) (ao : Option Addr) (n ac : Nat) (es : List (Lb × List UInt8)) (h : ER p w ao n es) (bo : Option Addr) (m bc : Nat) (ls : List Lb) (g : LR w bo m ls) (hmc : m ≤ bc) (hm : m ≤ 140737488355328) (nx : Int) (hn : Nat) (hp : Int) :
    Calls Try.prog 15 #[sumv (.slice ao n ac) (.slice bo m bc) nx hn hp] w fun e w' => e = .returned (.bool (rightS es ls nx hn hp)) ∧ Up w w' := by
  unfold sumv
  have b0 : Up w (w.alloc (.cells #[.slice ao n ac, .slice bo m bc, .int .i64 nx, .int .u64 (hn : Nat), .int .i64 hp] 38)) := (Up.refl _).alloc _
  have c1 := sb_new w (.slice ao n ac) (.slice bo m bc) nx hn hp 38
  have h3 := fun W => refForm_any W hn hp
  have hel := h.1
  have hll := g.1
  have hnmax := h.2.1
  have hwm : wrap64 ((m : Int) + 1) = (m : Int) + 1 := IntWalk.wrap64_in _ (by omega)
  unfold vid at h3
  have H := h.bl b0.bl
  have G := g.up b0.bl
  have HRS : Hid (rightS es ls nx hn hp = (ascE es && (ls.all formL && decide ls.Nodup) && decide (1 ≤ nx) && decide (nx ≤ (m : Int) + 1) && formV hn hp)) := by
    show _ = _
    unfold rightS
    rw [hll]
  generalize rightS es ls nx hn hp = R at *
  obtain ⟨W0, hW0⟩ : ∃ W, Hid (w.alloc (.cells #[.slice ao n ac, .slice bo m bc, .int .i64 nx, .int .u64 (hn : Nat), .int .i64 hp] 38) = W) := ⟨_, rfl⟩
  rw [hW0.out] at b0 c1 H G
  obtain ⟨g0, hg0⟩ : ∃ g, Hid (w.heap.size = g) := ⟨_, rfl⟩
  rw [hg0.out] at c1
  clear h g
  go_enter Try.func15, Try.ntmps15
  go_wp2_with fail
  rw [hW0.out, hg0.out]
  go_loopw [3] (fun iv wr => ∃ k : Nat, k ≤ n ∧ iv = .int .i64 k ∧ (∀ j, j < k → formE (es.getD j den).1 (es.getD j den).2.length = true) ∧ ER p wr ao n es ∧ LR wr bo m ls ∧ Sb g0 (.slice ao n ac) (.slice bo m bc) nx hn hp wr ∧ Up w wr) (fun iv _ => n - (intOf iv).toNat)
  case atStart => exact ⟨0, by omega, rfl, fun j hj => by omega, H, G, c1, b0⟩
  case round =>
    obtain ⟨k, hk, rfl, hno, hr, hlr, hsb, hu⟩ := hrel
    have HNO : Hid (∀ j, j < k → formE (es.getD j den).1 (es.getD j den).2.length = true) := hno
    clear hno H G c1 b0
    by_cases hlt : k < n
    · have hltI : (k : Int) < (n : Int) := by omega
      have hk0 : ¬ ((k : Int) < 0) := by omega
      obtain ⟨x, hx⟩ : ∃ y, es[k]? = some y := ⟨es[k]'(by omega), List.getElem?_eq_getElem (by omega)⟩
      obtain ⟨b, off, hao, _, hc⟩ := hr.2.2 (by omega)
      obtain ⟨so, sn, sc, c0, c1, c2, c3, c4, hrow, _⟩ := hc k x hx
      have HX : Hid (es.getD k den = x ∧ x.2.length = sn) := ⟨getD_some hx, hrow.1⟩
      have hfe := fun W => refFormE_any W x.1 so sn sc
      obtain ⟨s0, s1, s2, s3, s4⟩ := id hsb
      have HRR := hr
      subst hao
      clear hc hx hr hrow
      obtain ⟨x, xm⟩ := x
      obtain ⟨f, hf⟩ : ∃ f, formE x sn = f := ⟨_, rfl⟩
      simp only at hfe c0 c1 c2 c3 c4
      rw [hf] at hfe
      unfold ent at hfe
      cases f with
      | true =>
        have HN2 : Hid (∀ j, j < k + 1 → formE (es.getD j den).1 (es.getD j den).2.length = true) := fun j hj => by
          by_cases e : j = k
          · subst e
            rw [HX.out.1]
            show formE x xm.length = true
            rw [show xm.length = sn from HX.out.2]
            exact hf
          · exact HNO.out j (by omega)
        clear HNO HX hf
        go_wp2_with fail
        refine (hfe _).mono ?_
        rintro e w1 ⟨rfl, hu1⟩
        have hu2 := hu.trans hu1
        have q1 := HRR.bl hu1.bl
        have q2 := hlr.up hu1.bl
        have q3 := hsb.bl hu1.bl
        clear hfe HRR hlr hsb c0 c1 c2 c3 c4 s0 s1 s2 s3 s4 hu hu1
        go_wp2
        go_roundw
        case rel => first | exact ⟨k + 1, by omega, by go_num, HN2.out, q1, q2, q3, hu2⟩ | ((repeat apply Exists.intro); exact ⟨⟨k + 1, by omega, by go_num, HN2.out, q1, q2, q3, hu2⟩, rfl⟩)
        case measure => simp [intOf]; omega
      | false =>
        have HN2 : Hid (R = false) := by
          show R = false
          rw [HRS.out]
          have : ascE es = false := by
            rw [← Bool.not_eq_true]
            intro hh
            have := ((asc_iff es).1 hh).1 k (by omega)
            rw [HX.out.1] at this
            have h2 : formE x xm.length = true := this
            rw [show xm.length = sn from HX.out.2, hf] at h2
            cases h2
          rw [this]
          rfl
        clear HNO HX hf HRS
        go_wp2_with fail
        refine (hfe _).mono ?_
        rintro e w1 ⟨rfl, hu1⟩
        have hu2 := hu.trans hu1
        clear hfe HRR hlr hsb c0 c1 c2 c3 c4 s0 s1 s2 s3 s4 hu hu1
        go_wp2
        go_ret
        exact ⟨ret_bool HN2.out.symm, hu2⟩
    · obtain rfl : n = k := by omega
      have HFE : Hid (frmE es) := fun j hj => HNO.out j (by omega)
      have hltI : ¬ ((n : Int) < (n : Int)) := by omega
      obtain ⟨s0, s1, s2, s3, s4⟩ := id hsb
      clear HNO s0 s1 s2 s3 s4
      obtain ⟨s0, s1, s2, s3, s4⟩ := id hsb
      have HR0 := hr
      go_wp2_with fail
      go_loopw [4] (fun iv wr => ∃ k : Nat, k ≤ m ∧ iv = .int .i64 k ∧ (∀ j x, j < k → ls[j]? = some x → formL x = true ∧ x ∉ ls.take j) ∧ ER p wr ao n es ∧ LR wr bo m ls ∧ Sb g0 (.slice ao n ac) (.slice bo m bc) nx hn hp wr ∧ Up w wr) (fun iv _ => m - (intOf iv).toNat)
      case atStart => exact ⟨0, by omega, rfl, fun j x hj => by omega, hr, hlr, hsb, hu⟩
      case round =>
        rename_i wr0 _ _
        clear hr hlr hsb hu s0 s1 s2 s3 s4 HR0
        obtain ⟨k, hk, rfl, hno, hr, hlr, hsb, hu⟩ := hrel
        have HNO : Hid (∀ j x, j < k → ls[j]? = some x → formL x = true ∧ x ∉ ls.take j) := hno
        clear hno
        by_cases hlt : k < m
        · have hltI : (k : Int) < (m : Int) := by omega
          have hk0 : ¬ ((k : Int) < 0) := by omega
          have hk00 : (0 : Int) ≤ (k : Int) := by omega
          have hkc : (k : Int) ≤ (bc : Int) := by omega
          obtain ⟨x, hx⟩ : ∃ y, ls[k]? = some y := ⟨ls[k]'(by omega), List.getElem?_eq_getElem (by omega)⟩
          obtain ⟨b, off, hao, hc⟩ := hlr.2.2 (by omega)
          obtain ⟨c0, c1, c2, c3⟩ := hc k x hx
          have hff := fun W => refFormL_any W x
          subst hao
          have hin := fun W (u : Below wr.heap.size wr W) => in_any W (some ⟨b, off, none⟩) k bc (ls.take k) ((hlr.up u).takeK k (by omega)) x
          have HS : Hid (∀ W : World, Below wr.heap.size wr W → S9 g0 (.slice ao n ac) (.slice (some ⟨b, off, none⟩) m bc) nx hn hp b (off + k * 4) x W) := fun W u => ⟨bl_cell u c0, bl_cell u c1, bl_cell u c2, bl_cell u c3, hsb.bl u⟩
          have u0 : Below wr.heap.size wr wr.drew := (Below.refl _ _).drew
          have s0 := HS.out _ u0
          have HX : Hid (ls[k]? = some x) := hx
          unfold lab at hff hin
          unfold S9 Sb at s0
          obtain ⟨t0, t1, t2, t3, t4⟩ := id hsb
          clear hc c0 c1 c2 c3 hx
          obtain ⟨f, hf⟩ : ∃ f, formL x = f := ⟨_, rfl⟩
          rw [hf] at hff
          cases f with
          | false =>
            have HN2 : Hid (R = false) := by
              show R = false
              rw [HRS.out]
              have : ls.all formL = false := by
                rw [List.all_eq_false]
                exact ⟨x, List.mem_of_getElem? HX.out, by rw [hf]; simp⟩
              rw [this]
              simp
            clear HNO HX hf HRS hin HFE
            go_wp2_with fail
            refine wp_region_noPanic ?_
            refine wp_region_held_drew (S := S9 g0 (.slice ao n ac) (.slice (some ⟨b, off, none⟩) m bc) nx hn hp b (off + k * 4) x) (by kernel_rfl) s0 (fun hHeld => ?_)
            unfold S9 Sb at hHeld
            refine tq 0 ?_
            refine tq 1 ?_
            refine tq 2 ?_
            refine tq 3 ?_
            refine tq 4 ?_
            refine comes_up 5 rfl (by kernel_rfl) (fun K hK => ?_)
            go_simp
            refine (hff _).mono ?_
            rintro e w1 ⟨rfl, hu1⟩
            have u1 := bl_step u0 hu1.bl
            have hu2 : Up w w1 := (hu.drew).trans hu1
            clear hff s0 hu1
            go_wp2_with fail
            refine hK.out _ _ (HS.out _ u1) (fun hHeld => ?_)
            clear hK K
            (try simp only [Act.put, List.setIfInBounds_toArray, List.set_cons_zero, List.set_cons_succ])
            refine tq 6 ?_
            refine tq 7 ?_
            refine tqS 8 ?_
            refine tqS 9 ?_
            refine tqS 10 ?_
            refine tqS 11 ?_
            refine tqS 12 ?_
            refine tqS 13 ?_
            refine tqS 14 ?_
            refine tqS 15 ?_
            refine tqS 16 ?_
            refine tqS 17 ?_
            refine tq 18 ?_
            refine wpAnyH_done (by kernel_rfl) ?_ _
            refine NoPanic.normal ?_
            clear hHeld
            go_wp2
            go_ret
            exact ⟨ret_bool HN2.out.symm, hu2⟩
          | true =>
            obtain ⟨d, hd⟩ : ∃ d, decide (x ∈ ls.take k) = d := ⟨_, rfl⟩
            rw [hd] at hin
            cases d with
            | true =>
              have HN2 : Hid (R = false) := by
                show R = false
                rw [HRS.out]
                have : decide ls.Nodup = false := by
                  rw [decide_eq_false_iff_not]
                  intro hnd
                  have hmem : x ∈ ls.take k := by simpa using hd
                  obtain ⟨i, hi, hie⟩ := List.getElem_of_mem hmem
                  have hik : i < k := by simp at hi; omega
                  have h1 : ls[i]? = some x := by
                    rw [List.getElem_take] at hie
                    rw [← hie]
                    exact List.getElem?_eq_getElem _
                  have hlk : k < ls.length := by omega
                  have := (List.getElem?_inj (by omega : i < ls.length) hnd).1 (h1.trans HX.out.symm)
                  omega
                rw [this]
                simp
              clear HNO HX hf HRS HFE hd
              go_wp2_with fail
              refine wp_region_noPanic ?_
              refine wp_region_held_drew (S := S9 g0 (.slice ao n ac) (.slice (some ⟨b, off, none⟩) m bc) nx hn hp b (off + k * 4) x) (by kernel_rfl) s0 (fun hHeld => ?_)
              unfold S9 Sb at hHeld
              refine tq 0 ?_
              refine tq 1 ?_
              refine tq 2 ?_
              refine tq 3 ?_
              refine tq 4 ?_
              refine comes_up 5 rfl (by kernel_rfl) (fun K hK => ?_)
              go_simp
              refine (hff _).mono ?_
              rintro e w1 ⟨rfl, hu1⟩
              have u1 := bl_step u0 hu1.bl
              have hu2 : Up w w1 := (hu.drew).trans hu1
              have hin1 := hin w1 u1
              clear hff s0 hu1 hin
              go_wp2_with fail
              refine hK.out _ _ (HS.out _ u1) (fun hHeld => ?_)
              clear hK K
              (try simp only [Act.put, List.setIfInBounds_toArray, List.set_cons_zero, List.set_cons_succ])
              refine tq 6 ?_
              refine tq 7 ?_
              refine tq 8 ?_
              refine tq 9 ?_
              refine tq 10 ?_
              refine tq 11 ?_
              refine tq 12 ?_
              refine tq 13 ?_
              refine tq 14 ?_
              refine tq 15 ?_
              refine tq 16 ?_
              refine comes_up 17 rfl (by kernel_rfl) (fun K hK => ?_)
              go_simp
              refine hin1.mono ?_
              rintro e w2 ⟨rfl, hu3⟩
              have u2 := bl_step u1 hu3.bl
              have hu4 := hu2.trans hu3
              clear hin1 hu3 hu2
              go_wp2_with fail
              refine hK.out _ _ (HS.out _ u2) (fun hHeld => ?_)
              clear hK K
              (try simp only [Act.put, List.setIfInBounds_toArray, List.set_cons_zero, List.set_cons_succ])
              refine tq 18 ?_
              refine wpAnyH_done (by kernel_rfl) ?_ _
              refine NoPanic.normal ?_
              clear hHeld
              go_wp2
              go_ret
              exact ⟨ret_bool HN2.out.symm, hu4⟩
            | false =>
              have HN2 : Hid (∀ j y, j < k + 1 → ls[j]? = some y → formL y = true ∧ y ∉ ls.take j) := fun j y hj hy => by
                by_cases e : j = k
                · subst e
                  rw [HX.out] at hy
                  cases hy
                  exact ⟨hf, by simpa using hd⟩
                · exact HNO.out j y (by omega) hy
              clear HNO HX hf hd
              go_wp2_with fail
              refine wp_region_noPanic ?_
              refine wp_region_held_drew (S := S9 g0 (.slice ao n ac) (.slice (some ⟨b, off, none⟩) m bc) nx hn hp b (off + k * 4) x) (by kernel_rfl) s0 (fun hHeld => ?_)
              unfold S9 Sb at hHeld
              refine tq 0 ?_
              refine tq 1 ?_
              refine tq 2 ?_
              refine tq 3 ?_
              refine tq 4 ?_
              refine comes_up 5 rfl (by kernel_rfl) (fun K hK => ?_)
              go_simp
              refine (hff _).mono ?_
              rintro e w1 ⟨rfl, hu1⟩
              have u1 := bl_step u0 hu1.bl
              have hu2 : Up w w1 := (hu.drew).trans hu1
              have hin1 := hin w1 u1
              clear hff s0 hu1 hin
              go_wp2_with fail
              refine hK.out _ _ (HS.out _ u1) (fun hHeld => ?_)
              clear hK K
              (try simp only [Act.put, List.setIfInBounds_toArray, List.set_cons_zero, List.set_cons_succ])
              refine tq 6 ?_
              refine tq 7 ?_
              refine tq 8 ?_
              refine tq 9 ?_
              refine tq 10 ?_
              refine tq 11 ?_
              refine tq 12 ?_
              refine tq 13 ?_
              refine tq 14 ?_
              refine tq 15 ?_
              refine tq 16 ?_
              refine comes_up 17 rfl (by kernel_rfl) (fun K hK => ?_)
              go_simp
              refine hin1.mono ?_
              rintro e w2 ⟨rfl, hu3⟩
              have u2 := bl_step u1 hu3.bl
              have hu4 := hu2.trans hu3
              clear hin1 hu3 hu2
              go_wp2_with fail
              refine hK.out _ _ (HS.out _ u2) (fun hHeld => ?_)
              clear hK K
              (try simp only [Act.put, List.setIfInBounds_toArray, List.set_cons_zero, List.set_cons_succ])
              refine tq 18 ?_
              refine wpAnyH_done (by kernel_rfl) ?_ _
              refine NoPanic.normal ?_
              clear hHeld
              have q1 := hr.bl u2
              have q2 := hlr.up u2
              have q3 := hsb.bl u2
              clear hr hlr hsb
              go_wp2
              go_roundw
              case rel => first | exact ⟨k + 1, by omega, by go_num, HN2.out, q1, q2, q3, hu4⟩ | ((repeat apply Exists.intro); exact ⟨⟨k + 1, by omega, by go_num, HN2.out, q1, q2, q3, hu4⟩, rfl⟩)
              case measure => simp [intOf]; omega
        · obtain rfl : m = k := by omega
          have hltI2 : ¬ ((m : Int) < (m : Int)) := by omega
          have HLS : Hid ((ls.all formL && decide ls.Nodup) = true) := by
            show (ls.all formL && decide ls.Nodup) = true
            simp only [Bool.and_eq_true, decide_eq_true_eq]
            refine ⟨?_, ?_⟩
            · rw [List.all_eq_true]
              intro x hx
              obtain ⟨i, hi, hie⟩ := List.getElem_of_mem hx
              exact (HNO.out i x (by omega) (by rw [← hie]; exact List.getElem?_eq_getElem hi)).1
            · rw [List.nodup_iff_pairwise_ne, List.pairwise_iff_getElem]
              intro i j hi hj hij e
              have := (HNO.out j (ls[j]'hj) (by omega) (List.getElem?_eq_getElem hj)).2
              apply this
              rw [← e]
              exact List.mem_take_iff_getElem.2 ⟨i, by omega, rfl⟩
          have hris := fun W (u : Up wr W) => rising_any p W ao n ac es (hr.bl u.bl)
          obtain ⟨s0, s1, s2, s3, s4⟩ := id hsb
          have hr0 := hris wr (Up.refl _)
          clear HNO hris hr hlr
          go_wp2_with fail
          refine hr0.mono ?_
          rintro e w1 ⟨r, rfl, hri, hu1⟩
          have hu2 := hu.trans hu1
          have HAS : Hid (ascE es = r) := by
            show ascE es = r
            rw [Bool.eq_iff_iff, asc_iff, hri]
            exact ⟨fun h => h.2, fun h => ⟨HFE.out, h⟩⟩
          have D1 := hsb.bl hu1.bl
          clear hr0 hri s0 s1 s2 s3 s4 hsb hu hu1 HFE
          obtain ⟨s0, s1, s2, s3, s4⟩ := D1
          cases r with
          | false =>
            have HF : Hid (false = R) := by
              show false = R
              rw [HRS.out, HAS.out]
              simp
            clear h3 HRS HAS HLS
            go_wp2
            go_ret
            exact ⟨ret_bool HF.out, hu2⟩
          | true =>
            by_cases q1 : 1 ≤ nx
            · by_cases q2 : nx ≤ (m : Int) + 1
              · have HF : Hid (formV hn hp = R) := by
                  show _ = R
                  rw [HRS.out, HAS.out, HLS.out]
                  simp [q1, q2]
                generalize formV hn hp = f3 at *
                clear HRS HAS HLS
                go_wp2_with fail
                refine (h3 _).mono ?_
                rintro e w3 ⟨rfl, hu3⟩
                have hu4 := hu2.trans hu3
                clear h3 s0 s1 s2 s3 s4 hu2 hu3
                go_wp2
                go_ret
                exact ⟨ret_bool HF.out, hu4⟩
              · have HF : Hid (false = R) := by
                  show false = R
                  rw [HRS.out]
                  simp
                  intros
                  omega
                clear h3 HRS HAS HLS
                go_wp2
                go_ret
                exact ⟨ret_bool HF.out, hu2⟩
            · have HF : Hid (false = R) := by
                show false = R
                rw [HRS.out]
                simp
                intros
                omega
              clear h3 HRS HAS HLS
              go_wp2
              go_ret
              exact ⟨ret_bool HF.out, hu2⟩
end Go.Proofs.Ytpdgoalbknopiaa
