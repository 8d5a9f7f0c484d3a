/-
  The document's Find; a copy of bytes.
-/
import Derived.Test.YtooeemhlpmiceaaFMath
import Derived.Test.YtooeemhlpmiceaaEOwn
namespace Go.Proofs.Ytooeemhlpmiceaa
open Go.RowKit
set_option linter.unusedVariables false
set_option linter.unusedSimpArgs false

/-- What a round of Find reads. -/
def S4 (b o : Nat) (x : Lb) (g : Nat) (y : Lb) (w : World) : Prop :=
  w.cell? ⟨b, o, none⟩ = some (.int .u64 (x.1 : Nat)) ∧ w.cell? ⟨b, o + 1, none⟩ = some (.int .i64 x.2.1) ∧ w.cell? ⟨b, o + 2, none⟩ = some (.int .u64 (x.2.2.1 : Nat)) ∧ w.cell? ⟨b, o + 3, none⟩ = some (.int .i64 x.2.2.2) ∧
  w.cell? ⟨g, 0, none⟩ = some (.int .u64 (y.1 : Nat)) ∧ w.cell? ⟨g, 1, none⟩ = some (.int .i64 y.2.1) ∧ w.cell? ⟨g, 2, none⟩ = some (.int .u64 (y.2.2.1 : Nat)) ∧ w.cell? ⟨g, 3, none⟩ = some (.int .i64 y.2.2.2)
/-- What Find tells. -/
def FindIs (w w' : World) (es : List En) (x : Lb) (e : Ending) : Prop :=
  ∃ v b, e = .returned (.tuple #[v, .bool b]) ∧ b = (findE es x).isSome ∧ (∃ so sn sc, v = .slice so sn sc ∧ Cd.Row w' so sn sc ((findE es x).getD []))

set_option maxRecDepth 10000 in
set_option maxHeartbeats 1000000 in
theorem refFind_any (p : Nat → Prop) (w : World) (ao : Option Addr) (n cap : Nat) (es : List En) (h : ER p w ao n es) (y : Lb) :
    Calls Try.prog 22 #[.slice ao n cap, lab y] w fun e w' => FindIs w w' es y e ∧ Up w w' := by
  have hl := h.1
  have hmax := h.2.1
  have b0 : Up w (w.alloc (.cells #[.int .u64 (y.1 : Nat), .int .i64 y.2.1, .int .u64 (y.2.2.1 : Nat), .int .i64 y.2.2.2] 34)) := (Up.refl _).alloc _
  have c0 := bx_new w y.1 y.2.1 y.2.2.1 y.2.2.2 34
  have H := h.bl b0.bl
  obtain ⟨W0, hW0⟩ : ∃ W, Hid (w.alloc (.cells #[.int .u64 (y.1 : Nat), .int .i64 y.2.1, .int .u64 (y.2.2.1 : Nat), .int .i64 y.2.2.2] 34) = W) := ⟨_, rfl⟩
  rw [hW0.out] at b0 c0 H
  obtain ⟨g0, hg0⟩ : ∃ g, Hid (w.heap.size = g) := ⟨_, rfl⟩
  rw [hg0.out] at c0
  unfold lab
  clear h
  go_enter Try.func22, Try.ntmps22
  go_wp2_with fail
  rw [hW0.out, hg0.out]
  go_loopw [6] (fun iv wr => ∃ k : Nat, k ≤ n ∧ iv = .int .i64 k ∧ (∀ j z, j < k → es[j]? = some z → z.1 ≠ y) ∧ ER p wr ao n es ∧ Bx g0 y.1 y.2.1 y.2.2.1 y.2.2.2 wr ∧ Up w wr) (fun iv _ => n - (intOf iv).toNat)
  case atStart => exact ⟨0, by omega, rfl, fun j z hj => by omega, H, c0, b0⟩
  case round =>
    clear H c0 b0
    obtain ⟨k, hk, rfl, hno, hr, hbx, hu⟩ := hrel
    have HNO : Hid (∀ j z, j < k → es[j]? = some z → z.1 ≠ y) := hno
    clear hno
    by_cases hlt : k < n
    · have hltI : (k : Int) < (n : Int) := by omega
      have hk0 : ¬ ((k : Int) < 0) := by omega
      obtain ⟨x, hx⟩ : ∃ z, es[k]? = some z := ⟨es[k]'(by omega), List.getElem?_eq_getElem (by omega)⟩
      obtain ⟨b, off, hao, _, hc⟩ := hr.2.2 (by omega)
      obtain ⟨so, sn, sc, c0, c1, c2, c3, c4, hrow, _⟩ := hc k x hx
      have u0 : Below wr.heap.size wr wr.drew := (Below.refl _ _).drew
      have HS : Hid (∀ W : World, Below wr.heap.size wr W → S4 b (off + k * 5) x.1 g0 y W) := fun W u => ⟨bl_cell u c0, bl_cell u c1, bl_cell u c2, bl_cell u c3, bl_cell u hbx.1, bl_cell u hbx.2.1, bl_cell u hbx.2.2.1, bl_cell u hbx.2.2.2⟩
      have s0 := HS.out _ u0
      have d4 := bl_cell u0 c4
      have heq := fun W => lab_equal x.1 y W
      have HX : Hid (es[k]? = some x) := hx
      have HR := hr.bl u0
      have HB : Bx g0 y.1 y.2.1 y.2.2.1 y.2.2.2 wr.drew := ⟨bl_cell u0 hbx.1, bl_cell u0 hbx.2.1, bl_cell u0 hbx.2.2.1, bl_cell u0 hbx.2.2.2⟩
      have hrow2 := hrow.below u0 (Nat.le_refl _)
      subst hao
      clear hc hx hr hbx hrow c0 c1 c2 c3 c4
      obtain ⟨x, xm⟩ := x
      simp only at heq s0 HS
      unfold S4 at s0
      cases he : decide (x = y) with
      | true =>
        rw [he] at heq
        have exy : x = y := by simpa using he
        have HF : Hid (findE es y = some xm) := find_at HX.out exy (fun j z hj hz => HNO.out j z hj hz)
        clear he HNO exy
        go_wp2_with fail
        refine wp_region_noPanic ?_
        refine wp_region_held_drew (S := S4 b (off + k * 5) x g0 y) (by kernel_rfl) s0 (fun hHeld => ?_)
        unfold S4 at hHeld
        refine tq 0 ?_
        refine tq 1 ?_
        refine tq 2 ?_
        refine tq 3 ?_
        refine tq 4 ?_
        refine tq 5 ?_
        refine tq 6 ?_
        refine wpAnyH_done (by kernel_rfl) ?_ _
        refine NoPanic.normal ?_
        clear hHeld
        go_wp2
        go_ret2
        refine ⟨⟨_, _, rfl, by rw [HF.out]; rfl, so, sn, sc, rfl, ?_⟩, hu.drew⟩
        rw [HF.out]
        exact hrow2
      | false =>
        rw [he] at heq
        have HN2 : Hid (∀ j z, j < k + 1 → es[j]? = some z → z.1 ≠ y) := fun j z hj hz => by
          by_cases e : j = k
          · subst e
            rw [HX.out] at hz
            cases hz
            simpa using he
          · exact HNO.out j z (by omega) hz
        clear he HNO
        go_wp2_with fail
        refine wp_region_noPanic ?_
        refine wp_region_held_drew (S := S4 b (off + k * 5) x g0 y) (by kernel_rfl) s0 (fun hHeld => ?_)
        unfold S4 at hHeld
        refine tq 0 ?_
        refine tq 1 ?_
        refine tq 2 ?_
        refine tq 3 ?_
        refine tq 4 ?_
        refine tq 5 ?_
        refine tq 6 ?_
        refine wpAnyH_done (by kernel_rfl) ?_ _
        refine NoPanic.normal ?_
        clear hHeld
        go_wp2
        go_roundw
        case rel => first | exact ⟨k + 1, by omega, by go_num, HN2.out, HR, HB, hu.drew⟩ | ((repeat apply Exists.intro); exact ⟨⟨k + 1, by omega, by go_num, HN2.out, HR, HB, hu.drew⟩, rfl⟩)
        case measure => simp [intOf]; omega
    · obtain rfl : n = k := by omega
      have hltI : ¬ ((n : Int) < (n : Int)) := by omega
      have HF : Hid (findE es y = none) := find_not (fun j z hz => HNO.out j z (by have := (List.getElem?_eq_some_iff.1 hz).1; omega) hz)
      clear HNO hr hbx
      go_wp2
      go_ret2
      refine ⟨⟨_, _, rfl, by rw [HF.out]; rfl, none, 0, 0, rfl, ?_⟩, hu⟩
      rw [HF.out]
      exact nil_row _
set_option maxRecDepth 10000 in
set_option maxHeartbeats 1000000 in
theorem bclone_any (w : World) (ao : Option Addr) (n cap : Nat) (xs : List UInt8) (h : Cd.Row w ao n cap xs) (hn : n ≤ 140737488355328) :
    Calls Try.prog 46 #[.slice ao n cap] w fun e w' => ∃ v, e = .returned v ∧ w'.ownsRow w.heap.size 5 1 v xs.length (xs.map Cd.by8) ∧ Below w.heap.size w w' := by
  have q := fun (w : World) (a : Option Addr) (n c n' c' : Nat) => Lib.run_eql_slice_nil (P := Try.prog) w 35 5 a n c n' c' und34
  have hl := h.1
  cases ao with
  | none =>
    obtain ⟨rfl, rfl⟩ := h.2.2.2.1 rfl
    have : xs = [] := List.eq_nil_of_length_eq_zero hl
    subst this
    clear h
    go_enter Try.func46, Try.ntmps46
    go_wp2
    go_ret
    exact ⟨_, rfl, World.ownsRow_nil _ _ _ _, Below.refl _ _⟩
  | some a =>
    have hal := bl1 w (.cells #[] 5)
    have hown : (w.alloc (.cells #[] 5)).ownsRow w.heap.size 5 1 (.slice (some ⟨w.heap.size, 0, none⟩) 0 0) ([] : List UInt8).length (([] : List UInt8).map Cd.by8) := by
      have := World.ownsRow_lit (base := w.heap.size) (e := 5) (size := 1) w #[] 0 (Nat.le_refl _) (by unfold maxLen; omega) rfl
      simpa using this
    have hcs : ∀ j u, (xs.map Cd.by8)[j]? = some u → (w.alloc (.cells #[] 5)).cell? (a.add j) = some u := fun j u hj => bl_cell hal (h.olds a rfl j u hj)
    have hs : w.heap.size ≤ (w.alloc (.cells #[] 5)).heap.size := hal.size
    have hnil := q
    clear h
    go_enter Try.func46, Try.ntmps46
    go_wp2_with (at_builtin; refine wpList_append_adds rfl (.tmp 5) (.tmp 6) rfl w.heap.size _ [] rfl ?d1 a n cap xs rfl ?d0 ?d2 ?d3 ?d4 ?_)
    case d1 => exact hown
    case d0 => exact hl
    case d2 => exact hcs
    case d3 => simpa using hn
    case d4 => exact hs
    intro v w1 ha
    have hb := hal.trans (ha.below hs (fun k hk => (own_lt hown k hk).1))
    have ho := ha.own
    clear hown hcs hs ha
    go_wp2
    go_ret
    exact ⟨v, rfl, by simpa using ho, hb⟩
end Go.Proofs.Ytooeemhlpmiceaa
