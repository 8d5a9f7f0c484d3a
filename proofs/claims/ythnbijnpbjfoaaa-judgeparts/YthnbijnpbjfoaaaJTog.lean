/-
  judge's sameTogether: have those received as many who go on into one view?
-/
import Derived.Test.YthnbijnpbjfoaaaJGrp
namespace Go.Proofs.Ythnbijnpbjfoaaa
open Go.RowKit Go.Sort
set_option linter.unusedVariables false

def TogP (a b : Sy) : Prop := 0 < a.nn → a.nn = b.nn → a.np = b.np → a.got.length = b.got.length
def Tog (ys : List Sy) : Prop := ∀ (i j : Nat) a b, j < i → ys[i]? = some a → ys[j]? = some b → TogP a b
def S7 (q q' : Nat) (n : Nat) (p : Int) (rg : Sr) (n' : Nat) (p' : Int) (rg' : Sr) (w : World) : Prop :=
  w.cell? ⟨q, 7, none⟩ = some (.int .u64 (n : Nat)) ∧ w.cell? ⟨q, 8, none⟩ = some (.int .i64 p) ∧ w.cell? ⟨q, 5, none⟩ = some (.slice rg.1 rg.2.1 rg.2.2) ∧ w.cell? ⟨q', 7, none⟩ = some (.int .u64 (n' : Nat)) ∧ w.cell? ⟨q', 8, none⟩ = some (.int .i64 p') ∧ w.cell? ⟨q', 5, none⟩ = some (.slice rg'.1 rg'.2.1 rg'.2.2)
theorem S7.up {q q' n : Nat} {p : Int} {rg : Sr} {n' : Nat} {p' : Int} {rg' : Sr} {w w' : World} (h : S7 q q' n p rg n' p' rg' w) (u : Below w.heap.size w w') : S7 q q' n p rg n' p' rg' w' := by
  obtain ⟨a, b, c, d, e, f⟩ := h
  exact ⟨bl_cell u a, bl_cell u b, bl_cell u c, bl_cell u d, bl_cell u e, bl_cell u f⟩
def BoolPost (w : World) (P : Prop) (e : Ending) (w' : World) : Prop := (∃ b : Bool, e = .returned (.bool b) ∧ (b = true ↔ P)) ∧ Up w w'
set_option maxRecDepth 10000 in
set_option maxHeartbeats 4000000 in
theorem tog_any (w : World) (ao : Option Addr) (n cap : Nat) (ys : List Sy) (h : Gr w ao n ys) (hc : n ≤ cap) :
    Calls Try.prog 46 #[.slice ao n cap] w fun e w' => BoolPost w (Tog ys) e w' := by
  have hl := h.len
  have hn := h.le
  have HI : Hid (Gr w ao n ys) := h
  clear h
  go_enter Try.func46, Try.ntmps46
  go_wp2_with fail
  go_loopw [3, 4, 6, 9] (fun _ _ _ iv wr => ∃ i : Nat, i ≤ n ∧ iv = .int .i64 (i : Nat) ∧ (∀ (i' j : Nat) a b, i' < i → j < i' → ys[i']? = some a → ys[j]? = some b → TogP a b) ∧ Up w wr) (fun _ _ _ iv _ => n - (intOf iv).toNat)
  case atStart => exact ⟨0, by omega, rfl, fun i' j a b hi => by omega, Up.refl _⟩
  case round =>
    obtain ⟨i, hi, rfl, hno, hu⟩ := hrel
    have HN : Hid ((∀ (i' j : Nat) a b, i' < i → j < i' → ys[i']? = some a → ys[j]? = some b → TogP a b) ∧ Up w wr) := ⟨hno, hu⟩
    clear hno
    by_cases hlt : i < n
    · have hltI : (i : Int) < (n : Int) := by omega
      have hi0 : ¬ ((i : Int) < 0) := by omega
      have hic : ¬ ((cap : Int) < (i : Int)) := by omega
      obtain ⟨y, hy⟩ : ∃ y, ys[i]? = some y := ⟨ys[i]'(by omega), List.getElem?_eq_getElem (by omega)⟩
      obtain ⟨b, off, q, rs, rg, hao, c0, y9, _, hitg, _⟩ := (HI.out.up hu.bl).at hy
      have HY : Hid (ys[i]? = some y ∧ Y9 wr q y rs rg ∧ y.got.length = rg.2.1) := ⟨hy, y9, hitg.len⟩
      subst hao
      clear hy y9 hitg hu
      go_wp2_with fail
      go_loopw [6, 18] (fun _ jv wx => ∃ j : Nat, j ≤ i ∧ jv = .int .i64 (j : Nat) ∧ (∀ (j' : Nat) b, j' < j → ys[j']? = some b → TogP y b) ∧ Up w wx ∧ Y9 wx q y rs rg) (fun _ jv _ => i - (intOf jv).toNat)
      case atStart => exact ⟨0, by omega, rfl, fun j' b hj => by omega, HN.out.2, HY.out.2.1⟩
      case round =>
        obtain ⟨j, hj, rfl, hno, hu, y9⟩ := hrel
        have HJ : Hid ((∀ (j' : Nat) b, j' < j → ys[j']? = some b → TogP y b) ∧ Up w wr ∧ Y9 wr q y rs rg) := ⟨hno, hu, y9⟩
        clear hno
        by_cases hji : j < i
        · have hjI : (j : Int) < (i : Int) := by omega
          have hj0 : ¬ ((j : Int) < 0) := by omega
          obtain ⟨z, hz⟩ : ∃ z, ys[j]? = some z := ⟨ys[j]'(by omega), List.getElem?_eq_getElem (by omega)⟩
          obtain ⟨b', off', q', rs', rg', hao', d0, z9, _, hitz, _⟩ := (HI.out.up hu.bl).at hz
          simp only [Option.some.injEq, Addr.mk.injEq, and_true] at hao'
          obtain ⟨rfl, rfl⟩ := hao'
          have s7 : S7 q q' y.nn y.np rg z.nn z.np rg' wr := ⟨y9.2.2.2.2.2.2.2.1, y9.2.2.2.2.2.2.2.2, y9.2.2.2.2.2.1, z9.2.2.2.2.2.2.2.1, z9.2.2.2.2.2.2.2.2, z9.2.2.2.2.2.1⟩
          have sd := s7.up ((Up.refl wr).drew).bl
          have HZ : Hid (ys[j]? = some z ∧ z.got.length = rg'.2.1) := ⟨hz, hitz.len⟩
          have hve := fun W => vid_equal y.nn y.np z.nn z.np W
          obtain ⟨vb, hvb⟩ : ∃ vb, decide (y.nn = z.nn ∧ y.np = z.np) = vb := ⟨_, rfl⟩
          rw [hvb] at hve
          have HVB : Hid (decide (y.nn = z.nn ∧ y.np = z.np) = vb) := hvb
          have HNX : Hid (TogP y z → (∀ (j' : Nat) b, j' < j + 1 → ys[j']? = some b → TogP y b) ∧ Up w wr.drew ∧ Y9 wr.drew q y rs rg) := fun hp => ⟨fun j' b hj' hb => by
            by_cases e : j' = j
            · subst e; rw [HZ.out.1] at hb; cases hb; exact hp
            · exact HJ.out.1 j' b (by omega) hb, HJ.out.2.1.drew, HJ.out.2.2.up ((Up.refl wr).drew).bl⟩
          clear hz hitz y9 z9 s7 hvb hu
          obtain ⟨ra, rn, rc⟩ := rg
          obtain ⟨ra', rn', rc'⟩ := rg'
          by_cases hn0 : y.nn = 0
          · have HP : Hid _ := HNX.out (fun h => by omega)
            rw [hn0] at sd
            go_wp2_with fail
            refine wp_region_noPanic ?_
            refine wp_region_held_drew (S := S7 q q' 0 y.np (ra, rn, rc) z.nn z.np (ra', rn', rc')) (by kernel_rfl) (sd) (fun hHeld => ?_)
            unfold S7 at hHeld
            refine tq 0 ?_
            refine tq 1 ?_
            refine tq 2 ?_
            refine tq 3 ?_
            refine tq 4 ?_
            refine tq 5 ?_
            refine tq 6 ?_
            refine tqS 7 ?_
            refine tqS 8 ?_
            refine tqS 9 ?_
            refine tqS 10 ?_
            refine tqS 11 ?_
            refine tqS 12 ?_
            refine tqS 13 ?_
            refine tqS 14 ?_
            refine tqS 15 ?_
            refine tq 16 ?_
            refine tq 17 ?_
            refine tqS 18 ?_
            refine tqS 19 ?_
            refine tqS 20 ?_
            refine tqS 21 ?_
            refine tqS 22 ?_
            refine tqS 23 ?_
            refine tqS 24 ?_
            refine tqS 25 ?_
            refine tqS 26 ?_
            refine tqS 27 ?_
            refine tqS 28 ?_
            refine tq 29 ?_
            refine wpAnyH_done (by kernel_rfl) ?_ _
            refine NoPanic.normal ?_
            go_wp2
            go_roundw
            case rel => exact ⟨j + 1, by omega, by go_num, HP.out⟩
            case measure => simp [intOf]; omega
          cases vb with
          | false =>
            have HP : Hid _ := HNX.out (fun _ h1 h2 => absurd (show y.nn = z.nn ∧ y.np = z.np from ⟨h1, h2⟩) (of_decide_eq_false HVB.out))
            go_wp2_with fail
            refine wp_region_noPanic ?_
            refine wp_region_held_drew (S := S7 q q' y.nn y.np (ra, rn, rc) z.nn z.np (ra', rn', rc')) (by kernel_rfl) (sd) (fun hHeld => ?_)
            unfold S7 at hHeld
            refine tq 0 ?_
            refine tq 1 ?_
            refine tq 2 ?_
            refine tq 3 ?_
            refine tq 4 ?_
            refine tq 5 ?_
            (try rw [show decide (0 < y.nn) = true from decide_eq_true (by omega)])
            refine tq 6 ?_
            refine tq 7 ?_
            refine tq 8 ?_
            refine tq 9 ?_
            refine tq 10 ?_
            refine tq 11 ?_
            refine tq 12 ?_
            refine tq 13 ?_
            refine tq 14 ?_
            refine tq 15 ?_
            refine tq 16 ?_
            refine tq 17 ?_
            refine tqS 18 ?_
            refine tqS 19 ?_
            refine tqS 20 ?_
            refine tqS 21 ?_
            refine tqS 22 ?_
            refine tqS 23 ?_
            refine tqS 24 ?_
            refine tqS 25 ?_
            refine tqS 26 ?_
            refine tqS 27 ?_
            refine tqS 28 ?_
            refine tq 29 ?_
            refine wpAnyH_done (by kernel_rfl) ?_ _
            refine NoPanic.normal ?_
            go_wp2
            go_roundw
            case rel => exact ⟨j + 1, by omega, by go_num, HP.out⟩
            case measure => simp [intOf]; omega
          | true =>
            by_cases hrr : rn = rn'
            · have HP : Hid _ := HNX.out (fun _ _ _ => by have := HY.out.2.2; have := HZ.out.2; simp only at *; omega)
              subst hrr
              go_wp2_with fail
              refine wp_region_noPanic ?_
              refine wp_region_held_drew (S := S7 q q' y.nn y.np (ra, rn, rc) z.nn z.np (ra', rn, rc')) (by kernel_rfl) (sd) (fun hHeld => ?_)
              unfold S7 at hHeld
              refine tq 0 ?_
              refine tq 1 ?_
              refine tq 2 ?_
              refine tq 3 ?_
              refine tq 4 ?_
              refine tq 5 ?_
              (try rw [show decide (0 < y.nn) = true from decide_eq_true (by omega)])
              refine tq 6 ?_
              refine tq 7 ?_
              refine tq 8 ?_
              refine tq 9 ?_
              refine tq 10 ?_
              refine tq 11 ?_
              refine tq 12 ?_
              refine tq 13 ?_
              refine tq 14 ?_
              refine tq 15 ?_
              refine tq 16 ?_
              refine tq 17 ?_
              refine tq 18 ?_
              refine tq 19 ?_
              refine tq 20 ?_
              refine tq 21 ?_
              refine tq 22 ?_
              refine tq 23 ?_
              refine tq 24 ?_
              refine tq 25 ?_
              refine tq 26 ?_
              refine tq 27 ?_
              refine tq 28 ?_
              refine tq 29 ?_
              refine wpAnyH_done (by kernel_rfl) ?_ _
              refine NoPanic.normal ?_
              go_wp2
              go_roundw
              case rel => exact ⟨j + 1, by omega, by go_num, HP.out⟩
              case measure => simp [intOf]; omega
            · have hrn : ((rn : Int) != (rn' : Int)) = true := by simp; omega
              have HNO : Hid (¬ Tog ys) := fun ht => by
                have h1 := ht i j y z hji HY.out.1 HZ.out.1 (by omega) (of_decide_eq_true HVB.out).1 (of_decide_eq_true HVB.out).2
                have := HY.out.2.2
                have := HZ.out.2
                simp only at *
                omega
              go_wp2_with fail
              refine wp_region_noPanic ?_
              refine wp_region_held_drew (S := S7 q q' y.nn y.np (ra, rn, rc) z.nn z.np (ra', rn', rc')) (by kernel_rfl) (sd) (fun hHeld => ?_)
              unfold S7 at hHeld
              refine tq 0 ?_
              refine tq 1 ?_
              refine tq 2 ?_
              refine tq 3 ?_
              refine tq 4 ?_
              refine tq 5 ?_
              (try rw [show decide (0 < y.nn) = true from decide_eq_true (by omega)])
              refine tq 6 ?_
              refine tq 7 ?_
              refine tq 8 ?_
              refine tq 9 ?_
              refine tq 10 ?_
              refine tq 11 ?_
              refine tq 12 ?_
              refine tq 13 ?_
              refine tq 14 ?_
              refine tq 15 ?_
              refine tq 16 ?_
              refine tq 17 ?_
              refine tq 18 ?_
              refine tq 19 ?_
              refine tq 20 ?_
              refine tq 21 ?_
              refine tq 22 ?_
              refine tq 23 ?_
              refine tq 24 ?_
              refine tq 25 ?_
              refine tq 26 ?_
              refine tq 27 ?_
              refine tq 28 ?_
              refine tq 29 ?_
              refine wpAnyH_done (by kernel_rfl) ?_ _
              refine NoPanic.normal ?_
              go_wp2
              go_ret
              exact ⟨⟨false, rfl, by simp; exact HNO.out⟩, HJ.out.2.1.drew⟩
        · obtain rfl : j = i := by omega
          have HP : Hid ((∀ (i' j' : Nat) a b, i' < j + 1 → j' < i' → ys[i']? = some a → ys[j']? = some b → TogP a b) ∧ Up w wr) := ⟨fun i' j' a b hi' hj' ha hb => by
            by_cases e : i' = j
            · subst e; rw [HY.out.1] at ha; cases ha; exact HJ.out.1 j' b hj' hb
            · exact HN.out.1 i' j' a b (by omega) hj' ha hb, hu⟩
          clear y9 hu
          go_wp2
          go_roundw
          case rel => exact ⟨j + 1, by omega, by go_num, HP.out⟩
          case measure => simp [intOf]; omega
    · obtain rfl : i = n := by omega
      have HE : Hid (Tog ys) := fun i' j a b hj ha hb => HN.out.1 i' j a b (by have := (List.getElem?_eq_some_iff.1 ha).1; omega) hj ha hb
      go_wp2
      go_ret
      exact ⟨⟨true, rfl, by simp; exact HE.out⟩, HN.out.2⟩
end Go.Proofs.Ythnbijnpbjfoaaa
