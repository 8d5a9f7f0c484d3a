/-
  An entry as a view's message, and the document's answer; the document's example.
-/
import Derived.Test.YtlaihgdfedalmaaGreatMix1
import Derived.Lib.SlBytesConst
namespace Go.Proofs.YtlaihgdfedalmaaGreat
open Go.RowKit
set_option linter.unusedVariables false

set_option maxRecDepth 10000 in
set_option maxHeartbeats 1000000 in
theorem encodeOne_bad (w : World) (x : Lb) (bo : Option Addr) (m bcap : Nat) (hf : formE x m = false) :
    Calls Tryz.prog 55 #[ent x (.slice bo m bcap)] w fun e w' => e = .returned (.tuple #[.slice none 0 0, .int .i64 3]) ∧ Below w.heap.size w w' := by
  have hb0 : Below w.heap.size w (w.alloc (.cells #[.int .u64 (x.1 : Nat), .int .i64 x.2.1, .int .u64 (x.2.2.1 : Nat), .int .i64 x.2.2.2, .slice bo m bcap] 41)) := bl1 _ _
  have ex0 := ex_new w x (.slice bo m bcap) 41
  have hform := fun W => formE_any W x bo m bcap
  rw [hf] at hform
  unfold ent at *
  obtain ⟨x0, x1, x2, x3, x4⟩ := ex0
  go_enter Tryz.func55, Tryz.ntmps55
  go_wp2_with fail
  refine (hform _).mono ?_
  rintro e w1 ⟨rfl, hu⟩
  have hbb := bl_step hb0 hu.bl
  clear hform hu hb0 x0 x1 x2 x3 x4
  go_wp2
  go_ret2
  exact ⟨rfl, hbb⟩

set_option maxRecDepth 10000 in
set_option maxHeartbeats 1000000 in
theorem encodeOne_any (w : World) (x : Lb) (hx : x.1 < 18446744073709551616) (hx2 : x.2.2.1 < 18446744073709551616) (bo : Option Addr) (m bcap : Nat) (ys : List UInt8) (hy : Cd.Row w bo m bcap ys) (hf : formE x m = true) :
    Calls Tryz.prog 55 #[ent x (.slice bo m bcap)] w fun e w' => ∃ v, e = .returned (.tuple #[v, .int .i64 0]) ∧ w'.ownsRow w.heap.size 5 1 v (1 :: encE x ys).length ((1 :: encE x ys).map Cd.by8) ∧ Below w.heap.size w w' := by
  have hb0 : Below w.heap.size w (w.alloc (.cells #[.int .u64 (x.1 : Nat), .int .i64 x.2.1, .int .u64 (x.2.2.1 : Nat), .int .i64 x.2.2.2, .slice bo m bcap] 41)) := bl1 _ _
  have ex0 := ex_new w x (.slice bo m bcap) 41
  have hform := fun W => formE_any W x bo m bcap
  rw [hf] at hform
  obtain ⟨hfl, hm⟩ : formL x = true ∧ m ≤ 64 := by unfold formE at hf; simpa using hf
  have hadd : ∀ W, Below w.heap.size w W → Calls Tryz.prog 94 #[.slice (some ⟨W.heap.size, 0, none⟩) 1 1, ent x (.slice bo m bcap)] (W.alloc (.cells #[.int .u8 1] 5)) (fun e w' => ∃ v', e = .returned v' ∧ w'.ownsRow w.heap.size 5 1 v' (1 :: encE x ys).length ((1 :: encE x ys).map Cd.by8) ∧ Below w.heap.size w w') := by
    intro W hW
    have h1 : (W.alloc (.cells #[.int .u8 1] 5)).ownsRow w.heap.size 5 1 (.slice (some ⟨W.heap.size, 0, none⟩) 1 1) [(1 : UInt8)].length ([(1 : UInt8)].map Cd.by8) := by
      have := World.ownsRow_lit (base := w.heap.size) (e := 5) (size := 1) W #[.int .u8 1] 1 hW.size (by unfold maxLen; omega) rfl
      simpa [Cd.by8] using this
    have hb := hW.alloc hW.size (.cells #[.int .u8 1] 5)
    refine (addEntry_any _ w.heap.size hb.size _ [1] h1 x hx hx2 hfl bo m bcap ys (row_bl hy hb (row_lt hy)) (row_lt hy) hm (by simp)).mono ?_
    rintro e w1 ⟨v1, rfl, ha⟩
    exact ⟨v1, rfl, by simpa using ha.own, hb.trans (ha.below hb.size (fun k hk => (own_lt h1 k hk).1))⟩
  clear hx hx2 hfl hm hy hf
  generalize 1 :: encE x ys = E at *
  have EX : Ex w.heap.size x (.slice bo m bcap) (w.alloc (.cells #[.int .u64 (x.1 : Nat), .int .i64 x.2.1, .int .u64 (x.2.2.1 : Nat), .int .i64 x.2.2.2, .slice bo m bcap] 41)) := ex0
  unfold ent at *
  obtain ⟨x0, x1, x2, x3, x4⟩ := ex0
  go_enter Tryz.func55, Tryz.ntmps55
  go_wp2_with fail
  refine (hform _).mono ?_
  rintro e w1 ⟨rfl, hu⟩
  have hbb := bl_step hb0 hu.bl
  obtain ⟨y0, y1, y2, y3, y4⟩ := EX.bl (hu.bl)
  obtain ⟨z0, z1, z2, z3, z4⟩ := (EX.bl hu.bl).bl (bl1 w1 (.cells #[.int .u8 1] 5))
  have had := hadd w1 hbb
  clear hform hu hb0 x0 x1 x2 x3 x4 EX hadd
  go_wp2_with fail
  refine had.mono ?_
  rintro e w2 ⟨v2, rfl, ho, hb2⟩
  clear had hbb y0 y1 y2 y3 y4 z0 z1 z2 z3 z4
  go_wp2
  go_ret2
  exact ⟨v2, rfl, ho, hb2⟩

set_option maxRecDepth 10000 in
set_option maxHeartbeats 1000000 in
set_option maxRecDepth 10000 in
set_option maxHeartbeats 1000000 in
end Go.Proofs.YtlaihgdfedalmaaGreat
