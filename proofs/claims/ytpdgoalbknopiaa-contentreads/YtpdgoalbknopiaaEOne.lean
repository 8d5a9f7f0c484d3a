/-
  An entry as a view's message, and the document's answer; the document's example.
-/
import Derived.Test.YtpdgoalbknopiaaEAdd
import Derived.Lib.SlBytesConst
namespace Go.Proofs.Ytpdgoalbknopiaa
open Go.RowKit
set_option linter.unusedVariables false

set_option maxRecDepth 10000 in
set_option maxHeartbeats 1000000 in
theorem encodeOne_bad (w : World) (x : Lb) (bo : Option Addr) (m bcap : Nat) (hf : formE x m = false) :
    Calls Try.prog 10 #[ent x (.slice bo m bcap)] w fun e w' => e = .returned (.tuple #[.slice none 0 0, .int .i64 3]) ∧ Below w.heap.size w w' := by
  have hb0 : Below w.heap.size w (w.alloc (.cells #[.int .u64 (x.1 : Nat), .int .i64 x.2.1, .int .u64 (x.2.2.1 : Nat), .int .i64 x.2.2.2, .slice bo m bcap] 29)) := bl1 _ _
  have ex0 := ex_new w x (.slice bo m bcap) 29
  have hform := fun W => formE_any W x bo m bcap
  rw [hf] at hform
  unfold ent at *
  obtain ⟨x0, x1, x2, x3, x4⟩ := ex0
  go_enter Try.func10, Try.ntmps10
  go_wp2_with fail
  refine (hform _).mono ?_
  rintro e w1 ⟨rfl, hu⟩
  have hbb := bl_step hb0 hu.bl
  clear hform hu hb0 x0 x1 x2 x3 x4
  go_wp2
  go_ret2
  exact ⟨rfl, hbb⟩

set_option maxRecDepth 10000 in
set_option maxHeartbeats 1000000 in
theorem encodeOne_any (w : World) (x : Lb) (hx : x.1 < 18446744073709551616) (hx2 : x.2.2.1 < 18446744073709551616) (bo : Option Addr) (m bcap : Nat) (ys : List UInt8) (hy : Cd.Row w bo m bcap ys) (hf : formE x m = true) :
    Calls Try.prog 10 #[ent x (.slice bo m bcap)] w fun e w' => ∃ v, e = .returned (.tuple #[v, .int .i64 0]) ∧ w'.ownsRow w.heap.size 5 1 v (1 :: encE x ys).length ((1 :: encE x ys).map Cd.by8) ∧ Below w.heap.size w w' := by
  have hb0 : Below w.heap.size w (w.alloc (.cells #[.int .u64 (x.1 : Nat), .int .i64 x.2.1, .int .u64 (x.2.2.1 : Nat), .int .i64 x.2.2.2, .slice bo m bcap] 29)) := bl1 _ _
  have ex0 := ex_new w x (.slice bo m bcap) 29
  have hform := fun W => formE_any W x bo m bcap
  rw [hf] at hform
  obtain ⟨hfl, hm⟩ : formL x = true ∧ m ≤ 64 := by unfold formE at hf; simpa using hf
  have hadd : ∀ W, Below w.heap.size w W → Calls Try.prog 21 #[.slice (some ⟨W.heap.size, 0, none⟩) 1 1, ent x (.slice bo m bcap)] (W.alloc (.cells #[.int .u8 1] 5)) (fun e w' => ∃ v', e = .returned v' ∧ w'.ownsRow w.heap.size 5 1 v' (1 :: encE x ys).length ((1 :: encE x ys).map Cd.by8) ∧ Below w.heap.size w w') := by
    intro W hW
    have h1 : (W.alloc (.cells #[.int .u8 1] 5)).ownsRow w.heap.size 5 1 (.slice (some ⟨W.heap.size, 0, none⟩) 1 1) [(1 : UInt8)].length ([(1 : UInt8)].map Cd.by8) := by
      have := World.ownsRow_lit (base := w.heap.size) (e := 5) (size := 1) W #[.int .u8 1] 1 hW.size (by unfold maxLen; omega) rfl
      simpa [Cd.by8] using this
    have hb := hW.alloc hW.size (.cells #[.int .u8 1] 5)
    refine (addEntry_any _ w.heap.size hb.size _ [1] h1 x hx hx2 hfl bo m bcap ys (row_bl hy hb (row_lt hy)) (row_lt hy) hm (by simp)).mono ?_
    rintro e w1 ⟨v1, rfl, ha⟩
    exact ⟨v1, rfl, by simpa using ha.own, hb.trans (ha.below hb.size (fun k hk => (own_lt h1 k hk).1))⟩
  clear hx hx2 hfl hm hy hf
  generalize 1 :: encE x ys = E at *
  have EX : Ex w.heap.size x (.slice bo m bcap) (w.alloc (.cells #[.int .u64 (x.1 : Nat), .int .i64 x.2.1, .int .u64 (x.2.2.1 : Nat), .int .i64 x.2.2.2, .slice bo m bcap] 29)) := ex0
  unfold ent at *
  obtain ⟨x0, x1, x2, x3, x4⟩ := ex0
  go_enter Try.func10, Try.ntmps10
  go_wp2_with fail
  refine (hform _).mono ?_
  rintro e w1 ⟨rfl, hu⟩
  have hbb := bl_step hb0 hu.bl
  obtain ⟨y0, y1, y2, y3, y4⟩ := EX.bl (hu.bl)
  obtain ⟨z0, z1, z2, z3, z4⟩ := (EX.bl hu.bl).bl (bl1 w1 (.cells #[.int .u8 1] 5))
  have had := hadd w1 hbb
  clear hform hu hb0 x0 x1 x2 x3 x4 EX hadd
  go_wp2_with fail
  refine had.mono ?_
  rintro e w2 ⟨v2, rfl, ho, hb2⟩
  clear had hbb y0 y1 y2 y3 y4 z0 z1 z2 z3 z4
  go_wp2
  go_ret2
  exact ⟨v2, rfl, ho, hb2⟩

set_option maxRecDepth 10000 in
set_option maxHeartbeats 1000000 in
/-- The document's bytes of an entry. -/
theorem refone_any (w : World) (x : Lb) (hx : x.1 < 18446744073709551616) (hx2 : x.2.2.1 < 18446744073709551616) (bo : Option Addr) (m bcap : Nat) (ys : List UInt8) (hy : Cd.Row w bo m bcap ys) (hf : formL x = true) (hm : m ≤ 64) :
    Calls Try.prog 28 #[ent x (.slice bo m bcap)] w fun e w' => ∃ v, e = .returned v ∧ w'.ownsRow w.heap.size 5 1 v (encE x ys).length ((encE x ys).map Cd.by8) ∧ Below w.heap.size w w' := by
  have hb0 : Below w.heap.size w (w.alloc (.cells #[.int .u64 (x.1 : Nat), .int .i64 x.2.1, .int .u64 (x.2.2.1 : Nat), .int .i64 x.2.2.2, .slice bo m bcap] 29)) := bl1 _ _
  have ex0 := ex_new w x (.slice bo m bcap) 29
  have hlen := encL_len x
  have hel := Cd.enc_length m
  have hep := Cd.enc_pos m
  have hyl := hy.1
  have he := refEncodeL_any (w.alloc (.cells #[.int .u64 (x.1 : Nat), .int .i64 x.2.1, .int .u64 (x.2.2.1 : Nat), .int .i64 x.2.2.2, .slice bo m bcap] 29)) x hx hx2 hf
  have key2 : ∀ W, Below w.heap.size w W → Calls Try.prog 55 #[.slice bo m bcap] W (fun e w' => ∃ g cg, e = .returned (.slice (some ⟨g, 0, none⟩) (Cd.enc ys.length ++ ys).length cg) ∧ (∀ j u, ((Cd.enc ys.length ++ ys).map Cd.by8)[j]? = some u → w'.cell? ((⟨g, 0, none⟩ : Addr).add j) = some u) ∧ Below W.heap.size W w') := by
    intro W hW
    refine (Cd.refBytes_any W bo m bcap ys (row_bl hy hW (row_lt hy)) (by omega)).mono ?_
    rintro e w1 ⟨v1, rfl, ho, hb⟩
    obtain ⟨g, cg, rfl, _⟩ := row_some ho (by omega)
    have hcs := ho.cells (g := g) rfl
    refine ⟨g, cg, by simp [hyl], ?_, hb⟩
    simpa [hyl] using hcs
  have HX : Hid (encE x ys = encL x ++ (Cd.enc ys.length ++ ys) ∧ (encL x).length + (Cd.enc ys.length ++ ys).length ≤ 140737488355328) := by
    refine ⟨rfl, ?_⟩
    simp
    rw [hyl]
    omega
  generalize encL x = zs at *
  generalize Cd.enc ys.length ++ ys = us at *
  have EX : Ex w.heap.size x (.slice bo m bcap) (w.alloc (.cells #[.int .u64 (x.1 : Nat), .int .i64 x.2.1, .int .u64 (x.2.2.1 : Nat), .int .i64 x.2.2.2, .slice bo m bcap] 29)) := ex0
  clear hx hx2 hf hm hy hel hep hyl hlen
  unfold ent
  unfold lab at he
  obtain ⟨x0, x1, x2, x3, x4⟩ := ex0
  go_enter Try.func28, Try.ntmps28
  go_wp2_with fail
  refine he.mono ?_
  rintro e w1 ⟨v1, rfl, ho1, hb1⟩
  have hbb := bl_step hb0 hb1
  obtain ⟨y0, y1, y2, y3, y4⟩ := EX.bl hb1
  obtain ⟨ao1, cap1, rfl⟩ := row_shape ho1
  have HO1 : Hid (w1.ownsRow w.heap.size 5 1 (.slice ao1 zs.length cap1) zs.length (zs.map Cd.by8)) := Cd.owns_mono ho1 (by simp)
  have k2 := key2 w1 hbb
  clear he hb1 hb0 x0 x1 x2 x3 x4 EX key2 ho1
  go_wp2_with fail
  refine k2.mono ?_
  rintro e w2 ⟨g, cg, rfl, hcs, hb2⟩
  have hbb2 := bl_step hbb hb2
  have ho2 := own_bytes_below HO1.out hb2
  have hs2 : w.heap.size ≤ w2.heap.size := hbb2.size
  have hln := HX.out.2
  clear k2 hb2 hbb HO1 y0 y1 y2 y3 y4
  go_wp2_with (at_builtin; refine wpList_append_adds rfl (.tmp 7) (.tmp 10) rfl w.heap.size _ zs rfl ?d1 ⟨g, 0, none⟩ us.length cg us rfl rfl ?d2 ?d3 ?d4 ?_)
  case d1 => exact ho2
  case d2 => exact hcs
  case d3 => exact hln
  case d4 => exact hs2
  intro v3 w3 ha
  have HF : Hid (w3.ownsRow w.heap.size 5 1 v3 (encE x ys).length ((encE x ys).map Cd.by8) ∧ Below w.heap.size w w3) := by
    rw [HX.out.1]
    exact ⟨ha.own, hbb2.trans (ha.below hs2 (fun k hk => (own_lt ho2 k hk).1))⟩
  clear ha hcs ho2 hbb2 hs2 hln HX
  go_wp2
  go_ret
  exact ⟨v3, rfl, HF.out⟩

set_option maxRecDepth 10000 in
set_option maxHeartbeats 1000000 in
/-- The document's message of an entry. -/
theorem refOne_any (w : World) (x : Lb) (hx : x.1 < 18446744073709551616) (hx2 : x.2.2.1 < 18446744073709551616) (bo : Option Addr) (m bcap : Nat) (ys : List UInt8) (hy : Cd.Row w bo m bcap ys) (hf : formL x = true) (hm : m ≤ 64) :
    Calls Try.prog 12 #[ent x (.slice bo m bcap)] w fun e w' => ∃ v, e = .returned v ∧ w'.ownsRow w.heap.size 5 1 v (1 :: encE x ys).length ((1 :: encE x ys).map Cd.by8) ∧ Below w.heap.size w w' := by
  have hb0 : Below w.heap.size w ((w.alloc (.cells #[.int .u64 (x.1 : Nat), .int .i64 x.2.1, .int .u64 (x.2.2.1 : Nat), .int .i64 x.2.2.2, .slice bo m bcap] 29)).alloc (.cells #[.int .u8 1] 5)) := bl2 _ _ _
  have ex0 := (ex_new w x (.slice bo m bcap) 29).bl (bl1 _ (.cells #[.int .u8 1] 5))
  have hp1 : ((w.alloc (.cells #[.int .u64 (x.1 : Nat), .int .i64 x.2.1, .int .u64 (x.2.2.1 : Nat), .int .i64 x.2.2.2, .slice bo m bcap] 29)).alloc (.cells #[.int .u8 1] 5)).ownsRow w.heap.size 5 1 (.slice (some ⟨w.heap.size + 1, 0, none⟩) 1 1) [(1 : UInt8)].length ([(1 : UInt8)].map Cd.by8) := by
    have := World.ownsRow_lit (base := w.heap.size) (e := 5) (size := 1) (w.alloc (.cells #[.int .u64 (x.1 : Nat), .int .i64 x.2.1, .int .u64 (x.2.2.1 : Nat), .int .i64 x.2.2.2, .slice bo m bcap] 29)) #[.int .u8 1] 1 (by simp) (by unfold maxLen; omega) rfl
    simpa [Cd.by8] using this
  have hlen : 0 < (encE x ys).length ∧ 1 + (encE x ys).length ≤ 140737488355328 := by
    have h1 := encL_len x
    have h2 := Cd.enc_length ys.length
    have h3 := hy.1
    unfold encE
    simp
    omega
  have he := refone_any _ x hx hx2 bo m bcap ys (row_bl hy hb0 (row_lt hy)) hf hm
  clear hx hx2 hf hm hy
  generalize encE x ys = E at *
  unfold ent at *
  obtain ⟨x0, x1, x2, x3, x4⟩ := ex0
  go_enter Try.func12, Try.ntmps12
  go_wp2_with fail
  refine he.mono ?_
  rintro e w1 ⟨v1, rfl, ho1, hb1⟩
  have hbb := bl_step hb0 hb1
  have hp2 := own_bytes_below hp1 hb1
  obtain ⟨g, cg, rfl, _⟩ := row_some ho1 hlen.1
  have hcs := ho1.cells (g := g) rfl
  have hs1 := hbb.size
  clear he hb1 hb0 x0 x1 x2 x3 x4 hp1 ho1
  go_wp2_with (at_builtin; refine wpList_append_adds rfl (.tmp 5) (.tmp 7) rfl w.heap.size _ [1] rfl ?d1 ⟨g, 0, none⟩ E.length cg E rfl rfl ?d2 ?d3 ?d4 ?_)
  case d1 => exact hp2
  case d2 => exact hcs
  case d3 => simpa using hlen.2
  case d4 => exact hs1
  intro v3 w3 ha
  have HF : Hid (w3.ownsRow w.heap.size 5 1 v3 (1 :: E).length ((1 :: E).map Cd.by8) ∧ Below w.heap.size w w3) := ⟨by simpa using ha.own, hbb.trans (ha.below hs1 (fun k hk => (own_lt hp2 k hk).1))⟩
  clear ha hcs hp2 hbb hs1
  go_wp2
  go_ret
  exact ⟨v3, rfl, HF.out⟩

set_option maxRecDepth 10000 in
set_option maxHeartbeats 1000000 in
theorem awake_any (w : World) : Calls Try.prog 7 #[] w fun e w' => e = .returned (.bool true) ∧ Below w.heap.size w w' := by
  have hb0 : Below w.heap.size w (w.alloc (.cells #[.int .u8 97] 5 (1, 2))) := bl1 _ _
  have kc : (convert 27 27 (.slice (some ⟨w.heap.size, 0, none⟩) 1 1)).run Try.prog (w.alloc (.cells #[.int .u8 97] 5)) = .ok (.slice (some ⟨w.heap.size, 0, none⟩) 1 1) (w.alloc (.cells #[.int .u8 97] 5 (1, 2))) := Lib.run_convert_bytes_const (P := Try.prog) w 27 5 #[.int .u8 97] 1 1 Try.underlying27 Try.underlying5
  have hrow : Cd.Row (w.alloc (.cells #[.int .u8 97] 5 (1, 2))) (some ⟨w.heap.size, 0, none⟩) 1 1 [97] := by
    refine ⟨rfl, Nat.le_refl _, by unfold maxLen; omega, fun e => (by cases e), fun a ha i hi => ?_⟩
    cases ha
    obtain rfl : i = 0 := by omega
    have : (w.alloc (.cells #[.int .u8 97] 5 (1, 2))).cell? ⟨w.heap.size, 0, none⟩ = some (.int .u8 97) := by
      have hb : (w.alloc (.cells #[.int .u8 97] 5 (1, 2))).heap[w.heap.size]? = some (.cells #[.int .u8 97] 5 (1, 2)) := heap_alloc_new _ _
      unfold World.cell?
      rw [hb]
      rfl
    simpa [Addr.add] using this
  have he := encodeOne_any (w.alloc (.cells #[.int .u8 97] 5 (1, 2))) (1, 0, 1, 0) (by simp) (by simp) (some ⟨w.heap.size, 0, none⟩) 1 1 [97] hrow (by decide)
  have hE : 1 :: encE (1, 0, 1, 0) [97] = [1, 1, 0, 1, 0, 1, 97] := by decide
  rw [hE] at he
  unfold ent at he
  simp only at he
  rw [show ((1 : Nat) : Int) = 1 from rfl] at he
  clear hrow hE
  go_enter Try.func7, Try.ntmps7
  go_wp2_with fail
  refine he.mono ?_
  rintro e w1 ⟨v1, rfl, ho1, hb1⟩
  have hbb := bl_step hb0 hb1
  obtain ⟨ao, cap, rfl, hrow, _⟩ := Cd.owns_row (n := 7) ho1
  have hcv : (convert 27 9 (.slice ao 7 cap)).run Try.prog w1 = .ok (.string { data := #[1, 1, 0, 1, 0, 1, 97] }) w1 := Cd.conv_row hrow
  clear he hb1 hb0 ho1 hrow kc
  go_wp2
  go_ret
  exact ⟨rfl, hbb⟩
end Go.Proofs.Ytpdgoalbknopiaa
