/-
  ContentReads: of any bytes the program's Decode tells what the document's tells. For all bytes; no condition but the form's reach.
-/
import Derived.Test.YtpdgoalbknopiaaEBoth
import Derived.Test.YtpdgoalbknopiaaEAlike
import Derived.Test.YtpdgoalbknopiaaEArgs
namespace Go.Proofs.Ytpdgoalbknopiaa.contentReads
open Go.ChangeShapes Go.WideShapes Go.ChangeAt Go.RowKit Go.Deep
set_option linter.unusedVariables false
set_option linter.unusedSimpArgs false
open Cd (open_bytes)

set_option maxRecDepth 20000 in
set_option maxHeartbeats 4000000 in
theorem walk (w : World) (ao : Option Addr) (n cap : Nat) (xs : List UInt8) (h : Cd.Row w ao n cap xs) (hc : cap ≤ 140737488351232) :
    Calls Try.prog 5 #[.slice ao n cap] w fun e w' => e = .returned (.bool true) ∧ Below w.heap.size w w' := by
  have haw := fun W => awake_any W
  by_cases hbig : 3000 < n
  · have hbI : (3000 : Int) < (n : Int) := by omega
    go_enter Try.func5, Try.ntmps5
    go_wp2_with fail
    refine (haw _).mono ?_
    rintro e w1 ⟨rfl, u1⟩
    go_wp2_with fail
    refine (haw _).mono ?_
    rintro e w2 ⟨rfl, u2⟩
    have uf := bl_step u1 u2
    go_wp2
    go_ret
    exact ⟨rfl, uf⟩
  have hbI : decide ((3000 : Int) < (n : Int)) = false := decide_eq_false (by omega)
  obtain ⟨R, ⟨hA, hB⟩, hk, hor⟩ := both n xs h.1 (by omega)
  have HR : Hid (Cd.Row w ao n cap xs) := h
  go_enter Try.func5, Try.ntmps5
  go_wp2_with fail
  refine (haw _).mono ?_
  rintro e w1 ⟨rfl, u1⟩
  have kA := hA w1 ao cap (HR.out.below u1 (Nat.le_refl _))
  clear haw hA h
  go_wp2_with fail
  refine kA.mono ?_
  rintro e w2 ⟨v1, v2, rfl, so, sc, ca, cc, oa, oc, rfl, rfl, r2, e2, l2, u2⟩
  have u02 := bl_step u1 u2
  clear kA u1 u2
  unfold ent sumv
  obtain ⟨K, ⟨xa, xb, xc, xd⟩, ms, es, ls, nx, hn', hp', er⟩ := R
  simp only at *
  have b3 := bl2 w2 (.cells #[.int .u64 (xa : Nat), .int .i64 xb, .int .u64 (xc : Nat), .int .i64 xd, .slice so ms.length sc] 29) (.cells #[.slice ca es.length cc, .slice oa ls.length oc, .int .i64 nx, .int .u64 (hn' : Nat), .int .i64 hp'] 38)
  have x3 := (ex_new w2 (xa, xb, xc, xd) (.slice so ms.length sc) 29).bl (bl1 _ (.cells #[.slice ca es.length cc, .slice oa ls.length oc, .int .i64 nx, .int .u64 (hn' : Nat), .int .i64 hp'] 38))
  have s3 := sb_new (w2.alloc (.cells #[.int .u64 (xa : Nat), .int .i64 xb, .int .u64 (xc : Nat), .int .i64 xd, .slice so ms.length sc] 29)) (.slice ca es.length cc) (.slice oa ls.length oc) nx hn' hp' 38
  rw [show (w2.alloc (.cells #[.int .u64 (xa : Nat), .int .i64 xb, .int .u64 (xc : Nat), .int .i64 xd, .slice so ms.length sc] 29)).heap.size = w2.heap.size + 1 by simp] at s3
  obtain ⟨W3, hW3⟩ : ∃ W, Hid ((w2.alloc (.cells #[.int .u64 (xa : Nat), .int .i64 xb, .int .u64 (xc : Nat), .int .i64 xd, .slice so ms.length sc] 29)).alloc (.cells #[.slice ca es.length cc, .slice oa ls.length oc, .int .i64 nx, .int .u64 (hn' : Nat), .int .i64 hp'] 38) = W) := ⟨_, rfl⟩
  rw [hW3.out] at b3 x3 s3
  have u03 := bl_step u02 b3
  have HA3 : Hid (Cd.Row W3 so ms.length sc ms ∧ ER (fun _ => True) W3 ca es.length es ∧ LR W3 oa ls.length ls ∧ Ex w2.heap.size (xa, xb, xc, xd) (.slice so ms.length sc) W3 ∧ Sb (w2.heap.size + 1) (.slice ca es.length cc) (.slice oa ls.length oc) nx hn' hp' W3) := ⟨r2.below b3 (Nat.le_refl _), e2.bl b3, l2.up b3, x3, s3⟩
  have kB := hB W3 ao cap (HR.out.below u03 (Nat.le_refl _))
  clear hB r2 e2 l2 x3 s3 b3 u02
  obtain ⟨g2, hg2⟩ : ∃ g, Hid (w2.heap.size = g) := ⟨_, rfl⟩
  rw [hg2.out] at HA3
  go_wp2_with fail
  rw [hW3.out, hg2.out]
  clear hW3
  refine kB.mono ?_
  rintro e w4 ⟨v1, v2, rfl, tz, tc, da, dc, pa, pc, rfl, rfl, r4, e4, l4, u4⟩
  have u04 := bl_step u03 u4
  clear kB
  unfold ent sumv
  simp only at *
  have b5 := bl2 w4 (.cells #[.int .u64 (xa : Nat), .int .i64 xb, .int .u64 (xc : Nat), .int .i64 xd, .slice tz ms.length tc] 29) (.cells #[.slice da es.length dc, .slice pa ls.length pc, .int .i64 nx, .int .u64 (hn' : Nat), .int .i64 hp'] 38)
  have x5 := (ex_new w4 (xa, xb, xc, xd) (.slice tz ms.length tc) 29).bl (bl1 _ (.cells #[.slice da es.length dc, .slice pa ls.length pc, .int .i64 nx, .int .u64 (hn' : Nat), .int .i64 hp'] 38))
  have s5 := sb_new (w4.alloc (.cells #[.int .u64 (xa : Nat), .int .i64 xb, .int .u64 (xc : Nat), .int .i64 xd, .slice tz ms.length tc] 29)) (.slice da es.length dc) (.slice pa ls.length pc) nx hn' hp' 38
  rw [show (w4.alloc (.cells #[.int .u64 (xa : Nat), .int .i64 xb, .int .u64 (xc : Nat), .int .i64 xd, .slice tz ms.length tc] 29)).heap.size = w4.heap.size + 1 by simp] at s5
  obtain ⟨W5, hW5⟩ : ∃ W, Hid ((w4.alloc (.cells #[.int .u64 (xa : Nat), .int .i64 xb, .int .u64 (xc : Nat), .int .i64 xd, .slice tz ms.length tc] 29)).alloc (.cells #[.slice da es.length dc, .slice pa ls.length pc, .int .i64 nx, .int .u64 (hn' : Nat), .int .i64 hp'] 38) = W) := ⟨_, rfl⟩
  have kc2 : (convert 27 9 (.slice tz ms.length tc)).run Try.prog ((w4.alloc (.cells #[.int .u64 (xa : Nat), .int .i64 xb, .int .u64 (xc : Nat), .int .i64 xd, .slice tz ms.length tc] 29)).alloc (.cells #[.slice da es.length dc, .slice pa ls.length pc, .int .i64 nx, .int .u64 (hn' : Nat), .int .i64 hp'] 38)) = _ := Cd.conv_row (r4.below b5 (Nat.le_refl _))
  have u35 := bl_step u4 b5
  have kc1 : (convert 27 9 (.slice so ms.length sc)).run Try.prog ((w4.alloc (.cells #[.int .u64 (xa : Nat), .int .i64 xb, .int .u64 (xc : Nat), .int .i64 xd, .slice tz ms.length tc] 29)).alloc (.cells #[.slice da es.length dc, .slice pa ls.length pc, .int .i64 nx, .int .u64 (hn' : Nat), .int .i64 hp'] 38)) = _ := Cd.conv_row (HA3.out.1.below u35 (Nat.le_refl _))
  have u05 := bl_step u04 b5
  have kal := alike_any (fun _ => True) (fun _ => True) _ ca es.length cc es (HA3.out.2.1.bl u35) oa ls.length oc ls (HA3.out.2.2.1.up u35) nx hn' hp' da es.length dc es (e4.bl b5) pa ls.length pc ls (l4.up b5) nx hn' hp'
  unfold sumv at kal
  simp only [decide_true, Bool.and_self] at kal
  obtain ⟨a0, a1, a2, a3, a4⟩ := HA3.out.2.2.2.1.bl u35
  obtain ⟨p0, p1, p2, p3, p4⟩ := HA3.out.2.2.2.2.bl u35
  obtain ⟨c0, c1, c2, c3, c4⟩ := x5
  obtain ⟨d0, d1, d2, d3, d4⟩ := s5
  have heq := fun W => lab_equal (xa, xb, xc, xd) (xa, xb, xc, xd) W
  simp only [decide_true] at heq
  have hbe := Cd.str_beq ms ms
  simp only [decide_true] at hbe
  have hKK : ((K : Int) == (K : Int)) = true := beq_self_eq_true _
  clear HA3 r4 e4 l4 u4 u04 u35 b5 HR
  simp only at a0 a1 a2 a3 a4 c0 c1 c2 c3 c4
  rcases hor with ⟨rfl, hk0⟩ | ⟨rfl, rfl⟩
  · have hkI : (0 : Int) < (K : Int) := by omega
    go_wp2_with fail
    refine kal.mono ?_
    rintro e w9 ⟨rfl, u9⟩
    have uf := bl_step u05 u9.bl
    clear kal
    go_wp2
    go_ret
    exact ⟨rfl, uf⟩
  · go_wp2_with fail
    refine kal.mono ?_
    rintro e w9 ⟨rfl, u9⟩
    have uf := bl_step u05 u9.bl
    clear kal
    go_wp2
    go_ret
    exact ⟨rfl, uf⟩
set_option maxRecDepth 100000 in
theorem lifted (os : Os) (started : os.Started) (H : Type) (enc : TypeId × Value → H) :
    ReturnsInHanded {} Try.checked os 5 .any (Rows.contentReadsSpec.pre6 enc Try.prog Try.f5 Rows.contentReadsRow.domain false) (Rows.contentReadsSpec.post enc Try.prog Try.f5 false true false false) := by
  refine returnsInHanded_of_change_sized (C := Try.checked) own started (by kernel_rfl) Try.func5
    (ChangeSpec.witness6 (enc := enc) (C := Try.checked) false ⟨#[], #[.slice none 0 0], []⟩ 12 (by kernel_rfl) (by kernel_rfl) (by kernel_rfl) (by kernel_rfl)) ?_
  intro W base args ds gs before hval0 hW hcnd hsz0 _
  have hsz : (DataW.weightsEach Try.prog (Try.f5.params.toList ++ Rows.contentReadsSpec.plain.varTypes Try.prog) (ds ++ gs)).all (· ≤ reachBytes) = true := hsz0
  have hval : ∀ (j : Nat) t v, Try.f5.params[j]? = some t → args[j]? = some v → Value.okWide Try.prog W .any base t v := hval0
  have hW' := hW
  obtain ⟨p, q, hA0, hV, rfl, hfz, hnd⟩ := hW
  have hA : DataW.TrodAll enc Try.prog W 0 (fun _ => true) true Try.f5.params.toList args.toList ds p := hA0
  rw [Try.params5] at hA hval hsz
  obtain ⟨v0, vs0, d0, ds0, p0, q0, hargs0, rfl, rfl, h0, r0⟩ := trodAll_cons hA
  obtain ⟨rfl, rfl, rfl⟩ := trodAll_nil r0
  obtain rfl : args = #[v0] := by cases args; simp_all
  obtain ⟨rfl, rfl⟩ := trodVars_none hV
  obtain ⟨a0, len0, cap0, rfl⟩ := okWide_slice Try.underlying27 (hval 0 27 v0 rfl rfl)
  have k0 := h0
  have lt0 : ∀ x ∈ p0, x.block < W.heap.size := by obtain ⟨m, hm⟩ := k0; exact DataW.trod_lt m _ _ _ hm
  obtain ⟨xs0, hx0, hc0⟩ := open_bytes h0 hsz (j := 0) rfl rfl
  clear hA0 hval0 hsz hsz0
  refine (walk W a0 len0 cap0 xs0 hx0 hc0).mono fun e W' ⟨he, bel⟩ => ?_
  subst he
  exact ⟨_, rfl, _, _, _, [], _, [], hW', trodAll_mk1 (shut_bool Try.underlying4 _), (trodAll_cons_mk (Below.trod laidOut (by kernel_rfl) (of_decide_eq_true (by kernel_rfl)) k0 bel lt0) trodAll_mk0), rfl, bel.frame _, fun h => by cases h⟩

theorem over : Rows.contentReadsRow.holds Try.pinned (OpenSpec.ofChange Rows.contentReadsSpec) :=
  OpenClaim.holds_of_wide 5 Try.f5 rfl rfl rfl rfl rfl rfl rfl ⟨rfl, rfl, rfl, rfl, rfl⟩ rfl rfl rfl rfl rfl (by kernel_rfl) Try.func5 (by kernel_rfl)
    (of_decide_eq_true (by kernel_rfl)) (by unfold Func.isWrapper; first | (rw [if_pos (by decide +kernel)]; kernel_rfl) | (rw [if_neg (by decide +kernel)]; exact ⟨rfl, rfl⟩))
    (fun os started H enc _ => lifted os started H enc)

end Go.Proofs.Ytpdgoalbknopiaa.contentReads
namespace Go.Proofs.Ytpdgoalbknopiaa
theorem contentReads_holds : Rows.ContentReadsSaid := contentReads.over
#print axioms contentReads_holds
end Go.Proofs.Ytpdgoalbknopiaa
