/-
  Proved: for every view's number, all numbers most and window and every text, LinkErrs(v, most, window, x) returns true: rooms and windows that are none are refused; a nil end has nothing; the document's example holds. No condition.
-/
import Derived.Test.YthobbnmdpkginaaRows
import Derived.Test.YthobbnmdpkginaaLArgs2
import Derived.Test.YthobbnmdpkginaaLInEA
namespace Go.Proofs.Ythobbnmdpkginaa.linkErrs
open Go.ChangeShapes Go.WideShapes Go.ChangeAt Go.RowKit Go.Joins
open Go.ChangeMaps (open_string shut_string)
set_option linter.unusedVariables false
set_option linter.unusedSimpArgs false

set_option maxRecDepth 20000 in
set_option maxHeartbeats 1500000 in
theorem walk (w : World) (vn : Nat) (hvn : vn < 18446744073709551616) (vp : Int) (hvp : In vp) (a1 : Int) (h1 : In a1) (a2 : Int) (h2 : In a2) (x : ByteArray) :
    Calls Try.prog 7 #[.agg #[.int .u64 (vn : Nat), .int .i64 vp], .int .i64 a1, .int .i64 a2, .string x] w fun e w' => e = .returned (.bool true) ∧ Below w.heap.size w w' := by
  have hb : (w.alloc (.cells #[.int .u64 (vn : Nat), .int .i64 vp] 43)).heap[w.heap.size]? = some (.cells #[.int .u64 (vn : Nat), .int .i64 vp] 43 (0, 0)) := Deep.blk_alloc_new _ _
  have t0 : Turned (fun _ => False) w (w.alloc (.cells #[.int .u64 (vn : Nat), .int .i64 vp] 43)) := (Turned.refl _ w).alloc _
  have hs0 : w.heap.size < (w.alloc (.cells #[.int .u64 (vn : Nat), .int .i64 vp] 43)).heap.size := by simp
  generalize hw0 : w.alloc (.cells #[.int .u64 (vn : Nat), .int .i64 vp] 43) = w0 at *
  have HC : Hid (∀ w1, Turned (fun _ => False) w0 w1 → w1.cell? ⟨w.heap.size, 0, none⟩ = some (.int .u64 (vn : Nat)) ∧ w1.cell? ⟨w.heap.size, 1, none⟩ = some (.int .i64 vp)) := fun w1 t => by
    have e := (t.block w.heap.size hs0 (fun f => f)).trans hb
    constructor <;> (unfold World.cell?; rw [e]; rfl)
  clear hb hs0 hvn hvp h1 h2
  have cases : a1 < 1 ∨ (¬ a1 < 1 ∧ 256 < a1) ∨ ((¬ a1 < 1 ∧ ¬ 256 < a1) ∧ a2 < 1) ∨ ((¬ a1 < 1 ∧ ¬ 256 < a1) ∧ (¬ a2 < 1 ∧ 32 < a2)) ∨ ((¬ a1 < 1 ∧ ¬ 256 < a1) ∧ (¬ a2 < 1 ∧ ¬ 32 < a2)) := by omega
  rcases cases with g1 | ⟨g1, g2⟩ | ⟨⟨g1, g2⟩, g3⟩ | ⟨⟨g1, g2⟩, g3, g4⟩ | ⟨⟨g1, g2⟩, g3, g4⟩
  · as_aux_lemma =>
    have hnew : _ := fun wx => lnewA_err1 wx vn vp a1 a2 (.inl g1)
    go_enter Try.func7, Try.ntmps7
    go_wp2_with fail
    (try simp only [hw0])
    refine (awake_any _).mono ?_
    rintro e w1 ⟨rfl, t1⟩
    obtain ⟨c0, c1⟩ := HC.out w1 t1
    go_wp2_with fail
    refine (hnew _).mono ?_
    rintro e w2 ⟨rfl, t2⟩
    have t02 := (t0.trans t1 (fun _ f => f.elim)).trans t2 (fun _ f => f.elim)
    clear c0 c1 t0 t1 t2 HC hnew
    go_wp2_with fail
    refine (ltakeA_nil _).mono ?_
    rintro e w3 ⟨rfl, rfl⟩
    go_wp2_with fail
    refine (linA_nil _ #[]).mono ?_
    rintro e w4 ⟨rfl, t4⟩
    go_wp2_with fail
    refine (loutA_nil _).mono ?_
    rintro e w5 ⟨rfl, t5⟩
    have t05 : Turned (fun _ => False) w (w5.alloc (.cells #[.int .u64 0, .int .i64 0, .int .u64 0, .slice none 0 0, .int .u64 0] 45)) := ((t02.trans t4 (fun _ f => f.elim)).trans t5 (fun _ f => f.elim)).alloc _
    obtain ⟨b0, b1, b2, b3, b4⟩ := box5 w5 (.int .u64 0) (.int .i64 0) (.int .u64 0) (.slice none 0 0) (.int .u64 0) 45
    clear t02 t4 t5
    go_wp2_with fail
    refine (lputA_nil _ _).mono ?_
    rintro e w6 ⟨rfl, rfl⟩
    go_wp2_with fail
    refine (lroomA_nil _).mono ?_
    rintro e w6 ⟨rfl, rfl⟩
    go_wp2_with fail
    refine (lackedA_nil _).mono ?_
    rintro e w6 ⟨rfl, rfl⟩
    go_wp2_with fail
    refine (lgotA_nil _).mono ?_
    rintro e w6 ⟨rfl, rfl⟩
    go_wp2_with fail
    refine (lidleA_nil _).mono ?_
    rintro e w6 ⟨rfl, rfl⟩
    go_wp2
    go_ret
    exact ⟨rfl, t05.below (Nat.le_refl _) (fun _ f => f.elim)⟩
  · as_aux_lemma =>
    have hnew : _ := fun wx => lnewA_err1 wx vn vp a1 a2 (.inr g2)
    go_enter Try.func7, Try.ntmps7
    go_wp2_with fail
    (try simp only [hw0])
    refine (awake_any _).mono ?_
    rintro e w1 ⟨rfl, t1⟩
    obtain ⟨c0, c1⟩ := HC.out w1 t1
    go_wp2_with fail
    refine (hnew _).mono ?_
    rintro e w2 ⟨rfl, t2⟩
    have t02 := (t0.trans t1 (fun _ f => f.elim)).trans t2 (fun _ f => f.elim)
    clear c0 c1 t0 t1 t2 HC hnew
    go_wp2_with fail
    refine (ltakeA_nil _).mono ?_
    rintro e w3 ⟨rfl, rfl⟩
    go_wp2_with fail
    refine (linA_nil _ #[]).mono ?_
    rintro e w4 ⟨rfl, t4⟩
    go_wp2_with fail
    refine (loutA_nil _).mono ?_
    rintro e w5 ⟨rfl, t5⟩
    have t05 : Turned (fun _ => False) w (w5.alloc (.cells #[.int .u64 0, .int .i64 0, .int .u64 0, .slice none 0 0, .int .u64 0] 45)) := ((t02.trans t4 (fun _ f => f.elim)).trans t5 (fun _ f => f.elim)).alloc _
    obtain ⟨b0, b1, b2, b3, b4⟩ := box5 w5 (.int .u64 0) (.int .i64 0) (.int .u64 0) (.slice none 0 0) (.int .u64 0) 45
    clear t02 t4 t5
    go_wp2_with fail
    refine (lputA_nil _ _).mono ?_
    rintro e w6 ⟨rfl, rfl⟩
    go_wp2_with fail
    refine (lroomA_nil _).mono ?_
    rintro e w6 ⟨rfl, rfl⟩
    go_wp2_with fail
    refine (lackedA_nil _).mono ?_
    rintro e w6 ⟨rfl, rfl⟩
    go_wp2_with fail
    refine (lgotA_nil _).mono ?_
    rintro e w6 ⟨rfl, rfl⟩
    go_wp2_with fail
    refine (lidleA_nil _).mono ?_
    rintro e w6 ⟨rfl, rfl⟩
    go_wp2
    go_ret
    exact ⟨rfl, t05.below (Nat.le_refl _) (fun _ f => f.elim)⟩
  · as_aux_lemma =>
    have hnew : _ := fun wx => lnewA_err2 wx vn vp a1.toNat (by omega) (by omega) a2 (.inl g3)
    rw [show ((a1.toNat : Nat) : Int) = a1 by omega] at hnew
    go_enter Try.func7, Try.ntmps7
    go_wp2_with fail
    (try simp only [hw0])
    refine (awake_any _).mono ?_
    rintro e w1 ⟨rfl, t1⟩
    obtain ⟨c0, c1⟩ := HC.out w1 t1
    go_wp2_with fail
    refine (hnew _).mono ?_
    rintro e w2 ⟨rfl, t2⟩
    have t02 := (t0.trans t1 (fun _ f => f.elim)).trans t2 (fun _ f => f.elim)
    clear c0 c1 t0 t1 t2 HC hnew
    go_wp2_with fail
    refine (ltakeA_nil _).mono ?_
    rintro e w3 ⟨rfl, rfl⟩
    go_wp2_with fail
    refine (linA_nil _ #[]).mono ?_
    rintro e w4 ⟨rfl, t4⟩
    go_wp2_with fail
    refine (loutA_nil _).mono ?_
    rintro e w5 ⟨rfl, t5⟩
    have t05 : Turned (fun _ => False) w (w5.alloc (.cells #[.int .u64 0, .int .i64 0, .int .u64 0, .slice none 0 0, .int .u64 0] 45)) := ((t02.trans t4 (fun _ f => f.elim)).trans t5 (fun _ f => f.elim)).alloc _
    obtain ⟨b0, b1, b2, b3, b4⟩ := box5 w5 (.int .u64 0) (.int .i64 0) (.int .u64 0) (.slice none 0 0) (.int .u64 0) 45
    clear t02 t4 t5
    go_wp2_with fail
    refine (lputA_nil _ _).mono ?_
    rintro e w6 ⟨rfl, rfl⟩
    go_wp2_with fail
    refine (lroomA_nil _).mono ?_
    rintro e w6 ⟨rfl, rfl⟩
    go_wp2_with fail
    refine (lackedA_nil _).mono ?_
    rintro e w6 ⟨rfl, rfl⟩
    go_wp2_with fail
    refine (lgotA_nil _).mono ?_
    rintro e w6 ⟨rfl, rfl⟩
    go_wp2_with fail
    refine (lidleA_nil _).mono ?_
    rintro e w6 ⟨rfl, rfl⟩
    go_wp2
    go_ret
    exact ⟨rfl, t05.below (Nat.le_refl _) (fun _ f => f.elim)⟩
  · as_aux_lemma =>
    have hnew : _ := fun wx => lnewA_err2 wx vn vp a1.toNat (by omega) (by omega) a2 (.inr g4)
    rw [show ((a1.toNat : Nat) : Int) = a1 by omega] at hnew
    go_enter Try.func7, Try.ntmps7
    go_wp2_with fail
    (try simp only [hw0])
    refine (awake_any _).mono ?_
    rintro e w1 ⟨rfl, t1⟩
    obtain ⟨c0, c1⟩ := HC.out w1 t1
    go_wp2_with fail
    refine (hnew _).mono ?_
    rintro e w2 ⟨rfl, t2⟩
    have t02 := (t0.trans t1 (fun _ f => f.elim)).trans t2 (fun _ f => f.elim)
    clear c0 c1 t0 t1 t2 HC hnew
    go_wp2_with fail
    refine (ltakeA_nil _).mono ?_
    rintro e w3 ⟨rfl, rfl⟩
    go_wp2_with fail
    refine (linA_nil _ #[]).mono ?_
    rintro e w4 ⟨rfl, t4⟩
    go_wp2_with fail
    refine (loutA_nil _).mono ?_
    rintro e w5 ⟨rfl, t5⟩
    have t05 : Turned (fun _ => False) w (w5.alloc (.cells #[.int .u64 0, .int .i64 0, .int .u64 0, .slice none 0 0, .int .u64 0] 45)) := ((t02.trans t4 (fun _ f => f.elim)).trans t5 (fun _ f => f.elim)).alloc _
    obtain ⟨b0, b1, b2, b3, b4⟩ := box5 w5 (.int .u64 0) (.int .i64 0) (.int .u64 0) (.slice none 0 0) (.int .u64 0) 45
    clear t02 t4 t5
    go_wp2_with fail
    refine (lputA_nil _ _).mono ?_
    rintro e w6 ⟨rfl, rfl⟩
    go_wp2_with fail
    refine (lroomA_nil _).mono ?_
    rintro e w6 ⟨rfl, rfl⟩
    go_wp2_with fail
    refine (lackedA_nil _).mono ?_
    rintro e w6 ⟨rfl, rfl⟩
    go_wp2_with fail
    refine (lgotA_nil _).mono ?_
    rintro e w6 ⟨rfl, rfl⟩
    go_wp2_with fail
    refine (lidleA_nil _).mono ?_
    rintro e w6 ⟨rfl, rfl⟩
    go_wp2
    go_ret
    exact ⟨rfl, t05.below (Nat.le_refl _) (fun _ f => f.elim)⟩
  · as_aux_lemma =>
    have hnew : _ := fun wx => lnewA_any wx vn vp a1.toNat (by omega) (by omega) a2.toNat (by omega) (by omega)
    rw [show ((a1.toNat : Nat) : Int) = a1 by omega, show ((a2.toNat : Nat) : Int) = a2 by omega] at hnew
    go_enter Try.func7, Try.ntmps7
    go_wp2_with fail
    (try simp only [hw0])
    refine (awake_any _).mono ?_
    rintro e w1 ⟨rfl, t1⟩
    obtain ⟨c0, c1⟩ := HC.out w1 t1
    go_wp2_with fail
    refine (hnew _).mono ?_
    rintro e w2 ⟨k, F, rfl, -, t2, -⟩
    have t02 := (t0.trans t1 (fun _ f => f.elim)).trans t2 (fun _ f => f.elim)
    clear c0 c1 t0 t1 t2 HC hnew
    go_wp2_with fail
    refine (ltakeA_nil _).mono ?_
    rintro e w3 ⟨rfl, rfl⟩
    go_wp2_with fail
    refine (linA_nil _ #[]).mono ?_
    rintro e w4 ⟨rfl, t4⟩
    go_wp2_with fail
    refine (loutA_nil _).mono ?_
    rintro e w5 ⟨rfl, t5⟩
    have t05 : Turned (fun _ => False) w (w5.alloc (.cells #[.int .u64 0, .int .i64 0, .int .u64 0, .slice none 0 0, .int .u64 0] 45)) := ((t02.trans t4 (fun _ f => f.elim)).trans t5 (fun _ f => f.elim)).alloc _
    obtain ⟨b0, b1, b2, b3, b4⟩ := box5 w5 (.int .u64 0) (.int .i64 0) (.int .u64 0) (.slice none 0 0) (.int .u64 0) 45
    clear t02 t4 t5
    go_wp2_with fail
    refine (lputA_nil _ _).mono ?_
    rintro e w6 ⟨rfl, rfl⟩
    go_wp2_with fail
    refine (lroomA_nil _).mono ?_
    rintro e w6 ⟨rfl, rfl⟩
    go_wp2_with fail
    refine (lackedA_nil _).mono ?_
    rintro e w6 ⟨rfl, rfl⟩
    go_wp2_with fail
    refine (lgotA_nil _).mono ?_
    rintro e w6 ⟨rfl, rfl⟩
    go_wp2_with fail
    refine (lidleA_nil _).mono ?_
    rintro e w6 ⟨rfl, rfl⟩
    go_wp2
    go_ret
    exact ⟨rfl, t05.below (Nat.le_refl _) (fun _ f => f.elim)⟩

set_option maxRecDepth 100000 in
theorem lifted (os : Os) (started : os.Started) (H : Type) (enc : TypeId × Value → H) :
    ReturnsInHanded {} Try.checked os 7 .any (Rows.linkErrsSpec.pre6 enc Try.prog Try.f7 Rows.linkErrsRow.domain false) (Rows.linkErrsSpec.post enc Try.prog Try.f7 false true false false) := by
  refine returnsInHanded_of_change (C := Try.checked) own started (by kernel_rfl) Try.func7
    (ChangeSpec.witness6 (enc := enc) (C := Try.checked) false ⟨#[], #[.agg #[.int .u64 0, .int .i64 0], .int .i64 0, .int .i64 0, .string ⟨#[]⟩], []⟩ 7 (by kernel_rfl) (by kernel_rfl) (by kernel_rfl) (by kernel_rfl)) ?_
  intro W base args ds gs before hval0 hW hcnd _
  have hval : ∀ (j : Nat) t v, Try.f7.params[j]? = some t → args[j]? = some v → Value.okWide Try.prog W .any base t v := hval0
  have hW' := hW
  obtain ⟨p, q, hA0, hV, rfl, hfz, hnd⟩ := hW
  have hA : DataW.TrodAll enc Try.prog W 0 (fun _ => true) true Try.f7.params.toList args.toList ds p := hA0
  rw [Try.params7] at hA hval
  obtain ⟨v0, vs0, d0, ds0, p0, q0, hargs0, rfl, rfl, h0, r0⟩ := trodAll_cons hA
  obtain ⟨v1, vs1, d1, ds1, p1, q1, hargs1, rfl, rfl, h1, r1⟩ := trodAll_cons r0
  obtain ⟨v2, vs2, d2, ds2, p2, q2, hargs2, rfl, rfl, h2, r2⟩ := trodAll_cons r1
  obtain ⟨v3, vs3, d3, ds3, p3, q3, hargs3, rfl, rfl, h3, r3⟩ := trodAll_cons r2
  obtain ⟨rfl, rfl, rfl⟩ := trodAll_nil r3
  obtain rfl : args = #[v0, v1, v2, v3] := by cases args; simp_all
  obtain ⟨rfl, rfl⟩ := trodVars_none hV
  obtain ⟨c0a, c0b, y0a, y0b, m0, rfl, rfl, rfl, hy0a, hy0b⟩ := open_agg2 Try.underlying43 (by kernel_rfl) cells43 (hval 0 43 v0 rfl rfl) h0
  obtain ⟨n0', e0a, rfl, w0a⟩ := DataW.trod_int Try.underlying41 hy0a
  obtain ⟨q0, e0b, rfl, w0b⟩ := DataW.trod_int Try.underlying3 hy0b
  simp at e0a e0b
  subst e0a e0b
  obtain ⟨a1, rfl, rfl, rfl, w1⟩ := open_int Try.underlying3 (hval 1 3 v1 rfl rfl) h1
  obtain ⟨a2, rfl, rfl, rfl, w2⟩ := open_int Try.underlying3 (hval 2 3 v2 rfl rfl) h2
  obtain ⟨a3, rfl, rfl, rfl, w3⟩ := open_string Try.underlying9 (hval 3 9 v3 rfl rfl) h3
  clear hA0 hval0
  obtain ⟨n0, rfl, hn0⟩ := u64_of_wf w0a
  refine (walk W n0 hn0 q0 (in_of_wf w0b) a1 (in_of_wf w1) a2 (in_of_wf w2) a3).mono fun e W' ⟨he, bel⟩ => ?_
  subst he
  exact ⟨_, rfl, _, _, _, [], _, [], hW', trodAll_mk1 (shut_bool Try.underlying4 _), (trodAll_cons_mk (shut_vid w0a w0b) (trodAll_cons_mk (shut_int Try.underlying3 w1) (trodAll_cons_mk (shut_int Try.underlying3 w2) (trodAll_cons_mk (shut_string Try.underlying9 w3) trodAll_mk0)))), rfl, bel.frame _, fun h => by cases h⟩

theorem over : Rows.linkErrsRow.holds Try.pinned (OpenSpec.ofChange Rows.linkErrsSpec) :=
  OpenClaim.holds_of_wide 7 Try.f7 rfl rfl rfl rfl rfl rfl rfl ⟨rfl, rfl, rfl, rfl, rfl⟩ rfl rfl rfl rfl rfl (by kernel_rfl) Try.func7 (by kernel_rfl)
    (of_decide_eq_true (by kernel_rfl)) (by unfold Func.isWrapper; first | (rw [if_pos (by decide +kernel)]; kernel_rfl) | (rw [if_neg (by decide +kernel)]; exact ⟨rfl, rfl⟩))
    (fun os started H enc _ => lifted os started H enc)

end Go.Proofs.Ythobbnmdpkginaa.linkErrs
namespace Go.Proofs.Ythobbnmdpkginaa
theorem linkErrs_holds : Rows.LinkErrsSaid := linkErrs.over
#print axioms linkErrs_holds
end Go.Proofs.Ythobbnmdpkginaa
