/-
  ContentOne: any entry as bytes, and back; which entries are right. For every entry; no condition.
-/
import Derived.Test.YtpdgoalbknopiaaEArgs
import Derived.Test.YtpdgoalbknopiaaEAlike
import Derived.Test.YtpdgoalbknopiaaEMath
import Derived.Test.YtpdgoalbknopiaaEDec1
namespace Go.Proofs.Ytpdgoalbknopiaa.contentOne
open Go.ChangeShapes Go.WideShapes Go.ChangeAt Go.RowKit Go.Deep
set_option linter.unusedVariables false
set_option linter.unusedSimpArgs false

/-- What the last test reads. -/
def S1 (h g : Nat) (x : Lb) (so : Option Addr) (sn sc : Nat) (m : List UInt8) (to : Option Addr) (tn tc : Nat) (po : Option Addr) (pn pc : Nat) (pb : List UInt8) (w : World) : Prop :=
  w.cell? ⟨h, 0, none⟩ = some (.int .u64 (x.1 : Nat)) ∧ w.cell? ⟨h, 1, none⟩ = some (.int .i64 x.2.1) ∧ w.cell? ⟨h, 2, none⟩ = some (.int .u64 (x.2.2.1 : Nat)) ∧ w.cell? ⟨h, 3, none⟩ = some (.int .i64 x.2.2.2) ∧ w.cell? ⟨h, 4, none⟩ = some (.slice so sn sc) ∧ (convert 27 9 (.slice so sn sc)).run Try.prog w = .ok (.string (Cd.str m)) w ∧
  w.cell? ⟨g, 0, none⟩ = some (.int .u64 (x.1 : Nat)) ∧ w.cell? ⟨g, 1, none⟩ = some (.int .i64 x.2.1) ∧ w.cell? ⟨g, 2, none⟩ = some (.int .u64 (x.2.2.1 : Nat)) ∧ w.cell? ⟨g, 3, none⟩ = some (.int .i64 x.2.2.2) ∧ w.cell? ⟨g, 4, none⟩ = some (.slice to tn tc) ∧ (convert 27 9 (.slice to tn tc)).run Try.prog w = .ok (.string (Cd.str m)) w ∧
  (convert 27 9 (.slice po pn pc)).run Try.prog w = .ok (.string (Cd.str pb)) w ∧
  w.cell? ⟨g + 1, 0, none⟩ = some (.slice none 0 0) ∧ w.cell? ⟨g + 1, 1, none⟩ = some (.slice none 0 0) ∧ w.cell? ⟨g + 1, 2, none⟩ = some (.int .i64 0) ∧ w.cell? ⟨g + 1, 3, none⟩ = some (.int .u64 0) ∧ w.cell? ⟨g + 1, 4, none⟩ = some (.int .i64 0)

set_option maxRecDepth 20000 in
set_option maxHeartbeats 2000000 in
theorem walk (w : World) (x : Lb) (hxo : OkL x) (so : Option Addr) (sn sc : Nat) (ms : List UInt8) (hrow : Cd.Row w so sn sc ms) :
    Calls Try.prog 3 #[ent x (.slice so sn sc)] w fun e w' => e = .returned (.bool true) ∧ Below w.heap.size w w' := by
  obtain rfl : sn = ms.length := hrow.1.symm
  have hx : x.1 < 18446744073709551616 := hxo.1
  have hx2 : x.2.2.1 < 18446744073709551616 := hxo.2.2.1
  clear hxo
  have hb0 : Below w.heap.size w (w.alloc (.cells #[.int .u64 (x.1 : Nat), .int .i64 x.2.1, .int .u64 (x.2.2.1 : Nat), .int .i64 x.2.2.2, .slice so ms.length sc] 29)) := bl1 _ _
  have ex0 := ex_new w x (.slice so ms.length sc) 29
  have hrow0 := hrow.below hb0 (Nat.le_refl _)
  obtain ⟨W0, hW0⟩ : ∃ W, Hid (w.alloc (.cells #[.int .u64 (x.1 : Nat), .int .i64 x.2.1, .int .u64 (x.2.2.1 : Nat), .int .i64 x.2.2.2, .slice so ms.length sc] 29) = W) := ⟨_, rfl⟩
  rw [hW0.out] at hb0 ex0 hrow0
  have hf1 := fun W => formE_any W x so ms.length sc
  have hf2 := fun W => refFormE_any W x so ms.length sc
  have u0 : Below W0.heap.size W0 W0.drew := (Below.refl _ _).drew
  unfold ent
  go_enter Try.func3, Try.ntmps3
  go_wp2_with fail
  rw [hW0.out]
  refine wp_region_noPanic ?_
  refine wp_region_held_drew (S := Ex w.heap.size x (.slice so ms.length sc)) (by kernel_rfl) (ex0.bl u0) (fun hHeld => ?_)
  unfold Ex at hHeld
  refine comes_up 0 rfl (by kernel_rfl) (fun K hK => ?_)
  go_simp
  refine (awake_any _).mono ?_
  rintro e w1 ⟨rfl, hb1⟩
  have u1 := bl_step u0 hb1
  clear hb1
  go_wp2_with fail
  refine hK.out _ _ (ex0.bl u1) (fun hHeld => ?_)
  clear hK K
  (try simp only [Act.put, List.setIfInBounds_toArray, List.set_cons_zero, List.set_cons_succ])
  unfold Ex at hHeld
  refine tq 1 ?_
  refine tq 2 ?_
  refine tq 3 ?_
  refine tq 4 ?_
  refine tq 5 ?_
  refine tq 7 ?_
  refine comes_up 6 rfl (by kernel_rfl) (fun K hK => ?_)
  go_simp
  unfold ent at hf1 hf2
  refine (hf1 _).mono ?_
  rintro e w2 ⟨rfl, hu2⟩
  have u2 := bl_step u1 hu2.bl
  clear hf1 hu2 u1 u0
  go_wp2_with fail
  refine hK.out _ _ (ex0.bl u2) (fun hHeld => ?_)
  clear hK K
  (try simp only [Act.put, List.setIfInBounds_toArray, List.set_cons_zero, List.set_cons_succ])
  unfold Ex at hHeld
  refine comes_up 8 rfl (by kernel_rfl) (fun K hK => ?_)
  go_simp
  refine (hf2 _).mono ?_
  rintro e w3 ⟨rfl, hu3⟩
  have u3 := bl_step u2 hu3.bl
  clear hu3 u2
  go_wp2_with fail
  refine hK.out _ _ (ex0.bl u3) (fun hHeld => ?_)
  clear hK K
  (try simp only [Act.put, List.setIfInBounds_toArray, List.set_cons_zero, List.set_cons_succ])
  unfold Ex at hHeld
  refine tq 9 ?_
  refine tq 10 ?_
  refine wpAnyH_done (by kernel_rfl) ?_ _
  refine NoPanic.normal ?_
  clear hHeld
  have ex3 := ex0.bl u3
  have hrow3 := hrow0.below u3 (Nat.le_refl _)
  have bl3 := bl_step hb0 u3
  clear hb0 u3 ex0 hrow0 hrow
  obtain ⟨y0, y1, y2, y3, y4⟩ := id ex3
  cases hfe : formE x ms.length with
  | false =>
    have he := encodeOne_bad w3 x so ms.length sc hfe
    unfold ent at he
    rw [hfe] at hf2
    go_wp2_with fail
    refine he.mono ?_
    rintro e w4 ⟨rfl, hb4⟩
    have bl4 := bl_step bl3 hb4
    have ex4 := ex3.bl hb4
    clear he hb4 bl3 ex3 y0 y1 y2 y3 y4
    obtain ⟨y0, y1, y2, y3, y4⟩ := ex4
    go_wp2_with fail
    refine (hf2 _).mono ?_
    rintro e w5 ⟨rfl, hu5⟩
    have bl5 := bl_step bl4 hu5.bl
    clear hf2 hu5 bl4 y0 y1 y2 y3 y4
    go_wp2
    go_ret
    exact ⟨rfl, bl5⟩
  | true =>
    obtain ⟨hfl, hsn⟩ : formL x = true ∧ ms.length ≤ 64 := by unfold formE at hfe; simpa using hfe
    have he := encodeOne_any w3 x hx hx2 so ms.length sc ms hrow3 hfe
    have hlen : (1 :: encE x ms).length ≤ 1000 := by
      have h1 := encL_len x
      have h2 := Cd.enc_length ms.length
      unfold encE
      simp
      omega
    have hone : ∀ W, Below w3.heap.size w3 W → _ := fun W u => refOne_any W x hx hx2 so ms.length sc ms (hrow3.below u (Nat.le_refl _)) hfl hsn
    have hdec : decE (some (encE x ms)) = ((x, ms), some []) := by
      have := dec_encE x ms hx hx2 hfl (by omega) []
      simpa using this
    have hk : Cd.rInt (some (1 :: encE x ms)) 2 = (1, some (encE x ms)) := by
      have := rInt_enc 1 (by omega) 2 (by omega) (encE x ms)
      simpa [show Cd.enc 1 = [1] by decide] using this
    have hd : ∀ W ao cap, Cd.Row W ao (1 :: encE x ms).length cap (1 :: encE x ms) → Calls Try.prog 11 #[.slice ao (1 :: encE x ms).length cap] W (fun e w' => ∃ to tc, e = .returned (.tuple #[.int .u8 1, ent x (.slice to ms.length tc), .agg Zs, .int .i64 0]) ∧ Cd.Row w' to ms.length tc ms ∧ Below W.heap.size W w') := by
      intro W ao cap hW
      have := decode_one_good W ao _ cap _ hW (by omega) _ hk (fun ys hy => by cases hy; simp at hlen; omega) (by rw [hdec]; exact ⟨hfe, rfl⟩)
      rw [hdec] at this
      refine this.mono ?_
      rintro e w' ⟨s, rfl, ho, hb⟩
      obtain ⟨to, tc, rfl, hr, _⟩ := Cd.owns_row ho
      exact ⟨to, tc, rfl, hr, hb⟩
    clear hdec hk hfl hx hx2
    generalize 1 :: encE x ms = P at *
    unfold ent at he hone hd
    rw [hfe] at hf2
    go_wp2_with fail
    refine he.mono ?_
    rintro e w4 ⟨v4, rfl, ho4, hb4⟩
    obtain ⟨po, pc, rfl, hp4, _⟩ := Cd.owns_row ho4
    have ex4 := ex3.bl hb4
    clear he y0 y1 y2 y3 y4 ho4
    obtain ⟨y0, y1, y2, y3, y4⟩ := id ex4
    go_wp2_with fail
    refine (hf2 _).mono ?_
    rintro e w5 ⟨rfl, hu5⟩
    have hb5 := bl_step hb4 hu5.bl
    have ex5 := ex4.bl hu5.bl
    have hp5 := hp4.below hu5.bl (Nat.le_refl _)
    clear hf2 hb4 hu5 y0 y1 y2 y3 y4 ex4 hp4
    go_wp2_with fail
    refine (hd _ po pc hp5).mono ?_
    rintro e w6 ⟨to, tc, rfl, hr6, hb6⟩
    have hb36 := bl_step hb5 hb6
    have ex6 := ex5.bl hb6
    have hp6 := hp5.below hb6 (Nat.le_refl _)
    have hrow6 := hrow3.below hb36 (Nat.le_refl _)
    clear hd ex5 hp5 hb5 hb6
    have hb7 : Below w6.heap.size w6 ((w6.alloc (.cells #[.int .u64 (x.1 : Nat), .int .i64 x.2.1, .int .u64 (x.2.2.1 : Nat), .int .i64 x.2.2.2, .slice to ms.length tc] 29)).alloc (.cells Zs 38)) := bl2 _ _ _
    have ey := (ex_new w6 x (.slice to ms.length tc) 29).bl (bl1 _ (.cells Zs 38))
    have ez : Ez (w6.heap.size + 1) ((w6.alloc (.cells #[.int .u64 (x.1 : Nat), .int .i64 x.2.1, .int .u64 (x.2.2.1 : Nat), .int .i64 x.2.2.2, .slice to ms.length tc] 29)).alloc (.cells Zs 38)) := by
      have hsz6 : (w6.alloc (.cells #[.int .u64 (x.1 : Nat), .int .i64 x.2.1, .int .u64 (x.2.2.1 : Nat), .int .i64 x.2.2.2, .slice to ms.length tc] 29)).heap.size = w6.heap.size + 1 := by simp
      have := sb_new (w6.alloc (.cells #[.int .u64 (x.1 : Nat), .int .i64 x.2.1, .int .u64 (x.2.2.1 : Nat), .int .i64 x.2.2.2, .slice to ms.length tc] 29)) (.slice none 0 0) (.slice none 0 0) 0 0 0 38
      rw [hsz6] at this
      exact this
    obtain ⟨g, hg⟩ : ∃ g, Hid (w6.heap.size = g) := ⟨_, rfl⟩
    obtain ⟨W7, hW7⟩ : ∃ W, Hid ((w6.alloc (.cells #[.int .u64 (x.1 : Nat), .int .i64 x.2.1, .int .u64 (x.2.2.1 : Nat), .int .i64 x.2.2.2, .slice to ms.length tc] 29)).alloc (.cells Zs 38) = W) := ⟨_, rfl⟩
    rw [hW7.out] at hb7 ey ez
    rw [hg.out] at ey ez
    have HS : Hid (∀ W, Below W7.heap.size W7 W → S1 w.heap.size g x so ms.length sc ms to ms.length tc po P.length pc P W) := fun W u => by
      have a := (ex6.bl hb7).bl u
      have b := ey.bl u
      have c : Ez (g + 1) W := ⟨bl_cell u ez.1, bl_cell u ez.2.1, bl_cell u ez.2.2.1, bl_cell u ez.2.2.2.1, bl_cell u ez.2.2.2.2⟩
      exact ⟨a.1, a.2.1, a.2.2.1, a.2.2.2.1, a.2.2.2.2, Cd.conv_row ((hrow6.below hb7 (Nat.le_refl _)).below u (Nat.le_refl _)), b.1, b.2.1, b.2.2.1, b.2.2.2.1, b.2.2.2.2, Cd.conv_row ((hr6.below hb7 (Nat.le_refl _)).below u (Nat.le_refl _)), Cd.conv_row ((hp6.below hb7 (Nat.le_refl _)).below u (Nat.le_refl _)), c⟩
    have hb37 := bl_step hb36 hb7
    have HB7 : Hid (Below w.heap.size w W7) := bl_step bl3 hb37
    have u7 : Below W7.heap.size W7 W7.drew := (Below.refl _ _).drew
    have hone7 := hone W7.drew (bl_step hb37 u7)
    have hal : ∀ W, Below W7.heap.size W7 W → _ := fun W u => alike_any (fun _ => True) (fun _ => True) W none 0 0 [] (ER.nil _ _ _) none 0 0 [] ⟨rfl, by omega, fun h => by omega⟩ 0 0 0 none 0 0 [] (ER.nil _ _ _) none 0 0 [] ⟨rfl, by omega, fun h => by omega⟩ 0 0 0
    have heq := fun W => lab_equal x x W
    have s7 := HS.out _ u7
    simp only [decide_true] at heq
    unfold sumv at hal
    simp only [decide_true, Bool.and_self] at hal
    rw [show ((0 : Nat) : Int) = 0 from rfl] at hal
    unfold Zs at hW7
    clear ez ey hp6 hr6 hrow6 ex6 hb36 hb37 hone hrow3 bl3 ex3 hb7
    unfold Zs
    go_wp2_with fail
    rw [hW7.out]
    rw [hg.out]
    clear hW7 hg
    refine wp_region_noPanic ?_
    refine wp_region_held_drew (S := S1 w.heap.size g x so ms.length sc ms to ms.length tc po P.length pc P) (by kernel_rfl) s7 (fun hHeld => ?_)
    unfold S1 at hHeld
    refine tq 0 ?_
    refine tq 1 ?_
    refine tq 2 ?_
    refine tq 3 ?_
    refine tq 4 ?_
    refine tq 5 ?_
    refine comes_up 6 rfl (by kernel_rfl) (fun K hK => ?_)
    go_simp
    refine hone7.mono ?_
    rintro e w8 ⟨v8, rfl, ho8, hb8⟩
    obtain ⟨qo, qc, rfl, hr8, _⟩ := Cd.owns_row ho8
    have hcv8 := Cd.conv_row hr8
    have u8 := bl_step u7 hb8
    clear hone7 ho8 hb8 hr8 s7
    go_wp2_with fail
    refine hK.out _ _ (HS.out _ u8) (fun hHeld => ?_)
    clear hK K
    (try simp only [Act.put, List.setIfInBounds_toArray, List.set_cons_zero, List.set_cons_succ])
    unfold S1 at hHeld
    refine comes_up 7 rfl (by kernel_rfl) (fun K hK => ?_)
    go_simp
    go_wp2_with fail
    refine hK.out _ _ (HS.out _ u8) (fun hHeld => ?_)
    clear hK K
    (try simp only [Act.put, List.setIfInBounds_toArray, List.set_cons_zero, List.set_cons_succ])
    unfold S1 at hHeld
    clear hcv8
    refine tq 8 ?_
    refine tq 9 ?_
    refine tq 10 ?_
    refine tq 11 ?_
    refine tq 12 ?_
    refine tq 13 ?_
    refine tq 14 ?_
    refine tq 15 ?_
    refine tq 16 ?_
    refine tq 17 ?_
    refine tq 18 ?_
    refine tq 19 ?_
    refine tq 20 ?_
    refine tq 21 ?_
    refine tq 22 ?_
    refine tq 23 ?_
    refine tq 24 ?_
    refine tq 25 ?_
    refine tq 26 ?_
    refine tq 27 ?_
    refine tq 28 ?_
    refine tq 29 ?_
    refine tq 30 ?_
    refine tq 31 ?_
    refine tq 32 ?_
    refine tq 33 ?_
    refine tq 34 ?_
    refine tq 35 ?_
    refine tq 36 ?_
    refine comes_up 37 rfl (by kernel_rfl) (fun K hK => ?_)
    go_simp
    refine (hal _ u8).mono ?_
    rintro e w9 ⟨rfl, hu9⟩
    have u9 := bl_step u8 hu9.bl
    clear hal hu9
    go_wp2_with fail
    refine hK.out _ _ (HS.out _ u9) (fun hHeld => ?_)
    clear hK K
    (try simp only [Act.put, List.setIfInBounds_toArray, List.set_cons_zero, List.set_cons_succ])
    unfold S1 at hHeld
    refine tq 38 ?_
    refine tq 39 ?_
    refine wpAnyH_done (by kernel_rfl) ?_ _
    refine NoPanic.normal ?_
    clear hHeld
    go_wp2
    go_ret
    exact ⟨rfl, bl_step HB7.out u9⟩
set_option maxRecDepth 100000 in
theorem lifted (os : Os) (started : os.Started) (H : Type) (enc : TypeId × Value → H) :
    ReturnsInHanded {} Try.checked os 3 .any (Rows.contentOneSpec.pre6 enc Try.prog Try.f3 Rows.contentOneRow.domain false) (Rows.contentOneSpec.post enc Try.prog Try.f3 false true false false) := by
  refine returnsInHanded_of_change_sized (C := Try.checked) own started (by kernel_rfl) Try.func3
    (ChangeSpec.witness6 (enc := enc) (C := Try.checked) false ⟨#[], #[.agg #[.int .u64 0, .int .i64 0, .int .u64 0, .int .i64 0, .slice none 0 0]], []⟩ 12 (by kernel_rfl) (by kernel_rfl) (by kernel_rfl) (by kernel_rfl)) ?_
  intro W base args ds gs before hval0 hW hcnd hsz0 _
  have hsz : (DataW.weightsEach Try.prog (Try.f3.params.toList ++ Rows.contentOneSpec.plain.varTypes Try.prog) (ds ++ gs)).all (· ≤ reachBytes) = true := hsz0
  have hval : ∀ (j : Nat) t v, Try.f3.params[j]? = some t → args[j]? = some v → Value.okWide Try.prog W .any base t v := hval0
  have hW' := hW
  obtain ⟨p, q, hA0, hV, rfl, hfz, hnd⟩ := hW
  have hA : DataW.TrodAll enc Try.prog W 0 (fun _ => true) true Try.f3.params.toList args.toList ds p := hA0
  rw [Try.params3] at hA hval hsz
  obtain ⟨v0, vs0, d0, ds0, p0, q0, hargs0, rfl, rfl, h0, r0⟩ := trodAll_cons hA
  obtain ⟨rfl, rfl, rfl⟩ := trodAll_nil r0
  obtain rfl : args = #[v0] := by cases args; simp_all
  obtain ⟨rfl, rfl⟩ := trodVars_none hV
  have k0 := h0
  have lt0 : ∀ x ∈ p0, x.block < W.heap.size := by obtain ⟨m, hm⟩ := k0; exact DataW.trod_lt m _ _ _ hm
  obtain ⟨x0, so0, sn0, sc0, ms0, hx0, rfl, hr0⟩ := open_ent (hval 0 29 v0 rfl rfl) h0
  clear hA0 hval0 hsz hsz0
  refine (walk W x0 hx0 so0 sn0 sc0 ms0 hr0).mono fun e W' ⟨he, bel⟩ => ?_
  subst he
  exact ⟨_, rfl, _, _, _, [], _, [], hW', trodAll_mk1 (shut_bool Try.underlying4 _), (trodAll_cons_mk (Below.trod laidOut (by kernel_rfl) (of_decide_eq_true (by kernel_rfl)) k0 bel lt0) trodAll_mk0), rfl, bel.frame _, fun h => by cases h⟩

theorem over : Rows.contentOneRow.holds Try.pinned (OpenSpec.ofChange Rows.contentOneSpec) :=
  OpenClaim.holds_of_wide 3 Try.f3 rfl rfl rfl rfl rfl rfl rfl ⟨rfl, rfl, rfl, rfl, rfl⟩ rfl rfl rfl rfl rfl (by kernel_rfl) Try.func3 (by kernel_rfl)
    (of_decide_eq_true (by kernel_rfl)) (by unfold Func.isWrapper; first | (rw [if_pos (by decide +kernel)]; kernel_rfl) | (rw [if_neg (by decide +kernel)]; exact ⟨rfl, rfl⟩))
    (fun os started H enc _ => lifted os started H enc)

end Go.Proofs.Ytpdgoalbknopiaa.contentOne
namespace Go.Proofs.Ytpdgoalbknopiaa
theorem contentOne_holds : Rows.ContentOneSaid := contentOne.over
#print axioms contentOne_holds
end Go.Proofs.Ytpdgoalbknopiaa
