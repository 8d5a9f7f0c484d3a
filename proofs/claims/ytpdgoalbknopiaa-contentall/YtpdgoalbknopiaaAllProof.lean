/-
  ContentAll: any summary as bytes, and back; which summaries are right. For every summary; no condition.
-/
import Derived.Test.YtpdgoalbknopiaaEArgs2
import Derived.Test.YtpdgoalbknopiaaEMath3
import Derived.Test.YtpdgoalbknopiaaERefR
import Derived.Test.YtpdgoalbknopiaaERefA
import Derived.Test.YtpdgoalbknopiaaEDec2
namespace Go.Proofs.Ytpdgoalbknopiaa.contentAll
open Go.ChangeShapes Go.WideShapes Go.ChangeAt Go.RowKit Go.Deep
set_option linter.unusedVariables false
set_option linter.unusedSimpArgs false

/-- What the last test reads. -/
def S5 (h g : Nat) (s : Smy) (ao : Option Addr) (ac : Nat) (bo : Option Addr) (bc : Nat) (p : Value) (P : List UInt8) (w : World) : Prop :=
  (convert 27 9 p).run Try.prog w = .ok (.string (Cd.str P)) w ∧
  w.cell? ⟨h, 0, none⟩ = some (.slice s.ao s.n s.ac) ∧ w.cell? ⟨h, 1, none⟩ = some (.slice s.bo s.m s.bc) ∧ w.cell? ⟨h, 2, none⟩ = some (.int .i64 s.nx) ∧ w.cell? ⟨h, 3, none⟩ = some (.int .u64 (s.hn : Nat)) ∧ w.cell? ⟨h, 4, none⟩ = some (.int .i64 s.hp) ∧
  w.cell? ⟨g, 0, none⟩ = some (.int .u64 0) ∧ w.cell? ⟨g, 1, none⟩ = some (.int .i64 0) ∧ w.cell? ⟨g, 2, none⟩ = some (.int .u64 0) ∧ w.cell? ⟨g, 3, none⟩ = some (.int .i64 0) ∧ w.cell? ⟨g, 4, none⟩ = some (.slice none 0 0) ∧
  w.cell? ⟨g + 1, 0, none⟩ = some (.slice ao s.n ac) ∧ w.cell? ⟨g + 1, 1, none⟩ = some (.slice bo s.m bc) ∧ w.cell? ⟨g + 1, 2, none⟩ = some (.int .i64 s.nx) ∧ w.cell? ⟨g + 1, 3, none⟩ = some (.int .u64 (s.hn : Nat)) ∧ w.cell? ⟨g + 1, 4, none⟩ = some (.int .i64 s.hp)

set_option maxRecDepth 20000 in
set_option maxHeartbeats 4000000 in
theorem walk (w : World) (s : Smy) (hs : SmyOk w s) :
    Calls Try.prog 4 #[s.val] w fun e w' => e = .returned (.bool true) ∧ Below w.heap.size w w' := by
  have b0 : Below w.heap.size w (w.alloc (.cells #[.slice s.ao s.n s.ac, .slice s.bo s.m s.bc, .int .i64 s.nx, .int .u64 (s.hn : Nat), .int .i64 s.hp] 38)) := bl1 _ _
  have c0 := sb_new w (.slice s.ao s.n s.ac) (.slice s.bo s.m s.bc) s.nx s.hn s.hp 38
  obtain ⟨W0, hW0⟩ : ∃ W, Hid (w.alloc (.cells #[.slice s.ao s.n s.ac, .slice s.bo s.m s.bc, .int .i64 s.nx, .int .u64 (s.hn : Nat), .int .i64 s.hp] 38) = W) := ⟨_, rfl⟩
  rw [hW0.out] at b0 c0
  have hs0 := hs.bl b0
  have e1 := hs.em
  have e2 := hs.lm
  have e5 := hs.ec
  have e6 := hs.lc
  have hw1 : wrap64 ((s.n : Int) + s.m) = (s.n : Int) + s.m := IntWalk.wrap64_in _ (by omega)
  have haw := fun W => awake_any W
  have hlm : s.m ≤ 140737488355328 := by omega
  have hnm : s.n ≤ 140737488355328 := by omega
  have fs : ∀ W, Below W0.heap.size W0 W → _ := fun W u => refRight_any (fun _ => True) W s.ao s.n s.ac s.es (hs0.er.bl u) s.bo s.m s.bc s.ls (hs0.lr.up u) hs0.lc hlm s.nx s.hn s.hp
  unfold sumv at fs
  clear e1 e2 e5 e6 hs
  unfold Smy.val sumv
  go_enter Try.func4, Try.ntmps4
  go_wp2_with fail
  rw [hW0.out]
  refine (haw _).mono ?_
  rintro e w1 ⟨rfl, u1⟩
  have c1 := c0.bl u1
  obtain ⟨r0, r1, r2, r3, r4⟩ := id c1
  by_cases hbig : 200 < (s.n : Int) + s.m
  · clear fs
    go_wp2_with fail
    refine (haw _).mono ?_
    rintro e wz ⟨rfl, uz⟩
    have uf := bl_step b0 (bl_step u1 uz)
    clear r0 r1 r2 r3 r4 haw
    go_wp2
    go_ret
    exact ⟨rfl, uf⟩
  have hm2 : s.m ≤ 1000 := by omega
  have hn2 : s.n ≤ 1000 := by omega
  have fr : ∀ W, Below W0.heap.size W0 W → _ := fun W u => right_any (fun _ => True) W s.ao s.n s.ac s.es (hs0.er.bl u) hnm s.bo s.m s.bc s.ls (hs0.lr.up u) hm2 hs0.lz s.nx s.hn s.hp
  unfold sumv at fr
  have ud : Below w1.heap.size w1 w1.drew := (Below.refl _ _).drew
  have u1d := bl_step u1 ud
  have HSb : Hid (∀ W, Below W0.heap.size W0 W → Sb w.heap.size (.slice s.ao s.n s.ac) (.slice s.bo s.m s.bc) s.nx s.hn s.hp W) := fun W u => c0.bl u
  have s0 := HSb.out _ u1d
  clear haw
  unfold Sb at s0
  go_wp2_with fail
  refine wp_region_noPanic ?_
  refine wp_region_held_drew (S := Sb w.heap.size (.slice s.ao s.n s.ac) (.slice s.bo s.m s.bc) s.nx s.hn s.hp) (by kernel_rfl) s0 (fun hHeld => ?_)
  unfold Sb at hHeld
  refine tq 0 ?_
  refine tq 2 ?_
  refine comes_up 1 rfl (by kernel_rfl) (fun K hK => ?_)
  go_simp
  refine (fr _ u1d).mono ?_
  rintro e w2 ⟨rfl, hb2⟩
  have u2 := bl_step u1d hb2
  clear fr hb2 s0
  go_wp2_with fail
  refine hK.out _ _ (HSb.out _ u2) (fun hHeld => ?_)
  clear hK K
  (try simp only [Act.put, List.setIfInBounds_toArray, List.set_cons_zero, List.set_cons_succ])
  refine comes_up 3 rfl (by kernel_rfl) (fun K hK => ?_)
  go_simp
  refine (fs _ u2).mono ?_
  rintro e w3 ⟨rfl, hu3⟩
  have u3 := bl_step u2 hu3.bl
  clear hu3
  go_wp2_with fail
  refine hK.out _ _ (HSb.out _ u3) (fun hHeld => ?_)
  clear hK K
  (try simp only [Act.put, List.setIfInBounds_toArray, List.set_cons_zero, List.set_cons_succ])
  refine tq 4 ?_
  refine wpAnyH_done (by kernel_rfl) ?_ _
  refine NoPanic.normal ?_
  clear hHeld r0 r1 r2 r3 r4 c1 u1 u1d ud u2
  obtain ⟨r0, r1, r2, r3, r4⟩ := HSb.out _ u3
  obtain ⟨d, hd⟩ : ∃ d, rightS s.es s.ls s.nx s.hn s.hp = d := ⟨_, rfl⟩
  cases d with
  | false =>
    as_aux_lemma =>
    have he := encodeAll_bad (fun _ => True) w3 s.ao s.n s.ac s.es (hs0.er.bl u3) hnm s.bo s.m s.bc s.ls (hs0.lr.up u3) hm2 hs0.lz s.nx s.hn s.hp hd
    unfold sumv at he
    rw [hd] at fs
    go_wp2_with fail
    refine he.mono ?_
    rintro e w4 ⟨rfl, hb4⟩
    have u4 := bl_step u3 hb4
    clear he hb4 r0 r1 r2 r3 r4
    obtain ⟨r0, r1, r2, r3, r4⟩ := HSb.out _ u4
    go_wp2_with fail
    refine (fs _ u4).mono ?_
    rintro e w5 ⟨rfl, hu5⟩
    have uf := bl_step b0 (bl_step u4 hu5.bl)
    clear fs hu5 r0 r1 r2 r3 r4
    go_wp2
    go_ret
    exact ⟨rfl, uf⟩
  | true =>
    as_aux_lemma =>
    have hsl := hs0.lr.1
    have hsn := hs0.er.1
    obtain ⟨sE, sL, sx1, sx2, sf⟩ := right_parts hd (fun e he => ⟨(hs0.eok e he).1, (hs0.eok e he).2.2.1⟩) (fun e he => ⟨(hs0.lok e he).1, (hs0.lok e he).2.2.1⟩)
    obtain ⟨sN, hsN⟩ : ∃ k : Nat, s.nx = k := ⟨s.nx.toNat, by omega⟩
    have hd' : rightS s.es s.ls sN s.hn s.hp = true := by rw [← hsN]; exact hd
    have hsN1 : sN ≤ 10000 := by omega
    have he := encodeAll_any (fun _ => True) w3 s.ao s.n s.ac s.es (hs0.er.bl u3) hn2 s.bo s.m s.bc s.ls (hs0.lr.up u3) hm2 hs0.lz sN s.hn s.hp hd' sE sL hsN1 hs0.hnl sf
    have hra : ∀ W, Below W0.heap.size W0 W → _ := fun W u => refAll_any (fun _ => True) W s.ao s.n s.ac s.es (hs0.er.bl u) hn2 s.bo s.m s.bc s.ls (hs0.lr.up u) hm2 sN s.hn s.hp sE sL hsN1 hs0.hnl sf
    have hpp : ((s.hp.toNat : Nat) : Int) = s.hp := by have := (formV_p sf).1; omega
    have htl : (tailB s.es s.ls sN s.hn s.hp).length ≤ 1000000 := by
      have h1 := encEs_len s.es (fun e he => (sE e he).2.2.2)
      have h2 := encLs_len s.ls
      have h3 := Cd.enc_length s.es.length
      have h4 := Cd.enc_length s.ls.length
      have h5 := Cd.enc_length sN
      have h6 := Cd.enc_length s.hn
      unfold tailB
      simp only [List.length_append, List.length_cons, List.length_nil]
      omega
    have hds := decS_tail (nx := sN) sE sL (by omega) (by omega) (by omega) hs0.hnl sf
    have hk : Cd.rInt (some (allB s.es s.ls sN s.hn s.hp)) 2 = (2, some (tailB s.es s.ls sN s.hn s.hp)) := by
      have := rInt_enc 2 (by omega) 2 (by omega) (tailB s.es s.ls sN s.hn s.hp)
      rw [allB_tail]
      simpa [show Cd.enc 2 = [2] by decide] using this
    have hd2 : ∀ W ao cap, Cd.Row W ao (allB s.es s.ls sN s.hn s.hp).length cap (allB s.es s.ls sN s.hn s.hp) → Calls Try.prog 11 #[.slice ao (allB s.es s.ls sN s.hn s.hp).length cap] W (fun e w' => ∃ ao ac bo bc, e = .returned (.tuple #[.int .u8 2, .agg Ze, sumv (.slice ao s.n ac) (.slice bo s.m bc) s.nx s.hn s.hp, .int .i64 0]) ∧ ER (fun _ => True) w' ao s.n s.es ∧ LR w' bo s.m s.ls ∧ Below W.heap.size W w') := by
      intro W ao cap hW
      have hln : (allB s.es s.ls sN s.hn s.hp).length ≤ 140737488355328 := by rw [allB_tail]; simp; omega
      have := decode_all_good W ao _ cap _ hW hln _ hk (fun ys hy => by cases hy; exact htl) (by rw [hds]; show s.ls.length ≤ 1000; omega) (by rw [hds]; show s.es.length ≤ 1000000; omega) (by rw [hds]; exact ⟨by show rightS s.es s.ls sN s.hn ((s.hp.toNat : Nat) : Int) = true; rw [hpp]; exact hd', rfl⟩)
      rw [hds] at this
      refine this.mono ?_
      rintro e w' ⟨ao', ac', bo', bc', rfl, q1, q2, _, _, q3⟩
      simp only at q1 q2 ⊢
      rw [hpp, hsn, hsl, ← hsN]
      rw [hsn] at q1
      rw [hsl] at q2
      exact ⟨ao', ac', bo', bc', rfl, q1.mono (fun _ _ => trivial), q2, q3⟩
    rw [← hsN] at he hra
    unfold sumv at he hra hd2
    rw [hd] at fs
    clear hds hk htl hpp sE sL sx1 sx2 sf hd' hsl hsn hsN hsN1 hd
    generalize allB s.es s.ls sN s.hn s.hp = P at *
    go_wp2_with fail
    refine he.mono ?_
    rintro e w4 ⟨v4, rfl, ho4, hb4⟩
    obtain ⟨po, pc, rfl, hp4, _⟩ := Cd.owns_row ho4
    have u4 := bl_step u3 hb4
    clear he hb4 r0 r1 r2 r3 r4 ho4
    obtain ⟨r0, r1, r2, r3, r4⟩ := HSb.out _ u4
    go_wp2_with fail
    refine (fs _ u4).mono ?_
    rintro e w5 ⟨rfl, hu5⟩
    have u5 := bl_step u4 hu5.bl
    have hp5 := hp4.below hu5.bl (Nat.le_refl _)
    clear fs hu5 r0 r1 r2 r3 r4 hp4
    go_wp2_with fail
    refine (hd2 _ po pc hp5).mono ?_
    rintro e w6 ⟨ao, ac, bo, bc, rfl, hE6, hL6, hb6⟩
    have u6 := bl_step u5 hb6
    have hp6 := hp5.below hb6 (Nat.le_refl _)
    clear hd2 hp5 hb6
    have hb7 : Below w6.heap.size w6 ((w6.alloc (.cells Ze 29)).alloc (.cells #[.slice ao s.n ac, .slice bo s.m bc, .int .i64 s.nx, .int .u64 (s.hn : Nat), .int .i64 s.hp] 38)) := bl2 _ _ _
    have z7 : (w6.alloc (.cells Ze 29)).heap.size = w6.heap.size + 1 := by simp
    have cz := sb_new (w6.alloc (.cells Ze 29)) (.slice ao s.n ac) (.slice bo s.m bc) s.nx s.hn s.hp 38
    rw [z7] at cz
    have ce : ∀ j v, Ze[j]? = some v → ((w6.alloc (.cells Ze 29)).alloc (.cells #[.slice ao s.n ac, .slice bo s.m bc, .int .i64 s.nx, .int .u64 (s.hn : Nat), .int .i64 s.hp] 38)).cell? ⟨w6.heap.size, j, none⟩ = some v := fun j v hj => bl_cell (bl1 _ _) (cell_box w6 Ze 29 j v hj)
    obtain ⟨g, hg⟩ : ∃ g, Hid (w6.heap.size = g) := ⟨_, rfl⟩
    obtain ⟨W7, hW7⟩ : ∃ W, Hid ((w6.alloc (.cells Ze 29)).alloc (.cells #[.slice ao s.n ac, .slice bo s.m bc, .int .i64 s.nx, .int .u64 (s.hn : Nat), .int .i64 s.hp] 38) = W) := ⟨_, rfl⟩
    rw [hW7.out] at hb7 cz ce
    rw [hg.out] at cz ce
    have u7 := bl_step u6 hb7
    have HS : Hid (∀ W, Below W7.heap.size W7 W → S5 w.heap.size g s ao ac bo bc (.slice po P.length pc) P W) := fun W u => by
      have a := HSb.out W (bl_step u7 u)
      have b := cz.bl u
      exact ⟨Cd.conv_row ((hp6.below hb7 (Nat.le_refl _)).below u (Nat.le_refl _)), a.1, a.2.1, a.2.2.1, a.2.2.2.1, a.2.2.2.2, bl_cell u (ce 0 _ rfl), bl_cell u (ce 1 _ rfl), bl_cell u (ce 2 _ rfl), bl_cell u (ce 3 _ rfl), bl_cell u (ce 4 _ rfl), b⟩
    have ud : Below W7.heap.size W7 W7.drew := (Below.refl _ _).drew
    have s7 := HS.out _ ud
    have hra7 := hra W7.drew (bl_step u7 ud)
    have hal : ∀ W, Below W7.heap.size W7 W → _ := fun W u => alike_any (fun _ => True) (fun _ => True) W ao s.n ac s.es ((hE6.bl hb7).bl u) bo s.m bc s.ls ((hL6.up hb7).up u) s.nx s.hn s.hp s.ao s.n s.ac s.es (hs0.er.bl (bl_step u7 u)) s.bo s.m s.bc s.ls (hs0.lr.up (bl_step u7 u)) s.nx s.hn s.hp
    have heq := fun W => lab_equal (0, 0, 0, 0) (0, 0, 0, 0) W
    simp only [decide_true] at heq
    rw [show ((0 : Nat) : Int) = 0 from rfl] at heq
    unfold sumv at hal
    simp only [decide_true, Bool.and_self] at hal
    have HB7 : Hid (Below w.heap.size w W7) := bl_step b0 u7
    unfold Ze at hW7
    clear cz ce hp6 hE6 hL6 hb7 hra u6 u5 u4 u3 hs0 z7
    unfold Ze
    unfold S5 at s7
    go_wp2_with fail
    rw [hW7.out]
    rw [hg.out]
    clear hW7 hg
    refine wp_region_noPanic ?_
    refine wp_region_held_drew (S := S5 w.heap.size g s ao ac bo bc (.slice po P.length pc) P) (by kernel_rfl) s7 (fun hHeld => ?_)
    unfold S5 at hHeld
    refine tq 0 ?_
    refine tq 1 ?_
    refine tq 2 ?_
    refine tq 3 ?_
    refine tq 4 ?_
    refine tq 5 ?_
    refine comes_up 6 rfl (by kernel_rfl) (fun K hK => ?_)
    go_simp
    refine hra7.mono ?_
    rintro e w8 ⟨v8, rfl, ho8, hb8⟩
    obtain ⟨qo, qc, rfl, hr8, _⟩ := Cd.owns_row ho8
    have hcv8 := Cd.conv_row hr8
    have u8 := bl_step ud hb8
    clear hra7 ho8 hb8 hr8 s7
    go_wp2_with fail
    refine hK.out _ _ (HS.out _ u8) (fun hHeld => ?_)
    clear hK K
    (try simp only [Act.put, List.setIfInBounds_toArray, List.set_cons_zero, List.set_cons_succ])
    unfold S5 at hHeld
    refine comes_up 7 rfl (by kernel_rfl) (fun K hK => ?_)
    go_simp
    go_wp2_with fail
    refine hK.out _ _ (HS.out _ u8) (fun hHeld => ?_)
    clear hK K
    (try simp only [Act.put, List.setIfInBounds_toArray, List.set_cons_zero, List.set_cons_succ])
    unfold S5 at hHeld
    clear hcv8
    refine tq 8 ?_
    refine tq 9 ?_
    refine tq 10 ?_
    refine tq 11 ?_
    refine tq 12 ?_
    refine tq 13 ?_
    refine tq 14 ?_
    refine tq 15 ?_
    refine tq 16 ?_
    refine tq 17 ?_
    refine tq 18 ?_
    refine tq 19 ?_
    refine tq 20 ?_
    refine tq 21 ?_
    refine tq 22 ?_
    refine tq 23 ?_
    refine tq 24 ?_
    refine tq 25 ?_
    refine tq 26 ?_
    refine tq 27 ?_
    refine tq 28 ?_
    refine tq 29 ?_
    refine tq 30 ?_
    refine tq 31 ?_
    refine tq 32 ?_
    refine comes_up 33 rfl (by kernel_rfl) (fun K hK => ?_)
    go_simp
    refine (hal _ u8).mono ?_
    rintro e w9 ⟨rfl, hu9⟩
    have u9 := bl_step u8 hu9.bl
    clear hal hu9
    go_wp2_with fail
    refine hK.out _ _ (HS.out _ u9) (fun hHeld => ?_)
    clear hK K
    (try simp only [Act.put, List.setIfInBounds_toArray, List.set_cons_zero, List.set_cons_succ])
    refine tq 34 ?_
    refine tq 35 ?_
    refine wpAnyH_done (by kernel_rfl) ?_ _
    refine NoPanic.normal ?_
    clear hHeld
    go_wp2
    go_ret
    exact ⟨rfl, bl_step HB7.out u9⟩
set_option maxRecDepth 100000 in
theorem lifted (os : Os) (started : os.Started) (H : Type) (enc : TypeId × Value → H) :
    ReturnsInHanded {} Try.checked os 4 .any (Rows.contentAllSpec.pre6 enc Try.prog Try.f4 Rows.contentAllRow.domain false) (Rows.contentAllSpec.post enc Try.prog Try.f4 false true false false) := by
  refine returnsInHanded_of_change_sized (C := Try.checked) own started (by kernel_rfl) Try.func4
    (ChangeSpec.witness6 (enc := enc) (C := Try.checked) false ⟨#[], #[.agg #[.slice none 0 0, .slice none 0 0, .int .i64 0, .int .u64 0, .int .i64 0]], []⟩ 12 (by kernel_rfl) (by kernel_rfl) (by kernel_rfl) (by kernel_rfl)) ?_
  intro W base args ds gs before hval0 hW hcnd hsz0 _
  have hsz : (DataW.weightsEach Try.prog (Try.f4.params.toList ++ Rows.contentAllSpec.plain.varTypes Try.prog) (ds ++ gs)).all (· ≤ reachBytes) = true := hsz0
  have hval : ∀ (j : Nat) t v, Try.f4.params[j]? = some t → args[j]? = some v → Value.okWide Try.prog W .any base t v := hval0
  have hW' := hW
  obtain ⟨p, q, hA0, hV, rfl, hfz, hnd⟩ := hW
  have hA : DataW.TrodAll enc Try.prog W 0 (fun _ => true) true Try.f4.params.toList args.toList ds p := hA0
  rw [Try.params4] at hA hval hsz
  obtain ⟨v0, vs0, d0, ds0, p0, q0, hargs0, rfl, rfl, h0, r0⟩ := trodAll_cons hA
  obtain ⟨rfl, rfl, rfl⟩ := trodAll_nil r0
  obtain rfl : args = #[v0] := by cases args; simp_all
  obtain ⟨rfl, rfl⟩ := trodVars_none hV
  have k0 := h0
  have lt0 : ∀ x ∈ p0, x.block < W.heap.size := by obtain ⟨m, hm⟩ := k0; exact DataW.trod_lt m _ _ _ hm
  obtain ⟨y0, hy0, rfl⟩ := open_sum (hval 0 38 v0 rfl rfl) h0 (fits_of hsz (j := 0) rfl rfl)
  clear hA0 hval0 hsz hsz0
  refine (walk W y0 hy0).mono fun e W' ⟨he, bel⟩ => ?_
  subst he
  exact ⟨_, rfl, _, _, _, [], _, [], hW', trodAll_mk1 (shut_bool Try.underlying4 _), (trodAll_cons_mk (Below.trod laidOut (by kernel_rfl) (of_decide_eq_true (by kernel_rfl)) k0 bel lt0) trodAll_mk0), rfl, bel.frame _, fun h => by cases h⟩

theorem over : Rows.contentAllRow.holds Try.pinned (OpenSpec.ofChange Rows.contentAllSpec) :=
  OpenClaim.holds_of_wide 4 Try.f4 rfl rfl rfl rfl rfl rfl rfl ⟨rfl, rfl, rfl, rfl, rfl⟩ rfl rfl rfl rfl rfl (by kernel_rfl) Try.func4 (by kernel_rfl)
    (of_decide_eq_true (by kernel_rfl)) (by unfold Func.isWrapper; first | (rw [if_pos (by decide +kernel)]; kernel_rfl) | (rw [if_neg (by decide +kernel)]; exact ⟨rfl, rfl⟩))
    (fun os started H enc _ => lifted os started H enc)

end Go.Proofs.Ytpdgoalbknopiaa.contentAll
namespace Go.Proofs.Ytpdgoalbknopiaa
theorem contentAll_holds : Rows.ContentAllSaid := contentAll.over
#print axioms contentAll_holds
end Go.Proofs.Ytpdgoalbknopiaa
