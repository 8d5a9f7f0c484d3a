/-
  A refusal, and a commit (Member.refused, committed, copiedAll).
-/
import Derived.Test.YtlonbbepoamnmaaDoorMIn1
namespace Go.Proofs.YtlonbbepoamnmaaDoor
open Go.RowKit
set_option linter.unusedVariables false

set_option maxRecDepth 10000 in
set_option maxHeartbeats 1000000 in
theorem cloneW_any (w : World) (ao : Option Addr) (n cap : Nat) (p : Nat → Prop) (ls : List Sx) (h : SR p w ao n ls) (hn : n ≤ 2932031007402) :
    Calls Tryd.prog 85 #[.slice ao n cap] w fun e w' => ∃ v, e = .returned v ∧ w'.ownsRow w.heap.size 45 4 v n (flat ls) ∧ Below w.heap.size w w' := by
  obtain ⟨i0, hi0, hz0, hz1, hz2⟩ := info_parts infoS
  have q22 := fun (w : World) (a : Option Addr) (n c n' c' : Nat) => Lib.run_eql_slice_nil (P := Tryd.prog) w 36 45 a n c n' c' und22
  have hl := h.1
  cases ao with
  | none =>
    obtain rfl := h.2.2.1 rfl
    obtain rfl : ls = [] := List.length_eq_zero_iff.1 hl
    go_enter Tryd.func85, Tryd.ntmps85
    go_wp2
    go_ret
    exact ⟨_, rfl, ⟨rfl, .inl ⟨rfl, rfl⟩⟩, Below.refl _ _⟩
  | some ad =>
    have hA : Hid (∀ j u, (flat ls)[j]? = some u → w.cell? (ad.add j) = some u) := h.cells
    have HF : Hid ((flat ls).length = n * 4) := by show _ = _; rw [flat_len, hl]
    clear h
    go_enter Tryd.func85, Tryd.ntmps85
    go_wp2_with (at_builtin; refine wpList_append_own_at _ rfl _ _ 36 rfl w.heap.size 45 i0 (.agg #[.int .u64 0, .int .i64 0, .int .i64 0, .slice none 0 0]) 4 48 und22 hi0 hz0 hz1 hz2 rfl (by decide) _ 0 [] rfl ?d1 ad n cap (flat ls) rfl ?d2 ?d3 ?d4 ?d6 ?d7 ?d8 ?_)
    case d1 => exact World.ownsRow_made w #[] 0 (Nat.le_refl _) (Nat.zero_le _) (by simp)
    case d2 => exact HF.out
    case d3 => exact fun j u hj => ((bl1 w _).cell (World.block_lt_of_cell? w _ (hA.out j u hj))).trans (hA.out j u hj)
    case d4 => exact fun u hu => flat_one hu
    case d6 => unfold maxLen; omega
    case d7 => omega
    case d8 => simp
    intro v' w1 hown hgrow hnil hat
    have HE : Hid (w1.ownsRow w.heap.size 45 4 v' n (flat ls) ∧ Below w.heap.size w w1) := ⟨by simpa using hown, bl_grown (bl1 w _) (by simp) hgrow (by intro k hk; simp [Value.ownBlock] at hk; omega)⟩
    clear hown hgrow hnil hat
    go_wp2
    go_ret
    exact ⟨v', rfl, HE.out⟩


/-- What holds between the rounds of copiedAll. -/
structure Ca (w wr : World) (g cap k : Nat) (ss cur : List Sx) (ds : List Sd) : Prop where
  blk : Blk wr g cap cur
  len : cur.length = ss.length
  tl : ∀ j, k ≤ j → cur[j]? = ss[j]?
  si : ∀ (j : Nat) (x : Sx) (d : Sd), j < k → cur[j]? = some x → ds[j]? = some d → Si (fun b => w.heap.size ≤ b ∧ b ≠ g) wr x d
  bl : Below w.heap.size w wr

set_option maxRecDepth 10000 in
set_option maxHeartbeats 1000000 in
theorem copiedAll_any (p : Nat → Prop) (w : World) (ao : Option Addr) (n cap : Nat) (ds : List Sd) (h : Ss p w ao n ds) (hn : n ≤ 2932031007402) :
    Calls Tryd.prog 76 #[.slice ao n cap] w fun e w' => ∃ ao' cap', e = .returned (.slice ao' n cap') ∧ Ss (fun b => w.heap.size ≤ b) w' ao' n ds ∧ Below w.heap.size w w' := by
  obtain ⟨ss, hs, hd, hsi⟩ := h
  have hsl := hs.1
  have hcl := cloneW_any w ao n cap p ss hs hn
  have HS : Hid (∀ (j : Nat) (x : Sx) (d : Sd), ss[j]? = some x → ds[j]? = some d → Si p w x d) := hsi
  clear hs hsi
  go_enter Tryd.func76, Tryd.ntmps76
  go_wp2_with fail
  refine hcl.mono ?_
  rintro e w1 ⟨v, rfl, hown, hb1⟩
  clear hcl
  rcases own_shape hown with ⟨rfl, h0⟩ | ⟨g, cp, rfl, hbg, hgl⟩
  · have HE : Hid (Ss (fun b => w.heap.size ≤ b) w1 none 0 ds ∧ Below w.heap.size w w1) := by
      have : ds = [] := List.length_eq_zero_iff.1 (by omega)
      rw [this]; exact ⟨Ss.nil _ _, hb1⟩
    subst h0
    clear hown hb1 HS
    go_wp2
    refine wp_loop_rounds 1 ?_
    rw [rounds_succ]
    go_wp2
    go_ret
    exact ⟨none, 0, rfl, HE.out⟩
  · obtain ⟨hblk, _, hnc, hcm⟩ := Blk.ofOwn hown
    have H1 : Hid (Ca w w1 g cp 0 ss ss ds) := ⟨hblk, rfl, fun _ _ => rfl, fun j x d hj => by omega, hb1⟩
    have hcpw : cp ≤ 9223372036854775807 := by unfold maxLen at hcm; omega
    have HC : Hid (w.heap.size ≤ g ∧ n ≤ cp ∧ cp ≤ maxLen) := ⟨hbg, hnc, hcm⟩
    clear hblk hown hb1 hgl hbg hnc hcm
    go_wp2_with fail
    go_loopw [3, 8] (fun _ kv wr => ∃ (k : Nat) (cur : List Sx), k ≤ n ∧ kv = .int .i64 (k : Nat) ∧ Ca w wr g cp k ss cur ds) (fun _ kv _ => n - (intOf kv).toNat)
    case atStart => exact ⟨0, ss, by omega, rfl, H1.out⟩
    case round =>
      clear H1
      obtain ⟨k, cur, hk, rfl, hca⟩ := hrel
      have HA : Hid (Ca w wr g cp k ss cur ds) := hca
      by_cases hlt : k < n
      · have hltI : (k : Int) < (n : Int) := by omega
        obtain ⟨x, hx⟩ : ∃ x, ss[k]? = some x := ⟨ss[k]'(by omega), List.getElem?_eq_getElem (by omega)⟩
        obtain ⟨d, hdk⟩ : ∃ d, ds[k]? = some d := ⟨ds[k]'(by omega), List.getElem?_eq_getElem (by omega)⟩
        have hck : cur[k]? = some x := by rw [hca.tl k (Nat.le_refl _)]; exact hx
        obtain ⟨c0, c1, c2, c3⟩ := hca.blk.cell hck
        have hcp := copied3_any p wr x d ((HS.out k x d hx hdk).keep (Kp.up hca.bl))
        unfold sta at hcp
        have HD : Hid (cur[k]? = some x ∧ ds[k]? = some d) := ⟨hck, hdk⟩
        have hk0 : ¬ ((k : Int) < 0) := by omega
        clear hca hx hdk hck
        go_wp2_with fail
        refine hcp.mono ?_
        rintro e w2 ⟨ao2, cap2, rfl, hsi2, hb2⟩
        obtain ⟨y, hy⟩ : ∃ y : Sx, y = (x.1, x.2.1, x.2.2.1, ao2, x.2.2.2.2.1, cap2) := ⟨_, rfl⟩
        have hkl := (List.getElem?_eq_some_iff.1 HD.out.1).1
        obtain ⟨w4, hst, hb4, hg4⟩ := (HA.out.blk.up hb2).set (i := k) hkl y
        have HN : Hid (Ca w w4 g cp (k + 1) ss (cur.set k y) ds) := by
          have hc := HA.out
          have hgl := hc.blk.lt
          have hgw := HC.out.1
          have kp1 : Kp (fun b => w.heap.size ≤ b ∧ b ≠ g ∧ b < w2.heap.size) w2 w4 := fun ad u hz hcl => by
            rw [World.cell?_of_block (w := w2) (hg4.block _ hz.2.2 (fun e => hz.2.1 (by simpa using e)))]; exact hcl
          refine ⟨hb4, by rw [List.length_set]; exact hc.len, fun j hj => by rw [List.getElem?_set_ne (by omega)]; exact hc.tl j (by omega), fun j z d' hj hz hd' => ?_, bl_grown (bl_step hc.bl hb2) (bl_step hc.bl hb2).size hg4 (fun i hi => by cases hi; exact hgw)⟩
          by_cases e : j = k
          · subst e
            rw [List.getElem?_set_self hkl] at hz
            cases hz
            rw [HD.out.2] at hd'
            cases hd'
            rw [hy]
            refine ((hsi2.imp (q := fun b => w.heap.size ≤ b ∧ b ≠ g ∧ b < w2.heap.size) (fun b hl hb => ?_)).keep kp1).imp (fun b _ hb => ⟨hb.1, hb.2.1⟩)
            have hb' : wr.heap.size ≤ b := hb
            have := hc.bl.size
            exact ⟨by omega, by omega, hl⟩
          · rw [List.getElem?_set_ne (by omega)] at hz
            exact ((((hc.si j z d' (by omega) hz hd').keep (Kp.up hb2)).imp (q := fun b => w.heap.size ≤ b ∧ b ≠ g ∧ b < w2.heap.size) (fun b hl hb => ⟨hb.1, hb.2, hl⟩)).keep kp1).imp (fun b _ hb => ⟨hb.1, hb.2.1⟩)
        have hst' := hst
        rw [hy] at hst'
        clear hcp hsi2 hb2 hst hb4 hg4 HA HD hkl c0 c1 c2 c3
        go_wp2_with (first | (refine wpList_store_cells rfl 45 (.tmp 18) (.tmp 17) rfl ⟨g, k * 4, none⟩ #[.int .u64 (x.1 : Nat), .int .i64 x.2.1, .int .i64 x.2.2.1, .slice ao2 x.2.2.2.2.1 cap2] rfl rfl infoS31 w4 hst' ?_))
        go_roundw
        case rel => first | exact ⟨k + 1, _, by omega, by go_num, HN.out⟩ | ((repeat apply Exists.intro); exact ⟨⟨k + 1, _, by omega, by go_num, HN.out⟩, rfl⟩)
        case measure => simp [intOf]; omega
      · obtain rfl : k = n := by omega
        have HE : Hid (Ss (fun b => w.heap.size ≤ b) wr (some ⟨g, 0, none⟩) k ds ∧ Below w.heap.size w wr) := by
          have hc := HA.out
          have hlen := hc.len
          have how := hc.blk.own HC.out.1 HC.out.2.2 k (by omega)
          rw [List.take_of_length_le (by omega)] at how
          obtain ⟨ao', c', e', hsr, _⟩ := SR.own how
          simp only [Value.slice.injEq] at e'
          obtain ⟨rfl, _, rfl⟩ := e'
          exact ⟨⟨cur, hsr.imp (fun b _ hb => hb.2), hd, fun j x d hx hd' => (hc.si j x d (by have := (List.getElem?_eq_some_iff.1 hx).1; omega) hx hd').imp (fun b _ hb => hb.1)⟩, hc.bl⟩
        clear hca HA HS
        go_wp2
        go_ret
        exact ⟨some ⟨g, 0, none⟩, cp, rfl, HE.out⟩

section
variable {w : World} {F Z : Nat → Prop} {q p : Nat} {M : Mm} {P : Pp} {o : Option Nat}

theorem refused_own {M : Mm} {Fr : PF} (h : M.own = none) : M.refused Fr = M.rise Fr.promN := by unfold Mm.refused; rw [h]; simp only; unfold Mm.rise; rw [h]
theorem refused_stay {M : Mm} {Fr : PF} {P : Pp} (h : M.own = some P) (hn : ¬ (P.agreed = false ∧ Fr.id = P.id ∧ vlt Fr.id Fr.prom)) : M.refused Fr = M.rise Fr.promN := by
  unfold Mm.refused; rw [h]; simp only; rw [if_neg hn]; unfold Mm.rise; rw [h]
theorem refused_drop {M : Mm} {Fr : PF} {P : Pp} (h : M.own = some P) (hn : P.agreed = false ∧ Fr.id = P.id ∧ vlt Fr.id Fr.prom) : M.refused Fr = { M.rise Fr.promN with own := none } := by
  unfold Mm.refused; rw [h]; simp only; rw [if_pos hn]; rfl

set_option maxRecDepth 10000 in
set_option maxHeartbeats 1000000 in
theorem refused_any (h : Mb w F Z q M o) (Fr : PF) (a : Fa) : Calls Tryd.prog 48 #[.pointer (some ⟨q, 0, none⟩), fval Fr a] w fun e w' => e = .returned (.tuple #[]) ∧ ∃ o', Mb w' F Z q (M.refused Fr) o' ∧ Sp w F Z w' F Z := by
  have hql := h.lt q h.fq
  obtain ⟨w1, hw1⟩ : ∃ w1, w.alloc (.cells (fcells Fr a) 43) = w1 := ⟨_, rfl⟩
  have hb1 : Below w.heap.size w w1 := by rw [← hw1]; exact bl1 _ _
  have h1 := h.still hb1
  have hB : w1.heap[w.heap.size]? = some (.cells (fcells Fr a) 43 (0, 0)) := by rw [← hw1]; exact heap_alloc_new _ _
  have d7 := heap_cell (j := 7) hB rfl
  have r1 := rise_any h1 Fr.promN
  have HW : Hid (w.alloc (.cells (fcells Fr a) 43) = w1) := hw1
  have HK : Hid (w1.heap[w.heap.size]? = some (.cells (fcells Fr a) 43 (0, 0)) ∧ Sp w F Z w1 F Z ∧ (¬ F w.heap.size)) := ⟨hB, Sp.still hb1 h.zl, fun hf => by have := h.lt _ hf; omega⟩
  obtain ⟨R, hR⟩ : ∃ R, M.refused Fr = R := ⟨_, rfl⟩
  rw [hR]
  clear h h1 hb1 hB hw1 hql
  unfold fval fcells at *
  go_enter Tryd.func48, Tryd.ntmps48
  go_wp2_with fail
  rw [HW.out]
  clear HW
  refine r1.mono ?_
  rintro e w2 ⟨rfl, h2, sp2⟩
  have hB2 := (sp2.turned.block _ (heap_lt HK.out.1) HK.out.2.2).trans HK.out.1
  have sp02 := HK.out.2.1.trans sp2
  have c8 := h2.cell 8 (by omega)
  unfold mcell ptr at c8
  have hS : w2.drew.cell? ⟨w.heap.size, 2, none⟩ = some (.int .u64 (Fr.idN : Nat)) ∧ w2.drew.cell? ⟨w.heap.size, 3, none⟩ = some (.int .i64 Fr.idP) ∧ w2.drew.cell? ⟨w.heap.size, 7, none⟩ = some (.int .u64 (Fr.promN : Nat)) ∧ w2.drew.cell? ⟨w.heap.size, 8, none⟩ = some (.int .i64 Fr.promP) :=
    ⟨heap_cell (j := 2) hB2 rfl, heap_cell (j := 3) hB2 rfl, heap_cell (j := 7) hB2 rfl, heap_cell (j := 8) hB2 rfl⟩
  have HS2 : Hid (Mb w2 F Z q (M.rise Fr.promN) o ∧ Sp w F Z w2 F Z) := ⟨h2, sp02⟩
  clear r1 HK d7 sp2 sp02 hB2
  cases hM : M.own with
  | none =>
    have ho := h2.ownNone (show (M.rise Fr.promN).own = none from hM)
    subst ho
    have HR : Hid (R = M.rise Fr.promN) := by unfold Hid; rw [← hR]; exact refused_own hM
    simp only [Option.map_none] at c8
    clear h2 hM hR
    go_wp2_with fail
    refine wp_region_noPanic ?_
    refine wp_region_held_drew (S := fun wx => True) (by kernel_rfl) trivial (fun hHeld => ?_)
    refine tk 0 rfl (fun wx hSw => by go_simp; try with_reducible rfl) ?_
    refine tk 1 rfl (fun wx hSw => by go_simp; try with_reducible rfl) ?_
    refine tk 2 rfl (fun wx hSw => by go_simp; try with_reducible rfl) ?_
    refine take_first 3 (v := undef) rfl (by kernel_rfl) (by kernel_rfl) (by kernel_rfl) (fun _ _ _ h => h) (Or.inr ⟨by rfl, rfl⟩) (by assumption) ?_
    (try simp only [Act.put, List.setIfInBounds_toArray, List.set_cons_zero, List.set_cons_succ])
    refine take_first 4 (v := undef) rfl (by kernel_rfl) (by kernel_rfl) (by kernel_rfl) (fun _ _ _ h => h) (Or.inr ⟨by rfl, rfl⟩) (by assumption) ?_
    (try simp only [Act.put, List.setIfInBounds_toArray, List.set_cons_zero, List.set_cons_succ])
    refine take_first 5 (v := undef) rfl (by kernel_rfl) (by kernel_rfl) (by kernel_rfl) (fun _ _ _ h => h) (Or.inr ⟨by rfl, rfl⟩) (by assumption) ?_
    (try simp only [Act.put, List.setIfInBounds_toArray, List.set_cons_zero, List.set_cons_succ])
    refine tk 6 rfl (fun wx hSw => by go_simp; try with_reducible rfl) ?_
    refine tk 7 rfl (fun wx hSw => by go_simp; try with_reducible rfl) ?_
    refine take_first 8 (v := undef) rfl (by kernel_rfl) (by kernel_rfl) (by kernel_rfl) (fun _ _ _ h => h) (Or.inr ⟨by rfl, rfl⟩) (by assumption) ?_
    (try simp only [Act.put, List.setIfInBounds_toArray, List.set_cons_zero, List.set_cons_succ])
    refine take_first 9 (v := undef) rfl (by kernel_rfl) (by kernel_rfl) (by kernel_rfl) (fun _ _ _ h => h) (Or.inr ⟨by rfl, rfl⟩) (by assumption) ?_
    (try simp only [Act.put, List.setIfInBounds_toArray, List.set_cons_zero, List.set_cons_succ])
    refine take_first 10 (v := undef) rfl (by kernel_rfl) (by kernel_rfl) (by kernel_rfl) (fun _ _ _ h => h) (Or.inr ⟨by rfl, rfl⟩) (by assumption) ?_
    (try simp only [Act.put, List.setIfInBounds_toArray, List.set_cons_zero, List.set_cons_succ])
    refine take_first 11 (v := undef) rfl (by kernel_rfl) (by kernel_rfl) (by kernel_rfl) (fun _ _ _ h => h) (Or.inr ⟨by rfl, rfl⟩) (by assumption) ?_
    (try simp only [Act.put, List.setIfInBounds_toArray, List.set_cons_zero, List.set_cons_succ])
    refine take_first 12 (v := undef) rfl (by kernel_rfl) (by kernel_rfl) (by kernel_rfl) (fun _ _ _ h => h) (Or.inr ⟨by rfl, rfl⟩) (by assumption) ?_
    (try simp only [Act.put, List.setIfInBounds_toArray, List.set_cons_zero, List.set_cons_succ])
    refine take_first 13 (v := undef) rfl (by kernel_rfl) (by kernel_rfl) (by kernel_rfl) (fun _ _ _ h => h) (Or.inr ⟨by rfl, rfl⟩) (by assumption) ?_
    (try simp only [Act.put, List.setIfInBounds_toArray, List.set_cons_zero, List.set_cons_succ])
    refine take_first 14 (v := undef) rfl (by kernel_rfl) (by kernel_rfl) (by kernel_rfl) (fun _ _ _ h => h) (Or.inr ⟨by rfl, rfl⟩) (by assumption) ?_
    (try simp only [Act.put, List.setIfInBounds_toArray, List.set_cons_zero, List.set_cons_succ])
    refine take_first 15 (v := undef) rfl (by kernel_rfl) (by kernel_rfl) (by kernel_rfl) (fun _ _ _ h => h) (Or.inr ⟨by rfl, rfl⟩) (by assumption) ?_
    (try simp only [Act.put, List.setIfInBounds_toArray, List.set_cons_zero, List.set_cons_succ])
    refine tk 16 rfl (fun wx hSw => by go_simp; try with_reducible rfl) ?_
    refine tk 17 rfl (fun wx hSw => by go_simp; try with_reducible rfl) ?_
    refine take_first 18 (v := undef) rfl (by kernel_rfl) (by kernel_rfl) (by kernel_rfl) (fun _ _ _ h => h) (Or.inr ⟨by rfl, rfl⟩) (by assumption) ?_
    (try simp only [Act.put, List.setIfInBounds_toArray, List.set_cons_zero, List.set_cons_succ])
    refine take_first 19 (v := undef) rfl (by kernel_rfl) (by kernel_rfl) (by kernel_rfl) (fun _ _ _ h => h) (Or.inr ⟨by rfl, rfl⟩) (by assumption) ?_
    (try simp only [Act.put, List.setIfInBounds_toArray, List.set_cons_zero, List.set_cons_succ])
    refine take_first 20 (v := undef) rfl (by kernel_rfl) (by kernel_rfl) (by kernel_rfl) (fun _ _ _ h => h) (Or.inr ⟨by rfl, rfl⟩) (by assumption) ?_
    (try simp only [Act.put, List.setIfInBounds_toArray, List.set_cons_zero, List.set_cons_succ])
    refine take_first 21 (v := undef) rfl (by kernel_rfl) (by kernel_rfl) (by kernel_rfl) (fun _ _ _ h => h) (Or.inr ⟨by rfl, rfl⟩) (by assumption) ?_
    (try simp only [Act.put, List.setIfInBounds_toArray, List.set_cons_zero, List.set_cons_succ])
    refine take_first 22 (v := undef) rfl (by kernel_rfl) (by kernel_rfl) (by kernel_rfl) (fun _ _ _ h => h) (Or.inr ⟨by rfl, rfl⟩) (by assumption) ?_
    (try simp only [Act.put, List.setIfInBounds_toArray, List.set_cons_zero, List.set_cons_succ])
    refine tk 23 rfl (fun wx hSw => by go_simp; try with_reducible rfl) ?_
    refine wpAnyH_done (by kernel_rfl) ?_ _
    refine NoPanic.normal ?_
    go_wp2
    go_end0
    exact ⟨rfl, none, by rw [HR.out]; exact HS2.out.1.still ((Below.refl _ _).drew), HS2.out.2.trans (Sp.still ((Below.refl _ _).drew) HS2.out.1.zl)⟩
  | some P =>
    obtain ⟨p, ho, hp⟩ := h2.ownSome (show (M.rise Fr.promN).own = some P from hM)
    subst ho
    simp only [Option.map_some] at c8
    have hp0 : Pb w2.drew F Z q p P := hp.frame (fun b hb => rfl) (Kp.up ((Below.refl _ w2).drew)) (fun _ h => h)
    have ha := agreed_any hp0
    have hS2 : (w2.drew.cell? ⟨p, 0, none⟩ = some (.int .u64 (P.id.1 : Nat)) ∧ w2.drew.cell? ⟨p, 1, none⟩ = some (.int .i64 P.id.2)) ∧ (w2.drew.cell? ⟨w.heap.size, 2, none⟩ = some (.int .u64 (Fr.idN : Nat)) ∧ w2.drew.cell? ⟨w.heap.size, 3, none⟩ = some (.int .i64 Fr.idP) ∧ w2.drew.cell? ⟨w.heap.size, 7, none⟩ = some (.int .u64 (Fr.promN : Nat)) ∧ w2.drew.cell? ⟨w.heap.size, 8, none⟩ = some (.int .i64 Fr.promP)) := ⟨⟨hp.c0, hp.c1⟩, hS⟩
    have hq := fun W => vid_equal Fr.idN Fr.idP P.id.1 P.id.2 W
    have hvid : decide (Fr.idN = P.id.1 ∧ Fr.idP = P.id.2) = decide (Fr.id = P.id) := vid_eq2 Fr.id P.id
    rw [hvid] at hq
    have hab := fun W => above_any W Fr.promN Fr.promP Fr.idN Fr.idP
    have hve : decide (vlt (Fr.idN, Fr.idP) (Fr.promN, Fr.promP)) = decide (vlt Fr.id Fr.prom) := rfl
    rw [hve] at hab
    unfold vid at hab
    have HKP : Hid (∀ W, Below w2.drew.heap.size w2.drew W → (W.cell? ⟨p, 0, none⟩ = some (.int .u64 (P.id.1 : Nat)) ∧ W.cell? ⟨p, 1, none⟩ = some (.int .i64 P.id.2)) ∧ (W.cell? ⟨w.heap.size, 2, none⟩ = some (.int .u64 (Fr.idN : Nat)) ∧ W.cell? ⟨w.heap.size, 3, none⟩ = some (.int .i64 Fr.idP) ∧ W.cell? ⟨w.heap.size, 7, none⟩ = some (.int .u64 (Fr.promN : Nat)) ∧ W.cell? ⟨w.heap.size, 8, none⟩ = some (.int .i64 Fr.promP))) := fun W u => ⟨⟨bl_cell u hS2.1.1, bl_cell u hS2.1.2⟩, bl_cell u hS2.2.1, bl_cell u hS2.2.2.1, bl_cell u hS2.2.2.2.1, bl_cell u hS2.2.2.2.2⟩
    have HF : Hid (∀ W, Below w2.drew.heap.size w2.drew W → Mb W F Z q (M.rise Fr.promN) (some p) ∧ Sp w F Z W F Z) := fun W u => by
      have u' : Below w2.heap.size w2 W := ⟨u.os, u.tape, u.output, u.size, u.block⟩
      exact ⟨HS2.out.1.still u', HS2.out.2.trans (Sp.still u' HS2.out.1.zl)⟩
    clear h2 hp hp0 hS hvid hve HS2
    cases hg : P.agreed with
    | true =>
      rw [hg] at ha
      have HR : Hid (R = M.rise Fr.promN) := by unfold Hid; rw [← hR]; exact refused_stay hM (by rw [hg]; simp)
      clear hM hg hR hq hab
      go_wp2_with fail
      refine wp_region_noPanic ?_
      refine wp_region_held_drew (S := fun wx => (wx.cell? ⟨p, 0, none⟩ = some (.int .u64 (P.id.1 : Nat)) ∧ wx.cell? ⟨p, 1, none⟩ = some (.int .i64 P.id.2)) ∧ (wx.cell? ⟨w.heap.size, 2, none⟩ = some (.int .u64 (Fr.idN : Nat)) ∧ wx.cell? ⟨w.heap.size, 3, none⟩ = some (.int .i64 Fr.idP) ∧ wx.cell? ⟨w.heap.size, 7, none⟩ = some (.int .u64 (Fr.promN : Nat)) ∧ wx.cell? ⟨w.heap.size, 8, none⟩ = some (.int .i64 Fr.promP))) (by kernel_rfl) hS2 (fun hHeld => ?_)
      refine tk 0 rfl (fun wx ⟨⟨a1, a2⟩, a3, a4, a5, a6⟩ => by go_simp; try with_reducible rfl) ?_
      refine tk 1 rfl (fun wx ⟨⟨a1, a2⟩, a3, a4, a5, a6⟩ => by go_simp; try with_reducible rfl) ?_
      refine tk 2 rfl (fun wx ⟨⟨a1, a2⟩, a3, a4, a5, a6⟩ => by go_simp; try with_reducible rfl) ?_
      refine tk 3 rfl (fun wx ⟨⟨a1, a2⟩, a3, a4, a5, a6⟩ => by go_simp; try with_reducible rfl) ?_
      refine comes_up 4 rfl (by kernel_rfl) (fun K hK => ?_)
      go_simp
      refine ha.mono ?_
      rintro e w3 ⟨rfl, u3⟩
      have hS3 := HKP.out w3 u3.bl
      have HE : Hid (Mb w3 F Z q (M.rise Fr.promN) (some p) ∧ Sp w F Z w3 F Z) := HF.out w3 u3.bl
      clear ha u3 HKP HF hS2
      go_wp2_with fail
      refine hK.out _ _ hS3 (fun hHeld => ?_)
      clear hK K
      (try simp only [Act.put, List.setIfInBounds_toArray, List.set_cons_zero, List.set_cons_succ])
      refine tk 5 rfl (fun wx ⟨⟨a1, a2⟩, a3, a4, a5, a6⟩ => by go_simp; try with_reducible rfl) ?_
      refine tk 6 rfl (fun wx ⟨⟨a1, a2⟩, a3, a4, a5, a6⟩ => by go_simp; try with_reducible rfl) ?_
      refine tk 7 rfl (fun wx ⟨⟨a1, a2⟩, a3, a4, a5, a6⟩ => by go_simp; try with_reducible rfl) ?_
      refine take_first 8 (v := undef) rfl (by kernel_rfl) (by kernel_rfl) (by kernel_rfl) (fun _ _ _ h => h) (Or.inr ⟨by rfl, rfl⟩) (by assumption) ?_
      (try simp only [Act.put, List.setIfInBounds_toArray, List.set_cons_zero, List.set_cons_succ])
      refine take_first 9 (v := undef) rfl (by kernel_rfl) (by kernel_rfl) (by kernel_rfl) (fun _ _ _ h => h) (Or.inr ⟨by rfl, rfl⟩) (by assumption) ?_
      (try simp only [Act.put, List.setIfInBounds_toArray, List.set_cons_zero, List.set_cons_succ])
      refine take_first 10 (v := undef) rfl (by kernel_rfl) (by kernel_rfl) (by kernel_rfl) (fun _ _ _ h => h) (Or.inr ⟨by rfl, rfl⟩) (by assumption) ?_
      (try simp only [Act.put, List.setIfInBounds_toArray, List.set_cons_zero, List.set_cons_succ])
      refine take_first 11 (v := undef) rfl (by kernel_rfl) (by kernel_rfl) (by kernel_rfl) (fun _ _ _ h => h) (Or.inr ⟨by rfl, rfl⟩) (by assumption) ?_
      (try simp only [Act.put, List.setIfInBounds_toArray, List.set_cons_zero, List.set_cons_succ])
      refine take_first 12 (v := undef) rfl (by kernel_rfl) (by kernel_rfl) (by kernel_rfl) (fun _ _ _ h => h) (Or.inr ⟨by rfl, rfl⟩) (by assumption) ?_
      (try simp only [Act.put, List.setIfInBounds_toArray, List.set_cons_zero, List.set_cons_succ])
      refine take_first 13 (v := undef) rfl (by kernel_rfl) (by kernel_rfl) (by kernel_rfl) (fun _ _ _ h => h) (Or.inr ⟨by rfl, rfl⟩) (by assumption) ?_
      (try simp only [Act.put, List.setIfInBounds_toArray, List.set_cons_zero, List.set_cons_succ])
      refine take_first 14 (v := undef) rfl (by kernel_rfl) (by kernel_rfl) (by kernel_rfl) (fun _ _ _ h => h) (Or.inr ⟨by rfl, rfl⟩) (by assumption) ?_
      (try simp only [Act.put, List.setIfInBounds_toArray, List.set_cons_zero, List.set_cons_succ])
      refine take_first 15 (v := undef) rfl (by kernel_rfl) (by kernel_rfl) (by kernel_rfl) (fun _ _ _ h => h) (Or.inr ⟨by rfl, rfl⟩) (by assumption) ?_
      (try simp only [Act.put, List.setIfInBounds_toArray, List.set_cons_zero, List.set_cons_succ])
      refine tk 16 rfl (fun wx ⟨⟨a1, a2⟩, a3, a4, a5, a6⟩ => by go_simp; try with_reducible rfl) ?_
      refine tk 17 rfl (fun wx ⟨⟨a1, a2⟩, a3, a4, a5, a6⟩ => by go_simp; try with_reducible rfl) ?_
      refine take_first 18 (v := undef) rfl (by kernel_rfl) (by kernel_rfl) (by kernel_rfl) (fun _ _ _ h => h) (Or.inr ⟨by rfl, rfl⟩) (by assumption) ?_
      (try simp only [Act.put, List.setIfInBounds_toArray, List.set_cons_zero, List.set_cons_succ])
      refine take_first 19 (v := undef) rfl (by kernel_rfl) (by kernel_rfl) (by kernel_rfl) (fun _ _ _ h => h) (Or.inr ⟨by rfl, rfl⟩) (by assumption) ?_
      (try simp only [Act.put, List.setIfInBounds_toArray, List.set_cons_zero, List.set_cons_succ])
      refine take_first 20 (v := undef) rfl (by kernel_rfl) (by kernel_rfl) (by kernel_rfl) (fun _ _ _ h => h) (Or.inr ⟨by rfl, rfl⟩) (by assumption) ?_
      (try simp only [Act.put, List.setIfInBounds_toArray, List.set_cons_zero, List.set_cons_succ])
      refine take_first 21 (v := undef) rfl (by kernel_rfl) (by kernel_rfl) (by kernel_rfl) (fun _ _ _ h => h) (Or.inr ⟨by rfl, rfl⟩) (by assumption) ?_
      (try simp only [Act.put, List.setIfInBounds_toArray, List.set_cons_zero, List.set_cons_succ])
      refine take_first 22 (v := undef) rfl (by kernel_rfl) (by kernel_rfl) (by kernel_rfl) (fun _ _ _ h => h) (Or.inr ⟨by rfl, rfl⟩) (by assumption) ?_
      (try simp only [Act.put, List.setIfInBounds_toArray, List.set_cons_zero, List.set_cons_succ])
      refine tk 23 rfl (fun wx ⟨⟨a1, a2⟩, a3, a4, a5, a6⟩ => by go_simp; try with_reducible rfl) ?_
      refine wpAnyH_done (by kernel_rfl) ?_ _
      refine NoPanic.normal ?_
      clear hS3
      go_wp2
      go_end0
      exact ⟨rfl, some p, by rw [HR.out]; exact HE.out.1, HE.out.2⟩
    | false =>
      rw [hg] at ha
      by_cases hid : Fr.id = P.id
      · rw [show decide (Fr.id = P.id) = true by simpa using hid] at hq
        cases hv : decide (vlt Fr.id Fr.prom) with
        | true =>
          rw [hv] at hab
          have HR : Hid (R = { M.rise Fr.promN with own := none }) := by unfold Hid; rw [← hR]; exact refused_drop hM ⟨hg, hid, by simpa using hv⟩
          clear hM hg hR hid hv
          go_wp2_with fail
          refine wp_region_noPanic ?_
          refine wp_region_held_drew (S := fun wx => (wx.cell? ⟨p, 0, none⟩ = some (.int .u64 (P.id.1 : Nat)) ∧ wx.cell? ⟨p, 1, none⟩ = some (.int .i64 P.id.2)) ∧ (wx.cell? ⟨w.heap.size, 2, none⟩ = some (.int .u64 (Fr.idN : Nat)) ∧ wx.cell? ⟨w.heap.size, 3, none⟩ = some (.int .i64 Fr.idP) ∧ wx.cell? ⟨w.heap.size, 7, none⟩ = some (.int .u64 (Fr.promN : Nat)) ∧ wx.cell? ⟨w.heap.size, 8, none⟩ = some (.int .i64 Fr.promP))) (by kernel_rfl) hS2 (fun hHeld => ?_)
          refine tk 0 rfl (fun wx ⟨⟨a1, a2⟩, a3, a4, a5, a6⟩ => by go_simp; try with_reducible rfl) ?_
          refine tk 1 rfl (fun wx ⟨⟨a1, a2⟩, a3, a4, a5, a6⟩ => by go_simp; try with_reducible rfl) ?_
          refine tk 2 rfl (fun wx ⟨⟨a1, a2⟩, a3, a4, a5, a6⟩ => by go_simp; try with_reducible rfl) ?_
          refine tk 3 rfl (fun wx ⟨⟨a1, a2⟩, a3, a4, a5, a6⟩ => by go_simp; try with_reducible rfl) ?_
          refine comes_up 4 rfl (by kernel_rfl) (fun K hK => ?_)
          go_simp
          refine ha.mono ?_
          rintro e w3 ⟨rfl, u3⟩
          have hS3 := HKP.out w3 u3.bl
          clear ha hS2
          go_wp2_with fail
          refine hK.out _ _ hS3 (fun hHeld => ?_)
          clear hK K
          (try simp only [Act.put, List.setIfInBounds_toArray, List.set_cons_zero, List.set_cons_succ])
          refine tk 5 rfl (fun wx ⟨⟨a1, a2⟩, a3, a4, a5, a6⟩ => by go_simp; try with_reducible rfl) ?_
          refine tk 6 rfl (fun wx ⟨⟨a1, a2⟩, a3, a4, a5, a6⟩ => by go_simp; try with_reducible rfl) ?_
          refine tk 7 rfl (fun wx ⟨⟨a1, a2⟩, a3, a4, a5, a6⟩ => by go_simp; try with_reducible rfl) ?_
          refine tk 8 rfl (fun wx ⟨⟨a1, a2⟩, a3, a4, a5, a6⟩ => by go_simp; try with_reducible rfl) ?_
          refine tk 9 rfl (fun wx ⟨⟨a1, a2⟩, a3, a4, a5, a6⟩ => by go_simp; try with_reducible rfl) ?_
          refine tk 10 rfl (fun wx ⟨⟨a1, a2⟩, a3, a4, a5, a6⟩ => by go_simp; try with_reducible rfl) ?_
          refine tk 11 rfl (fun wx ⟨⟨a1, a2⟩, a3, a4, a5, a6⟩ => by go_simp; try with_reducible rfl) ?_
          refine tk 12 rfl (fun wx ⟨⟨a1, a2⟩, a3, a4, a5, a6⟩ => by go_simp; try with_reducible rfl) ?_
          refine tk 13 rfl (fun wx ⟨⟨a1, a2⟩, a3, a4, a5, a6⟩ => by go_simp; try with_reducible rfl) ?_
          refine tk 14 rfl (fun wx ⟨⟨a1, a2⟩, a3, a4, a5, a6⟩ => by go_simp; try with_reducible rfl) ?_
          refine tk 15 rfl (fun wx ⟨⟨a1, a2⟩, a3, a4, a5, a6⟩ => by go_simp; try with_reducible rfl) ?_
          refine tk 16 rfl (fun wx ⟨⟨a1, a2⟩, a3, a4, a5, a6⟩ => by go_simp; try with_reducible rfl) ?_
          refine tk 17 rfl (fun wx ⟨⟨a1, a2⟩, a3, a4, a5, a6⟩ => by go_simp; try with_reducible rfl) ?_
          refine tk 18 rfl (fun wx ⟨⟨a1, a2⟩, a3, a4, a5, a6⟩ => by go_simp; try with_reducible rfl) ?_
          refine tk 19 rfl (fun wx ⟨⟨a1, a2⟩, a3, a4, a5, a6⟩ => by go_simp; try with_reducible rfl) ?_
          refine tk 20 rfl (fun wx ⟨⟨a1, a2⟩, a3, a4, a5, a6⟩ => by go_simp; try with_reducible rfl) ?_
          refine tk 21 rfl (fun wx ⟨⟨a1, a2⟩, a3, a4, a5, a6⟩ => by go_simp; try with_reducible rfl) ?_
          refine comes_up 22 rfl (by kernel_rfl) (fun K hK => ?_)
          go_simp
          refine (hab _).mono ?_
          rintro e w4 ⟨rfl, u4⟩
          have b4 := bl_step u3.bl u4.bl
          have hS4 := HKP.out w4 b4
          have h4 := HF.out w4 b4
          have e8 := h4.1.cell 8 (by omega)
          unfold mcell ptr at e8
          have f8 := h4.1.fr 8
          have HE : Hid (Mb (w4.setCell ⟨q, 8, none⟩ (.pointer none)) F Z q { M.rise Fr.promN with own := none } none ∧ Sp w F Z (w4.setCell ⟨q, 8, none⟩ (.pointer none)) F Z) := ⟨h4.1.dropOwn, h4.2.setq h4.1.fq _ _⟩
          clear u3 u4 b4 HKP HF hab h4 hS3
          go_wp2_with fail
          refine hK.out _ _ hS4 (fun hHeld => ?_)
          clear hK K
          (try simp only [Act.put, List.setIfInBounds_toArray, List.set_cons_zero, List.set_cons_succ])
          refine tk 23 rfl (fun wx ⟨⟨a1, a2⟩, a3, a4, a5, a6⟩ => by go_simp; try with_reducible rfl) ?_
          refine wpAnyH_done (by kernel_rfl) ?_ _
          refine NoPanic.normal ?_
          clear hS4
          go_wp2
          go_end0
          exact ⟨rfl, none, by rw [HR.out]; exact HE.out.1, HE.out.2⟩
        | false =>
          rw [hv] at hab
          have HR : Hid (R = M.rise Fr.promN) := by unfold Hid; rw [← hR]; exact refused_stay hM (fun hh => by have := hh.2.2; simp [this] at hv)
          clear hM hg hR hid hv
          go_wp2_with fail
          refine wp_region_noPanic ?_
          refine wp_region_held_drew (S := fun wx => (wx.cell? ⟨p, 0, none⟩ = some (.int .u64 (P.id.1 : Nat)) ∧ wx.cell? ⟨p, 1, none⟩ = some (.int .i64 P.id.2)) ∧ (wx.cell? ⟨w.heap.size, 2, none⟩ = some (.int .u64 (Fr.idN : Nat)) ∧ wx.cell? ⟨w.heap.size, 3, none⟩ = some (.int .i64 Fr.idP) ∧ wx.cell? ⟨w.heap.size, 7, none⟩ = some (.int .u64 (Fr.promN : Nat)) ∧ wx.cell? ⟨w.heap.size, 8, none⟩ = some (.int .i64 Fr.promP))) (by kernel_rfl) hS2 (fun hHeld => ?_)
          refine tk 0 rfl (fun wx ⟨⟨a1, a2⟩, a3, a4, a5, a6⟩ => by go_simp; try with_reducible rfl) ?_
          refine tk 1 rfl (fun wx ⟨⟨a1, a2⟩, a3, a4, a5, a6⟩ => by go_simp; try with_reducible rfl) ?_
          refine tk 2 rfl (fun wx ⟨⟨a1, a2⟩, a3, a4, a5, a6⟩ => by go_simp; try with_reducible rfl) ?_
          refine tk 3 rfl (fun wx ⟨⟨a1, a2⟩, a3, a4, a5, a6⟩ => by go_simp; try with_reducible rfl) ?_
          refine comes_up 4 rfl (by kernel_rfl) (fun K hK => ?_)
          go_simp
          refine ha.mono ?_
          rintro e w3 ⟨rfl, u3⟩
          have hS3 := HKP.out w3 u3.bl
          clear ha hS2
          go_wp2_with fail
          refine hK.out _ _ hS3 (fun hHeld => ?_)
          clear hK K
          (try simp only [Act.put, List.setIfInBounds_toArray, List.set_cons_zero, List.set_cons_succ])
          refine tk 5 rfl (fun wx ⟨⟨a1, a2⟩, a3, a4, a5, a6⟩ => by go_simp; try with_reducible rfl) ?_
          refine tk 6 rfl (fun wx ⟨⟨a1, a2⟩, a3, a4, a5, a6⟩ => by go_simp; try with_reducible rfl) ?_
          refine tk 7 rfl (fun wx ⟨⟨a1, a2⟩, a3, a4, a5, a6⟩ => by go_simp; try with_reducible rfl) ?_
          refine tk 8 rfl (fun wx ⟨⟨a1, a2⟩, a3, a4, a5, a6⟩ => by go_simp; try with_reducible rfl) ?_
          refine tk 9 rfl (fun wx ⟨⟨a1, a2⟩, a3, a4, a5, a6⟩ => by go_simp; try with_reducible rfl) ?_
          refine tk 10 rfl (fun wx ⟨⟨a1, a2⟩, a3, a4, a5, a6⟩ => by go_simp; try with_reducible rfl) ?_
          refine tk 11 rfl (fun wx ⟨⟨a1, a2⟩, a3, a4, a5, a6⟩ => by go_simp; try with_reducible rfl) ?_
          refine tk 12 rfl (fun wx ⟨⟨a1, a2⟩, a3, a4, a5, a6⟩ => by go_simp; try with_reducible rfl) ?_
          refine tk 13 rfl (fun wx ⟨⟨a1, a2⟩, a3, a4, a5, a6⟩ => by go_simp; try with_reducible rfl) ?_
          refine tk 14 rfl (fun wx ⟨⟨a1, a2⟩, a3, a4, a5, a6⟩ => by go_simp; try with_reducible rfl) ?_
          refine tk 15 rfl (fun wx ⟨⟨a1, a2⟩, a3, a4, a5, a6⟩ => by go_simp; try with_reducible rfl) ?_
          refine tk 16 rfl (fun wx ⟨⟨a1, a2⟩, a3, a4, a5, a6⟩ => by go_simp; try with_reducible rfl) ?_
          refine tk 17 rfl (fun wx ⟨⟨a1, a2⟩, a3, a4, a5, a6⟩ => by go_simp; try with_reducible rfl) ?_
          refine tk 18 rfl (fun wx ⟨⟨a1, a2⟩, a3, a4, a5, a6⟩ => by go_simp; try with_reducible rfl) ?_
          refine tk 19 rfl (fun wx ⟨⟨a1, a2⟩, a3, a4, a5, a6⟩ => by go_simp; try with_reducible rfl) ?_
          refine tk 20 rfl (fun wx ⟨⟨a1, a2⟩, a3, a4, a5, a6⟩ => by go_simp; try with_reducible rfl) ?_
          refine tk 21 rfl (fun wx ⟨⟨a1, a2⟩, a3, a4, a5, a6⟩ => by go_simp; try with_reducible rfl) ?_
          refine comes_up 22 rfl (by kernel_rfl) (fun K hK => ?_)
          go_simp
          refine (hab _).mono ?_
          rintro e w4 ⟨rfl, u4⟩
          have b4 := bl_step u3.bl u4.bl
          have hS4 := HKP.out w4 b4
          have HE : Hid (Mb w4 F Z q (M.rise Fr.promN) (some p) ∧ Sp w F Z w4 F Z) := HF.out w4 b4
          clear u3 u4 b4 HKP HF hab hS3
          go_wp2_with fail
          refine hK.out _ _ hS4 (fun hHeld => ?_)
          clear hK K
          (try simp only [Act.put, List.setIfInBounds_toArray, List.set_cons_zero, List.set_cons_succ])
          refine tk 23 rfl (fun wx ⟨⟨a1, a2⟩, a3, a4, a5, a6⟩ => by go_simp; try with_reducible rfl) ?_
          refine wpAnyH_done (by kernel_rfl) ?_ _
          refine NoPanic.normal ?_
          clear hS4
          go_wp2
          go_end0
          exact ⟨rfl, some p, by rw [HR.out]; exact HE.out.1, HE.out.2⟩
      · rw [show decide (Fr.id = P.id) = false by simpa using hid] at hq
        have HR : Hid (R = M.rise Fr.promN) := by unfold Hid; rw [← hR]; exact refused_stay hM (fun hh => hid hh.2.1)
        clear hM hg hR hid hab
        go_wp2_with fail
        refine wp_region_noPanic ?_
        refine wp_region_held_drew (S := fun wx => (wx.cell? ⟨p, 0, none⟩ = some (.int .u64 (P.id.1 : Nat)) ∧ wx.cell? ⟨p, 1, none⟩ = some (.int .i64 P.id.2)) ∧ (wx.cell? ⟨w.heap.size, 2, none⟩ = some (.int .u64 (Fr.idN : Nat)) ∧ wx.cell? ⟨w.heap.size, 3, none⟩ = some (.int .i64 Fr.idP) ∧ wx.cell? ⟨w.heap.size, 7, none⟩ = some (.int .u64 (Fr.promN : Nat)) ∧ wx.cell? ⟨w.heap.size, 8, none⟩ = some (.int .i64 Fr.promP))) (by kernel_rfl) hS2 (fun hHeld => ?_)
        refine tk 0 rfl (fun wx ⟨⟨a1, a2⟩, a3, a4, a5, a6⟩ => by go_simp; try with_reducible rfl) ?_
        refine tk 1 rfl (fun wx ⟨⟨a1, a2⟩, a3, a4, a5, a6⟩ => by go_simp; try with_reducible rfl) ?_
        refine tk 2 rfl (fun wx ⟨⟨a1, a2⟩, a3, a4, a5, a6⟩ => by go_simp; try with_reducible rfl) ?_
        refine tk 3 rfl (fun wx ⟨⟨a1, a2⟩, a3, a4, a5, a6⟩ => by go_simp; try with_reducible rfl) ?_
        refine comes_up 4 rfl (by kernel_rfl) (fun K hK => ?_)
        go_simp
        refine ha.mono ?_
        rintro e w3 ⟨rfl, u3⟩
        have hS3 := HKP.out w3 u3.bl
        have HE : Hid (Mb w3 F Z q (M.rise Fr.promN) (some p) ∧ Sp w F Z w3 F Z) := HF.out w3 u3.bl
        clear ha u3 HKP HF hS2
        go_wp2_with fail
        refine hK.out _ _ hS3 (fun hHeld => ?_)
        clear hK K
        (try simp only [Act.put, List.setIfInBounds_toArray, List.set_cons_zero, List.set_cons_succ])
        refine tk 5 rfl (fun wx ⟨⟨a1, a2⟩, a3, a4, a5, a6⟩ => by go_simp; try with_reducible rfl) ?_
        refine tk 6 rfl (fun wx ⟨⟨a1, a2⟩, a3, a4, a5, a6⟩ => by go_simp; try with_reducible rfl) ?_
        refine tk 7 rfl (fun wx ⟨⟨a1, a2⟩, a3, a4, a5, a6⟩ => by go_simp; try with_reducible rfl) ?_
        refine tk 8 rfl (fun wx ⟨⟨a1, a2⟩, a3, a4, a5, a6⟩ => by go_simp; try with_reducible rfl) ?_
        refine tk 9 rfl (fun wx ⟨⟨a1, a2⟩, a3, a4, a5, a6⟩ => by go_simp; try with_reducible rfl) ?_
        refine tk 10 rfl (fun wx ⟨⟨a1, a2⟩, a3, a4, a5, a6⟩ => by go_simp; try with_reducible rfl) ?_
        refine tk 11 rfl (fun wx ⟨⟨a1, a2⟩, a3, a4, a5, a6⟩ => by go_simp; try with_reducible rfl) ?_
        refine tk 12 rfl (fun wx ⟨⟨a1, a2⟩, a3, a4, a5, a6⟩ => by go_simp; try with_reducible rfl) ?_
        refine tk 13 rfl (fun wx ⟨⟨a1, a2⟩, a3, a4, a5, a6⟩ => by go_simp; try with_reducible rfl) ?_
        refine tk 14 rfl (fun wx ⟨⟨a1, a2⟩, a3, a4, a5, a6⟩ => by go_simp; try with_reducible rfl) ?_
        refine tk 15 rfl (fun wx ⟨⟨a1, a2⟩, a3, a4, a5, a6⟩ => by go_simp; try with_reducible rfl) ?_
        refine tk 16 rfl (fun wx ⟨⟨a1, a2⟩, a3, a4, a5, a6⟩ => by go_simp; try with_reducible rfl) ?_
        refine tk 17 rfl (fun wx ⟨⟨a1, a2⟩, a3, a4, a5, a6⟩ => by go_simp; try with_reducible rfl) ?_
        refine take_first 18 (v := undef) rfl (by kernel_rfl) (by kernel_rfl) (by kernel_rfl) (fun _ _ _ h => h) (Or.inr ⟨by rfl, rfl⟩) (by assumption) ?_
        (try simp only [Act.put, List.setIfInBounds_toArray, List.set_cons_zero, List.set_cons_succ])
        refine take_first 19 (v := undef) rfl (by kernel_rfl) (by kernel_rfl) (by kernel_rfl) (fun _ _ _ h => h) (Or.inr ⟨by rfl, rfl⟩) (by assumption) ?_
        (try simp only [Act.put, List.setIfInBounds_toArray, List.set_cons_zero, List.set_cons_succ])
        refine take_first 20 (v := undef) rfl (by kernel_rfl) (by kernel_rfl) (by kernel_rfl) (fun _ _ _ h => h) (Or.inr ⟨by rfl, rfl⟩) (by assumption) ?_
        (try simp only [Act.put, List.setIfInBounds_toArray, List.set_cons_zero, List.set_cons_succ])
        refine take_first 21 (v := undef) rfl (by kernel_rfl) (by kernel_rfl) (by kernel_rfl) (fun _ _ _ h => h) (Or.inr ⟨by rfl, rfl⟩) (by assumption) ?_
        (try simp only [Act.put, List.setIfInBounds_toArray, List.set_cons_zero, List.set_cons_succ])
        refine take_first 22 (v := undef) rfl (by kernel_rfl) (by kernel_rfl) (by kernel_rfl) (fun _ _ _ h => h) (Or.inr ⟨by rfl, rfl⟩) (by assumption) ?_
        (try simp only [Act.put, List.setIfInBounds_toArray, List.set_cons_zero, List.set_cons_succ])
        refine tk 23 rfl (fun wx ⟨⟨a1, a2⟩, a3, a4, a5, a6⟩ => by go_simp; try with_reducible rfl) ?_
        refine wpAnyH_done (by kernel_rfl) ?_ _
        refine NoPanic.normal ?_
        clear hS3
        go_wp2
        go_end0
        exact ⟨rfl, some p, by rw [HR.out]; exact HE.out.1, HE.out.2⟩
end
end Go.Proofs.YtlonbbepoamnmaaDoor
