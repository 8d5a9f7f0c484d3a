/-
  A frame has come (Member.In).
-/
import Derived.Test.YtlonbbepoamnmaaDoorMIn5
namespace Go.Proofs.YtlonbbepoamnmaaDoor
open Go.RowKit
set_option linter.unusedVariables false
theorem in_nil (w : World) (Fr : PF) (a : Fa) (x : Sx) : Calls Tryd.prog 18 #[.pointer none, fval Fr a, sta x] w fun e w' => e = .returned (.tuple #[.slice none 0 0, .pointer none, .int .i64 6]) ∧ Below w.heap.size w w' := by
  unfold fval fcells sta
  go_enter Tryd.func18, Tryd.ntmps18
  go_wp2
  go_ret3
  exact ⟨rfl, bl2 _ _ _⟩
theorem committed_outs {M : Mm} {Fr : PF} : (M.committed Fr).outs = [] := by unfold Mm.committed; split <;> rfl
section
variable {w : World} {F Z : Nat → Prop} {q p : Nat} {M : Mm} {P : Pp} {o : Option Nat}

set_option maxRecDepth 20000 in
set_option maxHeartbeats 4000000 in
theorem in_any (h : Mb w F Z q M o) (Fr : PF) (a : Fa) (hss : Ss Z w a.so Fr.st.length Fr.st) (hst : Fr.st.length ≤ 2932031007402) (hset : Fr.set < 65536) (x : Sx) (d : Sd) (hd : Si Z w x d) : Calls Tryd.prog 18 #[.pointer (some ⟨q, 0, none⟩), fval Fr a, sta x] w fun e w' => AccPost w F Z q (M.inn Fr d) e w' := by
  have hpow : 2 ^ M.n ≤ 65536 := Nat.pow_le_pow_right (by omega) h.n16
  have hpos := Nat.one_le_two_pow (n := M.n)
  obtain ⟨w2, hw2⟩ : ∃ w2, (w.alloc (.cells (fcells Fr a) 43)).alloc (.cells #[.int .u64 (x.1 : Nat), .int .i64 x.2.1, .int .i64 x.2.2.1, .slice x.2.2.2.1 x.2.2.2.2.1 x.2.2.2.2.2] 45) = w2 := ⟨_, rfl⟩
  have hb2 : Below w.heap.size w w2 := by rw [← hw2]; exact bl2 _ _ _
  have h2 := h.still hb2
  have hB : w2.drew.heap[w.heap.size]? = some (.cells (fcells Fr a) 43 (0, 0)) := by
    show w2.heap[w.heap.size]? = _
    rw [← hw2, Below.heap_alloc _ _ _ (by simp)]; exact heap_alloc_new _ _
  have hC : w2.drew.heap[w.heap.size + 1]? = some (.cells #[.int .u64 (x.1 : Nat), .int .i64 x.2.1, .int .i64 x.2.2.1, .slice x.2.2.2.1 x.2.2.2.2.1 x.2.2.2.2.2] 45 (0, 0)) := by
    have := heap_alloc_new (w.alloc (.cells (fcells Fr a) 43)) (.cells #[.int .u64 (x.1 : Nat), .int .i64 x.2.1, .int .i64 x.2.2.1, .slice x.2.2.2.1 x.2.2.2.2.1 x.2.2.2.2.2] 45)
    show w2.heap[w.heap.size + 1]? = _
    rw [← hw2]
    simpa using this
  have hS : Pr w.heap.size q Fr M w2.drew := pr_of (h2.still ((Below.refl _ w2).drew)) hB
  have hwo := fun W => without_any W (2 ^ M.n - 1) (by omega) ((M.self : Nat) : Int)
  have hw16 := withoutN_lt (2 ^ M.n - 1) (by omega) ((M.self : Nat) : Int)
  have hha := fun W => has_any W (withoutN (2 ^ M.n - 1) ((M.self : Nat) : Int)) hw16 Fr.frm
  have HM : Hid (Mb w2.drew F Z q M o ∧ Sp w F Z w2.drew F Z ∧ True ∧ Ss Z w2.drew a.so Fr.st.length Fr.st ∧ Si Z w2.drew x d) := ⟨h2.still ((Below.refl _ _).drew), (Sp.still hb2 h.zl).trans (Sp.still ((Below.refl _ _).drew) h2.zl), trivial, (hss.keep (Kp.up hb2)).keep (Kp.up ((Below.refl _ w2).drew)), (hd.keep (Kp.up hb2)).keep (Kp.up ((Below.refl _ w2).drew))⟩
  have HM2 : Hid True := trivial
  obtain ⟨R, hR⟩ : ∃ R, M.inn Fr d = R := ⟨_, rfl⟩
  have HRR : Hid (R = if hasN (withoutN (2 ^ M.n - 1) (M.self : Nat)) Fr.frm = false then (⟨M, [], none, 1⟩ : Res) else if Fr.kind = 1 then ⟨M.beat Fr, [], none, 0⟩ else if Fr.kind = 2 then M.proposed Fr d else if Fr.kind = 3 then M.accepted Fr else if Fr.kind = 4 then ⟨M.refused Fr, [], none, 0⟩ else if Fr.kind = 5 then M.committed Fr else ⟨M, [], none, 3⟩) := by unfold Hid; rw [← hR]; rfl
  have c0 : w2.drew.cell? ⟨w.heap.size, 0, none⟩ = some (.int .u8 (Fr.kind : Nat)) := heap_cell (j := 0) hB rfl
  rw [hR]
  unfold fval
  unfold sta
  have HW : Hid ((w.alloc (.cells (fcells Fr a) 43)).alloc (.cells #[.int .u64 (x.1 : Nat), .int .i64 x.2.1, .int .i64 x.2.2.1, .slice x.2.2.2.1 x.2.2.2.2.1 x.2.2.2.2.2] 45) = w2) := hw2
  have HW2 := HW.out
  unfold fcells at HW2 hB ⊢
  replace HW : Hid _ := HW2
  clear HW2 h h2 hb2 hw2 hd hpow hpos hss hw16 hR
  cases hin0 : hasN (withoutN (2 ^ M.n - 1) ((M.self : Nat) : Int)) Fr.frm with
  | false =>
    rw [hin0] at hha
    have HRe : Hid (R = ⟨M, [], none, 1⟩) := by unfold Hid; rw [HRR.out, if_pos hin0]
    have HE : Hid (AccPost w F Z q R (.returned (.tuple #[.slice none 0 0, .pointer none, .int .i64 1])) w2.drew) := by
      rw [HRe.out]
      exact ⟨_, _, rfl, F, Z, o, HM.out.2.1, HM.out.1, OutsIs.nil _ _, rfl⟩
    clear HRR hin0 hC hB HM HM2 HRe c0
    generalize withoutN (2 ^ M.n - 1) ((M.self : Nat) : Int) = s1 at *
    go_enter Tryd.func18, Tryd.ntmps18
    go_wp2_with fail
    rw [HW.out]
    clear HW
    refine wp_region_noPanic ?_
    refine wp_region_held_drew (S := fun wx => Pr w.heap.size q Fr M wx) (by kernel_rfl) hS (fun hHeld => ?_)
    refine tk 0 rfl (fun wx ⟨a1, a2, a3, a4, a5, a6, a7, a8, a9, a10⟩ => by go_simp; try with_reducible rfl) ?_
    refine tk 1 rfl (fun wx ⟨a1, a2, a3, a4, a5, a6, a7, a8, a9, a10⟩ => by go_simp; try with_reducible rfl) ?_
    refine tk 2 rfl (fun wx ⟨a1, a2, a3, a4, a5, a6, a7, a8, a9, a10⟩ => by go_simp; try with_reducible rfl) ?_
    refine tk 3 rfl (fun wx ⟨a1, a2, a3, a4, a5, a6, a7, a8, a9, a10⟩ => by go_simp; try with_reducible rfl) ?_
    refine tk 4 rfl (fun wx ⟨a1, a2, a3, a4, a5, a6, a7, a8, a9, a10⟩ => by go_simp; try with_reducible rfl) ?_
    refine tk 5 rfl (fun wx ⟨a1, a2, a3, a4, a5, a6, a7, a8, a9, a10⟩ => by go_simp; try with_reducible rfl) ?_
    refine tk 6 rfl (fun wx ⟨a1, a2, a3, a4, a5, a6, a7, a8, a9, a10⟩ => by go_simp; try with_reducible rfl) ?_
    refine tk 7 rfl (fun wx ⟨a1, a2, a3, a4, a5, a6, a7, a8, a9, a10⟩ => by go_simp; try with_reducible rfl) ?_
    refine tk 9 rfl (fun wx ⟨a1, a2, a3, a4, a5, a6, a7, a8, a9, a10⟩ => by go_simp; try with_reducible rfl) ?_
    refine tk 10 rfl (fun wx ⟨a1, a2, a3, a4, a5, a6, a7, a8, a9, a10⟩ => by go_simp; try with_reducible rfl) ?_
    refine comes_up 8 rfl (by kernel_rfl) (fun K hK => ?_)
    go_simp
    refine (hwo _).mono ?_
    rintro e w0 ⟨rfl, rfl⟩
    go_wp2_with fail
    refine hK.out _ _ hS (fun hHeld => ?_)
    clear hK K
    (try simp only [Act.put, List.setIfInBounds_toArray, List.set_cons_zero, List.set_cons_succ])
    refine comes_up 11 rfl (by kernel_rfl) (fun K hK => ?_)
    go_simp
    refine (hha _).mono ?_
    rintro e w0 ⟨rfl, rfl⟩
    go_wp2_with fail
    refine hK.out _ _ hS (fun hHeld => ?_)
    clear hK K
    (try simp only [Act.put, List.setIfInBounds_toArray, List.set_cons_zero, List.set_cons_succ])
    refine tk 12 rfl (fun wx ⟨a1, a2, a3, a4, a5, a6, a7, a8, a9, a10⟩ => by go_simp; try with_reducible rfl) ?_
    refine wpAnyH_done (by kernel_rfl) ?_ _
    refine NoPanic.normal ?_
    clear hHeld hS hwo hha
    go_wp2
    go_ret3
    exact HE.out
  | true =>
    rw [hin0] at hha
    obtain ⟨i, hi⟩ : ∃ i : Nat, Fr.frm = (i : Int) := by
      have := hin0
      unfold hasN at this
      simp only [Bool.and_eq_true, decide_eq_true_eq] at this
      exact ⟨Fr.frm.toNat, by omega⟩
    have hi16 : i < 16 := by
      have := hin0
      unfold hasN at this
      simp only [Bool.and_eq_true, decide_eq_true_eq] at this
      omega
    have HFR : Hid (Fr.frm = (i : Int)) := hi
    clear hi
    generalize withoutN (2 ^ M.n - 1) ((M.self : Nat) : Int) = s1 at *
    by_cases hk1 : Fr.kind = 1
    · have hk := hk1
      have HRe : Hid (R = ⟨M.beat Fr, [], none, 0⟩) := by unfold Hid; rw [HRR.out, if_neg (by rw [hin0]; simp), if_pos hk]
      have k1 : ((Fr.kind : Int) == 1) = true := by simp; omega
      have hc := beat_any (HM.out.1) Fr a i hi16 HFR.out
      unfold fval fcells at hc
      clear HRR hk hk1 hin0 hC HM2
      go_enter Tryd.func18, Tryd.ntmps18
      go_wp2_with fail
      rw [HW.out]
      clear HW
      refine wp_region_noPanic ?_
      refine wp_region_held_drew (S := fun wx => Pr w.heap.size q Fr M wx) (by kernel_rfl) hS (fun hHeld => ?_)
      refine tk 0 rfl (fun wx ⟨a1, a2, a3, a4, a5, a6, a7, a8, a9, a10⟩ => by go_simp; try with_reducible rfl) ?_
      refine tk 1 rfl (fun wx ⟨a1, a2, a3, a4, a5, a6, a7, a8, a9, a10⟩ => by go_simp; try with_reducible rfl) ?_
      refine tk 2 rfl (fun wx ⟨a1, a2, a3, a4, a5, a6, a7, a8, a9, a10⟩ => by go_simp; try with_reducible rfl) ?_
      refine tk 3 rfl (fun wx ⟨a1, a2, a3, a4, a5, a6, a7, a8, a9, a10⟩ => by go_simp; try with_reducible rfl) ?_
      refine tk 4 rfl (fun wx ⟨a1, a2, a3, a4, a5, a6, a7, a8, a9, a10⟩ => by go_simp; try with_reducible rfl) ?_
      refine tk 5 rfl (fun wx ⟨a1, a2, a3, a4, a5, a6, a7, a8, a9, a10⟩ => by go_simp; try with_reducible rfl) ?_
      refine tk 6 rfl (fun wx ⟨a1, a2, a3, a4, a5, a6, a7, a8, a9, a10⟩ => by go_simp; try with_reducible rfl) ?_
      refine tk 7 rfl (fun wx ⟨a1, a2, a3, a4, a5, a6, a7, a8, a9, a10⟩ => by go_simp; try with_reducible rfl) ?_
      refine tk 9 rfl (fun wx ⟨a1, a2, a3, a4, a5, a6, a7, a8, a9, a10⟩ => by go_simp; try with_reducible rfl) ?_
      refine tk 10 rfl (fun wx ⟨a1, a2, a3, a4, a5, a6, a7, a8, a9, a10⟩ => by go_simp; try with_reducible rfl) ?_
      refine comes_up 8 rfl (by kernel_rfl) (fun K hK => ?_)
      go_simp
      refine (hwo _).mono ?_
      rintro e w0 ⟨rfl, rfl⟩
      go_wp2_with fail
      refine hK.out _ _ hS (fun hHeld => ?_)
      clear hK K
      (try simp only [Act.put, List.setIfInBounds_toArray, List.set_cons_zero, List.set_cons_succ])
      refine comes_up 11 rfl (by kernel_rfl) (fun K hK => ?_)
      go_simp
      refine (hha _).mono ?_
      rintro e w0 ⟨rfl, rfl⟩
      go_wp2_with fail
      refine hK.out _ _ hS (fun hHeld => ?_)
      clear hK K
      (try simp only [Act.put, List.setIfInBounds_toArray, List.set_cons_zero, List.set_cons_succ])
      refine tk 12 rfl (fun wx ⟨a1, a2, a3, a4, a5, a6, a7, a8, a9, a10⟩ => by go_simp; try with_reducible rfl) ?_
      refine wpAnyH_done (by kernel_rfl) ?_ _
      refine NoPanic.normal ?_
      clear hHeld hS hwo hha
      go_wp2_with (first | (refine wpList_load_row rfl 43 (.tmp 4) rfl w.heap.size rfl 43 #[.int .u8 (Fr.kind : Nat), .int .i64 Fr.frm, .int .u64 (Fr.idN : Nat), .int .i64 Fr.idP, .int .u16 (Fr.set : Nat), .int .u64 (Fr.curN : Nat), .int .i64 Fr.curP, .int .u64 (Fr.promN : Nat), .int .i64 Fr.promP, .slice a.so Fr.st.length a.sc, .int .u64 (Fr.base : Nat), .slice a.mo Fr.ms.length a.mc, .slice a.io Fr.it.length a.ic, .int .u64 (Fr.ack : Nat), .int .u64 (Fr.safe : Nat)] (0, 0) _ hB Tryd.underlying43 rfl info43 ?_))
      refine hc.mono ?_
      rintro e w3 ⟨rfl, h3, sp3⟩
      have HE : Hid (AccPost w F Z q R (.returned (.tuple #[.slice none 0 0, .pointer none, .int .i64 0])) w3) := by
        rw [HRe.out]
        exact ⟨_, _, rfl, F, Z, o, HM.out.2.1.trans sp3, h3, OutsIs.nil _ _, rfl⟩
      clear hc h3 sp3 HM
      go_wp2
      go_ret3
      exact HE.out
    · skip
      by_cases hk2 : Fr.kind = 2
      · have hk := hk2
        have HRe : Hid (R = M.proposed Fr d) := by unfold Hid; rw [HRR.out, if_neg (by rw [hin0]; simp), if_neg (by omega), if_pos hk]
        have k1 : ((Fr.kind : Int) == 1) = false := by simp; omega
        have k2 : ((Fr.kind : Int) == 2) = true := by simp; omega
        have hc := proposed_any (HM.out.1) Fr a i HFR.out hset x d HM.out.2.2.2.2
        unfold fval fcells sta at hc
        have s0 := heap_cell (j := 0) hC rfl
        have s1 := heap_cell (j := 1) hC rfl
        have s2 := heap_cell (j := 2) hC rfl
        have s3 := heap_cell (j := 3) hC rfl
        clear HRR hk hk2 hin0 HM2
        go_enter Tryd.func18, Tryd.ntmps18
        go_wp2_with fail
        rw [HW.out]
        clear HW
        refine wp_region_noPanic ?_
        refine wp_region_held_drew (S := fun wx => Pr w.heap.size q Fr M wx) (by kernel_rfl) hS (fun hHeld => ?_)
        refine tk 0 rfl (fun wx ⟨a1, a2, a3, a4, a5, a6, a7, a8, a9, a10⟩ => by go_simp; try with_reducible rfl) ?_
        refine tk 1 rfl (fun wx ⟨a1, a2, a3, a4, a5, a6, a7, a8, a9, a10⟩ => by go_simp; try with_reducible rfl) ?_
        refine tk 2 rfl (fun wx ⟨a1, a2, a3, a4, a5, a6, a7, a8, a9, a10⟩ => by go_simp; try with_reducible rfl) ?_
        refine tk 3 rfl (fun wx ⟨a1, a2, a3, a4, a5, a6, a7, a8, a9, a10⟩ => by go_simp; try with_reducible rfl) ?_
        refine tk 4 rfl (fun wx ⟨a1, a2, a3, a4, a5, a6, a7, a8, a9, a10⟩ => by go_simp; try with_reducible rfl) ?_
        refine tk 5 rfl (fun wx ⟨a1, a2, a3, a4, a5, a6, a7, a8, a9, a10⟩ => by go_simp; try with_reducible rfl) ?_
        refine tk 6 rfl (fun wx ⟨a1, a2, a3, a4, a5, a6, a7, a8, a9, a10⟩ => by go_simp; try with_reducible rfl) ?_
        refine tk 7 rfl (fun wx ⟨a1, a2, a3, a4, a5, a6, a7, a8, a9, a10⟩ => by go_simp; try with_reducible rfl) ?_
        refine tk 9 rfl (fun wx ⟨a1, a2, a3, a4, a5, a6, a7, a8, a9, a10⟩ => by go_simp; try with_reducible rfl) ?_
        refine tk 10 rfl (fun wx ⟨a1, a2, a3, a4, a5, a6, a7, a8, a9, a10⟩ => by go_simp; try with_reducible rfl) ?_
        refine comes_up 8 rfl (by kernel_rfl) (fun K hK => ?_)
        go_simp
        refine (hwo _).mono ?_
        rintro e w0 ⟨rfl, rfl⟩
        go_wp2_with fail
        refine hK.out _ _ hS (fun hHeld => ?_)
        clear hK K
        (try simp only [Act.put, List.setIfInBounds_toArray, List.set_cons_zero, List.set_cons_succ])
        refine comes_up 11 rfl (by kernel_rfl) (fun K hK => ?_)
        go_simp
        refine (hha _).mono ?_
        rintro e w0 ⟨rfl, rfl⟩
        go_wp2_with fail
        refine hK.out _ _ hS (fun hHeld => ?_)
        clear hK K
        (try simp only [Act.put, List.setIfInBounds_toArray, List.set_cons_zero, List.set_cons_succ])
        refine tk 12 rfl (fun wx ⟨a1, a2, a3, a4, a5, a6, a7, a8, a9, a10⟩ => by go_simp; try with_reducible rfl) ?_
        refine wpAnyH_done (by kernel_rfl) ?_ _
        refine NoPanic.normal ?_
        clear hHeld hS hwo hha
        go_wp2_with (first | (refine wpList_load_row rfl 43 (.tmp 4) rfl w.heap.size rfl 43 #[.int .u8 (Fr.kind : Nat), .int .i64 Fr.frm, .int .u64 (Fr.idN : Nat), .int .i64 Fr.idP, .int .u16 (Fr.set : Nat), .int .u64 (Fr.curN : Nat), .int .i64 Fr.curP, .int .u64 (Fr.promN : Nat), .int .i64 Fr.promP, .slice a.so Fr.st.length a.sc, .int .u64 (Fr.base : Nat), .slice a.mo Fr.ms.length a.mc, .slice a.io Fr.it.length a.ic, .int .u64 (Fr.ack : Nat), .int .u64 (Fr.safe : Nat)] (0, 0) _ hB Tryd.underlying43 rfl info43 ?_))
        refine hc.mono ?_
        rintro e w3 ⟨v, rfl, F3, Z3, o3, sp3, h3, ho3, hi3⟩
        have HE : Hid (AccPost w F Z q R (.returned (.tuple #[v, .pointer none, .int .i64 ((M.proposed Fr d).err : Nat)])) w3) := by
          rw [HRe.out]
          refine ⟨_, _, rfl, F3, Z3, o3, HM.out.2.1.trans sp3, h3, ho3, ?_⟩
          cases hi : (M.proposed Fr d).inst with
          | none => rfl
          | some I => rw [hi] at hi3; obtain ⟨b, hb, _⟩ := hi3; cases hb
        clear hc h3 sp3 HM ho3 hi3
        go_wp2
        go_ret3
        exact HE.out
      · skip
        by_cases hk3 : Fr.kind = 3
        · have hk := hk3
          have HRe : Hid (R = M.accepted Fr) := by unfold Hid; rw [HRR.out, if_neg (by rw [hin0]; simp), if_neg (by omega), if_neg (by omega), if_pos hk]
          have k1 : ((Fr.kind : Int) == 1) = false := by simp; omega
          have k2 : ((Fr.kind : Int) == 2) = false := by simp; omega
          have k3 : ((Fr.kind : Int) == 3) = true := by simp; omega
          have hc := accepted_any (HM.out.1) Fr a HM.out.2.2.2.1 hst
          unfold fval fcells at hc
          clear HRR hk hk3 hin0 hC HM2
          go_enter Tryd.func18, Tryd.ntmps18
          go_wp2_with fail
          rw [HW.out]
          clear HW
          refine wp_region_noPanic ?_
          refine wp_region_held_drew (S := fun wx => Pr w.heap.size q Fr M wx) (by kernel_rfl) hS (fun hHeld => ?_)
          refine tk 0 rfl (fun wx ⟨a1, a2, a3, a4, a5, a6, a7, a8, a9, a10⟩ => by go_simp; try with_reducible rfl) ?_
          refine tk 1 rfl (fun wx ⟨a1, a2, a3, a4, a5, a6, a7, a8, a9, a10⟩ => by go_simp; try with_reducible rfl) ?_
          refine tk 2 rfl (fun wx ⟨a1, a2, a3, a4, a5, a6, a7, a8, a9, a10⟩ => by go_simp; try with_reducible rfl) ?_
          refine tk 3 rfl (fun wx ⟨a1, a2, a3, a4, a5, a6, a7, a8, a9, a10⟩ => by go_simp; try with_reducible rfl) ?_
          refine tk 4 rfl (fun wx ⟨a1, a2, a3, a4, a5, a6, a7, a8, a9, a10⟩ => by go_simp; try with_reducible rfl) ?_
          refine tk 5 rfl (fun wx ⟨a1, a2, a3, a4, a5, a6, a7, a8, a9, a10⟩ => by go_simp; try with_reducible rfl) ?_
          refine tk 6 rfl (fun wx ⟨a1, a2, a3, a4, a5, a6, a7, a8, a9, a10⟩ => by go_simp; try with_reducible rfl) ?_
          refine tk 7 rfl (fun wx ⟨a1, a2, a3, a4, a5, a6, a7, a8, a9, a10⟩ => by go_simp; try with_reducible rfl) ?_
          refine tk 9 rfl (fun wx ⟨a1, a2, a3, a4, a5, a6, a7, a8, a9, a10⟩ => by go_simp; try with_reducible rfl) ?_
          refine tk 10 rfl (fun wx ⟨a1, a2, a3, a4, a5, a6, a7, a8, a9, a10⟩ => by go_simp; try with_reducible rfl) ?_
          refine comes_up 8 rfl (by kernel_rfl) (fun K hK => ?_)
          go_simp
          refine (hwo _).mono ?_
          rintro e w0 ⟨rfl, rfl⟩
          go_wp2_with fail
          refine hK.out _ _ hS (fun hHeld => ?_)
          clear hK K
          (try simp only [Act.put, List.setIfInBounds_toArray, List.set_cons_zero, List.set_cons_succ])
          refine comes_up 11 rfl (by kernel_rfl) (fun K hK => ?_)
          go_simp
          refine (hha _).mono ?_
          rintro e w0 ⟨rfl, rfl⟩
          go_wp2_with fail
          refine hK.out _ _ hS (fun hHeld => ?_)
          clear hK K
          (try simp only [Act.put, List.setIfInBounds_toArray, List.set_cons_zero, List.set_cons_succ])
          refine tk 12 rfl (fun wx ⟨a1, a2, a3, a4, a5, a6, a7, a8, a9, a10⟩ => by go_simp; try with_reducible rfl) ?_
          refine wpAnyH_done (by kernel_rfl) ?_ _
          refine NoPanic.normal ?_
          clear hHeld hS hwo hha
          go_wp2_with (first | (refine wpList_load_row rfl 43 (.tmp 4) rfl w.heap.size rfl 43 #[.int .u8 (Fr.kind : Nat), .int .i64 Fr.frm, .int .u64 (Fr.idN : Nat), .int .i64 Fr.idP, .int .u16 (Fr.set : Nat), .int .u64 (Fr.curN : Nat), .int .i64 Fr.curP, .int .u64 (Fr.promN : Nat), .int .i64 Fr.promP, .slice a.so Fr.st.length a.sc, .int .u64 (Fr.base : Nat), .slice a.mo Fr.ms.length a.mc, .slice a.io Fr.it.length a.ic, .int .u64 (Fr.ack : Nat), .int .u64 (Fr.safe : Nat)] (0, 0) _ hB Tryd.underlying43 rfl info43 ?_))
          refine hc.mono ?_
          rintro e w3 ⟨v, iv, rfl, F3, Z3, o3, sp3, h3, ho3, hi3⟩
          have HE : Hid (AccPost w F Z q R (.returned (.tuple #[v, iv, .int .i64 ((M.accepted Fr).err : Nat)])) w3) := by
            rw [HRe.out]
            exact ⟨_, _, rfl, F3, Z3, o3, HM.out.2.1.trans sp3, h3, ho3, hi3⟩
          clear hc h3 sp3 HM ho3 hi3
          go_wp2
          go_ret3
          exact HE.out
        · skip
          by_cases hk4 : Fr.kind = 4
          · have hk := hk4
            have HRe : Hid (R = ⟨M.refused Fr, [], none, 0⟩) := by unfold Hid; rw [HRR.out, if_neg (by rw [hin0]; simp), if_neg (by omega), if_neg (by omega), if_neg (by omega), if_pos hk]
            have k1 : ((Fr.kind : Int) == 1) = false := by simp; omega
            have k2 : ((Fr.kind : Int) == 2) = false := by simp; omega
            have k3 : ((Fr.kind : Int) == 3) = false := by simp; omega
            have k4 : ((Fr.kind : Int) == 4) = true := by simp; omega
            have hc := refused_any (HM.out.1) Fr a
            unfold fval fcells at hc
            clear HRR hk hk4 hin0 hC HM2
            go_enter Tryd.func18, Tryd.ntmps18
            go_wp2_with fail
            rw [HW.out]
            clear HW
            refine wp_region_noPanic ?_
            refine wp_region_held_drew (S := fun wx => Pr w.heap.size q Fr M wx) (by kernel_rfl) hS (fun hHeld => ?_)
            refine tk 0 rfl (fun wx ⟨a1, a2, a3, a4, a5, a6, a7, a8, a9, a10⟩ => by go_simp; try with_reducible rfl) ?_
            refine tk 1 rfl (fun wx ⟨a1, a2, a3, a4, a5, a6, a7, a8, a9, a10⟩ => by go_simp; try with_reducible rfl) ?_
            refine tk 2 rfl (fun wx ⟨a1, a2, a3, a4, a5, a6, a7, a8, a9, a10⟩ => by go_simp; try with_reducible rfl) ?_
            refine tk 3 rfl (fun wx ⟨a1, a2, a3, a4, a5, a6, a7, a8, a9, a10⟩ => by go_simp; try with_reducible rfl) ?_
            refine tk 4 rfl (fun wx ⟨a1, a2, a3, a4, a5, a6, a7, a8, a9, a10⟩ => by go_simp; try with_reducible rfl) ?_
            refine tk 5 rfl (fun wx ⟨a1, a2, a3, a4, a5, a6, a7, a8, a9, a10⟩ => by go_simp; try with_reducible rfl) ?_
            refine tk 6 rfl (fun wx ⟨a1, a2, a3, a4, a5, a6, a7, a8, a9, a10⟩ => by go_simp; try with_reducible rfl) ?_
            refine tk 7 rfl (fun wx ⟨a1, a2, a3, a4, a5, a6, a7, a8, a9, a10⟩ => by go_simp; try with_reducible rfl) ?_
            refine tk 9 rfl (fun wx ⟨a1, a2, a3, a4, a5, a6, a7, a8, a9, a10⟩ => by go_simp; try with_reducible rfl) ?_
            refine tk 10 rfl (fun wx ⟨a1, a2, a3, a4, a5, a6, a7, a8, a9, a10⟩ => by go_simp; try with_reducible rfl) ?_
            refine comes_up 8 rfl (by kernel_rfl) (fun K hK => ?_)
            go_simp
            refine (hwo _).mono ?_
            rintro e w0 ⟨rfl, rfl⟩
            go_wp2_with fail
            refine hK.out _ _ hS (fun hHeld => ?_)
            clear hK K
            (try simp only [Act.put, List.setIfInBounds_toArray, List.set_cons_zero, List.set_cons_succ])
            refine comes_up 11 rfl (by kernel_rfl) (fun K hK => ?_)
            go_simp
            refine (hha _).mono ?_
            rintro e w0 ⟨rfl, rfl⟩
            go_wp2_with fail
            refine hK.out _ _ hS (fun hHeld => ?_)
            clear hK K
            (try simp only [Act.put, List.setIfInBounds_toArray, List.set_cons_zero, List.set_cons_succ])
            refine tk 12 rfl (fun wx ⟨a1, a2, a3, a4, a5, a6, a7, a8, a9, a10⟩ => by go_simp; try with_reducible rfl) ?_
            refine wpAnyH_done (by kernel_rfl) ?_ _
            refine NoPanic.normal ?_
            clear hHeld hS hwo hha
            go_wp2_with (first | (refine wpList_load_row rfl 43 (.tmp 4) rfl w.heap.size rfl 43 #[.int .u8 (Fr.kind : Nat), .int .i64 Fr.frm, .int .u64 (Fr.idN : Nat), .int .i64 Fr.idP, .int .u16 (Fr.set : Nat), .int .u64 (Fr.curN : Nat), .int .i64 Fr.curP, .int .u64 (Fr.promN : Nat), .int .i64 Fr.promP, .slice a.so Fr.st.length a.sc, .int .u64 (Fr.base : Nat), .slice a.mo Fr.ms.length a.mc, .slice a.io Fr.it.length a.ic, .int .u64 (Fr.ack : Nat), .int .u64 (Fr.safe : Nat)] (0, 0) _ hB Tryd.underlying43 rfl info43 ?_))
            refine hc.mono ?_
            rintro e w3 ⟨rfl, o3, h3, sp3⟩
            have HE : Hid (AccPost w F Z q R (.returned (.tuple #[.slice none 0 0, .pointer none, .int .i64 0])) w3) := by
              rw [HRe.out]
              exact ⟨_, _, rfl, F, Z, o3, HM.out.2.1.trans sp3, h3, OutsIs.nil _ _, rfl⟩
            clear hc h3 sp3 HM
            go_wp2
            go_ret3
            exact HE.out
          · skip
            by_cases hk5 : Fr.kind = 5
            · have hk := hk5
              have HRe : Hid (R = M.committed Fr) := by unfold Hid; rw [HRR.out, if_neg (by rw [hin0]; simp), if_neg (by omega), if_neg (by omega), if_neg (by omega), if_neg (by omega), if_pos hk]
              have k1 : ((Fr.kind : Int) == 1) = false := by simp; omega
              have k2 : ((Fr.kind : Int) == 2) = false := by simp; omega
              have k3 : ((Fr.kind : Int) == 3) = false := by simp; omega
              have k4 : ((Fr.kind : Int) == 4) = false := by simp; omega
              have k5 : ((Fr.kind : Int) == 5) = true := by simp; omega
              have hc := committed_any (HM.out.1) Fr a HM.out.2.2.2.1 hst hset
              unfold fval fcells at hc
              clear HRR hk hk5 hin0 hC HM2
              go_enter Tryd.func18, Tryd.ntmps18
              go_wp2_with fail
              rw [HW.out]
              clear HW
              refine wp_region_noPanic ?_
              refine wp_region_held_drew (S := fun wx => Pr w.heap.size q Fr M wx) (by kernel_rfl) hS (fun hHeld => ?_)
              refine tk 0 rfl (fun wx ⟨a1, a2, a3, a4, a5, a6, a7, a8, a9, a10⟩ => by go_simp; try with_reducible rfl) ?_
              refine tk 1 rfl (fun wx ⟨a1, a2, a3, a4, a5, a6, a7, a8, a9, a10⟩ => by go_simp; try with_reducible rfl) ?_
              refine tk 2 rfl (fun wx ⟨a1, a2, a3, a4, a5, a6, a7, a8, a9, a10⟩ => by go_simp; try with_reducible rfl) ?_
              refine tk 3 rfl (fun wx ⟨a1, a2, a3, a4, a5, a6, a7, a8, a9, a10⟩ => by go_simp; try with_reducible rfl) ?_
              refine tk 4 rfl (fun wx ⟨a1, a2, a3, a4, a5, a6, a7, a8, a9, a10⟩ => by go_simp; try with_reducible rfl) ?_
              refine tk 5 rfl (fun wx ⟨a1, a2, a3, a4, a5, a6, a7, a8, a9, a10⟩ => by go_simp; try with_reducible rfl) ?_
              refine tk 6 rfl (fun wx ⟨a1, a2, a3, a4, a5, a6, a7, a8, a9, a10⟩ => by go_simp; try with_reducible rfl) ?_
              refine tk 7 rfl (fun wx ⟨a1, a2, a3, a4, a5, a6, a7, a8, a9, a10⟩ => by go_simp; try with_reducible rfl) ?_
              refine tk 9 rfl (fun wx ⟨a1, a2, a3, a4, a5, a6, a7, a8, a9, a10⟩ => by go_simp; try with_reducible rfl) ?_
              refine tk 10 rfl (fun wx ⟨a1, a2, a3, a4, a5, a6, a7, a8, a9, a10⟩ => by go_simp; try with_reducible rfl) ?_
              refine comes_up 8 rfl (by kernel_rfl) (fun K hK => ?_)
              go_simp
              refine (hwo _).mono ?_
              rintro e w0 ⟨rfl, rfl⟩
              go_wp2_with fail
              refine hK.out _ _ hS (fun hHeld => ?_)
              clear hK K
              (try simp only [Act.put, List.setIfInBounds_toArray, List.set_cons_zero, List.set_cons_succ])
              refine comes_up 11 rfl (by kernel_rfl) (fun K hK => ?_)
              go_simp
              refine (hha _).mono ?_
              rintro e w0 ⟨rfl, rfl⟩
              go_wp2_with fail
              refine hK.out _ _ hS (fun hHeld => ?_)
              clear hK K
              (try simp only [Act.put, List.setIfInBounds_toArray, List.set_cons_zero, List.set_cons_succ])
              refine tk 12 rfl (fun wx ⟨a1, a2, a3, a4, a5, a6, a7, a8, a9, a10⟩ => by go_simp; try with_reducible rfl) ?_
              refine wpAnyH_done (by kernel_rfl) ?_ _
              refine NoPanic.normal ?_
              clear hHeld hS hwo hha
              go_wp2_with (first | (refine wpList_load_row rfl 43 (.tmp 4) rfl w.heap.size rfl 43 #[.int .u8 (Fr.kind : Nat), .int .i64 Fr.frm, .int .u64 (Fr.idN : Nat), .int .i64 Fr.idP, .int .u16 (Fr.set : Nat), .int .u64 (Fr.curN : Nat), .int .i64 Fr.curP, .int .u64 (Fr.promN : Nat), .int .i64 Fr.promP, .slice a.so Fr.st.length a.sc, .int .u64 (Fr.base : Nat), .slice a.mo Fr.ms.length a.mc, .slice a.io Fr.it.length a.ic, .int .u64 (Fr.ack : Nat), .int .u64 (Fr.safe : Nat)] (0, 0) _ hB Tryd.underlying43 rfl info43 ?_))
              refine hc.mono ?_
              rintro e w3 ⟨iv, rfl, F3, Z3, o3, sp3, h3, hi3⟩
              have HE : Hid (AccPost w F Z q R (.returned (.tuple #[.slice none 0 0, iv, .int .i64 ((M.committed Fr).err : Nat)])) w3) := by
                rw [HRe.out]
                refine ⟨_, _, rfl, F3, Z3, o3, HM.out.2.1.trans sp3, h3, ?_, hi3⟩
                rw [committed_outs]
                exact OutsIs.nil _ _
              clear hc h3 sp3 HM hi3
              go_wp2
              go_ret3
              exact HE.out
            · skip
              have HRe : Hid (R = ⟨M, [], none, 3⟩) := by unfold Hid; rw [HRR.out, if_neg (by rw [hin0]; simp), if_neg (by omega), if_neg (by omega), if_neg (by omega), if_neg (by omega), if_neg (by omega)]
              have k1 : ((Fr.kind : Int) == 1) = false := by simp; omega
              have k2 : ((Fr.kind : Int) == 2) = false := by simp; omega
              have k3 : ((Fr.kind : Int) == 3) = false := by simp; omega
              have k4 : ((Fr.kind : Int) == 4) = false := by simp; omega
              have k5 : ((Fr.kind : Int) == 5) = false := by simp; omega
              have HE : Hid (AccPost w F Z q R (.returned (.tuple #[.slice none 0 0, .pointer none, .int .i64 3])) w2.drew) := by
                rw [HRe.out]
                exact ⟨_, _, rfl, F, Z, o, HM.out.2.1, HM.out.1, OutsIs.nil _ _, rfl⟩
              clear HRR hin0 hC HM HM2 HRe
              go_enter Tryd.func18, Tryd.ntmps18
              go_wp2_with fail
              rw [HW.out]
              clear HW
              refine wp_region_noPanic ?_
              refine wp_region_held_drew (S := fun wx => Pr w.heap.size q Fr M wx) (by kernel_rfl) hS (fun hHeld => ?_)
              refine tk 0 rfl (fun wx ⟨a1, a2, a3, a4, a5, a6, a7, a8, a9, a10⟩ => by go_simp; try with_reducible rfl) ?_
              refine tk 1 rfl (fun wx ⟨a1, a2, a3, a4, a5, a6, a7, a8, a9, a10⟩ => by go_simp; try with_reducible rfl) ?_
              refine tk 2 rfl (fun wx ⟨a1, a2, a3, a4, a5, a6, a7, a8, a9, a10⟩ => by go_simp; try with_reducible rfl) ?_
              refine tk 3 rfl (fun wx ⟨a1, a2, a3, a4, a5, a6, a7, a8, a9, a10⟩ => by go_simp; try with_reducible rfl) ?_
              refine tk 4 rfl (fun wx ⟨a1, a2, a3, a4, a5, a6, a7, a8, a9, a10⟩ => by go_simp; try with_reducible rfl) ?_
              refine tk 5 rfl (fun wx ⟨a1, a2, a3, a4, a5, a6, a7, a8, a9, a10⟩ => by go_simp; try with_reducible rfl) ?_
              refine tk 6 rfl (fun wx ⟨a1, a2, a3, a4, a5, a6, a7, a8, a9, a10⟩ => by go_simp; try with_reducible rfl) ?_
              refine tk 7 rfl (fun wx ⟨a1, a2, a3, a4, a5, a6, a7, a8, a9, a10⟩ => by go_simp; try with_reducible rfl) ?_
              refine tk 9 rfl (fun wx ⟨a1, a2, a3, a4, a5, a6, a7, a8, a9, a10⟩ => by go_simp; try with_reducible rfl) ?_
              refine tk 10 rfl (fun wx ⟨a1, a2, a3, a4, a5, a6, a7, a8, a9, a10⟩ => by go_simp; try with_reducible rfl) ?_
              refine comes_up 8 rfl (by kernel_rfl) (fun K hK => ?_)
              go_simp
              refine (hwo _).mono ?_
              rintro e w0 ⟨rfl, rfl⟩
              go_wp2_with fail
              refine hK.out _ _ hS (fun hHeld => ?_)
              clear hK K
              (try simp only [Act.put, List.setIfInBounds_toArray, List.set_cons_zero, List.set_cons_succ])
              refine comes_up 11 rfl (by kernel_rfl) (fun K hK => ?_)
              go_simp
              refine (hha _).mono ?_
              rintro e w0 ⟨rfl, rfl⟩
              go_wp2_with fail
              refine hK.out _ _ hS (fun hHeld => ?_)
              clear hK K
              (try simp only [Act.put, List.setIfInBounds_toArray, List.set_cons_zero, List.set_cons_succ])
              refine tk 12 rfl (fun wx ⟨a1, a2, a3, a4, a5, a6, a7, a8, a9, a10⟩ => by go_simp; try with_reducible rfl) ?_
              refine wpAnyH_done (by kernel_rfl) ?_ _
              refine NoPanic.normal ?_
              clear hHeld hS hwo hha
              go_wp2
              go_ret3
              exact HE.out
end
end Go.Proofs.YtlonbbepoamnmaaDoor
