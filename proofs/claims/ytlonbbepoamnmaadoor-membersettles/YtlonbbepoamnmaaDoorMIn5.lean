/-
  A proposal of another node (Member.proposed).
-/
import Derived.Test.YtlonbbepoamnmaaDoorMIn4
namespace Go.Proofs.YtlonbbepoamnmaaDoor
open Go.RowKit
set_option linter.unusedVariables false
def PropPost (w : World) (F Z : Nat → Prop) (q : Nat) (R : Res) (e : Ending) (w' : World) : Prop := ∃ v, e = .returned (.tuple #[v, .int .i64 (R.err : Nat)]) ∧ StepPost w F Z q R v (.pointer none) w'
theorem outs_one {w : World} {Z : Nat → Prop} {b : Nat} {L : Ox} {outs : List (Nat × PF)} (ho : outs = [(L.1, L.2.1)]) (hb : w.heap[b]? = some (.cells (ocells L.1 L.2.1 L.2.2).toArray 87 (0, 0))) (hz : Z b) (h1 : 1 ≤ b) (hs : Ss Z w L.2.2.so L.2.1.st.length L.2.1.st) : OutsIs w Z (.slice (some ⟨b, 0, none⟩) 1 1) outs := by
  refine ⟨[L], ho.symm, ⟨by simp [flatO_one, ocells_len], .inr ⟨b, 1, (ocells L.1 L.2.1 L.2.2).toArray, rfl, h1, hb, Nat.le_refl _, by unfold maxLen; omega, by simp [ocells_len], by simp [flatO_one]; exact List.take_of_length_le (Nat.le_of_eq (ocells_len _ _ _))⟩⟩, fun c hc => ?_, fun y hy => ?_⟩
  · have : b = c := by simpa [Value.ownBlock] using hc
    rw [← this]; exact hz
  · rw [List.mem_singleton] at hy
    rw [hy]; exact hs
abbrev S9d (B q : Nat) (Fr : PF) (T : Mm) (wx : World) : Prop := wx.cell? ⟨B, 1, none⟩ = some (.int .i64 Fr.frm) ∧ wx.cell? ⟨B, 2, none⟩ = some (.int .u64 (Fr.idN : Nat)) ∧ wx.cell? ⟨B, 3, none⟩ = some (.int .i64 Fr.idP) ∧ wx.cell? ⟨q, 5, none⟩ = some (.int .u64 (T.prom.1 : Nat)) ∧ wx.cell? ⟨q, 6, none⟩ = some (.int .i64 T.prom.2) ∧ wx.cell? ⟨q, 2, none⟩ = some (.int .u64 (T.cur.1 : Nat)) ∧ wx.cell? ⟨q, 3, none⟩ = some (.int .i64 T.cur.2)
abbrev S11d (B : Nat) (Fr : PF) (x : Sx) (wx : World) : Prop := wx.cell? ⟨B, 1, none⟩ = some (.int .i64 Fr.frm) ∧ wx.cell? ⟨B, 2, none⟩ = some (.int .u64 (Fr.idN : Nat)) ∧ wx.cell? ⟨B, 3, none⟩ = some (.int .i64 Fr.idP) ∧ wx.cell? ⟨B + 1, 0, none⟩ = some (.int .u64 (x.1 : Nat)) ∧ wx.cell? ⟨B + 1, 1, none⟩ = some (.int .i64 x.2.1) ∧ wx.cell? ⟨B + 1, 2, none⟩ = some (.int .i64 x.2.2.1) ∧ wx.cell? ⟨B + 1, 3, none⟩ = some (.slice x.2.2.2.1 x.2.2.2.2.1 x.2.2.2.2.2)
theorem ss_one {w : World} {Z : Nat → Prop} {b : Nat} {x : Sx} {d : Sd} (hc : w.heap[b]? = some (.cells #[.int .u64 (x.1 : Nat), .int .i64 x.2.1, .int .i64 x.2.2.1, .slice x.2.2.2.1 x.2.2.2.2.1 x.2.2.2.2.2] 45 (0, 0))) (hz : Z b) (hs : Si Z w x d) : Ss Z w (some ⟨b, 0, none⟩) 1 [d] := by
  refine ⟨[x], ⟨rfl, by omega, (fun e => by cases e), fun _ => ⟨b, 0, rfl, hz, fun j z hj => ?_⟩⟩, rfl, fun j z d' hj hd' => ?_⟩
  · have hj0 : j = 0 := by have := (List.getElem?_eq_some_iff.1 hj).1; simp at this; omega
    subst hj0
    simp at hj
    subst hj
    exact ⟨heap_cell (j := 0) hc rfl, heap_cell (j := 1) hc rfl, heap_cell (j := 2) hc rfl, heap_cell (j := 3) hc rfl⟩
  · have hj0 : j = 0 := by have := (List.getElem?_eq_some_iff.1 hj).1; simp at this; omega
    subst hj0
    simp at hj hd'
    subst hj hd'
    exact hs
theorem s9_keep {w0 W W' : World} {q : Nat} {Fr : PF} {T : Mm} (h : S9d w0.heap.size q Fr T W) (b : Below W.heap.size W W') : S9d w0.heap.size q Fr T W' :=
  ⟨bl_cell b h.1, bl_cell b h.2.1, bl_cell b h.2.2.1, bl_cell b h.2.2.2.1, bl_cell b h.2.2.2.2.1, bl_cell b h.2.2.2.2.2.1, bl_cell b h.2.2.2.2.2.2⟩
theorem s11_keep {w0 W W' : World} {Fr : PF} {x : Sx} (h : S11d w0.heap.size Fr x W) (b : Below W.heap.size W W') : S11d w0.heap.size Fr x W' :=
  ⟨bl_cell b h.1, bl_cell b h.2.1, bl_cell b h.2.2.1, bl_cell b h.2.2.2.1, bl_cell b h.2.2.2.2.1, bl_cell b h.2.2.2.2.2.1, bl_cell b h.2.2.2.2.2.2⟩
theorem proposed_form {M : Mm} {Fr : PF} {d : Sd} (h : Fr.idP ≠ Fr.frm ∨ ¬ (hasN Fr.set Fr.frm = true ∧ hasN Fr.set (M.self : Nat) = true) ∨ Fr.set &&& (65535 - (2 ^ M.n - 1)) ≠ 0) : M.proposed Fr d = ⟨M, [], none, 3⟩ := by unfold Mm.proposed; rw [if_pos h]
theorem proposed_no {M : Mm} {Fr : PF} {d : Sd} (h : ¬ (Fr.idP ≠ Fr.frm ∨ ¬ (hasN Fr.set Fr.frm = true ∧ hasN Fr.set (M.self : Nat) = true) ∨ Fr.set &&& (65535 - (2 ^ M.n - 1)) ≠ 0)) (h2 : Fr.id ≠ (M.took Fr).prom ∨ Fr.id = M.cur) : M.proposed Fr d = ⟨M.took Fr, [(Fr.frm.toNat, (M.took Fr).no Fr)], none, 9⟩ := by unfold Mm.proposed; rw [if_neg h, if_pos h2]
theorem proposed_yes {M : Mm} {Fr : PF} {d : Sd} (h : ¬ (Fr.idP ≠ Fr.frm ∨ ¬ (hasN Fr.set Fr.frm = true ∧ hasN Fr.set (M.self : Nat) = true) ∨ Fr.set &&& (65535 - (2 ^ M.n - 1)) ≠ 0)) (h2 : ¬ (Fr.id ≠ (M.took Fr).prom ∨ Fr.id = M.cur)) : M.proposed Fr d = ⟨M.took Fr, [(Fr.frm.toNat, M.yes Fr d)], none, 0⟩ := by unfold Mm.proposed; rw [if_neg h, if_neg h2]
section
variable {w : World} {F Z : Nat → Prop} {q p : Nat} {M : Mm} {P : Pp} {o : Option Nat}

set_option maxRecDepth 20000 in
set_option maxHeartbeats 4000000 in
theorem proposed_any (h : Mb w F Z q M o) (Fr : PF) (a : Fa) (i : Nat) (hfr : Fr.frm = (i : Int)) (hset : Fr.set < 65536) (x : Sx) (d : Sd) (hd : Si Z w x d) : Calls Tryd.prog 46 #[.pointer (some ⟨q, 0, none⟩), fval Fr a, sta x] w fun e w' => PropPost w F Z q (M.proposed Fr d) e w' := by
  have hpow : 2 ^ M.n ≤ 65536 := Nat.pow_le_pow_right (by omega) h.n16
  have hpos := Nat.one_le_two_pow (n := M.n)
  have hql := h.lt q h.fq
  obtain ⟨w2, hw2⟩ : ∃ w2, (w.alloc (.cells (fcells Fr a) 43)).alloc (.cells #[.int .u64 (x.1 : Nat), .int .i64 x.2.1, .int .i64 x.2.2.1, .slice x.2.2.2.1 x.2.2.2.2.1 x.2.2.2.2.2] 45) = w2 := ⟨_, rfl⟩
  have hb2 : Below w.heap.size w w2 := by rw [← hw2]; exact bl2 _ _ _
  have h2 := h.still hb2
  have hB : w2.heap[w.heap.size]? = some (.cells (fcells Fr a) 43 (0, 0)) := by
    rw [← hw2, Below.heap_alloc _ _ _ (by simp)]; exact heap_alloc_new _ _
  have hC : w2.heap[w.heap.size + 1]? = some (.cells #[.int .u64 (x.1 : Nat), .int .i64 x.2.1, .int .i64 x.2.2.1, .slice x.2.2.2.1 x.2.2.2.2.1 x.2.2.2.2.2] 45 (0, 0)) := by
    have := heap_alloc_new (w.alloc (.cells (fcells Fr a) 43)) (.cells #[.int .u64 (x.1 : Nat), .int .i64 x.2.1, .int .i64 x.2.2.1, .slice x.2.2.2.1 x.2.2.2.2.1 x.2.2.2.2.2] 45)
    rw [← hw2]
    simpa using this
  have hS : Pr w.heap.size q Fr M w2.drew := pr_of (h2.still ((Below.refl _ w2).drew)) hB
  have hS' : Pr w.heap.size q Fr M w2.drew.drew := hS
  have hhF := fun W => has_any W Fr.set hset Fr.frm
  have hhS := fun W => has_any W Fr.set hset ((M.self : Nat) : Int)
  have hand := u16_andNot_nat Fr.set (2 ^ M.n - 1) hset (by omega)
  have HM : Hid (Mb w2.drew.drew F Z q M o ∧ Sp w F Z w2.drew.drew F Z ∧ w2.drew.drew.heap[w.heap.size]? = some (.cells (fcells Fr a) 43 (0, 0)) ∧ w2.drew.drew.heap[w.heap.size + 1]? = some (.cells #[.int .u64 (x.1 : Nat), .int .i64 x.2.1, .int .i64 x.2.2.1, .slice x.2.2.2.1 x.2.2.2.2.1 x.2.2.2.2.2] 45 (0, 0)) ∧ (¬ F w.heap.size) ∧ ¬ F (w.heap.size + 1)) := ⟨h2.still ((Below.refl _ _).drew.drew), (Sp.still hb2 h.zl).trans (Sp.still ((Below.refl _ _).drew.drew) h2.zl), hB, hC, fun hf => by have := h.lt _ hf; omega, fun hf => by have := h.lt _ hf; omega⟩
  have HSI : Hid (Si Z w2.drew.drew x d) := (hd.keep (Kp.up hb2)).keep (Kp.up ((Below.refl _ w2).drew.drew))
  obtain ⟨R, hR⟩ : ∃ R, M.proposed Fr d = R := ⟨_, rfl⟩
  have HC : Hid ((Fr.idP ≠ Fr.frm ∨ ¬ (hasN Fr.set Fr.frm = true ∧ hasN Fr.set (M.self : Nat) = true) ∨ Fr.set &&& (65535 - (2 ^ M.n - 1)) ≠ 0) → PropPost w F Z q R (.returned (.tuple #[.slice none 0 0, .int .i64 3])) w2.drew.drew) := fun hh => by
    rw [← hR, proposed_form hh]
    exact ⟨_, rfl, F, Z, o, HM.out.2.1, HM.out.1, OutsIs.nil _ _, rfl⟩
  have HFR : Hid (Fr.frm = (i : Int)) := hfr
  rw [hR]
  unfold fval
  unfold sta
  have HW : Hid ((w.alloc (.cells (fcells Fr a) 43)).alloc (.cells #[.int .u64 (x.1 : Nat), .int .i64 x.2.1, .int .i64 x.2.2.1, .slice x.2.2.2.1 x.2.2.2.2.1 x.2.2.2.2.2] 45) = w2) := hw2
  have HW2 := HW.out
  unfold fcells at HW2 ⊢
  replace HW : Hid _ := HW2
  clear HW2 h h2 hb2 hB hC hw2 hql hd hpow hpos hfr
  by_cases eP : Fr.idP = Fr.frm
  · have HP : Hid (Fr.idP = Fr.frm) := eP
    cases hF : hasN Fr.set Fr.frm with
    | false =>
      rw [hF] at hhF
      have HE : Hid (PropPost w F Z q R (.returned (.tuple #[.slice none 0 0, .int .i64 3])) w2.drew.drew) := HC.out (.inr (.inl (by rw [hF]; simp)))
      clear HC HM HSI hR hF eP hhS hand
      go_enter Tryd.func46, Tryd.ntmps46
      go_wp2_with fail
      rw [HW.out]
      refine wp_region_noPanic ?_
      refine wp_region_held_drew (S := fun wx => Pr w.heap.size q Fr M wx) (by kernel_rfl) hS (fun hHeld => ?_)
      refine tk 0 rfl (fun wx ⟨a1, a2, a3, a4, a5, a6, a7, a8, a9, a10⟩ => by go_simp; try with_reducible rfl) ?_
      refine tk 1 rfl (fun wx ⟨a1, a2, a3, a4, a5, a6, a7, a8, a9, a10⟩ => by go_simp; try with_reducible rfl) ?_
      refine tk 2 rfl (fun wx ⟨a1, a2, a3, a4, a5, a6, a7, a8, a9, a10⟩ => by go_simp; try with_reducible rfl) ?_
      refine tk 3 rfl (fun wx ⟨a1, a2, a3, a4, a5, a6, a7, a8, a9, a10⟩ => by go_simp; try with_reducible rfl) ?_
      refine comes_up 4 rfl (by kernel_rfl) (fun K hK => ?_)
      go_simp
      refine (hhF _).mono ?_
      rintro e w0 ⟨rfl, rfl⟩
      go_wp2_with fail
      refine hK.out _ _ hS (fun hHeld => ?_)
      clear hK K
      (try simp only [Act.put, List.setIfInBounds_toArray, List.set_cons_zero, List.set_cons_succ])
      refine tk 5 rfl (fun wx ⟨a1, a2, a3, a4, a5, a6, a7, a8, a9, a10⟩ => by go_simp; try with_reducible rfl) ?_
      refine take_first 6 (v := undef) rfl (by kernel_rfl) (by kernel_rfl) (by kernel_rfl) (fun _ _ _ h => h) (Or.inr ⟨by rfl, rfl⟩) (by assumption) ?_
      (try simp only [Act.put, List.setIfInBounds_toArray, List.set_cons_zero, List.set_cons_succ])
      refine take_first 7 (v := undef) rfl (by kernel_rfl) (by kernel_rfl) (by kernel_rfl) (fun _ _ _ h => h) (Or.inr ⟨by rfl, rfl⟩) (by assumption) ?_
      (try simp only [Act.put, List.setIfInBounds_toArray, List.set_cons_zero, List.set_cons_succ])
      refine take_first 8 (v := undef) rfl (by kernel_rfl) (by kernel_rfl) (by kernel_rfl) (fun _ _ _ h => h) (Or.inr ⟨by rfl, rfl⟩) (by assumption) ?_
      (try simp only [Act.put, List.setIfInBounds_toArray, List.set_cons_zero, List.set_cons_succ])
      refine take_first 9 (v := undef) rfl (by kernel_rfl) (by kernel_rfl) (by kernel_rfl) (fun _ _ _ h => h) (Or.inr ⟨by rfl, rfl⟩) (by assumption) ?_
      (try simp only [Act.put, List.setIfInBounds_toArray, List.set_cons_zero, List.set_cons_succ])
      refine take_first 10 (v := undef) rfl (by kernel_rfl) (by kernel_rfl) (by kernel_rfl) (fun _ _ _ h => h) (Or.inr ⟨by rfl, rfl⟩) (by assumption) ?_
      (try simp only [Act.put, List.setIfInBounds_toArray, List.set_cons_zero, List.set_cons_succ])
      refine take_first 11 (v := undef) rfl (by kernel_rfl) (by kernel_rfl) (by kernel_rfl) (fun _ _ _ h => h) (Or.inr ⟨by rfl, rfl⟩) (by assumption) ?_
      (try simp only [Act.put, List.setIfInBounds_toArray, List.set_cons_zero, List.set_cons_succ])
      refine take_first 12 (v := undef) rfl (by kernel_rfl) (by kernel_rfl) (by kernel_rfl) (fun _ _ _ h => h) (Or.inr ⟨by rfl, rfl⟩) (by assumption) ?_
      (try simp only [Act.put, List.setIfInBounds_toArray, List.set_cons_zero, List.set_cons_succ])
      refine tk 13 rfl (fun wx ⟨a1, a2, a3, a4, a5, a6, a7, a8, a9, a10⟩ => by go_simp; try with_reducible rfl) ?_
      refine tk 14 rfl (fun wx ⟨a1, a2, a3, a4, a5, a6, a7, a8, a9, a10⟩ => by go_simp; try with_reducible rfl) ?_
      refine wpAnyH_done (by kernel_rfl) ?_ _
      refine NoPanic.normal ?_
      clear hHeld
      go_wp2_with fail
      refine wp_region_noPanic ?_
      refine wp_region_held_drew (S := fun wx => Pr w.heap.size q Fr M wx) (by kernel_rfl) hS' (fun hHeld => ?_)
      refine tk 0 rfl (fun wx ⟨a1, a2, a3, a4, a5, a6, a7, a8, a9, a10⟩ => by go_simp; try with_reducible rfl) ?_
      refine tk 1 rfl (fun wx ⟨a1, a2, a3, a4, a5, a6, a7, a8, a9, a10⟩ => by go_simp; try with_reducible rfl) ?_
      refine tk 2 rfl (fun wx ⟨a1, a2, a3, a4, a5, a6, a7, a8, a9, a10⟩ => by go_simp; try with_reducible rfl) ?_
      refine tk 3 rfl (fun wx ⟨a1, a2, a3, a4, a5, a6, a7, a8, a9, a10⟩ => by go_simp; try with_reducible rfl) ?_
      refine tk 4 rfl (fun wx ⟨a1, a2, a3, a4, a5, a6, a7, a8, a9, a10⟩ => by go_simp; try with_reducible rfl) ?_
      refine take_first 5 (v := .bool false) rfl (by kernel_rfl) (by kernel_rfl) (by kernel_rfl) (fun _ _ _ h => h) (Or.inl ⟨by rfl, by intro wx hSw; obtain ⟨a1, a2, a3, a4, a5, a6, a7, a8, a9, a10⟩ := hSw; go_simp; all_goals simpa using HP.out⟩) (by assumption) ?_
      (try simp only [Act.put, List.setIfInBounds_toArray, List.set_cons_zero, List.set_cons_succ])
      refine tk 6 rfl (fun wx ⟨a1, a2, a3, a4, a5, a6, a7, a8, a9, a10⟩ => by go_simp; try with_reducible rfl) ?_
      refine tk 7 rfl (fun wx ⟨a1, a2, a3, a4, a5, a6, a7, a8, a9, a10⟩ => by go_simp; try with_reducible rfl) ?_
      refine tk 8 rfl (fun wx ⟨a1, a2, a3, a4, a5, a6, a7, a8, a9, a10⟩ => by go_simp; try with_reducible rfl) ?_
      refine tk 9 rfl (fun wx ⟨a1, a2, a3, a4, a5, a6, a7, a8, a9, a10⟩ => by go_simp; try with_reducible rfl) ?_
      refine tk 10 rfl (fun wx ⟨a1, a2, a3, a4, a5, a6, a7, a8, a9, a10⟩ => by go_simp; try with_reducible rfl) ?_
      refine take_first 11 (v := undef) rfl (by kernel_rfl) (by kernel_rfl) (by kernel_rfl) (fun _ _ _ h => h) (Or.inr ⟨by rfl, rfl⟩) (by assumption) ?_
      (try simp only [Act.put, List.setIfInBounds_toArray, List.set_cons_zero, List.set_cons_succ])
      refine take_first 12 (v := undef) rfl (by kernel_rfl) (by kernel_rfl) (by kernel_rfl) (fun _ _ _ h => h) (Or.inr ⟨by rfl, rfl⟩) (by assumption) ?_
      (try simp only [Act.put, List.setIfInBounds_toArray, List.set_cons_zero, List.set_cons_succ])
      refine take_first 13 (v := undef) rfl (by kernel_rfl) (by kernel_rfl) (by kernel_rfl) (fun _ _ _ h => h) (Or.inr ⟨by rfl, rfl⟩) (by assumption) ?_
      (try simp only [Act.put, List.setIfInBounds_toArray, List.set_cons_zero, List.set_cons_succ])
      refine take_first 14 (v := undef) rfl (by kernel_rfl) (by kernel_rfl) (by kernel_rfl) (fun _ _ _ h => h) (Or.inr ⟨by rfl, rfl⟩) (by assumption) ?_
      (try simp only [Act.put, List.setIfInBounds_toArray, List.set_cons_zero, List.set_cons_succ])
      refine take_first 15 (v := undef) rfl (by kernel_rfl) (by kernel_rfl) (by kernel_rfl) (fun _ _ _ h => h) (Or.inr ⟨by rfl, rfl⟩) (by assumption) ?_
      (try simp only [Act.put, List.setIfInBounds_toArray, List.set_cons_zero, List.set_cons_succ])
      refine take_first 16 (v := undef) rfl (by kernel_rfl) (by kernel_rfl) (by kernel_rfl) (fun _ _ _ h => h) (Or.inr ⟨by rfl, rfl⟩) (by assumption) ?_
      (try simp only [Act.put, List.setIfInBounds_toArray, List.set_cons_zero, List.set_cons_succ])
      refine take_first 17 (v := undef) rfl (by kernel_rfl) (by kernel_rfl) (by kernel_rfl) (fun _ _ _ h => h) (Or.inr ⟨by rfl, rfl⟩) (by assumption) ?_
      (try simp only [Act.put, List.setIfInBounds_toArray, List.set_cons_zero, List.set_cons_succ])
      refine take_first 18 (v := undef) rfl (by kernel_rfl) (by kernel_rfl) (by kernel_rfl) (fun _ _ _ h => h) (Or.inr ⟨by rfl, rfl⟩) (by assumption) ?_
      (try simp only [Act.put, List.setIfInBounds_toArray, List.set_cons_zero, List.set_cons_succ])
      refine tk 19 rfl (fun wx ⟨a1, a2, a3, a4, a5, a6, a7, a8, a9, a10⟩ => by go_simp; try with_reducible rfl) ?_
      refine wpAnyH_done (by kernel_rfl) ?_ _
      refine NoPanic.normal ?_
      clear hHeld hS hS'
      go_wp2
      go_ret2
      exact HE.out
    | true =>
      rw [hF] at hhF
      cases hSf : hasN Fr.set ((M.self : Nat) : Int) with
      | false =>
        rw [hSf] at hhS
        have HE : Hid (PropPost w F Z q R (.returned (.tuple #[.slice none 0 0, .int .i64 3])) w2.drew.drew) := HC.out (.inr (.inl (by rw [hSf]; simp)))
        clear HC HM HSI hR hF hSf eP hand
        go_enter Tryd.func46, Tryd.ntmps46
        go_wp2_with fail
        rw [HW.out]
        refine wp_region_noPanic ?_
        refine wp_region_held_drew (S := fun wx => Pr w.heap.size q Fr M wx) (by kernel_rfl) hS (fun hHeld => ?_)
        refine tk 0 rfl (fun wx ⟨a1, a2, a3, a4, a5, a6, a7, a8, a9, a10⟩ => by go_simp; try with_reducible rfl) ?_
        refine tk 1 rfl (fun wx ⟨a1, a2, a3, a4, a5, a6, a7, a8, a9, a10⟩ => by go_simp; try with_reducible rfl) ?_
        refine tk 2 rfl (fun wx ⟨a1, a2, a3, a4, a5, a6, a7, a8, a9, a10⟩ => by go_simp; try with_reducible rfl) ?_
        refine tk 3 rfl (fun wx ⟨a1, a2, a3, a4, a5, a6, a7, a8, a9, a10⟩ => by go_simp; try with_reducible rfl) ?_
        refine comes_up 4 rfl (by kernel_rfl) (fun K hK => ?_)
        go_simp
        refine (hhF _).mono ?_
        rintro e w0 ⟨rfl, rfl⟩
        go_wp2_with fail
        refine hK.out _ _ hS (fun hHeld => ?_)
        clear hK K
        (try simp only [Act.put, List.setIfInBounds_toArray, List.set_cons_zero, List.set_cons_succ])
        refine tk 5 rfl (fun wx ⟨a1, a2, a3, a4, a5, a6, a7, a8, a9, a10⟩ => by go_simp; try with_reducible rfl) ?_
        refine tk 6 rfl (fun wx ⟨a1, a2, a3, a4, a5, a6, a7, a8, a9, a10⟩ => by go_simp; try with_reducible rfl) ?_
        refine tk 7 rfl (fun wx ⟨a1, a2, a3, a4, a5, a6, a7, a8, a9, a10⟩ => by go_simp; try with_reducible rfl) ?_
        refine tk 8 rfl (fun wx ⟨a1, a2, a3, a4, a5, a6, a7, a8, a9, a10⟩ => by go_simp; try with_reducible rfl) ?_
        refine tk 9 rfl (fun wx ⟨a1, a2, a3, a4, a5, a6, a7, a8, a9, a10⟩ => by go_simp; try with_reducible rfl) ?_
        refine tk 10 rfl (fun wx ⟨a1, a2, a3, a4, a5, a6, a7, a8, a9, a10⟩ => by go_simp; try with_reducible rfl) ?_
        refine tk 11 rfl (fun wx ⟨a1, a2, a3, a4, a5, a6, a7, a8, a9, a10⟩ => by go_simp; try with_reducible rfl) ?_
        refine comes_up 12 rfl (by kernel_rfl) (fun K hK => ?_)
        go_simp
        refine (hhS _).mono ?_
        rintro e w0 ⟨rfl, rfl⟩
        go_wp2_with fail
        refine hK.out _ _ hS (fun hHeld => ?_)
        clear hK K
        (try simp only [Act.put, List.setIfInBounds_toArray, List.set_cons_zero, List.set_cons_succ])
        refine tk 13 rfl (fun wx ⟨a1, a2, a3, a4, a5, a6, a7, a8, a9, a10⟩ => by go_simp; try with_reducible rfl) ?_
        refine tk 14 rfl (fun wx ⟨a1, a2, a3, a4, a5, a6, a7, a8, a9, a10⟩ => by go_simp; try with_reducible rfl) ?_
        refine wpAnyH_done (by kernel_rfl) ?_ _
        refine NoPanic.normal ?_
        clear hHeld
        go_wp2_with fail
        refine wp_region_noPanic ?_
        refine wp_region_held_drew (S := fun wx => Pr w.heap.size q Fr M wx) (by kernel_rfl) hS' (fun hHeld => ?_)
        refine tk 0 rfl (fun wx ⟨a1, a2, a3, a4, a5, a6, a7, a8, a9, a10⟩ => by go_simp; try with_reducible rfl) ?_
        refine tk 1 rfl (fun wx ⟨a1, a2, a3, a4, a5, a6, a7, a8, a9, a10⟩ => by go_simp; try with_reducible rfl) ?_
        refine tk 2 rfl (fun wx ⟨a1, a2, a3, a4, a5, a6, a7, a8, a9, a10⟩ => by go_simp; try with_reducible rfl) ?_
        refine tk 3 rfl (fun wx ⟨a1, a2, a3, a4, a5, a6, a7, a8, a9, a10⟩ => by go_simp; try with_reducible rfl) ?_
        refine tk 4 rfl (fun wx ⟨a1, a2, a3, a4, a5, a6, a7, a8, a9, a10⟩ => by go_simp; try with_reducible rfl) ?_
        refine take_first 5 (v := .bool false) rfl (by kernel_rfl) (by kernel_rfl) (by kernel_rfl) (fun _ _ _ h => h) (Or.inl ⟨by rfl, by intro wx hSw; obtain ⟨a1, a2, a3, a4, a5, a6, a7, a8, a9, a10⟩ := hSw; go_simp; all_goals simpa using HP.out⟩) (by assumption) ?_
        (try simp only [Act.put, List.setIfInBounds_toArray, List.set_cons_zero, List.set_cons_succ])
        refine tk 6 rfl (fun wx ⟨a1, a2, a3, a4, a5, a6, a7, a8, a9, a10⟩ => by go_simp; try with_reducible rfl) ?_
        refine tk 7 rfl (fun wx ⟨a1, a2, a3, a4, a5, a6, a7, a8, a9, a10⟩ => by go_simp; try with_reducible rfl) ?_
        refine tk 8 rfl (fun wx ⟨a1, a2, a3, a4, a5, a6, a7, a8, a9, a10⟩ => by go_simp; try with_reducible rfl) ?_
        refine tk 9 rfl (fun wx ⟨a1, a2, a3, a4, a5, a6, a7, a8, a9, a10⟩ => by go_simp; try with_reducible rfl) ?_
        refine tk 10 rfl (fun wx ⟨a1, a2, a3, a4, a5, a6, a7, a8, a9, a10⟩ => by go_simp; try with_reducible rfl) ?_
        refine take_first 11 (v := undef) rfl (by kernel_rfl) (by kernel_rfl) (by kernel_rfl) (fun _ _ _ h => h) (Or.inr ⟨by rfl, rfl⟩) (by assumption) ?_
        (try simp only [Act.put, List.setIfInBounds_toArray, List.set_cons_zero, List.set_cons_succ])
        refine take_first 12 (v := undef) rfl (by kernel_rfl) (by kernel_rfl) (by kernel_rfl) (fun _ _ _ h => h) (Or.inr ⟨by rfl, rfl⟩) (by assumption) ?_
        (try simp only [Act.put, List.setIfInBounds_toArray, List.set_cons_zero, List.set_cons_succ])
        refine take_first 13 (v := undef) rfl (by kernel_rfl) (by kernel_rfl) (by kernel_rfl) (fun _ _ _ h => h) (Or.inr ⟨by rfl, rfl⟩) (by assumption) ?_
        (try simp only [Act.put, List.setIfInBounds_toArray, List.set_cons_zero, List.set_cons_succ])
        refine take_first 14 (v := undef) rfl (by kernel_rfl) (by kernel_rfl) (by kernel_rfl) (fun _ _ _ h => h) (Or.inr ⟨by rfl, rfl⟩) (by assumption) ?_
        (try simp only [Act.put, List.setIfInBounds_toArray, List.set_cons_zero, List.set_cons_succ])
        refine take_first 15 (v := undef) rfl (by kernel_rfl) (by kernel_rfl) (by kernel_rfl) (fun _ _ _ h => h) (Or.inr ⟨by rfl, rfl⟩) (by assumption) ?_
        (try simp only [Act.put, List.setIfInBounds_toArray, List.set_cons_zero, List.set_cons_succ])
        refine take_first 16 (v := undef) rfl (by kernel_rfl) (by kernel_rfl) (by kernel_rfl) (fun _ _ _ h => h) (Or.inr ⟨by rfl, rfl⟩) (by assumption) ?_
        (try simp only [Act.put, List.setIfInBounds_toArray, List.set_cons_zero, List.set_cons_succ])
        refine take_first 17 (v := undef) rfl (by kernel_rfl) (by kernel_rfl) (by kernel_rfl) (fun _ _ _ h => h) (Or.inr ⟨by rfl, rfl⟩) (by assumption) ?_
        (try simp only [Act.put, List.setIfInBounds_toArray, List.set_cons_zero, List.set_cons_succ])
        refine take_first 18 (v := undef) rfl (by kernel_rfl) (by kernel_rfl) (by kernel_rfl) (fun _ _ _ h => h) (Or.inr ⟨by rfl, rfl⟩) (by assumption) ?_
        (try simp only [Act.put, List.setIfInBounds_toArray, List.set_cons_zero, List.set_cons_succ])
        refine tk 19 rfl (fun wx ⟨a1, a2, a3, a4, a5, a6, a7, a8, a9, a10⟩ => by go_simp; try with_reducible rfl) ?_
        refine wpAnyH_done (by kernel_rfl) ?_ _
        refine NoPanic.normal ?_
        clear hHeld hS hS'
        go_wp2
        go_ret2
        exact HE.out
      | true =>
        rw [hSf] at hhS
        by_cases eA : Fr.set &&& (65535 - (2 ^ M.n - 1)) = 0
        · have hA0 := eA
          rw [eA] at hand
          have hnb : ¬ (Fr.idP ≠ Fr.frm ∨ ¬ (hasN Fr.set Fr.frm = true ∧ hasN Fr.set (M.self : Nat) = true) ∨ Fr.set &&& (65535 - (2 ^ M.n - 1)) ≠ 0) := by
            rintro (hh | hh | hh)
            · exact hh eP
            · exact hh ⟨hF, hSf⟩
            · exact hh eA
          have HRR : Hid ((Fr.id ≠ (M.took Fr).prom ∨ Fr.id = M.cur → R = ⟨M.took Fr, [(i, (M.took Fr).no Fr)], none, 9⟩) ∧ (¬ (Fr.id ≠ (M.took Fr).prom ∨ Fr.id = M.cur) → R = ⟨M.took Fr, [(i, M.yes Fr d)], none, 0⟩)) := by
            refine ⟨fun hh => ?_, fun hh => ?_⟩
            · rw [← hR, proposed_no hnb hh, HFR.out, Int.toNat_natCast]
            · rw [← hR, proposed_yes hnb hh, HFR.out, Int.toNat_natCast]
          clear HC hR hF hSf eP eA hnb
          go_enter Tryd.func46, Tryd.ntmps46
          go_wp2_with fail
          rw [HW.out]
          refine wp_region_noPanic ?_
          refine wp_region_held_drew (S := fun wx => Pr w.heap.size q Fr M wx) (by kernel_rfl) hS (fun hHeld => ?_)
          refine tk 0 rfl (fun wx ⟨a1, a2, a3, a4, a5, a6, a7, a8, a9, a10⟩ => by go_simp; try with_reducible rfl) ?_
          refine tk 1 rfl (fun wx ⟨a1, a2, a3, a4, a5, a6, a7, a8, a9, a10⟩ => by go_simp; try with_reducible rfl) ?_
          refine tk 2 rfl (fun wx ⟨a1, a2, a3, a4, a5, a6, a7, a8, a9, a10⟩ => by go_simp; try with_reducible rfl) ?_
          refine tk 3 rfl (fun wx ⟨a1, a2, a3, a4, a5, a6, a7, a8, a9, a10⟩ => by go_simp; try with_reducible rfl) ?_
          refine comes_up 4 rfl (by kernel_rfl) (fun K hK => ?_)
          go_simp
          refine (hhF _).mono ?_
          rintro e w0 ⟨rfl, rfl⟩
          go_wp2_with fail
          refine hK.out _ _ hS (fun hHeld => ?_)
          clear hK K
          (try simp only [Act.put, List.setIfInBounds_toArray, List.set_cons_zero, List.set_cons_succ])
          refine tk 5 rfl (fun wx ⟨a1, a2, a3, a4, a5, a6, a7, a8, a9, a10⟩ => by go_simp; try with_reducible rfl) ?_
          refine tk 6 rfl (fun wx ⟨a1, a2, a3, a4, a5, a6, a7, a8, a9, a10⟩ => by go_simp; try with_reducible rfl) ?_
          refine tk 7 rfl (fun wx ⟨a1, a2, a3, a4, a5, a6, a7, a8, a9, a10⟩ => by go_simp; try with_reducible rfl) ?_
          refine tk 8 rfl (fun wx ⟨a1, a2, a3, a4, a5, a6, a7, a8, a9, a10⟩ => by go_simp; try with_reducible rfl) ?_
          refine tk 9 rfl (fun wx ⟨a1, a2, a3, a4, a5, a6, a7, a8, a9, a10⟩ => by go_simp; try with_reducible rfl) ?_
          refine tk 10 rfl (fun wx ⟨a1, a2, a3, a4, a5, a6, a7, a8, a9, a10⟩ => by go_simp; try with_reducible rfl) ?_
          refine tk 11 rfl (fun wx ⟨a1, a2, a3, a4, a5, a6, a7, a8, a9, a10⟩ => by go_simp; try with_reducible rfl) ?_
          refine comes_up 12 rfl (by kernel_rfl) (fun K hK => ?_)
          go_simp
          refine (hhS _).mono ?_
          rintro e w0 ⟨rfl, rfl⟩
          go_wp2_with fail
          refine hK.out _ _ hS (fun hHeld => ?_)
          clear hK K
          (try simp only [Act.put, List.setIfInBounds_toArray, List.set_cons_zero, List.set_cons_succ])
          refine tk 13 rfl (fun wx ⟨a1, a2, a3, a4, a5, a6, a7, a8, a9, a10⟩ => by go_simp; try with_reducible rfl) ?_
          refine tk 14 rfl (fun wx ⟨a1, a2, a3, a4, a5, a6, a7, a8, a9, a10⟩ => by go_simp; try with_reducible rfl) ?_
          refine wpAnyH_done (by kernel_rfl) ?_ _
          refine NoPanic.normal ?_
          clear hHeld
          go_wp2_with fail
          refine wp_region_noPanic ?_
          refine wp_region_held_drew (S := fun wx => Pr w.heap.size q Fr M wx) (by kernel_rfl) hS' (fun hHeld => ?_)
          refine tk 0 rfl (fun wx ⟨a1, a2, a3, a4, a5, a6, a7, a8, a9, a10⟩ => by go_simp; try with_reducible rfl) ?_
          refine tk 1 rfl (fun wx ⟨a1, a2, a3, a4, a5, a6, a7, a8, a9, a10⟩ => by go_simp; try with_reducible rfl) ?_
          refine tk 2 rfl (fun wx ⟨a1, a2, a3, a4, a5, a6, a7, a8, a9, a10⟩ => by go_simp; try with_reducible rfl) ?_
          refine tk 3 rfl (fun wx ⟨a1, a2, a3, a4, a5, a6, a7, a8, a9, a10⟩ => by go_simp; try with_reducible rfl) ?_
          refine tk 4 rfl (fun wx ⟨a1, a2, a3, a4, a5, a6, a7, a8, a9, a10⟩ => by go_simp; try with_reducible rfl) ?_
          refine take_first 5 (v := .bool false) rfl (by kernel_rfl) (by kernel_rfl) (by kernel_rfl) (fun _ _ _ h => h) (Or.inl ⟨by rfl, by intro wx hSw; obtain ⟨a1, a2, a3, a4, a5, a6, a7, a8, a9, a10⟩ := hSw; go_simp; all_goals simpa using HP.out⟩) (by assumption) ?_
          (try simp only [Act.put, List.setIfInBounds_toArray, List.set_cons_zero, List.set_cons_succ])
          refine tk 6 rfl (fun wx ⟨a1, a2, a3, a4, a5, a6, a7, a8, a9, a10⟩ => by go_simp; try with_reducible rfl) ?_
          refine tk 7 rfl (fun wx ⟨a1, a2, a3, a4, a5, a6, a7, a8, a9, a10⟩ => by go_simp; try with_reducible rfl) ?_
          refine tk 8 rfl (fun wx ⟨a1, a2, a3, a4, a5, a6, a7, a8, a9, a10⟩ => by go_simp; try with_reducible rfl) ?_
          refine tk 9 rfl (fun wx ⟨a1, a2, a3, a4, a5, a6, a7, a8, a9, a10⟩ => by go_simp; try with_reducible rfl) ?_
          refine tk 10 rfl (fun wx ⟨a1, a2, a3, a4, a5, a6, a7, a8, a9, a10⟩ => by go_simp; try with_reducible rfl) ?_
          refine tk 11 rfl (fun wx ⟨a1, a2, a3, a4, a5, a6, a7, a8, a9, a10⟩ => by go_simp; try with_reducible rfl) ?_
          refine tk 12 rfl (fun wx ⟨a1, a2, a3, a4, a5, a6, a7, a8, a9, a10⟩ => by go_simp; try with_reducible rfl) ?_
          refine tk 13 rfl (fun wx ⟨a1, a2, a3, a4, a5, a6, a7, a8, a9, a10⟩ => by go_simp; try with_reducible rfl) ?_
          refine tk 14 rfl (fun wx ⟨a1, a2, a3, a4, a5, a6, a7, a8, a9, a10⟩ => by go_simp; try with_reducible rfl) ?_
          refine tk 15 rfl (fun wx ⟨a1, a2, a3, a4, a5, a6, a7, a8, a9, a10⟩ => by go_simp; try with_reducible rfl) ?_
          refine tk 16 rfl (fun wx ⟨a1, a2, a3, a4, a5, a6, a7, a8, a9, a10⟩ => by go_simp; try with_reducible rfl) ?_
          refine tk 17 rfl (fun wx ⟨a1, a2, a3, a4, a5, a6, a7, a8, a9, a10⟩ => by go_simp; try with_reducible rfl) ?_
          refine tk 18 rfl (fun wx ⟨a1, a2, a3, a4, a5, a6, a7, a8, a9, a10⟩ => by go_simp; try with_reducible rfl) ?_
          refine tk 19 rfl (fun wx ⟨a1, a2, a3, a4, a5, a6, a7, a8, a9, a10⟩ => by go_simp; try with_reducible rfl) ?_
          refine wpAnyH_done (by kernel_rfl) ?_ _
          refine NoPanic.normal ?_
          clear hHeld
          have hri := rise_any HM.out.1 Fr.idN
          have k2 : w2.drew.drew.cell? ⟨w.heap.size, 2, none⟩ = some (.int .u64 (Fr.idN : Nat)) := hS'.2.1
          clear hS hS' hhF hhS hA0 hand
          go_wp2_with fail
          refine hri.mono ?_
          rintro e w3 ⟨rfl, h3, sp3⟩
          obtain ⟨m1, m2, m3, m4, m5, m6⟩ := HM.out
          have hB3 := (sp3.turned.block _ (heap_lt m3) m5).trans m3
          have hC3 := (sp3.turned.block _ (heap_lt m4) m6).trans m4
          have hSi3 := HSI.out.keep (sp3.kp m1.zf)
          have sp03 := m2.trans sp3
          have hS3 : Pr w.heap.size q Fr (M.rise Fr.idN) w3.drew := pr_of (h3.still ((Below.refl _ w3).drew)) hB3
          have hab := fun W => above_any W Fr.idN Fr.idP M.prom.1 M.prom.2
          have hve : decide (vlt (M.prom.1, M.prom.2) (Fr.idN, Fr.idP)) = decide (vlt M.prom Fr.id) := rfl
          rw [hve] at hab
          unfold vid at hab
          clear hve hri m1 m2 m3 m4 m5 m6 sp3 k2
          go_wp2_with fail
          refine wp_region_noPanic ?_
          refine wp_region_held_drew (S := fun wx => Pr w.heap.size q Fr (M.rise Fr.idN) wx) (by kernel_rfl) hS3 (fun hHeld => ?_)
          refine tk 0 rfl (fun wx ⟨a1, a2, a3, a4, a5, a6, a7, a8, a9, a10⟩ => by go_simp; try with_reducible rfl) ?_
          refine tk 1 rfl (fun wx ⟨a1, a2, a3, a4, a5, a6, a7, a8, a9, a10⟩ => by go_simp; try with_reducible rfl) ?_
          refine tk 2 rfl (fun wx ⟨a1, a2, a3, a4, a5, a6, a7, a8, a9, a10⟩ => by go_simp; try with_reducible rfl) ?_
          refine tk 3 rfl (fun wx ⟨a1, a2, a3, a4, a5, a6, a7, a8, a9, a10⟩ => by go_simp; try with_reducible rfl) ?_
          refine tk 4 rfl (fun wx ⟨a1, a2, a3, a4, a5, a6, a7, a8, a9, a10⟩ => by go_simp; try with_reducible rfl) ?_
          refine tk 5 rfl (fun wx ⟨a1, a2, a3, a4, a5, a6, a7, a8, a9, a10⟩ => by go_simp; try with_reducible rfl) ?_
          refine comes_up 6 rfl (by kernel_rfl) (fun K hK => ?_)
          go_simp
          refine (hab _).mono ?_
          rintro e w4 ⟨rfl, u4⟩
          have b4' : Below w3.heap.size w3 w4 := ⟨u4.bl.os, u4.bl.tape, u4.bl.output, u4.bl.size, u4.bl.block⟩
          have hS4 : Pr w.heap.size q Fr (M.rise Fr.idN) w4 := pr_keep hS3 u4.bl
          have h4 := h3.still b4'
          have sp04 := sp03.trans (Sp.still b4' h3.zl)
          have hB4 := (b4'.block _ (heap_lt hB3)).trans hB3
          have hC4 := (b4'.block _ (heap_lt hC3)).trans hC3
          have hSi4 := hSi3.keep (Kp.up b4')
          have hnB : ¬ F w.heap.size ∧ ¬ F (w.heap.size + 1) := ⟨HM.out.2.2.2.2.1, HM.out.2.2.2.2.2⟩
          clear hab u4 b4' h3 sp03 hB3 hC3 hSi3 hS3 HM HSI
          cases hv : decide (vlt M.prom Fr.id) with
          | true =>
            have hvl : vlt M.prom Fr.id := by simpa using hv
            have e5 := h4.cell 5 (by omega)
            have e6 := h4.cell 6 (by omega)
            have g5 := h4.fr 5
            have g6 := h4.fr 6
            unfold mcell at e5 e6
            obtain ⟨wp, hwp⟩ : ∃ wp, (w4.setCell ⟨q, 5, none⟩ (.int .u64 (Fr.idN : Nat))).setCell ⟨q, 6, none⟩ (.int .i64 Fr.idP) = wp := ⟨_, rfl⟩
            have hp : Mb wp F Z q { M.rise Fr.idN with prom := Fr.id } o := by rw [← hwp]; exact h4.setProm Fr.id
            have e8 := hp.cell 8 (by omega)
            unfold mcell ptr at e8
            have g8 := hp.fr 8
            obtain ⟨wT, hwT⟩ : ∃ wT, wp.setCell ⟨q, 8, none⟩ (.pointer none) = wT := ⟨_, rfl⟩
            obtain ⟨T, hT⟩ : ∃ T, M.took Fr = T := ⟨_, rfl⟩
            have hTe : T = { M.rise Fr.idN with prom := Fr.id, own := none } := by rw [← hT]; unfold Mm.took; rw [if_pos hvl]; rfl
            obtain ⟨oT, hoT⟩ : ∃ oT : Option Nat, none = oT := ⟨_, rfl⟩
            have hMT : Mb wT F Z q T oT := by rw [← hwT, hTe, ← hoT]; exact hp.dropOwn
            have spT : Sp w F Z wT F Z := by rw [← hwT, ← hwp]; exact ((sp04.setq h4.fq _ _).setq h4.fq _ _).setq h4.fq _ _
            have sp4T : Sp w4 F Z wT F Z := by rw [← hwT, ← hwp]; exact ((h4.sp.setq h4.fq _ _).setq h4.fq _ _).setq h4.fq _ _
            have hBT := (sp4T.turned.block _ (heap_lt hB4) hnB.1).trans hB4
            have hCT := (sp4T.turned.block _ (heap_lt hC4) hnB.2).trans hC4
            have HT : Hid (Mb wT F Z q T oT ∧ Sp w F Z wT F Z ∧ Si Z wT x d ∧ wT.heap[w.heap.size + 1]? = some (.cells #[.int .u64 (x.1 : Nat), .int .i64 x.2.1, .int .i64 x.2.2.1, .slice x.2.2.2.1 x.2.2.2.2.1 x.2.2.2.2.2] 45 (0, 0)) ∧ S9d w.heap.size q Fr T wT) := ⟨hMT, spT, hSi4.keep (sp4T.kp h4.zf), hCT, heap_cell (j := 1) hBT rfl, heap_cell (j := 2) hBT rfl, heap_cell (j := 3) hBT rfl, hMT.cell 5 (by omega), hMT.cell 6 (by omega), hMT.cell 2 (by omega), hMT.cell 3 (by omega)⟩
            have HTP : Hid (Fr.id = T.prom) := by rw [hTe]; rfl
            have HTS : Hid (T.self = M.self) := by rw [hTe]; rfl
            have HRN : Hid (Fr.id ≠ T.prom ∨ Fr.id = T.cur → R = ⟨T, [(i, T.no Fr)], none, 9⟩) := fun hh => by
              rw [← hT]
              refine HRR.out.1 ?_
              rw [hT]
              rcases hh with hh | hh
              · exact .inl hh
              · exact .inr (by rw [hh, hTe]; rfl)
            have HRY : Hid (Fr.id = T.prom → ¬ Fr.id = T.cur → R = ⟨T, [(i, T.yes Fr d)], none, 0⟩) := fun h1 h2 => by
              have := HRR.out.2 (by rw [hT]; rintro (hh | hh); exact hh h1; exact h2 (by rw [hh, hTe]; rfl))
              rw [this, hT, hTe]; rfl
            clear h4 hp hMT spT sp4T hBT hCT hB4 hC4 hSi4 sp04 hnB HRR hTe hT hvl hv hoT
            go_wp2_with fail
            refine hK.out _ _ hS4 (fun hHeld => ?_)
            clear hK K
            (try simp only [Act.put, List.setIfInBounds_toArray, List.set_cons_zero, List.set_cons_succ])
            refine wpAnyH_done (by kernel_rfl) ?_ _
            refine NoPanic.normal ?_
            have s2 := hS4.2.1
            have s3 := hS4.2.2.1
            clear hS4 hHeld
            go_wp2_with fail
            (try simp only [hwp])
            clear hwp e5 e6 g5 g6 s2 s3
            (try go_wp2_with fail)
            (try simp only [hwT])
            clear hwT e8 g8
            have hS8 : S9d w.heap.size q Fr T wT.drew := HT.out.2.2.2.2
            have hqp := fun W => vid_equal Fr.idN Fr.idP T.prom.1 T.prom.2 W
            have hvp : decide (Fr.idN = T.prom.1 ∧ Fr.idP = T.prom.2) = decide (Fr.id = T.prom) := vid_eq2 Fr.id T.prom
            rw [hvp] at hqp
            have hqc := fun W => vid_equal Fr.idN Fr.idP T.cur.1 T.cur.2 W
            have hvc : decide (Fr.idN = T.cur.1 ∧ Fr.idP = T.cur.2) = decide (Fr.id = T.cur) := vid_eq2 Fr.id T.cur
            rw [hvc] at hqc
            clear hvp hvc
            have ep : Fr.id = T.prom := HTP.out
            rw [show decide (Fr.id = T.prom) = true by simpa using ep] at hqp
            clear ep
            by_cases ec : Fr.id = T.cur
            · rw [show decide (Fr.id = T.cur) = true by simpa using ec] at hqc
              have HR : Hid (R = ⟨T, [(i, T.no Fr)], none, 9⟩) := HRN.out (.inr ec)
              clear ec HRN HRY
              go_wp2_with fail
              refine wp_region_noPanic ?_
              refine wp_region_held_drew (S := fun wx => S9d w.heap.size q Fr T wx) (by kernel_rfl) hS8 (fun hHeld => ?_)
              refine tk 0 rfl (fun wx ⟨a1, a2, a3, a4, a5, a6, a7⟩ => by go_simp; try with_reducible rfl) ?_
              refine tk 1 rfl (fun wx ⟨a1, a2, a3, a4, a5, a6, a7⟩ => by go_simp; try with_reducible rfl) ?_
              refine tk 2 rfl (fun wx ⟨a1, a2, a3, a4, a5, a6, a7⟩ => by go_simp; try with_reducible rfl) ?_
              refine tk 3 rfl (fun wx ⟨a1, a2, a3, a4, a5, a6, a7⟩ => by go_simp; try with_reducible rfl) ?_
              refine tk 4 rfl (fun wx ⟨a1, a2, a3, a4, a5, a6, a7⟩ => by go_simp; try with_reducible rfl) ?_
              refine tk 5 rfl (fun wx ⟨a1, a2, a3, a4, a5, a6, a7⟩ => by go_simp; try with_reducible rfl) ?_
              refine tk 6 rfl (fun wx ⟨a1, a2, a3, a4, a5, a6, a7⟩ => by go_simp; try with_reducible rfl) ?_
              refine tk 7 rfl (fun wx ⟨a1, a2, a3, a4, a5, a6, a7⟩ => by go_simp; try with_reducible rfl) ?_
              refine tk 8 rfl (fun wx ⟨a1, a2, a3, a4, a5, a6, a7⟩ => by go_simp; try with_reducible rfl) ?_
              refine tk 9 rfl (fun wx ⟨a1, a2, a3, a4, a5, a6, a7⟩ => by go_simp; try with_reducible rfl) ?_
              refine tk 10 rfl (fun wx ⟨a1, a2, a3, a4, a5, a6, a7⟩ => by go_simp; try with_reducible rfl) ?_
              refine tk 11 rfl (fun wx ⟨a1, a2, a3, a4, a5, a6, a7⟩ => by go_simp; try with_reducible rfl) ?_
              refine tk 12 rfl (fun wx ⟨a1, a2, a3, a4, a5, a6, a7⟩ => by go_simp; try with_reducible rfl) ?_
              refine tk 13 rfl (fun wx ⟨a1, a2, a3, a4, a5, a6, a7⟩ => by go_simp; try with_reducible rfl) ?_
              refine tk 14 rfl (fun wx ⟨a1, a2, a3, a4, a5, a6, a7⟩ => by go_simp; try with_reducible rfl) ?_
              refine tk 15 rfl (fun wx ⟨a1, a2, a3, a4, a5, a6, a7⟩ => by go_simp; try with_reducible rfl) ?_
              refine tk 16 rfl (fun wx ⟨a1, a2, a3, a4, a5, a6, a7⟩ => by go_simp; try with_reducible rfl) ?_
              refine wpAnyH_done (by kernel_rfl) ?_ _
              refine NoPanic.normal ?_
              clear hS8
              clear hHeld hqp hqc
              have HS9 : Hid (S9d w.heap.size q Fr T wT.drew.drew) := HT.out.2.2.2.2
              have HOU : Hid (∀ W, Below wT.drew.drew.heap.size wT.drew.drew W → Calls Tryd.prog 72 #[.pointer (some ⟨q, 0, none⟩), .int .i64 Fr.frm, .agg #[.int .u8 4, .int .i64 0, .int .u64 (Fr.idN : Nat), .int .i64 Fr.idP, .int .u16 0, .int .u64 0, .int .i64 0, .int .u64 (T.prom.1 : Nat), .int .i64 T.prom.2, .slice none 0 0, .int .u64 0, .slice none 0 0, .slice none 0 0, .int .u64 0, .int .u64 0]] W fun e w' => e = .returned (.agg #[.int .i64 Fr.frm, .int .u8 4, .int .i64 (T.self : Nat), .int .u64 (Fr.idN : Nat), .int .i64 Fr.idP, .int .u16 0, .int .u64 0, .int .i64 0, .int .u64 (T.prom.1 : Nat), .int .i64 T.prom.2, .slice none 0 0, .int .u64 0, .slice none 0 0, .slice none 0 0, .int .u64 0, .int .u64 0]) ∧ Below W.heap.size W w') := fun W u => by
                have hou := out_any (HT.out.1.still (⟨u.os, u.tape, u.output, u.size, u.block⟩ : Below wT.heap.size wT W)) i { zeroF with kind := 4, idN := Fr.idN, idP := Fr.idP, promN := T.prom.1, promP := T.prom.2 } Fa.none
                unfold oval ocells fval fcells PF.by_ at hou
                rw [← HFR.out] at hou
                exact hou
              have HEND : Hid (∀ W, Below wT.drew.drew.heap.size wT.drew.drew W → PropPost w F Z q R (.returned (.tuple #[.slice (some ⟨W.heap.size, 0, none⟩) 1 1, .int .i64 9])) (W.alloc (.cells #[.int .i64 Fr.frm, .int .u8 4, .int .i64 (T.self : Nat), .int .u64 (Fr.idN : Nat), .int .i64 Fr.idP, .int .u16 0, .int .u64 0, .int .i64 0, .int .u64 (T.prom.1 : Nat), .int .i64 T.prom.2, .slice none 0 0, .int .u64 0, .slice none 0 0, .slice none 0 0, .int .u64 0, .int .u64 0] 87))) := fun W u => by
                rw [HR.out]
                have b7 : Below wT.heap.size wT W := ⟨u.os, u.tape, u.output, u.size, u.block⟩
                have b8 : Below wT.heap.size wT (W.alloc (.cells #[.int .i64 Fr.frm, .int .u8 4, .int .i64 (T.self : Nat), .int .u64 (Fr.idN : Nat), .int .i64 Fr.idP, .int .u16 0, .int .u64 0, .int .i64 0, .int .u64 (T.prom.1 : Nat), .int .i64 T.prom.2, .slice none 0 0, .int .u64 0, .slice none 0 0, .slice none 0 0, .int .u64 0, .int .u64 0] 87)) := b7.alloc b7.size _
                refine ⟨_, rfl, F, nz Z wT (W.alloc (.cells #[.int .i64 Fr.frm, .int .u8 4, .int .i64 (T.self : Nat), .int .u64 (Fr.idN : Nat), .int .i64 Fr.idP, .int .u16 0, .int .u64 0, .int .i64 0, .int .u64 (T.prom.1 : Nat), .int .i64 T.prom.2, .slice none 0 0, .int .u64 0, .slice none 0 0, .slice none 0 0, .int .u64 0, .int .u64 0] 87)), oT, HT.out.2.1.trans (Sp.up b8 HT.out.1.zl), HT.out.1.up b8, ?_, rfl⟩
                refine outs_one (L := (i, T.no Fr, Fa.none)) rfl ?_ (.inr ⟨b7.size, by simp⟩) (Nat.le_trans HT.out.1.tab.lt b7.size) (Ss.nil _ _)
                have := heap_alloc_new W (.cells #[.int .i64 Fr.frm, .int .u8 4, .int .i64 (T.self : Nat), .int .u64 (Fr.idN : Nat), .int .i64 Fr.idP, .int .u16 0, .int .u64 0, .int .i64 0, .int .u64 (T.prom.1 : Nat), .int .i64 T.prom.2, .slice none 0 0, .int .u64 0, .slice none 0 0, .slice none 0 0, .int .u64 0, .int .u64 0] 87)
                rw [HFR.out] at this ⊢
                exact this
              have hS9 := HS9.out
              clear HR
              go_wp2_with fail
              refine wp_region_noPanic ?_
              refine wp_region_held_drew (S := fun wx => S9d w.heap.size q Fr T wx) (by kernel_rfl) hS9 (fun hHeld => ?_)
              refine tk 0 rfl (fun wx ⟨a1, a2, a3, a4, a5, a6, a7⟩ => by go_simp; try with_reducible rfl) ?_
              refine tk 1 rfl (fun wx ⟨a1, a2, a3, a4, a5, a6, a7⟩ => by go_simp; try with_reducible rfl) ?_
              refine tk 2 rfl (fun wx ⟨a1, a2, a3, a4, a5, a6, a7⟩ => by go_simp; try with_reducible rfl) ?_
              refine tk 3 rfl (fun wx ⟨a1, a2, a3, a4, a5, a6, a7⟩ => by go_simp; try with_reducible rfl) ?_
              refine tk 4 rfl (fun wx ⟨a1, a2, a3, a4, a5, a6, a7⟩ => by go_simp; try with_reducible rfl) ?_
              refine tk 5 rfl (fun wx ⟨a1, a2, a3, a4, a5, a6, a7⟩ => by go_simp; try with_reducible rfl) ?_
              refine tk 6 rfl (fun wx ⟨a1, a2, a3, a4, a5, a6, a7⟩ => by go_simp; try with_reducible rfl) ?_
              refine tk 7 rfl (fun wx ⟨a1, a2, a3, a4, a5, a6, a7⟩ => by go_simp; try with_reducible rfl) ?_
              refine tk 8 rfl (fun wx ⟨a1, a2, a3, a4, a5, a6, a7⟩ => by go_simp; try with_reducible rfl) ?_
              refine tk 9 rfl (fun wx ⟨a1, a2, a3, a4, a5, a6, a7⟩ => by go_simp; try with_reducible rfl) ?_
              clear hS9 hHeld
              generalize wT.drew.drew = wU at *
              refine comes_up2 10 11 rfl rfl (by kernel_rfl) (fun K hK => ?_) (fun K hK => ?_)
              · go_simp
                refine (HOU.out wU (Below.refl wU.heap.size wU)).mono ?_
                rintro e u1 ⟨rfl, b2⟩
                have hT3 : S9d w.heap.size q Fr T u1 := s9_keep HS9.out b2
                have b2c := bl_step (Below.refl wU.heap.size wU) b2
                go_wp2_with fail
                refine hK.out _ _ hT3 (fun hHeld => ?_)
                clear hK K
                (try simp only [Act.put, List.setIfInBounds_toArray, List.set_cons_zero, List.set_cons_succ])
                refine comes_up 11 rfl (by kernel_rfl) (fun K hK => ?_)
                go_simp
                have hT5 : S9d w.heap.size q Fr T ((u1.alloc (.cells #[.int .i64 0, .int .u8 0, .int .i64 0, .int .u64 0, .int .i64 0, .int .u16 0, .int .u64 0, .int .i64 0, .int .u64 0, .int .i64 0, .slice none 0 0, .int .u64 0, .slice none 0 0, .slice none 0 0, .int .u64 0, .int .u64 0] 87))) := s9_keep hT3 (bl1 _ _)
                have b6 : Below wU.heap.size wU (u1.alloc (.cells #[.int .i64 0, .int .u8 0, .int .i64 0, .int .u64 0, .int .i64 0, .int .u16 0, .int .u64 0, .int .i64 0, .int .u64 0, .int .i64 0, .slice none 0 0, .int .u64 0, .slice none 0 0, .slice none 0 0, .int .u64 0, .int .u64 0] 87)) := b2c.alloc b2c.size _
                have hB7 : (u1.alloc (.cells #[.int .i64 0, .int .u8 0, .int .i64 0, .int .u64 0, .int .i64 0, .int .u16 0, .int .u64 0, .int .i64 0, .int .u64 0, .int .i64 0, .slice none 0 0, .int .u64 0, .slice none 0 0, .slice none 0 0, .int .u64 0, .int .u64 0] 87)).heap[u1.heap.size]? = some (.cells #[.int .i64 0, .int .u8 0, .int .i64 0, .int .u64 0, .int .i64 0, .int .u16 0, .int .u64 0, .int .i64 0, .int .u64 0, .int .i64 0, .slice none 0 0, .int .u64 0, .slice none 0 0, .slice none 0 0, .int .u64 0, .int .u64 0] 87 (0, 0)) := heap_alloc_new _ _
                refine hK.out _ _ hT5 (fun hHeld => ?_)
                clear hK K
                (try simp only [Act.put, List.setIfInBounds_toArray, List.set_cons_zero, List.set_cons_succ])
                obtain ⟨u4, hu4⟩ : ∃ u4, u1.alloc (.cells #[.int .i64 0, .int .u8 0, .int .i64 0, .int .u64 0, .int .i64 0, .int .u16 0, .int .u64 0, .int .i64 0, .int .u64 0, .int .i64 0, .slice none 0 0, .int .u64 0, .slice none 0 0, .slice none 0 0, .int .u64 0, .int .u64 0] 87) = u4 := ⟨_, rfl⟩
                rw [hu4] at hT5 b6 hB7 ⊢
                obtain ⟨gu4, hgu4⟩ : ∃ g, u1.heap.size = g := ⟨_, rfl⟩
                have hB7n : wU.heap.size ≤ gu4 := Nat.le_trans b2c.size (Nat.le_of_eq hgu4)
                rw [hgu4] at hB7 ⊢
                clear hu4 hgu4
                obtain ⟨u8, hu8⟩ : ∃ w7, u4.setRow gu4 #[.int .i64 Fr.frm, .int .u8 4, .int .i64 (T.self : Nat), .int .u64 (Fr.idN : Nat), .int .i64 Fr.idP, .int .u16 0, .int .u64 0, .int .i64 0, .int .u64 (T.prom.1 : Nat), .int .i64 T.prom.2, .slice none 0 0, .int .u64 0, .slice none 0 0, .slice none 0 0, .int .u64 0, .int .u64 0] = w7 := ⟨_, rfl⟩
                have bu8 : Below wU.heap.size wU u8 := by rw [← hu8]; exact bl_row b6 hB7n
                have hS7 : S9d w.heap.size q Fr T u8 := s9_keep HS9.out bu8
                have hQ7 : u8.heap[gu4]? = some (.cells #[.int .i64 Fr.frm, .int .u8 4, .int .i64 (T.self : Nat), .int .u64 (Fr.idN : Nat), .int .i64 Fr.idP, .int .u16 0, .int .u64 0, .int .i64 0, .int .u64 (T.prom.1 : Nat), .int .i64 T.prom.2, .slice none 0 0, .int .u64 0, .slice none 0 0, .slice none 0 0, .int .u64 0, .int .u64 0] 87 (0, 0)) := by rw [← hu8]; exact setRow_heap _ _ _ _ 87 (0, 0) hB7
                have HE : Hid (PropPost w F Z q R (.returned (.tuple #[.slice (some ⟨u8.heap.size, 0, none⟩) 1 1, .int .i64 9])) (u8.alloc (.cells #[.int .i64 Fr.frm, .int .u8 4, .int .i64 (T.self : Nat), .int .u64 (Fr.idN : Nat), .int .i64 Fr.idP, .int .u16 0, .int .u64 0, .int .i64 0, .int .u64 (T.prom.1 : Nat), .int .i64 T.prom.2, .slice none 0 0, .int .u64 0, .slice none 0 0, .slice none 0 0, .int .u64 0, .int .u64 0] 87))) := HEND.out u8 bu8
                refine comes_up 12 rfl (by kernel_rfl) (fun K hK => ?_)
                refine step_store_row rfl 87 (.tmp 9) (.tmp 92) rfl gu4 #[.int .i64 Fr.frm, .int .u8 4, .int .i64 (T.self : Nat), .int .u64 (Fr.idN : Nat), .int .i64 Fr.idP, .int .u16 0, .int .u64 0, .int .i64 0, .int .u64 (T.prom.1 : Nat), .int .i64 T.prom.2, .slice none 0 0, .int .u64 0, .slice none 0 0, .slice none 0 0, .int .u64 0, .int .u64 0] rfl rfl 87 _ hB7 info87 rfl (by simp [Value.oneCell']) ?_
                rw [hu8]
                refine hK.out _ _ hS7 (fun hHeld => ?_)
                clear hK K
                (try simp only [Act.put])
                refine wpAnyH_done (by kernel_rfl) ?_ _
                refine NoPanic.normal ?_
                clear hS7 hHeld hu8 bu8 HEND HOU HS9
                go_wp2_with (first | (refine wpList_load_row rfl 87 (.tmp 9) rfl gu4 rfl 87 #[.int .i64 Fr.frm, .int .u8 4, .int .i64 (T.self : Nat), .int .u64 (Fr.idN : Nat), .int .i64 Fr.idP, .int .u16 0, .int .u64 0, .int .i64 0, .int .u64 (T.prom.1 : Nat), .int .i64 T.prom.2, .slice none 0 0, .int .u64 0, .slice none 0 0, .slice none 0 0, .int .u64 0, .int .u64 0] (0, 0) _ hQ7 Tryd.underlying87 rfl info87 ?_))
                go_ret2
                exact HE.out
              · go_simp
                have hT10 : S9d w.heap.size q Fr T ((wU.alloc (.cells #[.int .i64 0, .int .u8 0, .int .i64 0, .int .u64 0, .int .i64 0, .int .u16 0, .int .u64 0, .int .i64 0, .int .u64 0, .int .i64 0, .slice none 0 0, .int .u64 0, .slice none 0 0, .slice none 0 0, .int .u64 0, .int .u64 0] 87))) := s9_keep HS9.out (bl1 _ _)
                have b11 : Below wU.heap.size wU (wU.alloc (.cells #[.int .i64 0, .int .u8 0, .int .i64 0, .int .u64 0, .int .i64 0, .int .u16 0, .int .u64 0, .int .i64 0, .int .u64 0, .int .i64 0, .slice none 0 0, .int .u64 0, .slice none 0 0, .slice none 0 0, .int .u64 0, .int .u64 0] 87)) := (Below.refl wU.heap.size wU).alloc (Below.refl wU.heap.size wU).size _
                have hB12 : (wU.alloc (.cells #[.int .i64 0, .int .u8 0, .int .i64 0, .int .u64 0, .int .i64 0, .int .u16 0, .int .u64 0, .int .i64 0, .int .u64 0, .int .i64 0, .slice none 0 0, .int .u64 0, .slice none 0 0, .slice none 0 0, .int .u64 0, .int .u64 0] 87)).heap[wU.heap.size]? = some (.cells #[.int .i64 0, .int .u8 0, .int .i64 0, .int .u64 0, .int .i64 0, .int .u16 0, .int .u64 0, .int .i64 0, .int .u64 0, .int .i64 0, .slice none 0 0, .int .u64 0, .slice none 0 0, .slice none 0 0, .int .u64 0, .int .u64 0] 87 (0, 0)) := heap_alloc_new _ _
                refine hK.out _ _ hT10 (fun hHeld => ?_)
                clear hK K
                (try simp only [Act.put, List.setIfInBounds_toArray, List.set_cons_zero, List.set_cons_succ])
                obtain ⟨u9, hu9⟩ : ∃ u9, wU.alloc (.cells #[.int .i64 0, .int .u8 0, .int .i64 0, .int .u64 0, .int .i64 0, .int .u16 0, .int .u64 0, .int .i64 0, .int .u64 0, .int .i64 0, .slice none 0 0, .int .u64 0, .slice none 0 0, .slice none 0 0, .int .u64 0, .int .u64 0] 87) = u9 := ⟨_, rfl⟩
                rw [hu9] at hT10 b11 hB12 ⊢
                obtain ⟨gu9, hgu9⟩ : ∃ g, wU.heap.size = g := ⟨_, rfl⟩
                have hB12n : wU.heap.size ≤ gu9 := Nat.le_trans (Below.refl wU.heap.size wU).size (Nat.le_of_eq hgu9)
                rw [hgu9] at hB12 ⊢
                clear hu9 hgu9
                refine comes_up 10 rfl (by kernel_rfl) (fun K hK => ?_)
                go_simp
                refine (HOU.out u9 b11).mono ?_
                rintro e u13 ⟨rfl, b14⟩
                have hT15 : S9d w.heap.size q Fr T u13 := s9_keep hT10 b14
                have b14c := bl_step b11 b14
                go_wp2_with fail
                refine hK.out _ _ hT15 (fun hHeld => ?_)
                clear hK K
                (try simp only [Act.put, List.setIfInBounds_toArray, List.set_cons_zero, List.set_cons_succ])
                have hB12m := (b14.block gu9 (heap_lt hB12)).trans hB12
                have hB12mn := hB12n
                obtain ⟨u16, hu16⟩ : ∃ w7, u13.setRow gu9 #[.int .i64 Fr.frm, .int .u8 4, .int .i64 (T.self : Nat), .int .u64 (Fr.idN : Nat), .int .i64 Fr.idP, .int .u16 0, .int .u64 0, .int .i64 0, .int .u64 (T.prom.1 : Nat), .int .i64 T.prom.2, .slice none 0 0, .int .u64 0, .slice none 0 0, .slice none 0 0, .int .u64 0, .int .u64 0] = w7 := ⟨_, rfl⟩
                have bu16 : Below wU.heap.size wU u16 := by rw [← hu16]; exact bl_row b14c hB12mn
                have hS7 : S9d w.heap.size q Fr T u16 := s9_keep HS9.out bu16
                have hQ7 : u16.heap[gu9]? = some (.cells #[.int .i64 Fr.frm, .int .u8 4, .int .i64 (T.self : Nat), .int .u64 (Fr.idN : Nat), .int .i64 Fr.idP, .int .u16 0, .int .u64 0, .int .i64 0, .int .u64 (T.prom.1 : Nat), .int .i64 T.prom.2, .slice none 0 0, .int .u64 0, .slice none 0 0, .slice none 0 0, .int .u64 0, .int .u64 0] 87 (0, 0)) := by rw [← hu16]; exact setRow_heap _ _ _ _ 87 (0, 0) hB12m
                have HE : Hid (PropPost w F Z q R (.returned (.tuple #[.slice (some ⟨u16.heap.size, 0, none⟩) 1 1, .int .i64 9])) (u16.alloc (.cells #[.int .i64 Fr.frm, .int .u8 4, .int .i64 (T.self : Nat), .int .u64 (Fr.idN : Nat), .int .i64 Fr.idP, .int .u16 0, .int .u64 0, .int .i64 0, .int .u64 (T.prom.1 : Nat), .int .i64 T.prom.2, .slice none 0 0, .int .u64 0, .slice none 0 0, .slice none 0 0, .int .u64 0, .int .u64 0] 87))) := HEND.out u16 bu16
                refine comes_up 12 rfl (by kernel_rfl) (fun K hK => ?_)
                refine step_store_row rfl 87 (.tmp 9) (.tmp 92) rfl gu9 #[.int .i64 Fr.frm, .int .u8 4, .int .i64 (T.self : Nat), .int .u64 (Fr.idN : Nat), .int .i64 Fr.idP, .int .u16 0, .int .u64 0, .int .i64 0, .int .u64 (T.prom.1 : Nat), .int .i64 T.prom.2, .slice none 0 0, .int .u64 0, .slice none 0 0, .slice none 0 0, .int .u64 0, .int .u64 0] rfl rfl 87 _ hB12m info87 rfl (by simp [Value.oneCell']) ?_
                rw [hu16]
                refine hK.out _ _ hS7 (fun hHeld => ?_)
                clear hK K
                (try simp only [Act.put])
                refine wpAnyH_done (by kernel_rfl) ?_ _
                refine NoPanic.normal ?_
                clear hS7 hHeld hu16 bu16 HEND HOU HS9
                go_wp2_with (first | (refine wpList_load_row rfl 87 (.tmp 9) rfl gu9 rfl 87 #[.int .i64 Fr.frm, .int .u8 4, .int .i64 (T.self : Nat), .int .u64 (Fr.idN : Nat), .int .i64 Fr.idP, .int .u16 0, .int .u64 0, .int .i64 0, .int .u64 (T.prom.1 : Nat), .int .i64 T.prom.2, .slice none 0 0, .int .u64 0, .slice none 0 0, .slice none 0 0, .int .u64 0, .int .u64 0] (0, 0) _ hQ7 Tryd.underlying87 rfl info87 ?_))
                go_ret2
                exact HE.out
            · rw [show decide (Fr.id = T.cur) = false by simpa using ec] at hqc
              have HR : Hid (R = ⟨T, [(i, T.yes Fr d)], none, 0⟩) := HRY.out HTP.out ec
              clear ec HRN HRY
              go_wp2_with fail
              refine wp_region_noPanic ?_
              refine wp_region_held_drew (S := fun wx => S9d w.heap.size q Fr T wx) (by kernel_rfl) hS8 (fun hHeld => ?_)
              refine tk 0 rfl (fun wx ⟨a1, a2, a3, a4, a5, a6, a7⟩ => by go_simp; try with_reducible rfl) ?_
              refine tk 1 rfl (fun wx ⟨a1, a2, a3, a4, a5, a6, a7⟩ => by go_simp; try with_reducible rfl) ?_
              refine tk 2 rfl (fun wx ⟨a1, a2, a3, a4, a5, a6, a7⟩ => by go_simp; try with_reducible rfl) ?_
              refine tk 3 rfl (fun wx ⟨a1, a2, a3, a4, a5, a6, a7⟩ => by go_simp; try with_reducible rfl) ?_
              refine tk 4 rfl (fun wx ⟨a1, a2, a3, a4, a5, a6, a7⟩ => by go_simp; try with_reducible rfl) ?_
              refine tk 5 rfl (fun wx ⟨a1, a2, a3, a4, a5, a6, a7⟩ => by go_simp; try with_reducible rfl) ?_
              refine tk 6 rfl (fun wx ⟨a1, a2, a3, a4, a5, a6, a7⟩ => by go_simp; try with_reducible rfl) ?_
              refine tk 7 rfl (fun wx ⟨a1, a2, a3, a4, a5, a6, a7⟩ => by go_simp; try with_reducible rfl) ?_
              refine tk 8 rfl (fun wx ⟨a1, a2, a3, a4, a5, a6, a7⟩ => by go_simp; try with_reducible rfl) ?_
              refine tk 9 rfl (fun wx ⟨a1, a2, a3, a4, a5, a6, a7⟩ => by go_simp; try with_reducible rfl) ?_
              refine tk 10 rfl (fun wx ⟨a1, a2, a3, a4, a5, a6, a7⟩ => by go_simp; try with_reducible rfl) ?_
              refine tk 11 rfl (fun wx ⟨a1, a2, a3, a4, a5, a6, a7⟩ => by go_simp; try with_reducible rfl) ?_
              refine tk 12 rfl (fun wx ⟨a1, a2, a3, a4, a5, a6, a7⟩ => by go_simp; try with_reducible rfl) ?_
              refine tk 13 rfl (fun wx ⟨a1, a2, a3, a4, a5, a6, a7⟩ => by go_simp; try with_reducible rfl) ?_
              refine tk 14 rfl (fun wx ⟨a1, a2, a3, a4, a5, a6, a7⟩ => by go_simp; try with_reducible rfl) ?_
              refine tk 15 rfl (fun wx ⟨a1, a2, a3, a4, a5, a6, a7⟩ => by go_simp; try with_reducible rfl) ?_
              refine tk 16 rfl (fun wx ⟨a1, a2, a3, a4, a5, a6, a7⟩ => by go_simp; try with_reducible rfl) ?_
              refine wpAnyH_done (by kernel_rfl) ?_ _
              refine NoPanic.normal ?_
              clear hS8
              clear hHeld hqp hqc
              have HS11 : Hid (S11d w.heap.size Fr x wT.drew.drew) := ⟨HT.out.2.2.2.2.1, HT.out.2.2.2.2.2.1, HT.out.2.2.2.2.2.2.1, heap_cell (j := 0) HT.out.2.2.2.1 rfl, heap_cell (j := 1) HT.out.2.2.2.1 rfl, heap_cell (j := 2) HT.out.2.2.2.1 rfl, heap_cell (j := 3) HT.out.2.2.2.1 rfl⟩
              have HCP : Hid (∀ W, Below wT.drew.drew.heap.size wT.drew.drew W → Calls Tryd.prog 73 #[.agg #[.int .u64 (x.1 : Nat), .int .i64 x.2.1, .int .i64 x.2.2.1, .slice x.2.2.2.1 x.2.2.2.2.1 x.2.2.2.2.2]] W fun e w' => ∃ ao' cap', e = .returned (.agg #[.int .u64 (x.1 : Nat), .int .i64 x.2.1, .int .i64 x.2.2.1, .slice ao' x.2.2.2.2.1 cap']) ∧ Si (fun b => W.heap.size ≤ b) w' (x.1, x.2.1, x.2.2.1, ao', x.2.2.2.2.1, cap') d ∧ Below W.heap.size W w') := fun W u =>
                copied3_any Z W x d (HT.out.2.2.1.keep (Kp.up (⟨u.os, u.tape, u.output, u.size, u.block⟩ : Below wT.heap.size wT W)))
              have HOU : Hid (∀ W, Below wT.drew.drew.heap.size wT.drew.drew W → ∀ gs, Calls Tryd.prog 72 #[.pointer (some ⟨q, 0, none⟩), .int .i64 Fr.frm, .agg #[.int .u8 3, .int .i64 0, .int .u64 (Fr.idN : Nat), .int .i64 Fr.idP, .int .u16 0, .int .u64 0, .int .i64 0, .int .u64 0, .int .i64 0, .slice (some ⟨gs, 0, none⟩) 1 1, .int .u64 0, .slice none 0 0, .slice none 0 0, .int .u64 0, .int .u64 0]] W fun e w' => e = .returned (.agg #[.int .i64 Fr.frm, .int .u8 3, .int .i64 (T.self : Nat), .int .u64 (Fr.idN : Nat), .int .i64 Fr.idP, .int .u16 0, .int .u64 0, .int .i64 0, .int .u64 0, .int .i64 0, .slice (some ⟨gs, 0, none⟩) 1 1, .int .u64 0, .slice none 0 0, .slice none 0 0, .int .u64 0, .int .u64 0]) ∧ Below W.heap.size W w') := fun W u gs => by
                have hou := out_any (HT.out.1.still (⟨u.os, u.tape, u.output, u.size, u.block⟩ : Below wT.heap.size wT W)) i { zeroF with kind := 3, idN := Fr.idN, idP := Fr.idP, st := [d] } ⟨some ⟨gs, 0, none⟩, 1, none, 0, none, 0⟩
                unfold oval ocells fval fcells PF.by_ at hou
                rw [← HFR.out] at hou
                exact hou
              have HEND : Hid (∀ W, Below wT.drew.drew.heap.size wT.drew.drew W → ∀ gs ao5 cap5, W.heap[gs]? = some (.cells #[.int .u64 (x.1 : Nat), .int .i64 x.2.1, .int .i64 x.2.2.1, .slice ao5 x.2.2.2.2.1 cap5] 45 (0, 0)) → Si (fun b => wT.drew.drew.heap.size ≤ b) W (x.1, x.2.1, x.2.2.1, ao5, x.2.2.2.2.1, cap5) d → wT.drew.drew.heap.size ≤ gs → PropPost w F Z q R (.returned (.tuple #[.slice (some ⟨W.heap.size, 0, none⟩) 1 1, .int .i64 0])) (W.alloc (.cells #[.int .i64 Fr.frm, .int .u8 3, .int .i64 (T.self : Nat), .int .u64 (Fr.idN : Nat), .int .i64 Fr.idP, .int .u16 0, .int .u64 0, .int .i64 0, .int .u64 0, .int .i64 0, .slice (some ⟨gs, 0, none⟩) 1 1, .int .u64 0, .slice none 0 0, .slice none 0 0, .int .u64 0, .int .u64 0] 87))) := fun W u gs ao5 cap5 h1 h2 h3 => by
                rw [HR.out]
                have b7 : Below wT.heap.size wT W := ⟨u.os, u.tape, u.output, u.size, u.block⟩
                have b8 : Below wT.heap.size wT (W.alloc (.cells #[.int .i64 Fr.frm, .int .u8 3, .int .i64 (T.self : Nat), .int .u64 (Fr.idN : Nat), .int .i64 Fr.idP, .int .u16 0, .int .u64 0, .int .i64 0, .int .u64 0, .int .i64 0, .slice (some ⟨gs, 0, none⟩) 1 1, .int .u64 0, .slice none 0 0, .slice none 0 0, .int .u64 0, .int .u64 0] 87)) := b7.alloc b7.size _
                refine ⟨_, rfl, F, nz Z wT (W.alloc (.cells #[.int .i64 Fr.frm, .int .u8 3, .int .i64 (T.self : Nat), .int .u64 (Fr.idN : Nat), .int .i64 Fr.idP, .int .u16 0, .int .u64 0, .int .i64 0, .int .u64 0, .int .i64 0, .slice (some ⟨gs, 0, none⟩) 1 1, .int .u64 0, .slice none 0 0, .slice none 0 0, .int .u64 0, .int .u64 0] 87)), oT, HT.out.2.1.trans (Sp.up b8 HT.out.1.zl), HT.out.1.up b8, ?_, rfl⟩
                refine outs_one (L := (i, T.yes Fr d, ⟨some ⟨gs, 0, none⟩, 1, none, 0, none, 0⟩)) rfl ?_ (.inr ⟨b7.size, by simp⟩) (Nat.le_trans HT.out.1.tab.lt b7.size) ?_
                · have := heap_alloc_new W (.cells #[.int .i64 Fr.frm, .int .u8 3, .int .i64 (T.self : Nat), .int .u64 (Fr.idN : Nat), .int .i64 Fr.idP, .int .u16 0, .int .u64 0, .int .i64 0, .int .u64 0, .int .i64 0, .slice (some ⟨gs, 0, none⟩) 1 1, .int .u64 0, .slice none 0 0, .slice none 0 0, .int .u64 0, .int .u64 0] 87)
                  rw [HFR.out] at this ⊢
                  exact this
                · have hlt := heap_lt h1
                  refine ss_one (x := (x.1, x.2.1, x.2.2.1, ao5, x.2.2.2.2.1, cap5)) ((Below.heap_alloc _ _ _ hlt).trans h1) (.inr ⟨h3, by simp; omega⟩) ?_
                  exact ((h2.imp (q := fun b => wT.drew.drew.heap.size ≤ b ∧ b < W.heap.size) (fun b hl hb => ⟨hb, hl⟩)).keep (Kp.up (bl1 W _))).imp (fun b _ hb => .inr ⟨hb.1, by have := hb.2; simp; omega⟩)
              have hS11 := HS11.out
              clear HR
              go_wp2_with fail
              refine wp_region_noPanic ?_
              refine wp_region_held_drew (S := fun wx => S11d w.heap.size Fr x wx) (by kernel_rfl) hS11 (fun hHeld => ?_)
              refine tk 0 rfl (fun wx ⟨a1, a2, a3, a4, a5, a6, a7⟩ => by go_simp; try with_reducible rfl) ?_
              refine tk 1 rfl (fun wx ⟨a1, a2, a3, a4, a5, a6, a7⟩ => by go_simp; try with_reducible rfl) ?_
              refine tk 2 rfl (fun wx ⟨a1, a2, a3, a4, a5, a6, a7⟩ => by go_simp; try with_reducible rfl) ?_
              refine tk 3 rfl (fun wx ⟨a1, a2, a3, a4, a5, a6, a7⟩ => by go_simp; try with_reducible rfl) ?_
              refine tk 4 rfl (fun wx ⟨a1, a2, a3, a4, a5, a6, a7⟩ => by go_simp; try with_reducible rfl) ?_
              refine tk 5 rfl (fun wx ⟨a1, a2, a3, a4, a5, a6, a7⟩ => by go_simp; try with_reducible rfl) ?_
              clear hS11 hHeld
              generalize wT.drew.drew = wU at *
              refine comes_up2 6 10 rfl rfl (by kernel_rfl) (fun K hK => ?_) (fun K hK => ?_)
              · go_simp
                refine (HCP.out wU (Below.refl wU.heap.size wU)).mono ?_
                rintro e u31 ⟨ao5, cap5, rfl, hsi5, b32⟩
                have hT33 : S11d w.heap.size Fr x u31 := s11_keep HS11.out b32
                have b32c := bl_step (Below.refl wU.heap.size wU) b32
                have hsi5c : Si (fun b => wU.heap.size ≤ b) u31 (x.1, x.2.1, x.2.2.1, ao5, x.2.2.2.2.1, cap5) d := hsi5.imp (fun b _ hb => Nat.le_trans (Below.refl wU.heap.size wU).size hb)
                clear hsi5
                go_wp2_with fail
                refine hK.out _ _ hT33 (fun hHeld => ?_)
                clear hK K
                (try simp only [Act.put, List.setIfInBounds_toArray, List.set_cons_zero, List.set_cons_succ])
                refine comes_up2 7 10 rfl rfl (by kernel_rfl) (fun K hK => ?_) (fun K hK => ?_)
                · go_simp
                  have hT35 : S11d w.heap.size Fr x ((u31.alloc (.cells #[.int .u64 (x.1 : Nat), .int .i64 x.2.1, .int .i64 x.2.2.1, .slice ao5 x.2.2.2.2.1 cap5] 45))) := s11_keep hT33 (bl1 _ _)
                  have b36 : Below u31.heap.size u31 (u31.alloc (.cells #[.int .u64 (x.1 : Nat), .int .i64 x.2.1, .int .i64 x.2.2.1, .slice ao5 x.2.2.2.2.1 cap5] 45)) := bl1 _ _
                  have hBs : (u31.alloc (.cells #[.int .u64 (x.1 : Nat), .int .i64 x.2.1, .int .i64 x.2.2.1, .slice ao5 x.2.2.2.2.1 cap5] 45)).heap[u31.heap.size]? = some (.cells #[.int .u64 (x.1 : Nat), .int .i64 x.2.1, .int .i64 x.2.2.1, .slice ao5 x.2.2.2.2.1 cap5] 45 (0, 0)) := heap_alloc_new _ _
                  have hBsn : wU.heap.size ≤ u31.heap.size := b32c.size
                  refine hK.out _ _ hT35 (fun hHeld => ?_)
                  clear hK K
                  (try simp only [Act.put, List.setIfInBounds_toArray, List.set_cons_zero, List.set_cons_succ])
                  obtain ⟨u34, hu34⟩ : ∃ u34, u31.alloc (.cells #[.int .u64 (x.1 : Nat), .int .i64 x.2.1, .int .i64 x.2.2.1, .slice ao5 x.2.2.2.2.1 cap5] 45) = u34 := ⟨_, rfl⟩
                  rw [hu34] at hT35 b36 hBs ⊢
                  obtain ⟨gs, hgs⟩ : ∃ g, u31.heap.size = g := ⟨_, rfl⟩
                  have b36c := bl_step b32c b36
                  replace hsi5c := hsi5c.keep (Kp.up b36)
                  rw [hgs] at hBs hBsn ⊢
                  clear hu34 hgs
                  have HS1 : Hid (u34.heap[gs]? = some (.cells #[.int .u64 (x.1 : Nat), .int .i64 x.2.1, .int .i64 x.2.2.1, .slice ao5 x.2.2.2.2.1 cap5] 45 (0, 0)) ∧ Si (fun b => wU.heap.size ≤ b) u34 (x.1, x.2.1, x.2.2.1, ao5, x.2.2.2.2.1, cap5) d ∧ wU.heap.size ≤ gs) := ⟨hBs, hsi5c, hBsn⟩
                  clear hBs hsi5c hBsn
                  refine tk 8 rfl (fun wx ⟨a1, a2, a3, a4, a5, a6, a7⟩ => by go_simp; try with_reducible rfl) ?_
                  refine comes_up2 9 10 rfl rfl (by kernel_rfl) (fun K hK => ?_) (fun K hK => ?_)
                  · go_simp
                    refine (HOU.out u34 b36c gs).mono ?_
                    rintro e u37 ⟨rfl, b38⟩
                    have hT39 : S11d w.heap.size Fr x u37 := s11_keep hT35 b38
                    have b38c := bl_step b36c b38
                    replace HS1 : Hid (u37.heap[gs]? = some (.cells #[.int .u64 (x.1 : Nat), .int .i64 x.2.1, .int .i64 x.2.2.1, .slice ao5 x.2.2.2.2.1 cap5] 45 (0, 0)) ∧ Si (fun b => wU.heap.size ≤ b) u37 (x.1, x.2.1, x.2.2.1, ao5, x.2.2.2.2.1, cap5) d ∧ wU.heap.size ≤ gs) := ⟨(b38.block gs (heap_lt HS1.out.1)).trans HS1.out.1, HS1.out.2.1.keep (Kp.up b38), HS1.out.2.2⟩
                    go_wp2_with fail
                    refine hK.out _ _ hT39 (fun hHeld => ?_)
                    clear hK K
                    (try simp only [Act.put, List.setIfInBounds_toArray, List.set_cons_zero, List.set_cons_succ])
                    refine comes_up 10 rfl (by kernel_rfl) (fun K hK => ?_)
                    go_simp
                    have hT41 : S11d w.heap.size Fr x ((u37.alloc (.cells #[.int .i64 0, .int .u8 0, .int .i64 0, .int .u64 0, .int .i64 0, .int .u16 0, .int .u64 0, .int .i64 0, .int .u64 0, .int .i64 0, .slice none 0 0, .int .u64 0, .slice none 0 0, .slice none 0 0, .int .u64 0, .int .u64 0] 87))) := s11_keep hT39 (bl1 _ _)
                    have b42 : Below u37.heap.size u37 (u37.alloc (.cells #[.int .i64 0, .int .u8 0, .int .i64 0, .int .u64 0, .int .i64 0, .int .u16 0, .int .u64 0, .int .i64 0, .int .u64 0, .int .i64 0, .slice none 0 0, .int .u64 0, .slice none 0 0, .slice none 0 0, .int .u64 0, .int .u64 0] 87)) := bl1 _ _
                    have hB43 : (u37.alloc (.cells #[.int .i64 0, .int .u8 0, .int .i64 0, .int .u64 0, .int .i64 0, .int .u16 0, .int .u64 0, .int .i64 0, .int .u64 0, .int .i64 0, .slice none 0 0, .int .u64 0, .slice none 0 0, .slice none 0 0, .int .u64 0, .int .u64 0] 87)).heap[u37.heap.size]? = some (.cells #[.int .i64 0, .int .u8 0, .int .i64 0, .int .u64 0, .int .i64 0, .int .u16 0, .int .u64 0, .int .i64 0, .int .u64 0, .int .i64 0, .slice none 0 0, .int .u64 0, .slice none 0 0, .slice none 0 0, .int .u64 0, .int .u64 0] 87 (0, 0)) := heap_alloc_new _ _
                    refine hK.out _ _ hT41 (fun hHeld => ?_)
                    clear hK K
                    (try simp only [Act.put, List.setIfInBounds_toArray, List.set_cons_zero, List.set_cons_succ])
                    obtain ⟨u40, hu40⟩ : ∃ u40, u37.alloc (.cells #[.int .i64 0, .int .u8 0, .int .i64 0, .int .u64 0, .int .i64 0, .int .u16 0, .int .u64 0, .int .i64 0, .int .u64 0, .int .i64 0, .slice none 0 0, .int .u64 0, .slice none 0 0, .slice none 0 0, .int .u64 0, .int .u64 0] 87) = u40 := ⟨_, rfl⟩
                    rw [hu40] at hT41 b42 hB43 ⊢
                    have b42c := bl_step b38c b42
                    obtain ⟨gu40, hgu40⟩ : ∃ g, u37.heap.size = g := ⟨_, rfl⟩
                    replace HS1 : Hid (u40.heap[gs]? = some (.cells #[.int .u64 (x.1 : Nat), .int .i64 x.2.1, .int .i64 x.2.2.1, .slice ao5 x.2.2.2.2.1 cap5] 45 (0, 0)) ∧ Si (fun b => wU.heap.size ≤ b ∧ b ≠ gu40) u40 (x.1, x.2.1, x.2.2.1, ao5, x.2.2.2.2.1, cap5) d ∧ wU.heap.size ≤ gs) := ⟨(b42.block gs (heap_lt HS1.out.1)).trans HS1.out.1, (HS1.out.2.1.imp (q := fun b => wU.heap.size ≤ b ∧ b ≠ gu40) (fun b hl hb => ⟨hb, by omega⟩)).keep (Kp.up b42), HS1.out.2.2⟩
                    have hB43n : wU.heap.size ≤ gu40 := Nat.le_trans b38c.size (Nat.le_of_eq hgu40)
                    rw [hgu40] at hB43 ⊢
                    clear hu40 hgu40
                    obtain ⟨u44, hu44⟩ : ∃ w7, u40.setRow gu40 #[.int .i64 Fr.frm, .int .u8 3, .int .i64 (T.self : Nat), .int .u64 (Fr.idN : Nat), .int .i64 Fr.idP, .int .u16 0, .int .u64 0, .int .i64 0, .int .u64 0, .int .i64 0, .slice (some ⟨gs, 0, none⟩) 1 1, .int .u64 0, .slice none 0 0, .slice none 0 0, .int .u64 0, .int .u64 0] = w7 := ⟨_, rfl⟩
                    have bu44 : Below wU.heap.size wU u44 := by rw [← hu44]; exact bl_row b42c hB43n
                    have hS7 : S11d w.heap.size Fr x u44 := s11_keep HS11.out bu44
                    have hQ7 : u44.heap[gu40]? = some (.cells #[.int .i64 Fr.frm, .int .u8 3, .int .i64 (T.self : Nat), .int .u64 (Fr.idN : Nat), .int .i64 Fr.idP, .int .u16 0, .int .u64 0, .int .i64 0, .int .u64 0, .int .i64 0, .slice (some ⟨gs, 0, none⟩) 1 1, .int .u64 0, .slice none 0 0, .slice none 0 0, .int .u64 0, .int .u64 0] 87 (0, 0)) := by rw [← hu44]; exact setRow_heap _ _ _ _ 87 (0, 0) hB43
                    have hgne : gs ≠ gu40 := fun e => by have h1 := HS1.out.1; rw [e, hB43] at h1; simp at h1
                    have HE : Hid (PropPost w F Z q R (.returned (.tuple #[.slice (some ⟨u44.heap.size, 0, none⟩) 1 1, .int .i64 0])) (u44.alloc (.cells #[.int .i64 Fr.frm, .int .u8 3, .int .i64 (T.self : Nat), .int .u64 (Fr.idN : Nat), .int .i64 Fr.idP, .int .u16 0, .int .u64 0, .int .i64 0, .int .u64 0, .int .i64 0, .slice (some ⟨gs, 0, none⟩) 1 1, .int .u64 0, .slice none 0 0, .slice none 0 0, .int .u64 0, .int .u64 0] 87))) :=
                      HEND.out u44 bu44 gs ao5 cap5 (by rw [← hu44, setRow_other _ _ _ _ hgne]; exact HS1.out.1) (by rw [← hu44]; exact (HS1.out.2.1.keep (kp_row (fun b hb => hb.2))).imp (fun b _ hb => hb.1)) HS1.out.2.2
                    refine comes_up 11 rfl (by kernel_rfl) (fun K hK => ?_)
                    refine step_store_row rfl 87 (.tmp 10) (.tmp 104) rfl gu40 #[.int .i64 Fr.frm, .int .u8 3, .int .i64 (T.self : Nat), .int .u64 (Fr.idN : Nat), .int .i64 Fr.idP, .int .u16 0, .int .u64 0, .int .i64 0, .int .u64 0, .int .i64 0, .slice (some ⟨gs, 0, none⟩) 1 1, .int .u64 0, .slice none 0 0, .slice none 0 0, .int .u64 0, .int .u64 0] rfl rfl 87 _ hB43 info87 rfl (by simp [Value.oneCell']) ?_
                    rw [hu44]
                    refine hK.out _ _ hS7 (fun hHeld => ?_)
                    clear hK K
                    (try simp only [Act.put])
                    refine wpAnyH_done (by kernel_rfl) ?_ _
                    refine NoPanic.normal ?_
                    clear hS7 hHeld hu44 bu44 HEND HOU HS11 HCP HS1
                    go_wp2_with (first | (refine wpList_load_row rfl 87 (.tmp 10) rfl gu40 rfl 87 #[.int .i64 Fr.frm, .int .u8 3, .int .i64 (T.self : Nat), .int .u64 (Fr.idN : Nat), .int .i64 Fr.idP, .int .u16 0, .int .u64 0, .int .i64 0, .int .u64 0, .int .i64 0, .slice (some ⟨gs, 0, none⟩) 1 1, .int .u64 0, .slice none 0 0, .slice none 0 0, .int .u64 0, .int .u64 0] (0, 0) _ hQ7 Tryd.underlying87 rfl info87 ?_))
                    go_ret2
                    exact HE.out
                  · go_simp
                    have hT46 : S11d w.heap.size Fr x ((u34.alloc (.cells #[.int .i64 0, .int .u8 0, .int .i64 0, .int .u64 0, .int .i64 0, .int .u16 0, .int .u64 0, .int .i64 0, .int .u64 0, .int .i64 0, .slice none 0 0, .int .u64 0, .slice none 0 0, .slice none 0 0, .int .u64 0, .int .u64 0] 87))) := s11_keep hT35 (bl1 _ _)
                    have b47 : Below u34.heap.size u34 (u34.alloc (.cells #[.int .i64 0, .int .u8 0, .int .i64 0, .int .u64 0, .int .i64 0, .int .u16 0, .int .u64 0, .int .i64 0, .int .u64 0, .int .i64 0, .slice none 0 0, .int .u64 0, .slice none 0 0, .slice none 0 0, .int .u64 0, .int .u64 0] 87)) := bl1 _ _
                    have hB48 : (u34.alloc (.cells #[.int .i64 0, .int .u8 0, .int .i64 0, .int .u64 0, .int .i64 0, .int .u16 0, .int .u64 0, .int .i64 0, .int .u64 0, .int .i64 0, .slice none 0 0, .int .u64 0, .slice none 0 0, .slice none 0 0, .int .u64 0, .int .u64 0] 87)).heap[u34.heap.size]? = some (.cells #[.int .i64 0, .int .u8 0, .int .i64 0, .int .u64 0, .int .i64 0, .int .u16 0, .int .u64 0, .int .i64 0, .int .u64 0, .int .i64 0, .slice none 0 0, .int .u64 0, .slice none 0 0, .slice none 0 0, .int .u64 0, .int .u64 0] 87 (0, 0)) := heap_alloc_new _ _
                    refine hK.out _ _ hT46 (fun hHeld => ?_)
                    clear hK K
                    (try simp only [Act.put, List.setIfInBounds_toArray, List.set_cons_zero, List.set_cons_succ])
                    obtain ⟨u45, hu45⟩ : ∃ u45, u34.alloc (.cells #[.int .i64 0, .int .u8 0, .int .i64 0, .int .u64 0, .int .i64 0, .int .u16 0, .int .u64 0, .int .i64 0, .int .u64 0, .int .i64 0, .slice none 0 0, .int .u64 0, .slice none 0 0, .slice none 0 0, .int .u64 0, .int .u64 0] 87) = u45 := ⟨_, rfl⟩
                    rw [hu45] at hT46 b47 hB48 ⊢
                    have b47c := bl_step b36c b47
                    obtain ⟨gu45, hgu45⟩ : ∃ g, u34.heap.size = g := ⟨_, rfl⟩
                    replace HS1 : Hid (u45.heap[gs]? = some (.cells #[.int .u64 (x.1 : Nat), .int .i64 x.2.1, .int .i64 x.2.2.1, .slice ao5 x.2.2.2.2.1 cap5] 45 (0, 0)) ∧ Si (fun b => wU.heap.size ≤ b ∧ b ≠ gu45) u45 (x.1, x.2.1, x.2.2.1, ao5, x.2.2.2.2.1, cap5) d ∧ wU.heap.size ≤ gs) := ⟨(b47.block gs (heap_lt HS1.out.1)).trans HS1.out.1, (HS1.out.2.1.imp (q := fun b => wU.heap.size ≤ b ∧ b ≠ gu45) (fun b hl hb => ⟨hb, by omega⟩)).keep (Kp.up b47), HS1.out.2.2⟩
                    have hB48n : wU.heap.size ≤ gu45 := Nat.le_trans b36c.size (Nat.le_of_eq hgu45)
                    rw [hgu45] at hB48 ⊢
                    clear hu45 hgu45
                    refine comes_up 9 rfl (by kernel_rfl) (fun K hK => ?_)
                    go_simp
                    refine (HOU.out u45 b47c gs).mono ?_
                    rintro e u49 ⟨rfl, b50⟩
                    have hT51 : S11d w.heap.size Fr x u49 := s11_keep hT46 b50
                    have b50c := bl_step b47c b50
                    replace hB48 := (b50.block gu45 (heap_lt hB48)).trans hB48
                    replace HS1 : Hid (u49.heap[gs]? = some (.cells #[.int .u64 (x.1 : Nat), .int .i64 x.2.1, .int .i64 x.2.2.1, .slice ao5 x.2.2.2.2.1 cap5] 45 (0, 0)) ∧ Si (fun b => wU.heap.size ≤ b ∧ b ≠ gu45) u49 (x.1, x.2.1, x.2.2.1, ao5, x.2.2.2.2.1, cap5) d ∧ wU.heap.size ≤ gs) := ⟨(b50.block gs (heap_lt HS1.out.1)).trans HS1.out.1, HS1.out.2.1.keep (Kp.up b50), HS1.out.2.2⟩
                    go_wp2_with fail
                    refine hK.out _ _ hT51 (fun hHeld => ?_)
                    clear hK K
                    (try simp only [Act.put, List.setIfInBounds_toArray, List.set_cons_zero, List.set_cons_succ])
                    obtain ⟨u52, hu52⟩ : ∃ w7, u49.setRow gu45 #[.int .i64 Fr.frm, .int .u8 3, .int .i64 (T.self : Nat), .int .u64 (Fr.idN : Nat), .int .i64 Fr.idP, .int .u16 0, .int .u64 0, .int .i64 0, .int .u64 0, .int .i64 0, .slice (some ⟨gs, 0, none⟩) 1 1, .int .u64 0, .slice none 0 0, .slice none 0 0, .int .u64 0, .int .u64 0] = w7 := ⟨_, rfl⟩
                    have bu52 : Below wU.heap.size wU u52 := by rw [← hu52]; exact bl_row b50c hB48n
                    have hS7 : S11d w.heap.size Fr x u52 := s11_keep HS11.out bu52
                    have hQ7 : u52.heap[gu45]? = some (.cells #[.int .i64 Fr.frm, .int .u8 3, .int .i64 (T.self : Nat), .int .u64 (Fr.idN : Nat), .int .i64 Fr.idP, .int .u16 0, .int .u64 0, .int .i64 0, .int .u64 0, .int .i64 0, .slice (some ⟨gs, 0, none⟩) 1 1, .int .u64 0, .slice none 0 0, .slice none 0 0, .int .u64 0, .int .u64 0] 87 (0, 0)) := by rw [← hu52]; exact setRow_heap _ _ _ _ 87 (0, 0) hB48
                    have hgne : gs ≠ gu45 := fun e => by have h1 := HS1.out.1; rw [e, hB48] at h1; simp at h1
                    have HE : Hid (PropPost w F Z q R (.returned (.tuple #[.slice (some ⟨u52.heap.size, 0, none⟩) 1 1, .int .i64 0])) (u52.alloc (.cells #[.int .i64 Fr.frm, .int .u8 3, .int .i64 (T.self : Nat), .int .u64 (Fr.idN : Nat), .int .i64 Fr.idP, .int .u16 0, .int .u64 0, .int .i64 0, .int .u64 0, .int .i64 0, .slice (some ⟨gs, 0, none⟩) 1 1, .int .u64 0, .slice none 0 0, .slice none 0 0, .int .u64 0, .int .u64 0] 87))) :=
                      HEND.out u52 bu52 gs ao5 cap5 (by rw [← hu52, setRow_other _ _ _ _ hgne]; exact HS1.out.1) (by rw [← hu52]; exact (HS1.out.2.1.keep (kp_row (fun b hb => hb.2))).imp (fun b _ hb => hb.1)) HS1.out.2.2
                    refine comes_up 11 rfl (by kernel_rfl) (fun K hK => ?_)
                    refine step_store_row rfl 87 (.tmp 10) (.tmp 104) rfl gu45 #[.int .i64 Fr.frm, .int .u8 3, .int .i64 (T.self : Nat), .int .u64 (Fr.idN : Nat), .int .i64 Fr.idP, .int .u16 0, .int .u64 0, .int .i64 0, .int .u64 0, .int .i64 0, .slice (some ⟨gs, 0, none⟩) 1 1, .int .u64 0, .slice none 0 0, .slice none 0 0, .int .u64 0, .int .u64 0] rfl rfl 87 _ hB48 info87 rfl (by simp [Value.oneCell']) ?_
                    rw [hu52]
                    refine hK.out _ _ hS7 (fun hHeld => ?_)
                    clear hK K
                    (try simp only [Act.put])
                    refine wpAnyH_done (by kernel_rfl) ?_ _
                    refine NoPanic.normal ?_
                    clear hS7 hHeld hu52 bu52 HEND HOU HS11 HCP HS1
                    go_wp2_with (first | (refine wpList_load_row rfl 87 (.tmp 10) rfl gu45 rfl 87 #[.int .i64 Fr.frm, .int .u8 3, .int .i64 (T.self : Nat), .int .u64 (Fr.idN : Nat), .int .i64 Fr.idP, .int .u16 0, .int .u64 0, .int .i64 0, .int .u64 0, .int .i64 0, .slice (some ⟨gs, 0, none⟩) 1 1, .int .u64 0, .slice none 0 0, .slice none 0 0, .int .u64 0, .int .u64 0] (0, 0) _ hQ7 Tryd.underlying87 rfl info87 ?_))
                    go_ret2
                    exact HE.out
                · go_simp
                  have hT54 : S11d w.heap.size Fr x ((u31.alloc (.cells #[.int .i64 0, .int .u8 0, .int .i64 0, .int .u64 0, .int .i64 0, .int .u16 0, .int .u64 0, .int .i64 0, .int .u64 0, .int .i64 0, .slice none 0 0, .int .u64 0, .slice none 0 0, .slice none 0 0, .int .u64 0, .int .u64 0] 87))) := s11_keep hT33 (bl1 _ _)
                  have b55 : Below u31.heap.size u31 (u31.alloc (.cells #[.int .i64 0, .int .u8 0, .int .i64 0, .int .u64 0, .int .i64 0, .int .u16 0, .int .u64 0, .int .i64 0, .int .u64 0, .int .i64 0, .slice none 0 0, .int .u64 0, .slice none 0 0, .slice none 0 0, .int .u64 0, .int .u64 0] 87)) := bl1 _ _
                  have hB56 : (u31.alloc (.cells #[.int .i64 0, .int .u8 0, .int .i64 0, .int .u64 0, .int .i64 0, .int .u16 0, .int .u64 0, .int .i64 0, .int .u64 0, .int .i64 0, .slice none 0 0, .int .u64 0, .slice none 0 0, .slice none 0 0, .int .u64 0, .int .u64 0] 87)).heap[u31.heap.size]? = some (.cells #[.int .i64 0, .int .u8 0, .int .i64 0, .int .u64 0, .int .i64 0, .int .u16 0, .int .u64 0, .int .i64 0, .int .u64 0, .int .i64 0, .slice none 0 0, .int .u64 0, .slice none 0 0, .slice none 0 0, .int .u64 0, .int .u64 0] 87 (0, 0)) := heap_alloc_new _ _
                  refine hK.out _ _ hT54 (fun hHeld => ?_)
                  clear hK K
                  (try simp only [Act.put, List.setIfInBounds_toArray, List.set_cons_zero, List.set_cons_succ])
                  obtain ⟨u53, hu53⟩ : ∃ u53, u31.alloc (.cells #[.int .i64 0, .int .u8 0, .int .i64 0, .int .u64 0, .int .i64 0, .int .u16 0, .int .u64 0, .int .i64 0, .int .u64 0, .int .i64 0, .slice none 0 0, .int .u64 0, .slice none 0 0, .slice none 0 0, .int .u64 0, .int .u64 0] 87) = u53 := ⟨_, rfl⟩
                  rw [hu53] at hT54 b55 hB56 ⊢
                  have b55c := bl_step b32c b55
                  obtain ⟨gu53, hgu53⟩ : ∃ g, u31.heap.size = g := ⟨_, rfl⟩
                  have hsi5d : Si (fun b => wU.heap.size ≤ b ∧ b ≠ gu53) u53 (x.1, x.2.1, x.2.2.1, ao5, x.2.2.2.2.1, cap5) d := (hsi5c.imp (q := fun b => wU.heap.size ≤ b ∧ b ≠ gu53) (fun b hl hb => ⟨hb, by omega⟩)).keep (Kp.up b55)
                  clear hsi5c
                  have hsi5c := hsi5d
                  clear hsi5d
                  have hB56n : wU.heap.size ≤ gu53 := Nat.le_trans b32c.size (Nat.le_of_eq hgu53)
                  rw [hgu53] at hB56 ⊢
                  clear hu53 hgu53
                  refine comes_up 7 rfl (by kernel_rfl) (fun K hK => ?_)
                  go_simp
                  have hT58 : S11d w.heap.size Fr x ((u53.alloc (.cells #[.int .u64 (x.1 : Nat), .int .i64 x.2.1, .int .i64 x.2.2.1, .slice ao5 x.2.2.2.2.1 cap5] 45))) := s11_keep hT54 (bl1 _ _)
                  have b59 : Below u53.heap.size u53 (u53.alloc (.cells #[.int .u64 (x.1 : Nat), .int .i64 x.2.1, .int .i64 x.2.2.1, .slice ao5 x.2.2.2.2.1 cap5] 45)) := bl1 _ _
                  have hBs : (u53.alloc (.cells #[.int .u64 (x.1 : Nat), .int .i64 x.2.1, .int .i64 x.2.2.1, .slice ao5 x.2.2.2.2.1 cap5] 45)).heap[u53.heap.size]? = some (.cells #[.int .u64 (x.1 : Nat), .int .i64 x.2.1, .int .i64 x.2.2.1, .slice ao5 x.2.2.2.2.1 cap5] 45 (0, 0)) := heap_alloc_new _ _
                  have hBsn : wU.heap.size ≤ u53.heap.size := b55c.size
                  refine hK.out _ _ hT58 (fun hHeld => ?_)
                  clear hK K
                  (try simp only [Act.put, List.setIfInBounds_toArray, List.set_cons_zero, List.set_cons_succ])
                  obtain ⟨u57, hu57⟩ : ∃ u57, u53.alloc (.cells #[.int .u64 (x.1 : Nat), .int .i64 x.2.1, .int .i64 x.2.2.1, .slice ao5 x.2.2.2.2.1 cap5] 45) = u57 := ⟨_, rfl⟩
                  rw [hu57] at hT58 b59 hBs ⊢
                  obtain ⟨gs, hgs⟩ : ∃ g, u53.heap.size = g := ⟨_, rfl⟩
                  have b59c := bl_step b55c b59
                  replace hsi5c := hsi5c.keep (Kp.up b59)
                  replace hB56 := (b59.block gu53 (heap_lt hB56)).trans hB56
                  rw [hgs] at hBs hBsn ⊢
                  clear hu57 hgs
                  have HS1 : Hid (u57.heap[gs]? = some (.cells #[.int .u64 (x.1 : Nat), .int .i64 x.2.1, .int .i64 x.2.2.1, .slice ao5 x.2.2.2.2.1 cap5] 45 (0, 0)) ∧ Si (fun b => wU.heap.size ≤ b ∧ b ≠ gu53) u57 (x.1, x.2.1, x.2.2.1, ao5, x.2.2.2.2.1, cap5) d ∧ wU.heap.size ≤ gs) := ⟨hBs, hsi5c, hBsn⟩
                  clear hBs hsi5c hBsn
                  refine tk 8 rfl (fun wx ⟨a1, a2, a3, a4, a5, a6, a7⟩ => by go_simp; try with_reducible rfl) ?_
                  refine comes_up 9 rfl (by kernel_rfl) (fun K hK => ?_)
                  go_simp
                  refine (HOU.out u57 b59c gs).mono ?_
                  rintro e u60 ⟨rfl, b61⟩
                  have hT62 : S11d w.heap.size Fr x u60 := s11_keep hT58 b61
                  have b61c := bl_step b59c b61
                  replace hB56 := (b61.block gu53 (heap_lt hB56)).trans hB56
                  replace HS1 : Hid (u60.heap[gs]? = some (.cells #[.int .u64 (x.1 : Nat), .int .i64 x.2.1, .int .i64 x.2.2.1, .slice ao5 x.2.2.2.2.1 cap5] 45 (0, 0)) ∧ Si (fun b => wU.heap.size ≤ b ∧ b ≠ gu53) u60 (x.1, x.2.1, x.2.2.1, ao5, x.2.2.2.2.1, cap5) d ∧ wU.heap.size ≤ gs) := ⟨(b61.block gs (heap_lt HS1.out.1)).trans HS1.out.1, HS1.out.2.1.keep (Kp.up b61), HS1.out.2.2⟩
                  go_wp2_with fail
                  refine hK.out _ _ hT62 (fun hHeld => ?_)
                  clear hK K
                  (try simp only [Act.put, List.setIfInBounds_toArray, List.set_cons_zero, List.set_cons_succ])
                  obtain ⟨u63, hu63⟩ : ∃ w7, u60.setRow gu53 #[.int .i64 Fr.frm, .int .u8 3, .int .i64 (T.self : Nat), .int .u64 (Fr.idN : Nat), .int .i64 Fr.idP, .int .u16 0, .int .u64 0, .int .i64 0, .int .u64 0, .int .i64 0, .slice (some ⟨gs, 0, none⟩) 1 1, .int .u64 0, .slice none 0 0, .slice none 0 0, .int .u64 0, .int .u64 0] = w7 := ⟨_, rfl⟩
                  have bu63 : Below wU.heap.size wU u63 := by rw [← hu63]; exact bl_row b61c hB56n
                  have hS7 : S11d w.heap.size Fr x u63 := s11_keep HS11.out bu63
                  have hQ7 : u63.heap[gu53]? = some (.cells #[.int .i64 Fr.frm, .int .u8 3, .int .i64 (T.self : Nat), .int .u64 (Fr.idN : Nat), .int .i64 Fr.idP, .int .u16 0, .int .u64 0, .int .i64 0, .int .u64 0, .int .i64 0, .slice (some ⟨gs, 0, none⟩) 1 1, .int .u64 0, .slice none 0 0, .slice none 0 0, .int .u64 0, .int .u64 0] 87 (0, 0)) := by rw [← hu63]; exact setRow_heap _ _ _ _ 87 (0, 0) hB56
                  have hgne : gs ≠ gu53 := fun e => by have h1 := HS1.out.1; rw [e, hB56] at h1; simp at h1
                  have HE : Hid (PropPost w F Z q R (.returned (.tuple #[.slice (some ⟨u63.heap.size, 0, none⟩) 1 1, .int .i64 0])) (u63.alloc (.cells #[.int .i64 Fr.frm, .int .u8 3, .int .i64 (T.self : Nat), .int .u64 (Fr.idN : Nat), .int .i64 Fr.idP, .int .u16 0, .int .u64 0, .int .i64 0, .int .u64 0, .int .i64 0, .slice (some ⟨gs, 0, none⟩) 1 1, .int .u64 0, .slice none 0 0, .slice none 0 0, .int .u64 0, .int .u64 0] 87))) :=
                    HEND.out u63 bu63 gs ao5 cap5 (by rw [← hu63, setRow_other _ _ _ _ hgne]; exact HS1.out.1) (by rw [← hu63]; exact (HS1.out.2.1.keep (kp_row (fun b hb => hb.2))).imp (fun b _ hb => hb.1)) HS1.out.2.2
                  refine comes_up 11 rfl (by kernel_rfl) (fun K hK => ?_)
                  refine step_store_row rfl 87 (.tmp 10) (.tmp 104) rfl gu53 #[.int .i64 Fr.frm, .int .u8 3, .int .i64 (T.self : Nat), .int .u64 (Fr.idN : Nat), .int .i64 Fr.idP, .int .u16 0, .int .u64 0, .int .i64 0, .int .u64 0, .int .i64 0, .slice (some ⟨gs, 0, none⟩) 1 1, .int .u64 0, .slice none 0 0, .slice none 0 0, .int .u64 0, .int .u64 0] rfl rfl 87 _ hB56 info87 rfl (by simp [Value.oneCell']) ?_
                  rw [hu63]
                  refine hK.out _ _ hS7 (fun hHeld => ?_)
                  clear hK K
                  (try simp only [Act.put])
                  refine wpAnyH_done (by kernel_rfl) ?_ _
                  refine NoPanic.normal ?_
                  clear hS7 hHeld hu63 bu63 HEND HOU HS11 HCP HS1
                  go_wp2_with (first | (refine wpList_load_row rfl 87 (.tmp 10) rfl gu53 rfl 87 #[.int .i64 Fr.frm, .int .u8 3, .int .i64 (T.self : Nat), .int .u64 (Fr.idN : Nat), .int .i64 Fr.idP, .int .u16 0, .int .u64 0, .int .i64 0, .int .u64 0, .int .i64 0, .slice (some ⟨gs, 0, none⟩) 1 1, .int .u64 0, .slice none 0 0, .slice none 0 0, .int .u64 0, .int .u64 0] (0, 0) _ hQ7 Tryd.underlying87 rfl info87 ?_))
                  go_ret2
                  exact HE.out
              · go_simp
                have hT18 : S11d w.heap.size Fr x ((wU.alloc (.cells #[.int .i64 0, .int .u8 0, .int .i64 0, .int .u64 0, .int .i64 0, .int .u16 0, .int .u64 0, .int .i64 0, .int .u64 0, .int .i64 0, .slice none 0 0, .int .u64 0, .slice none 0 0, .slice none 0 0, .int .u64 0, .int .u64 0] 87))) := s11_keep HS11.out (bl1 _ _)
                have b19 : Below wU.heap.size wU (wU.alloc (.cells #[.int .i64 0, .int .u8 0, .int .i64 0, .int .u64 0, .int .i64 0, .int .u16 0, .int .u64 0, .int .i64 0, .int .u64 0, .int .i64 0, .slice none 0 0, .int .u64 0, .slice none 0 0, .slice none 0 0, .int .u64 0, .int .u64 0] 87)) := bl1 _ _
                have hB20 : (wU.alloc (.cells #[.int .i64 0, .int .u8 0, .int .i64 0, .int .u64 0, .int .i64 0, .int .u16 0, .int .u64 0, .int .i64 0, .int .u64 0, .int .i64 0, .slice none 0 0, .int .u64 0, .slice none 0 0, .slice none 0 0, .int .u64 0, .int .u64 0] 87)).heap[wU.heap.size]? = some (.cells #[.int .i64 0, .int .u8 0, .int .i64 0, .int .u64 0, .int .i64 0, .int .u16 0, .int .u64 0, .int .i64 0, .int .u64 0, .int .i64 0, .slice none 0 0, .int .u64 0, .slice none 0 0, .slice none 0 0, .int .u64 0, .int .u64 0] 87 (0, 0)) := heap_alloc_new _ _
                refine hK.out _ _ hT18 (fun hHeld => ?_)
                clear hK K
                (try simp only [Act.put, List.setIfInBounds_toArray, List.set_cons_zero, List.set_cons_succ])
                obtain ⟨u17, hu17⟩ : ∃ u17, wU.alloc (.cells #[.int .i64 0, .int .u8 0, .int .i64 0, .int .u64 0, .int .i64 0, .int .u16 0, .int .u64 0, .int .i64 0, .int .u64 0, .int .i64 0, .slice none 0 0, .int .u64 0, .slice none 0 0, .slice none 0 0, .int .u64 0, .int .u64 0] 87) = u17 := ⟨_, rfl⟩
                rw [hu17] at hT18 b19 hB20 ⊢
                have b19c := bl_step (Below.refl wU.heap.size wU) b19
                obtain ⟨gu17, hgu17⟩ : ∃ g, wU.heap.size = g := ⟨_, rfl⟩
                have hB20n : wU.heap.size ≤ gu17 := Nat.le_trans (Below.refl wU.heap.size wU).size (Nat.le_of_eq hgu17)
                rw [hgu17] at hB20 ⊢
                clear hu17 hgu17
                refine comes_up 6 rfl (by kernel_rfl) (fun K hK => ?_)
                go_simp
                refine (HCP.out u17 b19c).mono ?_
                rintro e u21 ⟨ao5, cap5, rfl, hsi5, b22⟩
                have hT23 : S11d w.heap.size Fr x u21 := s11_keep hT18 b22
                have b22c := bl_step b19c b22
                have hsi5c : Si (fun b => wU.heap.size ≤ b ∧ b ≠ gu17) u21 (x.1, x.2.1, x.2.2.1, ao5, x.2.2.2.2.1, cap5) d := hsi5.imp (fun b _ hb => ⟨Nat.le_trans b19c.size hb, fun e => by have hb' : u17.heap.size ≤ b := hb; have := heap_lt hB20; omega⟩)
                clear hsi5
                replace hB20 := (b22.block gu17 (heap_lt hB20)).trans hB20
                go_wp2_with fail
                refine hK.out _ _ hT23 (fun hHeld => ?_)
                clear hK K
                (try simp only [Act.put, List.setIfInBounds_toArray, List.set_cons_zero, List.set_cons_succ])
                refine comes_up 7 rfl (by kernel_rfl) (fun K hK => ?_)
                go_simp
                have hT25 : S11d w.heap.size Fr x ((u21.alloc (.cells #[.int .u64 (x.1 : Nat), .int .i64 x.2.1, .int .i64 x.2.2.1, .slice ao5 x.2.2.2.2.1 cap5] 45))) := s11_keep hT23 (bl1 _ _)
                have b26 : Below u21.heap.size u21 (u21.alloc (.cells #[.int .u64 (x.1 : Nat), .int .i64 x.2.1, .int .i64 x.2.2.1, .slice ao5 x.2.2.2.2.1 cap5] 45)) := bl1 _ _
                have hBs : (u21.alloc (.cells #[.int .u64 (x.1 : Nat), .int .i64 x.2.1, .int .i64 x.2.2.1, .slice ao5 x.2.2.2.2.1 cap5] 45)).heap[u21.heap.size]? = some (.cells #[.int .u64 (x.1 : Nat), .int .i64 x.2.1, .int .i64 x.2.2.1, .slice ao5 x.2.2.2.2.1 cap5] 45 (0, 0)) := heap_alloc_new _ _
                have hBsn : wU.heap.size ≤ u21.heap.size := b22c.size
                refine hK.out _ _ hT25 (fun hHeld => ?_)
                clear hK K
                (try simp only [Act.put, List.setIfInBounds_toArray, List.set_cons_zero, List.set_cons_succ])
                obtain ⟨u24, hu24⟩ : ∃ u24, u21.alloc (.cells #[.int .u64 (x.1 : Nat), .int .i64 x.2.1, .int .i64 x.2.2.1, .slice ao5 x.2.2.2.2.1 cap5] 45) = u24 := ⟨_, rfl⟩
                rw [hu24] at hT25 b26 hBs ⊢
                obtain ⟨gs, hgs⟩ : ∃ g, u21.heap.size = g := ⟨_, rfl⟩
                have b26c := bl_step b22c b26
                replace hsi5c := hsi5c.keep (Kp.up b26)
                replace hB20 := (b26.block gu17 (heap_lt hB20)).trans hB20
                rw [hgs] at hBs hBsn ⊢
                clear hu24 hgs
                have HS1 : Hid (u24.heap[gs]? = some (.cells #[.int .u64 (x.1 : Nat), .int .i64 x.2.1, .int .i64 x.2.2.1, .slice ao5 x.2.2.2.2.1 cap5] 45 (0, 0)) ∧ Si (fun b => wU.heap.size ≤ b ∧ b ≠ gu17) u24 (x.1, x.2.1, x.2.2.1, ao5, x.2.2.2.2.1, cap5) d ∧ wU.heap.size ≤ gs) := ⟨hBs, hsi5c, hBsn⟩
                clear hBs hsi5c hBsn
                refine tk 8 rfl (fun wx ⟨a1, a2, a3, a4, a5, a6, a7⟩ => by go_simp; try with_reducible rfl) ?_
                refine comes_up 9 rfl (by kernel_rfl) (fun K hK => ?_)
                go_simp
                refine (HOU.out u24 b26c gs).mono ?_
                rintro e u27 ⟨rfl, b28⟩
                have hT29 : S11d w.heap.size Fr x u27 := s11_keep hT25 b28
                have b28c := bl_step b26c b28
                replace hB20 := (b28.block gu17 (heap_lt hB20)).trans hB20
                replace HS1 : Hid (u27.heap[gs]? = some (.cells #[.int .u64 (x.1 : Nat), .int .i64 x.2.1, .int .i64 x.2.2.1, .slice ao5 x.2.2.2.2.1 cap5] 45 (0, 0)) ∧ Si (fun b => wU.heap.size ≤ b ∧ b ≠ gu17) u27 (x.1, x.2.1, x.2.2.1, ao5, x.2.2.2.2.1, cap5) d ∧ wU.heap.size ≤ gs) := ⟨(b28.block gs (heap_lt HS1.out.1)).trans HS1.out.1, HS1.out.2.1.keep (Kp.up b28), HS1.out.2.2⟩
                go_wp2_with fail
                refine hK.out _ _ hT29 (fun hHeld => ?_)
                clear hK K
                (try simp only [Act.put, List.setIfInBounds_toArray, List.set_cons_zero, List.set_cons_succ])
                obtain ⟨u30, hu30⟩ : ∃ w7, u27.setRow gu17 #[.int .i64 Fr.frm, .int .u8 3, .int .i64 (T.self : Nat), .int .u64 (Fr.idN : Nat), .int .i64 Fr.idP, .int .u16 0, .int .u64 0, .int .i64 0, .int .u64 0, .int .i64 0, .slice (some ⟨gs, 0, none⟩) 1 1, .int .u64 0, .slice none 0 0, .slice none 0 0, .int .u64 0, .int .u64 0] = w7 := ⟨_, rfl⟩
                have bu30 : Below wU.heap.size wU u30 := by rw [← hu30]; exact bl_row b28c hB20n
                have hS7 : S11d w.heap.size Fr x u30 := s11_keep HS11.out bu30
                have hQ7 : u30.heap[gu17]? = some (.cells #[.int .i64 Fr.frm, .int .u8 3, .int .i64 (T.self : Nat), .int .u64 (Fr.idN : Nat), .int .i64 Fr.idP, .int .u16 0, .int .u64 0, .int .i64 0, .int .u64 0, .int .i64 0, .slice (some ⟨gs, 0, none⟩) 1 1, .int .u64 0, .slice none 0 0, .slice none 0 0, .int .u64 0, .int .u64 0] 87 (0, 0)) := by rw [← hu30]; exact setRow_heap _ _ _ _ 87 (0, 0) hB20
                have hgne : gs ≠ gu17 := fun e => by have h1 := HS1.out.1; rw [e, hB20] at h1; simp at h1
                have HE : Hid (PropPost w F Z q R (.returned (.tuple #[.slice (some ⟨u30.heap.size, 0, none⟩) 1 1, .int .i64 0])) (u30.alloc (.cells #[.int .i64 Fr.frm, .int .u8 3, .int .i64 (T.self : Nat), .int .u64 (Fr.idN : Nat), .int .i64 Fr.idP, .int .u16 0, .int .u64 0, .int .i64 0, .int .u64 0, .int .i64 0, .slice (some ⟨gs, 0, none⟩) 1 1, .int .u64 0, .slice none 0 0, .slice none 0 0, .int .u64 0, .int .u64 0] 87))) :=
                  HEND.out u30 bu30 gs ao5 cap5 (by rw [← hu30, setRow_other _ _ _ _ hgne]; exact HS1.out.1) (by rw [← hu30]; exact (HS1.out.2.1.keep (kp_row (fun b hb => hb.2))).imp (fun b _ hb => hb.1)) HS1.out.2.2
                refine comes_up 11 rfl (by kernel_rfl) (fun K hK => ?_)
                refine step_store_row rfl 87 (.tmp 10) (.tmp 104) rfl gu17 #[.int .i64 Fr.frm, .int .u8 3, .int .i64 (T.self : Nat), .int .u64 (Fr.idN : Nat), .int .i64 Fr.idP, .int .u16 0, .int .u64 0, .int .i64 0, .int .u64 0, .int .i64 0, .slice (some ⟨gs, 0, none⟩) 1 1, .int .u64 0, .slice none 0 0, .slice none 0 0, .int .u64 0, .int .u64 0] rfl rfl 87 _ hB20 info87 rfl (by simp [Value.oneCell']) ?_
                rw [hu30]
                refine hK.out _ _ hS7 (fun hHeld => ?_)
                clear hK K
                (try simp only [Act.put])
                refine wpAnyH_done (by kernel_rfl) ?_ _
                refine NoPanic.normal ?_
                clear hS7 hHeld hu30 bu30 HEND HOU HS11 HCP HS1
                go_wp2_with (first | (refine wpList_load_row rfl 87 (.tmp 10) rfl gu17 rfl 87 #[.int .i64 Fr.frm, .int .u8 3, .int .i64 (T.self : Nat), .int .u64 (Fr.idN : Nat), .int .i64 Fr.idP, .int .u16 0, .int .u64 0, .int .i64 0, .int .u64 0, .int .i64 0, .slice (some ⟨gs, 0, none⟩) 1 1, .int .u64 0, .slice none 0 0, .slice none 0 0, .int .u64 0, .int .u64 0] (0, 0) _ hQ7 Tryd.underlying87 rfl info87 ?_))
                go_ret2
                exact HE.out
          | false =>
            have hvl : ¬ vlt M.prom Fr.id := by simpa using hv
            obtain ⟨T, hT⟩ : ∃ T, M.took Fr = T := ⟨_, rfl⟩
            have hTe : T = M.rise Fr.idN := by rw [← hT]; unfold Mm.took; rw [if_neg hvl]; rfl
            obtain ⟨oT, hoT⟩ : ∃ oT, o = oT := ⟨_, rfl⟩
            obtain ⟨wT, hwT⟩ : ∃ wT, w4 = wT := ⟨_, rfl⟩
            have hMT : Mb wT F Z q T oT := by rw [← hwT, hTe, ← hoT]; exact h4
            have HT : Hid (Mb wT F Z q T oT ∧ Sp w F Z wT F Z ∧ Si Z wT x d ∧ wT.heap[w.heap.size + 1]? = some (.cells #[.int .u64 (x.1 : Nat), .int .i64 x.2.1, .int .i64 x.2.2.1, .slice x.2.2.2.1 x.2.2.2.2.1 x.2.2.2.2.2] 45 (0, 0)) ∧ S9d w.heap.size q Fr T wT) := by
              rw [← hwT] at hMT ⊢
              exact ⟨hMT, sp04, hSi4, hC4, heap_cell (j := 1) hB4 rfl, heap_cell (j := 2) hB4 rfl, heap_cell (j := 3) hB4 rfl, hMT.cell 5 (by omega), hMT.cell 6 (by omega), hMT.cell 2 (by omega), hMT.cell 3 (by omega)⟩
            have HTS : Hid (T.self = M.self) := by rw [hTe]; rfl
            have HRN : Hid (Fr.id ≠ T.prom ∨ Fr.id = T.cur → R = ⟨T, [(i, T.no Fr)], none, 9⟩) := fun hh => by
              rw [← hT]
              refine HRR.out.1 ?_
              rw [hT]
              rcases hh with hh | hh
              · exact .inl hh
              · exact .inr (by rw [hh, hTe]; rfl)
            have HRY : Hid (Fr.id = T.prom → ¬ Fr.id = T.cur → R = ⟨T, [(i, T.yes Fr d)], none, 0⟩) := fun h1 h2 => by
              have := HRR.out.2 (by rw [hT]; rintro (hh | hh); exact hh h1; exact h2 (by rw [hh, hTe]; rfl))
              rw [this, hT, hTe]; rfl
            subst hwT
            clear h4 hMT hB4 hC4 hSi4 sp04 hnB HRR hTe hT hvl hv hoT
            obtain ⟨wT, hwT⟩ : ∃ wT, w4 = wT := ⟨_, rfl⟩
            rw [hwT] at HT hS4 ⊢
            clear hwT
            go_wp2_with fail
            refine hK.out _ _ hS4 (fun hHeld => ?_)
            clear hK K
            (try simp only [Act.put, List.setIfInBounds_toArray, List.set_cons_zero, List.set_cons_succ])
            refine wpAnyH_done (by kernel_rfl) ?_ _
            refine NoPanic.normal ?_
            clear hS4
            have hS8 : S9d w.heap.size q Fr T wT.drew := HT.out.2.2.2.2
            have hqp := fun W => vid_equal Fr.idN Fr.idP T.prom.1 T.prom.2 W
            have hvp : decide (Fr.idN = T.prom.1 ∧ Fr.idP = T.prom.2) = decide (Fr.id = T.prom) := vid_eq2 Fr.id T.prom
            rw [hvp] at hqp
            have hqc := fun W => vid_equal Fr.idN Fr.idP T.cur.1 T.cur.2 W
            have hvc : decide (Fr.idN = T.cur.1 ∧ Fr.idP = T.cur.2) = decide (Fr.id = T.cur) := vid_eq2 Fr.id T.cur
            rw [hvc] at hqc
            clear hvp hvc
            by_cases ep : Fr.id = T.prom
            · rw [show decide (Fr.id = T.prom) = true by simpa using ep] at hqp
              by_cases ec : Fr.id = T.cur
              · rw [show decide (Fr.id = T.cur) = true by simpa using ec] at hqc
                have HR : Hid (R = ⟨T, [(i, T.no Fr)], none, 9⟩) := HRN.out (.inr ec)
                clear ec ep HRN HRY
                go_wp2_with fail
                refine wp_region_noPanic ?_
                refine wp_region_held_drew (S := fun wx => S9d w.heap.size q Fr T wx) (by kernel_rfl) hS8 (fun hHeld => ?_)
                refine tk 0 rfl (fun wx ⟨a1, a2, a3, a4, a5, a6, a7⟩ => by go_simp; try with_reducible rfl) ?_
                refine tk 1 rfl (fun wx ⟨a1, a2, a3, a4, a5, a6, a7⟩ => by go_simp; try with_reducible rfl) ?_
                refine tk 2 rfl (fun wx ⟨a1, a2, a3, a4, a5, a6, a7⟩ => by go_simp; try with_reducible rfl) ?_
                refine tk 3 rfl (fun wx ⟨a1, a2, a3, a4, a5, a6, a7⟩ => by go_simp; try with_reducible rfl) ?_
                refine tk 4 rfl (fun wx ⟨a1, a2, a3, a4, a5, a6, a7⟩ => by go_simp; try with_reducible rfl) ?_
                refine tk 5 rfl (fun wx ⟨a1, a2, a3, a4, a5, a6, a7⟩ => by go_simp; try with_reducible rfl) ?_
                refine tk 6 rfl (fun wx ⟨a1, a2, a3, a4, a5, a6, a7⟩ => by go_simp; try with_reducible rfl) ?_
                refine tk 7 rfl (fun wx ⟨a1, a2, a3, a4, a5, a6, a7⟩ => by go_simp; try with_reducible rfl) ?_
                refine tk 8 rfl (fun wx ⟨a1, a2, a3, a4, a5, a6, a7⟩ => by go_simp; try with_reducible rfl) ?_
                refine tk 9 rfl (fun wx ⟨a1, a2, a3, a4, a5, a6, a7⟩ => by go_simp; try with_reducible rfl) ?_
                refine tk 10 rfl (fun wx ⟨a1, a2, a3, a4, a5, a6, a7⟩ => by go_simp; try with_reducible rfl) ?_
                refine tk 11 rfl (fun wx ⟨a1, a2, a3, a4, a5, a6, a7⟩ => by go_simp; try with_reducible rfl) ?_
                refine tk 12 rfl (fun wx ⟨a1, a2, a3, a4, a5, a6, a7⟩ => by go_simp; try with_reducible rfl) ?_
                refine tk 13 rfl (fun wx ⟨a1, a2, a3, a4, a5, a6, a7⟩ => by go_simp; try with_reducible rfl) ?_
                refine tk 14 rfl (fun wx ⟨a1, a2, a3, a4, a5, a6, a7⟩ => by go_simp; try with_reducible rfl) ?_
                refine tk 15 rfl (fun wx ⟨a1, a2, a3, a4, a5, a6, a7⟩ => by go_simp; try with_reducible rfl) ?_
                refine tk 16 rfl (fun wx ⟨a1, a2, a3, a4, a5, a6, a7⟩ => by go_simp; try with_reducible rfl) ?_
                refine wpAnyH_done (by kernel_rfl) ?_ _
                refine NoPanic.normal ?_
                clear hS8
                clear hHeld hqp hqc
                have HS9 : Hid (S9d w.heap.size q Fr T wT.drew.drew) := HT.out.2.2.2.2
                have HOU : Hid (∀ W, Below wT.drew.drew.heap.size wT.drew.drew W → Calls Tryd.prog 72 #[.pointer (some ⟨q, 0, none⟩), .int .i64 Fr.frm, .agg #[.int .u8 4, .int .i64 0, .int .u64 (Fr.idN : Nat), .int .i64 Fr.idP, .int .u16 0, .int .u64 0, .int .i64 0, .int .u64 (T.prom.1 : Nat), .int .i64 T.prom.2, .slice none 0 0, .int .u64 0, .slice none 0 0, .slice none 0 0, .int .u64 0, .int .u64 0]] W fun e w' => e = .returned (.agg #[.int .i64 Fr.frm, .int .u8 4, .int .i64 (T.self : Nat), .int .u64 (Fr.idN : Nat), .int .i64 Fr.idP, .int .u16 0, .int .u64 0, .int .i64 0, .int .u64 (T.prom.1 : Nat), .int .i64 T.prom.2, .slice none 0 0, .int .u64 0, .slice none 0 0, .slice none 0 0, .int .u64 0, .int .u64 0]) ∧ Below W.heap.size W w') := fun W u => by
                  have hou := out_any (HT.out.1.still (⟨u.os, u.tape, u.output, u.size, u.block⟩ : Below wT.heap.size wT W)) i { zeroF with kind := 4, idN := Fr.idN, idP := Fr.idP, promN := T.prom.1, promP := T.prom.2 } Fa.none
                  unfold oval ocells fval fcells PF.by_ at hou
                  rw [← HFR.out] at hou
                  exact hou
                have HEND : Hid (∀ W, Below wT.drew.drew.heap.size wT.drew.drew W → PropPost w F Z q R (.returned (.tuple #[.slice (some ⟨W.heap.size, 0, none⟩) 1 1, .int .i64 9])) (W.alloc (.cells #[.int .i64 Fr.frm, .int .u8 4, .int .i64 (T.self : Nat), .int .u64 (Fr.idN : Nat), .int .i64 Fr.idP, .int .u16 0, .int .u64 0, .int .i64 0, .int .u64 (T.prom.1 : Nat), .int .i64 T.prom.2, .slice none 0 0, .int .u64 0, .slice none 0 0, .slice none 0 0, .int .u64 0, .int .u64 0] 87))) := fun W u => by
                  rw [HR.out]
                  have b7 : Below wT.heap.size wT W := ⟨u.os, u.tape, u.output, u.size, u.block⟩
                  have b8 : Below wT.heap.size wT (W.alloc (.cells #[.int .i64 Fr.frm, .int .u8 4, .int .i64 (T.self : Nat), .int .u64 (Fr.idN : Nat), .int .i64 Fr.idP, .int .u16 0, .int .u64 0, .int .i64 0, .int .u64 (T.prom.1 : Nat), .int .i64 T.prom.2, .slice none 0 0, .int .u64 0, .slice none 0 0, .slice none 0 0, .int .u64 0, .int .u64 0] 87)) := b7.alloc b7.size _
                  refine ⟨_, rfl, F, nz Z wT (W.alloc (.cells #[.int .i64 Fr.frm, .int .u8 4, .int .i64 (T.self : Nat), .int .u64 (Fr.idN : Nat), .int .i64 Fr.idP, .int .u16 0, .int .u64 0, .int .i64 0, .int .u64 (T.prom.1 : Nat), .int .i64 T.prom.2, .slice none 0 0, .int .u64 0, .slice none 0 0, .slice none 0 0, .int .u64 0, .int .u64 0] 87)), oT, HT.out.2.1.trans (Sp.up b8 HT.out.1.zl), HT.out.1.up b8, ?_, rfl⟩
                  refine outs_one (L := (i, T.no Fr, Fa.none)) rfl ?_ (.inr ⟨b7.size, by simp⟩) (Nat.le_trans HT.out.1.tab.lt b7.size) (Ss.nil _ _)
                  have := heap_alloc_new W (.cells #[.int .i64 Fr.frm, .int .u8 4, .int .i64 (T.self : Nat), .int .u64 (Fr.idN : Nat), .int .i64 Fr.idP, .int .u16 0, .int .u64 0, .int .i64 0, .int .u64 (T.prom.1 : Nat), .int .i64 T.prom.2, .slice none 0 0, .int .u64 0, .slice none 0 0, .slice none 0 0, .int .u64 0, .int .u64 0] 87)
                  rw [HFR.out] at this ⊢
                  exact this
                have hS9 := HS9.out
                clear HR
                go_wp2_with fail
                refine wp_region_noPanic ?_
                refine wp_region_held_drew (S := fun wx => S9d w.heap.size q Fr T wx) (by kernel_rfl) hS9 (fun hHeld => ?_)
                refine tk 0 rfl (fun wx ⟨a1, a2, a3, a4, a5, a6, a7⟩ => by go_simp; try with_reducible rfl) ?_
                refine tk 1 rfl (fun wx ⟨a1, a2, a3, a4, a5, a6, a7⟩ => by go_simp; try with_reducible rfl) ?_
                refine tk 2 rfl (fun wx ⟨a1, a2, a3, a4, a5, a6, a7⟩ => by go_simp; try with_reducible rfl) ?_
                refine tk 3 rfl (fun wx ⟨a1, a2, a3, a4, a5, a6, a7⟩ => by go_simp; try with_reducible rfl) ?_
                refine tk 4 rfl (fun wx ⟨a1, a2, a3, a4, a5, a6, a7⟩ => by go_simp; try with_reducible rfl) ?_
                refine tk 5 rfl (fun wx ⟨a1, a2, a3, a4, a5, a6, a7⟩ => by go_simp; try with_reducible rfl) ?_
                refine tk 6 rfl (fun wx ⟨a1, a2, a3, a4, a5, a6, a7⟩ => by go_simp; try with_reducible rfl) ?_
                refine tk 7 rfl (fun wx ⟨a1, a2, a3, a4, a5, a6, a7⟩ => by go_simp; try with_reducible rfl) ?_
                refine tk 8 rfl (fun wx ⟨a1, a2, a3, a4, a5, a6, a7⟩ => by go_simp; try with_reducible rfl) ?_
                refine tk 9 rfl (fun wx ⟨a1, a2, a3, a4, a5, a6, a7⟩ => by go_simp; try with_reducible rfl) ?_
                clear hS9 hHeld
                generalize wT.drew.drew = wU at *
                refine comes_up2 10 11 rfl rfl (by kernel_rfl) (fun K hK => ?_) (fun K hK => ?_)
                · go_simp
                  refine (HOU.out wU (Below.refl wU.heap.size wU)).mono ?_
                  rintro e u1 ⟨rfl, b2⟩
                  have hT3 : S9d w.heap.size q Fr T u1 := s9_keep HS9.out b2
                  have b2c := bl_step (Below.refl wU.heap.size wU) b2
                  go_wp2_with fail
                  refine hK.out _ _ hT3 (fun hHeld => ?_)
                  clear hK K
                  (try simp only [Act.put, List.setIfInBounds_toArray, List.set_cons_zero, List.set_cons_succ])
                  refine comes_up 11 rfl (by kernel_rfl) (fun K hK => ?_)
                  go_simp
                  have hT5 : S9d w.heap.size q Fr T ((u1.alloc (.cells #[.int .i64 0, .int .u8 0, .int .i64 0, .int .u64 0, .int .i64 0, .int .u16 0, .int .u64 0, .int .i64 0, .int .u64 0, .int .i64 0, .slice none 0 0, .int .u64 0, .slice none 0 0, .slice none 0 0, .int .u64 0, .int .u64 0] 87))) := s9_keep hT3 (bl1 _ _)
                  have b6 : Below wU.heap.size wU (u1.alloc (.cells #[.int .i64 0, .int .u8 0, .int .i64 0, .int .u64 0, .int .i64 0, .int .u16 0, .int .u64 0, .int .i64 0, .int .u64 0, .int .i64 0, .slice none 0 0, .int .u64 0, .slice none 0 0, .slice none 0 0, .int .u64 0, .int .u64 0] 87)) := b2c.alloc b2c.size _
                  have hB7 : (u1.alloc (.cells #[.int .i64 0, .int .u8 0, .int .i64 0, .int .u64 0, .int .i64 0, .int .u16 0, .int .u64 0, .int .i64 0, .int .u64 0, .int .i64 0, .slice none 0 0, .int .u64 0, .slice none 0 0, .slice none 0 0, .int .u64 0, .int .u64 0] 87)).heap[u1.heap.size]? = some (.cells #[.int .i64 0, .int .u8 0, .int .i64 0, .int .u64 0, .int .i64 0, .int .u16 0, .int .u64 0, .int .i64 0, .int .u64 0, .int .i64 0, .slice none 0 0, .int .u64 0, .slice none 0 0, .slice none 0 0, .int .u64 0, .int .u64 0] 87 (0, 0)) := heap_alloc_new _ _
                  refine hK.out _ _ hT5 (fun hHeld => ?_)
                  clear hK K
                  (try simp only [Act.put, List.setIfInBounds_toArray, List.set_cons_zero, List.set_cons_succ])
                  obtain ⟨u4, hu4⟩ : ∃ u4, u1.alloc (.cells #[.int .i64 0, .int .u8 0, .int .i64 0, .int .u64 0, .int .i64 0, .int .u16 0, .int .u64 0, .int .i64 0, .int .u64 0, .int .i64 0, .slice none 0 0, .int .u64 0, .slice none 0 0, .slice none 0 0, .int .u64 0, .int .u64 0] 87) = u4 := ⟨_, rfl⟩
                  rw [hu4] at hT5 b6 hB7 ⊢
                  obtain ⟨gu4, hgu4⟩ : ∃ g, u1.heap.size = g := ⟨_, rfl⟩
                  have hB7n : wU.heap.size ≤ gu4 := Nat.le_trans b2c.size (Nat.le_of_eq hgu4)
                  rw [hgu4] at hB7 ⊢
                  clear hu4 hgu4
                  obtain ⟨u8, hu8⟩ : ∃ w7, u4.setRow gu4 #[.int .i64 Fr.frm, .int .u8 4, .int .i64 (T.self : Nat), .int .u64 (Fr.idN : Nat), .int .i64 Fr.idP, .int .u16 0, .int .u64 0, .int .i64 0, .int .u64 (T.prom.1 : Nat), .int .i64 T.prom.2, .slice none 0 0, .int .u64 0, .slice none 0 0, .slice none 0 0, .int .u64 0, .int .u64 0] = w7 := ⟨_, rfl⟩
                  have bu8 : Below wU.heap.size wU u8 := by rw [← hu8]; exact bl_row b6 hB7n
                  have hS7 : S9d w.heap.size q Fr T u8 := s9_keep HS9.out bu8
                  have hQ7 : u8.heap[gu4]? = some (.cells #[.int .i64 Fr.frm, .int .u8 4, .int .i64 (T.self : Nat), .int .u64 (Fr.idN : Nat), .int .i64 Fr.idP, .int .u16 0, .int .u64 0, .int .i64 0, .int .u64 (T.prom.1 : Nat), .int .i64 T.prom.2, .slice none 0 0, .int .u64 0, .slice none 0 0, .slice none 0 0, .int .u64 0, .int .u64 0] 87 (0, 0)) := by rw [← hu8]; exact setRow_heap _ _ _ _ 87 (0, 0) hB7
                  have HE : Hid (PropPost w F Z q R (.returned (.tuple #[.slice (some ⟨u8.heap.size, 0, none⟩) 1 1, .int .i64 9])) (u8.alloc (.cells #[.int .i64 Fr.frm, .int .u8 4, .int .i64 (T.self : Nat), .int .u64 (Fr.idN : Nat), .int .i64 Fr.idP, .int .u16 0, .int .u64 0, .int .i64 0, .int .u64 (T.prom.1 : Nat), .int .i64 T.prom.2, .slice none 0 0, .int .u64 0, .slice none 0 0, .slice none 0 0, .int .u64 0, .int .u64 0] 87))) := HEND.out u8 bu8
                  refine comes_up 12 rfl (by kernel_rfl) (fun K hK => ?_)
                  refine step_store_row rfl 87 (.tmp 9) (.tmp 92) rfl gu4 #[.int .i64 Fr.frm, .int .u8 4, .int .i64 (T.self : Nat), .int .u64 (Fr.idN : Nat), .int .i64 Fr.idP, .int .u16 0, .int .u64 0, .int .i64 0, .int .u64 (T.prom.1 : Nat), .int .i64 T.prom.2, .slice none 0 0, .int .u64 0, .slice none 0 0, .slice none 0 0, .int .u64 0, .int .u64 0] rfl rfl 87 _ hB7 info87 rfl (by simp [Value.oneCell']) ?_
                  rw [hu8]
                  refine hK.out _ _ hS7 (fun hHeld => ?_)
                  clear hK K
                  (try simp only [Act.put])
                  refine wpAnyH_done (by kernel_rfl) ?_ _
                  refine NoPanic.normal ?_
                  clear hS7 hHeld hu8 bu8 HEND HOU HS9
                  go_wp2_with (first | (refine wpList_load_row rfl 87 (.tmp 9) rfl gu4 rfl 87 #[.int .i64 Fr.frm, .int .u8 4, .int .i64 (T.self : Nat), .int .u64 (Fr.idN : Nat), .int .i64 Fr.idP, .int .u16 0, .int .u64 0, .int .i64 0, .int .u64 (T.prom.1 : Nat), .int .i64 T.prom.2, .slice none 0 0, .int .u64 0, .slice none 0 0, .slice none 0 0, .int .u64 0, .int .u64 0] (0, 0) _ hQ7 Tryd.underlying87 rfl info87 ?_))
                  go_ret2
                  exact HE.out
                · go_simp
                  have hT10 : S9d w.heap.size q Fr T ((wU.alloc (.cells #[.int .i64 0, .int .u8 0, .int .i64 0, .int .u64 0, .int .i64 0, .int .u16 0, .int .u64 0, .int .i64 0, .int .u64 0, .int .i64 0, .slice none 0 0, .int .u64 0, .slice none 0 0, .slice none 0 0, .int .u64 0, .int .u64 0] 87))) := s9_keep HS9.out (bl1 _ _)
                  have b11 : Below wU.heap.size wU (wU.alloc (.cells #[.int .i64 0, .int .u8 0, .int .i64 0, .int .u64 0, .int .i64 0, .int .u16 0, .int .u64 0, .int .i64 0, .int .u64 0, .int .i64 0, .slice none 0 0, .int .u64 0, .slice none 0 0, .slice none 0 0, .int .u64 0, .int .u64 0] 87)) := (Below.refl wU.heap.size wU).alloc (Below.refl wU.heap.size wU).size _
                  have hB12 : (wU.alloc (.cells #[.int .i64 0, .int .u8 0, .int .i64 0, .int .u64 0, .int .i64 0, .int .u16 0, .int .u64 0, .int .i64 0, .int .u64 0, .int .i64 0, .slice none 0 0, .int .u64 0, .slice none 0 0, .slice none 0 0, .int .u64 0, .int .u64 0] 87)).heap[wU.heap.size]? = some (.cells #[.int .i64 0, .int .u8 0, .int .i64 0, .int .u64 0, .int .i64 0, .int .u16 0, .int .u64 0, .int .i64 0, .int .u64 0, .int .i64 0, .slice none 0 0, .int .u64 0, .slice none 0 0, .slice none 0 0, .int .u64 0, .int .u64 0] 87 (0, 0)) := heap_alloc_new _ _
                  refine hK.out _ _ hT10 (fun hHeld => ?_)
                  clear hK K
                  (try simp only [Act.put, List.setIfInBounds_toArray, List.set_cons_zero, List.set_cons_succ])
                  obtain ⟨u9, hu9⟩ : ∃ u9, wU.alloc (.cells #[.int .i64 0, .int .u8 0, .int .i64 0, .int .u64 0, .int .i64 0, .int .u16 0, .int .u64 0, .int .i64 0, .int .u64 0, .int .i64 0, .slice none 0 0, .int .u64 0, .slice none 0 0, .slice none 0 0, .int .u64 0, .int .u64 0] 87) = u9 := ⟨_, rfl⟩
                  rw [hu9] at hT10 b11 hB12 ⊢
                  obtain ⟨gu9, hgu9⟩ : ∃ g, wU.heap.size = g := ⟨_, rfl⟩
                  have hB12n : wU.heap.size ≤ gu9 := Nat.le_trans (Below.refl wU.heap.size wU).size (Nat.le_of_eq hgu9)
                  rw [hgu9] at hB12 ⊢
                  clear hu9 hgu9
                  refine comes_up 10 rfl (by kernel_rfl) (fun K hK => ?_)
                  go_simp
                  refine (HOU.out u9 b11).mono ?_
                  rintro e u13 ⟨rfl, b14⟩
                  have hT15 : S9d w.heap.size q Fr T u13 := s9_keep hT10 b14
                  have b14c := bl_step b11 b14
                  go_wp2_with fail
                  refine hK.out _ _ hT15 (fun hHeld => ?_)
                  clear hK K
                  (try simp only [Act.put, List.setIfInBounds_toArray, List.set_cons_zero, List.set_cons_succ])
                  have hB12m := (b14.block gu9 (heap_lt hB12)).trans hB12
                  have hB12mn := hB12n
                  obtain ⟨u16, hu16⟩ : ∃ w7, u13.setRow gu9 #[.int .i64 Fr.frm, .int .u8 4, .int .i64 (T.self : Nat), .int .u64 (Fr.idN : Nat), .int .i64 Fr.idP, .int .u16 0, .int .u64 0, .int .i64 0, .int .u64 (T.prom.1 : Nat), .int .i64 T.prom.2, .slice none 0 0, .int .u64 0, .slice none 0 0, .slice none 0 0, .int .u64 0, .int .u64 0] = w7 := ⟨_, rfl⟩
                  have bu16 : Below wU.heap.size wU u16 := by rw [← hu16]; exact bl_row b14c hB12mn
                  have hS7 : S9d w.heap.size q Fr T u16 := s9_keep HS9.out bu16
                  have hQ7 : u16.heap[gu9]? = some (.cells #[.int .i64 Fr.frm, .int .u8 4, .int .i64 (T.self : Nat), .int .u64 (Fr.idN : Nat), .int .i64 Fr.idP, .int .u16 0, .int .u64 0, .int .i64 0, .int .u64 (T.prom.1 : Nat), .int .i64 T.prom.2, .slice none 0 0, .int .u64 0, .slice none 0 0, .slice none 0 0, .int .u64 0, .int .u64 0] 87 (0, 0)) := by rw [← hu16]; exact setRow_heap _ _ _ _ 87 (0, 0) hB12m
                  have HE : Hid (PropPost w F Z q R (.returned (.tuple #[.slice (some ⟨u16.heap.size, 0, none⟩) 1 1, .int .i64 9])) (u16.alloc (.cells #[.int .i64 Fr.frm, .int .u8 4, .int .i64 (T.self : Nat), .int .u64 (Fr.idN : Nat), .int .i64 Fr.idP, .int .u16 0, .int .u64 0, .int .i64 0, .int .u64 (T.prom.1 : Nat), .int .i64 T.prom.2, .slice none 0 0, .int .u64 0, .slice none 0 0, .slice none 0 0, .int .u64 0, .int .u64 0] 87))) := HEND.out u16 bu16
                  refine comes_up 12 rfl (by kernel_rfl) (fun K hK => ?_)
                  refine step_store_row rfl 87 (.tmp 9) (.tmp 92) rfl gu9 #[.int .i64 Fr.frm, .int .u8 4, .int .i64 (T.self : Nat), .int .u64 (Fr.idN : Nat), .int .i64 Fr.idP, .int .u16 0, .int .u64 0, .int .i64 0, .int .u64 (T.prom.1 : Nat), .int .i64 T.prom.2, .slice none 0 0, .int .u64 0, .slice none 0 0, .slice none 0 0, .int .u64 0, .int .u64 0] rfl rfl 87 _ hB12m info87 rfl (by simp [Value.oneCell']) ?_
                  rw [hu16]
                  refine hK.out _ _ hS7 (fun hHeld => ?_)
                  clear hK K
                  (try simp only [Act.put])
                  refine wpAnyH_done (by kernel_rfl) ?_ _
                  refine NoPanic.normal ?_
                  clear hS7 hHeld hu16 bu16 HEND HOU HS9
                  go_wp2_with (first | (refine wpList_load_row rfl 87 (.tmp 9) rfl gu9 rfl 87 #[.int .i64 Fr.frm, .int .u8 4, .int .i64 (T.self : Nat), .int .u64 (Fr.idN : Nat), .int .i64 Fr.idP, .int .u16 0, .int .u64 0, .int .i64 0, .int .u64 (T.prom.1 : Nat), .int .i64 T.prom.2, .slice none 0 0, .int .u64 0, .slice none 0 0, .slice none 0 0, .int .u64 0, .int .u64 0] (0, 0) _ hQ7 Tryd.underlying87 rfl info87 ?_))
                  go_ret2
                  exact HE.out
              · rw [show decide (Fr.id = T.cur) = false by simpa using ec] at hqc
                have HR : Hid (R = ⟨T, [(i, T.yes Fr d)], none, 0⟩) := HRY.out ep ec
                clear ec ep HRN HRY
                go_wp2_with fail
                refine wp_region_noPanic ?_
                refine wp_region_held_drew (S := fun wx => S9d w.heap.size q Fr T wx) (by kernel_rfl) hS8 (fun hHeld => ?_)
                refine tk 0 rfl (fun wx ⟨a1, a2, a3, a4, a5, a6, a7⟩ => by go_simp; try with_reducible rfl) ?_
                refine tk 1 rfl (fun wx ⟨a1, a2, a3, a4, a5, a6, a7⟩ => by go_simp; try with_reducible rfl) ?_
                refine tk 2 rfl (fun wx ⟨a1, a2, a3, a4, a5, a6, a7⟩ => by go_simp; try with_reducible rfl) ?_
                refine tk 3 rfl (fun wx ⟨a1, a2, a3, a4, a5, a6, a7⟩ => by go_simp; try with_reducible rfl) ?_
                refine tk 4 rfl (fun wx ⟨a1, a2, a3, a4, a5, a6, a7⟩ => by go_simp; try with_reducible rfl) ?_
                refine tk 5 rfl (fun wx ⟨a1, a2, a3, a4, a5, a6, a7⟩ => by go_simp; try with_reducible rfl) ?_
                refine tk 6 rfl (fun wx ⟨a1, a2, a3, a4, a5, a6, a7⟩ => by go_simp; try with_reducible rfl) ?_
                refine tk 7 rfl (fun wx ⟨a1, a2, a3, a4, a5, a6, a7⟩ => by go_simp; try with_reducible rfl) ?_
                refine tk 8 rfl (fun wx ⟨a1, a2, a3, a4, a5, a6, a7⟩ => by go_simp; try with_reducible rfl) ?_
                refine tk 9 rfl (fun wx ⟨a1, a2, a3, a4, a5, a6, a7⟩ => by go_simp; try with_reducible rfl) ?_
                refine tk 10 rfl (fun wx ⟨a1, a2, a3, a4, a5, a6, a7⟩ => by go_simp; try with_reducible rfl) ?_
                refine tk 11 rfl (fun wx ⟨a1, a2, a3, a4, a5, a6, a7⟩ => by go_simp; try with_reducible rfl) ?_
                refine tk 12 rfl (fun wx ⟨a1, a2, a3, a4, a5, a6, a7⟩ => by go_simp; try with_reducible rfl) ?_
                refine tk 13 rfl (fun wx ⟨a1, a2, a3, a4, a5, a6, a7⟩ => by go_simp; try with_reducible rfl) ?_
                refine tk 14 rfl (fun wx ⟨a1, a2, a3, a4, a5, a6, a7⟩ => by go_simp; try with_reducible rfl) ?_
                refine tk 15 rfl (fun wx ⟨a1, a2, a3, a4, a5, a6, a7⟩ => by go_simp; try with_reducible rfl) ?_
                refine tk 16 rfl (fun wx ⟨a1, a2, a3, a4, a5, a6, a7⟩ => by go_simp; try with_reducible rfl) ?_
                refine wpAnyH_done (by kernel_rfl) ?_ _
                refine NoPanic.normal ?_
                clear hS8
                clear hHeld hqp hqc
                have HS11 : Hid (S11d w.heap.size Fr x wT.drew.drew) := ⟨HT.out.2.2.2.2.1, HT.out.2.2.2.2.2.1, HT.out.2.2.2.2.2.2.1, heap_cell (j := 0) HT.out.2.2.2.1 rfl, heap_cell (j := 1) HT.out.2.2.2.1 rfl, heap_cell (j := 2) HT.out.2.2.2.1 rfl, heap_cell (j := 3) HT.out.2.2.2.1 rfl⟩
                have HCP : Hid (∀ W, Below wT.drew.drew.heap.size wT.drew.drew W → Calls Tryd.prog 73 #[.agg #[.int .u64 (x.1 : Nat), .int .i64 x.2.1, .int .i64 x.2.2.1, .slice x.2.2.2.1 x.2.2.2.2.1 x.2.2.2.2.2]] W fun e w' => ∃ ao' cap', e = .returned (.agg #[.int .u64 (x.1 : Nat), .int .i64 x.2.1, .int .i64 x.2.2.1, .slice ao' x.2.2.2.2.1 cap']) ∧ Si (fun b => W.heap.size ≤ b) w' (x.1, x.2.1, x.2.2.1, ao', x.2.2.2.2.1, cap') d ∧ Below W.heap.size W w') := fun W u =>
                  copied3_any Z W x d (HT.out.2.2.1.keep (Kp.up (⟨u.os, u.tape, u.output, u.size, u.block⟩ : Below wT.heap.size wT W)))
                have HOU : Hid (∀ W, Below wT.drew.drew.heap.size wT.drew.drew W → ∀ gs, Calls Tryd.prog 72 #[.pointer (some ⟨q, 0, none⟩), .int .i64 Fr.frm, .agg #[.int .u8 3, .int .i64 0, .int .u64 (Fr.idN : Nat), .int .i64 Fr.idP, .int .u16 0, .int .u64 0, .int .i64 0, .int .u64 0, .int .i64 0, .slice (some ⟨gs, 0, none⟩) 1 1, .int .u64 0, .slice none 0 0, .slice none 0 0, .int .u64 0, .int .u64 0]] W fun e w' => e = .returned (.agg #[.int .i64 Fr.frm, .int .u8 3, .int .i64 (T.self : Nat), .int .u64 (Fr.idN : Nat), .int .i64 Fr.idP, .int .u16 0, .int .u64 0, .int .i64 0, .int .u64 0, .int .i64 0, .slice (some ⟨gs, 0, none⟩) 1 1, .int .u64 0, .slice none 0 0, .slice none 0 0, .int .u64 0, .int .u64 0]) ∧ Below W.heap.size W w') := fun W u gs => by
                  have hou := out_any (HT.out.1.still (⟨u.os, u.tape, u.output, u.size, u.block⟩ : Below wT.heap.size wT W)) i { zeroF with kind := 3, idN := Fr.idN, idP := Fr.idP, st := [d] } ⟨some ⟨gs, 0, none⟩, 1, none, 0, none, 0⟩
                  unfold oval ocells fval fcells PF.by_ at hou
                  rw [← HFR.out] at hou
                  exact hou
                have HEND : Hid (∀ W, Below wT.drew.drew.heap.size wT.drew.drew W → ∀ gs ao5 cap5, W.heap[gs]? = some (.cells #[.int .u64 (x.1 : Nat), .int .i64 x.2.1, .int .i64 x.2.2.1, .slice ao5 x.2.2.2.2.1 cap5] 45 (0, 0)) → Si (fun b => wT.drew.drew.heap.size ≤ b) W (x.1, x.2.1, x.2.2.1, ao5, x.2.2.2.2.1, cap5) d → wT.drew.drew.heap.size ≤ gs → PropPost w F Z q R (.returned (.tuple #[.slice (some ⟨W.heap.size, 0, none⟩) 1 1, .int .i64 0])) (W.alloc (.cells #[.int .i64 Fr.frm, .int .u8 3, .int .i64 (T.self : Nat), .int .u64 (Fr.idN : Nat), .int .i64 Fr.idP, .int .u16 0, .int .u64 0, .int .i64 0, .int .u64 0, .int .i64 0, .slice (some ⟨gs, 0, none⟩) 1 1, .int .u64 0, .slice none 0 0, .slice none 0 0, .int .u64 0, .int .u64 0] 87))) := fun W u gs ao5 cap5 h1 h2 h3 => by
                  rw [HR.out]
                  have b7 : Below wT.heap.size wT W := ⟨u.os, u.tape, u.output, u.size, u.block⟩
                  have b8 : Below wT.heap.size wT (W.alloc (.cells #[.int .i64 Fr.frm, .int .u8 3, .int .i64 (T.self : Nat), .int .u64 (Fr.idN : Nat), .int .i64 Fr.idP, .int .u16 0, .int .u64 0, .int .i64 0, .int .u64 0, .int .i64 0, .slice (some ⟨gs, 0, none⟩) 1 1, .int .u64 0, .slice none 0 0, .slice none 0 0, .int .u64 0, .int .u64 0] 87)) := b7.alloc b7.size _
                  refine ⟨_, rfl, F, nz Z wT (W.alloc (.cells #[.int .i64 Fr.frm, .int .u8 3, .int .i64 (T.self : Nat), .int .u64 (Fr.idN : Nat), .int .i64 Fr.idP, .int .u16 0, .int .u64 0, .int .i64 0, .int .u64 0, .int .i64 0, .slice (some ⟨gs, 0, none⟩) 1 1, .int .u64 0, .slice none 0 0, .slice none 0 0, .int .u64 0, .int .u64 0] 87)), oT, HT.out.2.1.trans (Sp.up b8 HT.out.1.zl), HT.out.1.up b8, ?_, rfl⟩
                  refine outs_one (L := (i, T.yes Fr d, ⟨some ⟨gs, 0, none⟩, 1, none, 0, none, 0⟩)) rfl ?_ (.inr ⟨b7.size, by simp⟩) (Nat.le_trans HT.out.1.tab.lt b7.size) ?_
                  · have := heap_alloc_new W (.cells #[.int .i64 Fr.frm, .int .u8 3, .int .i64 (T.self : Nat), .int .u64 (Fr.idN : Nat), .int .i64 Fr.idP, .int .u16 0, .int .u64 0, .int .i64 0, .int .u64 0, .int .i64 0, .slice (some ⟨gs, 0, none⟩) 1 1, .int .u64 0, .slice none 0 0, .slice none 0 0, .int .u64 0, .int .u64 0] 87)
                    rw [HFR.out] at this ⊢
                    exact this
                  · have hlt := heap_lt h1
                    refine ss_one (x := (x.1, x.2.1, x.2.2.1, ao5, x.2.2.2.2.1, cap5)) ((Below.heap_alloc _ _ _ hlt).trans h1) (.inr ⟨h3, by simp; omega⟩) ?_
                    exact ((h2.imp (q := fun b => wT.drew.drew.heap.size ≤ b ∧ b < W.heap.size) (fun b hl hb => ⟨hb, hl⟩)).keep (Kp.up (bl1 W _))).imp (fun b _ hb => .inr ⟨hb.1, by have := hb.2; simp; omega⟩)
                have hS11 := HS11.out
                clear HR
                go_wp2_with fail
                refine wp_region_noPanic ?_
                refine wp_region_held_drew (S := fun wx => S11d w.heap.size Fr x wx) (by kernel_rfl) hS11 (fun hHeld => ?_)
                refine tk 0 rfl (fun wx ⟨a1, a2, a3, a4, a5, a6, a7⟩ => by go_simp; try with_reducible rfl) ?_
                refine tk 1 rfl (fun wx ⟨a1, a2, a3, a4, a5, a6, a7⟩ => by go_simp; try with_reducible rfl) ?_
                refine tk 2 rfl (fun wx ⟨a1, a2, a3, a4, a5, a6, a7⟩ => by go_simp; try with_reducible rfl) ?_
                refine tk 3 rfl (fun wx ⟨a1, a2, a3, a4, a5, a6, a7⟩ => by go_simp; try with_reducible rfl) ?_
                refine tk 4 rfl (fun wx ⟨a1, a2, a3, a4, a5, a6, a7⟩ => by go_simp; try with_reducible rfl) ?_
                refine tk 5 rfl (fun wx ⟨a1, a2, a3, a4, a5, a6, a7⟩ => by go_simp; try with_reducible rfl) ?_
                clear hS11 hHeld
                generalize wT.drew.drew = wU at *
                refine comes_up2 6 10 rfl rfl (by kernel_rfl) (fun K hK => ?_) (fun K hK => ?_)
                · go_simp
                  refine (HCP.out wU (Below.refl wU.heap.size wU)).mono ?_
                  rintro e u31 ⟨ao5, cap5, rfl, hsi5, b32⟩
                  have hT33 : S11d w.heap.size Fr x u31 := s11_keep HS11.out b32
                  have b32c := bl_step (Below.refl wU.heap.size wU) b32
                  have hsi5c : Si (fun b => wU.heap.size ≤ b) u31 (x.1, x.2.1, x.2.2.1, ao5, x.2.2.2.2.1, cap5) d := hsi5.imp (fun b _ hb => Nat.le_trans (Below.refl wU.heap.size wU).size hb)
                  clear hsi5
                  go_wp2_with fail
                  refine hK.out _ _ hT33 (fun hHeld => ?_)
                  clear hK K
                  (try simp only [Act.put, List.setIfInBounds_toArray, List.set_cons_zero, List.set_cons_succ])
                  refine comes_up2 7 10 rfl rfl (by kernel_rfl) (fun K hK => ?_) (fun K hK => ?_)
                  · go_simp
                    have hT35 : S11d w.heap.size Fr x ((u31.alloc (.cells #[.int .u64 (x.1 : Nat), .int .i64 x.2.1, .int .i64 x.2.2.1, .slice ao5 x.2.2.2.2.1 cap5] 45))) := s11_keep hT33 (bl1 _ _)
                    have b36 : Below u31.heap.size u31 (u31.alloc (.cells #[.int .u64 (x.1 : Nat), .int .i64 x.2.1, .int .i64 x.2.2.1, .slice ao5 x.2.2.2.2.1 cap5] 45)) := bl1 _ _
                    have hBs : (u31.alloc (.cells #[.int .u64 (x.1 : Nat), .int .i64 x.2.1, .int .i64 x.2.2.1, .slice ao5 x.2.2.2.2.1 cap5] 45)).heap[u31.heap.size]? = some (.cells #[.int .u64 (x.1 : Nat), .int .i64 x.2.1, .int .i64 x.2.2.1, .slice ao5 x.2.2.2.2.1 cap5] 45 (0, 0)) := heap_alloc_new _ _
                    have hBsn : wU.heap.size ≤ u31.heap.size := b32c.size
                    refine hK.out _ _ hT35 (fun hHeld => ?_)
                    clear hK K
                    (try simp only [Act.put, List.setIfInBounds_toArray, List.set_cons_zero, List.set_cons_succ])
                    obtain ⟨u34, hu34⟩ : ∃ u34, u31.alloc (.cells #[.int .u64 (x.1 : Nat), .int .i64 x.2.1, .int .i64 x.2.2.1, .slice ao5 x.2.2.2.2.1 cap5] 45) = u34 := ⟨_, rfl⟩
                    rw [hu34] at hT35 b36 hBs ⊢
                    obtain ⟨gs, hgs⟩ : ∃ g, u31.heap.size = g := ⟨_, rfl⟩
                    have b36c := bl_step b32c b36
                    replace hsi5c := hsi5c.keep (Kp.up b36)
                    rw [hgs] at hBs hBsn ⊢
                    clear hu34 hgs
                    have HS1 : Hid (u34.heap[gs]? = some (.cells #[.int .u64 (x.1 : Nat), .int .i64 x.2.1, .int .i64 x.2.2.1, .slice ao5 x.2.2.2.2.1 cap5] 45 (0, 0)) ∧ Si (fun b => wU.heap.size ≤ b) u34 (x.1, x.2.1, x.2.2.1, ao5, x.2.2.2.2.1, cap5) d ∧ wU.heap.size ≤ gs) := ⟨hBs, hsi5c, hBsn⟩
                    clear hBs hsi5c hBsn
                    refine tk 8 rfl (fun wx ⟨a1, a2, a3, a4, a5, a6, a7⟩ => by go_simp; try with_reducible rfl) ?_
                    refine comes_up2 9 10 rfl rfl (by kernel_rfl) (fun K hK => ?_) (fun K hK => ?_)
                    · go_simp
                      refine (HOU.out u34 b36c gs).mono ?_
                      rintro e u37 ⟨rfl, b38⟩
                      have hT39 : S11d w.heap.size Fr x u37 := s11_keep hT35 b38
                      have b38c := bl_step b36c b38
                      replace HS1 : Hid (u37.heap[gs]? = some (.cells #[.int .u64 (x.1 : Nat), .int .i64 x.2.1, .int .i64 x.2.2.1, .slice ao5 x.2.2.2.2.1 cap5] 45 (0, 0)) ∧ Si (fun b => wU.heap.size ≤ b) u37 (x.1, x.2.1, x.2.2.1, ao5, x.2.2.2.2.1, cap5) d ∧ wU.heap.size ≤ gs) := ⟨(b38.block gs (heap_lt HS1.out.1)).trans HS1.out.1, HS1.out.2.1.keep (Kp.up b38), HS1.out.2.2⟩
                      go_wp2_with fail
                      refine hK.out _ _ hT39 (fun hHeld => ?_)
                      clear hK K
                      (try simp only [Act.put, List.setIfInBounds_toArray, List.set_cons_zero, List.set_cons_succ])
                      refine comes_up 10 rfl (by kernel_rfl) (fun K hK => ?_)
                      go_simp
                      have hT41 : S11d w.heap.size Fr x ((u37.alloc (.cells #[.int .i64 0, .int .u8 0, .int .i64 0, .int .u64 0, .int .i64 0, .int .u16 0, .int .u64 0, .int .i64 0, .int .u64 0, .int .i64 0, .slice none 0 0, .int .u64 0, .slice none 0 0, .slice none 0 0, .int .u64 0, .int .u64 0] 87))) := s11_keep hT39 (bl1 _ _)
                      have b42 : Below u37.heap.size u37 (u37.alloc (.cells #[.int .i64 0, .int .u8 0, .int .i64 0, .int .u64 0, .int .i64 0, .int .u16 0, .int .u64 0, .int .i64 0, .int .u64 0, .int .i64 0, .slice none 0 0, .int .u64 0, .slice none 0 0, .slice none 0 0, .int .u64 0, .int .u64 0] 87)) := bl1 _ _
                      have hB43 : (u37.alloc (.cells #[.int .i64 0, .int .u8 0, .int .i64 0, .int .u64 0, .int .i64 0, .int .u16 0, .int .u64 0, .int .i64 0, .int .u64 0, .int .i64 0, .slice none 0 0, .int .u64 0, .slice none 0 0, .slice none 0 0, .int .u64 0, .int .u64 0] 87)).heap[u37.heap.size]? = some (.cells #[.int .i64 0, .int .u8 0, .int .i64 0, .int .u64 0, .int .i64 0, .int .u16 0, .int .u64 0, .int .i64 0, .int .u64 0, .int .i64 0, .slice none 0 0, .int .u64 0, .slice none 0 0, .slice none 0 0, .int .u64 0, .int .u64 0] 87 (0, 0)) := heap_alloc_new _ _
                      refine hK.out _ _ hT41 (fun hHeld => ?_)
                      clear hK K
                      (try simp only [Act.put, List.setIfInBounds_toArray, List.set_cons_zero, List.set_cons_succ])
                      obtain ⟨u40, hu40⟩ : ∃ u40, u37.alloc (.cells #[.int .i64 0, .int .u8 0, .int .i64 0, .int .u64 0, .int .i64 0, .int .u16 0, .int .u64 0, .int .i64 0, .int .u64 0, .int .i64 0, .slice none 0 0, .int .u64 0, .slice none 0 0, .slice none 0 0, .int .u64 0, .int .u64 0] 87) = u40 := ⟨_, rfl⟩
                      rw [hu40] at hT41 b42 hB43 ⊢
                      have b42c := bl_step b38c b42
                      obtain ⟨gu40, hgu40⟩ : ∃ g, u37.heap.size = g := ⟨_, rfl⟩
                      replace HS1 : Hid (u40.heap[gs]? = some (.cells #[.int .u64 (x.1 : Nat), .int .i64 x.2.1, .int .i64 x.2.2.1, .slice ao5 x.2.2.2.2.1 cap5] 45 (0, 0)) ∧ Si (fun b => wU.heap.size ≤ b ∧ b ≠ gu40) u40 (x.1, x.2.1, x.2.2.1, ao5, x.2.2.2.2.1, cap5) d ∧ wU.heap.size ≤ gs) := ⟨(b42.block gs (heap_lt HS1.out.1)).trans HS1.out.1, (HS1.out.2.1.imp (q := fun b => wU.heap.size ≤ b ∧ b ≠ gu40) (fun b hl hb => ⟨hb, by omega⟩)).keep (Kp.up b42), HS1.out.2.2⟩
                      have hB43n : wU.heap.size ≤ gu40 := Nat.le_trans b38c.size (Nat.le_of_eq hgu40)
                      rw [hgu40] at hB43 ⊢
                      clear hu40 hgu40
                      obtain ⟨u44, hu44⟩ : ∃ w7, u40.setRow gu40 #[.int .i64 Fr.frm, .int .u8 3, .int .i64 (T.self : Nat), .int .u64 (Fr.idN : Nat), .int .i64 Fr.idP, .int .u16 0, .int .u64 0, .int .i64 0, .int .u64 0, .int .i64 0, .slice (some ⟨gs, 0, none⟩) 1 1, .int .u64 0, .slice none 0 0, .slice none 0 0, .int .u64 0, .int .u64 0] = w7 := ⟨_, rfl⟩
                      have bu44 : Below wU.heap.size wU u44 := by rw [← hu44]; exact bl_row b42c hB43n
                      have hS7 : S11d w.heap.size Fr x u44 := s11_keep HS11.out bu44
                      have hQ7 : u44.heap[gu40]? = some (.cells #[.int .i64 Fr.frm, .int .u8 3, .int .i64 (T.self : Nat), .int .u64 (Fr.idN : Nat), .int .i64 Fr.idP, .int .u16 0, .int .u64 0, .int .i64 0, .int .u64 0, .int .i64 0, .slice (some ⟨gs, 0, none⟩) 1 1, .int .u64 0, .slice none 0 0, .slice none 0 0, .int .u64 0, .int .u64 0] 87 (0, 0)) := by rw [← hu44]; exact setRow_heap _ _ _ _ 87 (0, 0) hB43
                      have hgne : gs ≠ gu40 := fun e => by have h1 := HS1.out.1; rw [e, hB43] at h1; simp at h1
                      have HE : Hid (PropPost w F Z q R (.returned (.tuple #[.slice (some ⟨u44.heap.size, 0, none⟩) 1 1, .int .i64 0])) (u44.alloc (.cells #[.int .i64 Fr.frm, .int .u8 3, .int .i64 (T.self : Nat), .int .u64 (Fr.idN : Nat), .int .i64 Fr.idP, .int .u16 0, .int .u64 0, .int .i64 0, .int .u64 0, .int .i64 0, .slice (some ⟨gs, 0, none⟩) 1 1, .int .u64 0, .slice none 0 0, .slice none 0 0, .int .u64 0, .int .u64 0] 87))) :=
                        HEND.out u44 bu44 gs ao5 cap5 (by rw [← hu44, setRow_other _ _ _ _ hgne]; exact HS1.out.1) (by rw [← hu44]; exact (HS1.out.2.1.keep (kp_row (fun b hb => hb.2))).imp (fun b _ hb => hb.1)) HS1.out.2.2
                      refine comes_up 11 rfl (by kernel_rfl) (fun K hK => ?_)
                      refine step_store_row rfl 87 (.tmp 10) (.tmp 104) rfl gu40 #[.int .i64 Fr.frm, .int .u8 3, .int .i64 (T.self : Nat), .int .u64 (Fr.idN : Nat), .int .i64 Fr.idP, .int .u16 0, .int .u64 0, .int .i64 0, .int .u64 0, .int .i64 0, .slice (some ⟨gs, 0, none⟩) 1 1, .int .u64 0, .slice none 0 0, .slice none 0 0, .int .u64 0, .int .u64 0] rfl rfl 87 _ hB43 info87 rfl (by simp [Value.oneCell']) ?_
                      rw [hu44]
                      refine hK.out _ _ hS7 (fun hHeld => ?_)
                      clear hK K
                      (try simp only [Act.put])
                      refine wpAnyH_done (by kernel_rfl) ?_ _
                      refine NoPanic.normal ?_
                      clear hS7 hHeld hu44 bu44 HEND HOU HS11 HCP HS1
                      go_wp2_with (first | (refine wpList_load_row rfl 87 (.tmp 10) rfl gu40 rfl 87 #[.int .i64 Fr.frm, .int .u8 3, .int .i64 (T.self : Nat), .int .u64 (Fr.idN : Nat), .int .i64 Fr.idP, .int .u16 0, .int .u64 0, .int .i64 0, .int .u64 0, .int .i64 0, .slice (some ⟨gs, 0, none⟩) 1 1, .int .u64 0, .slice none 0 0, .slice none 0 0, .int .u64 0, .int .u64 0] (0, 0) _ hQ7 Tryd.underlying87 rfl info87 ?_))
                      go_ret2
                      exact HE.out
                    · go_simp
                      have hT46 : S11d w.heap.size Fr x ((u34.alloc (.cells #[.int .i64 0, .int .u8 0, .int .i64 0, .int .u64 0, .int .i64 0, .int .u16 0, .int .u64 0, .int .i64 0, .int .u64 0, .int .i64 0, .slice none 0 0, .int .u64 0, .slice none 0 0, .slice none 0 0, .int .u64 0, .int .u64 0] 87))) := s11_keep hT35 (bl1 _ _)
                      have b47 : Below u34.heap.size u34 (u34.alloc (.cells #[.int .i64 0, .int .u8 0, .int .i64 0, .int .u64 0, .int .i64 0, .int .u16 0, .int .u64 0, .int .i64 0, .int .u64 0, .int .i64 0, .slice none 0 0, .int .u64 0, .slice none 0 0, .slice none 0 0, .int .u64 0, .int .u64 0] 87)) := bl1 _ _
                      have hB48 : (u34.alloc (.cells #[.int .i64 0, .int .u8 0, .int .i64 0, .int .u64 0, .int .i64 0, .int .u16 0, .int .u64 0, .int .i64 0, .int .u64 0, .int .i64 0, .slice none 0 0, .int .u64 0, .slice none 0 0, .slice none 0 0, .int .u64 0, .int .u64 0] 87)).heap[u34.heap.size]? = some (.cells #[.int .i64 0, .int .u8 0, .int .i64 0, .int .u64 0, .int .i64 0, .int .u16 0, .int .u64 0, .int .i64 0, .int .u64 0, .int .i64 0, .slice none 0 0, .int .u64 0, .slice none 0 0, .slice none 0 0, .int .u64 0, .int .u64 0] 87 (0, 0)) := heap_alloc_new _ _
                      refine hK.out _ _ hT46 (fun hHeld => ?_)
                      clear hK K
                      (try simp only [Act.put, List.setIfInBounds_toArray, List.set_cons_zero, List.set_cons_succ])
                      obtain ⟨u45, hu45⟩ : ∃ u45, u34.alloc (.cells #[.int .i64 0, .int .u8 0, .int .i64 0, .int .u64 0, .int .i64 0, .int .u16 0, .int .u64 0, .int .i64 0, .int .u64 0, .int .i64 0, .slice none 0 0, .int .u64 0, .slice none 0 0, .slice none 0 0, .int .u64 0, .int .u64 0] 87) = u45 := ⟨_, rfl⟩
                      rw [hu45] at hT46 b47 hB48 ⊢
                      have b47c := bl_step b36c b47
                      obtain ⟨gu45, hgu45⟩ : ∃ g, u34.heap.size = g := ⟨_, rfl⟩
                      replace HS1 : Hid (u45.heap[gs]? = some (.cells #[.int .u64 (x.1 : Nat), .int .i64 x.2.1, .int .i64 x.2.2.1, .slice ao5 x.2.2.2.2.1 cap5] 45 (0, 0)) ∧ Si (fun b => wU.heap.size ≤ b ∧ b ≠ gu45) u45 (x.1, x.2.1, x.2.2.1, ao5, x.2.2.2.2.1, cap5) d ∧ wU.heap.size ≤ gs) := ⟨(b47.block gs (heap_lt HS1.out.1)).trans HS1.out.1, (HS1.out.2.1.imp (q := fun b => wU.heap.size ≤ b ∧ b ≠ gu45) (fun b hl hb => ⟨hb, by omega⟩)).keep (Kp.up b47), HS1.out.2.2⟩
                      have hB48n : wU.heap.size ≤ gu45 := Nat.le_trans b36c.size (Nat.le_of_eq hgu45)
                      rw [hgu45] at hB48 ⊢
                      clear hu45 hgu45
                      refine comes_up 9 rfl (by kernel_rfl) (fun K hK => ?_)
                      go_simp
                      refine (HOU.out u45 b47c gs).mono ?_
                      rintro e u49 ⟨rfl, b50⟩
                      have hT51 : S11d w.heap.size Fr x u49 := s11_keep hT46 b50
                      have b50c := bl_step b47c b50
                      replace hB48 := (b50.block gu45 (heap_lt hB48)).trans hB48
                      replace HS1 : Hid (u49.heap[gs]? = some (.cells #[.int .u64 (x.1 : Nat), .int .i64 x.2.1, .int .i64 x.2.2.1, .slice ao5 x.2.2.2.2.1 cap5] 45 (0, 0)) ∧ Si (fun b => wU.heap.size ≤ b ∧ b ≠ gu45) u49 (x.1, x.2.1, x.2.2.1, ao5, x.2.2.2.2.1, cap5) d ∧ wU.heap.size ≤ gs) := ⟨(b50.block gs (heap_lt HS1.out.1)).trans HS1.out.1, HS1.out.2.1.keep (Kp.up b50), HS1.out.2.2⟩
                      go_wp2_with fail
                      refine hK.out _ _ hT51 (fun hHeld => ?_)
                      clear hK K
                      (try simp only [Act.put, List.setIfInBounds_toArray, List.set_cons_zero, List.set_cons_succ])
                      obtain ⟨u52, hu52⟩ : ∃ w7, u49.setRow gu45 #[.int .i64 Fr.frm, .int .u8 3, .int .i64 (T.self : Nat), .int .u64 (Fr.idN : Nat), .int .i64 Fr.idP, .int .u16 0, .int .u64 0, .int .i64 0, .int .u64 0, .int .i64 0, .slice (some ⟨gs, 0, none⟩) 1 1, .int .u64 0, .slice none 0 0, .slice none 0 0, .int .u64 0, .int .u64 0] = w7 := ⟨_, rfl⟩
                      have bu52 : Below wU.heap.size wU u52 := by rw [← hu52]; exact bl_row b50c hB48n
                      have hS7 : S11d w.heap.size Fr x u52 := s11_keep HS11.out bu52
                      have hQ7 : u52.heap[gu45]? = some (.cells #[.int .i64 Fr.frm, .int .u8 3, .int .i64 (T.self : Nat), .int .u64 (Fr.idN : Nat), .int .i64 Fr.idP, .int .u16 0, .int .u64 0, .int .i64 0, .int .u64 0, .int .i64 0, .slice (some ⟨gs, 0, none⟩) 1 1, .int .u64 0, .slice none 0 0, .slice none 0 0, .int .u64 0, .int .u64 0] 87 (0, 0)) := by rw [← hu52]; exact setRow_heap _ _ _ _ 87 (0, 0) hB48
                      have hgne : gs ≠ gu45 := fun e => by have h1 := HS1.out.1; rw [e, hB48] at h1; simp at h1
                      have HE : Hid (PropPost w F Z q R (.returned (.tuple #[.slice (some ⟨u52.heap.size, 0, none⟩) 1 1, .int .i64 0])) (u52.alloc (.cells #[.int .i64 Fr.frm, .int .u8 3, .int .i64 (T.self : Nat), .int .u64 (Fr.idN : Nat), .int .i64 Fr.idP, .int .u16 0, .int .u64 0, .int .i64 0, .int .u64 0, .int .i64 0, .slice (some ⟨gs, 0, none⟩) 1 1, .int .u64 0, .slice none 0 0, .slice none 0 0, .int .u64 0, .int .u64 0] 87))) :=
                        HEND.out u52 bu52 gs ao5 cap5 (by rw [← hu52, setRow_other _ _ _ _ hgne]; exact HS1.out.1) (by rw [← hu52]; exact (HS1.out.2.1.keep (kp_row (fun b hb => hb.2))).imp (fun b _ hb => hb.1)) HS1.out.2.2
                      refine comes_up 11 rfl (by kernel_rfl) (fun K hK => ?_)
                      refine step_store_row rfl 87 (.tmp 10) (.tmp 104) rfl gu45 #[.int .i64 Fr.frm, .int .u8 3, .int .i64 (T.self : Nat), .int .u64 (Fr.idN : Nat), .int .i64 Fr.idP, .int .u16 0, .int .u64 0, .int .i64 0, .int .u64 0, .int .i64 0, .slice (some ⟨gs, 0, none⟩) 1 1, .int .u64 0, .slice none 0 0, .slice none 0 0, .int .u64 0, .int .u64 0] rfl rfl 87 _ hB48 info87 rfl (by simp [Value.oneCell']) ?_
                      rw [hu52]
                      refine hK.out _ _ hS7 (fun hHeld => ?_)
                      clear hK K
                      (try simp only [Act.put])
                      refine wpAnyH_done (by kernel_rfl) ?_ _
                      refine NoPanic.normal ?_
                      clear hS7 hHeld hu52 bu52 HEND HOU HS11 HCP HS1
                      go_wp2_with (first | (refine wpList_load_row rfl 87 (.tmp 10) rfl gu45 rfl 87 #[.int .i64 Fr.frm, .int .u8 3, .int .i64 (T.self : Nat), .int .u64 (Fr.idN : Nat), .int .i64 Fr.idP, .int .u16 0, .int .u64 0, .int .i64 0, .int .u64 0, .int .i64 0, .slice (some ⟨gs, 0, none⟩) 1 1, .int .u64 0, .slice none 0 0, .slice none 0 0, .int .u64 0, .int .u64 0] (0, 0) _ hQ7 Tryd.underlying87 rfl info87 ?_))
                      go_ret2
                      exact HE.out
                  · go_simp
                    have hT54 : S11d w.heap.size Fr x ((u31.alloc (.cells #[.int .i64 0, .int .u8 0, .int .i64 0, .int .u64 0, .int .i64 0, .int .u16 0, .int .u64 0, .int .i64 0, .int .u64 0, .int .i64 0, .slice none 0 0, .int .u64 0, .slice none 0 0, .slice none 0 0, .int .u64 0, .int .u64 0] 87))) := s11_keep hT33 (bl1 _ _)
                    have b55 : Below u31.heap.size u31 (u31.alloc (.cells #[.int .i64 0, .int .u8 0, .int .i64 0, .int .u64 0, .int .i64 0, .int .u16 0, .int .u64 0, .int .i64 0, .int .u64 0, .int .i64 0, .slice none 0 0, .int .u64 0, .slice none 0 0, .slice none 0 0, .int .u64 0, .int .u64 0] 87)) := bl1 _ _
                    have hB56 : (u31.alloc (.cells #[.int .i64 0, .int .u8 0, .int .i64 0, .int .u64 0, .int .i64 0, .int .u16 0, .int .u64 0, .int .i64 0, .int .u64 0, .int .i64 0, .slice none 0 0, .int .u64 0, .slice none 0 0, .slice none 0 0, .int .u64 0, .int .u64 0] 87)).heap[u31.heap.size]? = some (.cells #[.int .i64 0, .int .u8 0, .int .i64 0, .int .u64 0, .int .i64 0, .int .u16 0, .int .u64 0, .int .i64 0, .int .u64 0, .int .i64 0, .slice none 0 0, .int .u64 0, .slice none 0 0, .slice none 0 0, .int .u64 0, .int .u64 0] 87 (0, 0)) := heap_alloc_new _ _
                    refine hK.out _ _ hT54 (fun hHeld => ?_)
                    clear hK K
                    (try simp only [Act.put, List.setIfInBounds_toArray, List.set_cons_zero, List.set_cons_succ])
                    obtain ⟨u53, hu53⟩ : ∃ u53, u31.alloc (.cells #[.int .i64 0, .int .u8 0, .int .i64 0, .int .u64 0, .int .i64 0, .int .u16 0, .int .u64 0, .int .i64 0, .int .u64 0, .int .i64 0, .slice none 0 0, .int .u64 0, .slice none 0 0, .slice none 0 0, .int .u64 0, .int .u64 0] 87) = u53 := ⟨_, rfl⟩
                    rw [hu53] at hT54 b55 hB56 ⊢
                    have b55c := bl_step b32c b55
                    obtain ⟨gu53, hgu53⟩ : ∃ g, u31.heap.size = g := ⟨_, rfl⟩
                    have hsi5d : Si (fun b => wU.heap.size ≤ b ∧ b ≠ gu53) u53 (x.1, x.2.1, x.2.2.1, ao5, x.2.2.2.2.1, cap5) d := (hsi5c.imp (q := fun b => wU.heap.size ≤ b ∧ b ≠ gu53) (fun b hl hb => ⟨hb, by omega⟩)).keep (Kp.up b55)
                    clear hsi5c
                    have hsi5c := hsi5d
                    clear hsi5d
                    have hB56n : wU.heap.size ≤ gu53 := Nat.le_trans b32c.size (Nat.le_of_eq hgu53)
                    rw [hgu53] at hB56 ⊢
                    clear hu53 hgu53
                    refine comes_up 7 rfl (by kernel_rfl) (fun K hK => ?_)
                    go_simp
                    have hT58 : S11d w.heap.size Fr x ((u53.alloc (.cells #[.int .u64 (x.1 : Nat), .int .i64 x.2.1, .int .i64 x.2.2.1, .slice ao5 x.2.2.2.2.1 cap5] 45))) := s11_keep hT54 (bl1 _ _)
                    have b59 : Below u53.heap.size u53 (u53.alloc (.cells #[.int .u64 (x.1 : Nat), .int .i64 x.2.1, .int .i64 x.2.2.1, .slice ao5 x.2.2.2.2.1 cap5] 45)) := bl1 _ _
                    have hBs : (u53.alloc (.cells #[.int .u64 (x.1 : Nat), .int .i64 x.2.1, .int .i64 x.2.2.1, .slice ao5 x.2.2.2.2.1 cap5] 45)).heap[u53.heap.size]? = some (.cells #[.int .u64 (x.1 : Nat), .int .i64 x.2.1, .int .i64 x.2.2.1, .slice ao5 x.2.2.2.2.1 cap5] 45 (0, 0)) := heap_alloc_new _ _
                    have hBsn : wU.heap.size ≤ u53.heap.size := b55c.size
                    refine hK.out _ _ hT58 (fun hHeld => ?_)
                    clear hK K
                    (try simp only [Act.put, List.setIfInBounds_toArray, List.set_cons_zero, List.set_cons_succ])
                    obtain ⟨u57, hu57⟩ : ∃ u57, u53.alloc (.cells #[.int .u64 (x.1 : Nat), .int .i64 x.2.1, .int .i64 x.2.2.1, .slice ao5 x.2.2.2.2.1 cap5] 45) = u57 := ⟨_, rfl⟩
                    rw [hu57] at hT58 b59 hBs ⊢
                    obtain ⟨gs, hgs⟩ : ∃ g, u53.heap.size = g := ⟨_, rfl⟩
                    have b59c := bl_step b55c b59
                    replace hsi5c := hsi5c.keep (Kp.up b59)
                    replace hB56 := (b59.block gu53 (heap_lt hB56)).trans hB56
                    rw [hgs] at hBs hBsn ⊢
                    clear hu57 hgs
                    have HS1 : Hid (u57.heap[gs]? = some (.cells #[.int .u64 (x.1 : Nat), .int .i64 x.2.1, .int .i64 x.2.2.1, .slice ao5 x.2.2.2.2.1 cap5] 45 (0, 0)) ∧ Si (fun b => wU.heap.size ≤ b ∧ b ≠ gu53) u57 (x.1, x.2.1, x.2.2.1, ao5, x.2.2.2.2.1, cap5) d ∧ wU.heap.size ≤ gs) := ⟨hBs, hsi5c, hBsn⟩
                    clear hBs hsi5c hBsn
                    refine tk 8 rfl (fun wx ⟨a1, a2, a3, a4, a5, a6, a7⟩ => by go_simp; try with_reducible rfl) ?_
                    refine comes_up 9 rfl (by kernel_rfl) (fun K hK => ?_)
                    go_simp
                    refine (HOU.out u57 b59c gs).mono ?_
                    rintro e u60 ⟨rfl, b61⟩
                    have hT62 : S11d w.heap.size Fr x u60 := s11_keep hT58 b61
                    have b61c := bl_step b59c b61
                    replace hB56 := (b61.block gu53 (heap_lt hB56)).trans hB56
                    replace HS1 : Hid (u60.heap[gs]? = some (.cells #[.int .u64 (x.1 : Nat), .int .i64 x.2.1, .int .i64 x.2.2.1, .slice ao5 x.2.2.2.2.1 cap5] 45 (0, 0)) ∧ Si (fun b => wU.heap.size ≤ b ∧ b ≠ gu53) u60 (x.1, x.2.1, x.2.2.1, ao5, x.2.2.2.2.1, cap5) d ∧ wU.heap.size ≤ gs) := ⟨(b61.block gs (heap_lt HS1.out.1)).trans HS1.out.1, HS1.out.2.1.keep (Kp.up b61), HS1.out.2.2⟩
                    go_wp2_with fail
                    refine hK.out _ _ hT62 (fun hHeld => ?_)
                    clear hK K
                    (try simp only [Act.put, List.setIfInBounds_toArray, List.set_cons_zero, List.set_cons_succ])
                    obtain ⟨u63, hu63⟩ : ∃ w7, u60.setRow gu53 #[.int .i64 Fr.frm, .int .u8 3, .int .i64 (T.self : Nat), .int .u64 (Fr.idN : Nat), .int .i64 Fr.idP, .int .u16 0, .int .u64 0, .int .i64 0, .int .u64 0, .int .i64 0, .slice (some ⟨gs, 0, none⟩) 1 1, .int .u64 0, .slice none 0 0, .slice none 0 0, .int .u64 0, .int .u64 0] = w7 := ⟨_, rfl⟩
                    have bu63 : Below wU.heap.size wU u63 := by rw [← hu63]; exact bl_row b61c hB56n
                    have hS7 : S11d w.heap.size Fr x u63 := s11_keep HS11.out bu63
                    have hQ7 : u63.heap[gu53]? = some (.cells #[.int .i64 Fr.frm, .int .u8 3, .int .i64 (T.self : Nat), .int .u64 (Fr.idN : Nat), .int .i64 Fr.idP, .int .u16 0, .int .u64 0, .int .i64 0, .int .u64 0, .int .i64 0, .slice (some ⟨gs, 0, none⟩) 1 1, .int .u64 0, .slice none 0 0, .slice none 0 0, .int .u64 0, .int .u64 0] 87 (0, 0)) := by rw [← hu63]; exact setRow_heap _ _ _ _ 87 (0, 0) hB56
                    have hgne : gs ≠ gu53 := fun e => by have h1 := HS1.out.1; rw [e, hB56] at h1; simp at h1
                    have HE : Hid (PropPost w F Z q R (.returned (.tuple #[.slice (some ⟨u63.heap.size, 0, none⟩) 1 1, .int .i64 0])) (u63.alloc (.cells #[.int .i64 Fr.frm, .int .u8 3, .int .i64 (T.self : Nat), .int .u64 (Fr.idN : Nat), .int .i64 Fr.idP, .int .u16 0, .int .u64 0, .int .i64 0, .int .u64 0, .int .i64 0, .slice (some ⟨gs, 0, none⟩) 1 1, .int .u64 0, .slice none 0 0, .slice none 0 0, .int .u64 0, .int .u64 0] 87))) :=
                      HEND.out u63 bu63 gs ao5 cap5 (by rw [← hu63, setRow_other _ _ _ _ hgne]; exact HS1.out.1) (by rw [← hu63]; exact (HS1.out.2.1.keep (kp_row (fun b hb => hb.2))).imp (fun b _ hb => hb.1)) HS1.out.2.2
                    refine comes_up 11 rfl (by kernel_rfl) (fun K hK => ?_)
                    refine step_store_row rfl 87 (.tmp 10) (.tmp 104) rfl gu53 #[.int .i64 Fr.frm, .int .u8 3, .int .i64 (T.self : Nat), .int .u64 (Fr.idN : Nat), .int .i64 Fr.idP, .int .u16 0, .int .u64 0, .int .i64 0, .int .u64 0, .int .i64 0, .slice (some ⟨gs, 0, none⟩) 1 1, .int .u64 0, .slice none 0 0, .slice none 0 0, .int .u64 0, .int .u64 0] rfl rfl 87 _ hB56 info87 rfl (by simp [Value.oneCell']) ?_
                    rw [hu63]
                    refine hK.out _ _ hS7 (fun hHeld => ?_)
                    clear hK K
                    (try simp only [Act.put])
                    refine wpAnyH_done (by kernel_rfl) ?_ _
                    refine NoPanic.normal ?_
                    clear hS7 hHeld hu63 bu63 HEND HOU HS11 HCP HS1
                    go_wp2_with (first | (refine wpList_load_row rfl 87 (.tmp 10) rfl gu53 rfl 87 #[.int .i64 Fr.frm, .int .u8 3, .int .i64 (T.self : Nat), .int .u64 (Fr.idN : Nat), .int .i64 Fr.idP, .int .u16 0, .int .u64 0, .int .i64 0, .int .u64 0, .int .i64 0, .slice (some ⟨gs, 0, none⟩) 1 1, .int .u64 0, .slice none 0 0, .slice none 0 0, .int .u64 0, .int .u64 0] (0, 0) _ hQ7 Tryd.underlying87 rfl info87 ?_))
                    go_ret2
                    exact HE.out
                · go_simp
                  have hT18 : S11d w.heap.size Fr x ((wU.alloc (.cells #[.int .i64 0, .int .u8 0, .int .i64 0, .int .u64 0, .int .i64 0, .int .u16 0, .int .u64 0, .int .i64 0, .int .u64 0, .int .i64 0, .slice none 0 0, .int .u64 0, .slice none 0 0, .slice none 0 0, .int .u64 0, .int .u64 0] 87))) := s11_keep HS11.out (bl1 _ _)
                  have b19 : Below wU.heap.size wU (wU.alloc (.cells #[.int .i64 0, .int .u8 0, .int .i64 0, .int .u64 0, .int .i64 0, .int .u16 0, .int .u64 0, .int .i64 0, .int .u64 0, .int .i64 0, .slice none 0 0, .int .u64 0, .slice none 0 0, .slice none 0 0, .int .u64 0, .int .u64 0] 87)) := bl1 _ _
                  have hB20 : (wU.alloc (.cells #[.int .i64 0, .int .u8 0, .int .i64 0, .int .u64 0, .int .i64 0, .int .u16 0, .int .u64 0, .int .i64 0, .int .u64 0, .int .i64 0, .slice none 0 0, .int .u64 0, .slice none 0 0, .slice none 0 0, .int .u64 0, .int .u64 0] 87)).heap[wU.heap.size]? = some (.cells #[.int .i64 0, .int .u8 0, .int .i64 0, .int .u64 0, .int .i64 0, .int .u16 0, .int .u64 0, .int .i64 0, .int .u64 0, .int .i64 0, .slice none 0 0, .int .u64 0, .slice none 0 0, .slice none 0 0, .int .u64 0, .int .u64 0] 87 (0, 0)) := heap_alloc_new _ _
                  refine hK.out _ _ hT18 (fun hHeld => ?_)
                  clear hK K
                  (try simp only [Act.put, List.setIfInBounds_toArray, List.set_cons_zero, List.set_cons_succ])
                  obtain ⟨u17, hu17⟩ : ∃ u17, wU.alloc (.cells #[.int .i64 0, .int .u8 0, .int .i64 0, .int .u64 0, .int .i64 0, .int .u16 0, .int .u64 0, .int .i64 0, .int .u64 0, .int .i64 0, .slice none 0 0, .int .u64 0, .slice none 0 0, .slice none 0 0, .int .u64 0, .int .u64 0] 87) = u17 := ⟨_, rfl⟩
                  rw [hu17] at hT18 b19 hB20 ⊢
                  have b19c := bl_step (Below.refl wU.heap.size wU) b19
                  obtain ⟨gu17, hgu17⟩ : ∃ g, wU.heap.size = g := ⟨_, rfl⟩
                  have hB20n : wU.heap.size ≤ gu17 := Nat.le_trans (Below.refl wU.heap.size wU).size (Nat.le_of_eq hgu17)
                  rw [hgu17] at hB20 ⊢
                  clear hu17 hgu17
                  refine comes_up 6 rfl (by kernel_rfl) (fun K hK => ?_)
                  go_simp
                  refine (HCP.out u17 b19c).mono ?_
                  rintro e u21 ⟨ao5, cap5, rfl, hsi5, b22⟩
                  have hT23 : S11d w.heap.size Fr x u21 := s11_keep hT18 b22
                  have b22c := bl_step b19c b22
                  have hsi5c : Si (fun b => wU.heap.size ≤ b ∧ b ≠ gu17) u21 (x.1, x.2.1, x.2.2.1, ao5, x.2.2.2.2.1, cap5) d := hsi5.imp (fun b _ hb => ⟨Nat.le_trans b19c.size hb, fun e => by have hb' : u17.heap.size ≤ b := hb; have := heap_lt hB20; omega⟩)
                  clear hsi5
                  replace hB20 := (b22.block gu17 (heap_lt hB20)).trans hB20
                  go_wp2_with fail
                  refine hK.out _ _ hT23 (fun hHeld => ?_)
                  clear hK K
                  (try simp only [Act.put, List.setIfInBounds_toArray, List.set_cons_zero, List.set_cons_succ])
                  refine comes_up 7 rfl (by kernel_rfl) (fun K hK => ?_)
                  go_simp
                  have hT25 : S11d w.heap.size Fr x ((u21.alloc (.cells #[.int .u64 (x.1 : Nat), .int .i64 x.2.1, .int .i64 x.2.2.1, .slice ao5 x.2.2.2.2.1 cap5] 45))) := s11_keep hT23 (bl1 _ _)
                  have b26 : Below u21.heap.size u21 (u21.alloc (.cells #[.int .u64 (x.1 : Nat), .int .i64 x.2.1, .int .i64 x.2.2.1, .slice ao5 x.2.2.2.2.1 cap5] 45)) := bl1 _ _
                  have hBs : (u21.alloc (.cells #[.int .u64 (x.1 : Nat), .int .i64 x.2.1, .int .i64 x.2.2.1, .slice ao5 x.2.2.2.2.1 cap5] 45)).heap[u21.heap.size]? = some (.cells #[.int .u64 (x.1 : Nat), .int .i64 x.2.1, .int .i64 x.2.2.1, .slice ao5 x.2.2.2.2.1 cap5] 45 (0, 0)) := heap_alloc_new _ _
                  have hBsn : wU.heap.size ≤ u21.heap.size := b22c.size
                  refine hK.out _ _ hT25 (fun hHeld => ?_)
                  clear hK K
                  (try simp only [Act.put, List.setIfInBounds_toArray, List.set_cons_zero, List.set_cons_succ])
                  obtain ⟨u24, hu24⟩ : ∃ u24, u21.alloc (.cells #[.int .u64 (x.1 : Nat), .int .i64 x.2.1, .int .i64 x.2.2.1, .slice ao5 x.2.2.2.2.1 cap5] 45) = u24 := ⟨_, rfl⟩
                  rw [hu24] at hT25 b26 hBs ⊢
                  obtain ⟨gs, hgs⟩ : ∃ g, u21.heap.size = g := ⟨_, rfl⟩
                  have b26c := bl_step b22c b26
                  replace hsi5c := hsi5c.keep (Kp.up b26)
                  replace hB20 := (b26.block gu17 (heap_lt hB20)).trans hB20
                  rw [hgs] at hBs hBsn ⊢
                  clear hu24 hgs
                  have HS1 : Hid (u24.heap[gs]? = some (.cells #[.int .u64 (x.1 : Nat), .int .i64 x.2.1, .int .i64 x.2.2.1, .slice ao5 x.2.2.2.2.1 cap5] 45 (0, 0)) ∧ Si (fun b => wU.heap.size ≤ b ∧ b ≠ gu17) u24 (x.1, x.2.1, x.2.2.1, ao5, x.2.2.2.2.1, cap5) d ∧ wU.heap.size ≤ gs) := ⟨hBs, hsi5c, hBsn⟩
                  clear hBs hsi5c hBsn
                  refine tk 8 rfl (fun wx ⟨a1, a2, a3, a4, a5, a6, a7⟩ => by go_simp; try with_reducible rfl) ?_
                  refine comes_up 9 rfl (by kernel_rfl) (fun K hK => ?_)
                  go_simp
                  refine (HOU.out u24 b26c gs).mono ?_
                  rintro e u27 ⟨rfl, b28⟩
                  have hT29 : S11d w.heap.size Fr x u27 := s11_keep hT25 b28
                  have b28c := bl_step b26c b28
                  replace hB20 := (b28.block gu17 (heap_lt hB20)).trans hB20
                  replace HS1 : Hid (u27.heap[gs]? = some (.cells #[.int .u64 (x.1 : Nat), .int .i64 x.2.1, .int .i64 x.2.2.1, .slice ao5 x.2.2.2.2.1 cap5] 45 (0, 0)) ∧ Si (fun b => wU.heap.size ≤ b ∧ b ≠ gu17) u27 (x.1, x.2.1, x.2.2.1, ao5, x.2.2.2.2.1, cap5) d ∧ wU.heap.size ≤ gs) := ⟨(b28.block gs (heap_lt HS1.out.1)).trans HS1.out.1, HS1.out.2.1.keep (Kp.up b28), HS1.out.2.2⟩
                  go_wp2_with fail
                  refine hK.out _ _ hT29 (fun hHeld => ?_)
                  clear hK K
                  (try simp only [Act.put, List.setIfInBounds_toArray, List.set_cons_zero, List.set_cons_succ])
                  obtain ⟨u30, hu30⟩ : ∃ w7, u27.setRow gu17 #[.int .i64 Fr.frm, .int .u8 3, .int .i64 (T.self : Nat), .int .u64 (Fr.idN : Nat), .int .i64 Fr.idP, .int .u16 0, .int .u64 0, .int .i64 0, .int .u64 0, .int .i64 0, .slice (some ⟨gs, 0, none⟩) 1 1, .int .u64 0, .slice none 0 0, .slice none 0 0, .int .u64 0, .int .u64 0] = w7 := ⟨_, rfl⟩
                  have bu30 : Below wU.heap.size wU u30 := by rw [← hu30]; exact bl_row b28c hB20n
                  have hS7 : S11d w.heap.size Fr x u30 := s11_keep HS11.out bu30
                  have hQ7 : u30.heap[gu17]? = some (.cells #[.int .i64 Fr.frm, .int .u8 3, .int .i64 (T.self : Nat), .int .u64 (Fr.idN : Nat), .int .i64 Fr.idP, .int .u16 0, .int .u64 0, .int .i64 0, .int .u64 0, .int .i64 0, .slice (some ⟨gs, 0, none⟩) 1 1, .int .u64 0, .slice none 0 0, .slice none 0 0, .int .u64 0, .int .u64 0] 87 (0, 0)) := by rw [← hu30]; exact setRow_heap _ _ _ _ 87 (0, 0) hB20
                  have hgne : gs ≠ gu17 := fun e => by have h1 := HS1.out.1; rw [e, hB20] at h1; simp at h1
                  have HE : Hid (PropPost w F Z q R (.returned (.tuple #[.slice (some ⟨u30.heap.size, 0, none⟩) 1 1, .int .i64 0])) (u30.alloc (.cells #[.int .i64 Fr.frm, .int .u8 3, .int .i64 (T.self : Nat), .int .u64 (Fr.idN : Nat), .int .i64 Fr.idP, .int .u16 0, .int .u64 0, .int .i64 0, .int .u64 0, .int .i64 0, .slice (some ⟨gs, 0, none⟩) 1 1, .int .u64 0, .slice none 0 0, .slice none 0 0, .int .u64 0, .int .u64 0] 87))) :=
                    HEND.out u30 bu30 gs ao5 cap5 (by rw [← hu30, setRow_other _ _ _ _ hgne]; exact HS1.out.1) (by rw [← hu30]; exact (HS1.out.2.1.keep (kp_row (fun b hb => hb.2))).imp (fun b _ hb => hb.1)) HS1.out.2.2
                  refine comes_up 11 rfl (by kernel_rfl) (fun K hK => ?_)
                  refine step_store_row rfl 87 (.tmp 10) (.tmp 104) rfl gu17 #[.int .i64 Fr.frm, .int .u8 3, .int .i64 (T.self : Nat), .int .u64 (Fr.idN : Nat), .int .i64 Fr.idP, .int .u16 0, .int .u64 0, .int .i64 0, .int .u64 0, .int .i64 0, .slice (some ⟨gs, 0, none⟩) 1 1, .int .u64 0, .slice none 0 0, .slice none 0 0, .int .u64 0, .int .u64 0] rfl rfl 87 _ hB20 info87 rfl (by simp [Value.oneCell']) ?_
                  rw [hu30]
                  refine hK.out _ _ hS7 (fun hHeld => ?_)
                  clear hK K
                  (try simp only [Act.put])
                  refine wpAnyH_done (by kernel_rfl) ?_ _
                  refine NoPanic.normal ?_
                  clear hS7 hHeld hu30 bu30 HEND HOU HS11 HCP HS1
                  go_wp2_with (first | (refine wpList_load_row rfl 87 (.tmp 10) rfl gu17 rfl 87 #[.int .i64 Fr.frm, .int .u8 3, .int .i64 (T.self : Nat), .int .u64 (Fr.idN : Nat), .int .i64 Fr.idP, .int .u16 0, .int .u64 0, .int .i64 0, .int .u64 0, .int .i64 0, .slice (some ⟨gs, 0, none⟩) 1 1, .int .u64 0, .slice none 0 0, .slice none 0 0, .int .u64 0, .int .u64 0] (0, 0) _ hQ7 Tryd.underlying87 rfl info87 ?_))
                  go_ret2
                  exact HE.out
            · rw [show decide (Fr.id = T.prom) = false by simpa using ep] at hqp
              have HR : Hid (R = ⟨T, [(i, T.no Fr)], none, 9⟩) := HRN.out (.inl ep)
              clear ep HRN HRY
              go_wp2_with fail
              refine wp_region_noPanic ?_
              refine wp_region_held_drew (S := fun wx => S9d w.heap.size q Fr T wx) (by kernel_rfl) hS8 (fun hHeld => ?_)
              refine tk 0 rfl (fun wx ⟨a1, a2, a3, a4, a5, a6, a7⟩ => by go_simp; try with_reducible rfl) ?_
              refine tk 1 rfl (fun wx ⟨a1, a2, a3, a4, a5, a6, a7⟩ => by go_simp; try with_reducible rfl) ?_
              refine tk 2 rfl (fun wx ⟨a1, a2, a3, a4, a5, a6, a7⟩ => by go_simp; try with_reducible rfl) ?_
              refine tk 3 rfl (fun wx ⟨a1, a2, a3, a4, a5, a6, a7⟩ => by go_simp; try with_reducible rfl) ?_
              refine tk 4 rfl (fun wx ⟨a1, a2, a3, a4, a5, a6, a7⟩ => by go_simp; try with_reducible rfl) ?_
              refine tk 5 rfl (fun wx ⟨a1, a2, a3, a4, a5, a6, a7⟩ => by go_simp; try with_reducible rfl) ?_
              refine tk 6 rfl (fun wx ⟨a1, a2, a3, a4, a5, a6, a7⟩ => by go_simp; try with_reducible rfl) ?_
              refine tk 7 rfl (fun wx ⟨a1, a2, a3, a4, a5, a6, a7⟩ => by go_simp; try with_reducible rfl) ?_
              refine take_first 8 (v := undef) rfl (by kernel_rfl) (by kernel_rfl) (by kernel_rfl) (fun _ _ _ h => h) (Or.inr ⟨by rfl, rfl⟩) (by assumption) ?_
              (try simp only [Act.put, List.setIfInBounds_toArray, List.set_cons_zero, List.set_cons_succ])
              refine take_first 9 (v := undef) rfl (by kernel_rfl) (by kernel_rfl) (by kernel_rfl) (fun _ _ _ h => h) (Or.inr ⟨by rfl, rfl⟩) (by assumption) ?_
              (try simp only [Act.put, List.setIfInBounds_toArray, List.set_cons_zero, List.set_cons_succ])
              refine take_first 10 (v := undef) rfl (by kernel_rfl) (by kernel_rfl) (by kernel_rfl) (fun _ _ _ h => h) (Or.inr ⟨by rfl, rfl⟩) (by assumption) ?_
              (try simp only [Act.put, List.setIfInBounds_toArray, List.set_cons_zero, List.set_cons_succ])
              refine take_first 11 (v := undef) rfl (by kernel_rfl) (by kernel_rfl) (by kernel_rfl) (fun _ _ _ h => h) (Or.inr ⟨by rfl, rfl⟩) (by assumption) ?_
              (try simp only [Act.put, List.setIfInBounds_toArray, List.set_cons_zero, List.set_cons_succ])
              refine take_first 12 (v := undef) rfl (by kernel_rfl) (by kernel_rfl) (by kernel_rfl) (fun _ _ _ h => h) (Or.inr ⟨by rfl, rfl⟩) (by assumption) ?_
              (try simp only [Act.put, List.setIfInBounds_toArray, List.set_cons_zero, List.set_cons_succ])
              refine take_first 13 (v := undef) rfl (by kernel_rfl) (by kernel_rfl) (by kernel_rfl) (fun _ _ _ h => h) (Or.inr ⟨by rfl, rfl⟩) (by assumption) ?_
              (try simp only [Act.put, List.setIfInBounds_toArray, List.set_cons_zero, List.set_cons_succ])
              refine take_first 14 (v := undef) rfl (by kernel_rfl) (by kernel_rfl) (by kernel_rfl) (fun _ _ _ h => h) (Or.inr ⟨by rfl, rfl⟩) (by assumption) ?_
              (try simp only [Act.put, List.setIfInBounds_toArray, List.set_cons_zero, List.set_cons_succ])
              refine take_first 15 (v := undef) rfl (by kernel_rfl) (by kernel_rfl) (by kernel_rfl) (fun _ _ _ h => h) (Or.inr ⟨by rfl, rfl⟩) (by assumption) ?_
              (try simp only [Act.put, List.setIfInBounds_toArray, List.set_cons_zero, List.set_cons_succ])
              refine tk 16 rfl (fun wx ⟨a1, a2, a3, a4, a5, a6, a7⟩ => by go_simp; try with_reducible rfl) ?_
              refine wpAnyH_done (by kernel_rfl) ?_ _
              refine NoPanic.normal ?_
              clear hS8
              clear hHeld hqp hqc
              have HS9 : Hid (S9d w.heap.size q Fr T wT.drew.drew) := HT.out.2.2.2.2
              have HOU : Hid (∀ W, Below wT.drew.drew.heap.size wT.drew.drew W → Calls Tryd.prog 72 #[.pointer (some ⟨q, 0, none⟩), .int .i64 Fr.frm, .agg #[.int .u8 4, .int .i64 0, .int .u64 (Fr.idN : Nat), .int .i64 Fr.idP, .int .u16 0, .int .u64 0, .int .i64 0, .int .u64 (T.prom.1 : Nat), .int .i64 T.prom.2, .slice none 0 0, .int .u64 0, .slice none 0 0, .slice none 0 0, .int .u64 0, .int .u64 0]] W fun e w' => e = .returned (.agg #[.int .i64 Fr.frm, .int .u8 4, .int .i64 (T.self : Nat), .int .u64 (Fr.idN : Nat), .int .i64 Fr.idP, .int .u16 0, .int .u64 0, .int .i64 0, .int .u64 (T.prom.1 : Nat), .int .i64 T.prom.2, .slice none 0 0, .int .u64 0, .slice none 0 0, .slice none 0 0, .int .u64 0, .int .u64 0]) ∧ Below W.heap.size W w') := fun W u => by
                have hou := out_any (HT.out.1.still (⟨u.os, u.tape, u.output, u.size, u.block⟩ : Below wT.heap.size wT W)) i { zeroF with kind := 4, idN := Fr.idN, idP := Fr.idP, promN := T.prom.1, promP := T.prom.2 } Fa.none
                unfold oval ocells fval fcells PF.by_ at hou
                rw [← HFR.out] at hou
                exact hou
              have HEND : Hid (∀ W, Below wT.drew.drew.heap.size wT.drew.drew W → PropPost w F Z q R (.returned (.tuple #[.slice (some ⟨W.heap.size, 0, none⟩) 1 1, .int .i64 9])) (W.alloc (.cells #[.int .i64 Fr.frm, .int .u8 4, .int .i64 (T.self : Nat), .int .u64 (Fr.idN : Nat), .int .i64 Fr.idP, .int .u16 0, .int .u64 0, .int .i64 0, .int .u64 (T.prom.1 : Nat), .int .i64 T.prom.2, .slice none 0 0, .int .u64 0, .slice none 0 0, .slice none 0 0, .int .u64 0, .int .u64 0] 87))) := fun W u => by
                rw [HR.out]
                have b7 : Below wT.heap.size wT W := ⟨u.os, u.tape, u.output, u.size, u.block⟩
                have b8 : Below wT.heap.size wT (W.alloc (.cells #[.int .i64 Fr.frm, .int .u8 4, .int .i64 (T.self : Nat), .int .u64 (Fr.idN : Nat), .int .i64 Fr.idP, .int .u16 0, .int .u64 0, .int .i64 0, .int .u64 (T.prom.1 : Nat), .int .i64 T.prom.2, .slice none 0 0, .int .u64 0, .slice none 0 0, .slice none 0 0, .int .u64 0, .int .u64 0] 87)) := b7.alloc b7.size _
                refine ⟨_, rfl, F, nz Z wT (W.alloc (.cells #[.int .i64 Fr.frm, .int .u8 4, .int .i64 (T.self : Nat), .int .u64 (Fr.idN : Nat), .int .i64 Fr.idP, .int .u16 0, .int .u64 0, .int .i64 0, .int .u64 (T.prom.1 : Nat), .int .i64 T.prom.2, .slice none 0 0, .int .u64 0, .slice none 0 0, .slice none 0 0, .int .u64 0, .int .u64 0] 87)), oT, HT.out.2.1.trans (Sp.up b8 HT.out.1.zl), HT.out.1.up b8, ?_, rfl⟩
                refine outs_one (L := (i, T.no Fr, Fa.none)) rfl ?_ (.inr ⟨b7.size, by simp⟩) (Nat.le_trans HT.out.1.tab.lt b7.size) (Ss.nil _ _)
                have := heap_alloc_new W (.cells #[.int .i64 Fr.frm, .int .u8 4, .int .i64 (T.self : Nat), .int .u64 (Fr.idN : Nat), .int .i64 Fr.idP, .int .u16 0, .int .u64 0, .int .i64 0, .int .u64 (T.prom.1 : Nat), .int .i64 T.prom.2, .slice none 0 0, .int .u64 0, .slice none 0 0, .slice none 0 0, .int .u64 0, .int .u64 0] 87)
                rw [HFR.out] at this ⊢
                exact this
              have hS9 := HS9.out
              clear HR
              go_wp2_with fail
              refine wp_region_noPanic ?_
              refine wp_region_held_drew (S := fun wx => S9d w.heap.size q Fr T wx) (by kernel_rfl) hS9 (fun hHeld => ?_)
              refine tk 0 rfl (fun wx ⟨a1, a2, a3, a4, a5, a6, a7⟩ => by go_simp; try with_reducible rfl) ?_
              refine tk 1 rfl (fun wx ⟨a1, a2, a3, a4, a5, a6, a7⟩ => by go_simp; try with_reducible rfl) ?_
              refine tk 2 rfl (fun wx ⟨a1, a2, a3, a4, a5, a6, a7⟩ => by go_simp; try with_reducible rfl) ?_
              refine tk 3 rfl (fun wx ⟨a1, a2, a3, a4, a5, a6, a7⟩ => by go_simp; try with_reducible rfl) ?_
              refine tk 4 rfl (fun wx ⟨a1, a2, a3, a4, a5, a6, a7⟩ => by go_simp; try with_reducible rfl) ?_
              refine tk 5 rfl (fun wx ⟨a1, a2, a3, a4, a5, a6, a7⟩ => by go_simp; try with_reducible rfl) ?_
              refine tk 6 rfl (fun wx ⟨a1, a2, a3, a4, a5, a6, a7⟩ => by go_simp; try with_reducible rfl) ?_
              refine tk 7 rfl (fun wx ⟨a1, a2, a3, a4, a5, a6, a7⟩ => by go_simp; try with_reducible rfl) ?_
              refine tk 8 rfl (fun wx ⟨a1, a2, a3, a4, a5, a6, a7⟩ => by go_simp; try with_reducible rfl) ?_
              refine tk 9 rfl (fun wx ⟨a1, a2, a3, a4, a5, a6, a7⟩ => by go_simp; try with_reducible rfl) ?_
              clear hS9 hHeld
              generalize wT.drew.drew = wU at *
              refine comes_up2 10 11 rfl rfl (by kernel_rfl) (fun K hK => ?_) (fun K hK => ?_)
              · go_simp
                refine (HOU.out wU (Below.refl wU.heap.size wU)).mono ?_
                rintro e u1 ⟨rfl, b2⟩
                have hT3 : S9d w.heap.size q Fr T u1 := s9_keep HS9.out b2
                have b2c := bl_step (Below.refl wU.heap.size wU) b2
                go_wp2_with fail
                refine hK.out _ _ hT3 (fun hHeld => ?_)
                clear hK K
                (try simp only [Act.put, List.setIfInBounds_toArray, List.set_cons_zero, List.set_cons_succ])
                refine comes_up 11 rfl (by kernel_rfl) (fun K hK => ?_)
                go_simp
                have hT5 : S9d w.heap.size q Fr T ((u1.alloc (.cells #[.int .i64 0, .int .u8 0, .int .i64 0, .int .u64 0, .int .i64 0, .int .u16 0, .int .u64 0, .int .i64 0, .int .u64 0, .int .i64 0, .slice none 0 0, .int .u64 0, .slice none 0 0, .slice none 0 0, .int .u64 0, .int .u64 0] 87))) := s9_keep hT3 (bl1 _ _)
                have b6 : Below wU.heap.size wU (u1.alloc (.cells #[.int .i64 0, .int .u8 0, .int .i64 0, .int .u64 0, .int .i64 0, .int .u16 0, .int .u64 0, .int .i64 0, .int .u64 0, .int .i64 0, .slice none 0 0, .int .u64 0, .slice none 0 0, .slice none 0 0, .int .u64 0, .int .u64 0] 87)) := b2c.alloc b2c.size _
                have hB7 : (u1.alloc (.cells #[.int .i64 0, .int .u8 0, .int .i64 0, .int .u64 0, .int .i64 0, .int .u16 0, .int .u64 0, .int .i64 0, .int .u64 0, .int .i64 0, .slice none 0 0, .int .u64 0, .slice none 0 0, .slice none 0 0, .int .u64 0, .int .u64 0] 87)).heap[u1.heap.size]? = some (.cells #[.int .i64 0, .int .u8 0, .int .i64 0, .int .u64 0, .int .i64 0, .int .u16 0, .int .u64 0, .int .i64 0, .int .u64 0, .int .i64 0, .slice none 0 0, .int .u64 0, .slice none 0 0, .slice none 0 0, .int .u64 0, .int .u64 0] 87 (0, 0)) := heap_alloc_new _ _
                refine hK.out _ _ hT5 (fun hHeld => ?_)
                clear hK K
                (try simp only [Act.put, List.setIfInBounds_toArray, List.set_cons_zero, List.set_cons_succ])
                obtain ⟨u4, hu4⟩ : ∃ u4, u1.alloc (.cells #[.int .i64 0, .int .u8 0, .int .i64 0, .int .u64 0, .int .i64 0, .int .u16 0, .int .u64 0, .int .i64 0, .int .u64 0, .int .i64 0, .slice none 0 0, .int .u64 0, .slice none 0 0, .slice none 0 0, .int .u64 0, .int .u64 0] 87) = u4 := ⟨_, rfl⟩
                rw [hu4] at hT5 b6 hB7 ⊢
                obtain ⟨gu4, hgu4⟩ : ∃ g, u1.heap.size = g := ⟨_, rfl⟩
                have hB7n : wU.heap.size ≤ gu4 := Nat.le_trans b2c.size (Nat.le_of_eq hgu4)
                rw [hgu4] at hB7 ⊢
                clear hu4 hgu4
                obtain ⟨u8, hu8⟩ : ∃ w7, u4.setRow gu4 #[.int .i64 Fr.frm, .int .u8 4, .int .i64 (T.self : Nat), .int .u64 (Fr.idN : Nat), .int .i64 Fr.idP, .int .u16 0, .int .u64 0, .int .i64 0, .int .u64 (T.prom.1 : Nat), .int .i64 T.prom.2, .slice none 0 0, .int .u64 0, .slice none 0 0, .slice none 0 0, .int .u64 0, .int .u64 0] = w7 := ⟨_, rfl⟩
                have bu8 : Below wU.heap.size wU u8 := by rw [← hu8]; exact bl_row b6 hB7n
                have hS7 : S9d w.heap.size q Fr T u8 := s9_keep HS9.out bu8
                have hQ7 : u8.heap[gu4]? = some (.cells #[.int .i64 Fr.frm, .int .u8 4, .int .i64 (T.self : Nat), .int .u64 (Fr.idN : Nat), .int .i64 Fr.idP, .int .u16 0, .int .u64 0, .int .i64 0, .int .u64 (T.prom.1 : Nat), .int .i64 T.prom.2, .slice none 0 0, .int .u64 0, .slice none 0 0, .slice none 0 0, .int .u64 0, .int .u64 0] 87 (0, 0)) := by rw [← hu8]; exact setRow_heap _ _ _ _ 87 (0, 0) hB7
                have HE : Hid (PropPost w F Z q R (.returned (.tuple #[.slice (some ⟨u8.heap.size, 0, none⟩) 1 1, .int .i64 9])) (u8.alloc (.cells #[.int .i64 Fr.frm, .int .u8 4, .int .i64 (T.self : Nat), .int .u64 (Fr.idN : Nat), .int .i64 Fr.idP, .int .u16 0, .int .u64 0, .int .i64 0, .int .u64 (T.prom.1 : Nat), .int .i64 T.prom.2, .slice none 0 0, .int .u64 0, .slice none 0 0, .slice none 0 0, .int .u64 0, .int .u64 0] 87))) := HEND.out u8 bu8
                refine comes_up 12 rfl (by kernel_rfl) (fun K hK => ?_)
                refine step_store_row rfl 87 (.tmp 9) (.tmp 92) rfl gu4 #[.int .i64 Fr.frm, .int .u8 4, .int .i64 (T.self : Nat), .int .u64 (Fr.idN : Nat), .int .i64 Fr.idP, .int .u16 0, .int .u64 0, .int .i64 0, .int .u64 (T.prom.1 : Nat), .int .i64 T.prom.2, .slice none 0 0, .int .u64 0, .slice none 0 0, .slice none 0 0, .int .u64 0, .int .u64 0] rfl rfl 87 _ hB7 info87 rfl (by simp [Value.oneCell']) ?_
                rw [hu8]
                refine hK.out _ _ hS7 (fun hHeld => ?_)
                clear hK K
                (try simp only [Act.put])
                refine wpAnyH_done (by kernel_rfl) ?_ _
                refine NoPanic.normal ?_
                clear hS7 hHeld hu8 bu8 HEND HOU HS9
                go_wp2_with (first | (refine wpList_load_row rfl 87 (.tmp 9) rfl gu4 rfl 87 #[.int .i64 Fr.frm, .int .u8 4, .int .i64 (T.self : Nat), .int .u64 (Fr.idN : Nat), .int .i64 Fr.idP, .int .u16 0, .int .u64 0, .int .i64 0, .int .u64 (T.prom.1 : Nat), .int .i64 T.prom.2, .slice none 0 0, .int .u64 0, .slice none 0 0, .slice none 0 0, .int .u64 0, .int .u64 0] (0, 0) _ hQ7 Tryd.underlying87 rfl info87 ?_))
                go_ret2
                exact HE.out
              · go_simp
                have hT10 : S9d w.heap.size q Fr T ((wU.alloc (.cells #[.int .i64 0, .int .u8 0, .int .i64 0, .int .u64 0, .int .i64 0, .int .u16 0, .int .u64 0, .int .i64 0, .int .u64 0, .int .i64 0, .slice none 0 0, .int .u64 0, .slice none 0 0, .slice none 0 0, .int .u64 0, .int .u64 0] 87))) := s9_keep HS9.out (bl1 _ _)
                have b11 : Below wU.heap.size wU (wU.alloc (.cells #[.int .i64 0, .int .u8 0, .int .i64 0, .int .u64 0, .int .i64 0, .int .u16 0, .int .u64 0, .int .i64 0, .int .u64 0, .int .i64 0, .slice none 0 0, .int .u64 0, .slice none 0 0, .slice none 0 0, .int .u64 0, .int .u64 0] 87)) := (Below.refl wU.heap.size wU).alloc (Below.refl wU.heap.size wU).size _
                have hB12 : (wU.alloc (.cells #[.int .i64 0, .int .u8 0, .int .i64 0, .int .u64 0, .int .i64 0, .int .u16 0, .int .u64 0, .int .i64 0, .int .u64 0, .int .i64 0, .slice none 0 0, .int .u64 0, .slice none 0 0, .slice none 0 0, .int .u64 0, .int .u64 0] 87)).heap[wU.heap.size]? = some (.cells #[.int .i64 0, .int .u8 0, .int .i64 0, .int .u64 0, .int .i64 0, .int .u16 0, .int .u64 0, .int .i64 0, .int .u64 0, .int .i64 0, .slice none 0 0, .int .u64 0, .slice none 0 0, .slice none 0 0, .int .u64 0, .int .u64 0] 87 (0, 0)) := heap_alloc_new _ _
                refine hK.out _ _ hT10 (fun hHeld => ?_)
                clear hK K
                (try simp only [Act.put, List.setIfInBounds_toArray, List.set_cons_zero, List.set_cons_succ])
                obtain ⟨u9, hu9⟩ : ∃ u9, wU.alloc (.cells #[.int .i64 0, .int .u8 0, .int .i64 0, .int .u64 0, .int .i64 0, .int .u16 0, .int .u64 0, .int .i64 0, .int .u64 0, .int .i64 0, .slice none 0 0, .int .u64 0, .slice none 0 0, .slice none 0 0, .int .u64 0, .int .u64 0] 87) = u9 := ⟨_, rfl⟩
                rw [hu9] at hT10 b11 hB12 ⊢
                obtain ⟨gu9, hgu9⟩ : ∃ g, wU.heap.size = g := ⟨_, rfl⟩
                have hB12n : wU.heap.size ≤ gu9 := Nat.le_trans (Below.refl wU.heap.size wU).size (Nat.le_of_eq hgu9)
                rw [hgu9] at hB12 ⊢
                clear hu9 hgu9
                refine comes_up 10 rfl (by kernel_rfl) (fun K hK => ?_)
                go_simp
                refine (HOU.out u9 b11).mono ?_
                rintro e u13 ⟨rfl, b14⟩
                have hT15 : S9d w.heap.size q Fr T u13 := s9_keep hT10 b14
                have b14c := bl_step b11 b14
                go_wp2_with fail
                refine hK.out _ _ hT15 (fun hHeld => ?_)
                clear hK K
                (try simp only [Act.put, List.setIfInBounds_toArray, List.set_cons_zero, List.set_cons_succ])
                have hB12m := (b14.block gu9 (heap_lt hB12)).trans hB12
                have hB12mn := hB12n
                obtain ⟨u16, hu16⟩ : ∃ w7, u13.setRow gu9 #[.int .i64 Fr.frm, .int .u8 4, .int .i64 (T.self : Nat), .int .u64 (Fr.idN : Nat), .int .i64 Fr.idP, .int .u16 0, .int .u64 0, .int .i64 0, .int .u64 (T.prom.1 : Nat), .int .i64 T.prom.2, .slice none 0 0, .int .u64 0, .slice none 0 0, .slice none 0 0, .int .u64 0, .int .u64 0] = w7 := ⟨_, rfl⟩
                have bu16 : Below wU.heap.size wU u16 := by rw [← hu16]; exact bl_row b14c hB12mn
                have hS7 : S9d w.heap.size q Fr T u16 := s9_keep HS9.out bu16
                have hQ7 : u16.heap[gu9]? = some (.cells #[.int .i64 Fr.frm, .int .u8 4, .int .i64 (T.self : Nat), .int .u64 (Fr.idN : Nat), .int .i64 Fr.idP, .int .u16 0, .int .u64 0, .int .i64 0, .int .u64 (T.prom.1 : Nat), .int .i64 T.prom.2, .slice none 0 0, .int .u64 0, .slice none 0 0, .slice none 0 0, .int .u64 0, .int .u64 0] 87 (0, 0)) := by rw [← hu16]; exact setRow_heap _ _ _ _ 87 (0, 0) hB12m
                have HE : Hid (PropPost w F Z q R (.returned (.tuple #[.slice (some ⟨u16.heap.size, 0, none⟩) 1 1, .int .i64 9])) (u16.alloc (.cells #[.int .i64 Fr.frm, .int .u8 4, .int .i64 (T.self : Nat), .int .u64 (Fr.idN : Nat), .int .i64 Fr.idP, .int .u16 0, .int .u64 0, .int .i64 0, .int .u64 (T.prom.1 : Nat), .int .i64 T.prom.2, .slice none 0 0, .int .u64 0, .slice none 0 0, .slice none 0 0, .int .u64 0, .int .u64 0] 87))) := HEND.out u16 bu16
                refine comes_up 12 rfl (by kernel_rfl) (fun K hK => ?_)
                refine step_store_row rfl 87 (.tmp 9) (.tmp 92) rfl gu9 #[.int .i64 Fr.frm, .int .u8 4, .int .i64 (T.self : Nat), .int .u64 (Fr.idN : Nat), .int .i64 Fr.idP, .int .u16 0, .int .u64 0, .int .i64 0, .int .u64 (T.prom.1 : Nat), .int .i64 T.prom.2, .slice none 0 0, .int .u64 0, .slice none 0 0, .slice none 0 0, .int .u64 0, .int .u64 0] rfl rfl 87 _ hB12m info87 rfl (by simp [Value.oneCell']) ?_
                rw [hu16]
                refine hK.out _ _ hS7 (fun hHeld => ?_)
                clear hK K
                (try simp only [Act.put])
                refine wpAnyH_done (by kernel_rfl) ?_ _
                refine NoPanic.normal ?_
                clear hS7 hHeld hu16 bu16 HEND HOU HS9
                go_wp2_with (first | (refine wpList_load_row rfl 87 (.tmp 9) rfl gu9 rfl 87 #[.int .i64 Fr.frm, .int .u8 4, .int .i64 (T.self : Nat), .int .u64 (Fr.idN : Nat), .int .i64 Fr.idP, .int .u16 0, .int .u64 0, .int .i64 0, .int .u64 (T.prom.1 : Nat), .int .i64 T.prom.2, .slice none 0 0, .int .u64 0, .slice none 0 0, .slice none 0 0, .int .u64 0, .int .u64 0] (0, 0) _ hQ7 Tryd.underlying87 rfl info87 ?_))
                go_ret2
                exact HE.out
        · have HE : Hid (PropPost w F Z q R (.returned (.tuple #[.slice none 0 0, .int .i64 3])) w2.drew.drew) := HC.out (.inr (.inr eA))
          have hAI : ¬ (((Fr.set &&& (65535 - (2 ^ M.n - 1)) : Nat) : Int) = 0) := by omega
          clear HC HM HSI hR hF hSf eP eA
          go_enter Tryd.func46, Tryd.ntmps46
          go_wp2_with fail
          rw [HW.out]
          refine wp_region_noPanic ?_
          refine wp_region_held_drew (S := fun wx => Pr w.heap.size q Fr M wx) (by kernel_rfl) hS (fun hHeld => ?_)
          refine tk 0 rfl (fun wx ⟨a1, a2, a3, a4, a5, a6, a7, a8, a9, a10⟩ => by go_simp; try with_reducible rfl) ?_
          refine tk 1 rfl (fun wx ⟨a1, a2, a3, a4, a5, a6, a7, a8, a9, a10⟩ => by go_simp; try with_reducible rfl) ?_
          refine tk 2 rfl (fun wx ⟨a1, a2, a3, a4, a5, a6, a7, a8, a9, a10⟩ => by go_simp; try with_reducible rfl) ?_
          refine tk 3 rfl (fun wx ⟨a1, a2, a3, a4, a5, a6, a7, a8, a9, a10⟩ => by go_simp; try with_reducible rfl) ?_
          refine comes_up 4 rfl (by kernel_rfl) (fun K hK => ?_)
          go_simp
          refine (hhF _).mono ?_
          rintro e w0 ⟨rfl, rfl⟩
          go_wp2_with fail
          refine hK.out _ _ hS (fun hHeld => ?_)
          clear hK K
          (try simp only [Act.put, List.setIfInBounds_toArray, List.set_cons_zero, List.set_cons_succ])
          refine tk 5 rfl (fun wx ⟨a1, a2, a3, a4, a5, a6, a7, a8, a9, a10⟩ => by go_simp; try with_reducible rfl) ?_
          refine tk 6 rfl (fun wx ⟨a1, a2, a3, a4, a5, a6, a7, a8, a9, a10⟩ => by go_simp; try with_reducible rfl) ?_
          refine tk 7 rfl (fun wx ⟨a1, a2, a3, a4, a5, a6, a7, a8, a9, a10⟩ => by go_simp; try with_reducible rfl) ?_
          refine tk 8 rfl (fun wx ⟨a1, a2, a3, a4, a5, a6, a7, a8, a9, a10⟩ => by go_simp; try with_reducible rfl) ?_
          refine tk 9 rfl (fun wx ⟨a1, a2, a3, a4, a5, a6, a7, a8, a9, a10⟩ => by go_simp; try with_reducible rfl) ?_
          refine tk 10 rfl (fun wx ⟨a1, a2, a3, a4, a5, a6, a7, a8, a9, a10⟩ => by go_simp; try with_reducible rfl) ?_
          refine tk 11 rfl (fun wx ⟨a1, a2, a3, a4, a5, a6, a7, a8, a9, a10⟩ => by go_simp; try with_reducible rfl) ?_
          refine comes_up 12 rfl (by kernel_rfl) (fun K hK => ?_)
          go_simp
          refine (hhS _).mono ?_
          rintro e w0 ⟨rfl, rfl⟩
          go_wp2_with fail
          refine hK.out _ _ hS (fun hHeld => ?_)
          clear hK K
          (try simp only [Act.put, List.setIfInBounds_toArray, List.set_cons_zero, List.set_cons_succ])
          refine tk 13 rfl (fun wx ⟨a1, a2, a3, a4, a5, a6, a7, a8, a9, a10⟩ => by go_simp; try with_reducible rfl) ?_
          refine tk 14 rfl (fun wx ⟨a1, a2, a3, a4, a5, a6, a7, a8, a9, a10⟩ => by go_simp; try with_reducible rfl) ?_
          refine wpAnyH_done (by kernel_rfl) ?_ _
          refine NoPanic.normal ?_
          clear hHeld
          go_wp2_with fail
          refine wp_region_noPanic ?_
          refine wp_region_held_drew (S := fun wx => Pr w.heap.size q Fr M wx) (by kernel_rfl) hS' (fun hHeld => ?_)
          refine tk 0 rfl (fun wx ⟨a1, a2, a3, a4, a5, a6, a7, a8, a9, a10⟩ => by go_simp; try with_reducible rfl) ?_
          refine tk 1 rfl (fun wx ⟨a1, a2, a3, a4, a5, a6, a7, a8, a9, a10⟩ => by go_simp; try with_reducible rfl) ?_
          refine tk 2 rfl (fun wx ⟨a1, a2, a3, a4, a5, a6, a7, a8, a9, a10⟩ => by go_simp; try with_reducible rfl) ?_
          refine tk 3 rfl (fun wx ⟨a1, a2, a3, a4, a5, a6, a7, a8, a9, a10⟩ => by go_simp; try with_reducible rfl) ?_
          refine tk 4 rfl (fun wx ⟨a1, a2, a3, a4, a5, a6, a7, a8, a9, a10⟩ => by go_simp; try with_reducible rfl) ?_
          refine take_first 5 (v := .bool false) rfl (by kernel_rfl) (by kernel_rfl) (by kernel_rfl) (fun _ _ _ h => h) (Or.inl ⟨by rfl, by intro wx hSw; obtain ⟨a1, a2, a3, a4, a5, a6, a7, a8, a9, a10⟩ := hSw; go_simp; all_goals simpa using HP.out⟩) (by assumption) ?_
          (try simp only [Act.put, List.setIfInBounds_toArray, List.set_cons_zero, List.set_cons_succ])
          refine tk 6 rfl (fun wx ⟨a1, a2, a3, a4, a5, a6, a7, a8, a9, a10⟩ => by go_simp; try with_reducible rfl) ?_
          refine tk 7 rfl (fun wx ⟨a1, a2, a3, a4, a5, a6, a7, a8, a9, a10⟩ => by go_simp; try with_reducible rfl) ?_
          refine tk 8 rfl (fun wx ⟨a1, a2, a3, a4, a5, a6, a7, a8, a9, a10⟩ => by go_simp; try with_reducible rfl) ?_
          refine tk 9 rfl (fun wx ⟨a1, a2, a3, a4, a5, a6, a7, a8, a9, a10⟩ => by go_simp; try with_reducible rfl) ?_
          refine tk 10 rfl (fun wx ⟨a1, a2, a3, a4, a5, a6, a7, a8, a9, a10⟩ => by go_simp; try with_reducible rfl) ?_
          refine tk 11 rfl (fun wx ⟨a1, a2, a3, a4, a5, a6, a7, a8, a9, a10⟩ => by go_simp; try with_reducible rfl) ?_
          refine tk 12 rfl (fun wx ⟨a1, a2, a3, a4, a5, a6, a7, a8, a9, a10⟩ => by go_simp; try with_reducible rfl) ?_
          refine tk 13 rfl (fun wx ⟨a1, a2, a3, a4, a5, a6, a7, a8, a9, a10⟩ => by go_simp; try with_reducible rfl) ?_
          refine tk 14 rfl (fun wx ⟨a1, a2, a3, a4, a5, a6, a7, a8, a9, a10⟩ => by go_simp; try with_reducible rfl) ?_
          refine tk 15 rfl (fun wx ⟨a1, a2, a3, a4, a5, a6, a7, a8, a9, a10⟩ => by go_simp; try with_reducible rfl) ?_
          refine tk 16 rfl (fun wx ⟨a1, a2, a3, a4, a5, a6, a7, a8, a9, a10⟩ => by go_simp; try with_reducible rfl) ?_
          refine tk 17 rfl (fun wx ⟨a1, a2, a3, a4, a5, a6, a7, a8, a9, a10⟩ => by go_simp; try with_reducible rfl) ?_
          refine take_first 18 (v := .bool true) rfl (by kernel_rfl) (by kernel_rfl) (by kernel_rfl) (fun _ _ _ h => h) (Or.inl ⟨by rfl, by intro wx hSw; obtain ⟨a1, a2, a3, a4, a5, a6, a7, a8, a9, a10⟩ := hSw; go_simp; all_goals (first | omega | simpa using hAI)⟩) (by assumption) ?_
          (try simp only [Act.put, List.setIfInBounds_toArray, List.set_cons_zero, List.set_cons_succ])
          refine tk 19 rfl (fun wx ⟨a1, a2, a3, a4, a5, a6, a7, a8, a9, a10⟩ => by go_simp; try with_reducible rfl) ?_
          refine wpAnyH_done (by kernel_rfl) ?_ _
          refine NoPanic.normal ?_
          clear hHeld hS hS'
          go_wp2
          go_ret2
          exact HE.out
  · have HP : Hid (¬ Fr.idP = Fr.frm) := eP
    have HE : Hid (PropPost w F Z q R (.returned (.tuple #[.slice none 0 0, .int .i64 3])) w2.drew.drew) := HC.out (.inl eP)
    clear HC HM HSI hR hand
    cases hF : hasN Fr.set Fr.frm with
    | false =>
      rw [hF] at hhF
      clear hF hhS eP
      go_enter Tryd.func46, Tryd.ntmps46
      go_wp2_with fail
      rw [HW.out]
      refine wp_region_noPanic ?_
      refine wp_region_held_drew (S := fun wx => Pr w.heap.size q Fr M wx) (by kernel_rfl) hS (fun hHeld => ?_)
      refine tk 0 rfl (fun wx ⟨a1, a2, a3, a4, a5, a6, a7, a8, a9, a10⟩ => by go_simp; try with_reducible rfl) ?_
      refine tk 1 rfl (fun wx ⟨a1, a2, a3, a4, a5, a6, a7, a8, a9, a10⟩ => by go_simp; try with_reducible rfl) ?_
      refine tk 2 rfl (fun wx ⟨a1, a2, a3, a4, a5, a6, a7, a8, a9, a10⟩ => by go_simp; try with_reducible rfl) ?_
      refine tk 3 rfl (fun wx ⟨a1, a2, a3, a4, a5, a6, a7, a8, a9, a10⟩ => by go_simp; try with_reducible rfl) ?_
      refine comes_up 4 rfl (by kernel_rfl) (fun K hK => ?_)
      go_simp
      refine (hhF _).mono ?_
      rintro e w0 ⟨rfl, rfl⟩
      go_wp2_with fail
      refine hK.out _ _ hS (fun hHeld => ?_)
      clear hK K
      (try simp only [Act.put, List.setIfInBounds_toArray, List.set_cons_zero, List.set_cons_succ])
      refine tk 5 rfl (fun wx ⟨a1, a2, a3, a4, a5, a6, a7, a8, a9, a10⟩ => by go_simp; try with_reducible rfl) ?_
      refine take_first 6 (v := undef) rfl (by kernel_rfl) (by kernel_rfl) (by kernel_rfl) (fun _ _ _ h => h) (Or.inr ⟨by rfl, rfl⟩) (by assumption) ?_
      (try simp only [Act.put, List.setIfInBounds_toArray, List.set_cons_zero, List.set_cons_succ])
      refine take_first 7 (v := undef) rfl (by kernel_rfl) (by kernel_rfl) (by kernel_rfl) (fun _ _ _ h => h) (Or.inr ⟨by rfl, rfl⟩) (by assumption) ?_
      (try simp only [Act.put, List.setIfInBounds_toArray, List.set_cons_zero, List.set_cons_succ])
      refine take_first 8 (v := undef) rfl (by kernel_rfl) (by kernel_rfl) (by kernel_rfl) (fun _ _ _ h => h) (Or.inr ⟨by rfl, rfl⟩) (by assumption) ?_
      (try simp only [Act.put, List.setIfInBounds_toArray, List.set_cons_zero, List.set_cons_succ])
      refine take_first 9 (v := undef) rfl (by kernel_rfl) (by kernel_rfl) (by kernel_rfl) (fun _ _ _ h => h) (Or.inr ⟨by rfl, rfl⟩) (by assumption) ?_
      (try simp only [Act.put, List.setIfInBounds_toArray, List.set_cons_zero, List.set_cons_succ])
      refine take_first 10 (v := undef) rfl (by kernel_rfl) (by kernel_rfl) (by kernel_rfl) (fun _ _ _ h => h) (Or.inr ⟨by rfl, rfl⟩) (by assumption) ?_
      (try simp only [Act.put, List.setIfInBounds_toArray, List.set_cons_zero, List.set_cons_succ])
      refine take_first 11 (v := undef) rfl (by kernel_rfl) (by kernel_rfl) (by kernel_rfl) (fun _ _ _ h => h) (Or.inr ⟨by rfl, rfl⟩) (by assumption) ?_
      (try simp only [Act.put, List.setIfInBounds_toArray, List.set_cons_zero, List.set_cons_succ])
      refine take_first 12 (v := undef) rfl (by kernel_rfl) (by kernel_rfl) (by kernel_rfl) (fun _ _ _ h => h) (Or.inr ⟨by rfl, rfl⟩) (by assumption) ?_
      (try simp only [Act.put, List.setIfInBounds_toArray, List.set_cons_zero, List.set_cons_succ])
      refine tk 13 rfl (fun wx ⟨a1, a2, a3, a4, a5, a6, a7, a8, a9, a10⟩ => by go_simp; try with_reducible rfl) ?_
      refine tk 14 rfl (fun wx ⟨a1, a2, a3, a4, a5, a6, a7, a8, a9, a10⟩ => by go_simp; try with_reducible rfl) ?_
      refine wpAnyH_done (by kernel_rfl) ?_ _
      refine NoPanic.normal ?_
      clear hHeld
      go_wp2_with fail
      refine wp_region_noPanic ?_
      refine wp_region_held_drew (S := fun wx => Pr w.heap.size q Fr M wx) (by kernel_rfl) hS' (fun hHeld => ?_)
      refine tk 0 rfl (fun wx ⟨a1, a2, a3, a4, a5, a6, a7, a8, a9, a10⟩ => by go_simp; try with_reducible rfl) ?_
      refine tk 1 rfl (fun wx ⟨a1, a2, a3, a4, a5, a6, a7, a8, a9, a10⟩ => by go_simp; try with_reducible rfl) ?_
      refine tk 2 rfl (fun wx ⟨a1, a2, a3, a4, a5, a6, a7, a8, a9, a10⟩ => by go_simp; try with_reducible rfl) ?_
      refine tk 3 rfl (fun wx ⟨a1, a2, a3, a4, a5, a6, a7, a8, a9, a10⟩ => by go_simp; try with_reducible rfl) ?_
      refine tk 4 rfl (fun wx ⟨a1, a2, a3, a4, a5, a6, a7, a8, a9, a10⟩ => by go_simp; try with_reducible rfl) ?_
      refine take_first 5 (v := .bool true) rfl (by kernel_rfl) (by kernel_rfl) (by kernel_rfl) (fun _ _ _ h => h) (Or.inl ⟨by rfl, by intro wx hSw; obtain ⟨a1, a2, a3, a4, a5, a6, a7, a8, a9, a10⟩ := hSw; go_simp; all_goals simpa using HP.out⟩) (by assumption) ?_
      (try simp only [Act.put, List.setIfInBounds_toArray, List.set_cons_zero, List.set_cons_succ])
      refine tk 6 rfl (fun wx ⟨a1, a2, a3, a4, a5, a6, a7, a8, a9, a10⟩ => by go_simp; try with_reducible rfl) ?_
      refine take_first 7 (v := undef) rfl (by kernel_rfl) (by kernel_rfl) (by kernel_rfl) (fun _ _ _ h => h) (Or.inr ⟨by rfl, rfl⟩) (by assumption) ?_
      (try simp only [Act.put, List.setIfInBounds_toArray, List.set_cons_zero, List.set_cons_succ])
      refine take_first 8 (v := undef) rfl (by kernel_rfl) (by kernel_rfl) (by kernel_rfl) (fun _ _ _ h => h) (Or.inr ⟨by rfl, rfl⟩) (by assumption) ?_
      (try simp only [Act.put, List.setIfInBounds_toArray, List.set_cons_zero, List.set_cons_succ])
      refine tk 9 rfl (fun wx ⟨a1, a2, a3, a4, a5, a6, a7, a8, a9, a10⟩ => by go_simp; try with_reducible rfl) ?_
      refine tk 10 rfl (fun wx ⟨a1, a2, a3, a4, a5, a6, a7, a8, a9, a10⟩ => by go_simp; try with_reducible rfl) ?_
      refine take_first 11 (v := undef) rfl (by kernel_rfl) (by kernel_rfl) (by kernel_rfl) (fun _ _ _ h => h) (Or.inr ⟨by rfl, rfl⟩) (by assumption) ?_
      (try simp only [Act.put, List.setIfInBounds_toArray, List.set_cons_zero, List.set_cons_succ])
      refine take_first 12 (v := undef) rfl (by kernel_rfl) (by kernel_rfl) (by kernel_rfl) (fun _ _ _ h => h) (Or.inr ⟨by rfl, rfl⟩) (by assumption) ?_
      (try simp only [Act.put, List.setIfInBounds_toArray, List.set_cons_zero, List.set_cons_succ])
      refine take_first 13 (v := undef) rfl (by kernel_rfl) (by kernel_rfl) (by kernel_rfl) (fun _ _ _ h => h) (Or.inr ⟨by rfl, rfl⟩) (by assumption) ?_
      (try simp only [Act.put, List.setIfInBounds_toArray, List.set_cons_zero, List.set_cons_succ])
      refine take_first 14 (v := undef) rfl (by kernel_rfl) (by kernel_rfl) (by kernel_rfl) (fun _ _ _ h => h) (Or.inr ⟨by rfl, rfl⟩) (by assumption) ?_
      (try simp only [Act.put, List.setIfInBounds_toArray, List.set_cons_zero, List.set_cons_succ])
      refine take_first 15 (v := undef) rfl (by kernel_rfl) (by kernel_rfl) (by kernel_rfl) (fun _ _ _ h => h) (Or.inr ⟨by rfl, rfl⟩) (by assumption) ?_
      (try simp only [Act.put, List.setIfInBounds_toArray, List.set_cons_zero, List.set_cons_succ])
      refine take_first 16 (v := undef) rfl (by kernel_rfl) (by kernel_rfl) (by kernel_rfl) (fun _ _ _ h => h) (Or.inr ⟨by rfl, rfl⟩) (by assumption) ?_
      (try simp only [Act.put, List.setIfInBounds_toArray, List.set_cons_zero, List.set_cons_succ])
      refine take_first 17 (v := undef) rfl (by kernel_rfl) (by kernel_rfl) (by kernel_rfl) (fun _ _ _ h => h) (Or.inr ⟨by rfl, rfl⟩) (by assumption) ?_
      (try simp only [Act.put, List.setIfInBounds_toArray, List.set_cons_zero, List.set_cons_succ])
      refine take_first 18 (v := undef) rfl (by kernel_rfl) (by kernel_rfl) (by kernel_rfl) (fun _ _ _ h => h) (Or.inr ⟨by rfl, rfl⟩) (by assumption) ?_
      (try simp only [Act.put, List.setIfInBounds_toArray, List.set_cons_zero, List.set_cons_succ])
      refine tk 19 rfl (fun wx ⟨a1, a2, a3, a4, a5, a6, a7, a8, a9, a10⟩ => by go_simp; try with_reducible rfl) ?_
      refine wpAnyH_done (by kernel_rfl) ?_ _
      refine NoPanic.normal ?_
      clear hHeld hS hS'
      go_wp2
      go_ret2
      exact HE.out
    | true =>
      rw [hF] at hhF
      clear hF eP
      go_enter Tryd.func46, Tryd.ntmps46
      go_wp2_with fail
      rw [HW.out]
      refine wp_region_noPanic ?_
      refine wp_region_held_drew (S := fun wx => Pr w.heap.size q Fr M wx) (by kernel_rfl) hS (fun hHeld => ?_)
      refine tk 0 rfl (fun wx ⟨a1, a2, a3, a4, a5, a6, a7, a8, a9, a10⟩ => by go_simp; try with_reducible rfl) ?_
      refine tk 1 rfl (fun wx ⟨a1, a2, a3, a4, a5, a6, a7, a8, a9, a10⟩ => by go_simp; try with_reducible rfl) ?_
      refine tk 2 rfl (fun wx ⟨a1, a2, a3, a4, a5, a6, a7, a8, a9, a10⟩ => by go_simp; try with_reducible rfl) ?_
      refine tk 3 rfl (fun wx ⟨a1, a2, a3, a4, a5, a6, a7, a8, a9, a10⟩ => by go_simp; try with_reducible rfl) ?_
      refine comes_up 4 rfl (by kernel_rfl) (fun K hK => ?_)
      go_simp
      refine (hhF _).mono ?_
      rintro e w0 ⟨rfl, rfl⟩
      go_wp2_with fail
      refine hK.out _ _ hS (fun hHeld => ?_)
      clear hK K
      (try simp only [Act.put, List.setIfInBounds_toArray, List.set_cons_zero, List.set_cons_succ])
      refine tk 5 rfl (fun wx ⟨a1, a2, a3, a4, a5, a6, a7, a8, a9, a10⟩ => by go_simp; try with_reducible rfl) ?_
      refine tk 6 rfl (fun wx ⟨a1, a2, a3, a4, a5, a6, a7, a8, a9, a10⟩ => by go_simp; try with_reducible rfl) ?_
      refine tk 7 rfl (fun wx ⟨a1, a2, a3, a4, a5, a6, a7, a8, a9, a10⟩ => by go_simp; try with_reducible rfl) ?_
      refine tk 8 rfl (fun wx ⟨a1, a2, a3, a4, a5, a6, a7, a8, a9, a10⟩ => by go_simp; try with_reducible rfl) ?_
      refine tk 9 rfl (fun wx ⟨a1, a2, a3, a4, a5, a6, a7, a8, a9, a10⟩ => by go_simp; try with_reducible rfl) ?_
      refine tk 10 rfl (fun wx ⟨a1, a2, a3, a4, a5, a6, a7, a8, a9, a10⟩ => by go_simp; try with_reducible rfl) ?_
      refine tk 11 rfl (fun wx ⟨a1, a2, a3, a4, a5, a6, a7, a8, a9, a10⟩ => by go_simp; try with_reducible rfl) ?_
      refine comes_up 12 rfl (by kernel_rfl) (fun K hK => ?_)
      go_simp
      refine (hhS _).mono ?_
      rintro e w0 ⟨rfl, rfl⟩
      go_wp2_with fail
      refine hK.out _ _ hS (fun hHeld => ?_)
      clear hK K
      (try simp only [Act.put, List.setIfInBounds_toArray, List.set_cons_zero, List.set_cons_succ])
      refine tk 13 rfl (fun wx ⟨a1, a2, a3, a4, a5, a6, a7, a8, a9, a10⟩ => by go_simp; try with_reducible rfl) ?_
      refine tk 14 rfl (fun wx ⟨a1, a2, a3, a4, a5, a6, a7, a8, a9, a10⟩ => by go_simp; try with_reducible rfl) ?_
      refine wpAnyH_done (by kernel_rfl) ?_ _
      refine NoPanic.normal ?_
      clear hHeld
      go_wp2_with fail
      refine wp_region_noPanic ?_
      refine wp_region_held_drew (S := fun wx => Pr w.heap.size q Fr M wx) (by kernel_rfl) hS' (fun hHeld => ?_)
      refine tk 0 rfl (fun wx ⟨a1, a2, a3, a4, a5, a6, a7, a8, a9, a10⟩ => by go_simp; try with_reducible rfl) ?_
      refine tk 1 rfl (fun wx ⟨a1, a2, a3, a4, a5, a6, a7, a8, a9, a10⟩ => by go_simp; try with_reducible rfl) ?_
      refine tk 2 rfl (fun wx ⟨a1, a2, a3, a4, a5, a6, a7, a8, a9, a10⟩ => by go_simp; try with_reducible rfl) ?_
      refine tk 3 rfl (fun wx ⟨a1, a2, a3, a4, a5, a6, a7, a8, a9, a10⟩ => by go_simp; try with_reducible rfl) ?_
      refine tk 4 rfl (fun wx ⟨a1, a2, a3, a4, a5, a6, a7, a8, a9, a10⟩ => by go_simp; try with_reducible rfl) ?_
      refine take_first 5 (v := .bool true) rfl (by kernel_rfl) (by kernel_rfl) (by kernel_rfl) (fun _ _ _ h => h) (Or.inl ⟨by rfl, by intro wx hSw; obtain ⟨a1, a2, a3, a4, a5, a6, a7, a8, a9, a10⟩ := hSw; go_simp; all_goals simpa using HP.out⟩) (by assumption) ?_
      (try simp only [Act.put, List.setIfInBounds_toArray, List.set_cons_zero, List.set_cons_succ])
      refine tk 6 rfl (fun wx ⟨a1, a2, a3, a4, a5, a6, a7, a8, a9, a10⟩ => by go_simp; try with_reducible rfl) ?_
      refine take_first 7 (v := undef) rfl (by kernel_rfl) (by kernel_rfl) (by kernel_rfl) (fun _ _ _ h => h) (Or.inr ⟨by rfl, rfl⟩) (by assumption) ?_
      (try simp only [Act.put, List.setIfInBounds_toArray, List.set_cons_zero, List.set_cons_succ])
      refine take_first 8 (v := undef) rfl (by kernel_rfl) (by kernel_rfl) (by kernel_rfl) (fun _ _ _ h => h) (Or.inr ⟨by rfl, rfl⟩) (by assumption) ?_
      (try simp only [Act.put, List.setIfInBounds_toArray, List.set_cons_zero, List.set_cons_succ])
      refine tk 9 rfl (fun wx ⟨a1, a2, a3, a4, a5, a6, a7, a8, a9, a10⟩ => by go_simp; try with_reducible rfl) ?_
      refine tk 10 rfl (fun wx ⟨a1, a2, a3, a4, a5, a6, a7, a8, a9, a10⟩ => by go_simp; try with_reducible rfl) ?_
      refine take_first 11 (v := undef) rfl (by kernel_rfl) (by kernel_rfl) (by kernel_rfl) (fun _ _ _ h => h) (Or.inr ⟨by rfl, rfl⟩) (by assumption) ?_
      (try simp only [Act.put, List.setIfInBounds_toArray, List.set_cons_zero, List.set_cons_succ])
      refine take_first 12 (v := undef) rfl (by kernel_rfl) (by kernel_rfl) (by kernel_rfl) (fun _ _ _ h => h) (Or.inr ⟨by rfl, rfl⟩) (by assumption) ?_
      (try simp only [Act.put, List.setIfInBounds_toArray, List.set_cons_zero, List.set_cons_succ])
      refine take_first 13 (v := undef) rfl (by kernel_rfl) (by kernel_rfl) (by kernel_rfl) (fun _ _ _ h => h) (Or.inr ⟨by rfl, rfl⟩) (by assumption) ?_
      (try simp only [Act.put, List.setIfInBounds_toArray, List.set_cons_zero, List.set_cons_succ])
      refine take_first 14 (v := undef) rfl (by kernel_rfl) (by kernel_rfl) (by kernel_rfl) (fun _ _ _ h => h) (Or.inr ⟨by rfl, rfl⟩) (by assumption) ?_
      (try simp only [Act.put, List.setIfInBounds_toArray, List.set_cons_zero, List.set_cons_succ])
      refine take_first 15 (v := undef) rfl (by kernel_rfl) (by kernel_rfl) (by kernel_rfl) (fun _ _ _ h => h) (Or.inr ⟨by rfl, rfl⟩) (by assumption) ?_
      (try simp only [Act.put, List.setIfInBounds_toArray, List.set_cons_zero, List.set_cons_succ])
      refine take_first 16 (v := undef) rfl (by kernel_rfl) (by kernel_rfl) (by kernel_rfl) (fun _ _ _ h => h) (Or.inr ⟨by rfl, rfl⟩) (by assumption) ?_
      (try simp only [Act.put, List.setIfInBounds_toArray, List.set_cons_zero, List.set_cons_succ])
      refine take_first 17 (v := undef) rfl (by kernel_rfl) (by kernel_rfl) (by kernel_rfl) (fun _ _ _ h => h) (Or.inr ⟨by rfl, rfl⟩) (by assumption) ?_
      (try simp only [Act.put, List.setIfInBounds_toArray, List.set_cons_zero, List.set_cons_succ])
      refine take_first 18 (v := undef) rfl (by kernel_rfl) (by kernel_rfl) (by kernel_rfl) (fun _ _ _ h => h) (Or.inr ⟨by rfl, rfl⟩) (by assumption) ?_
      (try simp only [Act.put, List.setIfInBounds_toArray, List.set_cons_zero, List.set_cons_succ])
      refine tk 19 rfl (fun wx ⟨a1, a2, a3, a4, a5, a6, a7, a8, a9, a10⟩ => by go_simp; try with_reducible rfl) ?_
      refine wpAnyH_done (by kernel_rfl) ?_ _
      refine NoPanic.normal ?_
      clear hHeld hS hS'
      go_wp2
      go_ret2
      exact HE.out
end
end Go.Proofs.YtlonbbepoamnmaaDoor
