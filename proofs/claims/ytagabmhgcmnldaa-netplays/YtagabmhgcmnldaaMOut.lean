/-
  out of the document's net: the list without a place.
-/
import Derived.Test.YtagabmhgcmnldaaMPut
namespace Go.Proofs.Ytagabmhgcmnldaa
open Go.RowKit
set_option linter.unusedVariables false
set_option linter.unusedSimpArgs false

/-- A row without a place, in new memory. -/
theorem out_row {w : World} {t e s bytes : Nat} {z : Value} {i0 : TypeInfo} (ht : Try.prog.underlying t = some (.slice e)) (hi0 : Try.prog.info? e = some i0) (hz0 : i0.zero = some z) (hz1 : i0.size = s) (hz2 : i0.bytes = bytes) (hzs : z.cells.size = s) (hs : 0 < s) (hby : bytes ≤ 1000)
    {g n c : Nat} {X : List Value} (h : w.ownsRow 0 e s (.slice (some ⟨g, 0, none⟩) n c) n X) (hone : ∀ u ∈ X, u.oneCell' = true) (hn : n ≤ 80) (i : Nat) (hi : i < n) (off cc : Nat) (ho : off = (i + 1) * s ∨ n - (i + 1) = 0) :
    ∃ v1 w1 v2 w2, (Builtin.append_ #[t, t] t #[.slice none 0 0, .slice (some ⟨g, 0, none⟩) i c]).run Try.prog w = .ok v1 w1 ∧ (Builtin.append_ #[t, t] t #[v1, .slice (some ⟨g, off, none⟩) (n - (i + 1)) cc]).run Try.prog w1 = .ok v2 w2 ∧ w2.ownsRow w.heap.size e s v2 (n - 1) (X.take (i * s) ++ X.drop ((i + 1) * s)) ∧ Below w.heap.size w w1 ∧ Below w.heap.size w w2 ∧ (∃ a1 c1, v1 = .slice a1 i c1) ∧ (∃ a2 c2, v2 = .slice a2 (n - 1) c2) := by
  have hXl := h.1
  have hgl : g < w.heap.size := (h.lt g rfl).2
  have hle1 : i * s ≤ n * s := Nat.mul_le_mul_right s (by omega)
  have hle2 : (i + 1) * s ≤ n * s := Nat.mul_le_mul_right s (by omega)
  have hbb : n * bytes ≤ 80 * 1000 := Nat.mul_le_mul hn hby
  have hbi : i * bytes ≤ n * bytes := Nat.mul_le_mul_right bytes (by omega)
  have hcell : ∀ k u, X[k]? = some u → w.cell? ⟨g, k, none⟩ = some u := fun k u hk => by
    have := h.cells rfl k u hk
    rwa [Addr.add_lit, Nat.zero_add] at this
  obtain ⟨v1, w1, k1, k2, k3, k4, k5⟩ := run_append_own_at (P := Try.prog) w w.heap.size t t e i0 z s bytes ht hi0 hz0 hz1 hz2 hzs hs (.slice none 0 0) 0 [] (World.ownsRow_nil _ _ _ _) ⟨g, 0, none⟩ i c (X.take (i * s)) (by rw [List.length_take, hXl]; omega) (fun k u hk => by
    rw [Addr.add_lit, Nat.zero_add]
    rw [List.getElem?_take] at hk
    split at hk
    · exact hcell k u hk
    · cases hk) (fun u hu => hone u (List.mem_of_mem_take hu)) (by unfold maxLen; omega) (by rw [Nat.zero_add]; omega) (Nat.le_refl _)
  rw [Nat.zero_add, List.nil_append] at k2
  have hb1 : Below w.heap.size w w1 := ⟨k3.os, k3.tape, k3.output, k3.size, fun k hk => k3.block k hk (by simp [Value.ownBlock])⟩
  have hdl : (X.drop ((i + 1) * s)).length = (n - (i + 1)) * s := by rw [List.length_drop, hXl, Nat.sub_mul]
  have hsum : (i + (n - (i + 1))) * bytes ≤ n * bytes := Nat.mul_le_mul_right bytes (by omega)
  obtain ⟨v2, w2, m1, m2, m3, m4, m5⟩ := run_append_own_at (P := Try.prog) w1 w.heap.size t t e i0 z s bytes ht hi0 hz0 hz1 hz2 hzs hs v1 i (X.take (i * s)) k2 ⟨g, off, none⟩ (n - (i + 1)) cc (X.drop ((i + 1) * s)) hdl (fun k u hk => by
    have hkl := (List.getElem?_eq_some_iff.1 hk).1
    rcases ho with rfl | h0
    · rw [Addr.add_lit]
      rw [List.getElem?_drop] at hk
      exact (hb1.cell (show g < w.heap.size from hgl)).trans (hcell _ u hk)
    · rw [hdl, h0] at hkl; omega) (fun u hu => hone u (List.mem_of_mem_drop hu)) (by unfold maxLen; omega) (by omega) hb1.size
  rw [show i + (n - (i + 1)) = n - 1 by omega] at m2
  have hb2 : Below w.heap.size w w2 := bl_grown hb1 hb1.size m3 (fun k hk => (k2.lt k hk).1)
  exact ⟨v1, w1, v2, w2, k1, m1, m2, hb1, hb2, slice_shape k2, slice_shape m2⟩
theorem flatM_erase (L : List Mx) (i : Nat) : (flatM L).take (i * 3) ++ (flatM L).drop ((i + 1) * 3) = flatM (L.eraseIdx i) := by
  rw [List.eraseIdx_eq_take_drop_succ, flatM_app]
  by_cases hi : i < L.length
  · have e1 : flatM L = flatM (L.take i) ++ flatM (L.drop i) := by rw [← flatM_app, List.take_append_drop]
    have e2 : flatM L = flatM (L.take (i + 1)) ++ flatM (L.drop (i + 1)) := by rw [← flatM_app, List.take_append_drop]
    have l1 : (flatM (L.take i)).length = i * 3 := by rw [flatM_len, List.length_take]; omega
    have l2 : (flatM (L.take (i + 1))).length = (i + 1) * 3 := by rw [flatM_len, List.length_take]; omega
    congr 1
    · rw [e1, List.take_append_of_le_length (by omega), List.take_of_length_le (by omega)]
    · rw [e2, List.drop_append, List.drop_of_length_le (by omega), l2]; simp
  · have l0 := flatM_len L
    rw [List.take_of_length_le (by omega), List.drop_of_length_le (by omega), List.take_of_length_le (by omega), List.drop_of_length_le (l := L) (by omega)]
    rfl
theorem turns_erase (A : List Pa) (i : Nat) : (turnsOf A).take (i * 1) ++ (turnsOf A).drop ((i + 1) * 1) = turnsOf (A.eraseIdx i) := by
  unfold turnsOf
  rw [List.eraseIdx_eq_take_drop_succ, List.map_append, List.map_take, List.map_drop, Nat.mul_one, Nat.mul_one]

section
variable {w : World} {p N : Nat} {lv bv : Value} {D : Nat → Bool} {lost : Nat} {L : List Mx} {A : List Pa}
/-- One packet less in the document's list. -/
theorem MIs.less {w6 : World} {lv' bv' : Value} (h : MIs w p N lv bv D lost L A) (i : Nat) (hi : i < L.length) (hobj : w6.rowIs p 34 260 (mcell N lv' bv' D lost)) (hL : w6.ownsRow w.heap.size 49 3 lv' (L.length - 1) (flatM (L.eraseIdx i))) (hB : w6.ownsRow w.heap.size 3 1 bv' (A.length - 1) (turnsOf (A.eraseIdx i)))
    (hkeep : ∀ b, b < w.heap.size → b ≠ p → w6.heap[b]? = w.heap[b]?) (hlb : ∀ b, lv'.ownBlock = some b → bv'.ownBlock ≠ some b) :
    MIs w6 p N lv' bv' D lost (L.eraseIdx i) (A.eraseIdx i) := by
  have hpl := h.obj.lt
  have hiA : i < A.length := by rw [h.len]; exact hi
  have hel : (L.eraseIdx i).length = L.length - 1 := List.length_eraseIdx_of_lt hi
  have heA : (A.eraseIdx i).length = A.length - 1 := List.length_eraseIdx_of_lt hiA
  have hsub : ∀ y ∈ L.eraseIdx i, y ∈ L := fun y hy => List.mem_of_mem_eraseIdx hy
  have hget : ∀ {α : Type} (l : List α) (j : Nat) (y : α), (l.eraseIdx i)[j]? = some y → l[if j < i then j else j + 1]? = some y := fun l j y hy => by
    rw [List.getElem?_eraseIdx] at hy
    split at hy
    · rename_i hc; rw [if_pos hc]; exact hy
    · rename_i hc; rw [if_neg hc]; exact hy
  have hold : ∀ y ∈ L, ∀ b, y.v.ownBlock = some b → b < w.heap.size := fun y hy b hb => by
    obtain ⟨d, _, hd⟩ := h.get hy
    exact (hd.own.lt b hb).2
  refine { h with
    obj := hobj
    lrow := by rw [hel]; exact owns_mono hL (Nat.zero_le _)
    brow := by rw [heA]; exact owns_mono hB (Nat.zero_le _)
    len := by rw [hel, heA, h.len]
    pk := fun j y d hy hd => ?_
    lp := fun e => by have := (hL.lt p e).1; omega
    bp := fun e => by have := (hB.lt p e).1; omega
    lb := hlb
    xp := fun y hy b hb => ⟨(h.xp y (hsub y hy) b hb).1, fun e => by have := (hL.lt b e).1; have := hold y (hsub y hy) b hb; omega, fun e => by have := (hB.lt b e).1; have := hold y (hsub y hy) b hb; omega⟩
    xx := fun j k y z hy hz hjk b hb => h.xx _ _ y z (hget L j y hy) (hget L k z hz) (by split <;> split <;> omega) b hb
    most := by rw [hel]; have := h.most; omega
    frm := fun c hc => h.frm c (List.mem_of_mem_eraseIdx hc) }
  have hm := List.mem_of_getElem? (hget L j y hy)
  exact (h.pk _ y d (hget L j y hy) (hget A j d hd)).of (fun b hb => hkeep b (hold y hm b hb) (h.xp y hm b hb).1)

set_option maxRecDepth 10000 in
set_option maxHeartbeats 2000000 in
theorem refout_is (h : MIs w p N lv bv D lost L A) (i : Nat) (hi : i < L.length) :
    Calls Try.prog 52 #[.pointer (some ⟨p, 0, none⟩), .int .i64 (i : Nat)] w fun e w' => e = .returned (.tuple #[]) ∧ ∃ lv' bv' L', MIs w' p N lv' bv' D lost L' (A.eraseIdx i) ∧ (∀ y ∈ L', y ∈ L) ∧ Goes (Fm p lv bv L) w (Fm p lv' bv' L') w' ∧ (∀ b, b < w.heap.size → b ≠ p → w'.heap[b]? = w.heap[b]?) := by
  obtain ⟨iL, hiL, hzL0, hzL1, hzL2⟩ := info_parts info49z
  obtain ⟨iB, hiB, hzB0, hzB1, hzB2⟩ := info_parts info3
  have hlen := h.len
  have hmost := h.most
  have hpl := h.obj.lt
  obtain ⟨gl, cl, hlv, hlc⟩ : ∃ g c, lv = .slice (some ⟨g, 0, none⟩) L.length c ∧ L.length ≤ c ∧ c ≤ 9223372036854775807 := by
    rcases h.lrow.2 with ⟨_, h0⟩ | ⟨g, cap, cur, rfl, _, _, h1, h2, _⟩
    · omega
    · exact ⟨g, cap, rfl, h1, by unfold maxLen at h2; omega⟩
  obtain ⟨gb, cb, hbv, hbc⟩ : ∃ g c, bv = .slice (some ⟨g, 0, none⟩) A.length c ∧ A.length ≤ c ∧ c ≤ 9223372036854775807 := by
    rcases h.brow.2 with ⟨_, h0⟩ | ⟨g, cap, cur, rfl, _, _, h1, h2, _⟩
    · omega
    · exact ⟨g, cap, rfl, h1, by unfold maxLen at h2; omega⟩
  obtain ⟨offL, hoffL⟩ : ∃ o, o = if cl = i + 1 then 0 else (i + 1) * 3 := ⟨_, rfl⟩
  obtain ⟨offB, hoffB⟩ : ∃ o, o = if cb = i + 1 then 0 else (i + 1) * 1 := ⟨_, rfl⟩
  have hlrow := h.lrow
  rw [hlv] at hlrow
  obtain ⟨v1, w1, v2, w2, r1, r2, own2, b1, b2, ⟨a1, c1, hv1⟩, ⟨a2, c2, hv2⟩⟩ := out_row und29 hiL hzL0 hzL1 hzL2 rfl (by omega) (by omega) hlrow (fun u hu => flatM_one hu) hmost i hi offL (cl - (i + 1)) (by by_cases e : cl = i + 1 <;> simp [e] at hoffL <;> omega)
  rw [flatM_erase] at own2
  obtain ⟨w3, hw3⟩ : ∃ w3, w3 = w2.setCell ⟨p, 1, none⟩ v2 := ⟨_, rfl⟩
  have hs3 : w3.heap.size = w2.heap.size := by rw [hw3]; simp [World.setCell]
  have hs2 := b2.size
  have hk3 : ∀ b, b < w.heap.size → b ≠ p → w3.heap[b]? = w.heap[b]? := fun b h1 h2 => by rw [hw3, set_block_other h2]; exact b2.block b h1
  have hobj3 : w3.rowIs p 34 260 (mcell N v2 bv D lost) := by
    rw [hw3]
    exact ((h.obj.of_block (b2.block p hpl)).set 1 v2).congr (fun j hj => mcell_L j hj)
  have hB3 : w3.ownsRow 0 3 1 bv A.length (turnsOf A) := row_block h.brow (fun b hb => hk3 b ((h.brow.lt b hb).2) (fun e => h.bp (by rw [hb, e])))
  have hB3' := hB3
  rw [hbv] at hB3'
  obtain ⟨u1, w4, u2, w5, q1, q2, own5, b4, b5, ⟨d1, e1, hu1⟩, ⟨d2, e2, hu2⟩⟩ := out_row und30 hiB hzB0 hzB1 hzB2 rfl (by omega) (by omega) hB3' (fun u hu => by simp [turnsOf] at hu; obtain ⟨_, _, rfl⟩ := hu; rfl) (by omega) i (by omega) offB (cb - (i + 1)) (by by_cases e : cb = i + 1 <;> simp [e] at hoffB <;> omega)
  rw [turns_erase] at own5
  obtain ⟨w6, hw6⟩ : ∃ w6, w6 = w5.setCell ⟨p, 2, none⟩ u2 := ⟨_, rfl⟩
  have hp5 : w5.heap[p]? = w3.heap[p]? := b5.block p (by omega)
  have hobj6 : w6.rowIs p 34 260 (mcell N v2 u2 D lost) := by
    rw [hw6]
    exact ((hobj3.of_block hp5).set 2 u2).congr (fun j hj => mcell_B j hj)
  have hk6 : ∀ b, b < w.heap.size → b ≠ p → w6.heap[b]? = w.heap[b]? := fun b h1 h2 => by rw [hw6, set_block_other h2, b5.block b (by omega)]; exact hk3 b h1 h2
  have hL6 : w6.ownsRow w.heap.size 49 3 v2 (L.length - 1) (flatM (L.eraseIdx i)) := row_block own2 (fun b hb => by
    have hb1 := own2.lt b hb
    have hne : b ≠ p := by omega
    rw [hw6, set_block_other hne, b5.block b (by omega), hw3, set_block_other hne])
  have hB6 : w6.ownsRow w.heap.size 3 1 u2 (A.length - 1) (turnsOf (A.eraseIdx i)) := row_block (owns_mono own5 (by omega)) (fun b hb => by
    have hb1 := own5.lt b hb
    rw [hw6]; exact set_block_other (by omega))
  have HE : Hid (∃ lv' bv' L', MIs w6 p N lv' bv' D lost L' (A.eraseIdx i) ∧ (∀ y ∈ L', y ∈ L) ∧ Goes (Fm p lv bv L) w (Fm p lv' bv' L') w6 ∧ (∀ b, b < w.heap.size → b ≠ p → w6.heap[b]? = w.heap[b]?)) := by
    refine ⟨v2, u2, L.eraseIdx i, h.less i hi hobj6 hL6 hB6 hk6 (fun b hb e => ?_), fun y hy => List.mem_of_mem_eraseIdx hy, ⟨⟨?_, ?_, ?_, ?_, fun k hk hn => hk6 k hk (fun e => hn (.inl e))⟩, ?_⟩, hk6⟩
    · have hb1 := (own2.lt b hb).2
      have hb2 := (own5.lt b e).1
      omega
    · rw [hw6]; show w5.os = _; rw [b5.os, hw3]; exact b2.os
    · rw [hw6]; show w5.tape = _; rw [b5.tape, hw3]; exact b2.tape
    · rw [hw6]; show w5.output = _; rw [b5.output, hw3]; exact b2.output
    · rw [hw6]; simp [World.setCell]; have := b5.size; omega
    · rintro b (rfl | hb | hb | ⟨y, hy, hb⟩)
      · exact .inl (.inl rfl)
      · exact .inr (hL6.lt b hb).1
      · exact .inr (hB6.lt b hb).1
      · exact .inl (.inr (.inr (.inr ⟨y, List.mem_of_mem_eraseIdx hy, hb⟩)))
  have c1w := h.c1
  have c1w1 : w1.cell? ⟨p, 1, none⟩ = some lv := (b1.cell (show p < w.heap.size from hpl)).trans h.c1
  have c1w2 : w2.cell? ⟨p, 1, none⟩ = some lv := (b2.cell (show p < w.heap.size from hpl)).trans h.c1
  have f1w2 : w2.frozen? ⟨p, 1, none⟩ = false := (frozen_block (b2.block p hpl)).trans (h.free 1)
  have c2w3 : w3.cell? ⟨p, 2, none⟩ = some bv := hobj3.cell (i := 2) (by omega)
  have c2w2 : w2.cell? ⟨p, 2, none⟩ = some bv := (b2.cell (show p < w.heap.size from hpl)).trans h.c2
  have c2w4 : w4.cell? ⟨p, 2, none⟩ = some bv := (b4.cell (show p < w3.heap.size by omega)).trans c2w3
  have c2w5 : w5.cell? ⟨p, 2, none⟩ = some bv := (b5.cell (show p < w3.heap.size by omega)).trans c2w3
  have f2w5 : w5.frozen? ⟨p, 2, none⟩ = false := (frozen_block hp5).trans (hobj3.frozen 2)
  obtain ⟨n, hn⟩ : ∃ n, L.length = n := ⟨_, rfl⟩
  have hAn : A.length = n := by omega
  obtain ⟨n1, hn1⟩ : ∃ n1, n - 1 = n1 := ⟨_, rfl⟩
  obtain ⟨j, hj⟩ : ∃ j, j = i + 1 := ⟨_, rfl⟩
  rw [hlv] at c1w c1w1 c1w2
  rw [hbv] at c2w2 c2w3 c2w4 c2w5
  rw [hn] at c1w c1w1 c1w2 r2 hv2 hi
  rw [hAn] at c2w2 c2w3 c2w4 c2w5 q2 hu2
  rw [hn1] at hv2 hu2
  subst hv1 hv2 hu1 hu2
  have hjn : j ≤ n := by omega
  have hic : i ≤ cl := by omega
  have hib : i ≤ cb := by omega
  have hjI : (i : Int) + 1 ≤ (n : Int) := by omega
  have hn80 : (n : Int) ≤ 80 := by omega
  have hi80 : (i : Int) < 80 := by omega
  have hj0 : (0 : Int) ≤ (i : Int) + 1 := by omega
  have stL : (if cl = i + 1 then some (⟨gl, 0, none⟩ : Addr) else some ⟨gl, (i + 1) * 3, none⟩) = some ⟨gl, offL, none⟩ := by
    by_cases e : cl = i + 1
    · rw [if_pos e] at hoffL ⊢; rw [hoffL]
    · rw [if_neg e] at hoffL ⊢; rw [hoffL]
  have stB : (if cb = i + 1 then some (⟨gb, 0, none⟩ : Addr) else some ⟨gb, i + 1, none⟩) = some ⟨gb, offB, none⟩ := by
    by_cases e : cb = i + 1
    · rw [if_pos e] at hoffB ⊢; rw [hoffB]
    · rw [if_neg e] at hoffB ⊢; rw [hoffB, Nat.mul_one]
  have HR1 : Hid ((Builtin.append_ #[29, 29] 29 #[.slice none 0 0, .slice (some ⟨gl, 0, none⟩) i cl]).run Try.prog w = .ok (.slice a1 i c1) w1) := r1
  have HR2 : Hid ((Builtin.append_ #[29, 29] 29 #[.slice a1 i c1, .slice (some ⟨gl, offL, none⟩) (n - (i + 1)) (cl - (i + 1))]).run Try.prog w1 = .ok (.slice a2 n1 c2) w2) := r2
  have HR3 : Hid ((Builtin.append_ #[30, 30] 30 #[.slice none 0 0, .slice (some ⟨gb, 0, none⟩) i cb]).run Try.prog w3 = .ok (.slice d1 i e1) w4) := q1
  have HR4 : Hid ((Builtin.append_ #[30, 30] 30 #[.slice d1 i e1, .slice (some ⟨gb, offB, none⟩) (n - (i + 1)) (cb - (i + 1))]).run Try.prog w4 = .ok (.slice d2 n1 e2) w5) := q2
  have HW3 : Hid (w2.setCell ⟨p, 1, none⟩ (.slice a2 n1 c2) = w3) := hw3.symm
  have HW6 : Hid (w5.setCell ⟨p, 2, none⟩ (.slice d2 n1 e2) = w6) := hw6.symm
  clear h hlrow r1 r2 q1 q2 own2 own5 b1 b2 b4 b5 hk3 hobj3 hB3 hB3' hobj6 hk6 hL6 hB6 hp5 hw3 hw6 hs3 hs2 hlv hbv hoffL hoffB hn hAn hn1 hlen hj hmost
  go_enter Try.func52, Try.ntmps52
  go_wp2_with (first | (at_builtin; refine wpList_append_run' rfl _ _ 29 29 rfl _ _ rfl rfl HR1.out ?_) | (at_builtin; refine wpList_append_run' rfl _ _ 29 29 rfl _ _ rfl rfl HR2.out ?_) | (at_builtin; rw [HW3.out]; refine wpList_append_run' rfl _ _ 30 30 rfl _ _ rfl rfl HR3.out ?_) | (at_builtin; refine wpList_append_run' rfl _ _ 30 30 rfl _ _ rfl rfl HR4.out ?_))
  (try rw [HW6.out])
  go_end0
  exact ⟨rfl, HE.out⟩
end
end Go.Proofs.Ytagabmhgcmnldaa
