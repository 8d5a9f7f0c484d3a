/-
  Turn of the document's net.
-/
import Derived.Test.YtagabmhgcmnldaaMTake2
namespace Go.Proofs.Ytagabmhgcmnldaa
open Go.RowKit
set_option linter.unusedVariables false
set_option linter.unusedSimpArgs false

section
variable {w : World} {p N : Nat} {lv bv : Value} {D : Nat → Bool} {lost : Nat} {L : List Mx} {A : List Pa}
theorem refTurn_none (h : MIs w p N lv bv D lost L A) (i : Int) (hi : ¬ (0 ≤ i ∧ i < A.length)) (b : Int) : Calls Try.prog 35 #[.pointer (some ⟨p, 0, none⟩), .int .i64 i, .int .i64 b] w fun e w' => e = .returned (.int .i64 1) ∧ w = w' := by
  obtain ⟨la, lc, rfl, h1, h2⟩ := lrow_shape h.lrow
  have c1 := h.c1
  have hm := h.most
  rw [h.len] at hi
  clear h
  generalize L.length = n at *
  by_cases h0 : i < 0
  · go_enter Try.func35, Try.ntmps35
    go_wp2
    go_ret
    exact ⟨rfl, rfl⟩
  · have h3 : (n : Int) ≤ i := by omega
    clear hi
    go_enter Try.func35, Try.ntmps35
    go_wp2
    go_ret
    exact ⟨rfl, rfl⟩
theorem refTurn_err (h : MIs w p N lv bv D lost L A) (i : Nat) (a : Pa) (hi : A[i]? = some a) (b : Int) (hR : b ≤ 9223372036854775807) (he : turnE a b ≠ 0) : Calls Try.prog 35 #[.pointer (some ⟨p, 0, none⟩), .int .i64 (i : Nat), .int .i64 b] w fun e w' => e = .returned (.int .i64 (turnE a b)) ∧ w = w' := by
  have hil := (List.getElem?_eq_some_iff.1 hi).1
  have hlen := h.len
  obtain ⟨x, hx⟩ : ∃ x, L[i]? = some x := ⟨_, List.getElem?_eq_getElem (by omega)⟩
  obtain ⟨gl, cl, rfl, hl1, hl2⟩ := lrow_some h.lrow (by omega)
  obtain ⟨gb, cb, rfl, hb1, hb2⟩ := brow_some h.brow (by omega)
  have hpi := h.pk i x a hx hi
  obtain ⟨d0, d1, d2⟩ := lrow_at h.lrow hx
  have e0 := brow_at h.brow hi
  have c1 := h.c1
  have c2 := h.c2
  have hmost := h.most
  have hiI : (i : Int) < (L.length : Int) := by omega
  have hsm := hpi.small
  rw [hlen] at hb1 c2
  rw [hpi.n] at d2
  have hk2 := hpi.k2
  unfold turnE at he ⊢
  clear h hx hi hpi hlen hil d0 d1
  generalize L.length = nl at *
  generalize a.xs.length = n at *
  generalize a.ts.length = m at *
  by_cases h0 : b < 0
  · rw [if_pos (.inl h0)]
    clear he
    go_enter Try.func35, Try.ntmps35
    go_wp2
    go_ret
    exact ⟨rfl, rfl⟩
  · obtain ⟨k, rfl⟩ : ∃ k : Nat, b = k := ⟨b.toNat, by omega⟩
    obtain ⟨q, hq⟩ : ∃ q, q = k / 8 := ⟨_, rfl⟩
    have hqi : (k : Int) / 8 = (q : Int) := by omega
    have hqb : (q : Int) ≤ 1152921504606846975 := by omega
    by_cases h1 : n ≤ q
    · rw [if_pos (.inr (by omega))]
      clear he hq
      have h1I : (n : Int) ≤ (q : Int) := by omega
      go_enter Try.func35, Try.ntmps35
      go_wp2
      go_ret
      exact ⟨rfl, rfl⟩
    · rw [if_neg (by omega)] at he ⊢
      by_cases h2 : m = 2
      · subst h2
        rw [if_pos rfl]
        clear he hq
        have h1I : (q : Int) < (n : Int) := by omega
        go_enter Try.func35, Try.ntmps35
        go_wp2
        go_ret
        exact ⟨rfl, rfl⟩
      · rw [if_neg h2] at he
        exact absurd rfl he
theorem told_turn (a : Pa) (b : Nat) : (a.turn b).told = flip a.told b := by
  show (a.ts ++ [b]).foldl flip a.xs = _
  rw [List.foldl_append]
  rfl
theorem turns_set (A : List Pa) (i : Nat) (a : Pa) (b : Nat) : (turnsOf A).set i (.int .i64 ((a.ts.length + 1 : Nat) : Int)) = turnsOf (A.set i (a.turn b)) := by
  unfold turnsOf
  rw [List.map_set, show (a.turn b).ts.length = a.ts.length + 1 by
    show (a.ts ++ [b]).length = _
    rw [List.length_append]; rfl]
theorem own_some {w : World} {B e s n : Nat} {v : Value} {xs : List Value} (h : w.ownsRow B e s v n xs) (h0 : 0 < n) : ∃ g c, v = .slice (some ⟨g, 0, none⟩) n c ∧ n ≤ c ∧ c ≤ 9223372036854775807 := by
  rcases h.2 with ⟨_, h1⟩ | ⟨g, cap, cur, rfl, _, _, h1, h2, _⟩
  · omega
  · exact ⟨g, cap, rfl, h1, by unfold maxLen at h2; omega⟩

set_option maxRecDepth 10000 in
theorem refTurn_is (h : MIs w p N lv bv D lost L A) (i : Nat) (a : Pa) (hi : A[i]? = some a) (b : Nat) (he : turnE a b = 0) : Calls Try.prog 35 #[.pointer (some ⟨p, 0, none⟩), .int .i64 (i : Nat), .int .i64 (b : Nat)] w fun e w' => e = .returned (.int .i64 0) ∧ MIs w' p N lv bv D lost L (A.set i (a.turn b)) ∧ Turned (Fm p lv bv L) w w' := by
  have hil := (List.getElem?_eq_some_iff.1 hi).1
  have hlen := h.len
  obtain ⟨x, hx⟩ : ∃ x, L[i]? = some x := ⟨_, List.getElem?_eq_getElem (by omega)⟩
  obtain ⟨gl, cl, rfl, hl1, hl2⟩ := lrow_some h.lrow (by omega)
  obtain ⟨gb, cb, rfl, hb1, hb2⟩ := brow_some h.brow (by omega)
  have hpi := h.pk i x a hx hi
  obtain ⟨d0, d1, d2⟩ := lrow_at h.lrow hx
  have e0 := brow_at h.brow hi
  have c1 := h.c1
  have c2 := h.c2
  have hsm := hpi.small
  have hk2 := hpi.k2
  obtain ⟨q, hq⟩ : ∃ q, q = b / 8 := ⟨_, rfl⟩
  obtain ⟨r, hr⟩ : ∃ r, r = b % 8 := ⟨_, rfl⟩
  have hqi : (b : Int) / 8 = (q : Int) := by omega
  have hri : (b : Int) % 8 = (r : Int) := by omega
  have hr8 : r < 8 := by omega
  unfold turnE at he
  have h1 : ¬ ((b : Int) < 0 ∨ (a.xs.length : Int) ≤ (b : Int) / 8) := by
    intro h; rw [if_pos h] at he; omega
  rw [if_neg h1] at he
  have h2 : a.ts.length ≠ 2 := by
    intro h; rw [if_pos h] at he; omega
  have hqn : q < a.xs.length := by omega
  obtain ⟨gx, cx, hxv, hx1, hx2⟩ := own_some hpi.own (by rw [hpi.n]; omega)
  have hxo : x.v.ownBlock = some gx := by rw [hxv]; rfl
  have hao : x.ao = some ⟨gx, 0, none⟩ ∧ x.cap = cx := by
    have := hxv
    unfold Mx.v at this
    simp only [Value.slice.injEq] at this
    exact ⟨this.1, this.2.2⟩
  obtain ⟨hsp, hsl, hsb⟩ := h.xp x (List.mem_of_getElem? hx) gx hxo
  have hgl : gx ≠ gl := fun e => hsl (by rw [e]; rfl)
  have hgb : gx ≠ gb := fun e => hsb (by rw [e]; rfl)
  have hlb : gl ≠ gb := fun e => h.lb gl rfl (by rw [e]; rfl)
  have hbp : gb ≠ p := fun e => h.bp (by rw [e]; rfl)
  have hown := hpi.own
  rw [hxv, hpi.n] at hown
  have hcell : w.cell? ⟨gx, q, none⟩ = some (.int .u8 ((a.told.getD q 0).toNat : Int)) := by
    rw [hown.cellAt q (by omega), List.getElem?_map, List.getElem?_eq_getElem (by rw [a.told_len]; exact hqn)]
    simp [by8, List.getD_eq_getElem?_getD, List.getElem?_eq_getElem (show q < a.told.length by rw [a.told_len]; exact hqn)]
  have hfx := hown.frozenAt q
  have hfb := h.brow.frozenAt i
  have HV : Hid (bits .xor .u8 ((a.told.getD q 0).toNat : Int) (2 ^ r % 256) = ((a.told.getD q 0 ^^^ UInt8.ofNat (2 ^ r)).toNat : Int)) := flip_num _ r hr8
  have hfl : flip a.told b = a.told.set q (a.told.getD q 0 ^^^ UInt8.ofNat (2 ^ r)) := by unfold flip; rw [← hq, ← hr]
  have HE : Hid (MIs (((w.setCell ⟨gb, i, none⟩ (.int .i64 ((a.ts.length + 1 : Nat) : Int))).setCell ⟨gx, q, none⟩ (.int .u8 ((a.told.getD q 0 ^^^ UInt8.ofNat (2 ^ r)).toNat : Int))).drew) p N (.slice (some ⟨gl, 0, none⟩) L.length cl) (.slice (some ⟨gb, 0, none⟩) A.length cb) D lost L (A.set i (a.turn b)) ∧ Turned (Fm p (.slice (some ⟨gl, 0, none⟩) L.length cl) (.slice (some ⟨gb, 0, none⟩) A.length cb) L) w (((w.setCell ⟨gb, i, none⟩ (.int .i64 ((a.ts.length + 1 : Nat) : Int))).setCell ⟨gx, q, none⟩ (.int .u8 ((a.told.getD q 0 ^^^ UInt8.ofNat (2 ^ r)).toNat : Int))).drew)) := by
    have hblk : ∀ y, y ≠ gb → y ≠ gx → (((w.setCell ⟨gb, i, none⟩ (.int .i64 ((a.ts.length + 1 : Nat) : Int))).setCell ⟨gx, q, none⟩ (.int .u8 ((a.told.getD q 0 ^^^ UInt8.ofNat (2 ^ r)).toNat : Int))).drew).heap[y]? = w.heap[y]? := fun y hy hy2 => (set_block_other hy2).trans (set_block_other hy)
    refine ⟨{ h with obj := h.obj.of_block (hblk p hbp.symm hsp.symm), lrow := row_block h.lrow (fun y hy => ?_), brow := ?_, len := by simp [hlen], pk := ?_, frm := ?_ }, (((Turned.refl _ w).setCell (.inl (.inr (.inr (.inl rfl)))) _).setCell (.inl (.inr (.inr (.inr ⟨x, List.mem_of_getElem? hx, hxo⟩)))) _).drew⟩
    · cases hy
      exact hblk gl hlb hgl.symm
    · have s1 := (h.brow.stored i (.int .i64 ((a.ts.length + 1 : Nat) : Int))).1
      rw [turns_set A i a b] at s1
      rw [List.length_set]
      exact row_block s1 (fun y hy => by cases hy; exact set_block_other hgb.symm)
    · intro j y d hy hd
      by_cases e : j = i
      · subst e
        rw [List.getElem?_set_self (by omega)] at hd
        rw [hx] at hy
        cases hy
        cases hd
        refine { f := hpi.f, t := hpi.t, n := hpi.n, own := ?_, small := hpi.small, k2 := ?_ }
        · have hw1 : (w.setCell ⟨gb, j, none⟩ (.int .i64 ((a.ts.length + 1 : Nat) : Int))).ownsRow 0 5 1 (.slice (some ⟨gx, 0, none⟩) a.xs.length cx) a.xs.length (a.told.map by8) := row_block hown (fun y hy => by cases hy; exact set_block_other hgb)
          have s2 := (hw1.stored q (.int .u8 ((a.told.getD q 0 ^^^ UInt8.ofNat (2 ^ r)).toNat : Int))).1
          rw [hxv, hpi.n, told_turn, hfl, List.map_set]
          exact row_block s2 (fun y hy => rfl)
        · show (a.ts ++ [b]).length ≤ 2
          rw [List.length_append]
          simp
          omega
      · rw [List.getElem?_set_ne (by omega)] at hd
        refine (h.pk j y d hy hd).of (fun y' hy' => hblk y' ?_ ?_)
        · intro e2
          exact (h.xp y (List.mem_of_getElem? hy) y' hy').2.2 (by rw [e2]; rfl)
        · intro e2
          exact h.xx j i y x hy hx e y' hy' (by rw [e2]; exact hxo)
    · intro c hc
      rcases List.mem_or_eq_of_mem_set hc with hc | rfl
      · exact h.frm c hc
      · exact h.frm a (List.mem_of_getElem? hi)
  have hmost := h.most
  have hiI : (i : Int) < (L.length : Int) := by omega
  rw [hao.1, hao.2, hpi.n] at d2
  rw [hpi.n] at hx1
  have hmm : a.ts.length ≤ 1 := by omega
  have hqI : (q : Int) < (a.xs.length : Int) := by omega
  have hd2' : (w.setCell ⟨gb, i, none⟩ (.int .i64 ((a.ts.length + 1 : Nat) : Int))).cell? ⟨gl, i * 3 + 2, none⟩ = some (.slice (some ⟨gx, 0, none⟩) a.xs.length cx) := (cell_block (set_block_other hlb)).trans d2
  have hcell' : (w.setCell ⟨gb, i, none⟩ (.int .i64 ((a.ts.length + 1 : Nat) : Int))).cell? ⟨gx, q, none⟩ = some (.int .u8 ((a.told.getD q 0).toNat : Int)) := (cell_block (set_block_other hgb)).trans hcell
  have hiA : (i : Int) < (A.length : Int) := by omega
  have hzu := u8_lt (a.told.getD q 0)
  clear h hx hi hpi hlen hil d0 d1 he h1 h2 hown hfl hq hr hxv hxo hao hk2 hsp hsl hsb
  generalize A.length = nA at *
  generalize L.length = nl at *
  generalize a.xs.length = n at *
  generalize a.ts.length = m at *
  generalize a.told.getD q 0 = z0 at *
  generalize z0 ^^^ UInt8.ofNat (2 ^ r) = z1 at *
  go_enter Try.func35, Try.ntmps35
  go_wp2_with fail
  go_region
  rw [HV.out]
  go_wp2
  go_ret
  exact ⟨rfl, HE.out⟩
end
end Go.Proofs.Ytagabmhgcmnldaa
