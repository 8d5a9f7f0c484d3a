/-
  The document's items: those of a kind in the view of a number.
-/
import Derived.Test.YthnbijnpbjfoaaaJFrom
namespace Go.Proofs.Ythnbijnpbjfoaaa
open Go.RowKit Go.Sort
set_option linter.unusedVariables false

/-- What the comparison with an event reads: its kind and its view's number, and the number in its box. -/
def I5 (b o X k n : Nat) (p : Int) (vn : Nat) (vp : Int) (w : World) : Prop :=
  w.cell? ⟨b, o, none⟩ = some (.int .u8 (k : Nat)) ∧ w.cell? ⟨b, o + 1, none⟩ = some (.int .u64 (n : Nat)) ∧ w.cell? ⟨b, o + 1 + 1, none⟩ = some (.int .i64 p) ∧ w.cell? ⟨X, 0, none⟩ = some (.int .u64 (vn : Nat)) ∧ w.cell? ⟨X, 1, none⟩ = some (.int .i64 vp)
def I6 (b o : Nat) (f : Int) (r : Sr) (w : World) : Prop := w.cell? ⟨b, o + 4, none⟩ = some (.int .i64 f) ∧ w.cell? ⟨b, o + 5, none⟩ = some (.slice r.1 r.2.1 r.2.2)
theorem own_keepZ {w w' : World} {B T z n : Nat} {v : Value} {xs : List Value} (h : w.ownsRow B T z v n xs) (u : RowKit.Below w.heap.size w w') : w'.ownsRow B T z v n xs :=
  h.kept (gr_below u none) (by cases v.ownBlock with | none => exact Or.inl rfl | some k => exact Or.inr (by simp))
theorem own_mono {w : World} {B B' T z n : Nat} {v : Value} {xs : List Value} (h : w.ownsRow B T z v n xs) (hB : B' ≤ B) : w.ownsRow B' T z v n xs := by
  obtain ⟨h1, h2⟩ := h
  refine ⟨h1, ?_⟩
  rcases h2 with h2 | ⟨g, cap, cur, a, b, c⟩
  · exact .inl h2
  · exact .inr ⟨g, cap, cur, a, Nat.le_trans hB b, c⟩
/-- One more. -/
theorem OwP.more {p : Nat → Prop} {B : Nat} {w w' : World} {v' : Value} {S : List Di} {xs : List Ix} {x : Ix} {d : Di} (h1 : w'.ownsRow B 34 2 v' (S.length + 1) (cellI xs ++ [.int .i64 x.1, .slice x.2.1 x.2.2.1 x.2.2.2])) (h2 : xs.length = S.length)
    (h3 : ∀ (j : Nat) (x : Ix) (d : Di), xs[j]? = some x → S[j]? = some d → It p w x d) (kp : Kp p w w') (hx : It p w x d) : ∃ r' : Sr, v' = .slice r'.1 r'.2.1 r'.2.2 ∧ OwP p B w' r' (S ++ [d]) := by
  obtain ⟨r', rfl, hr'⟩ := own_row h1
  refine ⟨r', rfl, by simp [hr'], xs ++ [x], by rw [cellI_snoc]; simpa using h1, by simp [h2], fun j y e hy he => ?_⟩
  by_cases hj : j < S.length
  · rw [List.getElem?_append_left (by omega)] at hy
    rw [List.getElem?_append_left hj] at he
    exact (h3 j y e hy he).keep kp
  · have hl := (List.getElem?_eq_some_iff.1 he).1
    simp at hl
    have : j = S.length := by omega
    subst this
    rw [List.getElem?_append_right (by omega), h2] at hy
    rw [List.getElem?_append_right (by omega)] at he
    simp at hy he
    subst hy he
    exact hx.keep kp
theorem OwP.owr {B1 : Nat} {w w' : World} {r : Sr} {S : List Di} (h : OwP (fun b => b < w.heap.size) B1 w' r S) (hB : w.heap.size ≤ B1) : OwR w.heap.size w' r S := by
  obtain ⟨h0, xs, h1, h2, h3⟩ := h
  exact ⟨h0, xs, own_mono h1 hB, h2, h3⟩
theorem itemsE_len (node k n : Nat) (p : Int) (es : List Ev) : (itemsE node k n p es).length ≤ es.length := by
  unfold itemsE
  rw [List.length_map]
  exact List.length_filter_le _ _
set_option maxRecDepth 10000 in
set_option maxHeartbeats 4000000 in
theorem itemsE_any (w : World) (p : Nat → Prop) (ao : Option Addr) (n cap : Nat) (es : List Ev) (h : EvR p w ao n es) (hn9 : n ≤ 9000) (node kind vn : Nat) (vp : Int) :
    Calls Try.prog 70 #[.slice ao n cap, .int .i64 (node : Nat), .int .u8 (kind : Nat), vid vn vp] w fun e w' => OwPost w (itemsE node kind vn vp es) e w' := by
  have hl := h.1
  obtain ⟨w1, hw1⟩ : ∃ w1, w.alloc (.cells #[.int .u64 (vn : Nat), .int .i64 vp] 44) = w1 := ⟨_, rfl⟩
  have u1 : Up w w1 := by rw [← hw1]; exact (Up.refl _).alloc _
  have hX0 : w1.cell? ⟨w.heap.size, 0, none⟩ = some (.int .u64 (vn : Nat)) := by rw [← hw1]; exact cell_box w _ 44 0 _ rfl
  have hX1 : w1.cell? ⟨w.heap.size, 1, none⟩ = some (.int .i64 vp) := by rw [← hw1]; exact cell_box w _ 44 1 _ rfl
  obtain ⟨X, hX⟩ : ∃ X, w.heap.size = X := ⟨_, rfl⟩
  have HX : Hid (w.heap.size = X) := hX
  rw [hX] at hX0 hX1
  have HI : Hid (EvR p w ao n es ∧ w1.cell? ⟨X, 0, none⟩ = some (.int .u64 (vn : Nat)) ∧ w1.cell? ⟨X, 1, none⟩ = some (.int .i64 vp) ∧ RowKit.Below w.heap.size w w1) := ⟨h, hX0, hX1, u1.bl⟩
  have hs1 : w.heap.size ≤ w1.heap.size := u1.bl.size
  clear h hX0 hX1 u1
  unfold vid
  go_enter Try.func70, Try.ntmps70
  go_wp2_with fail
  (try simp only [hX, hw1])
  clear hX hw1
  go_loopw [9, 10, 11] (fun lv iv _ wr => ∃ (k : Nat) (r : Sr), k ≤ n ∧ iv = .int .i64 (k : Nat) ∧ lv = .slice r.1 r.2.1 r.2.2 ∧ OwP (fun b => b < w.heap.size) w1.heap.size wr r (itemsE node kind vn vp (es.take k)) ∧ RowKit.Below w1.heap.size w1 wr) (fun _ iv _ _ => n - (intOf iv).toNat)
  case atStart => exact ⟨0, (none, 0, 0), by omega, rfl, rfl, OwP.nil _ _ _, Below.refl _ _⟩
  case round =>
    obtain ⟨k, r, hk, rfl, rfl, how, hbl1⟩ := hrel
    have hbl : RowKit.Below w.heap.size w wr := HI.out.2.2.2.trans (hbl1.mono hs1)
    by_cases hlt : k < n
    · have hltI : (k : Int) < (n : Int) := by omega
      have hk0 : ¬ ((k : Int) < 0) := by omega
      obtain ⟨e, he⟩ : ∃ e, es[k]? = some e := ⟨es[k]'(by omega), List.getElem?_eq_getElem (by omega)⟩
      obtain ⟨b, off, t, hao, h6, _, hrw⟩ := EvR.at HI.out.1 he
      subst hao
      obtain ⟨x0, x1, x2, x3, x4, x5⟩ := h6
      have ud : RowKit.Below w.heap.size w wr.drew := hbl.drew
      have ud1 : RowKit.Below w1.heap.size w1 wr.drew := hbl1.drew
      have hI5 : I5 b (off + k * 6) X e.k e.n e.p vn vp wr.drew := ⟨bl_cell ud x0, bl_cell ud x1, bl_cell ud x2, bl_cell ud1 HI.out.2.1, bl_cell ud1 HI.out.2.2.1⟩
      have HS : Hid (itemsE node kind vn vp (es.take (k + 1)) = itemsE node kind vn vp (es.take k) ++ (if e.k = kind ∧ e.n = vn ∧ e.p = vp then [(if kind = 2 then ((node : Nat) : Int) else e.f, e.m)] else [])) := by
        show _ = _
        rw [take_snoc he, itemsE_snoc]
      have HT : Hid (Rw p w t.1 t.2.1 e.m ∧ RowKit.Below w.heap.size w wr ∧ RowKit.Below w1.heap.size w1 wr) := ⟨hrw, hbl, hbl1⟩
      have hfl : (itemsE node kind vn vp (es.take k)).length ≤ 9000 := by
        have := itemsE_len node kind vn vp (es.take k)
        simp at this
        omega
      have hve := fun W => vid_equal e.n e.p vn vp W
      obtain ⟨vb, hvb⟩ : ∃ vb, decide (e.n = vn ∧ e.p = vp) = vb := ⟨_, rfl⟩
      rw [hvb] at hve
      have HVB : Hid (decide (e.n = vn ∧ e.p = vp) = vb) := hvb
      have HW : Hid (OwP (fun b => b < w.heap.size) w1.heap.size wr r (itemsE node kind vn vp (es.take k))) := how
      clear he hrw x0 x1 x2 x3 hvb ud ud1 how hbl hbl1
      by_cases hk1 : e.k = kind
      · have hkb : ((e.k : Int) == (kind : Int)) = true := by simp; omega
        have HK : Hid (e.k = kind) := hk1
        cases vb with
        | true =>
          have hid := of_decide_eq_true HVB.out
          have HS2 : Hid (itemsE node kind vn vp (es.take (k + 1)) = itemsE node kind vn vp (es.take k) ++ [(if kind = 2 then ((node : Nat) : Int) else e.f, e.m)]) := by
            show _ = _
            rw [HS.out, if_pos ⟨HK.out, hid.1, hid.2⟩]
          obtain ⟨D, hD⟩ : ∃ D, wr.drew = D := ⟨_, rfl⟩
          have uD : RowKit.Below wr.heap.size wr D := by rw [← hD]; exact ((Up.refl wr).drew).bl
          obtain ⟨D2, hD2⟩ : ∃ D2, D.drew = D2 := ⟨_, rfl⟩
          have uD2 : RowKit.Below wr.heap.size wr D2 := by rw [← hD2]; exact bl_step uD ((Up.refl D).drew).bl
          have hw2 : RowKit.Below w.heap.size w D2 := bl_step HT.out.2.1 uD2
          have i4 := bl_cell hw2 x4
          have i5 := bl_cell hw2 x5
          rw [hD] at hI5
          clear hid hk1 x4 x5
          obtain ⟨ta, tn, tc⟩ := t
          simp only at i4 i5 HT
          obtain ⟨X2, hX2⟩ : ∃ X2, D2.heap.size = X2 := ⟨_, rfl⟩
          have sI6 : I6 b (off + k * 6) e.f (ta, tn, tc) D2 := ⟨i4, i5⟩
          have hve' := hve
          have HD2 : Hid (RowKit.Below w.heap.size w D2 ∧ RowKit.Below w1.heap.size w1 D2 ∧ RowKit.Below wr.heap.size wr D2) := ⟨hw2, bl_step HT.out.2.2 uD2, uD2⟩
          have sI6a : I6 b (off + k * 6) e.f (ta, tn, tc) (D2.alloc (.cells #[.int .i64 0, .slice none 0 0] 34)) := ⟨bl_cell (bl1 _ _) sI6.1, bl_cell (bl1 _ _) sI6.2⟩
          have sI6b : I6 b (off + k * 6) e.f (ta, tn, tc) (D2.alloc (.cells #[.int .i64 e.f, .slice ta tn tc] 34)) := ⟨bl_cell (bl1 _ _) sI6.1, bl_cell (bl1 _ _) sI6.2⟩
          -- the value that is appended
          have fin : ∀ (f' : Int) (A : World), A = D2.alloc (.cells #[.int .i64 f', .slice ta tn tc] 34) → (itemsE node kind vn vp (es.take (k + 1)) = itemsE node kind vn vp (es.take k) ++ [(f', e.m)]) → ∀ (xs : List Ix), xs.length = (itemsE node kind vn vp (es.take k)).length → (∀ (i : Nat) (x : Ix) (d : Di), xs[i]? = some x → (itemsE node kind vn vp (es.take k))[i]? = some d → It (fun b => b < w.heap.size) wr x d) → ∀ v' w2, w2.ownsRow w1.heap.size 34 2 v' ((itemsE node kind vn vp (es.take k)).length + 1) (cellI xs ++ [.int .i64 f', .slice ta tn tc]) → RowKit.Below w1.heap.size A w2 →
              ∃ r' : Sr, v' = .slice r'.1 r'.2.1 r'.2.2 ∧ OwP (fun b => b < w.heap.size) w1.heap.size w2 r' (itemsE node kind vn vp (es.take (k + 1))) ∧ RowKit.Below w1.heap.size w1 w2 := by
            intro f' A hA hit xs hx1 hx2 v' w2 hown hb'
            have uA : RowKit.Below D2.heap.size D2 A := by rw [hA]; exact bl1 _ _
            have hwA : RowKit.Below wr.heap.size wr A := bl_step uD2 uA
            have hitd : It (fun b => b < w.heap.size) wr (f', ta, tn, tc) (f', e.m) := ⟨rfl, ((HT.out.1.imp (q := fun b => b < w.heap.size) (fun b hb _ => hb)).keep (Kp.up HT.out.2.1))⟩
            have hbw : RowKit.Below w.heap.size wr w2 := (hwA.mono HT.out.2.1.size).trans (hb'.mono hs1)
            obtain ⟨r', rfl, hor⟩ := OwP.more (p := fun b => b < w.heap.size) (x := (f', ta, tn, tc)) (d := (f', e.m)) hown hx1 hx2 (Kp.below hbw (fun _ hb => hb)) hitd
            exact ⟨r', rfl, by rw [hit]; exact hor, (bl_step HD2.out.2.1 uA).trans hb'⟩
          have HF : Hid _ := fin
          clear i4 i5 fin hw2 uD uD2
          obtain ⟨xs, ho1, ho2, ho3⟩ := HW.out.2
          have hrn : r.2.1 = (itemsE node kind vn vp (es.take k)).length := HW.out.1
          obtain ⟨ra, rn, rc⟩ := r
          simp only at ho1 hrn
          have HO : Hid (xs.length = (itemsE node kind vn vp (es.take k)).length ∧ ∀ (i : Nat) (x : Ix) (d : Di), xs[i]? = some x → (itemsE node kind vn vp (es.take k))[i]? = some d → It (fun b => b < w.heap.size) wr x d) := ⟨ho2, ho3⟩
          have HRN : Hid (rn = (itemsE node kind vn vp (es.take k)).length) := hrn
          rw [← hrn] at ho1 hfl
          clear ho2 ho3 hrn
          by_cases hk2 : kind = 2
          · have hit : itemsE node kind vn vp (es.take (k + 1)) = itemsE node kind vn vp (es.take k) ++ [(((node : Nat) : Int), e.m)] := by rw [HS2.out, if_pos hk2]
            have hkb2 : ((kind : Int) == 2) = true := by simp; omega
            obtain ⟨A, hA⟩ : ∃ A, D2.alloc (.cells #[.int .i64 (node : Nat), .slice ta tn tc] 34) = A := ⟨_, rfl⟩
            have a0 : A.cell? ⟨X2, 0, none⟩ = some (.int .i64 (node : Nat)) := by rw [← hA, ← hX2]; exact cell_box D2 _ 34 0 _ rfl
            have a1 : A.cell? ⟨X2, 1, none⟩ = some (.slice ta tn tc) := by rw [← hA, ← hX2]; exact cell_box D2 _ 34 1 _ rfl
            have uA : RowKit.Below D2.heap.size D2 A := by rw [← hA]; exact bl1 _ _
            have hoA : A.ownsRow w1.heap.size 34 2 (.slice ra rn rc) rn (cellI xs) := own_keepZ (own_keepZ ho1 HD2.out.2.2) uA
            have hsA : w1.heap.size ≤ A.heap.size := Nat.le_trans HD2.out.2.1.size uA.size
            have HFA : Hid _ := HF.out (node : Nat) A hA.symm hit xs HO.out.1 HO.out.2
            have HA : Hid (D2.alloc (.cells #[.int .i64 (node : Nat), .slice ta tn tc] 34) = A ∧ w1.heap.size ≤ A.heap.size ∧ RowKit.Below wr.heap.size wr A) := ⟨hA, Nat.le_trans HD2.out.2.1.size uA.size, bl_step HD2.out.2.2 uA⟩
            clear hit ho1 uA hk2
            go_wp2_with fail
            refine wp_region_noPanic ?_
            refine wp_region_held_drew (S := I5 b (off + k * 6) X e.k e.n e.p vn vp) (by kernel_rfl) ((by rw [hD]; exact hI5)) (fun hHeld => ?_)
            unfold I5 at hHeld
            simp only [hD] at hHeld ⊢
            refine tq 0 ?_
            refine tq 1 ?_
            refine tq 2 ?_
            refine tq 3 ?_
            refine tq 4 ?_
            refine tq 5 ?_
            refine tq 6 ?_
            refine tq 7 ?_
            refine tq 8 ?_
            refine tq 9 ?_
            refine tq 10 ?_
            refine tq 11 ?_
            refine tq 12 ?_
            refine tq 13 ?_
            refine tq 14 ?_
            refine tq 15 ?_
            refine tq 16 ?_
            refine wpAnyH_done (by kernel_rfl) ?_ _
            refine NoPanic.normal ?_
            go_wp2_with fail
            refine wp_region_noPanic ?_
            refine wp_region_held_drew (S := I6 b (off + k * 6) e.f (ta, tn, tc)) (by kernel_rfl) ((by rw [hD2]; exact sI6)) (fun hHeld => ?_)
            unfold I6 at hHeld
            simp only [hD2] at hHeld ⊢
            refine tq 0 ?_
            refine tq 1 ?_
            refine tq 2 ?_
            refine tq 3 ?_
            refine tq 4 ?_
            refine tq 5 ?_
            refine tq 6 ?_
            refine tq 7 ?_
            refine tq 8 ?_
            refine tq 9 ?_
            refine tq 10 ?_
            refine comes_up 11 rfl (by kernel_rfl) (fun K hK => ?_)
            go_simp
            refine hK.out _ _ (sI6a) (fun hHeld => ?_)
            clear hK K
            (try simp only [Act.put, List.setIfInBounds_toArray, List.set_cons_zero, List.set_cons_succ])
            refine comes_up 12 rfl (by kernel_rfl) (fun K hK => ?_)
            go_simp
            refine hK.out _ _ ((by first | exact sI6b | (rw [← HA.out.1]; exact sI6b))) (fun hHeld => ?_)
            clear hK K
            (try simp only [Act.put, List.setIfInBounds_toArray, List.set_cons_zero, List.set_cons_succ])
            refine wpAnyH_done (by kernel_rfl) ?_ _
            refine NoPanic.normal ?_
            go_wp2_with (at_builtin; refine wpList_append_gen rfl (.tmp 50) (.tmp 52) 25 34 rfl (.agg #[.int .i64 0, .slice none 0 0]) 2 32 und25' infoI rfl (by decide) (by omega) w1.heap.size _ rn (cellI xs) rfl ?d1 [.int .i64 ((node : Nat)), .slice ta tn tc] rfl ?d2 A.heap.size rfl rfl ?d3 ?d4 ?_)
            case d1 => exact hoA
            case d2 => first | exact ⟨rfl, rfl⟩ | (intro u hu; simp at hu; rcases hu with rfl | rfl <;> rfl)
            case d3 => omega
            case d4 => exact hsA
            intro v' w2 hown hgrow hat
            have hb1 : Below w1.heap.size A w2 := bl_grown (Below.refl _ _) hsA hgrow (fun kk hk => (own_blk hoA hk).1)
            obtain ⟨r', rfl, HN'⟩ := HFA.out v' w2 (by rw [← HRN.out]; exact hown) hb1
            have HN : Hid _ := HN'
            clear hown hgrow hat hb1 HN' hoA hsA
            go_wp2
            go_roundw
            case rel => first | exact ⟨k + 1, _, by omega, by go_num, rfl, HN.out⟩ | ((repeat apply Exists.intro); exact ⟨⟨k + 1, _, by omega, by go_num, rfl, HN.out⟩, rfl⟩)
            case measure => simp [intOf]; omega
          · have hit : itemsE node kind vn vp (es.take (k + 1)) = itemsE node kind vn vp (es.take k) ++ [(e.f, e.m)] := by rw [HS2.out, if_neg hk2]
            have hkb2 : ((kind : Int) == 2) = false := by simp; omega
            obtain ⟨A, hA⟩ : ∃ A, D2.alloc (.cells #[.int .i64 e.f, .slice ta tn tc] 34) = A := ⟨_, rfl⟩
            have a0 : A.cell? ⟨X2, 0, none⟩ = some (.int .i64 e.f) := by rw [← hA, ← hX2]; exact cell_box D2 _ 34 0 _ rfl
            have a1 : A.cell? ⟨X2, 1, none⟩ = some (.slice ta tn tc) := by rw [← hA, ← hX2]; exact cell_box D2 _ 34 1 _ rfl
            have uA : RowKit.Below D2.heap.size D2 A := by rw [← hA]; exact bl1 _ _
            have hoA : A.ownsRow w1.heap.size 34 2 (.slice ra rn rc) rn (cellI xs) := own_keepZ (own_keepZ ho1 HD2.out.2.2) uA
            have hsA : w1.heap.size ≤ A.heap.size := Nat.le_trans HD2.out.2.1.size uA.size
            have HFA : Hid _ := HF.out e.f A hA.symm hit xs HO.out.1 HO.out.2
            have HA : Hid (D2.alloc (.cells #[.int .i64 e.f, .slice ta tn tc] 34) = A ∧ w1.heap.size ≤ A.heap.size ∧ RowKit.Below wr.heap.size wr A) := ⟨hA, Nat.le_trans HD2.out.2.1.size uA.size, bl_step HD2.out.2.2 uA⟩
            clear hit ho1 uA hk2
            go_wp2_with fail
            refine wp_region_noPanic ?_
            refine wp_region_held_drew (S := I5 b (off + k * 6) X e.k e.n e.p vn vp) (by kernel_rfl) ((by rw [hD]; exact hI5)) (fun hHeld => ?_)
            unfold I5 at hHeld
            simp only [hD] at hHeld ⊢
            refine tq 0 ?_
            refine tq 1 ?_
            refine tq 2 ?_
            refine tq 3 ?_
            refine tq 4 ?_
            refine tq 5 ?_
            refine tq 6 ?_
            refine tq 7 ?_
            refine tq 8 ?_
            refine tq 9 ?_
            refine tq 10 ?_
            refine tq 11 ?_
            refine tq 12 ?_
            refine tq 13 ?_
            refine tq 14 ?_
            refine tq 15 ?_
            refine tq 16 ?_
            refine wpAnyH_done (by kernel_rfl) ?_ _
            refine NoPanic.normal ?_
            go_wp2_with fail
            refine wp_region_noPanic ?_
            refine wp_region_held_drew (S := I6 b (off + k * 6) e.f (ta, tn, tc)) (by kernel_rfl) ((by rw [hD2]; exact sI6)) (fun hHeld => ?_)
            unfold I6 at hHeld
            simp only [hD2] at hHeld ⊢
            refine tq 0 ?_
            refine tq 1 ?_
            refine tq 2 ?_
            refine tq 3 ?_
            refine tq 4 ?_
            refine tq 5 ?_
            refine tq 6 ?_
            refine tq 7 ?_
            refine tq 8 ?_
            refine tq 9 ?_
            refine tq 10 ?_
            refine comes_up 11 rfl (by kernel_rfl) (fun K hK => ?_)
            go_simp
            refine hK.out _ _ (sI6a) (fun hHeld => ?_)
            clear hK K
            (try simp only [Act.put, List.setIfInBounds_toArray, List.set_cons_zero, List.set_cons_succ])
            refine comes_up 12 rfl (by kernel_rfl) (fun K hK => ?_)
            go_simp
            refine hK.out _ _ ((by first | exact sI6b | (rw [← HA.out.1]; exact sI6b))) (fun hHeld => ?_)
            clear hK K
            (try simp only [Act.put, List.setIfInBounds_toArray, List.set_cons_zero, List.set_cons_succ])
            refine wpAnyH_done (by kernel_rfl) ?_ _
            refine NoPanic.normal ?_
            go_wp2_with (at_builtin; refine wpList_append_gen rfl (.tmp 50) (.tmp 52) 25 34 rfl (.agg #[.int .i64 0, .slice none 0 0]) 2 32 und25' infoI rfl (by decide) (by omega) w1.heap.size _ rn (cellI xs) rfl ?d1 [.int .i64 e.f, .slice ta tn tc] rfl ?d2 A.heap.size rfl rfl ?d3 ?d4 ?_)
            case d1 => exact hoA
            case d2 => first | exact ⟨rfl, rfl⟩ | (intro u hu; simp at hu; rcases hu with rfl | rfl <;> rfl)
            case d3 => omega
            case d4 => exact hsA
            intro v' w2 hown hgrow hat
            have hb1 : Below w1.heap.size A w2 := bl_grown (Below.refl _ _) hsA hgrow (fun kk hk => (own_blk hoA hk).1)
            obtain ⟨r', rfl, HN'⟩ := HFA.out v' w2 (by rw [← HRN.out]; exact hown) hb1
            have HN : Hid _ := HN'
            clear hown hgrow hat hb1 HN' hoA hsA
            go_wp2
            go_roundw
            case rel => first | exact ⟨k + 1, _, by omega, by go_num, rfl, HN.out⟩ | ((repeat apply Exists.intro); exact ⟨⟨k + 1, _, by omega, by go_num, rfl, HN.out⟩, rfl⟩)
            case measure => simp [intOf]; omega
        | false =>
          have hid := of_decide_eq_false HVB.out
          have HN : Hid (OwP (fun b => b < w.heap.size) w1.heap.size wr.drew r (itemsE node kind vn vp (es.take (k + 1))) ∧ RowKit.Below w1.heap.size w1 wr.drew) := by
            refine ⟨?_, HT.out.2.2.drew⟩
            rw [HS.out, if_neg (fun c => hid c.2), List.append_nil]
            exact HW.out.keep ((Up.refl wr).drew).bl
          clear hid hk1 x4 x5
          go_wp2_with fail
          refine wp_region_noPanic ?_
          refine wp_region_held_drew (S := I5 b (off + k * 6) X e.k e.n e.p vn vp) (by kernel_rfl) (hI5) (fun hHeld => ?_)
          unfold I5 at hHeld
          refine tq 0 ?_
          refine tq 1 ?_
          refine tq 2 ?_
          refine tq 3 ?_
          refine tq 4 ?_
          refine tq 5 ?_
          refine tq 6 ?_
          refine tq 7 ?_
          refine tq 8 ?_
          refine tq 9 ?_
          refine tq 10 ?_
          refine tq 11 ?_
          refine tq 12 ?_
          refine tq 13 ?_
          refine tq 14 ?_
          refine tq 15 ?_
          refine tq 16 ?_
          refine wpAnyH_done (by kernel_rfl) ?_ _
          refine NoPanic.normal ?_
          go_wp2
          go_roundw
          case rel => exact ⟨k + 1, _, by omega, by go_num, rfl, HN.out⟩
          case measure => simp [intOf]; omega
      · have hkb : ((e.k : Int) == (kind : Int)) = false := by simp; omega
        have HN : Hid (OwP (fun b => b < w.heap.size) w1.heap.size wr.drew r (itemsE node kind vn vp (es.take (k + 1))) ∧ RowKit.Below w1.heap.size w1 wr.drew) := by
          refine ⟨?_, HT.out.2.2.drew⟩
          rw [HS.out, if_neg (fun c => hk1 c.1), List.append_nil]
          exact HW.out.keep ((Up.refl wr).drew).bl
        clear hk1 x4 x5
        go_wp2_with fail
        refine wp_region_noPanic ?_
        refine wp_region_held_drew (S := I5 b (off + k * 6) X e.k e.n e.p vn vp) (by kernel_rfl) (hI5) (fun hHeld => ?_)
        unfold I5 at hHeld
        refine tq 0 ?_
        refine tq 1 ?_
        refine tq 2 ?_
        refine tq 3 ?_
        refine tq 4 ?_
        refine tq 5 ?_
        refine tq 6 ?_
        refine tq 7 ?_
        refine tqS 8 ?_
        refine tqS 9 ?_
        refine tqS 10 ?_
        refine tqS 11 ?_
        refine tqS 12 ?_
        refine tqS 13 ?_
        refine tqS 14 ?_
        refine tqS 15 ?_
        refine tq 16 ?_
        refine wpAnyH_done (by kernel_rfl) ?_ _
        refine NoPanic.normal ?_
        go_wp2
        go_roundw
        case rel => exact ⟨k + 1, _, by omega, by go_num, rfl, HN.out⟩
        case measure => simp [intOf]; omega
    · obtain rfl : k = n := by omega
      rw [List.take_of_length_le (by omega)] at how
      go_wp2
      go_ret
      exact ⟨⟨_, rfl, how.owr hs1⟩, hbl⟩
end Go.Proofs.Ythnbijnpbjfoaaa
