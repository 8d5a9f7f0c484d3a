/-
  judge's isTold: is each item the next one that its node told?
-/
import Derived.Test.YthnbijnpbjfoaaaJLong
namespace Go.Proofs.Ythnbijnpbjfoaaa
open Go.RowKit Go.Sort
set_option linter.unusedVariables false

/-- Numbers of one's own, counted up. -/
def Cnt (w : World) (g m : Nat) (f : Nat → Nat) : Prop := ∀ i, i < m → w.cell? ⟨g, i, none⟩ = some (.int .i64 (f i : Nat)) ∧ w.frozen? ⟨g, i, none⟩ = false
theorem Cnt.up {w w' : World} {g m : Nat} {f : Nat → Nat} (h : Cnt w g m f) (u : Below w.heap.size w w') : Cnt w' g m f := fun i hi => by
  obtain ⟨a, b⟩ := h i hi
  exact ⟨bl_cell u a, (u.frozen (World.block_lt_of_cell? w _ a)).trans b⟩
theorem Cnt.set {w : World} {g m i v : Nat} {f : Nat → Nat} (h : Cnt w g m f) (hi : i < m) : Cnt (w.setCell ⟨g, i, none⟩ (.int .i64 (v : Nat))) g m (fun j => if j = i then v else f j) := fun j hj => by
  obtain ⟨a, b⟩ := h j hj
  refine ⟨?_, by rw [World.frozen?_setCell]; exact b⟩
  by_cases e : j = i
  · subst e
    dsimp only
    rw [if_pos rfl]
    exact World.cell?_setCell_same' _ _ _ (by rw [a]; rfl)
  · dsimp only
    rw [if_neg e]
    exact setCell_other' (by simp <;> exact e) a
theorem Cnt.made (w : World) (m : Nat) : Cnt (w.alloc (.cells (madeCells #[.int .i64 0] m) 3)) w.heap.size m (fun _ => 0) := fun i hi => by
  have hb : (w.alloc (.cells (madeCells #[.int .i64 0] m) 3)).heap[w.heap.size]? = some (.cells (madeCells #[.int .i64 0] m) 3 (0, 0)) := heap_alloc_new _ _
  refine ⟨?_, by unfold World.frozen?; rw [hb]; simp⟩
  unfold World.cell?
  rw [hb]
  have : (madeCells #[.int .i64 0] m)[i]? = some (.int .i64 0) := by
    rw [← Array.getElem?_toList, toList_madeCells_one, List.getElem?_replicate, if_pos hi]
  simpa using this
theorem info3 : (Try.prog.info? 3).map (fun i => (i.zero, i.size, i.bytes)) = some (some (.int .i64 0), 1, 8) := by kernel_rfl
theorem und31 : Try.prog.underlying 31 = some (.slice 3) := by kernel_rfl
theorem make31 (M : Nat) (hM : M ≤ 10000) (u : World) : (Instr.makeSlice 31 (.int .i64 (M : Nat)) (.int .i64 (M : Nat))).run Try.prog u = .ok (.slice (some ⟨u.heap.size, 0, none⟩) M M) (u.alloc (.cells (madeCells #[.int .i64 0] M) 3)) := by
  obtain ⟨i0, hi, hz0, hz1, hz2⟩ := info_parts info3
  have h := run_make (P := Try.prog) u 31 3 i0 _ und31 hi hz0 .i64 .i64 (M : Int) (M : Int) (by omega) (Int.le_refl _) (by rw [hz2]; omega) (by omega)
  simpa [hz1, Value.cells] using h

/-- What the comparison reads: what its node told there, and the item's bytes. -/
def T8 (b o x : Nat) (f : Int) (r s : Sr) (ys zs : By) (w : World) : Prop :=
  w.cell? ⟨b, o, none⟩ = some (.slice r.1 r.2.1 r.2.2) ∧ w.cell? ⟨x, 0, none⟩ = some (.int .i64 f) ∧ w.cell? ⟨x, 1, none⟩ = some (.slice s.1 s.2.1 s.2.2) ∧ Rw (fun _ => True) w r.1 r.2.1 ys ∧ Rw (fun _ => True) w s.1 s.2.1 zs
theorem T8.up {b o x : Nat} {f : Int} {r s : Sr} {ys zs : By} {w w' : World} (h : T8 b o x f r s ys zs w) (u : Below w.heap.size w w') : T8 b o x f r s ys zs w' :=
  ⟨bl_cell u h.1, bl_cell u h.2.1, bl_cell u h.2.2.1, h.2.2.2.1.up u, h.2.2.2.2.up u⟩
def X8 (x : Nat) (f : Int) (w : World) : Prop := w.cell? ⟨x, 0, none⟩ = some (.int .i64 f)
def ToldPost (w : World) (S : List Di) (acc : List (List By)) (e : Ending) (w' : World) : Prop := (∃ b : Bool, e = .returned (.bool b) ∧ (b = true ↔ Told S acc)) ∧ Up w w'
theorem ToldPost.no {w w' : World} {S : List Di} {acc : List (List By)} (h : ¬ Told S acc) (u : Up w w') : ToldPost w S acc (.returned (.bool false)) w' := ⟨⟨false, rfl, by simp [h]⟩, u⟩
set_option maxRecDepth 10000 in
set_option maxHeartbeats 2000000 in
theorem told_any (w : World) (ao : Option Addr) (n cap : Nat) (S : List Di) (h : Its (fun _ => True) w ao n S) (bo : Option Addr) (m bc : Nat) (acc : List (List By)) (g : Bss w bo m acc) (hm : m ≤ 10000) :
    Calls Try.prog 32 #[.slice ao n cap, .slice bo m bc] w fun e w' => ToldPost w S acc e w' := by
  have hl := h.len
  have hl2 := g.len
  have hn := h.le
  have HI : Hid (Its (fun _ => True) w ao n S ∧ Bss w bo m acc) := ⟨h, g⟩
  have hmk := make31 m hm
  have hc0 := Cnt.made w m
  obtain ⟨w0, hw0⟩ : ∃ w0, w.alloc (.cells (madeCells #[.int .i64 0] m) 3) = w0 := ⟨_, rfl⟩
  rw [hw0] at hc0
  have u0 : Up w w0 := by rw [← hw0]; exact (Up.refl _).alloc _
  have HC0 : Hid (Cnt w0 w.heap.size m (fun _ => 0)) := hc0
  have hGlt : w.heap.size < w0.heap.size := by rw [← hw0]; simp
  have hwG : Hid (w.heap.size = w.heap.size) := rfl
  obtain ⟨G, hG⟩ : ∃ G, w.heap.size = G := ⟨_, rfl⟩
  have HG : Hid (w.heap.size = G) := hG
  simp only [hG] at HC0 hmk hGlt
  clear h g hc0 hG hwG
  go_enter Try.func32, Try.ntmps32
  go_wp2_with fail
  (try simp only [HG.out])
  clear hw0 hmk
  go_loopw [7, 8, 9, 15] (fun _ _ _ iv wr => ∃ k : Nat, k ≤ n ∧ iv = .int .i64 (k : Nat) ∧ (∀ j d, j < k → S[j]? = some d → Nxt S acc j d) ∧ Cnt wr G m (fun i => cnt (S.take k) i) ∧ Up w wr ∧ G < wr.heap.size) (fun _ _ _ iv _ => n - (intOf iv).toNat)
  case atStart => exact ⟨0, by omega, rfl, fun j d hj => by omega, by simpa [cnt] using HC0.out, u0, hGlt⟩
  case round =>
    clear HC0 hGlt u0
    obtain ⟨k, hk, rfl, hno, hcnt, hu, hGr⟩ := hrel
    have HT : Hid ((∀ j d, j < k → S[j]? = some d → Nxt S acc j d) ∧ Cnt wr G m (fun i => cnt (S.take k) i)) := ⟨hno, hcnt⟩
    clear hno hcnt
    by_cases hlt : k < n
    · have hltI : (k : Int) < (n : Int) := by omega
      have hk0 : ¬ ((k : Int) < 0) := by omega
      obtain ⟨d, hd⟩ : ∃ d, S[k]? = some d := ⟨S[k]'(by omega), List.getElem?_eq_getElem (by omega)⟩
      obtain ⟨b1, o1, s, hao, p0, p1, ps⟩ := (HI.out.1.up hu.bl).at hd
      have HD : Hid (S[k]? = some d ∧ Rw (fun _ => True) wr s.1 s.2.1 d.2) := ⟨hd, ps⟩
      obtain ⟨w1, hw1⟩ : ∃ w1, wr.alloc (.cells #[.int .i64 d.1, .slice s.1 s.2.1 s.2.2] 34) = w1 := ⟨_, rfl⟩
      have u1 : Up wr w1 := by rw [← hw1]; exact (Up.refl _).alloc _
      obtain ⟨X, hX⟩ : ∃ X, wr.heap.size = X := ⟨_, rfl⟩
      have x0 : w1.cell? ⟨X, 0, none⟩ = some (.int .i64 d.1) := by rw [← hw1, ← hX]; exact cell_box wr _ 34 0 _ rfl
      have x1 : w1.cell? ⟨X, 1, none⟩ = some (.slice s.1 s.2.1 s.2.2) := by rw [← hw1, ← hX]; exact cell_box wr _ 34 1 _ rfl
      have hu1 := hu.trans u1
      have HGX : Hid (G < X) := by show G < X; omega
      have HU1 : Hid (Up wr w1) := u1
      subst hao
      clear hd ps u1
      obtain ⟨f, zs⟩ := d
      obtain ⟨sa, sn, sc⟩ := s
      simp only at p0 p1 x0 x1 HD hw1
      by_cases hneg : f < 0
      · go_wp2_with fail
        (try simp only [hX, hw1])
        go_wp2
        go_ret
        refine ToldPost.no (not_told HD.out.1 (fun hx => ?_)) hu1
        have := hx.1
        simp only at this
        omega
      · by_cases hge : f ≥ (m : Int)
        · go_wp2_with fail
          (try simp only [hX, hw1])
          go_wp2
          go_ret
          refine ToldPost.no (not_told HD.out.1 (fun hx => ?_)) hu1
          obtain ⟨_, own, ho, _⟩ := hx
          have := (List.getElem?_eq_some_iff.1 ho).1
          simp only at this
          omega
        · obtain ⟨fn, rfl⟩ : ∃ fn : Nat, f = (fn : Int) := ⟨f.toNat, by omega⟩
          have hfm : fn < m := by omega
          have hfmI : (fn : Int) < (m : Int) := by omega
          have hge2 : ¬ ((m : Int) ≤ (fn : Int)) := by omega
          obtain ⟨own, ho⟩ : ∃ own, acc[fn]? = some own := ⟨acc[fn]'(by omega), List.getElem?_eq_getElem (by omega)⟩
          obtain ⟨b2, o2, q, rfl, q0, hqc, hqb⟩ := (HI.out.2.up hu1.bl).at ho
          obtain ⟨cc, hcc⟩ : ∃ cc, cnt (S.take k) (fn : Int) = cc := ⟨_, rfl⟩
          have hcle : cc ≤ 4398046511104 := by have := cnt_le S (fn : Int) k; omega
          have y0 := ((HT.out.2.up HU1.out.bl) fn hfm).1
          simp only [hcc] at y0
          have HQ : Hid (acc[fn]? = some own ∧ Bs w1 q.1 q.2.1 own ∧ own.length = q.2.1 ∧ cnt (S.take k) (fn : Int) = cc) := ⟨ho, hqb, hqb.len, hcc⟩
          obtain ⟨qa, qn, qc⟩ := q
          simp only at HQ q0
          clear ho hqb hqc hcc
          go_wp2_with fail
          (try simp only [hX, hw1])
          clear hw1 p0 p1
          go_wp2_with fail
          go_quiet (fail)
          obtain ⟨w2, hw2⟩ : ∃ w2, w1.drewN nq = w2 := ⟨_, rfl⟩
          have u2 : Up w1 w2 := by rw [← hw2]; exact (Up.refl _).drewN _
          (try simp only [hw2])
          have hu2 := hu1.trans u2
          have x0 := bl_cell u2.bl x0
          have x1 := bl_cell u2.bl x1
          have HU2 : Hid (Up wr w2) := HU1.out.trans u2
          by_cases hcl : cc = qn
          · subst hcl
            have s0 : X8 X (fn : Int) w2.drew := bl_cell ((Up.refl w2).drew).bl x0
            clear hw2 u2 y0 q0
            go_wp2_with fail
            refine wp_region_noPanic ?_
            refine wp_region_held_drew (S := X8 X (fn : Int)) (by kernel_rfl) (s0) (fun hHeld => ?_)
            unfold X8 at hHeld
            refine tq 0 ?_
            refine tq 1 ?_
            refine tq 2 ?_
            refine tq 3 ?_
            refine tq 4 ?_
            refine tqS 5 ?_
            refine tqS 6 ?_
            refine tqS 7 ?_
            refine tqS 8 ?_
            refine tqS 9 ?_
            refine tqS 10 ?_
            refine tqS 11 ?_
            refine tqS 12 ?_
            refine tq 13 ?_
            refine wpAnyH_done (by kernel_rfl) ?_ _
            refine NoPanic.normal ?_
            go_wp2
            go_ret
            refine ToldPost.no (not_told HD.out.1 (fun hx => ?_)) hu2.drew
            obtain ⟨_, own', ho, hv⟩ := hx
            simp only [Int.toNat_natCast] at ho
            rw [HQ.out.1] at ho
            cases ho
            simp only [HQ.out.2.2.2] at hv
            have := (List.getElem?_eq_some_iff.1 hv).1
            have := HQ.out.2.2.1
            omega
          · have hclB : ((cc : Int) == (qn : Int)) = false := by simp; omega
            have hcm := cnt_own HQ.out.1 k (by omega) HT.out.1
            rw [HQ.out.2.2.2, HQ.out.2.2.1] at hcm
            have hcq : cc < qn := by omega
            clear hcm
            have hcqI : (cc : Int) < (qn : Int) := by omega
            have hcc0 : ¬ ((cc : Int) < 0) := by omega
            obtain ⟨ys, hy⟩ : ∃ ys, own[cc]? = some ys := ⟨own[cc]'(by have := HQ.out.2.2.1; omega), List.getElem?_eq_getElem _⟩
            obtain ⟨b3, o3, r, rfl, r0, _, hry⟩ := (Bs.up HQ.out.2.1 u2.bl).at hy
            have hrs := HD.out.2.up HU2.out.bl
            have HY : Hid (own[cc]? = some ys) := hy
            obtain ⟨ra, rn, rc⟩ := r
            simp only at r0 hry
            have s0 : T8 b3 (o3 + cc) X (fn : Int) (ra, rn, rc) (sa, sn, sc) ys zs w2 := ⟨r0, x0, x1, hry, hrs⟩
            have sd := s0.up ((Up.refl w2).drew).bl
            have hbq := fun (W : World) (h : T8 b3 (o3 + cc) X (fn : Int) (ra, rn, rc) (sa, sn, sc) ys zs W) => beq_any (fun _ => True) (fun _ => True) W ra sa rn rc sn sc ys zs h.2.2.2.1 h.2.2.2.2
            have y2 := (HT.out.2.up HU2.out.bl)
            have HC2 : Hid (Cnt w2 G m (fun i => cnt (S.take k) i)) := y2
            clear hw2 u2 y0 q0 s0 hry hrs r0 hy y2 x0 x1
            (try simp only at hbq)
            cases heq : decide (ys = zs) with
            | false =>
              simp only [heq] at hbq
              go_wp2_with fail
              refine wp_region_noPanic ?_
              refine wp_region_held_drew (S := T8 b3 (o3 + cc) X (fn : Int) (ra, rn, rc) (sa, sn, sc) ys zs) (by kernel_rfl) (sd) (fun hHeld => ?_)
              unfold T8 at hHeld
              refine tq 0 ?_
              refine tq 1 ?_
              refine tq 2 ?_
              refine tq 3 ?_
              refine tq 4 ?_
              refine tq 5 ?_
              refine tq 6 ?_
              refine tq 7 ?_
              refine tq 8 ?_
              refine tq 9 ?_
              refine tq 10 ?_
              refine comes_up 11 rfl (by kernel_rfl) (fun K hK => ?_)
              go_simp
              refine (hbq _ hHeld).mono ?_
              rintro _ w3 ⟨rfl, u3⟩
              refine hK.out _ _ (T8.up hHeld u3.bl) (fun hHeld => ?_)
              clear hK K
              (try simp only [Act.put, List.setIfInBounds_toArray, List.set_cons_zero, List.set_cons_succ])
              refine tq 12 ?_
              refine tq 13 ?_
              refine wpAnyH_done (by kernel_rfl) ?_ _
              refine NoPanic.normal ?_
              go_wp2
              go_ret
              refine ToldPost.no (not_told HD.out.1 (fun hx => ?_)) ((hu2.drew).trans u3)
              obtain ⟨_, own', ho, hv⟩ := hx
              simp only [Int.toNat_natCast] at ho
              rw [HQ.out.1] at ho
              cases ho
              simp only [HQ.out.2.2.2] at hv
              rw [HY.out] at hv
              cases hv
              simp at heq
            | true =>
              simp only [heq] at hbq
              have hyz : ys = zs := by simpa using heq
              have HN : Hid (∀ j d, j < k + 1 → S[j]? = some d → Nxt S acc j d) := by
                intro j d hj hjd
                by_cases e : j = k
                · subst e
                  rw [HD.out.1] at hjd
                  cases hjd
                  refine ⟨by simp, own, by simp only [Int.toNat_natCast]; exact HQ.out.1, ?_⟩
                  simp only [HQ.out.2.2.2]
                  rw [HY.out, hyz]
                · exact HT.out.1 j d (by omega) hjd
              clear hyz heq
              go_wp2_with fail
              refine wp_region_noPanic ?_
              refine wp_region_held_drew (S := T8 b3 (o3 + cc) X (fn : Int) (ra, rn, rc) (sa, sn, sc) ys zs) (by kernel_rfl) (sd) (fun hHeld => ?_)
              unfold T8 at hHeld
              refine tq 0 ?_
              refine tq 1 ?_
              refine tq 2 ?_
              refine tq 3 ?_
              refine tq 4 ?_
              refine tq 5 ?_
              refine tq 6 ?_
              refine tq 7 ?_
              refine tq 8 ?_
              refine tq 9 ?_
              refine tq 10 ?_
              refine comes_up 11 rfl (by kernel_rfl) (fun K hK => ?_)
              go_simp
              refine (hbq _ hHeld).mono ?_
              rintro _ w3 ⟨rfl, u3⟩
              have HH : Hid (T8 b3 (o3 + cc) X (fn : Int) (ra, rn, rc) (sa, sn, sc) ys zs w3) := T8.up hHeld u3.bl
              refine hK.out _ _ (HH.out) (fun hHeld => ?_)
              clear hK K
              (try simp only [Act.put, List.setIfInBounds_toArray, List.set_cons_zero, List.set_cons_succ])
              refine tq 12 ?_
              refine tq 13 ?_
              refine wpAnyH_done (by kernel_rfl) ?_ _
              refine NoPanic.normal ?_
              have x0 := HH.out.2.1
              have u23 : Up w2 w3 := ((Up.refl w2).drew).trans u3
              have hu3 := hu2.trans u23
              have hc3 := HC2.out.up u23.bl
              obtain ⟨y3, fz3⟩ := hc3 fn hfm
              simp only [HQ.out.2.2.2] at y3
              obtain ⟨w4, hw4⟩ : ∃ w4, w3.setCell ⟨G, fn, none⟩ (.int .i64 ((cc + 1 : Nat) : Int)) = w4 := ⟨_, rfl⟩
              have HC4 : Hid (Cnt w4 G m (fun i => cnt (S.take (k + 1)) i) ∧ Up w w4 ∧ G < w4.heap.size) := by
                rw [← hw4]
                refine ⟨?_, ⟨hu3.bl.setCell (Nat.le_of_eq HG.out) _, hu3.dr⟩, by have := u23.bl.size; have := HGX.out; have := HU2.out.bl.size; simp [World.setCell]; omega⟩
                have hs := hc3.set (v := cc + 1) hfm
                intro i hi
                obtain ⟨a, b⟩ := hs i hi
                refine ⟨?_, b⟩
                rw [a]
                simp only
                rw [cnt_step HD.out.1]
                by_cases e : i = fn
                · subst e
                  rw [if_pos rfl, if_pos rfl, HQ.out.2.2.2]
                · have : ¬ ((fn : Int) = (i : Int)) := by omega
                  rw [if_neg e]
                  simp only [if_neg this, Nat.add_zero]
              clear hHeld sd hbq u3 u23
              have hw5 : w3.setCell ⟨G, fn, none⟩ (.int .i64 ((cc : Int) + 1)) = w4 := by rw [← hw4]; rfl
              go_wp2_with fail
              (try simp only [hw5])
              clear hw4 hw5
              go_roundw
              case rel => first | exact ⟨k + 1, by omega, by go_num, HN.out, HC4.out⟩ | ((repeat apply Exists.intro); exact ⟨⟨k + 1, by omega, by go_num, HN.out, HC4.out⟩, rfl⟩)
              case measure => simp [intOf]; omega
    · obtain rfl : k = n := by omega
      go_wp2
      go_ret
      exact ⟨⟨true, rfl, by simp; intro j d hj; exact HT.out.1 j d (by have := (List.getElem?_eq_some_iff.1 hj).1; omega) hj⟩, hu⟩
end Go.Proofs.Ythnbijnpbjfoaaa
