/-
  The document's inview: is what a node has in a view right beside what the others have?
-/
import Derived.Test.YthnbijnpbjfoaaaJAlone
import Derived.Test.YthnbijnpbjfoaaaJViews
import Derived.Deep.CutRange
import Derived.Deep.CutBlock
namespace Go.Proofs.Ythnbijnpbjfoaaa
open Go.RowKit Go.Sort
set_option linter.unusedVariables false
set_option linter.unusedSimpArgs false

/-- What a call with a node's trace and a view's number reads. -/
def Q1 (tb o : Nat) (r : Sr) (X vn : Nat) (vp : Int) (w : World) : Prop := w.cell? ⟨tb, o, none⟩ = some (.slice r.1 r.2.1 r.2.2) ∧ w.cell? ⟨X, 0, none⟩ = some (.int .u64 (vn : Nat)) ∧ w.cell? ⟨X, 1, none⟩ = some (.int .i64 vp)
theorem Q1.up {tb o : Nat} {r : Sr} {X vn : Nat} {vp : Int} {w w' : World} (h : Q1 tb o r X vn vp w) (u : RowKit.Below w.heap.size w w') : Q1 tb o r X vn vp w' := ⟨bl_cell u h.1, bl_cell u h.2.1, bl_cell u h.2.2⟩
/-- What the walk of one other node has of memory. -/
structure IW (p : Nat → Prop) (w w0 : World) (tb tf N : Nat) (ess : List (List Ev)) (X : Nat) (v : Vw) (recv : List Di) (ra : Option Addr) (rn rc : Nat) : Prop where
  evs : Evs p w0 (some ⟨tb, tf, none⟩) N ess
  box : VBx w0 X v
  its : Its (fun _ => True) w0 ra rn recv
  cap : rn ≤ rc ∧ ∀ a, ra = some a → a.spot = none
  bl : RowKit.Below w.heap.size w w0
theorem IW.up {p : Nat → Prop} {w w0 w' : World} {tb tf N X : Nat} {ess : List (List Ev)} {v : Vw} {recv : List Di} {ra : Option Addr} {rn rc : Nat} (h : IW p w w0 tb tf N ess X v recv ra rn rc) (u : RowKit.Below w0.heap.size w0 w') : IW p w w' tb tf N ess X v recv ra rn rc :=
  ⟨h.evs.keep u (Kp.up u), h.box.up u, h.its.up u, h.cap, bl_step h.bl u⟩
theorem its_off {p : Nat → Prop} {w : World} {ao : Option Addr} {n : Nat} {ds : List Di} (h : Its p w ao n ds) : ds.length = n := h.len
theorem step_store_row {P : Program} {ops : Array Oper} {o : Oper} {a : Act} {w : World} {K : Act → World → Prop} {Q : Exit → Act → World → Prop} {E : Prop} (hg : o.guard = none) (ty : TypeId) (x y : Operand) (ho : o.op = .store ty x y)
    (g : Nat) (cells : Array Value) (hx : a.eval x = .pointer (some ⟨g, 0, none⟩)) (hy : a.eval y = .agg cells)
    (t : TypeId) (old : Array Value) (hgr : w.heap[g]? = some (.cells old t (0, 0))) (hi : (P.info? ty).map (·.size) = some cells.size)
    (hold : old.size = cells.size) (h1 : cells.all (·.oneCell') = true)
    (h : K (a.put o.dst undef) (w.setRow g cells)) : if Region.wanted o (yielded ops a.tmps) = true then Oper.wp P o a w K Q else E := by
  have hw : Region.wanted o (yielded ops a.tmps) = true := by simp [Region.wanted, hg]
  rw [if_pos hw]
  exact wp_store_row ty x y ho g cells hx hy t old hgr hi hold h1 h
theorem jok_none {es : List Ev} {v : Vw} {recv : List Di} {safe j : Nat} {fs : List Ev} (h : hasE fs v.1 v.2.1 = none) : JOk es v recv safe j fs ↔ (fromD recv j = [] ∧ ¬ (0 < safe ∧ hasN v.2.2 j = true)) := by
  unfold JOk
  rw [h]
theorem jok_some {es : List Ev} {v u : Vw} {recv : List Di} {safe j : Nat} {fs : List Ev} (h : hasE fs v.1 v.2.1 = some u) : JOk es v recv safe j fs ↔ (u = v ∧ (recv <+: itemsE j 3 v.1 v.2.1 fs ∨ itemsE j 3 v.1 v.2.1 fs <+: recv) ∧ fromD recv j <+: itemsE j 2 v.1 v.2.1 fs) ∧
      ¬ ((itemsE j 3 v.1 v.2.1 fs).length < safe ∧ hasN v.2.2 j = true) ∧
      ¬ (0 < (nextV (viewsE es) v.1 v.2.1).1 ∧ nextV (viewsE es) v.1 v.2.1 = nextV (viewsE fs) v.1 v.2.1 ∧ recv.length ≠ (itemsE j 3 v.1 v.2.1 fs).length) := by
  unfold JOk
  rw [h]
  simp only [and_assoc]
/-- What the comparison of two views, and the calls behind it, read. -/
def Q2 (Y un : Nat) (up : Int) (us tb o : Nat) (r : Sr) (X vn : Nat) (vp : Int) (vs : Nat) (w : World) : Prop :=
  w.cell? ⟨Y, 0, none⟩ = some (.int .u64 (un : Nat)) ∧ w.cell? ⟨Y, 1, none⟩ = some (.int .i64 up) ∧ w.cell? ⟨Y, 2, none⟩ = some (.int .u16 (us : Nat)) ∧ w.cell? ⟨tb, o, none⟩ = some (.slice r.1 r.2.1 r.2.2) ∧ w.cell? ⟨X, 0, none⟩ = some (.int .u64 (vn : Nat)) ∧ w.cell? ⟨X, 1, none⟩ = some (.int .i64 vp) ∧ w.cell? ⟨X, 2, none⟩ = some (.int .u16 (vs : Nat))
theorem Q2.up {Y un : Nat} {up : Int} {us tb o : Nat} {r : Sr} {X vn : Nat} {vp : Int} {vs : Nat} {w w' : World} (h : Q2 Y un up us tb o r X vn vp vs w) (u : RowKit.Below w.heap.size w w') : Q2 Y un up us tb o r X vn vp vs w' :=
  ⟨bl_cell u h.1, bl_cell u h.2.1, bl_cell u h.2.2.1, bl_cell u h.2.2.2.1, bl_cell u h.2.2.2.2.1, bl_cell u h.2.2.2.2.2.1, bl_cell u h.2.2.2.2.2.2⟩
/-- What the comparison of what is next reads. -/
def Q3 (Z nn : Nat) (np : Int) (tb o : Nat) (r : Sr) (X vn : Nat) (vp : Int) (w : World) : Prop :=
  w.cell? ⟨Z, 0, none⟩ = some (.int .u64 (nn : Nat)) ∧ w.cell? ⟨Z, 1, none⟩ = some (.int .i64 np) ∧ w.cell? ⟨tb, o, none⟩ = some (.slice r.1 r.2.1 r.2.2) ∧ w.cell? ⟨X, 0, none⟩ = some (.int .u64 (vn : Nat)) ∧ w.cell? ⟨X, 1, none⟩ = some (.int .i64 vp)
theorem Q3.up {Z nn : Nat} {np : Int} {tb o : Nat} {r : Sr} {X vn : Nat} {vp : Int} {w w' : World} (h : Q3 Z nn np tb o r X vn vp w) (u : RowKit.Below w.heap.size w w') : Q3 Z nn np tb o r X vn vp w' :=
  ⟨bl_cell u h.1, bl_cell u h.2.1, bl_cell u h.2.2.1, bl_cell u h.2.2.2.1, bl_cell u h.2.2.2.2⟩
def VIx (w : World) (Z : Nat) (x : Nat × Int) : Prop := w.heap[Z]? = some (.cells #[.int .u64 (x.1 : Nat), .int .i64 x.2] 44 (0, 0))
theorem VIx.up {w w' : World} {Z : Nat} {x : Nat × Int} (h : VIx w Z x) (u : RowKit.Below w.heap.size w w') : VIx w' Z x := (u.block Z (Array.getElem?_eq_some_iff.1 h).1).trans h
theorem VIx.at {w : World} {Z : Nat} {x : Nat × Int} (h : VIx w Z x) : w.cell? ⟨Z, 0, none⟩ = some (.int .u64 (x.1 : Nat)) ∧ w.cell? ⟨Z, 1, none⟩ = some (.int .i64 x.2) := by
  unfold VIx at h
  unfold World.cell?
  simp [h]
theorem HasPost.val {w w' : World} {o : Option Vw} {e : Ending} (h : HasPost w o e w') : ∃ (u : Vw) (b : Bool), e = .returned (.tuple #[.agg #[.int .u64 (u.1 : Nat), .int .i64 u.2.1, .int .u16 (u.2.2 : Nat)], .bool b]) ∧ o = (if b then some u else none) ∧ RowKit.Below w.heap.size w w' := by
  obtain ⟨h1, h2⟩ := h
  cases o with
  | none => exact ⟨(0, 0, 0), false, h1, rfl, h2⟩
  | some v => exact ⟨v, true, h1, rfl, h2⟩
set_option maxRecDepth 10000 in
set_option maxHeartbeats 8000000 in
theorem inview_any (w : World) (p : Nat → Prop) (ao : Option Addr) (N cap : Nat) (ess : List (List Ev)) (h : Evs p w ao N ess) (h9 : ∀ es ∈ ess, es.length ≤ 9000) (hN : N ≤ 1000) (i : Nat) (es : List Ev) (hi : ess[i]? = some es) (v : Vw) (hs : v.2.2 < 65536) :
    Calls Try.prog 49 #[.slice ao N cap, .int .i64 (i : Nat), .agg #[.int .u64 (v.1 : Nat), .int .i64 v.2.1, .int .u16 (v.2.2 : Nat)]] w fun e w' => BoolPostB w (InV ess i es v) e w' := by
  have hl : ess.length = N := Lr.len h
  have hiN : i < N := by rw [← hl]; exact (List.getElem?_eq_some_iff.1 hi).1
  obtain ⟨tb, tf, r, hao, hc, _, hev⟩ := Lr.at h hi
  subst hao
  obtain ⟨w1, hw1⟩ : ∃ w1, w.alloc (.cells #[.int .u64 (v.1 : Nat), .int .i64 v.2.1, .int .u16 (v.2.2 : Nat)] 47) = w1 := ⟨_, rfl⟩
  have u1 : Up w w1 := by rw [← hw1]; exact (Up.refl _).alloc _
  obtain ⟨X, hX⟩ : ∃ X, w.heap.size = X := ⟨_, rfl⟩
  have hbx : VBx w1 X v := by rw [← hw1, ← hX]; exact heap_alloc_new w _
  have HI : Hid (Evs p w1 (some ⟨tb, tf, none⟩) N ess ∧ ess[i]? = some es ∧ VBx w1 X v ∧ EvR p w1 r.1 r.2.1 es ∧ RowKit.Below w.heap.size w w1 ∧ es.length ≤ 9000) := ⟨h.keep u1.bl (Kp.up u1.bl), hi, hbx, hev.keep (Kp.up u1.bl), u1.bl, h9 es (List.mem_of_getElem? hi)⟩
  have H9 : Hid (∀ es ∈ ess, es.length ≤ 9000) := h9
  have HIE : Hid (ess[i]? = some es ∧ es.length ≤ 9000) := ⟨hi, h9 es (List.mem_of_getElem? hi)⟩
  have hrl := hev.1
  obtain ⟨ra, rn, rc⟩ := r
  obtain ⟨vn, vp, vs⟩ := v
  simp only at hc hrl hs HI
  obtain ⟨x0, x1, x2⟩ := hbx.at
  have hc1 := bl_cell u1.bl hc
  have hud := ((Up.refl w1).drew).bl
  have hq : Q1 tb (tf + i) (ra, rn, rc) X vn vp w1.drew := ⟨bl_cell hud hc1, bl_cell hud x0, bl_cell hud x1⟩
  have hrn9 : rn ≤ 9000 := by have := HI.out.2.2.2.2.2; omega
  have hit3 : ∀ W, RowKit.Below w1.heap.size w1 W → Calls Try.prog 70 #[.slice ra rn rc, .int .i64 (i : Nat), .int .u8 3, .agg #[.int .u64 (vn : Nat), .int .i64 vp]] W fun e w' => OwPost W (itemsE i 3 vn vp es) e w' := fun W u => itemsE_any W p ra rn rc es (HI.out.2.2.2.1.keep (Kp.up u)) hrn9 i 3 vn vp
  have hit4 : ∀ W, RowKit.Below w1.heap.size w1 W → Calls Try.prog 70 #[.slice ra rn rc, .int .i64 (i : Nat), .int .u8 4, .agg #[.int .u64 (vn : Nat), .int .i64 vp]] W fun e w' => OwPost W (itemsE i 4 vn vp es) e w' := fun W u => itemsE_any W p ra rn rc es (HI.out.2.2.2.1.keep (Kp.up u)) hrn9 i 4 vn vp
  have hi0 : ¬ ((i : Int) < 0) := by omega
  have hiI : (i : Int) < (N : Int) := by omega
  clear h hi hc hev u1 hbx h9 x0 x1 x2 hc1 hud
  go_enter Try.func49, Try.ntmps49
  go_wp2_with fail
  (try simp only [hX, hw1])
  clear hX hw1
  refine wp_region_noPanic ?_
  refine wp_region_held_drew (S := Q1 tb (tf + i) (ra, rn, rc) X vn vp) (by kernel_rfl) (hq) (fun hHeld => ?_)
  unfold Q1 at hHeld
  refine tq 0 ?_
  refine tq 1 ?_
  refine tq 2 ?_
  refine tq 3 ?_
  refine tq 4 ?_
  refine tq 5 ?_
  refine tq 6 ?_
  refine comes_up 7 rfl (by kernel_rfl) (fun K hK => ?_)
  go_simp
  refine (hit3 _ ((Up.refl w1).drew).bl).mono ?_
  rintro _ w2 ⟨⟨⟨qa, qn, qc⟩, rfl, ho2⟩, hb2⟩
  have hq2 := hq.up hb2
  have hb2' : RowKit.Below w1.heap.size w1 w2 := bl_step ((Up.refl w1).drew).bl hb2
  refine hK.out _ _ (hq2) (fun hHeld => ?_)
  clear hK K
  (try simp only [Act.put, List.setIfInBounds_toArray, List.set_cons_zero, List.set_cons_succ])
  refine tq 8 ?_
  refine wpAnyH_done (by kernel_rfl) ?_ _
  refine NoPanic.normal ?_
  clear hHeld
  have hq2d := hq2.up ((Up.refl w2).drew).bl
  have HR2 : Hid (Its (fun _ => True) w2 qa qn (itemsE i 3 vn vp es) ∧ qn ≤ qc ∧ (∀ a, qa = some a → a.spot = none)) := ⟨ho2.its (Nat.le_trans (itemsE_len _ _ _ _ _) (by have := HI.out.2.2.2.2.2; omega)), ho2.cp⟩
  have HB2 : Hid (RowKit.Below w1.heap.size w1 w2) := hb2'
  clear ho2 hb2 hq hit3 hq2
  go_wp2_with fail
  refine wp_region_noPanic ?_
  refine wp_region_held_drew (S := Q1 tb (tf + i) (ra, rn, rc) X vn vp) (by kernel_rfl) (hq2d) (fun hHeld => ?_)
  unfold Q1 at hHeld
  refine tq 0 ?_
  refine tq 1 ?_
  refine tq 2 ?_
  refine tq 3 ?_
  refine tq 4 ?_
  refine tq 5 ?_
  refine tq 6 ?_
  refine comes_up 7 rfl (by kernel_rfl) (fun K hK => ?_)
  go_simp
  refine (hit4 _ (bl_step HB2.out ((Up.refl w2).drew).bl)).mono ?_
  rintro _ w3 ⟨⟨⟨sa, sn, sc⟩, rfl, ho3⟩, hb3⟩
  have hq3 := hq2d.up hb3
  have hb23 : RowKit.Below w2.heap.size w2 w3 := bl_step ((Up.refl w2).drew).bl hb3
  have HSN : Hid (sn = (itemsE i 4 vn vp es).length) := ho3.1
  refine hK.out _ _ (hq3) (fun hHeld => ?_)
  clear hK K
  (try simp only [Act.put, List.setIfInBounds_toArray, List.set_cons_zero, List.set_cons_succ])
  refine tq 8 ?_
  refine tq 9 ?_
  refine wpAnyH_done (by kernel_rfl) ?_ _
  refine NoPanic.normal ?_
  clear hHeld
  obtain ⟨recv, hrecv⟩ : ∃ l, itemsE i 3 vn vp es = l := ⟨_, rfl⟩
  have HRV : Hid (itemsE i 3 vn vp es = recv) := hrecv
  have hqn : recv.length = qn := by rw [← hrecv]; exact HR2.out.1.len
  have hqn9 : qn ≤ 9000 := by rw [← hqn, ← hrecv]; exact Nat.le_trans (itemsE_len _ _ _ _ _) HI.out.2.2.2.2.2
  have hsn9 : sn ≤ 9000 := by rw [HSN.out]; exact Nat.le_trans (itemsE_len _ _ _ _ _) HI.out.2.2.2.2.2
  have HW : Hid (IW p w w3 tb tf N ess X (vn, vp, vs) recv qa qn qc) := by
    have h0 : RowKit.Below w1.heap.size w1 w3 := bl_step HB2.out hb23
    exact ⟨HI.out.1.keep h0 (Kp.up h0), HI.out.2.2.1.up h0, by rw [← hrecv]; exact HR2.out.1.up hb23, HR2.out.2, bl_step HI.out.2.2.2.2.1 h0⟩
  clear hrecv hb3 hb23 hq2d hq3 hit4 ho3
  go_wp2_with fail
  go_loopw [9] (fun iv wr => ∃ k : Nat, k ≤ qn ∧ iv = .int .i64 (k : Nat) ∧ (∀ (j : Nat) d, j < k → recv[j]? = some d → 0 ≤ d.1 ∧ d.1 < (N : Int)) ∧ Up w3 wr) (fun iv _ => qn - (intOf iv).toNat)
  case atStart => exact ⟨0, by omega, rfl, fun j y hj => by omega, Up.refl _⟩
  case round =>
    obtain ⟨k, hk, rfl, hno, hup⟩ := hrel
    have HN0 : Hid (∀ (j : Nat) d, j < k → recv[j]? = some d → 0 ≤ d.1 ∧ d.1 < (N : Int)) := hno
    clear hno
    by_cases hlt : k < qn
    · have hltI : (k : Int) < (qn : Int) := by omega
      have hk0 : ¬ ((k : Int) < 0) := by omega
      obtain ⟨d, hd⟩ : ∃ d, recv[k]? = some d := ⟨recv[k]'(by omega), List.getElem?_eq_getElem (by omega)⟩
      obtain ⟨b2, o2, t, hqa, t0, _, _⟩ := (HW.out.its.up hup.bl).at hd
      have HD : Hid (recv[k]? = some d) := hd
      have HNO : Hid (¬ (0 ≤ d.1 ∧ d.1 < (N : Int)) → ¬ InV ess i es (vn, vp, vs)) := fun hbad hin => by
        have := hin.1
        rw [show ((vn, vp, vs) : Vw).1 = vn from rfl, show ((vn, vp, vs) : Vw).2.1 = vp from rfl, HRV.out] at this
        have := this d (List.mem_of_getElem? HD.out)
        rw [hl] at this
        exact hbad this
      obtain ⟨f, zs⟩ := d
      simp only at t0 HNO
      subst hqa
      clear hd
      by_cases hf0 : f < 0
      · have HNN : Hid (¬ InV ess i es (vn, vp, vs)) := HNO.out (by omega)
        go_wp2
        go_ret
        exact ⟨⟨false, rfl, by simp [HNN.out]⟩, bl_step HW.out.bl hup.bl⟩
      · by_cases hfN : f ≥ (N : Int)
        · have HNN : Hid (¬ InV ess i es (vn, vp, vs)) := HNO.out (by omega)
          go_wp2
          go_ret
          exact ⟨⟨false, rfl, by simp [HNN.out]⟩, bl_step HW.out.bl hup.bl⟩
        · have HN : Hid (∀ (j : Nat) d, j < k + 1 → recv[j]? = some d → 0 ≤ d.1 ∧ d.1 < (N : Int)) := fun j d hj hd => by
            by_cases e : j = k
            · subst e
              rw [HD.out] at hd; cases hd
              exact ⟨by omega, by omega⟩
            · exact HN0.out j d (by omega) hd
          go_wp2
          go_roundw
          case rel => exact ⟨k + 1, by omega, by go_num, HN.out, hup⟩
          case measure => simp [intOf]; omega
    · obtain rfl : k = qn := by omega
      have HRNG : Hid (∀ d ∈ recv, 0 ≤ d.1 ∧ d.1 < (ess.length : Int)) := fun d hd => by
        obtain ⟨j, hj⟩ := List.getElem?_of_mem hd
        rw [hl]
        exact HN0.out j d (by have := (List.getElem?_eq_some_iff.1 hj).1; omega) hj
      have HW4 : Hid (IW p w wr tb tf N ess X (vn, vp, vs) recv qa k qc) := HW.out.up hup.bl
      clear HW HN0 hup
      generalize wr = w4 at *
      go_wp2_with fail
      go_loopw [10, 11, 12, 13, 14, 15, 62] (fun jv _ _ _ _ _ _ wr => ∃ j : Nat, j ≤ N ∧ jv = .int .i64 (j : Nat) ∧ (∀ (t : Nat) fs, t < j → ess[t]? = some fs → JOk es (vn, vp, vs) recv sn t fs) ∧ RowKit.Below w4.heap.size w4 wr) (fun jv _ _ _ _ _ _ _ => N - (intOf jv).toNat)
      case atStart => exact ⟨0, by omega, rfl, fun t fs hj => by omega, Below.refl _ _⟩
      case round =>
        obtain ⟨j, hj, rfl, hno, hbl⟩ := hrel
        have HN0 : Hid (∀ (t : Nat) fs, t < j → ess[t]? = some fs → JOk es (vn, vp, vs) recv sn t fs) := hno
        clear hno
        have HWR : Hid (IW p w wr tb tf N ess X (vn, vp, vs) recv qa k qc) := HW4.out.up hbl
        have HB4 : Hid (RowKit.Below w4.heap.size w4 wr) := hbl
        clear hbl
        by_cases hlt : j < N
        · have hltI : (j : Int) < (N : Int) := by omega
          have hj0 : ¬ ((j : Int) < 0) := by omega
          obtain ⟨fs, hfs⟩ : ∃ fs, ess[j]? = some fs := ⟨ess[j]'(by omega), List.getElem?_eq_getElem (by omega)⟩
          obtain ⟨tb', tf', r, hao, hc, _, hev⟩ := Lr.at HWR.out.evs hfs
          obtain ⟨rfl, rfl⟩ : tb = tb' ∧ tf = tf' := by simpa using hao
          obtain ⟨fa, fn, fc⟩ := r
          simp only at hc hev
          have hf9 : fn ≤ 9000 := by have := hev.1; have := H9.out fs (List.mem_of_getElem? hfs); omega
          have HFS : Hid (ess[j]? = some fs ∧ EvR p wr fa fn fs ∧ fs.length ≤ 9000) := ⟨hfs, hev, H9.out fs (List.mem_of_getElem? hfs)⟩
          obtain ⟨x0, x1, x2⟩ := HWR.out.box.at
          have hud := ((Up.refl wr).drew).bl
          have hq : Q1 tb (tf + j) (fa, fn, fc) X vn vp wr.drew := ⟨bl_cell hud hc, bl_cell hud x0, bl_cell hud x1⟩
          have HQ : Hid (Q1 tb (tf + j) (fa, fn, fc) X vn vp wr) := ⟨hc, x0, x1⟩
          have hhas : ∀ W, RowKit.Below wr.heap.size wr W → Calls Try.prog 71 #[.slice fa fn fc, .agg #[.int .u64 (vn : Nat), .int .i64 vp]] W fun e w' => HasPost W (hasE fs vn vp) e w' := fun W u => hasE_any W p fa fn fc fs (HFS.out.2.1.keep (Kp.up u)) hf9 vn vp
          clear hao hfs hc hev x0 x1 x2 hud
          go_wp2_with fail
          go_upto_region 11 with fail
          go_cut [11, 12] from 62 to 71 (fun yv ov wx => ∃ (Y : Nat) (u : Vw) (o : Bool), yv = .pointer (some ⟨Y, 0, none⟩) ∧ ov = .bool o ∧ Hid (VBx wx Y u ∧ (hasE fs vn vp = if o then some u else none)) ∧ RowKit.Below wr.heap.size wr wx)
          case first =>
            refine wp_region_noPanic ?_
            refine wp_region_held_drew (S := Q1 tb (tf + j) (fa, fn, fc) X vn vp) (by kernel_rfl) (hq) (fun hHeld => ?_)
            unfold Q1 at hHeld
            refine tq 0 ?_
            refine tq 1 ?_
            refine tq 2 ?_
            refine tq 3 ?_
            refine tq 4 ?_
            refine tq 5 ?_
            refine comes_up2 6 10 rfl rfl (by kernel_rfl) (fun K hK => ?_) (fun K hK => ?_)
            · go_simp
              refine (hhas _ ((Up.refl wr).drew).bl).mono ?_
              rintro _ w5 hp5
              obtain ⟨⟨un, up, us⟩, o, rfl, ho, hb5⟩ := hp5.val
              have hq5 := hq.up hb5
              refine hK.out _ _ (hq5) (fun hHeld => ?_)
              clear hK K
              (try simp only [Act.put, List.setIfInBounds_toArray, List.set_cons_zero, List.set_cons_succ])
              refine tq 7 ?_
              refine tq 8 ?_
              refine tq 9 ?_
              refine comes_up 10 rfl (by kernel_rfl) (fun K hK => ?_)
              go_simp
              refine hK.out _ _ (hq5.up (bl1 _ _)) (fun hHeld => ?_)
              clear hK K
              (try simp only [Act.put, List.setIfInBounds_toArray, List.set_cons_zero, List.set_cons_succ])
              refine comes_up 11 rfl (by kernel_rfl) (fun K hK => ?_)
              go_simp
              refine hK.out _ _ (hq5.up (bl1 _ _)) (fun hHeld => ?_)
              clear hK K
              (try simp only [Act.put, List.setIfInBounds_toArray, List.set_cons_zero, List.set_cons_succ])
              refine tq 12 ?_
              refine wpAnyH_done (by kernel_rfl) ?_ _
              refine NoPanic.normal ?_
              have HM : Hid (VBx (w5.alloc (.cells #[.int .u64 (un : Nat), .int .i64 up, .int .u16 (us : Nat)] 47)) w5.heap.size (un, up, us) ∧ RowKit.Below wr.heap.size wr (w5.alloc (.cells #[.int .u64 (un : Nat), .int .i64 up, .int .u16 (us : Nat)] 47))) := ⟨heap_alloc_new w5 _, bl_step (bl_step ((Up.refl wr).drew).bl hb5) (bl1 _ _)⟩
              go_wp2_with fail
              go_meet
              exact ⟨_, (un, up, us), o, rfl, rfl, ⟨HM.out.1, ho⟩, HM.out.2⟩
            · go_simp
              refine hK.out _ _ (hq.up (bl1 _ _)) (fun hHeld => ?_)
              clear hK K
              (try simp only [Act.put, List.setIfInBounds_toArray, List.set_cons_zero, List.set_cons_succ])
              refine comes_up 6 rfl (by kernel_rfl) (fun K hK => ?_)
              go_simp
              refine (hhas _ (bl_step ((Up.refl wr).drew).bl (bl1 _ _))).mono ?_
              rintro _ w5 hp5
              obtain ⟨⟨un, up, us⟩, o, rfl, ho, hb5⟩ := hp5.val
              have hbY : VBx w5 wr.heap.size (0, 0, 0) := VBx.up (w := wr.drew.alloc (.cells #[.int .u64 0, .int .i64 0, .int .u16 0] 47)) (by have := heap_alloc_new wr.drew (.cells #[.int .u64 0, .int .i64 0, .int .u16 0] 47); exact this) hb5
              have hq5 := (hq.up (bl1 wr.drew _)).up hb5
              have hYb : w5.heap[wr.heap.size]? = some (.cells #[.int .u64 0, .int .i64 0, .int .u16 0] 47 (0, 0)) := hbY
              have hq6 : Q1 tb (tf + j) (fa, fn, fc) X vn vp (w5.setRow wr.heap.size #[.int .u64 (un : Nat), .int .i64 up, .int .u16 (us : Nat)]) := by
                have hlt := fun (ad : Addr) v (h : wr.drew.cell? ad = some v) => World.block_lt_of_cell? wr.drew _ h
                have kk : ∀ (ad : Addr) v, wr.drew.cell? ad = some v → w5.cell? ad = some v → (w5.setRow wr.heap.size #[.int .u64 (un : Nat), .int .i64 up, .int .u16 (us : Nat)]).cell? ad = some v := fun ad v h1 h2 => by
                  have := hlt ad v h1
                  rw [cell_blk (setRow_other _ _ _ _ (by have : wr.drew.heap.size = wr.heap.size := rfl; omega))]
                  exact h2
                exact ⟨kk _ _ hq.1 hq5.1, kk _ _ hq.2.1 hq5.2.1, kk _ _ hq.2.2 hq5.2.2⟩
              have HM : Hid (VBx (w5.setRow wr.heap.size #[.int .u64 (un : Nat), .int .i64 up, .int .u16 (us : Nat)]) wr.heap.size (un, up, us) ∧ RowKit.Below wr.heap.size wr (w5.setRow wr.heap.size #[.int .u64 (un : Nat), .int .i64 up, .int .u16 (us : Nat)])) :=
                ⟨hbY.set (un, up, us), bl_row (bl_step (bl_step ((Up.refl wr).drew).bl (bl1 _ _)) hb5) (Nat.le_refl _) _⟩
              refine hK.out _ _ (hq5) (fun hHeld => ?_)
              clear hK K
              (try simp only [Act.put, List.setIfInBounds_toArray, List.set_cons_zero, List.set_cons_succ])
              refine tq 7 ?_
              refine tq 8 ?_
              refine tq 9 ?_
              refine comes_up 11 rfl (by kernel_rfl) (fun K hK => ?_)
              refine step_store_row rfl 47 (.tmp 11) (.tmp 70) rfl wr.heap.size #[.int .u64 (un : Nat), .int .i64 up, .int .u16 (us : Nat)] rfl rfl 47 _ hYb info47s rfl (by simp [Value.oneCell']) ?_
              refine hK.out _ _ (hq6) (fun hHeld => ?_)
              clear hK K
              (try simp only [Act.put, List.setIfInBounds_toArray, List.set_cons_zero, List.set_cons_succ])
              refine tq 12 ?_
              refine wpAnyH_done (by kernel_rfl) ?_ _
              refine NoPanic.normal ?_
              go_wp2_with fail
              go_meet
              exact ⟨_, (un, up, us), o, rfl, rfl, ⟨HM.out.1, ho⟩, HM.out.2⟩
          case rest =>
            obtain ⟨Y, ⟨un, up, us⟩, o, rfl, rfl, HB, hbc⟩ := hcut
            have HWC : Hid (IW p w wc tb tf N ess X (vn, vp, vs) recv qa k qc) := HWR.out.up hbc
            have HQC : Hid (Q1 tb (tf + j) (fa, fn, fc) X vn vp wc ∧ EvR p wc fa fn fs) := ⟨HQ.out.up hbc, HFS.out.2.1.keep (Kp.up hbc)⟩
            have hqd := HQC.out.1.up ((Up.refl wc).drew).bl
            have hit3 : ∀ W, RowKit.Below wc.heap.size wc W → Calls Try.prog 70 #[.slice fa fn fc, .int .i64 (j : Nat), .int .u8 3, .agg #[.int .u64 (vn : Nat), .int .i64 vp]] W fun e w' => OwPost W (itemsE j 3 vn vp fs) e w' := fun W u => itemsE_any W p fa fn fc fs (HQC.out.2.keep (Kp.up u)) hf9 j 3 vn vp
            have HFJ : Hid (ess[j]? = some fs ∧ fs.length ≤ 9000) := ⟨HFS.out.1, HFS.out.2.2⟩
            have HBAD : Hid (¬ JOk es (vn, vp, vs) recv sn j fs → ¬ InV ess i es (vn, vp, vs)) := fun hbad hin => by
              have := hin.2.1 j fs HFJ.out.1
              rw [show ((vn, vp, vs) : Vw).1 = vn from rfl, show ((vn, vp, vs) : Vw).2.1 = vp from rfl, HRV.out, ← HSN.out] at this
              exact hbad this
            have HGO : Hid (JOk es (vn, vp, vs) recv sn j fs → ∀ (t : Nat) gs, t < j + 1 → ess[t]? = some gs → JOk es (vn, vp, vs) recv sn t gs) := fun hok t gs ht hgs => by
              by_cases e : t = j
              · subst e
                rw [HFJ.out.1] at hgs; cases hgs
                exact hok
              · exact HN0.out t gs (by omega) hgs
            have HHR : Hid (RowKit.Below w4.heap.size w4 wc) := bl_step HB4.out hbc
            clear hq HQ hhas hbc HWR HFS HB4
            go_wp2_with fail
            refine wp_region_noPanic ?_
            refine wp_region_held_drew (S := Q1 tb (tf + j) (fa, fn, fc) X vn vp) (by kernel_rfl) (hqd) (fun hHeld => ?_)
            unfold Q1 at hHeld
            refine tq 0 ?_
            refine tq 1 ?_
            refine tq 2 ?_
            refine tq 3 ?_
            refine tq 4 ?_
            refine tq 5 ?_
            refine tq 6 ?_
            refine comes_up 7 rfl (by kernel_rfl) (fun K hK => ?_)
            go_simp
            refine (hit3 _ ((Up.refl wc).drew).bl).mono ?_
            rintro _ w6 ⟨⟨⟨oa, on, oc⟩, rfl, ho6⟩, hb6⟩
            have hq6 := hqd.up hb6
            refine hK.out _ _ (hq6) (fun hHeld => ?_)
            clear hK K
            (try simp only [Act.put, List.setIfInBounds_toArray, List.set_cons_zero, List.set_cons_succ])
            refine tq 8 ?_
            refine wpAnyH_done (by kernel_rfl) ?_ _
            refine NoPanic.normal ?_
            clear hHeld
            have hbc6 : RowKit.Below wc.heap.size wc w6 := bl_step ((Up.refl wc).drew).bl hb6
            have HO6 : Hid (Its (fun _ => True) w6 oa on (itemsE j 3 vn vp fs) ∧ on ≤ oc ∧ (∀ a, oa = some a → a.spot = none)) := ⟨ho6.its (Nat.le_trans (itemsE_len _ _ _ _ _) (by have := HFJ.out.2; omega)), ho6.cp⟩
            have HON : Hid (on = (itemsE j 3 vn vp fs).length) := ho6.1
            have hon9 : on ≤ 9000 := by rw [HON.out]; exact Nat.le_trans (itemsE_len _ _ _ _ _) HFJ.out.2
            have HW6 : Hid (IW p w w6 tb tf N ess X (vn, vp, vs) recv qa k qc) := HWC.out.up hbc6
            have hfr := from_any w6 (fun _ => True) qa k qc recv HW6.out.its hqn9 j
            have HQ6 : Hid (Q1 tb (tf + j) (fa, fn, fc) X vn vp w6 ∧ EvR p w6 fa fn fs ∧ VBx w6 Y (un, up, us) ∧ RowKit.Below w4.heap.size w4 w6) := ⟨hq6, HQC.out.2.keep (Kp.up hbc6), HB.out.1.up hbc6, bl_step HHR.out hbc6⟩
            have HHE : Hid (hasE fs vn vp = if o then some (un, up, us) else none) := HB.out.2
            clear hqd hb6 hq6 hit3 ho6 hbc6 HWC HQC HB HHR
            go_wp2_with fail
            refine hfr.mono ?_
            rintro _ w7 ⟨⟨⟨ma, mn, mc⟩, rfl, ho7⟩, hb7⟩
            have HM7 : Hid (Its (fun _ => True) w7 ma mn (fromD recv j)) := ho7.its (by
              have : (fromD recv j).length ≤ recv.length := by unfold fromD; exact List.length_filter_le _ _
              omega)
            have HMN : Hid (mn = (fromD recv j).length) := ho7.1
            have HW7 : Hid (IW p w w7 tb tf N ess X (vn, vp, vs) recv qa k qc) := HW6.out.up hb7
            have HQ7 : Hid (Q1 tb (tf + j) (fa, fn, fc) X vn vp w7 ∧ EvR p w7 fa fn fs ∧ VBx w7 Y (un, up, us) ∧ RowKit.Below w4.heap.size w4 w7 ∧ Its (fun _ => True) w7 oa on (itemsE j 3 vn vp fs)) := ⟨HQ6.out.1.up hb7, HQ6.out.2.1.keep (Kp.up hb7), HQ6.out.2.2.1.up hb7, bl_step HQ6.out.2.2.2 hb7, HO6.out.1.up hb7⟩
            clear hfr ho7 hb7 HW6 HQ6
            obtain ⟨x0, x1, x2⟩ := HW7.out.box.at
            simp only at x0 x1 x2
            have hhs := fun W => refHas_any W vs hs (j : Int)
            obtain ⟨hb, hhb⟩ : ∃ hb, hasN vs (j : Int) = hb := ⟨_, rfl⟩
            simp only [hhb] at hhs
            have HHB : Hid (hasN vs (j : Int) = hb) := hhb
            clear hhb
            cases o with
            | false =>
              have HJN : Hid (JOk es (vn, vp, vs) recv sn j fs ↔ (fromD recv j = [] ∧ ¬ (0 < sn ∧ hasN vs j = true))) := jok_none (by rw [HHE.out]; rfl)
              by_cases hm : 0 < mn
              · have hmI : (mn : Int) > 0 := by omega
                have HNN : Hid (¬ InV ess i es (vn, vp, vs)) := HBAD.out (fun h => by
                  have := (HJN.out.1 h).1
                  have h2 := HMN.out
                  rw [this] at h2
                  simp at h2
                  omega)
                go_wp2
                go_ret
                exact ⟨⟨false, rfl, by simp [HNN.out]⟩, HW7.out.bl⟩
              · have hmI : ¬ ((mn : Int) > 0) := by omega
                have HM0 : Hid (fromD recv j = []) := List.length_eq_zero_iff.1 (by have := HMN.out; omega)
                by_cases h0 : 0 < sn
                · have h0I : (sn : Int) > 0 := by omega
                  cases hb with
                  | true =>
                    have HNN : Hid (¬ InV ess i es (vn, vp, vs)) := HBAD.out (fun h => (HJN.out.1 h).2 ⟨h0, HHB.out⟩)
                    go_wp2_with fail
                    refine (hhs _).mono ?_
                    rintro _ w8 ⟨rfl, rfl⟩
                    go_wp2
                    go_ret
                    exact ⟨⟨false, rfl, by simp [HNN.out]⟩, HW7.out.bl⟩
                  | false =>
                    have HN : Hid _ := HGO.out (HJN.out.2 ⟨HM0.out, fun h => by have h1 := h.2; rw [HHB.out] at h1; cases h1⟩)
                    go_wp2_with fail
                    refine (hhs _).mono ?_
                    rintro _ w8 ⟨rfl, rfl⟩
                    go_wp2
                    go_roundw
                    case rel => exact ⟨j + 1, by omega, by go_num, HN.out, HQ7.out.2.2.2.1⟩
                    case measure => simp [intOf]; omega
                · have h0I : ¬ ((sn : Int) > 0) := by omega
                  have HN : Hid _ := HGO.out (HJN.out.2 ⟨HM0.out, fun h => h0 h.1⟩)
                  go_wp2
                  go_roundw
                  case rel => exact ⟨j + 1, by omega, by go_num, HN.out, HQ7.out.2.2.2.1⟩
                  case measure => simp [intOf]; omega
            | true =>
              have HJS : Hid (JOk es (vn, vp, vs) recv sn j fs ↔ ((un, up, us) = (vn, vp, vs) ∧ (recv <+: itemsE j 3 vn vp fs ∨ itemsE j 3 vn vp fs <+: recv) ∧ fromD recv j <+: itemsE j 2 vn vp fs) ∧ ¬ ((itemsE j 3 vn vp fs).length < sn ∧ hasN vs j = true) ∧
                ¬ (0 < (nextV (viewsE es) vn vp).1 ∧ nextV (viewsE es) vn vp = nextV (viewsE fs) vn vp ∧ recv.length ≠ (itemsE j 3 vn vp fs).length)) := jok_some (by rw [HHE.out]; rfl)
              have hve := fun W => view_equal un up us vn vp vs W
              obtain ⟨vb, hvb⟩ : ∃ vb, decide (un = vn ∧ up = vp ∧ us = vs) = vb := ⟨_, rfl⟩
              rw [hvb] at hve
              have HVB : Hid (decide (un = vn ∧ up = vp ∧ us = vs) = vb) := hvb
              obtain ⟨c1, hc1⟩ : ∃ c, decide (recv <+: itemsE j 3 vn vp fs) = c := ⟨_, rfl⟩
              obtain ⟨c2, hc2⟩ : ∃ c, decide (itemsE j 3 vn vp fs <+: recv) = c := ⟨_, rfl⟩
              obtain ⟨c3, hc3⟩ : ∃ c, decide (fromD recv j <+: itemsE j 2 vn vp fs) = c := ⟨_, rfl⟩
              have HC : Hid (decide (recv <+: itemsE j 3 vn vp fs) = c1 ∧ decide (itemsE j 3 vn vp fs <+: recv) = c2 ∧ decide (fromD recv j <+: itemsE j 2 vn vp fs) = c3) := ⟨hc1, hc2, hc3⟩
              have hbg1 : ∀ W, RowKit.Below w7.heap.size w7 W → Calls Try.prog 69 #[.slice qa k qc, .slice oa on oc] W fun e w' => e = .returned (.bool c1) ∧ Up W w' := fun W u => by
                rw [← HC.out.1]; exact begins_any _ _ W qa oa k on qc oc _ _ (HW7.out.its.up u) (HQ7.out.2.2.2.2.up u) HO6.out.2.1 HO6.out.2.2
              have hbg2 : ∀ W, RowKit.Below w7.heap.size w7 W → Calls Try.prog 69 #[.slice oa on oc, .slice qa k qc] W fun e w' => e = .returned (.bool c2) ∧ Up W w' := fun W u => by
                rw [← HC.out.2.1]; exact begins_any _ _ W oa qa on k oc qc _ _ (HQ7.out.2.2.2.2.up u) (HW7.out.its.up u) HW7.out.cap.1 HW7.out.cap.2
              have hit2 : ∀ W, RowKit.Below w7.heap.size w7 W → Calls Try.prog 70 #[.slice fa fn fc, .int .i64 (j : Nat), .int .u8 2, .agg #[.int .u64 (vn : Nat), .int .i64 vp]] W fun e w' => OwPost W (itemsE j 2 vn vp fs) e w' := fun W u => itemsE_any W p fa fn fc fs (HQ7.out.2.1.keep (Kp.up u)) hf9 j 2 vn vp
              have HL2 : Hid ((itemsE j 2 vn vp fs).length ≤ 9000) := Nat.le_trans (itemsE_len _ _ _ _ _) HFJ.out.2
              obtain ⟨y0, y1, y2⟩ := HQ7.out.2.2.1.at
              simp only at y0 y1 y2
              have hd7 : RowKit.Below w7.heap.size w7 w7.drew := ((Up.refl w7).drew).bl
              have hq7 : Q2 Y un up us tb (tf + j) (fa, fn, fc) X vn vp vs w7.drew := Q2.up ⟨y0, y1, y2, HQ7.out.1.1, x0, x1, x2⟩ hd7
              clear hvb hc1 hc2 hc3
              go_wp2_with fail
              go_upto_region 17 with fail
              go_cut [125] from 98 to 124 (fun bv wx => bv = .bool (!(vb && ((c1 || c2) && c3))) ∧ RowKit.Below w7.heap.size w7 wx)
              case first =>
                cases vb with
                | false =>
                  refine wp_region_noPanic ?_
                  refine wp_region_held_drew (S := Q2 Y un up us tb (tf + j) (fa, fn, fc) X vn vp vs) (by kernel_rfl) (hq7) (fun hHeld => ?_)
                  unfold Q2 at hHeld
                  refine tq 0 ?_
                  refine tq 1 ?_
                  refine tq 2 ?_
                  refine tq 3 ?_
                  refine tqS 4 ?_
                  refine tqS 5 ?_
                  refine tqS 6 ?_
                  refine tqS 7 ?_
                  refine tqS 8 ?_
                  refine tqS 9 ?_
                  refine tqS 10 ?_
                  refine tqS 11 ?_
                  refine tqS 12 ?_
                  refine tqS 13 ?_
                  refine tq 14 ?_
                  refine tq 15 ?_
                  refine tqS 16 ?_
                  refine tqS 17 ?_
                  refine tqS 18 ?_
                  refine tqS 19 ?_
                  refine tqS 20 ?_
                  refine tqS 21 ?_
                  refine tqS 22 ?_
                  refine tqS 23 ?_
                  refine tqS 24 ?_
                  refine tqS 25 ?_
                  refine tqS 26 ?_
                  refine tq 27 ?_
                  refine wpAnyH_done (by kernel_rfl) ?_ _
                  refine NoPanic.normal ?_
                  go_wp2_with fail
                  go_meet
                  exact ⟨rfl, hd7⟩
                | true =>
                  refine wp_region_noPanic ?_
                  refine wp_region_held_drew (S := Q2 Y un up us tb (tf + j) (fa, fn, fc) X vn vp vs) (by kernel_rfl) (hq7) (fun hHeld => ?_)
                  unfold Q2 at hHeld
                  refine tq 0 ?_
                  refine tq 1 ?_
                  refine tq 2 ?_
                  refine tq 3 ?_
                  refine tq 4 ?_
                  refine tq 5 ?_
                  refine comes_up 6 rfl (by kernel_rfl) (fun K hK => ?_)
                  go_simp
                  refine (hbg1 _ hd7).mono ?_
                  rintro _ w8 ⟨rfl, u8⟩
                  have hb8 : RowKit.Below w7.heap.size w7 w8 := bl_step hd7 u8.bl
                  have hq8 := hq7.up u8.bl
                  clear u8
                  cases c1 with
                  | true =>
                    refine hK.out _ _ (hq8) (fun hHeld => ?_)
                    clear hK K
                    (try simp only [Act.put, List.setIfInBounds_toArray, List.set_cons_zero, List.set_cons_succ])
                    refine tq 7 ?_
                    refine tq 8 ?_
                    refine tqS 9 ?_
                    refine tqS 10 ?_
                    refine tqS 11 ?_
                    refine tqS 12 ?_
                    refine tq 13 ?_
                    refine tq 14 ?_
                    refine tq 15 ?_
                    refine tq 16 ?_
                    refine tq 17 ?_
                    refine tq 18 ?_
                    refine tq 19 ?_
                    refine tq 20 ?_
                    refine tq 21 ?_
                    refine tq 22 ?_
                    refine tq 23 ?_
                    refine comes_up 24 rfl (by kernel_rfl) (fun K hK => ?_)
                    go_simp
                    refine (hit2 _ hb8).mono ?_
                    rintro _ w10 ⟨⟨⟨sa2, sn2, sc2⟩, rfl, ho10⟩, hb10⟩
                    have hq10 := hq8.up hb10
                    have hb10' := bl_step hb8 hb10
                    have hbg3 := begins_any (fun _ => True) (fun _ => True) w10 ma sa2 mn sn2 mc sc2 _ _ (HM7.out.up hb10') (ho10.its (Nat.le_trans HL2.out (by omega))) ho10.cp.1 ho10.cp.2
                    rw [HC.out.2.2] at hbg3
                    refine hK.out _ _ (hq10) (fun hHeld => ?_)
                    clear hK K
                    (try simp only [Act.put, List.setIfInBounds_toArray, List.set_cons_zero, List.set_cons_succ])
                    refine comes_up 25 rfl (by kernel_rfl) (fun K hK => ?_)
                    go_simp
                    refine hbg3.mono ?_
                    rintro _ w11 ⟨rfl, u11⟩
                    have hq11 := hq10.up u11.bl
                    have hb11 := bl_step hb10' u11.bl
                    clear hbg3 ho10 u11
                    refine hK.out _ _ (hq11) (fun hHeld => ?_)
                    clear hK K
                    (try simp only [Act.put, List.setIfInBounds_toArray, List.set_cons_zero, List.set_cons_succ])
                    refine tq 26 ?_
                    refine tq 27 ?_
                    refine wpAnyH_done (by kernel_rfl) ?_ _
                    refine NoPanic.normal ?_
                    go_wp2_with fail
                    go_meet
                    exact ⟨by cases c3 <;> rfl, hb11⟩
                  | false =>
                    refine hK.out _ _ (hq8) (fun hHeld => ?_)
                    clear hK K
                    (try simp only [Act.put, List.setIfInBounds_toArray, List.set_cons_zero, List.set_cons_succ])
                    refine tq 7 ?_
                    refine tq 8 ?_
                    refine tq 9 ?_
                    refine tq 10 ?_
                    refine comes_up 11 rfl (by kernel_rfl) (fun K hK => ?_)
                    go_simp
                    refine (hbg2 _ hb8).mono ?_
                    rintro _ w9 ⟨rfl, u9⟩
                    have hb9 : RowKit.Below w7.heap.size w7 w9 := bl_step hb8 u9.bl
                    have hq9 := hq8.up u9.bl
                    clear u9
                    cases c2 with
                    | false =>
                      refine hK.out _ _ (hq9) (fun hHeld => ?_)
                      clear hK K
                      (try simp only [Act.put, List.setIfInBounds_toArray, List.set_cons_zero, List.set_cons_succ])
                      refine tq 12 ?_
                      refine tq 13 ?_
                      refine tq 14 ?_
                      refine tq 15 ?_
                      refine tqS 16 ?_
                      refine tqS 17 ?_
                      refine tqS 18 ?_
                      refine tqS 19 ?_
                      refine tqS 20 ?_
                      refine tqS 21 ?_
                      refine tqS 22 ?_
                      refine tqS 23 ?_
                      refine tqS 24 ?_
                      refine tqS 25 ?_
                      refine tqS 26 ?_
                      refine tq 27 ?_
                      refine wpAnyH_done (by kernel_rfl) ?_ _
                      refine NoPanic.normal ?_
                      go_wp2_with fail
                      go_meet
                      exact ⟨rfl, hb9⟩
                    | true =>
                      refine hK.out _ _ (hq9) (fun hHeld => ?_)
                      clear hK K
                      (try simp only [Act.put, List.setIfInBounds_toArray, List.set_cons_zero, List.set_cons_succ])
                      refine tq 12 ?_
                      refine tq 13 ?_
                      refine tq 14 ?_
                      refine tq 15 ?_
                      refine tq 16 ?_
                      refine tq 17 ?_
                      refine tq 18 ?_
                      refine tq 19 ?_
                      refine tq 20 ?_
                      refine tq 21 ?_
                      refine tq 22 ?_
                      refine tq 23 ?_
                      refine comes_up 24 rfl (by kernel_rfl) (fun K hK => ?_)
                      go_simp
                      refine (hit2 _ hb9).mono ?_
                      rintro _ w10 ⟨⟨⟨sa2, sn2, sc2⟩, rfl, ho10⟩, hb10⟩
                      have hq10 := hq9.up hb10
                      have hb10' := bl_step hb9 hb10
                      have hbg3 := begins_any (fun _ => True) (fun _ => True) w10 ma sa2 mn sn2 mc sc2 _ _ (HM7.out.up hb10') (ho10.its (Nat.le_trans HL2.out (by omega))) ho10.cp.1 ho10.cp.2
                      rw [HC.out.2.2] at hbg3
                      refine hK.out _ _ (hq10) (fun hHeld => ?_)
                      clear hK K
                      (try simp only [Act.put, List.setIfInBounds_toArray, List.set_cons_zero, List.set_cons_succ])
                      refine comes_up 25 rfl (by kernel_rfl) (fun K hK => ?_)
                      go_simp
                      refine hbg3.mono ?_
                      rintro _ w11 ⟨rfl, u11⟩
                      have hq11 := hq10.up u11.bl
                      have hb11 := bl_step hb10' u11.bl
                      clear hbg3 ho10 u11
                      refine hK.out _ _ (hq11) (fun hHeld => ?_)
                      clear hK K
                      (try simp only [Act.put, List.setIfInBounds_toArray, List.set_cons_zero, List.set_cons_succ])
                      refine tq 26 ?_
                      refine tq 27 ?_
                      refine wpAnyH_done (by kernel_rfl) ?_ _
                      refine NoPanic.normal ?_
                      go_wp2_with fail
                      go_meet
                      exact ⟨by cases c3 <;> rfl, hb11⟩
              case rest =>
                obtain ⟨rfl, hb8⟩ := hcut
                clear hq7 hbg1 hbg2 hit2 hve hd7 y0 y1 y2 x0 x1 x2 hhs
                generalize wc = w8 at *
                obtain ⟨g1, hg1⟩ : ∃ g, (vb && ((c1 || c2) && c3)) = g := ⟨_, rfl⟩
                rw [hg1]
                have HG1 : Hid ((vb && ((c1 || c2) && c3)) = g1) := hg1
                have HW8 : Hid (IW p w w8 tb tf N ess X (vn, vp, vs) recv qa k qc) := HW7.out.up hb8
                have HQ8 : Hid (Q1 tb (tf + j) (fa, fn, fc) X vn vp w8 ∧ EvR p w8 fa fn fs ∧ RowKit.Below w4.heap.size w4 w8) := ⟨HQ7.out.1.up hb8, HQ7.out.2.1.keep (Kp.up hb8), bl_step HQ7.out.2.2.2.1 hb8⟩
                clear hg1 hb8 HW7 HQ7 HM7 HO6
                cases g1 with
                | false =>
                  have HNN : Hid (¬ InV ess i es (vn, vp, vs)) := HBAD.out (fun h => by
                    obtain ⟨⟨q1, q2, q3⟩, _⟩ := HJS.out.1 h
                    have e0 : vb = true := by rw [← HVB.out]; simpa using q1
                    have e1 : (c1 || c2) = true := by
                      rw [← HC.out.1, ← HC.out.2.1]
                      rcases q2 with q | q <;> simp [q]
                    have e2 : c3 = true := by rw [← HC.out.2.2]; exact decide_eq_true q3
                    have := HG1.out
                    rw [e0, e1, e2] at this
                    cases this)
                  go_wp2
                  go_ret
                  exact ⟨⟨false, rfl, by simp [HNN.out]⟩, HW8.out.bl⟩
                | true =>
                  have HA1 : Hid ((un, up, us) = (vn, vp, vs) ∧ (recv <+: itemsE j 3 vn vp fs ∨ itemsE j 3 vn vp fs <+: recv) ∧ fromD recv j <+: itemsE j 2 vn vp fs) := by
                    have h := HG1.out
                    simp only [Bool.and_eq_true, Bool.or_eq_true] at h
                    obtain ⟨h1, h2, h3⟩ := h
                    rw [← HVB.out] at h1
                    rw [← HC.out.1, ← HC.out.2.1] at h2
                    rw [← HC.out.2.2] at h3
                    simp only [decide_eq_true_eq] at h1 h2 h3
                    obtain ⟨rfl, rfl, rfl⟩ := h1
                    exact ⟨rfl, h2, h3⟩
                  clear HG1 HC HVB
                  obtain ⟨x0, x1, x2⟩ := HW8.out.box.at
                  simp only at x0 x1 x2
                  have hhs : ∀ W, Calls Try.prog 67 #[.int .u16 (vs : Nat), .int .i64 (j : Nat)] W fun e w' => e = .returned (.bool hb) ∧ W = w' := fun W => by rw [← HHB.out]; exact refHas_any W vs hs (j : Int)
                  go_upto_region 19 with fail
                  go_cut [135] from 126 to 134 (fun bv wx => bv = .bool (decide (on < sn) && hb) ∧ w8 = wx)
                  case first =>
                    by_cases hos : on < sn
                    · have hosI : (sn : Int) > (on : Int) := by omega
                      have HOS : Hid (on < sn) := hos
                      clear hos
                      go_wp2_with fail
                      refine (hhs _).mono ?_
                      rintro _ w9 ⟨rfl, rfl⟩
                      go_wp2_with fail
                      go_meet
                      exact ⟨by simp [HOS.out], rfl⟩
                    · have hosI : ¬ ((sn : Int) > (on : Int)) := by omega
                      have HOS : Hid (¬ on < sn) := hos
                      clear hos
                      go_wp2_with fail
                      go_meet
                      exact ⟨by simp [HOS.out], rfl⟩
                  case rest =>
                    obtain ⟨rfl, rfl⟩ := hcut
                    obtain ⟨g2, hg2⟩ : ∃ g, (decide (on < sn) && hb) = g := ⟨_, rfl⟩
                    rw [hg2]
                    have HG2 : Hid ((decide (on < sn) && hb) = g2) := hg2
                    clear hg2 hhs
                    cases g2 with
                    | true =>
                      have HNN : Hid (¬ InV ess i es (vn, vp, vs)) := HBAD.out (fun h => by
                        have h2 := (HJS.out.1 h).2.1
                        have h := HG2.out
                        simp only [Bool.and_eq_true, decide_eq_true_eq] at h
                        exact h2 ⟨by rw [← HON.out]; exact h.1, by rw [HHB.out]; exact h.2⟩)
                      go_wp2
                      go_ret
                      exact ⟨⟨false, rfl, by simp [HNN.out]⟩, HW8.out.bl⟩
                    | false =>
                      have HA2 : Hid (¬ ((itemsE j 3 vn vp fs).length < sn ∧ hasN vs j = true)) := fun hx => by
                        have h := HG2.out
                        rw [← HON.out] at hx
                        rw [show decide (on < sn) = true from decide_eq_true hx.1, ← HHB.out, hx.2] at h
                        cases h
                      obtain ⟨tb', tf', ⟨ra9, rn9, rc9⟩, hao, hc9, _, hev9⟩ := Lr.at HW8.out.evs HIE.out.1
                      obtain ⟨rfl, rfl⟩ : tb = tb' ∧ tf = tf' := by simpa using hao
                      simp only at hc9 hev9
                      have hrn9' : rn9 ≤ 9000 := by have := hev9.1; have := HIE.out.2; omega
                      have hud := ((Up.refl w8).drew).bl
                      have hq : Q1 tb (tf + i) (ra9, rn9, rc9) X vn vp w8.drew := ⟨bl_cell hud hc9, bl_cell hud x0, bl_cell hud x1⟩
                      obtain ⟨⟨nn, np⟩, hnv⟩ : ∃ o, nextV (viewsE es) vn vp = o := ⟨_, rfl⟩
                      have HNV : Hid (nextV (viewsE es) vn vp = (nn, np)) := hnv
                      have hnx : ∀ W, RowKit.Below w8.heap.size w8 W → Calls Try.prog 73 #[.slice ra9 rn9 rc9, .agg #[.int .u64 (vn : Nat), .int .i64 vp]] W fun e w' => NextPost W (nn, np) e w' := fun W u => by rw [← HNV.out]; exact next_any W p ra9 rn9 rc9 es (hev9.keep (Kp.up u)) hrn9' vn vp
                      clear hao hc9 hud hnv HG2
                      go_wp2_with fail
                      go_upto_region 21 with fail
                      go_cut [15] from 136 to 142 (fun zv wx => ∃ Z, zv = .pointer (some ⟨Z, 0, none⟩) ∧ Hid (VIx wx Z (nn, np)) ∧ RowKit.Below w8.heap.size w8 wx)
                      case first =>
                        refine wp_region_noPanic ?_
                        refine wp_region_held_drew (S := Q1 tb (tf + i) (ra9, rn9, rc9) X vn vp) (by kernel_rfl) (hq) (fun hHeld => ?_)
                        unfold Q1 at hHeld
                        refine tq 0 ?_
                        refine tq 1 ?_
                        refine tq 2 ?_
                        refine tq 3 ?_
                        refine tq 4 ?_
                        refine tq 5 ?_
                        refine comes_up2 6 7 rfl rfl (by kernel_rfl) (fun K hK => ?_) (fun K hK => ?_)
                        · go_simp
                          refine (hnx _ ((Up.refl w8).drew).bl).mono ?_
                          rintro _ w9 ⟨rfl, hb9⟩
                          have hq9 := hq.up hb9
                          refine hK.out _ _ (hq9) (fun hHeld => ?_)
                          clear hK K
                          (try simp only [Act.put, List.setIfInBounds_toArray, List.set_cons_zero, List.set_cons_succ])
                          refine comes_up 7 rfl (by kernel_rfl) (fun K hK => ?_)
                          go_simp
                          refine hK.out _ _ (hq9.up (bl1 _ _)) (fun hHeld => ?_)
                          clear hK K
                          (try simp only [Act.put, List.setIfInBounds_toArray, List.set_cons_zero, List.set_cons_succ])
                          refine comes_up 8 rfl (by kernel_rfl) (fun K hK => ?_)
                          go_simp
                          refine hK.out _ _ (hq9.up (bl1 _ _)) (fun hHeld => ?_)
                          clear hK K
                          (try simp only [Act.put, List.setIfInBounds_toArray, List.set_cons_zero, List.set_cons_succ])
                          refine wpAnyH_done (by kernel_rfl) ?_ _
                          refine NoPanic.normal ?_
                          have HM : Hid (VIx (w9.alloc (.cells #[.int .u64 (nn : Nat), .int .i64 np] 44)) w9.heap.size (nn, np) ∧ RowKit.Below w8.heap.size w8 (w9.alloc (.cells #[.int .u64 (nn : Nat), .int .i64 np] 44))) := ⟨heap_alloc_new w9 _, bl_step (bl_step ((Up.refl w8).drew).bl hb9) (bl1 _ _)⟩
                          go_wp2_with fail
                          go_meet
                          exact ⟨_, rfl, HM.out.1, HM.out.2⟩
                        · go_simp
                          refine hK.out _ _ (hq.up (bl1 _ _)) (fun hHeld => ?_)
                          clear hK K
                          (try simp only [Act.put, List.setIfInBounds_toArray, List.set_cons_zero, List.set_cons_succ])
                          refine comes_up 6 rfl (by kernel_rfl) (fun K hK => ?_)
                          go_simp
                          refine (hnx _ (bl_step ((Up.refl w8).drew).bl (bl1 _ _))).mono ?_
                          rintro _ w9 ⟨rfl, hb9⟩
                          have hbY : VIx w9 w8.heap.size (0, 0) := VIx.up (w := w8.drew.alloc (.cells #[.int .u64 0, .int .i64 0] 44)) (by have := heap_alloc_new w8.drew (.cells #[.int .u64 0, .int .i64 0] 44); exact this) hb9
                          have hq9 := (hq.up (bl1 w8.drew _)).up hb9
                          have hYb : w9.heap[w8.heap.size]? = some (.cells #[.int .u64 0, .int .i64 0] 44 (0, 0)) := hbY
                          have hq10 : Q1 tb (tf + i) (ra9, rn9, rc9) X vn vp (w9.setRow w8.heap.size #[.int .u64 (nn : Nat), .int .i64 np]) := by
                            have hlt := fun (ad : Addr) v (h : w8.drew.cell? ad = some v) => World.block_lt_of_cell? w8.drew _ h
                            have kk : ∀ (ad : Addr) v, w8.drew.cell? ad = some v → w9.cell? ad = some v → (w9.setRow w8.heap.size #[.int .u64 (nn : Nat), .int .i64 np]).cell? ad = some v := fun ad v h1 h2 => by
                              have := hlt ad v h1
                              rw [cell_blk (setRow_other _ _ _ _ (by have : w8.drew.heap.size = w8.heap.size := rfl; omega))]
                              exact h2
                            exact ⟨kk _ _ hq.1 hq9.1, kk _ _ hq.2.1 hq9.2.1, kk _ _ hq.2.2 hq9.2.2⟩
                          have HM : Hid (VIx (w9.setRow w8.heap.size #[.int .u64 (nn : Nat), .int .i64 np]) w8.heap.size (nn, np) ∧ RowKit.Below w8.heap.size w8 (w9.setRow w8.heap.size #[.int .u64 (nn : Nat), .int .i64 np])) :=
                            ⟨setRow_heap _ _ _ _ _ _ hYb, bl_row (bl_step (bl_step ((Up.refl w8).drew).bl (bl1 _ _)) hb9) (Nat.le_refl _) _⟩
                          refine hK.out _ _ (hq9) (fun hHeld => ?_)
                          clear hK K
                          (try simp only [Act.put, List.setIfInBounds_toArray, List.set_cons_zero, List.set_cons_succ])
                          refine comes_up 8 rfl (by kernel_rfl) (fun K hK => ?_)
                          refine step_store_row rfl 44 (.tmp 15) (.tmp 142) rfl w8.heap.size #[.int .u64 (nn : Nat), .int .i64 np] rfl rfl 44 _ hYb info44s rfl (by simp [Value.oneCell']) ?_
                          refine hK.out _ _ (hq10) (fun hHeld => ?_)
                          clear hK K
                          (try simp only [Act.put, List.setIfInBounds_toArray, List.set_cons_zero, List.set_cons_succ])
                          refine wpAnyH_done (by kernel_rfl) ?_ _
                          refine NoPanic.normal ?_
                          go_wp2_with fail
                          go_meet
                          exact ⟨_, rfl, HM.out.1, HM.out.2⟩
                      case rest =>
                        obtain ⟨Z, rfl, HZ, hbc⟩ := hcut
                        have HW9 : Hid (IW p w wc tb tf N ess X (vn, vp, vs) recv qa k qc ∧ RowKit.Below w4.heap.size w4 wc) := ⟨HW8.out.up hbc, bl_step HQ8.out.2.2 hbc⟩
                        obtain ⟨z0, z1⟩ := HZ.out.at
                        simp only at z0 z1
                        have hq1 := HQ8.out.1.up hbc
                        have hud := ((Up.refl wc).drew).bl
                        have hq9 : Q3 Z nn np tb (tf + j) (fa, fn, fc) X vn vp wc.drew := Q3.up ⟨z0, z1, hq1.1, hq1.2.1, hq1.2.2⟩ hud
                        have hev9 := HQ8.out.2.1.keep (Kp.up hbc)
                        obtain ⟨⟨mm, mp⟩, hmv⟩ : ∃ o, nextV (viewsE fs) vn vp = o := ⟨_, rfl⟩
                        have HMV : Hid (nextV (viewsE fs) vn vp = (mm, mp)) := hmv
                        have hnx : ∀ W, RowKit.Below wc.heap.size wc W → Calls Try.prog 73 #[.slice fa fn fc, .agg #[.int .u64 (vn : Nat), .int .i64 vp]] W fun e w' => NextPost W (mm, mp) e w' := fun W u => by rw [← HMV.out]; exact next_any W p fa fn fc fs (hev9.keep (Kp.up u)) hf9 vn vp
                        have hve := fun W => vid_equal nn np mm mp W
                        obtain ⟨eb, heb⟩ : ∃ b, decide (nn = mm ∧ np = mp) = b := ⟨_, rfl⟩
                        rw [heb] at hve
                        have HEB : Hid (decide (nn = mm ∧ np = mp) = eb) := heb
                        clear hmv heb hbc HW8 HQ8 hq hq1 z0 z1 x0 x1 x2
                        go_wp2_with fail
                        go_upto_region 22 with fail
                        go_cut [163] from 143 to 162 (fun bv wx => bv = .bool (decide (0 < nn) && (eb && !decide (k = on))) ∧ RowKit.Below wc.heap.size wc wx)
                        case first =>
                          by_cases hn0 : 0 < nn
                          · have hn0d : decide (0 < nn) = true := decide_eq_true hn0
                            have HN0' : Hid (0 < nn) := hn0
                            clear hn0
                            refine wp_region_noPanic ?_
                            refine wp_region_held_drew (S := Q3 Z nn np tb (tf + j) (fa, fn, fc) X vn vp) (by kernel_rfl) (hq9) (fun hHeld => ?_)
                            unfold Q3 at hHeld
                            refine tq 0 ?_
                            refine tq 1 ?_
                            refine tq 2 ?_
                            refine tq 3 ?_
                            refine tq 4 ?_
                            refine tq 5 ?_
                            refine tq 6 ?_
                            refine tq 7 ?_
                            refine tq 8 ?_
                            refine tq 9 ?_
                            refine tq 10 ?_
                            refine comes_up 11 rfl (by kernel_rfl) (fun K hK => ?_)
                            go_simp
                            refine (hnx _ hud).mono ?_
                            rintro _ w10 ⟨rfl, hb10⟩
                            have hq10 := hq9.up hb10
                            have hb10' := bl_step hud hb10
                            cases eb with
                            | false =>
                              refine hK.out _ _ (hq10) (fun hHeld => ?_)
                              clear hK K
                              (try simp only [Act.put, List.setIfInBounds_toArray, List.set_cons_zero, List.set_cons_succ])
                              refine tq 12 ?_
                              refine tq 13 ?_
                              refine tq 14 ?_
                              refine tqS 15 ?_
                              refine tqS 16 ?_
                              refine tqS 17 ?_
                              refine tqS 18 ?_
                              refine tqS 19 ?_
                              refine tq 20 ?_
                              refine wpAnyH_done (by kernel_rfl) ?_ _
                              refine NoPanic.normal ?_
                              go_wp2_with fail
                              go_meet
                              exact ⟨by simp, hb10'⟩
                            | true =>
                              by_cases hko : k = on
                              · have hkoI : ((k : Int) != (on : Int)) = false := by simp [hko]
                                have HKO : Hid (k = on) := hko
                                clear hko
                                refine hK.out _ _ (hq10) (fun hHeld => ?_)
                                clear hK K
                                (try simp only [Act.put, List.setIfInBounds_toArray, List.set_cons_zero, List.set_cons_succ])
                                refine tq 12 ?_
                                refine tq 13 ?_
                                refine tq 14 ?_
                                refine tq 15 ?_
                                refine tq 16 ?_
                                refine tq 17 ?_
                                refine tq 18 ?_
                                refine tq 19 ?_
                                refine tq 20 ?_
                                refine wpAnyH_done (by kernel_rfl) ?_ _
                                refine NoPanic.normal ?_
                                go_wp2_with fail
                                go_meet
                                exact ⟨by simp [HKO.out], hb10'⟩
                              · have hkoI : ((k : Int) != (on : Int)) = true := by simp; omega
                                have HKO : Hid (¬ k = on) := hko
                                clear hko
                                refine hK.out _ _ (hq10) (fun hHeld => ?_)
                                clear hK K
                                (try simp only [Act.put, List.setIfInBounds_toArray, List.set_cons_zero, List.set_cons_succ])
                                refine tq 12 ?_
                                refine tq 13 ?_
                                refine tq 14 ?_
                                refine tq 15 ?_
                                refine tq 16 ?_
                                refine tq 17 ?_
                                refine tq 18 ?_
                                refine tq 19 ?_
                                refine tq 20 ?_
                                refine wpAnyH_done (by kernel_rfl) ?_ _
                                refine NoPanic.normal ?_
                                go_wp2_with fail
                                go_meet
                                exact ⟨by simp [HKO.out, HN0'.out], hb10'⟩
                          · have hn0d : decide (0 < nn) = false := decide_eq_false hn0
                            have HN0' : Hid (¬ 0 < nn) := hn0
                            clear hn0
                            refine wp_region_noPanic ?_
                            refine wp_region_held_drew (S := Q3 Z nn np tb (tf + j) (fa, fn, fc) X vn vp) (by kernel_rfl) (hq9) (fun hHeld => ?_)
                            unfold Q3 at hHeld
                            refine tq 0 ?_
                            refine tq 1 ?_
                            refine tq 2 ?_
                            refine tq 3 ?_
                            refine tqS 4 ?_
                            refine tqS 5 ?_
                            refine tqS 6 ?_
                            refine tqS 7 ?_
                            refine tqS 8 ?_
                            refine tqS 9 ?_
                            refine tqS 10 ?_
                            refine tqS 11 ?_
                            refine tqS 12 ?_
                            refine tq 13 ?_
                            refine tq 14 ?_
                            refine tqS 15 ?_
                            refine tqS 16 ?_
                            refine tqS 17 ?_
                            refine tqS 18 ?_
                            refine tqS 19 ?_
                            refine tq 20 ?_
                            refine wpAnyH_done (by kernel_rfl) ?_ _
                            refine NoPanic.normal ?_
                            go_wp2_with fail
                            go_meet
                            exact ⟨by simp [HN0'.out], hud⟩
                        case rest =>
                          obtain ⟨rfl, hb10⟩ := hcut
                          generalize wc = w10 at *
                          obtain ⟨g3, hg3⟩ : ∃ g, (decide (0 < nn) && (eb && !decide (k = on))) = g := ⟨_, rfl⟩
                          rw [hg3]
                          have HG3 : Hid ((decide (0 < nn) && (eb && !decide (k = on))) = g3) := hg3
                          have HWX : Hid (RowKit.Below w.heap.size w w10 ∧ RowKit.Below w4.heap.size w4 w10) := ⟨bl_step HW9.out.1.bl hb10, bl_step HW9.out.2 hb10⟩
                          clear hg3 hb10 hq9 hnx hve hev9 hud
                          cases g3 with
                          | true =>
                            have HNN : Hid (¬ InV ess i es (vn, vp, vs)) := HBAD.out (fun h => by
                              have h2 := (HJS.out.1 h).2.2
                              have h := HG3.out
                              rw [← HEB.out] at h
                              simp only [Bool.and_eq_true, decide_eq_true_eq, Bool.not_eq_true', decide_eq_false_iff_not] at h
                              obtain ⟨h1, ⟨rfl, rfl⟩, h3⟩ := h
                              exact h2 ⟨by rw [HNV.out]; exact h1, by rw [HNV.out, HMV.out], by rw [hqn, ← HON.out]; exact h3⟩)
                            go_wp2
                            go_ret
                            exact ⟨⟨false, rfl, by simp [HNN.out]⟩, HWX.out.1⟩
                          | false =>
                            have HN : Hid _ := HGO.out (HJS.out.2 ⟨HA1.out, HA2.out, fun ⟨h1, h2, h3⟩ => by
                              have h := HG3.out
                              rw [HNV.out, HMV.out] at h2
                              simp only [Prod.mk.injEq] at h2
                              rw [HNV.out] at h1
                              rw [hqn, ← HON.out] at h3
                              rw [← HEB.out, show decide (0 < nn) = true from decide_eq_true h1, show decide (nn = mm ∧ np = mp) = true from decide_eq_true h2, show decide (k = on) = false from decide_eq_false h3] at h
                              cases h⟩)
                            go_wp2
                            go_roundw
                            case rel => first | exact ⟨j + 1, by omega, by go_num, HN.out, HWX.out.2⟩ | ((repeat apply Exists.intro); exact ⟨⟨j + 1, by omega, by go_num, HN.out, HWX.out.2⟩, rfl⟩)
                            case measure => simp [intOf]; omega
        · obtain rfl : j = N := by omega
          obtain ⟨x0, x1, x2⟩ := HWR.out.box.at
          simp only at x0 x1 x2
          have HX2 : Hid (wr.cell? ⟨X, 2, none⟩ = some (.int .u16 (vs : Nat))) := x2
          clear x0 x1 x2
          generalize wr = w5 at *
          go_wp2_with fail
          go_loopw [16] (fun tv wr => ∃ t : Nat, j ≤ t ∧ t ≤ j + 16 ∧ tv = .int .i64 (t : Nat) ∧ (∀ m : Nat, j ≤ m → m < t → ¬ (0 < sn ∧ hasN vs m = true)) ∧ w5 = wr) (fun tv _ => 16 - (intOf tv).toNat)
          case atStart => exact ⟨j, by omega, by omega, rfl, fun m h1 h2 => by omega, rfl⟩
          case round =>
            obtain ⟨t, ht0, ht1, rfl, hno, rfl⟩ := hrel
            have HT0 : Hid (∀ m : Nat, j ≤ m → m < t → ¬ (0 < sn ∧ hasN vs m = true)) := hno
            clear hno
            by_cases hlt : t < 16
            · have hltI : (t : Int) < 16 := by omega
              have x2 := HX2.out
              have hhs : ∀ W, Calls Try.prog 67 #[.int .u16 (vs : Nat), .int .i64 (t : Nat)] W fun e w' => e = .returned (.bool (hasN vs (t : Int))) ∧ W = w' := fun W => refHas_any W vs hs (t : Int)
              obtain ⟨hb, hhb⟩ : ∃ hb, hasN vs (t : Int) = hb := ⟨_, rfl⟩
              simp only [hhb] at hhs
              have HHB : Hid (hasN vs (t : Int) = hb) := hhb
              have HGO : Hid (¬ (0 < sn ∧ hasN vs t = true) → ∀ m : Nat, j ≤ m → m < t + 1 → ¬ (0 < sn ∧ hasN vs m = true)) := fun h m h1 h2 => by
                by_cases e : m = t
                · subst e; exact h
                · exact HT0.out m h1 (by omega)
              clear hhb
              by_cases h0 : 0 < sn
              · have h0I : (sn : Int) > 0 := by omega
                cases hb with
                | true =>
                  have HNN : Hid (¬ InV ess i es (vn, vp, vs)) := fun hin => by
                    have := hin.2.2 t (by rw [hl]; omega) hlt
                    rw [show ((vn, vp, vs) : Vw).1 = vn from rfl, show ((vn, vp, vs) : Vw).2.1 = vp from rfl, show ((vn, vp, vs) : Vw).2.2 = vs from rfl, ← HSN.out] at this
                    exact this ⟨h0, HHB.out⟩
                  go_wp2_with fail
                  refine (hhs _).mono ?_
                  rintro _ w8 ⟨rfl, rfl⟩
                  go_wp2
                  go_ret
                  exact ⟨⟨false, rfl, by simp [HNN.out]⟩, HWR.out.bl⟩
                | false =>
                  have HN : Hid _ := HGO.out (fun h => by have h1 := h.2; rw [HHB.out] at h1; cases h1)
                  go_wp2_with fail
                  refine (hhs _).mono ?_
                  rintro _ w8 ⟨rfl, rfl⟩
                  go_wp2
                  go_roundw
                  case rel => exact ⟨t + 1, by omega, by omega, by go_num, HN.out, by trivial⟩
                  case measure => simp [intOf]; omega
              · have h0I : ¬ ((sn : Int) > 0) := by omega
                have HN : Hid _ := HGO.out (fun h => h0 h.1)
                go_wp2
                go_roundw
                case rel => exact ⟨t + 1, by omega, by omega, by go_num, HN.out, by trivial⟩
                case measure => simp [intOf]; omega
            · have hltI : ¬ ((t : Int) < 16) := by omega
              have HYES : Hid (InV ess i es (vn, vp, vs)) := by
                refine ⟨?_, fun m gs hgs => ?_, fun m h1 h2 => ?_⟩
                · rw [show ((vn, vp, vs) : Vw).1 = vn from rfl, show ((vn, vp, vs) : Vw).2.1 = vp from rfl, HRV.out]
                  exact HRNG.out
                · rw [show ((vn, vp, vs) : Vw).1 = vn from rfl, show ((vn, vp, vs) : Vw).2.1 = vp from rfl, HRV.out, ← HSN.out]
                  exact HN0.out m gs (by have := (List.getElem?_eq_some_iff.1 hgs).1; omega) hgs
                · rw [show ((vn, vp, vs) : Vw).1 = vn from rfl, show ((vn, vp, vs) : Vw).2.1 = vp from rfl, show ((vn, vp, vs) : Vw).2.2 = vs from rfl, ← HSN.out]
                  exact HT0.out m (by rw [hl] at h1; omega) (by omega)
              go_wp2
              go_ret
              exact ⟨⟨true, rfl, by simp [HYES.out]⟩, HWR.out.bl⟩
end Go.Proofs.Ythnbijnpbjfoaaa
