/-
  Package total's confirm: next goes on as far as labels are safe.
-/
import Derived.Test.YtlaihgdfedalmaaGreatTPut
import Derived.Test.YtlaihgdfedalmaaGreatTSum
import Derived.Deep.CutBlock
namespace Go.Proofs.YtlaihgdfedalmaaGreat
open Go.RowKit Go.Sort Go.Conc
set_option linter.unusedVariables false
set_option linter.unusedSimpArgs false

def confN (ord safe : List Lb) : Nat → Int → Int
  | 0, p => p
  | f + 1, p => match atL ord p with
    | some l => if l ∈ safe then confN ord safe f (p + 1) else p
    | none => p
/-- How far next goes on. -/
def conf (ord safe : List Lb) (p : Int) : Int := confN ord safe ((ord.length : Int) + 1 - p).toNat p
theorem atL_some {ord : List Lb} {p : Int} {l : Lb} (h : atL ord p = some l) : 1 ≤ p ∧ p ≤ (ord.length : Int) := by
  unfold atL at h
  split at h
  · cases h
  · have := (List.getElem?_eq_some_iff.1 h).1
    omega
theorem conf_none {ord safe : List Lb} {p : Int} (h : atL ord p = none) : conf ord safe p = p := by
  unfold conf
  cases ((ord.length : Int) + 1 - p).toNat with
  | zero => rfl
  | succ f => unfold confN; rw [h]
theorem conf_stop {ord safe : List Lb} {p : Int} {l : Lb} (h : atL ord p = some l) (hn : l ∉ safe) : conf ord safe p = p := by
  unfold conf
  cases ((ord.length : Int) + 1 - p).toNat with
  | zero => rfl
  | succ f => unfold confN; rw [h]; simp only; rw [if_neg hn]
theorem conf_go {ord safe : List Lb} {p : Int} {l : Lb} (h : atL ord p = some l) (hn : l ∈ safe) : conf ord safe p = conf ord safe (p + 1) := by
  have := atL_some h
  unfold conf
  rw [show ((ord.length : Int) + 1 - p).toNat = ((ord.length : Int) + 1 - (p + 1)).toNat + 1 by omega]
  conv => lhs; unfold confN
  rw [h]; simp only; rw [if_pos hn]
def Tot.confirm (T : Tot) : Tot := { T with nx := conf T.ord T.safe T.nx }
theorem Tt.setNx {w : World} {col : Nat → Nat} {Z : Nat → Prop} {q : Nat} {T : Tot} {a : Ta} (h : Tt w col Z q T a) (p : Int) : Tt (w.setCell ⟨q, 13, none⟩ (.int .i64 p)) col Z q { T with nx := p } a :=
  h.setc 13 _ (fun j hj => by unfold tcell; split <;> simp_all) (by omega) (fun W d => ⟨d.ch, d.con, d.am, d.sa, d.bu, d.od, d.tl, d.cc, d.ccb, d.cab, d.csb, d.cbv, d.cov, d.ctv, d.lt, d.zf, d.zl⟩)
def S1c (q : Nat) (p : Int) (W : World) : Prop := W.cell? ⟨q, 13, none⟩ = some (.int .i64 p) ∧ W.cell? ⟨q, 13, none⟩ = some (.int .i64 p)
def S6c (q B sb : Nat) (b0 b1 b2 b3 : Value) (r : Bool) (W : World) : Prop := W.cell? ⟨q, 19, none⟩ = some (.map (some sb)) ∧ W.cell? ⟨B, 0, none⟩ = some b0 ∧ W.cell? ⟨B, 1, none⟩ = some b1 ∧ W.cell? ⟨B, 2, none⟩ = some b2 ∧ W.cell? ⟨B, 3, none⟩ = some b3 ∧ (Instr.lookup 96 (.map (some sb)) (.agg #[b0, b1, b2, b3]) true).run Tryz.prog W = .ok (.tuple #[.agg #[], .bool r]) W
/-- The order's label at a place, asked of the node. -/
theorem Tt.at {w : World} {col : Nat → Nat} {Z : Nat → Prop} {q : Nat} {T : Tot} {a : Ta} (h : Tt w col Z q T a) {p : Int} (hp : In p) : Calls Tryz.prog 73 #[.pointer (some ⟨q, 11, none⟩), .int .i64 p] w fun e w' => e = .returned (.tuple #[lab ((atL T.ord p).getD (0, 0, 0, 0)), .bool (atL T.ord p).isSome]) ∧ Below w.heap.size w w' := by
  obtain ⟨ao, cap, hv, hL, _, _⟩ := lr_of_rw h.d.od
  have hc := h.cell 11 (by omega)
  simp only [tcell, hv] at hc
  exact at_any w q 11 ao T.ord.length cap T.ord hc hL p hp
def nxOf (q : Nat) (wr : World) : Int := match wr.cell? ⟨q, 13, none⟩ with
  | some (.int _ n) => n
  | _ => 0
structure Cf (w : World) (col : Nat → Nat) (Z : Nat → Prop) (q : Nat) (T : Tot) (a : Ta) (p : Int) (g : Nat) (wr : World) : Prop where
  t : Tt wr col Z q { T with nx := p } a
  gt : Gt w col wr col
  b : ∃ y : Lb, y = (atL T.ord p).getD (0, 0, 0, 0) ∧ wr.heap[g]? = some (.cells #[.int .u64 (y.1 : Nat), .int .i64 y.2.1, .int .u64 (y.2.2.1 : Nat), .int .i64 y.2.2.2] 39 (0, 0))
  c : conf T.ord T.safe p = conf T.ord T.safe T.nx
  i : In p
  gn : w.heap.size ≤ g
set_option maxRecDepth 10000 in
set_option maxHeartbeats 2000000 in
theorem confirm_any (w : World) (col : Nat → Nat) (Z : Nat → Prop) (q : Nat) (T : Tot) (a : Ta) (h : Tt w col Z q T a) (hol : T.ord.length ≤ 5000) (hnx : In T.nx) (ho : ∀ x ∈ T.ord, OkL x) :
    Calls Tryz.prog 72 #[.pointer (some ⟨q, 0, none⟩)] w fun e w' => e = .returned (.tuple #[]) ∧ LabPost w col Z q T.confirm w' := by
  have hql : q < w.heap.size := h.d.lt q (by rw [h.fq]; omega)
  obtain ⟨R, hR⟩ : ∃ R, T.confirm = R := ⟨_, rfl⟩
  have HR : Hid (T.confirm = R) := hR
  rw [hR]
  have hs0 : S1c q T.nx w.drew := ⟨h.cell 13 (by omega), h.cell 13 (by omega)⟩
  have hat := (h.still (Below.refl _ w).drew).at hnx
  obtain ⟨y, hy⟩ : ∃ y, (atL T.ord T.nx).getD (0, 0, 0, 0) = y := ⟨_, rfl⟩
  obtain ⟨r, hr⟩ : ∃ r, (atL T.ord T.nx).isSome = r := ⟨_, rfl⟩
  rw [hy, hr] at hat
  have HY : Hid ((atL T.ord T.nx).getD (0, 0, 0, 0) = y ∧ (atL T.ord T.nx).isSome = r) := ⟨hy, hr⟩
  have HT : Hid (Tt w col Z q T a ∧ T.ord.length ≤ 5000 ∧ In T.nx ∧ ∀ x ∈ T.ord, OkL x) := ⟨h, hol, hnx, ho⟩
  unfold lab at hat
  clear h hR hy hr hol hnx ho
  go_enter Tryz.func72, Tryz.ntmps72
  go_upto_region 0 with fail
  go_cut [2, 3] from 6 to 16 (fun v2 v3 wx => ∃ g : Nat, v2 = .pointer (some ⟨g, 0, none⟩) ∧ v3 = .bool r ∧ Hid (Cf w col Z q T a T.nx g wx))
  case first =>
    refine wp_region_noPanic ?_
    refine wp_region_held_drew (S := S1c q T.nx) (by kernel_rfl) (hs0) (fun hHeld => ?_)
    unfold S1c at hHeld
    refine tq 0 ?_
    refine tq 1 ?_
    refine tq 2 ?_
    refine tq 3 ?_
    refine tq 4 ?_
    refine tq 5 ?_
    refine tq 6 ?_
    have uA : Below w.heap.size w (w.alloc (.cells #[.int .u64 0, .int .i64 0, .int .u64 0, .int .i64 0] 39)).drew := (bl1 _ _).drew
    have hsA : S1c q T.nx (w.alloc (.cells #[.int .u64 0, .int .i64 0, .int .u64 0, .int .i64 0] 39)).drew := ⟨bl_cell (w := w) uA (by exact hs0.1), bl_cell (w := w) uA (by exact hs0.1)⟩
    refine comes_up2 7 11 rfl rfl (by kernel_rfl) (fun K hK => ?_) (fun K hK => ?_)
    · go_simp
      refine hat.mono ?_
      rintro e w1 ⟨rfl, u1'⟩
      have u1 : Below w.heap.size w w1 := ⟨u1'.os, u1'.tape, u1'.output, u1'.size, u1'.block⟩
      have hs1 : S1c q T.nx w1 := ⟨bl_cell u1 (by exact hs0.1), bl_cell u1 (by exact hs0.1)⟩
      clear hat u1' hsA uA
      go_wp2_with fail
      refine hK.out _ _ (hs1) (fun hHeld => ?_)
      clear hK K
      (try simp only [Act.put, List.setIfInBounds_toArray, List.set_cons_zero, List.set_cons_succ])
      refine tq 8 ?_
      refine tq 9 ?_
      refine tq 10 ?_
      refine comes_up 11 rfl (by kernel_rfl) (fun K hK => ?_)
      go_simp
      have uA : Below w.heap.size w (w1.alloc (.cells #[.int .u64 0, .int .i64 0, .int .u64 0, .int .i64 0] 39)) := u1.alloc u1.size _
      have hsA : S1c q T.nx (w1.alloc (.cells #[.int .u64 0, .int .i64 0, .int .u64 0, .int .i64 0] 39)) := ⟨bl_cell uA (by exact hs0.1), bl_cell uA (by exact hs0.1)⟩
      have hBA : (w1.alloc (.cells #[.int .u64 0, .int .i64 0, .int .u64 0, .int .i64 0] 39)).heap[w1.heap.size]? = some (.cells #[.int .u64 0, .int .i64 0, .int .u64 0, .int .i64 0] 39 (0, 0)) := heap_alloc_new w1 _
      refine hK.out _ _ (hsA) (fun hHeld => ?_)
      clear hK K
      (try simp only [Act.put, List.setIfInBounds_toArray, List.set_cons_zero, List.set_cons_succ])
      refine comes_up 12 rfl (by kernel_rfl) (fun K hK => ?_)
      refine step_store_row rfl 39 (.tmp 2) (.tmp 15) rfl w1.heap.size #[.int .u64 (y.1 : Nat), .int .i64 y.2.1, .int .u64 (y.2.2.1 : Nat), .int .i64 y.2.2.2] rfl rfl 39 _ hBA infoS39 rfl (by simp [Value.oneCell']) ?_
      have uB : Below w.heap.size w ((w1.alloc (.cells #[.int .u64 0, .int .i64 0, .int .u64 0, .int .i64 0] 39)).setRow w1.heap.size #[.int .u64 (y.1 : Nat), .int .i64 y.2.1, .int .u64 (y.2.2.1 : Nat), .int .i64 y.2.2.2]) := bl_rowL uA u1.size _
      have hsB : S1c q T.nx ((w1.alloc (.cells #[.int .u64 0, .int .i64 0, .int .u64 0, .int .i64 0] 39)).setRow w1.heap.size #[.int .u64 (y.1 : Nat), .int .i64 y.2.1, .int .u64 (y.2.2.1 : Nat), .int .i64 y.2.2.2]) := ⟨bl_cell uB (by exact hs0.1), bl_cell uB (by exact hs0.1)⟩
      have hBB := setRow_heap _ w1.heap.size _ #[.int .u64 (y.1 : Nat), .int .i64 y.2.1, .int .u64 (y.2.2.1 : Nat), .int .i64 y.2.2.2] _ _ hBA
      refine hK.out _ _ (hsB) (fun hHeld => ?_)
      clear hK K
      (try simp only [Act.put, List.setIfInBounds_toArray, List.set_cons_zero, List.set_cons_succ])
      refine tq 13 ?_
      refine wpAnyH_done (by kernel_rfl) ?_ _
      refine NoPanic.normal ?_
      have HI : Hid (Cf w col Z q T a T.nx w1.heap.size ((w1.alloc (.cells #[.int .u64 0, .int .i64 0, .int .u64 0, .int .i64 0] 39)).setRow w1.heap.size #[.int .u64 (y.1 : Nat), .int .i64 y.2.1, .int .u64 (y.2.2.1 : Nat), .int .i64 y.2.2.2])) := ⟨HT.out.1.still uB, Gt.bl col uB, ⟨y, HY.out.1.symm, hBB⟩, rfl, HT.out.2.2.1, u1.size⟩
      clear hHeld hs0 hs1 hsA hsB uA uB hBA hBB u1 HY
      go_wp2_with fail
      go_meet
      exact ⟨_, rfl, rfl, HI⟩
    · go_simp
      refine hK.out _ _ (hsA) (fun hHeld => ?_)
      clear hK K
      (try simp only [Act.put, List.setIfInBounds_toArray, List.set_cons_zero, List.set_cons_succ])
      have hBA : (w.alloc (.cells #[.int .u64 0, .int .i64 0, .int .u64 0, .int .i64 0] 39)).drew.heap[w.heap.size]? = some (.cells #[.int .u64 0, .int .i64 0, .int .u64 0, .int .i64 0] 39 (0, 0)) := heap_alloc_new w _
      have hat2 := (HT.out.1.still uA).at HT.out.2.2.1
      rw [HY.out.1, HY.out.2] at hat2
      unfold lab at hat2
      refine comes_up 7 rfl (by kernel_rfl) (fun K hK => ?_)
      go_simp
      refine hat2.mono ?_
      rintro e w1 ⟨rfl, u1'⟩
      have u1 : Below w.heap.size w w1 := bl_step uA u1'
      have hs1 : S1c q T.nx w1 := ⟨bl_cell u1 (by exact hs0.1), bl_cell u1 (by exact hs0.1)⟩
      have hB1 : w1.heap[w.heap.size]? = some (.cells #[.int .u64 0, .int .i64 0, .int .u64 0, .int .i64 0] 39 (0, 0)) := (u1'.block _ (by show w.heap.size < (w.alloc _).heap.size; simp)).trans hBA
      clear hat hat2 u1' hsA uA hBA
      go_wp2_with fail
      refine hK.out _ _ (hs1) (fun hHeld => ?_)
      clear hK K
      (try simp only [Act.put, List.setIfInBounds_toArray, List.set_cons_zero, List.set_cons_succ])
      refine tq 8 ?_
      refine tq 9 ?_
      refine tq 10 ?_
      refine comes_up 12 rfl (by kernel_rfl) (fun K hK => ?_)
      refine step_store_row rfl 39 (.tmp 2) (.tmp 15) rfl w.heap.size #[.int .u64 (y.1 : Nat), .int .i64 y.2.1, .int .u64 (y.2.2.1 : Nat), .int .i64 y.2.2.2] rfl rfl 39 _ hB1 infoS39 rfl (by simp [Value.oneCell']) ?_
      have uB : Below w.heap.size w (w1.setRow w.heap.size #[.int .u64 (y.1 : Nat), .int .i64 y.2.1, .int .u64 (y.2.2.1 : Nat), .int .i64 y.2.2.2]) := bl_rowL u1 (Nat.le_refl _) _
      have hsB : S1c q T.nx (w1.setRow w.heap.size #[.int .u64 (y.1 : Nat), .int .i64 y.2.1, .int .u64 (y.2.2.1 : Nat), .int .i64 y.2.2.2]) := ⟨bl_cell uB (by exact hs0.1), bl_cell uB (by exact hs0.1)⟩
      have hBB := setRow_heap _ w.heap.size _ #[.int .u64 (y.1 : Nat), .int .i64 y.2.1, .int .u64 (y.2.2.1 : Nat), .int .i64 y.2.2.2] _ _ hB1
      refine hK.out _ _ (hsB) (fun hHeld => ?_)
      clear hK K
      (try simp only [Act.put, List.setIfInBounds_toArray, List.set_cons_zero, List.set_cons_succ])
      refine tq 13 ?_
      refine wpAnyH_done (by kernel_rfl) ?_ _
      refine NoPanic.normal ?_
      have HI : Hid (Cf w col Z q T a T.nx w.heap.size (w1.setRow w.heap.size #[.int .u64 (y.1 : Nat), .int .i64 y.2.1, .int .u64 (y.2.2.1 : Nat), .int .i64 y.2.2.2])) := ⟨HT.out.1.still uB, Gt.bl col uB, ⟨y, HY.out.1.symm, hBB⟩, rfl, HT.out.2.2.1, Nat.le_refl _⟩
      clear hHeld hs0 hs1 hsB uB hB1 hBB u1 HY
      go_wp2_with fail
      go_meet
      exact ⟨_, rfl, rfl, HI⟩
  case rest =>
    obtain ⟨g, rfl, rfl, HI⟩ := hcut
    have HRR : Hid ((atL T.ord T.nx).isSome = r) := HY.out.2
    clear hs0 hat HY
    obtain ⟨v3, hv3⟩ : ∃ v3, v3 = Value.bool r := ⟨_, rfl⟩
    rw [← hv3]
    have HV3 : Hid (v3 = .bool (atL T.ord T.nx).isSome) := by rw [HRR.out]; exact hv3
    clear hv3 HRR
    go_wp2_with fail
    go_loopw [2, 3] (fun v2 v3 wr => ∃ (p : Int) (g : Nat), v2 = .pointer (some ⟨g, 0, none⟩) ∧ Hid (v3 = .bool (atL T.ord p).isSome) ∧ Hid (Cf w col Z q T a p g wr)) (fun _ _ wr => ((T.ord.length : Int) + 1 - nxOf q wr).toNat)
    case atStart => exact ⟨T.nx, g, rfl, HV3, HI⟩
    case round =>
      obtain ⟨p, g, rfl, HV, HI⟩ := hrel
      have hv := HV.out
      clear HV
      cases hl : atL T.ord p with
      | none =>
        rw [hl] at hv
        subst hv
        have HF : Hid (LabPost w col Z q R wr) := by
          have e : R = { T with nx := p } := by rw [← HR.out]; unfold Tot.confirm; rw [← HI.out.c, conf_none hl]
          exact ⟨col, a, e ▸ HI.out.t, HI.out.gt⟩
        clear hl HI HR
        simp only [Option.isSome_none]
        go_wp2
        go_end0
        exact ⟨rfl, HF.out⟩
      | some l =>
        rw [hl] at hv
        subst hv
        simp only [Option.isSome_some]
        have hpl := atL_some hl
        have hll : OkL l := HT.out.2.2.2 l (by
          unfold atL at hl
          rw [if_neg (by omega)] at hl
          exact List.mem_of_getElem? hl)
        obtain ⟨y1, hy1, hB⟩ := HI.out.b
        rw [hl, Option.getD_some] at hy1
        subst hy1
        have hgl : g < wr.heap.size := (Array.getElem?_eq_some_iff.1 hB).1
        have ht := HI.out.t
        have hqr : q < wr.heap.size := ht.d.lt q (by rw [ht.fq]; omega)
        have hsl : a.sb < wr.heap.size := ht.d.lt a.sb (by rw [ht.d.csb]; omega)
        have hgq : g ≠ q := fun e => by have := HI.out.gn; omega
        obtain ⟨S, c1, c2⟩ := ht.d.sa
        simp only at c1 c2
        have hxS : decide (y1 ∈ S) = decide (y1 ∈ T.safe) := decide_eq_decide.2 (c2 y1)
        have hS6 : ∀ W : World, Below wr.heap.size wr W → S6c q g a.sb (.int .u64 (y1.1 : Nat)) (.int .i64 y1.2.1) (.int .u64 (y1.2.2.1 : Nat)) (.int .i64 y1.2.2.2) (decide (y1 ∈ T.safe)) W := fun W u => by
          have hc := fun j => (cell_block (o := j) (u.block g hgl)).trans (cell_of_heap hB j)
          refine ⟨(ht.still u).cell 19 (by omega), hc 0, hc 1, hc 2, hc 3, ?_⟩
          have := ((c1.of_block (w' := W) (u.block _ hsl)).look hll)
          rw [hxS] at this
          exact this
        obtain ⟨w2, hw2⟩ : ∃ w2, (wr.alloc (.cells #[] 139)).drew = w2 := ⟨_, rfl⟩
        have u2 : Below wr.heap.size wr w2 := by rw [← hw2]; exact (bl1 wr (.cells #[] 139)).drew
        have hs1 := hS6 wr.drew (Below.refl _ _).drew
        have hs2 := hS6 w2 u2
        have HW2 : Hid ((wr.alloc (.cells #[] 139)).drew = w2) := hw2
        have h2 := ht.still u2
        have hB2 : w2.heap[g]? = some (.cells #[.int .u64 (y1.1 : Nat), .int .i64 y1.2.1, .int .u64 (y1.2.2.1 : Nat), .int .i64 y1.2.2.2] 39 (0, 0)) := (u2.block g hgl).trans hB
        have G2 : Hid (Gt w col w2 col) := HI.out.gt.trans (Gt.bl col u2)
        have hgt : Hid (g ≠ q ∧ g < w2.heap.size ∧ w.heap.size ≤ w2.heap.size ∧ q < w2.heap.size) := ⟨hgq, by have := u2.size; omega, by have := u2.size; have := HI.out.gn; omega, by have := u2.size; omega⟩
        clear ht c1 c2 hS6 hw2 u2 hB hll hxS hgl hqr hsl hgq
        by_cases hin : y1 ∈ T.safe
        · rw [decide_eq_true hin] at hs1 hs2
          have HCF : Hid (conf T.ord T.safe (p + 1) = conf T.ord T.safe T.nx ∧ 1 ≤ p ∧ p ≤ (T.ord.length : Int) ∧ nxOf q wr = p) := ⟨by rw [← HI.out.c]; exact (conf_go hl hin).symm, hpl.1, hpl.2, by unfold nxOf; rw [HI.out.t.cell 13 (by omega)]; rfl⟩
          have hol := HT.out.2.1
          have hp1 : In (p + 1) := by unfold In; omega
          have hwr : IntKind.wrap .i64 (p + 1) = p + 1 := by unfold IntKind.wrap; simp [IntKind.bits, IntKind.signed]; omega
          obtain ⟨w3, hw3⟩ : ∃ w3, w2.setCell ⟨q, 13, none⟩ (.int .i64 (p + 1)) = w3 := ⟨_, rfl⟩
          have h3 : Tt w3 col Z q { T with nx := p + 1 } a := by rw [← hw3]; exact h2.setNx (p + 1)
          have G3 : Hid (Gt w col w3 col) := by rw [← hw3]; exact G2.out.trans (Gt.set (by rw [h2.fq]; omega) _)
          have HS3 : Hid (w3.heap.size = w2.heap.size) := by unfold Hid; rw [← hw3]; simp [World.setCell]
          have hB3 : w3.heap[g]? = some (.cells #[.int .u64 (y1.1 : Nat), .int .i64 y1.2.1, .int .u64 (y1.2.2.1 : Nat), .int .i64 y1.2.2.2] 39 (0, 0)) := by rw [← hw3]; exact (Below.heap_setCell _ _ _ _ hgt.out.1).trans hB2
          have c13 := h2.cell 13 (by omega)
          have f13 := h2.fr 13
          simp only [tcell] at c13
          have HW3 : Hid (w2.setCell ⟨q, 13, none⟩ (.int .i64 (p + 1)) = w3) := hw3
          have k0 : w3.cell? ⟨g, 0, none⟩ = _ := cell_of_heap hB3 0
          have k1 : w3.cell? ⟨g, 1, none⟩ = _ := cell_of_heap hB3 1
          have k2 : w3.cell? ⟨g, 2, none⟩ = _ := cell_of_heap hB3 2
          have k3 : w3.cell? ⟨g, 3, none⟩ = _ := cell_of_heap hB3 3
          simp only [List.getElem?_toArray, List.getElem?_cons_zero, List.getElem?_cons_succ] at k0 k1 k2 k3
          have hB4 : (w3.alloc (.cells #[.int .u64 0, .int .i64 0, .int .u64 0, .int .i64 0] 39)).heap[w3.heap.size]? = some (.cells #[.int .u64 0, .int .i64 0, .int .u64 0, .int .i64 0] 39 (0, 0)) := heap_alloc_new w3 _
          obtain ⟨w4, hw4⟩ : ∃ w4, (w3.alloc (.cells #[.int .u64 0, .int .i64 0, .int .u64 0, .int .i64 0] 39)).setRow w3.heap.size #[.int .u64 (y1.1 : Nat), .int .i64 y1.2.1, .int .u64 (y1.2.2.1 : Nat), .int .i64 y1.2.2.2] = w4 := ⟨_, rfl⟩
          have HW4 : Hid ((w3.alloc (.cells #[.int .u64 0, .int .i64 0, .int .u64 0, .int .i64 0] 39)).setRow w3.heap.size #[.int .u64 (y1.1 : Nat), .int .i64 y1.2.1, .int .u64 (y1.2.2.1 : Nat), .int .i64 y1.2.2.2] = w4) := hw4
          have u4 : Below w3.heap.size w3 w4 := by rw [← hw4]; exact bl_rowL (bl1 _ _) (Nat.le_refl _) _
          have hB5 : w4.heap[w3.heap.size]? = some (.cells #[.int .u64 (y1.1 : Nat), .int .i64 y1.2.1, .int .u64 (y1.2.2.1 : Nat), .int .i64 y1.2.2.2] 39 (0, 0)) := by rw [← hw4]; exact setRow_heap _ w3.heap.size _ #[.int .u64 (y1.1 : Nat), .int .i64 y1.2.1, .int .u64 (y1.2.2.1 : Nat), .int .i64 y1.2.2.2] _ _ hB4
          have h4 := h3.still u4
          have hat := (h4.still (Below.refl _ w4).drew).at hp1
          obtain ⟨z, hz⟩ : ∃ z, (atL T.ord (p + 1)).getD (0, 0, 0, 0) = z := ⟨_, rfl⟩
          simp only [hz] at hat
          obtain ⟨vb, hvb⟩ : ∃ vb, vb = Value.bool (atL T.ord (p + 1)).isSome := ⟨_, rfl⟩
          rw [← hvb] at hat
          have HZ : Hid ((atL T.ord (p + 1)).getD (0, 0, 0, 0) = z ∧ vb = Value.bool (atL T.ord (p + 1)).isSome) := ⟨hz, hvb⟩
          have hs4 : S1c q (p + 1) w4.drew := ⟨h4.cell 13 (by omega), h4.cell 13 (by omega)⟩
          have HI3 : Hid (Tt w3 col Z q { T with nx := p + 1 } a ∧ Below w3.heap.size w3 w4 ∧ w3.heap.size < w4.heap.size ∧ In (p + 1)) := ⟨h3, u4, (Array.getElem?_eq_some_iff.1 hB5).1, hp1⟩
          unfold lab at hat
          clear h2 h3 h4 hw3 hw4 hB2 hB3 u4 hz hvb hp1 hol hl hin HI G2
          go_wp2_with fail
          refine wp_region_noPanic ?_
          refine wp_region_held_drew (S := S6c q g a.sb (.int .u64 (y1.1 : Nat)) (.int .i64 y1.2.1) (.int .u64 (y1.2.2.1 : Nat)) (.int .i64 y1.2.2.2) true) (by kernel_rfl) (hs1) (fun hHeld => ?_)
          unfold S6c at hHeld
          refine tq 0 ?_
          refine tq 1 ?_
          refine tq 2 ?_
          refine tq 3 ?_
          refine tq 4 ?_
          refine tq 5 ?_
          refine tq 6 ?_
          refine tq 7 ?_
          refine tq 8 ?_
          refine comes_up 9 rfl (by kernel_rfl) (fun K hK => ?_)
          go_simp
          rw [HW2.out]
          refine hK.out _ _ (hs2) (fun hHeld => ?_)
          clear hK K
          (try simp only [Act.put, List.setIfInBounds_toArray, List.set_cons_zero, List.set_cons_succ])
          refine comes_up 10 rfl (by kernel_rfl) (fun K hK => ?_)
          go_simp
          refine hK.out _ _ (hs2) (fun hHeld => ?_)
          clear hK K
          (try simp only [Act.put, List.setIfInBounds_toArray, List.set_cons_zero, List.set_cons_succ])
          refine tq 11 ?_
          refine wpAnyH_done (by kernel_rfl) ?_ _
          refine NoPanic.normal ?_
          clear hHeld hs1 hs2
          go_upto_region 5 with fail
          go_upto_region 6 with fail
          rw [HW3.out]
          clear c13 f13 HW3 hwr
          go_upto_region 7 with fail
          clear k0 k1 k2 k3
          go_wp2_with (refine wpList_store_row rfl 39 (.tmp 2) (.tmp 47) rfl w3.heap.size #[.int .u64 (y1.1 : Nat), .int .i64 y1.2.1, .int .u64 (y1.2.2.1 : Nat), .int .i64 y1.2.2.2] rfl rfl 39 _ hB4 infoS39 rfl (by simp [Value.oneCell']) ?_)
          rw [HW4.out]
          clear HW4 hB4
          refine wp_region_noPanic ?_
          refine wp_region_held_drew (S := S1c q (p + 1)) (by kernel_rfl) (hs4) (fun hHeld => ?_)
          unfold S1c at hHeld
          refine tq 0 ?_
          refine tq 1 ?_
          refine tq 2 ?_
          refine tq 3 ?_
          refine tq 4 ?_
          refine tq 5 ?_
          refine tq 6 ?_
          refine comes_up 7 rfl (by kernel_rfl) (fun K hK => ?_)
          go_simp
          refine hat.mono ?_
          rintro e w5 ⟨rfl, u5'⟩
          have u5 : Below w4.heap.size w4 w5 := ⟨u5'.os, u5'.tape, u5'.output, u5'.size, u5'.block⟩
          have hs5 : S1c q (p + 1) w5 := ⟨bl_cell u5 (by exact hs4.1), bl_cell u5 (by exact hs4.1)⟩
          have hB6 : w5.heap[w3.heap.size]? = some (.cells #[.int .u64 (y1.1 : Nat), .int .i64 y1.2.1, .int .u64 (y1.2.2.1 : Nat), .int .i64 y1.2.2.2] 39 (0, 0)) := (u5.block _ HI3.out.2.2.1).trans hB5
          clear hat u5' hB5
          go_wp2_with fail
          refine hK.out _ _ (hs5) (fun hHeld => ?_)
          clear hK K
          (try simp only [Act.put, List.setIfInBounds_toArray, List.set_cons_zero, List.set_cons_succ])
          refine tq 8 ?_
          refine tq 9 ?_
          refine tq 10 ?_
          refine comes_up 11 rfl (by kernel_rfl) (fun K hK => ?_)
          refine step_store_row rfl 39 (.tmp 2) (.tmp 27) rfl w3.heap.size #[.int .u64 (z.1 : Nat), .int .i64 z.2.1, .int .u64 (z.2.2.1 : Nat), .int .i64 z.2.2.2] rfl rfl 39 _ hB6 infoS39 rfl (by simp [Value.oneCell']) ?_
          have u6 : Below w3.heap.size w3 (w5.setRow w3.heap.size #[.int .u64 (z.1 : Nat), .int .i64 z.2.1, .int .u64 (z.2.2.1 : Nat), .int .i64 z.2.2.2]) := bl_rowL (bl_step HI3.out.2.1 u5) (Nat.le_refl _) _
          have h6 := HI3.out.1.still u6
          have hs6 : S1c q (p + 1) (w5.setRow w3.heap.size #[.int .u64 (z.1 : Nat), .int .i64 z.2.1, .int .u64 (z.2.2.1 : Nat), .int .i64 z.2.2.2]) := ⟨h6.cell 13 (by omega), h6.cell 13 (by omega)⟩
          have hB7 := setRow_heap _ w3.heap.size _ #[.int .u64 (z.1 : Nat), .int .i64 z.2.1, .int .u64 (z.2.2.1 : Nat), .int .i64 z.2.2.2] _ _ hB6
          refine hK.out _ _ (hs6) (fun hHeld => ?_)
          clear hK K
          (try simp only [Act.put, List.setIfInBounds_toArray, List.set_cons_zero, List.set_cons_succ])
          refine tq 12 ?_
          refine wpAnyH_done (by kernel_rfl) ?_ _
          refine NoPanic.normal ?_
          have HN : Hid (Cf w col Z q T a (p + 1) w3.heap.size (w5.setRow w3.heap.size #[.int .u64 (z.1 : Nat), .int .i64 z.2.1, .int .u64 (z.2.2.1 : Nat), .int .i64 z.2.2.2])) := ⟨h6, G3.out.trans (Gt.bl col u6), ⟨z, HZ.out.1.symm, hB7⟩, HCF.out.1, HI3.out.2.2.2, by have := hgt.out; have := HS3.out; omega⟩
          have HM : Hid (nxOf q (w5.setRow w3.heap.size #[.int .u64 (z.1 : Nat), .int .i64 z.2.1, .int .u64 (z.2.2.1 : Nat), .int .i64 z.2.2.2]) = p + 1) := by unfold Hid nxOf; rw [h6.cell 13 (by omega)]; rfl
          have HZ2 : Hid (vb = Value.bool (atL T.ord (p + 1)).isSome) := HZ.out.2
          clear hHeld hs4 hs5 hs6 h6 u6 hB6 hB7 u5 HZ HI3 G3
          go_wp2
          go_roundw
          case rel => first | exact ⟨p + 1, _, rfl, HZ2, HN⟩ | ((repeat apply Exists.intro); exact ⟨⟨p + 1, _, rfl, HZ2, HN⟩, rfl⟩)
          case measure => have h1 := HM.out; have h2 := HCF.out; rw [h1, h2.2.2.2]; omega
        · rw [decide_eq_false hin] at hs1 hs2
          have HF : Hid (LabPost w col Z q R w2) := by
            have e : R = { T with nx := p } := by rw [← HR.out]; unfold Tot.confirm; rw [← HI.out.c, conf_stop hl hin]
            exact ⟨col, a, e ▸ h2, G2.out⟩
          clear h2 hB2 hl hin HI HR G2 hgt
          go_wp2_with fail
          refine wp_region_noPanic ?_
          refine wp_region_held_drew (S := S6c q g a.sb (.int .u64 (y1.1 : Nat)) (.int .i64 y1.2.1) (.int .u64 (y1.2.2.1 : Nat)) (.int .i64 y1.2.2.2) false) (by kernel_rfl) (hs1) (fun hHeld => ?_)
          unfold S6c at hHeld
          refine tq 0 ?_
          refine tq 1 ?_
          refine tq 2 ?_
          refine tq 3 ?_
          refine tq 4 ?_
          refine tq 5 ?_
          refine tq 6 ?_
          refine tq 7 ?_
          refine tq 8 ?_
          refine comes_up 9 rfl (by kernel_rfl) (fun K hK => ?_)
          go_simp
          rw [HW2.out]
          refine hK.out _ _ (hs2) (fun hHeld => ?_)
          clear hK K
          (try simp only [Act.put, List.setIfInBounds_toArray, List.set_cons_zero, List.set_cons_succ])
          refine comes_up 10 rfl (by kernel_rfl) (fun K hK => ?_)
          go_simp
          refine hK.out _ _ (hs2) (fun hHeld => ?_)
          clear hK K
          (try simp only [Act.put, List.setIfInBounds_toArray, List.set_cons_zero, List.set_cons_succ])
          refine tq 11 ?_
          refine wpAnyH_done (by kernel_rfl) ?_ _
          refine NoPanic.normal ?_
          clear hHeld hs1 hs2
          go_wp2
          refine bodyPost_ret (results_none rfl _ _ _) rfl ?_
          exact ⟨rfl, HF.out⟩
end Go.Proofs.YtlaihgdfedalmaaGreat
