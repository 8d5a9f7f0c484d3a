/-
  Package total's Take: the next message of the one order.
-/
import Derived.Test.YtlaihgdfedalmaaGreatTConf
import Derived.Test.YtlaihgdfedalmaaGreatMix2
import Derived.Test.YtlaihgdfedalmaaGreatTNext
namespace Go.Proofs.YtlaihgdfedalmaaGreat
open Go.RowKit Go.Sort Go.Conc
set_option linter.unusedVariables false
set_option linter.unusedSimpArgs false

def Tot.take (T : Tot) : Tot × Option (Int × List UInt8) :=
  if T.nx ≤ T.rep then (T, none) else match atL T.ord T.rep with
    | none => (T, none)
    | some l => match findE T.con l with
      | none => (T, none)
      | some m => ({ T with rep := T.rep + 1 }, some (l.2.2.2, m))
def TakePost (w : World) (r : Option (Int × List UInt8)) (e : Ending) (w' : World) : Prop := match r with
  | none => e = .returned (.tuple #[.agg #[.int .i64 0, .slice none 0 0], .int .i64 6])
  | some y => ∃ v, e = .returned (.tuple #[.agg #[.int .i64 y.1, v], .int .i64 0]) ∧ w'.ownsRow w.heap.size 5 1 v y.2.length (y.2.map Cd.by8)
theorem infoS61 : (Tryz.prog.info? 61).map (·.size) = some 2 := by kernel_rfl
def Sq1 (v : Value) (W : World) : Prop := v = v ∧ v = v
set_option maxRecDepth 10000 in
set_option maxHeartbeats 1000000 in
theorem take_nil (w : World) : Calls Tryz.prog 27 #[.pointer none] w fun e w' => TakePost w none e w' ∧ Below w.heap.size w w' := by
  obtain ⟨w1, hw1⟩ : ∃ w1, (w.alloc (.cells #[.int .i64 0, .slice none 0 0] 61)).drew = w1 := ⟨_, rfl⟩
  have hB : w1.heap[w.heap.size]? = some (.cells #[.int .i64 0, .slice none 0 0] 61 (0, 0)) := by rw [← hw1]; exact heap_alloc_new w (.cells #[.int .i64 0, .slice none 0 0] 61)
  have u := bl_rowL (show Below w.heap.size w w1 by rw [← hw1]; exact (bl1 w _).drew) (Nat.le_refl _) #[.int .i64 0, .slice none 0 0]
  have k0 : (w1.setRow w.heap.size #[.int .i64 0, .slice none 0 0]).cell? ⟨w.heap.size, 0, none⟩ = some (.int .i64 0) := cell_setRow_same _ _ 0 _ _ _ _ hB
  have k1 : (w1.setRow w.heap.size #[.int .i64 0, .slice none 0 0]).cell? ⟨w.heap.size, 1, none⟩ = some (.slice none 0 0) := cell_setRow_same _ _ 1 _ _ _ _ hB
  have HW1 : Hid ((w.alloc (.cells #[.int .i64 0, .slice none 0 0] 61)).drew = w1) := hw1
  have hd : Sq1 undef (w.alloc (.cells #[.int .i64 0, .slice none 0 0] 61)).drew := ⟨rfl, rfl⟩
  clear hw1
  go_enter Tryz.func27, Tryz.ntmps27
  go_wp2_with fail
  refine wp_region_noPanic ?_
  refine wp_region_held_drew (S := Sq1 undef) (by kernel_rfl) (hd) (fun hHeld => ?_)
  unfold Sq1 at hHeld
  refine tq 0 ?_
  refine tq 1 ?_
  refine tq 2 ?_
  refine tqS 3 ?_
  refine tqS 4 ?_
  refine tqS 5 ?_
  refine tqS 6 ?_
  refine tqS 7 ?_
  refine tqS 8 ?_
  refine tqS 9 ?_
  refine tqS 10 ?_
  refine tqS 11 ?_
  refine tq 12 ?_
  refine wpAnyH_done (by kernel_rfl) ?_ _
  refine NoPanic.normal ?_
  rw [HW1.out]
  clear hHeld hd
  go_wp2_with (refine wpList_store_row rfl 61 (.tmp 2) (.tmp 21) rfl w.heap.size #[.int .i64 0, .slice none 0 0] rfl rfl 61 _ hB infoS61 rfl (by simp [Value.oneCell']) ?_)
  refine bodyPost_ret (v := .tuple #[.agg #[.int .i64 0, .slice none 0 0], .int .i64 6]) ?_ rfl ⟨rfl, u⟩
  simp [results, Tryz.results27, go_sem, k0, k1]
def S2t (q : Nat) (v14 v13 : Value) (W : World) : Prop := W.cell? ⟨q, 14, none⟩ = some v14 ∧ W.cell? ⟨q, 13, none⟩ = some v13
set_option maxRecDepth 10000 in
set_option maxHeartbeats 1000000 in
theorem take_late (w : World) (q : Nat) (r n : Int) (hrn : n ≤ r) (h : S2t q (.int .i64 r) (.int .i64 n) w) : Calls Tryz.prog 27 #[.pointer (some ⟨q, 0, none⟩)] w fun e w' => TakePost w none e w' ∧ Below w.heap.size w w' := by
  have ua := bl1 w (.cells #[.int .i64 0, .slice none 0 0] 61)
  have hs0 : S2t q (.int .i64 r) (.int .i64 n) (w.alloc (.cells #[.int .i64 0, .slice none 0 0] 61)).drew := ⟨bl_cell ua h.1, bl_cell ua h.2⟩
  obtain ⟨w1, hw1⟩ : ∃ w1, (w.alloc (.cells #[.int .i64 0, .slice none 0 0] 61)).drew = w1 := ⟨_, rfl⟩
  have hB : w1.heap[w.heap.size]? = some (.cells #[.int .i64 0, .slice none 0 0] 61 (0, 0)) := by rw [← hw1]; exact heap_alloc_new w (.cells #[.int .i64 0, .slice none 0 0] 61)
  have u := bl_rowL (show Below w.heap.size w w1 by rw [← hw1]; exact ua.drew) (Nat.le_refl _) #[.int .i64 0, .slice none 0 0]
  have k0 : (w1.setRow w.heap.size #[.int .i64 0, .slice none 0 0]).cell? ⟨w.heap.size, 0, none⟩ = some (.int .i64 0) := cell_setRow_same _ _ 0 _ _ _ _ hB
  have k1 : (w1.setRow w.heap.size #[.int .i64 0, .slice none 0 0]).cell? ⟨w.heap.size, 1, none⟩ = some (.slice none 0 0) := cell_setRow_same _ _ 1 _ _ _ _ hB
  have HW1 : Hid ((w.alloc (.cells #[.int .i64 0, .slice none 0 0] 61)).drew = w1) := hw1
  clear h ua hw1
  go_enter Tryz.func27, Tryz.ntmps27
  go_wp2_with fail
  refine wp_region_noPanic ?_
  refine wp_region_held_drew (S := S2t q (.int .i64 r) (.int .i64 n)) (by kernel_rfl) (hs0) (fun hHeld => ?_)
  unfold S2t at hHeld
  refine tq 0 ?_
  refine tq 1 ?_
  refine tq 2 ?_
  refine tq 3 ?_
  refine tq 4 ?_
  refine tq 5 ?_
  refine tq 6 ?_
  refine tq 7 ?_
  refine tq 8 ?_
  refine tq 9 ?_
  refine tq 10 ?_
  refine tq 11 ?_
  refine tq 12 ?_
  refine wpAnyH_done (by kernel_rfl) ?_ _
  refine NoPanic.normal ?_
  rw [HW1.out]
  clear hHeld hs0
  go_wp2_with (refine wpList_store_row rfl 61 (.tmp 2) (.tmp 21) rfl w.heap.size #[.int .i64 0, .slice none 0 0] rfl rfl 61 _ hB infoS61 rfl (by simp [Value.oneCell']) ?_)
  refine bodyPost_ret (v := .tuple #[.agg #[.int .i64 0, .slice none 0 0], .int .i64 6]) ?_ rfl ⟨rfl, u⟩
  simp [results, Tryz.results27, go_sem, k0, k1]
theorem Tt.setRep {w : World} {col : Nat → Nat} {Z : Nat → Prop} {q : Nat} {T : Tot} {a : Ta} (h : Tt w col Z q T a) (p : Int) : Tt (w.setCell ⟨q, 14, none⟩ (.int .i64 p)) col Z q { T with rep := p } a :=
  h.setc 14 _ (fun j hj => by unfold tcell; split <;> simp_all) (by omega) (fun W d => ⟨d.ch, d.con, d.am, d.sa, d.bu, d.od, d.tl, d.cc, d.ccb, d.cab, d.csb, d.cbv, d.cov, d.ctv, d.lt, d.zf, d.zl⟩)
theorem Tt.row {w : World} {col : Nat → Nat} {Z : Nat → Prop} {q : Nat} {T : Tot} {a : Ta} (h : Tt w col Z q T a) {g : Nat} (hc : col g = 0) (hz : ¬ Z g) (cs : Array Value) : Tt (w.setRow g cs) col Z q T a :=
  h.frame (fun b hb => setRow_other _ _ _ _ (fun e => by have e' : b = g := (by first | exact e | exact e.symm); rw [e', hc] at hb; omega)) (by simp) (fun ad v hza hv => by
    rw [World.cell?_of_block (w := w) (setRow_other _ _ _ _ (fun e => by have e' : ad.block = g := (by first | exact e | exact e.symm); rw [e'] at hza; exact hz hza))]
    exact hv) (fun _ e => e) h.d.zf (fun b e => by have := h.d.zl b e; simpa using this)
def S6k (q B cb : Nat) (b0 b1 b2 b3 s : Value) (r : Bool) (W : World) : Prop := W.cell? ⟨q, 10, none⟩ = some (.map (some cb)) ∧ W.cell? ⟨B, 0, none⟩ = some b0 ∧ W.cell? ⟨B, 1, none⟩ = some b1 ∧ W.cell? ⟨B, 2, none⟩ = some b2 ∧ W.cell? ⟨B, 3, none⟩ = some b3 ∧ (Instr.lookup 95 (.map (some cb)) (.agg #[b0, b1, b2, b3]) true).run Tryz.prog W = .ok (.tuple #[s, .bool r]) W
def S1k (B : Nat) (v : Value) (W : World) : Prop := W.cell? ⟨B, 3, none⟩ = some v ∧ W.cell? ⟨B, 3, none⟩ = some v
def S1r (q : Nat) (p : Int) (W : World) : Prop := W.cell? ⟨q, 14, none⟩ = some (.int .i64 p) ∧ W.cell? ⟨q, 14, none⟩ = some (.int .i64 p)
/-- Behind the look at the order: the label in a box. -/
structure Tc (w1 : World) (y : Lb) (g : Nat) (wx : World) : Prop where
  u : Below w1.heap.size w1 wx
  b : wx.heap[g]? = some (.cells #[.int .u64 (y.1 : Nat), .int .i64 y.2.1, .int .u64 (y.2.2.1 : Nat), .int .i64 y.2.2.2] 39 (0, 0))
  g : w1.heap.size ≤ g
theorem okL_zero : OkL (0, 0, 0, 0) := by unfold OkL In; simp
theorem atL_mem {ord : List Lb} {p : Int} {l : Lb} (h : atL ord p = some l) : l ∈ ord := by
  unfold atL at h
  split at h
  · cases h
  · exact List.mem_of_getElem? h
set_option maxRecDepth 10000 in
set_option maxHeartbeats 4000000 in
theorem take_some {w : World} {col : Nat → Nat} {Z : Nat → Prop} {q : Nat} {T : Tot} {a : Ta} (h : Tt w col Z q T a) (hol : T.ord.length ≤ 5000) (ho : ∀ x ∈ T.ord, OkL x) (hrep : In T.rep) (hml : ∀ e ∈ T.con, e.2.length ≤ 140737488355328) (hlt : T.rep < T.nx) :
    Calls Tryz.prog 27 #[.pointer (some ⟨q, 0, none⟩)] w fun e w' => TakePost w T.take.2 e w' ∧ Stp w col Z q T.take.1 w' := by
  have hql : q < w.heap.size := h.d.lt q (by rw [h.fq]; omega)
  have hcl : a.cb < w.heap.size := h.d.lt a.cb (by rw [h.d.ccb]; omega)
  obtain ⟨R, hR⟩ : ∃ R, T.take = R := ⟨_, rfl⟩
  have HR : Hid (T.take = R) := hR
  rw [hR]
  obtain ⟨y, hy⟩ : ∃ y, (atL T.ord T.rep).getD (0, 0, 0, 0) = y := ⟨_, rfl⟩
  obtain ⟨r, hr⟩ : ∃ r, (atL T.ord T.rep).isSome = r := ⟨_, rfl⟩
  have hyo : OkL y := by
    rw [← hy]
    cases hl : atL T.ord T.rep with
    | none => exact okL_zero
    | some l => exact ho l (atL_mem hl)
  obtain ⟨m, hS, hC, hZ⟩ := h.d.con
  obtain ⟨kn, hkn⟩ : ∃ kn, (m y).isSome = kn := ⟨_, rfl⟩
  obtain ⟨⟨s0, s1, s2⟩, hs⟩ : ∃ s : Sv, (m y).getD (none, 0, 0) = s := ⟨_, rfl⟩
  obtain ⟨w1, hw1⟩ : ∃ w1, (w.alloc (.cells #[.int .i64 0, .slice none 0 0] 61)).drew = w1 := ⟨_, rfl⟩
  have u1 : Below w.heap.size w w1 := by rw [← hw1]; exact (bl1 w _).drew
  have s1' : w1.heap.size = w.heap.size + 1 := by rw [← hw1]; show (w.alloc _).heap.size = _; simp
  have hB1 : w1.heap[w.heap.size]? = some (.cells #[.int .i64 0, .slice none 0 0] 61 (0, 0)) := by rw [← hw1]; exact heap_alloc_new w (.cells #[.int .i64 0, .slice none 0 0] 61)
  have HW1 : Hid ((w.alloc (.cells #[.int .i64 0, .slice none 0 0] 61)).drew = w1) := hw1
  have h1 := h.still u1
  have hsA : S2t q (.int .i64 T.rep) (.int .i64 T.nx) (w.alloc (.cells #[.int .i64 0, .slice none 0 0] 61)).drew := by rw [hw1]; exact ⟨h1.cell 14 (by omega), h1.cell 13 (by omega)⟩
  have hs0 : S1r q T.rep w1.drew := ⟨h1.cell 14 (by omega), h1.cell 14 (by omega)⟩
  have HT : Hid (Tt w col Z q T a ∧ Below w.heap.size w w1 ∧ w1.heap.size = w.heap.size + 1 ∧ w1.heap[w.heap.size]? = some (.cells #[.int .i64 0, .slice none 0 0] 61 (0, 0)) ∧ In T.rep ∧ T.ord.length ≤ 5000 ∧ T.rep < T.nx) := ⟨h, u1, s1', hB1, hrep, hol, hlt⟩
  have HY : Hid ((atL T.ord T.rep).getD (0, 0, 0, 0) = y ∧ (atL T.ord T.rep).isSome = r) := ⟨hy, hr⟩
  have HC : Hid (StoIs w a.cb T.K m ∧ Con w m T.con ∧ (∀ x s, OkL x → m x = some s → ∀ ad, s.1 = some ad → 0 < s.2.1 → Z ad.block) ∧ OkL y ∧ (m y).isSome = kn ∧ (m y).getD (none, 0, 0) = (s0, s1, s2) ∧ ∀ e ∈ T.con, e.2.length ≤ 140737488355328) := ⟨hS, hC, hZ, hyo, hkn, hs, hml⟩
  have hat := (h1.still (Below.refl _ w1).drew).at hrep
  rw [hy, hr] at hat
  unfold lab at hat
  have hlt' : ¬ T.nx ≤ T.rep := by omega
  clear h hR hy hr hyo hS hC hZ hkn hs hw1 u1 s1' hB1 h1 hml ho hol hrep
  go_enter Tryz.func27, Tryz.ntmps27
  go_wp2_with fail
  refine wp_region_noPanic ?_
  refine wp_region_held_drew (S := S2t q (.int .i64 T.rep) (.int .i64 T.nx)) (by kernel_rfl) (hsA) (fun hHeld => ?_)
  unfold S2t at hHeld
  refine tq 0 ?_
  refine tq 1 ?_
  refine tq 2 ?_
  refine tq 3 ?_
  refine tq 4 ?_
  refine tq 5 ?_
  refine tq 6 ?_
  refine tq 7 ?_
  refine tq 8 ?_
  refine tq 9 ?_
  refine tq 10 ?_
  refine tq 11 ?_
  refine tq 12 ?_
  refine wpAnyH_done (by kernel_rfl) ?_ _
  refine NoPanic.normal ?_
  rw [HW1.out]
  clear hHeld hsA HW1
  go_upto_region 3 with fail
  clear hlt hlt'
  go_cut [4, 5] from 22 to 32 (fun v4 v5 wx => ∃ g : Nat, v4 = .pointer (some ⟨g, 0, none⟩) ∧ v5 = .bool r ∧ Hid (Tc w1 y g wx))
  case first =>
    refine wp_region_noPanic ?_
    refine wp_region_held_drew (S := S1r q T.rep) (by kernel_rfl) (hs0) (fun hHeld => ?_)
    unfold S1r at hHeld
    refine tq 0 ?_
    refine tq 1 ?_
    refine tq 2 ?_
    refine tq 3 ?_
    refine tq 4 ?_
    refine tq 5 ?_
    refine tq 6 ?_
    have uA : Below w1.heap.size w1 (w1.alloc (.cells #[.int .u64 0, .int .i64 0, .int .u64 0, .int .i64 0] 39)).drew := (bl1 _ _).drew
    have hsA : S1r q T.rep (w1.alloc (.cells #[.int .u64 0, .int .i64 0, .int .u64 0, .int .i64 0] 39)).drew := ⟨bl_cell (w := w1) uA (by exact hs0.1), bl_cell (w := w1) uA (by exact hs0.1)⟩
    refine comes_up2 7 11 rfl rfl (by kernel_rfl) (fun K hK => ?_) (fun K hK => ?_)
    · go_simp
      refine hat.mono ?_
      rintro e w2 ⟨rfl, u2'⟩
      have u2 : Below w1.heap.size w1 w2 := ⟨u2'.os, u2'.tape, u2'.output, u2'.size, u2'.block⟩
      have hs1 : S1r q T.rep w2 := ⟨bl_cell u2 (by exact hs0.1), bl_cell u2 (by exact hs0.1)⟩
      clear hat u2' hsA uA
      go_wp2_with fail
      refine hK.out _ _ (hs1) (fun hHeld => ?_)
      clear hK K
      (try simp only [Act.put, List.setIfInBounds_toArray, List.set_cons_zero, List.set_cons_succ])
      refine tq 8 ?_
      refine tq 9 ?_
      refine tq 10 ?_
      refine comes_up 11 rfl (by kernel_rfl) (fun K hK => ?_)
      go_simp
      have uA : Below w1.heap.size w1 (w2.alloc (.cells #[.int .u64 0, .int .i64 0, .int .u64 0, .int .i64 0] 39)) := u2.alloc u2.size _
      have hsA : S1r q T.rep (w2.alloc (.cells #[.int .u64 0, .int .i64 0, .int .u64 0, .int .i64 0] 39)) := ⟨bl_cell uA (by exact hs0.1), bl_cell uA (by exact hs0.1)⟩
      have hBA : (w2.alloc (.cells #[.int .u64 0, .int .i64 0, .int .u64 0, .int .i64 0] 39)).heap[w2.heap.size]? = some (.cells #[.int .u64 0, .int .i64 0, .int .u64 0, .int .i64 0] 39 (0, 0)) := heap_alloc_new w2 _
      refine hK.out _ _ (hsA) (fun hHeld => ?_)
      clear hK K
      (try simp only [Act.put, List.setIfInBounds_toArray, List.set_cons_zero, List.set_cons_succ])
      refine comes_up 12 rfl (by kernel_rfl) (fun K hK => ?_)
      refine step_store_row rfl 39 (.tmp 4) (.tmp 31) rfl w2.heap.size #[.int .u64 (y.1 : Nat), .int .i64 y.2.1, .int .u64 (y.2.2.1 : Nat), .int .i64 y.2.2.2] rfl rfl 39 _ hBA infoS39 rfl (by simp [Value.oneCell']) ?_
      have uB : Below w1.heap.size w1 ((w2.alloc (.cells #[.int .u64 0, .int .i64 0, .int .u64 0, .int .i64 0] 39)).setRow w2.heap.size #[.int .u64 (y.1 : Nat), .int .i64 y.2.1, .int .u64 (y.2.2.1 : Nat), .int .i64 y.2.2.2]) := bl_rowL uA u2.size _
      have hsB : S1r q T.rep ((w2.alloc (.cells #[.int .u64 0, .int .i64 0, .int .u64 0, .int .i64 0] 39)).setRow w2.heap.size #[.int .u64 (y.1 : Nat), .int .i64 y.2.1, .int .u64 (y.2.2.1 : Nat), .int .i64 y.2.2.2]) := ⟨bl_cell uB (by exact hs0.1), bl_cell uB (by exact hs0.1)⟩
      have hBB := setRow_heap _ w2.heap.size _ #[.int .u64 (y.1 : Nat), .int .i64 y.2.1, .int .u64 (y.2.2.1 : Nat), .int .i64 y.2.2.2] _ _ hBA
      refine hK.out _ _ (hsB) (fun hHeld => ?_)
      clear hK K
      (try simp only [Act.put, List.setIfInBounds_toArray, List.set_cons_zero, List.set_cons_succ])
      refine tq 13 ?_
      refine wpAnyH_done (by kernel_rfl) ?_ _
      refine NoPanic.normal ?_
      have HI : Hid (Tc w1 y w2.heap.size ((w2.alloc (.cells #[.int .u64 0, .int .i64 0, .int .u64 0, .int .i64 0] 39)).setRow w2.heap.size #[.int .u64 (y.1 : Nat), .int .i64 y.2.1, .int .u64 (y.2.2.1 : Nat), .int .i64 y.2.2.2])) := ⟨uB, hBB, u2.size⟩
      clear hHeld hs0 hs1 hsA hsB uA uB hBA hBB u2
      go_wp2_with fail
      go_meet
      exact ⟨_, rfl, rfl, HI⟩
    · go_simp
      refine hK.out _ _ (hsA) (fun hHeld => ?_)
      clear hK K
      (try simp only [Act.put, List.setIfInBounds_toArray, List.set_cons_zero, List.set_cons_succ])
      have hBA : (w1.alloc (.cells #[.int .u64 0, .int .i64 0, .int .u64 0, .int .i64 0] 39)).drew.heap[w1.heap.size]? = some (.cells #[.int .u64 0, .int .i64 0, .int .u64 0, .int .i64 0] 39 (0, 0)) := heap_alloc_new w1 _
      have hat2 := ((HT.out.1.still HT.out.2.1).still uA).at HT.out.2.2.2.2.1
      rw [HY.out.1, HY.out.2] at hat2
      unfold lab at hat2
      refine comes_up 7 rfl (by kernel_rfl) (fun K hK => ?_)
      go_simp
      refine hat2.mono ?_
      rintro e w2 ⟨rfl, u2'⟩
      have u2 : Below w1.heap.size w1 w2 := bl_step uA u2'
      have hs1 : S1r q T.rep w2 := ⟨bl_cell u2 (by exact hs0.1), bl_cell u2 (by exact hs0.1)⟩
      have hB1 : w2.heap[w1.heap.size]? = some (.cells #[.int .u64 0, .int .i64 0, .int .u64 0, .int .i64 0] 39 (0, 0)) := (u2'.block _ (by show w1.heap.size < (w1.alloc _).heap.size; simp)).trans hBA
      clear hat hat2 u2' hsA uA hBA
      go_wp2_with fail
      refine hK.out _ _ (hs1) (fun hHeld => ?_)
      clear hK K
      (try simp only [Act.put, List.setIfInBounds_toArray, List.set_cons_zero, List.set_cons_succ])
      refine tq 8 ?_
      refine tq 9 ?_
      refine tq 10 ?_
      refine comes_up 12 rfl (by kernel_rfl) (fun K hK => ?_)
      refine step_store_row rfl 39 (.tmp 4) (.tmp 31) rfl w1.heap.size #[.int .u64 (y.1 : Nat), .int .i64 y.2.1, .int .u64 (y.2.2.1 : Nat), .int .i64 y.2.2.2] rfl rfl 39 _ hB1 infoS39 rfl (by simp [Value.oneCell']) ?_
      have uB : Below w1.heap.size w1 (w2.setRow w1.heap.size #[.int .u64 (y.1 : Nat), .int .i64 y.2.1, .int .u64 (y.2.2.1 : Nat), .int .i64 y.2.2.2]) := bl_rowL u2 (Nat.le_refl _) _
      have hsB : S1r q T.rep (w2.setRow w1.heap.size #[.int .u64 (y.1 : Nat), .int .i64 y.2.1, .int .u64 (y.2.2.1 : Nat), .int .i64 y.2.2.2]) := ⟨bl_cell uB (by exact hs0.1), bl_cell uB (by exact hs0.1)⟩
      have hBB := setRow_heap _ w1.heap.size _ #[.int .u64 (y.1 : Nat), .int .i64 y.2.1, .int .u64 (y.2.2.1 : Nat), .int .i64 y.2.2.2] _ _ hB1
      refine hK.out _ _ (hsB) (fun hHeld => ?_)
      clear hK K
      (try simp only [Act.put, List.setIfInBounds_toArray, List.set_cons_zero, List.set_cons_succ])
      refine tq 13 ?_
      refine wpAnyH_done (by kernel_rfl) ?_ _
      refine NoPanic.normal ?_
      have HI : Hid (Tc w1 y w1.heap.size (w2.setRow w1.heap.size #[.int .u64 (y.1 : Nat), .int .i64 y.2.1, .int .u64 (y.2.2.1 : Nat), .int .i64 y.2.2.2])) := ⟨uB, hBB, Nat.le_refl _⟩
      clear hHeld hs0 hs1 hsB uB hB1 hBB u2
      go_wp2_with fail
      go_meet
      exact ⟨_, rfl, rfl, HI⟩
  case rest =>
    obtain ⟨g, rfl, rfl, HI⟩ := hcut
    clear hs0 hat
    obtain ⟨w3, hw3⟩ : ∃ w3, wc.drew = w3 := ⟨_, rfl⟩
    have u3 : Below w1.heap.size w1 w3 := by rw [← hw3]; exact HI.out.u.drew
    have hB3 : w3.heap[g]? = some (.cells #[.int .u64 (y.1 : Nat), .int .i64 y.2.1, .int .u64 (y.2.2.1 : Nat), .int .i64 y.2.2.2] 39 (0, 0)) := by rw [← hw3]; exact HI.out.b
    have uw := bl_step HT.out.2.1 u3
    have h3 := HT.out.1.still uw
    have hc := fun j => cell_of_heap hB3 j
    have hS3 : S6k q g a.cb (.int .u64 (y.1 : Nat)) (.int .i64 y.2.1) (.int .u64 (y.2.2.1 : Nat)) (.int .i64 y.2.2.2) (.slice s0 s1 s2) kn w3 := by
      refine ⟨h3.cell 10 (by omega), hc 0, hc 1, hc 2, hc 3, ?_⟩
      have := (HC.out.1.of_block (w' := w3) (uw.block _ hcl)).look HC.out.2.2.2.1
      rw [HC.out.2.2.2.2.1, HC.out.2.2.2.2.2.1] at this
      exact this
    have hg := HI.out.g
    have hr3 : w3.heap[w.heap.size]? = some (.cells #[.int .i64 0, .slice none 0 0] 61 (0, 0)) := (u3.block _ (by have := HT.out.2.2.1; omega)).trans HT.out.2.2.2.1
    have H3 : Hid (Below w.heap.size w w3 ∧ w3.heap[g]? = some (.cells #[.int .u64 (y.1 : Nat), .int .i64 y.2.1, .int .u64 (y.2.2.1 : Nat), .int .i64 y.2.2.2] 39 (0, 0)) ∧ w.heap.size < g ∧ Tt w3 col Z q T a) := ⟨uw, hB3, by have := HT.out.2.2.1; omega, h3⟩
    have HW3 : Hid (wc.drew = w3) := hw3
    have hS3' : S6k q g a.cb (.int .u64 (y.1 : Nat)) (.int .i64 y.2.1) (.int .u64 (y.2.2.1 : Nat)) (.int .i64 y.2.2.2) (.slice s0 s1 s2) kn wc.drew := by rw [hw3]; exact hS3
    clear hw3 u3 hB3 uw h3 hc hg hS3
    go_wp2_with fail
    refine wp_region_noPanic ?_
    refine wp_region_held_drew (S := S6k q g a.cb (.int .u64 (y.1 : Nat)) (.int .i64 y.2.1) (.int .u64 (y.2.2.1 : Nat)) (.int .i64 y.2.2.2) (.slice s0 s1 s2) kn) (by kernel_rfl) (hS3') (fun hHeld => ?_)
    unfold S6k at hHeld
    refine tq 0 ?_
    refine tq 1 ?_
    refine tq 2 ?_
    refine tq 3 ?_
    refine tq 4 ?_
    refine tq 5 ?_
    refine tq 6 ?_
    refine tq 7 ?_
    refine tq 8 ?_
    refine tq 9 ?_
    refine tq 10 ?_
    refine wpAnyH_done (by kernel_rfl) ?_ _
    refine NoPanic.normal ?_
    rw [HW3.out]
    clear hHeld hS3' HW3
    by_cases hfound : r = true ∧ kn = true
    · obtain ⟨rfl, rfl⟩ := hfound
      obtain ⟨l, hl⟩ := Option.isSome_iff_exists.1 HY.out.2
      have hly : l = y := by have := HY.out.1; rw [hl] at this; exact this
      subst hly
      obtain ⟨s', hs'⟩ := Option.isSome_iff_exists.1 HC.out.2.2.2.2.1
      have hse : s' = (s0, s1, s2) := by have := HC.out.2.2.2.2.2.1; rw [hs'] at this; exact this
      rw [hse] at hs'
      obtain ⟨bs, hfb, hrow⟩ := HC.out.2.1.2.2.2 l _ HC.out.2.2.2.1 hs'
      have hzz := HC.out.2.2.1 l _ HC.out.2.2.2.1 hs'
      have hRe : R = ({ T with rep := T.rep + 1 }, some (l.2.2.2, bs)) := by
        rw [← HR.out]
        unfold Tot.take
        rw [if_neg (by have := HT.out.2.2.2.2.2.2; omega), hl]
        simp only
        rw [hfb]
      have hpl := atL_some hl
      have hlen := HT.out.2.2.2.2.2.1
      have hwr : IntKind.wrap .i64 (T.rep + 1) = T.rep + 1 := by unfold IntKind.wrap; simp [IntKind.bits, IntKind.signed]; omega
      have h3 := H3.out.2.2.2
      have c14 := h3.cell 14 (by omega)
      have f14 := h3.fr 14
      simp only [tcell] at c14
      obtain ⟨w4, hw4⟩ : ∃ w4, w3.setCell ⟨q, 14, none⟩ (.int .i64 (T.rep + 1)) = w4 := ⟨_, rfl⟩
      have HW4 : Hid (w3.setCell ⟨q, 14, none⟩ (.int .i64 (T.rep + 1)) = w4) := hw4
      have h4 : Tt w4 col Z q { T with rep := T.rep + 1 } a := by rw [← hw4]; exact h3.setRep _
      have G4 : Gt w col w4 col := by rw [← hw4]; exact (Gt.bl col H3.out.1).trans (Gt.set (by rw [h3.fq]; omega) _)
      have s4 : w4.heap.size = w3.heap.size := by rw [← hw4]; simp [World.setCell]
      have hgq : g ≠ q := by have := H3.out.2.2.1; omega
      have hB4 : w4.heap[g]? = some (.cells #[.int .u64 (l.1 : Nat), .int .i64 l.2.1, .int .u64 (l.2.2.1 : Nat), .int .i64 l.2.2.2] 39 (0, 0)) := by rw [← hw4]; exact (Below.heap_setCell _ _ _ _ hgq).trans H3.out.2.1
      have hr4 : w4.heap[w.heap.size]? = some (.cells #[.int .i64 0, .slice none 0 0] 61 (0, 0)) := by rw [← hw4]; exact (Below.heap_setCell _ _ _ _ (show w.heap.size ≠ q by omega)).trans hr3
      have hgw : Hid (w.heap.size < g) := H3.out.2.2.1
      have hs4 : S1k g (.int .i64 l.2.2.2) w4.drew := ⟨cell_of_heap (w := w4) hB4 3, cell_of_heap (w := w4) hB4 3⟩
      have hrow4 : Cd.Row w4.drew s0 s1 s2 bs := row_kp hrow hzz (G4.turned.kp (fun b hz e => by have := HT.out.1.d.zf b hz; omega))
      have hcn := bclone_any w4.drew s0 s1 s2 bs hrow4 (by have h1 : bs.length = s1 := hrow.1; have h2 : bs.length ≤ 140737488355328 := HC.out.2.2.2.2.2.2 (l, bs) (find_mem hfb); omega)
      have H4 : Hid (Tt w4 col Z q { T with rep := T.rep + 1 } a ∧ Gt w col w4 col ∧ w4.heap[w.heap.size]? = some (.cells #[.int .i64 0, .slice none 0 0] 61 (0, 0)) ∧ w4.heap.size = w3.heap.size ∧ R = ({ T with rep := T.rep + 1 }, some (l.2.2.2, bs)) ∧ w.heap.size < w3.heap.size) := ⟨h4, G4, hr4, s4, hRe, by have := H3.out.2.2.1; have := (Array.getElem?_eq_some_iff.1 H3.out.2.1).1; omega⟩
      clear hl hs' hse hfb hrow hzz hRe hpl hlen h3 hw4 h4 G4 s4 hgq hB4 hr4 hrow4 hr3 H3 HI HR HY HC
      go_upto_region 8 with fail
      rw [HW4.out]
      clear c14 f14 hwr HW4
      refine wp_region_noPanic ?_
      refine wp_region_held_drew (S := S1k g (.int .i64 l.2.2.2)) (by kernel_rfl) (hs4) (fun hHeld => ?_)
      unfold S1k at hHeld
      refine tq 0 ?_
      refine tq 1 ?_
      refine tq 2 ?_
      refine comes_up 3 rfl (by kernel_rfl) (fun K hK => ?_)
      go_simp
      refine hcn.mono ?_
      rintro e w5 ⟨v5, rfl, ho5, u5'⟩
      have u5 : Below w4.heap.size w4 w5 := ⟨u5'.os, u5'.tape, u5'.output, u5'.size, u5'.block⟩
      have hs5 : S1k g (.int .i64 l.2.2.2) w5 := ⟨bl_cell u5 (by exact hs4.1), bl_cell u5 (by exact hs4.1)⟩
      have hB5 : w5.heap[w.heap.size]? = some (.cells #[.int .i64 0, .slice none 0 0] 61 (0, 0)) := (u5.block _ (by have := H4.out; omega)).trans H4.out.2.2.1
      obtain ⟨o5, q5, rfl⟩ := own_shape ho5
      clear hcn u5'
      go_wp2_with fail
      refine hK.out _ _ (hs5) (fun hHeld => ?_)
      clear hK K
      (try simp only [Act.put, List.setIfInBounds_toArray, List.set_cons_zero, List.set_cons_succ])
      refine tq 4 ?_
      refine comes_up 5 rfl (by kernel_rfl) (fun K hK => ?_)
      refine step_store_row rfl 61 (.tmp 2) (.tmp 60) rfl w.heap.size #[.int .i64 l.2.2.2, .slice o5 bs.length q5] rfl rfl 61 _ hB5 infoS61 rfl (by simp [Value.oneCell']) ?_
      have hs6 : S1k g (.int .i64 l.2.2.2) (w5.setRow w.heap.size #[.int .i64 l.2.2.2, .slice o5 bs.length q5]) := by
        have e6 : (w5.setRow w.heap.size #[.int .i64 l.2.2.2, .slice o5 bs.length q5]).heap[g]? = w5.heap[g]? := setRow_other _ _ _ _ (by first | exact Nat.ne_of_gt hgw.out | exact Nat.ne_of_lt hgw.out)
        exact ⟨(cell_block e6).trans hs5.1, (cell_block e6).trans hs5.1⟩
      refine hK.out _ _ (hs6) (fun hHeld => ?_)
      clear hK K
      (try simp only [Act.put, List.setIfInBounds_toArray, List.set_cons_zero, List.set_cons_succ])
      refine tq 6 ?_
      refine wpAnyH_done (by kernel_rfl) ?_ _
      refine NoPanic.normal ?_
      have k0 : (w5.setRow w.heap.size #[.int .i64 l.2.2.2, .slice o5 bs.length q5]).cell? ⟨w.heap.size, 0, none⟩ = some (.int .i64 l.2.2.2) := cell_setRow_same _ _ 0 _ _ _ _ hB5
      have k1 : (w5.setRow w.heap.size #[.int .i64 l.2.2.2, .slice o5 bs.length q5]).cell? ⟨w.heap.size, 1, none⟩ = some (.slice o5 bs.length q5) := cell_setRow_same _ _ 1 _ _ _ _ hB5
      have HF : Hid (TakePost w R.2 (.returned (.tuple #[.agg #[.int .i64 l.2.2.2, .slice o5 bs.length q5], .int .i64 0])) (w5.setRow w.heap.size #[.int .i64 l.2.2.2, .slice o5 bs.length q5]) ∧ Stp w col Z q R.1 (w5.setRow w.heap.size #[.int .i64 l.2.2.2, .slice o5 bs.length q5])) := by
        obtain ⟨h4, G4, hr4, s4, hRe, hsz⟩ := H4.out
        rw [hRe]
        have hl5 := ho5.lt
        have hd4 : w4.drew.heap.size = w4.heap.size := rfl
        refine ⟨⟨_, rfl, own_mono (own_row ho5 _ (fun k e => by have := (hl5 k e).1; omega)) (by omega)⟩, col, Z, a, (h4.still u5).row ?_ ?_ _, ?_, fun _ e => e, fun _ e => .inl e⟩
        · by_cases hc : col w.heap.size = 0
          · exact hc
          · have := HT.out.1.d.lt w.heap.size (by omega); omega
        · intro hz
          have := HT.out.1.d.zl _ hz
          omega
        · refine ⟨((G4.turned.trans (Turned.of_below (F := fun _ => False) u5) (fun i e => False.elim e))).trans (Turned.of_grown (F := fun k => k = w.heap.size) (Go.Proofs.YtlaihgdfedalmaaGreat.T.gr_setRow w5 w.heap.size _) (fun k e => by cases e; rfl)) (fun i e => .inr (by omega)), fun b hb => .inl hb⟩
      clear hHeld hs4 hs5 hs6 hB5 ho5 u5 H4 HT
      go_wp2_with fail
      refine bodyPost_ret (v := .tuple #[.agg #[.int .i64 l.2.2.2, .slice o5 bs.length q5], .int .i64 0]) ?_ rfl HF.out
      simp [results, Tryz.results27, go_sem, k0, k1]
    · have hRe : R = (T, none) := by
        rw [← HR.out]
        unfold Tot.take
        rw [if_neg (by have := HT.out.2.2.2.2.2.2; omega)]
        cases hl : atL T.ord T.rep with
        | none => rfl
        | some l =>
          simp only
          have hly : l = y := by have := HY.out.1; rw [hl] at this; exact this
          subst hly
          have hr1 : r = true := by rw [← HY.out.2, hl]; rfl
          have hk1 : kn = false := by
            cases hk : kn with
            | false => rfl
            | true => exact absurd ⟨hr1, hk⟩ hfound
          have hmn : m l = none := by
            have := HC.out.2.2.2.2.1
            rw [hk1] at this
            cases hm : m l with
            | none => rfl
            | some s => rw [hm] at this; cases this
          rw [HC.out.2.1.2.2.1 l HC.out.2.2.2.1 hmn]
      have k0 : (w3.setRow w.heap.size #[.int .i64 0, .slice none 0 0]).cell? ⟨w.heap.size, 0, none⟩ = some (.int .i64 0) := cell_setRow_same _ _ 0 _ _ _ _ hr3
      have k1 : (w3.setRow w.heap.size #[.int .i64 0, .slice none 0 0]).cell? ⟨w.heap.size, 1, none⟩ = some (.slice none 0 0) := cell_setRow_same _ _ 1 _ _ _ _ hr3
      have HF : Hid (TakePost w R.2 (.returned (.tuple #[.agg #[.int .i64 0, .slice none 0 0], .int .i64 6])) (w3.setRow w.heap.size #[.int .i64 0, .slice none 0 0]) ∧ Stp w col Z q R.1 (w3.setRow w.heap.size #[.int .i64 0, .slice none 0 0])) := by
        rw [hRe]
        exact ⟨rfl, Stp.still HT.out.1 (bl_rowL H3.out.1 (Nat.le_refl _) _)⟩
      clear hRe HR HY HC H3 HI HT
      have hrk : (r = true → kn = false) := fun e => by
        cases hk : kn with
        | false => rfl
        | true => exact absurd ⟨e, hk⟩ hfound
      clear hfound
      cases r with
      | false =>
        clear hrk
        go_wp2_with (refine wpList_store_row rfl 61 (.tmp 2) (.tmp 48) rfl w.heap.size #[.int .i64 0, .slice none 0 0] rfl rfl 61 _ hr3 infoS61 rfl (by simp [Value.oneCell']) ?_)
        refine bodyPost_ret (v := .tuple #[.agg #[.int .i64 0, .slice none 0 0], .int .i64 6]) ?_ rfl HF.out
        simp [results, Tryz.results27, go_sem, k0, k1]
      | true =>
        obtain rfl := hrk rfl
        clear hrk
        go_wp2_with (refine wpList_store_row rfl 61 (.tmp 2) (.tmp 48) rfl w.heap.size #[.int .i64 0, .slice none 0 0] rfl rfl 61 _ hr3 infoS61 rfl (by simp [Value.oneCell']) ?_)
        refine bodyPost_ret (v := .tuple #[.agg #[.int .i64 0, .slice none 0 0], .int .i64 6]) ?_ rfl HF.out
        simp [results, Tryz.results27, go_sem, k0, k1]
theorem take_any {w : World} {col : Nat → Nat} {Z : Nat → Prop} {q : Nat} {T : Tot} {a : Ta} (h : Tt w col Z q T a) (hol : T.ord.length ≤ 5000) (ho : ∀ x ∈ T.ord, OkL x) (hrep : In T.rep) (hml : ∀ e ∈ T.con, e.2.length ≤ 140737488355328) :
    Calls Tryz.prog 27 #[.pointer (some ⟨q, 0, none⟩)] w fun e w' => TakePost w T.take.2 e w' ∧ Stp w col Z q T.take.1 w' := by
  by_cases hlt : T.rep < T.nx
  · exact take_some h hol ho hrep hml hlt
  · have e : T.take = (T, none) := by unfold Tot.take; rw [if_pos (by omega)]
    rw [e]
    refine (take_late w q T.rep T.nx (by omega) ⟨h.cell 14 (by omega), h.cell 13 (by omega)⟩).mono ?_
    rintro e w' ⟨hp, u⟩
    exact ⟨hp, Stp.still h u⟩
end Go.Proofs.YtlaihgdfedalmaaGreat
