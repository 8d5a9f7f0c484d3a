/-
  Package total's Recv: a message of the view is received.
-/
import Derived.Test.YtlaihgdfedalmaaGreatTRead
import Derived.Test.YtlaihgdfedalmaaGreatTHear
namespace Go.Proofs.YtlaihgdfedalmaaGreat
open Go.RowKit Go.Sort Go.Conc
set_option linter.unusedVariables false
set_option linter.unusedSimpArgs false

/-- What a message holds: nothing that counts. -/
def RdErr (w : World) (E : Int) (e : Ending) (w' : World) : Prop := ∃ kd x m c o nx hn hp, e = .returned (.tuple #[.int .u8 kd, ent x (sv m), .agg #[sv c, sv o, .int .i64 nx, .int .u64 (hn : Int), .int .i64 hp], .int .i64 E]) ∧ Below w.heap.size w w'
/-- One message with its label, in new memory. -/
def RdOne (w : World) (x : Lb) (bs : List UInt8) (e : Ending) (w' : World) : Prop := ∃ (m c o : Sv) (nx hn hp : Int), e = .returned (.tuple #[.int .u8 1, ent x (sv m), .agg #[sv c, sv o, .int .i64 nx, .int .u64 hn, .int .i64 hp], .int .i64 0]) ∧ Below w.heap.size w w' ∧ Cd.Row w' m.1 m.2.1 m.2.2 bs ∧ ∀ ad, m.1 = some ad → 0 < m.2.1 → w.heap.size ≤ ad.block ∧ ad.block < w'.heap.size
/-- A summary, in new memory. -/
def RdAll (w : World) (t : Pt) (e : Ending) (w' : World) : Prop := ∃ (x : Lb) (m : Sv) (ca : Option Addr) (cc : Nat) (oa : Option Addr) (oc : Nat), e = .returned (.tuple #[.int .u8 2, ent x (sv m), .agg #[.slice ca t.es.length cc, .slice oa t.ls.length oc, .int .i64 t.nx, .int .u64 (t.hn : Nat), .int .i64 t.hp], .int .i64 0]) ∧ Below w.heap.size w w' ∧ Fx (fun k => w.heap.size ≤ k ∧ k < w'.heap.size) w' (t, (ca, cc), (oa, oc))
def Tot.gotOne (T : Tot) (x : Lb) (bs : List UInt8) : Tot := if T.prim then ({ T with con := mstep T.con (x, bs), K := T.K + 1 } : Tot).putO x else { T with con := mstep T.con (x, bs), K := T.K + 1 }
def Tot.gotAll (T : Tot) (t : Pt) : Tot × Int := if ∃ y ∈ T.told, y.node = t.node then (T, 8) else ((T.heard t).settle, 0)
set_option maxRecDepth 10000 in
set_option maxHeartbeats 1000000 in
theorem recv_err (w : World) (q : Value) (f : Int) (ao : Option Addr) (n cap : Nat) (E : Int) (hE : E ≠ 0) (hr : Calls Tryz.prog 57 #[q, .int .i64 f, .slice ao n cap] w (RdErr w E)) : Calls Tryz.prog 23 #[q, .int .i64 f, .slice ao n cap] w fun e w' => e = .returned (.int .i64 E) ∧ Below w.heap.size w w' := by
  have e1 : (E != 0) = true := by simp [hE]
  go_enter Tryz.func23, Tryz.ntmps23
  go_wp2_with fail
  refine hr.mono ?_
  rintro e w1 ⟨kd, x, ⟨m0, m1, m2⟩, ⟨c0, c1, c2⟩, ⟨o0, o1, o2⟩, nx, hn, hp, rfl, u⟩
  obtain ⟨a1, a2, u2⟩ := read_rows w1 _ (Below.refl _ _)
  obtain ⟨b2, f1, f2⟩ := read_fin _ _ a1 a2 #[.int .u64 (x.1 : Nat), .int .i64 x.2.1, .int .u64 (x.2.2.1 : Nat), .int .i64 x.2.2.2, .slice m0 m1 m2] #[.slice c0 c1 c2, .slice o0 o1 o2, .int .i64 nx, .int .u64 hn, .int .i64 hp]
  have uf := bl_rowL (bl_rowL (bl_step u u2) u.size #[.int .u64 (x.1 : Nat), .int .i64 x.2.1, .int .u64 (x.2.2.1 : Nat), .int .i64 x.2.2.2, .slice m0 m1 m2]) (Nat.le_trans u.size (Nat.le_succ _)) #[.slice c0 c1 c2, .slice o0 o1 o2, .int .i64 nx, .int .u64 hn, .int .i64 hp]
  clear hr f1 f2 a2 u2 u hE
  unfold ent sv
  go_wp2_with (first | (refine wpList_store_row rfl 41 (.tmp 8) (.tmp 17) rfl w1.heap.size #[.int .u64 (x.1 : Nat), .int .i64 x.2.1, .int .u64 (x.2.2.1 : Nat), .int .i64 x.2.2.2, .slice m0 m1 m2] rfl rfl 41 _ a1 infoS41 rfl (by simp [Value.oneCell']) ?_) | (refine wpList_store_row rfl 45 (.tmp 9) (.tmp 18) rfl (w1.heap.size + 1) #[.slice c0 c1 c2, .slice o0 o1 o2, .int .i64 nx, .int .u64 hn, .int .i64 hp] rfl rfl 45 _ b2 infoS38 rfl (by simp [Value.oneCell']) ?_))
  go_ret
  exact ⟨rfl, uf⟩
/-- Where the answer of read was laid. -/
structure Lay (w w4 : World) (g : Nat) (r1 r2 : Array Value) : Prop where
  u : Below w.heap.size w w4
  gl : w.heap.size ≤ g
  b1 : w4.heap[g]? = some (.cells r1 41 (0, 0))
  b2 : w4.heap[g + 1]? = some (.cells r2 45 (0, 0))
theorem lay_of {w w1 : World} (u : Below w.heap.size w w1) (r1 r2 : Array Value) : ((w1.alloc (.cells #[.int .u64 0, .int .i64 0, .int .u64 0, .int .i64 0, .slice none 0 0] 41)).alloc (.cells #[.slice none 0 0, .slice none 0 0, .int .i64 0, .int .u64 0, .int .i64 0] 45)).heap[w1.heap.size]? = some (.cells #[.int .u64 0, .int .i64 0, .int .u64 0, .int .i64 0, .slice none 0 0] 41 (0, 0)) ∧ (((w1.alloc (.cells #[.int .u64 0, .int .i64 0, .int .u64 0, .int .i64 0, .slice none 0 0] 41)).alloc (.cells #[.slice none 0 0, .slice none 0 0, .int .i64 0, .int .u64 0, .int .i64 0] 45)).setRow w1.heap.size r1).heap[w1.heap.size + 1]? = some (.cells #[.slice none 0 0, .slice none 0 0, .int .i64 0, .int .u64 0, .int .i64 0] 45 (0, 0)) ∧ Lay w ((((w1.alloc (.cells #[.int .u64 0, .int .i64 0, .int .u64 0, .int .i64 0, .slice none 0 0] 41)).alloc (.cells #[.slice none 0 0, .slice none 0 0, .int .i64 0, .int .u64 0, .int .i64 0] 45)).setRow w1.heap.size r1).setRow (w1.heap.size + 1) r2) w1.heap.size r1 r2 ∧ Below w1.heap.size w1 ((((w1.alloc (.cells #[.int .u64 0, .int .i64 0, .int .u64 0, .int .i64 0, .slice none 0 0] 41)).alloc (.cells #[.slice none 0 0, .slice none 0 0, .int .i64 0, .int .u64 0, .int .i64 0] 45)).setRow w1.heap.size r1).setRow (w1.heap.size + 1) r2) := by
  obtain ⟨a1, a2, u2⟩ := read_rows w1 _ (Below.refl _ _)
  obtain ⟨b2, f1, f2⟩ := read_fin _ _ a1 a2 r1 r2
  have uu := bl_rowL (bl_rowL u2 (Nat.le_refl _) r1) (Nat.le_succ _) r2
  refine ⟨a1, b2, ⟨bl_step u uu, u.size, ?_, setRow_heap _ _ _ r2 _ _ b2⟩, uu⟩
  rw [setRow_other _ _ _ _ (by omega)]
  exact setRow_heap _ _ _ r1 _ _ a1
def S5r (B : Nat) (b0 b1 b2 b3 : Value) (W : World) : Prop := W.cell? ⟨B, 0, none⟩ = some b0 ∧ W.cell? ⟨B, 1, none⟩ = some b1 ∧ W.cell? ⟨B, 2, none⟩ = some b2 ∧ W.cell? ⟨B, 3, none⟩ = some b3
set_option maxRecDepth 10000 in
set_option maxHeartbeats 4000000 in
theorem recv_one {w : World} {col : Nat → Nat} {Z : Nat → Prop} {q : Nat} {T : Tot} {a : Ta} (h : Tt w col Z q T a) (hn : Tn T) (hK : T.K + 2 < 1000000) (hol : T.ord.length ≤ 4999) (f : Int) (ao : Option Addr) (n cap : Nat) (x : Lb) (hx : OkL x) (bs : List UInt8) (hr : Calls Tryz.prog 57 #[.pointer (some ⟨q, 0, none⟩), .int .i64 f, .slice ao n cap] w (RdOne w x bs)) :
    Calls Tryz.prog 23 #[.pointer (some ⟨q, 0, none⟩), .int .i64 f, .slice ao n cap] w fun e w' => e = .returned (.int .i64 0) ∧ Stp w col Z q (T.gotOne x bs) w' := by
  have HT : Hid (Tt w col Z q T a ∧ Tn T ∧ T.K + 2 < 1000000 ∧ T.ord.length ≤ 4999 ∧ OkL x) := ⟨h, hn, hK, hol, hx⟩
  clear h hn hK hol hx
  go_enter Tryz.func23, Tryz.ntmps23
  go_wp2_with fail
  refine hr.mono ?_
  rintro e w1 ⟨⟨m0, m1, m2⟩, ⟨c0, c1, c2⟩, ⟨o0, o1, o2⟩, nx, hn, hp, rfl, u, hrow, hloc⟩
  obtain ⟨a1, b2, hL, u14⟩ := lay_of u #[.int .u64 (x.1 : Nat), .int .i64 x.2.1, .int .u64 (x.2.2.1 : Nat), .int .i64 x.2.2.2, .slice m0 m1 m2] #[.slice c0 c1 c2, .slice o0 o1 o2, .int .i64 nx, .int .u64 hn, .int .i64 hp]
  obtain ⟨w4, hw4⟩ : ∃ w4, ((((w1.alloc (.cells #[.int .u64 0, .int .i64 0, .int .u64 0, .int .i64 0, .slice none 0 0] 41)).alloc (.cells #[.slice none 0 0, .slice none 0 0, .int .i64 0, .int .u64 0, .int .i64 0] 45)).setRow w1.heap.size #[.int .u64 (x.1 : Nat), .int .i64 x.2.1, .int .u64 (x.2.2.1 : Nat), .int .i64 x.2.2.2, .slice m0 m1 m2]).setRow (w1.heap.size + 1) #[.slice c0 c1 c2, .slice o0 o1 o2, .int .i64 nx, .int .u64 hn, .int .i64 hp]) = w4 := ⟨_, rfl⟩
  have HW4 : Hid (((((w1.alloc (.cells #[.int .u64 0, .int .i64 0, .int .u64 0, .int .i64 0, .slice none 0 0] 41)).alloc (.cells #[.slice none 0 0, .slice none 0 0, .int .i64 0, .int .u64 0, .int .i64 0] 45)).setRow w1.heap.size #[.int .u64 (x.1 : Nat), .int .i64 x.2.1, .int .u64 (x.2.2.1 : Nat), .int .i64 x.2.2.2, .slice m0 m1 m2]).setRow (w1.heap.size + 1) #[.slice c0 c1 c2, .slice o0 o1 o2, .int .i64 nx, .int .u64 hn, .int .i64 hp]) = w4) := hw4
  rw [hw4] at hL u14
  obtain ⟨Z2, hZ2⟩ : ∃ Z2 : Nat → Prop, (fun k => Z k ∨ (w.heap.size ≤ k ∧ k < w1.heap.size)) = Z2 := ⟨_, rfl⟩
  have h1 : Tt w1 col Z2 q T a := by rw [← hZ2]; exact HT.out.1.more u
  have HZ : Hid ((∀ b, Z b → Z2 b) ∧ ∀ b, Z2 b → Z b ∨ w.heap.size ≤ b) := by rw [← hZ2]; exact ⟨fun _ e => .inl e, fun _ e => e.imp id (fun e => e.1)⟩
  have hm1 : Mg Z2 w1 (m0, m1, m2) bs := ⟨hrow, fun ad e hn => by rw [← hZ2]; exact .inr (hloc ad e hn)⟩
  have h4 := (h1.still u14).still (Below.refl _ w4).drew
  have hm4 : Mg Z2 w4.drew (m0, m1, m2) bs := hm1.kp (Kp.bl u14.drew) (fun _ e => e)
  have hgl : w1.heap.size < w4.heap.size := (Array.getElem?_eq_some_iff.1 hL.b1).1
  have hBr := hL.b1
  have G4 : Gt w col w4.drew col := Gt.bl col hL.u.drew
  obtain ⟨m, hS, hC, hZm⟩ := h4.d.con
  have hput := put_any w4.drew a.cb T.K m hS (by have := HT.out.2.2.1; unfold maxLen; omega) x HT.out.2.2.2.2 (m0, m1, m2)
  unfold ent sv at hput
  simp only at hput
  have hgq : w1.heap.size ≠ q := fun e => by have := h1.d.lt q (by rw [h1.fq]; omega); omega
  have hgc : w1.heap.size ≠ a.cb := fun e => by have := h1.d.lt a.cb (by rw [h1.d.ccb]; omega); omega
  have hqc : q ≠ a.cb := fun e => by have h1 := h4.fq; have h2 := h4.d.ccb; rw [← e] at h2; omega
  have hql4 : q < w4.drew.heap.size := h4.d.lt q (by rw [h4.fq]; omega)
  have HS6 : Hid (∀ W : World, W.heap[q]? = w4.heap[q]? → W.heap[w1.heap.size]? = w4.heap[w1.heap.size]? → S6t q 10 w1.heap.size (.map (some a.cb)) (.int .u64 (x.1 : Nat)) (.int .i64 x.2.1) (.int .u64 (x.2.2.1 : Nat)) (.int .i64 x.2.2.2) (.slice m0 m1 m2) W) := fun W e1 e2 => by
    have hb : ∀ j, W.cell? ⟨w1.heap.size, j, none⟩ = (#[.int .u64 (x.1 : Nat), .int .i64 x.2.1, .int .u64 (x.2.2.1 : Nat), .int .i64 x.2.2.2, .slice m0 m1 m2] : Array Value)[j]? := fun j => (cell_block e2).trans (cell_of_heap hBr j)
    exact ⟨(cell_block e1).trans (h4.cell 10 (by omega)), hb 0, hb 1, hb 2, hb 3, hb 4⟩
  have s6 := HS6.out w4.drew rfl rfl
  have H4 : Hid (Tt w4.drew col Z2 q T a ∧ Mg Z2 w4.drew (m0, m1, m2) bs ∧ Gt w col w4.drew col ∧ q < w4.drew.heap.size ∧ w1.heap.size < w4.heap.size ∧ (Con w4.drew m T.con ∧ ∀ x s, OkL x → m x = some s → ∀ ad, s.1 = some ad → 0 < s.2.1 → Z2 ad.block)) := ⟨h4, hm4, G4, hql4, hgl, hC, hZm⟩
  have hne : Hid (w1.heap.size ≠ q ∧ w1.heap.size ≠ a.cb ∧ q ≠ a.cb) := ⟨hgq, hgc, hqc⟩
  have HU1 : Hid (w.heap.size ≤ w1.heap.size) := u.size
  clear hr hrow hloc u hL u14 hw4 hZ2 h1 hm1 h4 hm4 hgl hBr G4 hS hC hZm hgq hgc hqc hql4
  unfold ent sv
  go_wp2_with (first | (refine wpList_store_row rfl 41 (.tmp 8) (.tmp 17) rfl w1.heap.size #[.int .u64 (x.1 : Nat), .int .i64 x.2.1, .int .u64 (x.2.2.1 : Nat), .int .i64 x.2.2.2, .slice m0 m1 m2] rfl rfl 41 _ a1 infoS41 rfl (by simp [Value.oneCell']) ?_) | (refine wpList_store_row rfl 45 (.tmp 9) (.tmp 18) rfl (w1.heap.size + 1) #[.slice c0 c1 c2, .slice o0 o1 o2, .int .i64 nx, .int .u64 hn, .int .i64 hp] rfl rfl 45 _ b2 infoS38 rfl (by simp [Value.oneCell']) ?_; rw [HW4.out]))
  clear a1 b2 HW4
  refine wp_region_noPanic ?_
  refine wp_region_held_drew (S := S6t q 10 w1.heap.size (.map (some a.cb)) (.int .u64 (x.1 : Nat)) (.int .i64 x.2.1) (.int .u64 (x.2.2.1 : Nat)) (.int .i64 x.2.2.2) (.slice m0 m1 m2)) (by kernel_rfl) (s6) (fun hHeld => ?_)
  unfold S6t at hHeld
  refine tq 0 ?_
  refine tq 1 ?_
  refine tq 2 ?_
  refine tq 3 ?_
  refine tq 4 ?_
  refine comes_up 5 rfl (by kernel_rfl) (fun K hK => ?_)
  go_simp
  refine hput.mono ?_
  rintro e w5 ⟨rfl, hS5, g5⟩
  clear hput
  have hq5 : w5.heap[q]? = w4.heap[q]? := g5.block q H4.out.2.2.2.1 (by simp; exact hne.out.2.2)
  have hb5 : w5.heap[w1.heap.size]? = w4.heap[w1.heap.size]? := g5.block w1.heap.size H4.out.2.2.2.2.1 (by simp; exact hne.out.2.1)
  go_wp2_with fail
  refine hK.out _ _ ((HS6.out w5 hq5 hb5)) (fun hHeld => ?_)
  clear hK K
  (try simp only [Act.put, List.setIfInBounds_toArray, List.set_cons_zero, List.set_cons_succ])
  refine wpAnyH_done (by kernel_rfl) ?_ _
  refine NoPanic.normal ?_
  have s55 := HS6.out w5 hq5 hb5
  have h5 : Tt w5 col Z2 q { T with con := mstep T.con (x, bs), K := T.K + 1 } a := H4.out.1.putC (w' := w5) H4.out.2.2.2.2.2 HT.out.2.2.2.2 H4.out.2.1 hS5 g5
  have G5 : Gt w col w5 col := H4.out.2.2.1.trans (Gt.gr (col := col) g5 (fun k e => by cases e; rw [H4.out.1.d.ccb]; omega))
  have hgl5 : w1.heap.size < w5.heap.size := by have := g5.size; have := H4.out.2.2.2.2.1; have : w4.drew.heap.size = w4.heap.size := rfl; omega
  have hpr := prim_any h5 ⟨HT.out.2.1.n, HT.out.2.1.self, HT.out.2.1.vn, HT.out.2.1.vp, HT.out.2.1.vs, HT.out.2.1.st, by have := HT.out.2.2.1; show T.K + 1 ≤ 1000000; omega⟩
  have hpe : ({ T with con := mstep T.con (x, bs), K := T.K + 1 } : Tot).prim = T.prim := rfl
  rw [hpe] at hpr
  obtain ⟨b, hb⟩ : ∃ b, T.prim = b := ⟨_, rfl⟩
  rw [hb] at hpr
  have HB : Hid (T.prim = b) := hb
  have H5 : Hid (Tt w5 col Z2 q { T with con := mstep T.con (x, bs), K := T.K + 1 } a ∧ Gt w col w5 col ∧ w1.heap.size < w5.heap.size ∧ S6t q 10 w1.heap.size (.map (some a.cb)) (.int .u64 (x.1 : Nat)) (.int .i64 x.2.1) (.int .u64 (x.2.2.1 : Nat)) (.int .i64 x.2.2.2) (.slice m0 m1 m2) w5) := ⟨h5, G5, hgl5, s55⟩
  clear hHeld HS6 s6 H4 hS5 g5 hq5 hb5 h5 G5 hgl5 hpe hb s55
  go_wp2_with fail
  refine hpr.mono ?_
  rintro e w6 ⟨rfl, k6, hk6⟩
  have u6 : Below w5.heap.size w5 w6 := by rw [hk6]; exact ⟨rfl, rfl, rfl, Nat.le_refl _, fun _ _ => rfl⟩
  clear hpr hk6
  cases b with
  | false =>
    have HF : Hid (Stp w col Z q (T.gotOne x bs) w6) := by
      have e : T.gotOne x bs = { T with con := mstep T.con (x, bs), K := T.K + 1 } := by unfold Tot.gotOne; rw [HB.out]; rfl
      rw [e]
      exact ⟨col, Z2, a, H5.out.1.still u6, H5.out.2.1.trans (Gt.bl col u6), HZ.out.1, HZ.out.2⟩
    clear H5 HB HZ HT u6 hne HU1
    go_wp2
    go_ret
    exact ⟨rfl, HF.out⟩
  | true =>
    have h6 := H5.out.1.still (show Below w5.heap.size w5 w6.drew from u6.drew)
    have hpl := putL_any w6.drew col Z2 q _ a h6 x HT.out.2.2.2.2 (by have := HT.out.2.2.1; show T.K + 1 < 1000000; omega) HT.out.2.2.2.1
    have s6 : S5r w1.heap.size (.int .u64 (x.1 : Nat)) (.int .i64 x.2.1) (.int .u64 (x.2.2.1 : Nat)) (.int .i64 x.2.2.2) w6.drew := by
      obtain ⟨_, p0, p1, p2, p3, _⟩ := H5.out.2.2.2
      have uu : Below w5.heap.size w5 w6.drew := u6.drew
      exact ⟨bl_cell uu p0, bl_cell uu p1, bl_cell uu p2, bl_cell uu p3⟩
    have H6 : Hid (Gt w col w6.drew col ∧ w1.heap.size < w6.heap.size ∧ Tt w6.drew col Z2 q { T with con := mstep T.con (x, bs), K := T.K + 1 } a) := ⟨H5.out.2.1.trans (Gt.bl col u6.drew), by have := u6.size; have := H5.out.2.2.1; omega, h6⟩
    unfold lab at hpl
    clear h6 H5 u6
    go_wp2_with fail
    refine wp_region_noPanic ?_
    refine wp_region_held_drew (S := S5r w1.heap.size (.int .u64 (x.1 : Nat)) (.int .i64 x.2.1) (.int .u64 (x.2.2.1 : Nat)) (.int .i64 x.2.2.2)) (by kernel_rfl) (s6) (fun hHeld => ?_)
    unfold S5r at hHeld
    refine tq 0 ?_
    refine tq 1 ?_
    refine tq 2 ?_
    refine tq 3 ?_
    refine tq 4 ?_
    refine comes_up 5 rfl (by kernel_rfl) (fun K hK => ?_)
    go_simp
    refine hpl.mono ?_
    rintro e w7 ⟨rfl, c7, a7, h7, g7⟩
    have hb7 : w7.heap[w1.heap.size]? = w6.drew.heap[w1.heap.size]? := g7.turned.block _ H6.out.2.1 (fun hc => by have := HT.out.1.d.lt _ hc; have := HU1.out; omega)
    have s7 : S5r w1.heap.size (.int .u64 (x.1 : Nat)) (.int .i64 x.2.1) (.int .u64 (x.2.2.1 : Nat)) (.int .i64 x.2.2.2) w7 := ⟨(cell_block hb7).trans s6.1, (cell_block hb7).trans s6.2.1, (cell_block hb7).trans s6.2.2.1, (cell_block hb7).trans s6.2.2.2⟩
    clear hpl hb7
    go_wp2_with fail
    refine hK.out _ _ (s7) (fun hHeld => ?_)
    clear hK K
    (try simp only [Act.put, List.setIfInBounds_toArray, List.set_cons_zero, List.set_cons_succ])
    refine wpAnyH_done (by kernel_rfl) ?_ _
    refine NoPanic.normal ?_
    have HF : Hid (Stp w col Z q (T.gotOne x bs) w7) := by
      have e : T.gotOne x bs = ({ T with con := mstep T.con (x, bs), K := T.K + 1 } : Tot).putO x := by unfold Tot.gotOne; rw [HB.out]; rfl
      rw [e]
      exact ⟨c7, Z2, a7, h7, H6.out.1.trans g7, HZ.out.1, HZ.out.2⟩
    clear hHeld s6 s7 H6 HB HZ HT h7 g7 hne HU1
    go_wp2
    go_ret
    exact ⟨rfl, HF.out⟩
set_option maxRecDepth 10000 in
set_option maxHeartbeats 4000000 in
theorem recv_all {w : World} {col : Nat → Nat} {Z : Nat → Prop} {q : Nat} {T : Tot} {a : Ta} (h : Tt w col Z q T a) (t : Pt) (hok : ∀ e ∈ t.es, OkL e.1) (hn : Tn (T.heard t)) (hb : Tb (T.told ++ [t])) (htl : T.told.length ≤ 4999) (ao : Option Addr) (n cap : Nat) (hr : Calls Tryz.prog 57 #[.pointer (some ⟨q, 0, none⟩), .int .i64 t.node, .slice ao n cap] w (RdAll w t)) :
    Calls Tryz.prog 23 #[.pointer (some ⟨q, 0, none⟩), .int .i64 t.node, .slice ao n cap] w fun e w' => e = .returned (.int .i64 (T.gotAll t).2) ∧ Stp w col Z q (T.gotAll t).1 w' := by
  have HT : Hid (Tt w col Z q T a ∧ (∀ e ∈ t.es, OkL e.1) ∧ Tn (T.heard t) ∧ Tb (T.told ++ [t]) ∧ T.told.length ≤ 4999) := ⟨h, hok, hn, hb, htl⟩
  clear h hok hn hb htl
  go_enter Tryz.func23, Tryz.ntmps23
  go_wp2_with fail
  refine hr.mono ?_
  rintro e w1 ⟨x, ⟨m0, m1, m2⟩, ca, cc, oa, oc, rfl, u, hfx⟩
  obtain ⟨a1, b2, hL, u14⟩ := lay_of u #[.int .u64 (x.1 : Nat), .int .i64 x.2.1, .int .u64 (x.2.2.1 : Nat), .int .i64 x.2.2.2, .slice m0 m1 m2] #[.slice ca t.es.length cc, .slice oa t.ls.length oc, .int .i64 t.nx, .int .u64 (t.hn : Nat), .int .i64 t.hp]
  obtain ⟨w4, hw4⟩ : ∃ w4, ((((w1.alloc (.cells #[.int .u64 0, .int .i64 0, .int .u64 0, .int .i64 0, .slice none 0 0] 41)).alloc (.cells #[.slice none 0 0, .slice none 0 0, .int .i64 0, .int .u64 0, .int .i64 0] 45)).setRow w1.heap.size #[.int .u64 (x.1 : Nat), .int .i64 x.2.1, .int .u64 (x.2.2.1 : Nat), .int .i64 x.2.2.2, .slice m0 m1 m2]).setRow (w1.heap.size + 1) #[.slice ca t.es.length cc, .slice oa t.ls.length oc, .int .i64 t.nx, .int .u64 (t.hn : Nat), .int .i64 t.hp]) = w4 := ⟨_, rfl⟩
  have HW4 : Hid (((((w1.alloc (.cells #[.int .u64 0, .int .i64 0, .int .u64 0, .int .i64 0, .slice none 0 0] 41)).alloc (.cells #[.slice none 0 0, .slice none 0 0, .int .i64 0, .int .u64 0, .int .i64 0] 45)).setRow w1.heap.size #[.int .u64 (x.1 : Nat), .int .i64 x.2.1, .int .u64 (x.2.2.1 : Nat), .int .i64 x.2.2.2, .slice m0 m1 m2]).setRow (w1.heap.size + 1) #[.slice ca t.es.length cc, .slice oa t.ls.length oc, .int .i64 t.nx, .int .u64 (t.hn : Nat), .int .i64 t.hp]) = w4) := hw4
  rw [hw4] at hL u14
  obtain ⟨Z2, hZ2⟩ : ∃ Z2 : Nat → Prop, (fun k => Z k ∨ (w.heap.size ≤ k ∧ k < w1.heap.size)) = Z2 := ⟨_, rfl⟩
  have h1 : Tt w1 col Z2 q T a := by rw [← hZ2]; exact HT.out.1.more u
  have HZ : Hid ((∀ b, Z b → Z2 b) ∧ ∀ b, Z2 b → Z b ∨ w.heap.size ≤ b) := by rw [← hZ2]; exact ⟨fun _ e => .inl e, fun _ e => e.imp id (fun e => e.1)⟩
  have hf4 : Fx Z2 w4 (t, (ca, cc), (oa, oc)) := (hfx.kp (Kp.bl u14)).mono (fun k e => by rw [← hZ2]; exact .inr e)
  have hhe := hear_any (h1.still u14) (t, (ca, cc), (oa, oc)) hf4 HT.out.2.1 HT.out.2.2.1 HT.out.2.2.2.1 HT.out.2.2.2.2
  unfold tval at hhe
  simp only at hhe
  have k0 := cell_of_heap hL.b2 0
  have k1 := cell_of_heap hL.b2 1
  have k2 := cell_of_heap hL.b2 2
  have k3 := cell_of_heap hL.b2 3
  have k4 := cell_of_heap hL.b2 4
  simp only [List.getElem?_toArray, List.getElem?_cons_zero, List.getElem?_cons_succ] at k0 k1 k2 k3 k4
  have G4 : Hid (Gt w col w4 col) := Gt.bl col hL.u
  have HU1 : Hid (w.heap.size ≤ w4.heap.size) := hL.u.size
  clear hr hfx u hL u14 hw4 hZ2 h1 hf4
  unfold ent sv
  go_wp2_with (first | (refine wpList_store_row rfl 41 (.tmp 8) (.tmp 17) rfl w1.heap.size #[.int .u64 (x.1 : Nat), .int .i64 x.2.1, .int .u64 (x.2.2.1 : Nat), .int .i64 x.2.2.2, .slice m0 m1 m2] rfl rfl 41 _ a1 infoS41 rfl (by simp [Value.oneCell']) ?_) | (refine wpList_store_row rfl 45 (.tmp 9) (.tmp 18) rfl (w1.heap.size + 1) #[.slice ca t.es.length cc, .slice oa t.ls.length oc, .int .i64 t.nx, .int .u64 (t.hn : Nat), .int .i64 t.hp] rfl rfl 45 _ b2 infoS38 rfl (by simp [Value.oneCell']) ?_; rw [HW4.out]) | (refine wpList_load_S rfl (.tmp 9) rfl (w1.heap.size + 1) 0 rfl _ _ _ _ _ k0 k1 k2 k3 k4 ?_))
  clear a1 b2 HW4 k0 k1 k2 k3 k4
  refine hhe.mono ?_
  intro e w5 hp
  have HF : Hid (∃ r : Int, e = .returned (.int .i64 r) ∧ r = (T.gotAll t).2 ∧ Stp w col Z q (T.gotAll t).1 w5) := by
    unfold Tot.gotAll
    by_cases hc : ∃ y ∈ T.told, y.node = t.node
    · rw [if_pos hc] at hp ⊢
      obtain ⟨rfl, c, ar, p1, p2⟩ := hp
      exact ⟨8, rfl, rfl, c, Z2, ar, p1, G4.out.trans p2, HZ.out.1, HZ.out.2⟩
    · rw [if_neg hc] at hp ⊢
      obtain ⟨rfl, c, ar, p1, p2⟩ := hp
      exact ⟨0, rfl, rfl, c, Z2, ar, p1, G4.out.trans p2, HZ.out.1, HZ.out.2⟩
  obtain ⟨r, rfl, hre, hst⟩ := HF.out
  have HFF : Hid (r = (T.gotAll t).2 ∧ Stp w col Z q (T.gotAll t).1 w5) := ⟨hre, hst⟩
  clear hhe hp HF hre hst G4 HZ HU1 HT
  go_wp2
  go_ret
  exact ⟨by rw [HFF.out.1]; rfl, HFF.out.2⟩
end Go.Proofs.YtlaihgdfedalmaaGreat
