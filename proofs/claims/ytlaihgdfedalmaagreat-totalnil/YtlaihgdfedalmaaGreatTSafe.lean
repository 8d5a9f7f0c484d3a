/-
  Package total's Safe: a message of the view is safe.
-/
import Derived.Test.YtlaihgdfedalmaaGreatTRecv
import Derived.Test.YtlaihgdfedalmaaGreatTMFrom
namespace Go.Proofs.YtlaihgdfedalmaaGreat
open Go.RowKit Go.Sort Go.Conc
set_option linter.unusedVariables false
set_option linter.unusedSimpArgs false

def Tot.sureOne (T : Tot) (x : Lb) : Tot := if T.prim then (T.mark x).confirm else T
def Tot.sureAll (T : Tot) (f : Int) : Tot := if T.prim then (T.markFrom f).confirm else T
set_option maxRecDepth 10000 in
set_option maxHeartbeats 1000000 in
theorem safe_err (w : World) (q : Value) (f : Int) (ao : Option Addr) (n cap : Nat) (E : Int) (hE : E ≠ 0) (hr : Calls Tryz.prog 57 #[q, .int .i64 f, .slice ao n cap] w (RdErr w E)) : Calls Tryz.prog 25 #[q, .int .i64 f, .slice ao n cap] w fun e w' => e = .returned (.int .i64 E) ∧ Below w.heap.size w w' := by
  have e1 : (E != 0) = true := by simp [hE]
  go_enter Tryz.func25, Tryz.ntmps25
  go_wp2_with fail
  refine hr.mono ?_
  rintro e w1 ⟨kd, x, ⟨m0, m1, m2⟩, ⟨c0, c1, c2⟩, ⟨o0, o1, o2⟩, nx, hn, hp, rfl, u⟩
  obtain ⟨a1, a2, u2⟩ := read_rows w1 _ (Below.refl _ _)
  obtain ⟨b2, f1, f2⟩ := read_fin _ _ a1 a2 #[.int .u64 (x.1 : Nat), .int .i64 x.2.1, .int .u64 (x.2.2.1 : Nat), .int .i64 x.2.2.2, .slice m0 m1 m2] #[.slice c0 c1 c2, .slice o0 o1 o2, .int .i64 nx, .int .u64 hn, .int .i64 hp]
  have uf := bl_rowL (bl_rowL (bl_step u u2) u.size #[.int .u64 (x.1 : Nat), .int .i64 x.2.1, .int .u64 (x.2.2.1 : Nat), .int .i64 x.2.2.2, .slice m0 m1 m2]) (Nat.le_trans u.size (Nat.le_succ _)) #[.slice c0 c1 c2, .slice o0 o1 o2, .int .i64 nx, .int .u64 hn, .int .i64 hp]
  clear hr f1 f2 a2 u2 u hE
  unfold ent sv
  go_wp2_with (first | (refine wpList_store_row rfl 41 (.tmp 8) (.tmp 17) rfl w1.heap.size #[.int .u64 (x.1 : Nat), .int .i64 x.2.1, .int .u64 (x.2.2.1 : Nat), .int .i64 x.2.2.2, .slice m0 m1 m2] rfl rfl 41 _ a1 infoS41 rfl (by simp [Value.oneCell']) ?_) | (refine wpList_store_row rfl 45 (.tmp 9) (.tmp 18) rfl (w1.heap.size + 1) #[.slice c0 c1 c2, .slice o0 o1 o2, .int .i64 nx, .int .u64 hn, .int .i64 hp] rfl rfl 45 _ b2 infoS38 rfl (by simp [Value.oneCell']) ?_))
  go_ret
  exact ⟨rfl, uf⟩
set_option maxRecDepth 10000 in
set_option maxHeartbeats 4000000 in
theorem safe_one {w : World} {col : Nat → Nat} {Z : Nat → Prop} {q : Nat} {T : Tot} {a : Ta} (h : Tt w col Z q T a) (hn : Tn T) (hK : T.K < 1000000) (hol : T.ord.length ≤ 5000) (ho : ∀ x ∈ T.ord, OkL x) (hnx : In T.nx) (f : Int) (ao : Option Addr) (n cap : Nat) (x : Lb) (hx : OkL x) (bs : List UInt8) (hr : Calls Tryz.prog 57 #[.pointer (some ⟨q, 0, none⟩), .int .i64 f, .slice ao n cap] w (RdOne w x bs)) :
    Calls Tryz.prog 25 #[.pointer (some ⟨q, 0, none⟩), .int .i64 f, .slice ao n cap] w fun e w' => e = .returned (.int .i64 0) ∧ Stp w col Z q (T.sureOne x) w' := by
  have HT : Hid (Tt w col Z q T a ∧ Tn T ∧ T.K < 1000000 ∧ T.ord.length ≤ 5000 ∧ (∀ x ∈ T.ord, OkL x) ∧ In T.nx ∧ OkL x) := ⟨h, hn, hK, hol, ho, hnx, hx⟩
  clear h hn hK hol ho hnx hx
  go_enter Tryz.func25, Tryz.ntmps25
  go_wp2_with fail
  refine hr.mono ?_
  rintro e w1 ⟨⟨m0, m1, m2⟩, ⟨c0, c1, c2⟩, ⟨o0, o1, o2⟩, nx, hn, hp, rfl, u, -, -⟩
  obtain ⟨a1, b2, hL, u14⟩ := lay_of u #[.int .u64 (x.1 : Nat), .int .i64 x.2.1, .int .u64 (x.2.2.1 : Nat), .int .i64 x.2.2.2, .slice m0 m1 m2] #[.slice c0 c1 c2, .slice o0 o1 o2, .int .i64 nx, .int .u64 hn, .int .i64 hp]
  obtain ⟨w4, hw4⟩ : ∃ w4, ((((w1.alloc (.cells #[.int .u64 0, .int .i64 0, .int .u64 0, .int .i64 0, .slice none 0 0] 41)).alloc (.cells #[.slice none 0 0, .slice none 0 0, .int .i64 0, .int .u64 0, .int .i64 0] 45)).setRow w1.heap.size #[.int .u64 (x.1 : Nat), .int .i64 x.2.1, .int .u64 (x.2.2.1 : Nat), .int .i64 x.2.2.2, .slice m0 m1 m2]).setRow (w1.heap.size + 1) #[.slice c0 c1 c2, .slice o0 o1 o2, .int .i64 nx, .int .u64 hn, .int .i64 hp]) = w4 := ⟨_, rfl⟩
  have HW4 : Hid (((((w1.alloc (.cells #[.int .u64 0, .int .i64 0, .int .u64 0, .int .i64 0, .slice none 0 0] 41)).alloc (.cells #[.slice none 0 0, .slice none 0 0, .int .i64 0, .int .u64 0, .int .i64 0] 45)).setRow w1.heap.size #[.int .u64 (x.1 : Nat), .int .i64 x.2.1, .int .u64 (x.2.2.1 : Nat), .int .i64 x.2.2.2, .slice m0 m1 m2]).setRow (w1.heap.size + 1) #[.slice c0 c1 c2, .slice o0 o1 o2, .int .i64 nx, .int .u64 hn, .int .i64 hp]) = w4) := hw4
  rw [hw4] at hL u14
  have h4 := HT.out.1.still hL.u
  have hpr := prim_any h4 HT.out.2.1
  obtain ⟨b, hb⟩ : ∃ b, T.prim = b := ⟨_, rfl⟩
  rw [hb] at hpr
  have HB : Hid (T.prim = b) := hb
  have H4 : Hid (Lay w w4 w1.heap.size #[.int .u64 (x.1 : Nat), .int .i64 x.2.1, .int .u64 (x.2.2.1 : Nat), .int .i64 x.2.2.2, .slice m0 m1 m2] #[.slice c0 c1 c2, .slice o0 o1 o2, .int .i64 nx, .int .u64 hn, .int .i64 hp]) := hL
  clear hr u hL u14 hw4 h4 hb
  unfold ent sv
  go_wp2_with (first | (refine wpList_store_row rfl 41 (.tmp 8) (.tmp 17) rfl w1.heap.size #[.int .u64 (x.1 : Nat), .int .i64 x.2.1, .int .u64 (x.2.2.1 : Nat), .int .i64 x.2.2.2, .slice m0 m1 m2] rfl rfl 41 _ a1 infoS41 rfl (by simp [Value.oneCell']) ?_) | (refine wpList_store_row rfl 45 (.tmp 9) (.tmp 18) rfl (w1.heap.size + 1) #[.slice c0 c1 c2, .slice o0 o1 o2, .int .i64 nx, .int .u64 hn, .int .i64 hp] rfl rfl 45 _ b2 infoS38 rfl (by simp [Value.oneCell']) ?_; rw [HW4.out]))
  clear a1 b2 HW4
  refine hpr.mono ?_
  rintro e w6 ⟨rfl, k6, hk6⟩
  have u6 : Below w4.heap.size w4 w6 := by rw [hk6]; exact ⟨rfl, rfl, rfl, Nat.le_refl _, fun _ _ => rfl⟩
  clear hpr hk6
  have u06 := bl_step H4.out.u u6
  cases b with
  | false =>
    have HF : Hid (Stp w col Z q (T.sureOne x) w6) := by
      have e : T.sureOne x = T := by unfold Tot.sureOne; rw [HB.out]; rfl
      rw [e]
      exact Stp.still HT.out.1 u06
    clear H4 HB HT u6 u06
    go_wp2
    go_ret
    exact ⟨rfl, HF.out⟩
  | true =>
    have hB6 : w6.heap[w1.heap.size]? = some (.cells #[.int .u64 (x.1 : Nat), .int .i64 x.2.1, .int .u64 (x.2.2.1 : Nat), .int .i64 x.2.2.2, .slice m0 m1 m2] 41 (0, 0)) := (u6.block _ (Array.getElem?_eq_some_iff.1 H4.out.b1).1).trans H4.out.b1
    have k0 := cell_of_heap hB6 0
    have k1 := cell_of_heap hB6 1
    have k2 := cell_of_heap hB6 2
    have k3 := cell_of_heap hB6 3
    simp only [List.getElem?_toArray, List.getElem?_cons_zero, List.getElem?_cons_succ] at k0 k1 k2 k3
    have hmk := mark_any w6 col Z q T a (HT.out.1.still u06) x HT.out.2.2.2.2.2.2 HT.out.2.2.1
    unfold lab at hmk
    have H6 : Hid (Below w.heap.size w w6) := u06
    clear H4 u6 u06 hB6
    go_wp2_with (refine wpList_load_L rfl (.tmp 31) rfl w1.heap.size 0 rfl _ _ _ _ k0 k1 k2 k3 ?_)
    refine hmk.mono ?_
    rintro e w7 ⟨rfl, c7, a7, h7, g7⟩
    have hcf := confirm_any w7 c7 Z q (T.mark x) a7 h7 HT.out.2.2.2.1 HT.out.2.2.2.2.2.1 HT.out.2.2.2.2.1
    have G7 : Hid (Gt w col w7 c7) := (Gt.bl col H6.out).trans g7
    clear hmk h7 g7 k0 k1 k2 k3 H6
    go_wp2_with fail
    refine hcf.mono ?_
    rintro e w8 ⟨rfl, c8, a8, h8, g8⟩
    have HF : Hid (Stp w col Z q (T.sureOne x) w8) := by
      have e : T.sureOne x = (T.mark x).confirm := by unfold Tot.sureOne; rw [HB.out]; rfl
      rw [e]
      exact ⟨c8, Z, a8, h8, G7.out.trans g8, fun _ e => e, fun _ e => .inl e⟩
    clear hcf h8 g8 G7 HB HT
    go_wp2
    go_ret
    exact ⟨rfl, HF.out⟩
set_option maxRecDepth 10000 in
set_option maxHeartbeats 4000000 in
theorem safe_all {w : World} {col : Nat → Nat} {Z : Nat → Prop} {q : Nat} {T : Tot} {a : Ta} (h : Tt w col Z q T a) (hn : Tn T) (hK : T.K + 10000 < 1000000) (hol : T.ord.length ≤ 5000) (ho : ∀ x ∈ T.ord, OkL x) (hnx : In T.nx) (hsf : T.sf < 65536) (hb : Tb T.told) (t : Pt) (ao : Option Addr) (n cap : Nat) (hr : Calls Tryz.prog 57 #[.pointer (some ⟨q, 0, none⟩), .int .i64 t.node, .slice ao n cap] w (RdAll w t)) :
    Calls Tryz.prog 25 #[.pointer (some ⟨q, 0, none⟩), .int .i64 t.node, .slice ao n cap] w fun e w' => e = .returned (.int .i64 0) ∧ Stp w col Z q (T.sureAll t.node) w' := by
  have HT : Hid (Tt w col Z q T a ∧ Tn T ∧ T.K + 10000 < 1000000 ∧ T.ord.length ≤ 5000 ∧ (∀ x ∈ T.ord, OkL x) ∧ In T.nx ∧ T.sf < 65536 ∧ Tb T.told) := ⟨h, hn, hK, hol, ho, hnx, hsf, hb⟩
  clear h hn hK hol ho hnx hsf hb
  go_enter Tryz.func25, Tryz.ntmps25
  go_wp2_with fail
  refine hr.mono ?_
  rintro e w1 ⟨x, ⟨m0, m1, m2⟩, ca, cc, oa, oc, rfl, u, -⟩
  obtain ⟨a1, b2, hL, u14⟩ := lay_of u #[.int .u64 (x.1 : Nat), .int .i64 x.2.1, .int .u64 (x.2.2.1 : Nat), .int .i64 x.2.2.2, .slice m0 m1 m2] #[.slice ca t.es.length cc, .slice oa t.ls.length oc, .int .i64 t.nx, .int .u64 (t.hn : Nat), .int .i64 t.hp]
  obtain ⟨w4, hw4⟩ : ∃ w4, ((((w1.alloc (.cells #[.int .u64 0, .int .i64 0, .int .u64 0, .int .i64 0, .slice none 0 0] 41)).alloc (.cells #[.slice none 0 0, .slice none 0 0, .int .i64 0, .int .u64 0, .int .i64 0] 45)).setRow w1.heap.size #[.int .u64 (x.1 : Nat), .int .i64 x.2.1, .int .u64 (x.2.2.1 : Nat), .int .i64 x.2.2.2, .slice m0 m1 m2]).setRow (w1.heap.size + 1) #[.slice ca t.es.length cc, .slice oa t.ls.length oc, .int .i64 t.nx, .int .u64 (t.hn : Nat), .int .i64 t.hp]) = w4 := ⟨_, rfl⟩
  have HW4 : Hid (((((w1.alloc (.cells #[.int .u64 0, .int .i64 0, .int .u64 0, .int .i64 0, .slice none 0 0] 41)).alloc (.cells #[.slice none 0 0, .slice none 0 0, .int .i64 0, .int .u64 0, .int .i64 0] 45)).setRow w1.heap.size #[.int .u64 (x.1 : Nat), .int .i64 x.2.1, .int .u64 (x.2.2.1 : Nat), .int .i64 x.2.2.2, .slice m0 m1 m2]).setRow (w1.heap.size + 1) #[.slice ca t.es.length cc, .slice oa t.ls.length oc, .int .i64 t.nx, .int .u64 (t.hn : Nat), .int .i64 t.hp]) = w4) := hw4
  rw [hw4] at hL u14
  have h4 := HT.out.1.still hL.u
  have hpr := prim_any h4 HT.out.2.1
  obtain ⟨b, hb⟩ : ∃ b, T.prim = b := ⟨_, rfl⟩
  rw [hb] at hpr
  have HB : Hid (T.prim = b) := hb
  have H4 : Hid (Below w.heap.size w w4) := hL.u
  clear hr u hL u14 hw4 h4 hb
  unfold ent sv
  go_wp2_with (first | (refine wpList_store_row rfl 41 (.tmp 8) (.tmp 17) rfl w1.heap.size #[.int .u64 (x.1 : Nat), .int .i64 x.2.1, .int .u64 (x.2.2.1 : Nat), .int .i64 x.2.2.2, .slice m0 m1 m2] rfl rfl 41 _ a1 infoS41 rfl (by simp [Value.oneCell']) ?_) | (refine wpList_store_row rfl 45 (.tmp 9) (.tmp 18) rfl (w1.heap.size + 1) #[.slice ca t.es.length cc, .slice oa t.ls.length oc, .int .i64 t.nx, .int .u64 (t.hn : Nat), .int .i64 t.hp] rfl rfl 45 _ b2 infoS38 rfl (by simp [Value.oneCell']) ?_; rw [HW4.out]))
  clear a1 b2 HW4
  refine hpr.mono ?_
  rintro e w6 ⟨rfl, k6, hk6⟩
  have u6 : Below w4.heap.size w4 w6 := by rw [hk6]; exact ⟨rfl, rfl, rfl, Nat.le_refl _, fun _ _ => rfl⟩
  clear hpr hk6
  have u06 := bl_step H4.out u6
  cases b with
  | false =>
    have HF : Hid (Stp w col Z q (T.sureAll t.node) w6) := by
      have e : T.sureAll t.node = T := by unfold Tot.sureAll; rw [HB.out]; rfl
      rw [e]
      exact Stp.still HT.out.1 u06
    clear H4 HB HT u6 u06
    go_wp2
    go_ret
    exact ⟨rfl, HF.out⟩
  | true =>
    have hmk := markFrom_any (HT.out.1.still u06) HT.out.2.1 HT.out.2.2.2.2.2.2.1 HT.out.2.2.2.2.2.2.2 HT.out.2.2.1 t.node
    have H6 : Hid (Below w.heap.size w w6) := u06
    clear H4 u6 u06
    go_wp2_with fail
    refine hmk.mono ?_
    rintro e w7 ⟨rfl, c7, Z7, a7, h7, g7, z7, y7⟩
    have eo : (T.markFrom t.node).ord = T.ord ∧ (T.markFrom t.node).nx = T.nx := by
      unfold Tot.markFrom
      split
      · rw [marks_is]; exact ⟨rfl, rfl⟩
      · exact ⟨rfl, rfl⟩
    have hcf := confirm_any w7 c7 Z7 q (T.markFrom t.node) a7 h7 (by rw [eo.1]; exact HT.out.2.2.2.1) (by rw [eo.2]; exact HT.out.2.2.2.2.2.1) (by rw [eo.1]; exact HT.out.2.2.2.2.1)
    have G7 : Hid (Gt w col w7 c7 ∧ (∀ b, Z b → Z7 b) ∧ ∀ b, Z7 b → Z b ∨ w.heap.size ≤ b) := ⟨(Gt.bl col H6.out).trans g7, z7, fun b hb => (y7 b hb).imp id (fun e => Nat.le_trans H6.out.size e)⟩
    clear hmk h7 g7 H6 z7 y7 eo
    go_wp2_with fail
    refine hcf.mono ?_
    rintro e w8 ⟨rfl, c8, a8, h8, g8⟩
    have HF : Hid (Stp w col Z q (T.sureAll t.node) w8) := by
      have e : T.sureAll t.node = (T.markFrom t.node).confirm := by unfold Tot.sureAll; rw [HB.out]; rfl
      rw [e]
      exact ⟨c8, Z7, a8, h8, G7.out.1.trans g8, G7.out.2.1, G7.out.2.2⟩
    clear hcf h8 g8 G7 HB HT
    go_wp2
    go_ret
    exact ⟨rfl, HF.out⟩
end Go.Proofs.YtlaihgdfedalmaaGreat
