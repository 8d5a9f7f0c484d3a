/-
  Texts of the walk, one behind the other.
-/
import Derived.Test.YtlaihgdfedalmaaGreatISet
import Derived.Test.YtlaihgdfedalmaaGreatMix46
import Derived.Test.YtlaihgdfedalmaaGreatEAdd
import Derived.Lib.SlBytesConst
import Derived.Test.YtlaihgdfedalmaaGreatJAll
import Derived.Test.YtlaihgdfedalmaaGreatTSel
import Derived.Test.YtlaihgdfedalmaaGreatFFind
import Derived.Test.YtlaihgdfedalmaaGreatTMerge1
import Derived.Test.YtlaihgdfedalmaaGreatFLabels
import Derived.Test.YtlaihgdfedalmaaGreatEOwn
/-
  Package total's Primary and Waiting.
-/
namespace Go.Proofs.YtlaihgdfedalmaaGreat
open Go.RowKit Go.Sort Go.Conc
set_option linter.unusedVariables false
set_option linter.unusedSimpArgs false

theorem most_any (w : World) (s : Nat) (hs : s < 65536) (n : Int) (h1 : 1 ≤ n) (h2 : n ≤ 16) : Calls Tryz.prog 79 #[.int .u16 (s : Nat), .int .i64 n] w fun e w' => e = .returned (.bool (decide (n < 2 * (cntF 16 s : Nat)))) ∧ ∃ q, w' = w.drewN q := by
  have hc := count_any w s hs
  have hl := cntF_le 16 s
  generalize cntF 16 s = c at *
  go_enter Tryz.func79, Tryz.ntmps79
  go_wp2_with fail
  refine hc.mono ?_
  rintro e w1 ⟨rfl, k, rfl⟩
  clear hc
  go_wp2
  go_ret
  exact ⟨rfl, k, rfl⟩
def S3p (q : Nat) (v4 v6 v0 : Value) (W : World) : Prop := W.cell? ⟨q, 4, none⟩ = some v4 ∧ W.cell? ⟨q, 6, none⟩ = some v6 ∧ W.cell? ⟨q, 0, none⟩ = some v0
set_option maxRecDepth 10000 in
set_option maxHeartbeats 1000000 in
theorem prim_cells (w : World) (q : Nat) (n : Int) (vn vs : Nat) (h1 : 1 ≤ n) (h2 : n ≤ 16) (hs : vs < 65536) (h : S3p q (.int .u64 (vn : Nat)) (.int .u16 (vs : Nat)) (.int .i64 n) w) :
    Calls Tryz.prog 38 #[.pointer (some ⟨q, 0, none⟩)] w fun e w' => e = .returned (.bool (decide (vn ≠ 0) && decide (n < 2 * (cntF 16 vs : Nat)))) ∧ ∃ k, w' = w.drewN k := by
  have hiv := inView_any w.drew q vn h.1
  have hmo := most_any w.drew vs hs n h1 h2
  obtain ⟨b1, hb1⟩ : ∃ b, decide (n < 2 * (cntF 16 vs : Nat)) = b := ⟨_, rfl⟩
  rw [hb1] at hmo ⊢
  have hd : S3p q (.int .u64 (vn : Nat)) (.int .u16 (vs : Nat)) (.int .i64 n) w.drew := h
  by_cases h0 : vn = 0
  · have e1 : decide (vn ≠ 0) = false := by simp [h0]
    rw [e1] at hiv ⊢
    clear hb1 h0 e1
    go_enter Tryz.func38, Tryz.ntmps38
    go_wp2_with fail
    refine wp_region_noPanic ?_
    refine wp_region_held_drew (S := S3p q (.int .u64 (vn : Nat)) (.int .u16 (vs : Nat)) (.int .i64 n)) (by kernel_rfl) (hd) (fun hHeld => ?_)
    unfold S3p at hHeld
    refine tq 0 ?_
    refine tq 1 ?_
    refine tq 2 ?_
    refine tq 3 ?_
    refine comes_up 4 rfl (by kernel_rfl) (fun K hK => ?_)
    go_simp
    refine hiv.mono ?_
    rintro e w1 ⟨rfl, rfl⟩
    go_wp2_with fail
    refine hK.out _ _ (hd) (fun hHeld => ?_)
    clear hK K
    (try simp only [Act.put, List.setIfInBounds_toArray, List.set_cons_zero, List.set_cons_succ])
    refine tq 5 ?_
    refine tq 6 ?_
    refine tqS 7 ?_
    refine tqS 8 ?_
    refine tqS 9 ?_
    refine tqS 10 ?_
    refine tqS 11 ?_
    refine tqS 12 ?_
    refine tqS 13 ?_
    refine tqS 14 ?_
    refine tqS 15 ?_
    refine tqS 16 ?_
    refine tq 17 ?_
    refine tq 18 ?_
    refine wpAnyH_done (by kernel_rfl) ?_ _
    refine NoPanic.normal ?_
    go_wp2
    go_ret
    exact ⟨rfl, 1, rfl⟩
  · have e1 : decide (vn ≠ 0) = true := by simp [h0]
    rw [e1] at hiv ⊢
    clear hb1 h0 e1
    go_enter Tryz.func38, Tryz.ntmps38
    go_wp2_with fail
    refine wp_region_noPanic ?_
    refine wp_region_held_drew (S := S3p q (.int .u64 (vn : Nat)) (.int .u16 (vs : Nat)) (.int .i64 n)) (by kernel_rfl) (hd) (fun hHeld => ?_)
    unfold S3p at hHeld
    refine tq 0 ?_
    refine tq 1 ?_
    refine tq 2 ?_
    refine tq 3 ?_
    refine comes_up 4 rfl (by kernel_rfl) (fun K hK => ?_)
    go_simp
    refine hiv.mono ?_
    rintro e w1 ⟨rfl, rfl⟩
    go_wp2_with fail
    refine hK.out _ _ (hd) (fun hHeld => ?_)
    clear hK K
    (try simp only [Act.put, List.setIfInBounds_toArray, List.set_cons_zero, List.set_cons_succ])
    refine tq 5 ?_
    refine tq 6 ?_
    refine tq 7 ?_
    refine tq 8 ?_
    refine tq 9 ?_
    refine tq 10 ?_
    refine tq 11 ?_
    refine tq 12 ?_
    refine tq 13 ?_
    refine tq 14 ?_
    refine tq 15 ?_
    refine comes_up 16 rfl (by kernel_rfl) (fun K hK => ?_)
    go_simp
    refine hmo.mono ?_
    rintro e w1 ⟨rfl, k, rfl⟩
    go_wp2_with fail
    refine hK.out _ _ ((show S3p q (.int .u64 (vn : Nat)) (.int .u16 (vs : Nat)) (.int .i64 n) (w.drew.drewN k) from h)) (fun hHeld => ?_)
    clear hK K
    (try simp only [Act.put, List.setIfInBounds_toArray, List.set_cons_zero, List.set_cons_succ])
    refine tq 17 ?_
    refine tq 18 ?_
    refine wpAnyH_done (by kernel_rfl) ?_ _
    refine NoPanic.normal ?_
    go_wp2
    go_ret
    exact ⟨by rw [Bool.true_and]; rfl, 1 + k, rfl⟩
def Tot.prim (T : Tot) : Bool := decide (T.vn ≠ 0) && decide (T.n < 2 * (cntF 16 T.vs : Nat))
theorem prim_any {w : World} {col : Nat → Nat} {Z : Nat → Prop} {q : Nat} {T : Tot} {a : Ta} (h : Tt w col Z q T a) (hn : Tn T) : Calls Tryz.prog 38 #[.pointer (some ⟨q, 0, none⟩)] w fun e w' => e = .returned (.bool T.prim) ∧ ∃ k, w' = w.drewN k :=
  prim_cells w q T.n T.vn T.vs hn.n.1 hn.n.2 hn.vs ⟨h.cell 4 (by omega), h.cell 6 (by omega), h.cell 0 (by omega)⟩
def Sq0 (v : Value) (W : World) : Prop := v = v
set_option maxRecDepth 10000 in
set_option maxHeartbeats 1000000 in
theorem prim_nil (w : World) : Calls Tryz.prog 38 #[.pointer none] w fun e w' => e = .returned (.bool false) ∧ ∃ k, w' = w.drewN k := by
  go_enter Tryz.func38, Tryz.ntmps38
  go_wp2_with fail
  refine wp_region_noPanic ?_
  refine wp_region_held_drew (S := Sq0 undef) (by kernel_rfl) rfl (fun hHeld => ?_)
  refine tq 0 ?_
  refine tq 1 ?_
  refine tq 2 ?_
  refine tqS 3 ?_
  refine tqS 4 ?_
  refine tq 5 ?_
  refine tq 6 ?_
  refine tqS 7 ?_
  refine tqS 8 ?_
  refine tqS 9 ?_
  refine tqS 10 ?_
  refine tqS 11 ?_
  refine tqS 12 ?_
  refine tqS 13 ?_
  refine tqS 14 ?_
  refine tqS 15 ?_
  refine tqS 16 ?_
  refine tq 17 ?_
  refine tq 18 ?_
  refine wpAnyH_done (by kernel_rfl) ?_ _
  refine NoPanic.normal ?_
  go_wp2
  go_ret
  exact ⟨rfl, 1, rfl⟩
theorem waiting_nil (w : World) : Calls Tryz.prog 37 #[.pointer none] w fun e w' => e = .returned (.int .i64 0) ∧ w' = w := by
  go_enter Tryz.func37, Tryz.ntmps37
  go_wp2
  go_ret
  exact ⟨rfl, rfl⟩
theorem und93 : Tryz.prog.underlying 93 = some (.chan .both 37) := by kernel_rfl
theorem wpList_len_chan {w : World} {ops : Array Oper} {rest : List Oper} {o : Oper} {a : Act} {Q : Exit → Act → World → Prop} (hgd : o.guard = none) (x : Operand)
    (ho : o.op = .call { callee := .builtin .len, args := #[x], argTypes := #[93] }) (c cap : Nat) (buf : Array Value) (cl : Bool) (s r : Nat) (hx : a.eval x = .chan (some c)) (hc : w.heap[c]? = some (.chan cap buf cl s r false))
    (h : wpList Tryz.prog ops Q rest (a.put o.dst (goInt buf.size)) w) : wpList Tryz.prog ops Q (o :: rest) a w := by
  have hrun : (Builtin.len_ #[93] o.type #[.chan (some c)]).run Tryz.prog w = .ok (goInt buf.size) w := by
    simp [Builtin.len_, run_underlying und93, run_getObj_chan _ _ hc]
  refine wpList_plain hgd fun K hK => ?_
  unfold Oper.wp execOp
  simp only [ho, resolve, invoke, builtin, Sem.run_bind, Sem.run_pure, Result.andThen_ok, List.map_toArray, List.map_cons, List.map_nil, hx, hrun]
  exact hK _ _ h
set_option maxRecDepth 10000 in
set_option maxHeartbeats 1000000 in
theorem waiting_any {w : World} {col : Nat → Nat} {Z : Nat → Prop} {q : Nat} {T : Tot} {a : Ta} (h : Tt w col Z q T a) : Calls Tryz.prog 37 #[.pointer (some ⟨q, 0, none⟩)] w fun e w' => e = .returned (.int .i64 (T.dl.length : Nat)) ∧ w' = w := by
  have hc2 := h.cell 2 (by omega)
  simp only [tcell] at hc2
  obtain ⟨s, r, vs, k1, k2, k3⟩ := h.d.ch
  have HB : Hid ((vs.map sv).toArray.size = T.dl.length) := by unfold Hid; simp [k2]
  generalize (vs.map sv).toArray = B at *
  clear k3 k2 h
  go_enter Tryz.func37, Tryz.ntmps37
  go_wp2_with (refine wpList_len_chan rfl (.tmp 8) rfl a.c T.qc B false s r rfl k1 ?_)
  go_ret
  exact ⟨by rw [← HB.out]; rfl, rfl⟩
end Go.Proofs.YtlaihgdfedalmaaGreat

/-
  An entry as a view's message, and the document's answer; the document's example.
-/
namespace Go.Proofs.YtlaihgdfedalmaaGreat
open Go.RowKit
set_option linter.unusedVariables false

set_option maxRecDepth 10000 in
set_option maxHeartbeats 1000000 in
theorem encodeOne_bad (w : World) (x : Lb) (bo : Option Addr) (m bcap : Nat) (hf : formE x m = false) :
    Calls Tryz.prog 55 #[ent x (.slice bo m bcap)] w fun e w' => e = .returned (.tuple #[.slice none 0 0, .int .i64 3]) ∧ Below w.heap.size w w' := by
  have hb0 : Below w.heap.size w (w.alloc (.cells #[.int .u64 (x.1 : Nat), .int .i64 x.2.1, .int .u64 (x.2.2.1 : Nat), .int .i64 x.2.2.2, .slice bo m bcap] 41)) := bl1 _ _
  have ex0 := ex_new w x (.slice bo m bcap) 41
  have hform := fun W => formE_any W x bo m bcap
  rw [hf] at hform
  unfold ent at *
  obtain ⟨x0, x1, x2, x3, x4⟩ := ex0
  go_enter Tryz.func55, Tryz.ntmps55
  go_wp2_with fail
  refine (hform _).mono ?_
  rintro e w1 ⟨rfl, hu⟩
  have hbb := bl_step hb0 hu.bl
  clear hform hu hb0 x0 x1 x2 x3 x4
  go_wp2
  go_ret2
  exact ⟨rfl, hbb⟩

set_option maxRecDepth 10000 in
set_option maxHeartbeats 1000000 in
theorem encodeOne_any (w : World) (x : Lb) (hx : x.1 < 18446744073709551616) (hx2 : x.2.2.1 < 18446744073709551616) (bo : Option Addr) (m bcap : Nat) (ys : List UInt8) (hy : Cd.Row w bo m bcap ys) (hf : formE x m = true) :
    Calls Tryz.prog 55 #[ent x (.slice bo m bcap)] w fun e w' => ∃ v, e = .returned (.tuple #[v, .int .i64 0]) ∧ w'.ownsRow w.heap.size 5 1 v (1 :: encE x ys).length ((1 :: encE x ys).map Cd.by8) ∧ Below w.heap.size w w' := by
  have hb0 : Below w.heap.size w (w.alloc (.cells #[.int .u64 (x.1 : Nat), .int .i64 x.2.1, .int .u64 (x.2.2.1 : Nat), .int .i64 x.2.2.2, .slice bo m bcap] 41)) := bl1 _ _
  have ex0 := ex_new w x (.slice bo m bcap) 41
  have hform := fun W => formE_any W x bo m bcap
  rw [hf] at hform
  obtain ⟨hfl, hm⟩ : formL x = true ∧ m ≤ 64 := by unfold formE at hf; simpa using hf
  have hadd : ∀ W, Below w.heap.size w W → Calls Tryz.prog 94 #[.slice (some ⟨W.heap.size, 0, none⟩) 1 1, ent x (.slice bo m bcap)] (W.alloc (.cells #[.int .u8 1] 5)) (fun e w' => ∃ v', e = .returned v' ∧ w'.ownsRow w.heap.size 5 1 v' (1 :: encE x ys).length ((1 :: encE x ys).map Cd.by8) ∧ Below w.heap.size w w') := by
    intro W hW
    have h1 : (W.alloc (.cells #[.int .u8 1] 5)).ownsRow w.heap.size 5 1 (.slice (some ⟨W.heap.size, 0, none⟩) 1 1) [(1 : UInt8)].length ([(1 : UInt8)].map Cd.by8) := by
      have := World.ownsRow_lit (base := w.heap.size) (e := 5) (size := 1) W #[.int .u8 1] 1 hW.size (by unfold maxLen; omega) rfl
      simpa [Cd.by8] using this
    have hb := hW.alloc hW.size (.cells #[.int .u8 1] 5)
    refine (addEntry_any _ w.heap.size hb.size _ [1] h1 x hx hx2 hfl bo m bcap ys (row_bl hy hb (row_lt hy)) (row_lt hy) hm (by simp)).mono ?_
    rintro e w1 ⟨v1, rfl, ha⟩
    exact ⟨v1, rfl, by simpa using ha.own, hb.trans (ha.below hb.size (fun k hk => (own_lt h1 k hk).1))⟩
  clear hx hx2 hfl hm hy hf
  generalize 1 :: encE x ys = E at *
  have EX : Ex w.heap.size x (.slice bo m bcap) (w.alloc (.cells #[.int .u64 (x.1 : Nat), .int .i64 x.2.1, .int .u64 (x.2.2.1 : Nat), .int .i64 x.2.2.2, .slice bo m bcap] 41)) := ex0
  unfold ent at *
  obtain ⟨x0, x1, x2, x3, x4⟩ := ex0
  go_enter Tryz.func55, Tryz.ntmps55
  go_wp2_with fail
  refine (hform _).mono ?_
  rintro e w1 ⟨rfl, hu⟩
  have hbb := bl_step hb0 hu.bl
  obtain ⟨y0, y1, y2, y3, y4⟩ := EX.bl (hu.bl)
  obtain ⟨z0, z1, z2, z3, z4⟩ := (EX.bl hu.bl).bl (bl1 w1 (.cells #[.int .u8 1] 5))
  have had := hadd w1 hbb
  clear hform hu hb0 x0 x1 x2 x3 x4 EX hadd
  go_wp2_with fail
  refine had.mono ?_
  rintro e w2 ⟨v2, rfl, ho, hb2⟩
  clear had hbb y0 y1 y2 y3 y4 z0 z1 z2 z3 z4
  go_wp2
  go_ret2
  exact ⟨v2, rfl, ho, hb2⟩

end Go.Proofs.YtlaihgdfedalmaaGreat

/-
  Entries out of bytes.
-/
namespace Go.Proofs.YtlaihgdfedalmaaGreat
open Go.RowKit
set_option linter.unusedVariables false

set_option maxRecDepth 10000 in
set_option maxHeartbeats 1000000 in
theorem readLabel_rd (w : World) (r : Nat) (st : Option (List UInt8)) (h : Cd.Rd w r st) :
    Calls Tryz.prog 155 #[.pointer (some ⟨r, 0, none⟩)] w fun e w' => e = .returned (lab (decL st).1) ∧ Cd.Rd w' r (decL st).2 ∧ w.grownBy w' (some r) := by
  have hrl := h.lt
  have h1 := rd_alloc h (.cells #[.int .u64 0, .int .i64 0, .int .u64 0, .int .i64 0] 39)
  have hd := decodeL_rd _ r st h1
  generalize decL st = D at *
  obtain ⟨⟨a, b, c, d⟩, st1⟩ := D
  unfold lab at *
  simp only at hd ⊢
  go_enter Tryz.func155, Tryz.ntmps155
  go_wp2_with fail
  refine hd.mono ?_
  rintro e w1 ⟨rfl, hr1, hg1⟩
  have hR : (w1.alloc (.cells #[.int .u64 (a : Nat), .int .i64 b, .int .u64 (c : Nat), .int .i64 d] 39)).heap[w.heap.size]? = some (.cells #[.int .u64 0, .int .i64 0, .int .u64 0, .int .i64 0] 39 (0, 0)) := by
    have e1 : w1.heap[w.heap.size]? = some (.cells #[.int .u64 0, .int .i64 0, .int .u64 0, .int .i64 0] 39 (0, 0)) := (hg1.block w.heap.size (by simp) (by simp; omega)).trans (heap_alloc_new _ _)
    exact (Below.heap_alloc w1 _ _ (Array.getElem?_eq_some_iff.1 e1).1).trans e1
  have hr2 := rd_alloc hr1 (.cells #[.int .u64 (a : Nat), .int .i64 b, .int .u64 (c : Nat), .int .i64 d] 39)
  have hg2 : w.grownBy (w1.alloc (.cells #[.int .u64 (a : Nat), .int .i64 b, .int .u64 (c : Nat), .int .i64 d] 39)) (some r) := Cd.grown_trans (grown_alloc hg1) (gr_of (bl1 _ _) _)
  have hrR := rd_setRow (new := #[.int .u64 (a : Nat), .int .i64 b, .int .u64 (c : Nat), .int .i64 d]) hr2 (by omega) hR (noByte_lab _ _ _ _)
  have hgR := gr_row hg2 (Nat.le_refl _) #[.int .u64 (a : Nat), .int .i64 b, .int .u64 (c : Nat), .int .i64 d]
  have hc : ∀ j v, #[Value.int .u64 (a : Nat), .int .i64 b, .int .u64 (c : Nat), .int .i64 d][j]? = some v → _ := fun j v hj => (cell_setRow_same _ _ j _ #[.int .u64 (a : Nat), .int .i64 b, .int .u64 (c : Nat), .int .i64 d] _ _ hR).trans hj
  have k0 := hc 0 _ rfl
  have k1 := hc 1 _ rfl
  have k2 := hc 2 _ rfl
  have k3 := hc 3 _ rfl
  have HE : Hid (Cd.Rd ((w1.alloc (.cells #[.int .u64 (a : Nat), .int .i64 b, .int .u64 (c : Nat), .int .i64 d] 39)).setRow w.heap.size #[.int .u64 (a : Nat), .int .i64 b, .int .u64 (c : Nat), .int .i64 d]) r st1 ∧ w.grownBy ((w1.alloc (.cells #[.int .u64 (a : Nat), .int .i64 b, .int .u64 (c : Nat), .int .i64 d] 39)).setRow w.heap.size #[.int .u64 (a : Nat), .int .i64 b, .int .u64 (c : Nat), .int .i64 d]) (some r)) := ⟨hrR, hgR⟩
  clear hd hrR hgR hc hr2 hg2 hg1 hr1
  go_wp2_with (first | (refine wpList_store_row rfl 39 (.tmp 2) (.tmp 10) rfl w.heap.size #[.int .u64 (a : Nat), .int .i64 b, .int .u64 (c : Nat), .int .i64 d] rfl rfl 39 _ hR infoS26 rfl (by simp [Value.oneCell']) ?_))
  refine bodyPost_ret (v := .agg #[.int .u64 (a : Nat), .int .i64 b, .int .u64 (c : Nat), .int .i64 d]) ?_ rfl ?_
  · simp [results, Tryz.results155, go_sem, k0, k1, k2, k3]
  · exact ⟨rfl, HE.out⟩
theorem decV_len (st : Option (List UInt8)) (ys : List UInt8) (h : (decV st).2 = some ys) : ∃ xs, st = some xs ∧ ys.length ≤ xs.length := by
  unfold decV at h
  split at h
  · cases h
  · rename_i zs hz
    simp at h
    subst h
    obtain ⟨us, h1, h2⟩ := Cd.rInt_len _ _ _ hz
    obtain ⟨xs, h3, h4⟩ := Cd.rUint_len _ _ h1
    exact ⟨xs, h3, by omega⟩
theorem decL_len (st : Option (List UInt8)) (ys : List UInt8) (h : (decL st).2 = some ys) : ∃ xs, st = some xs ∧ ys.length ≤ xs.length := by
  unfold decL at h
  split at h
  · rename_i zs hf hz
    simp at h
    subst h
    obtain ⟨us, h1, h2⟩ := Cd.rInt_len _ _ _ hz
    obtain ⟨xs, h3, h4⟩ := Cd.rUint_len _ _ h1
    obtain ⟨vs, h5, h6⟩ := decV_len _ _ h3
    exact ⟨vs, h5, by omega⟩
  · cases h
/-- The next entry of what is left, and what is left behind it. -/
def decE (st : Option (List UInt8)) : (Lb × List UInt8) × Option (List UInt8) := (((decL st).1, (Cd.rBytes (decL st).2 64).1), (Cd.rBytes (decL st).2 64).2)
theorem infoS29 : (Tryz.prog.info? 41).map (·.size) = some 5 := by kernel_rfl
theorem noByte_ent (n : Int) (p s q : Int) (a : Option Addr) (l c : Nat) : noByte #[.int .u64 n, .int .i64 p, .int .u64 s, .int .i64 q, .slice a l c] := by
  intro v hv k
  simp at hv
  rcases hv with rfl | rfl | rfl | rfl | rfl <;> simp
theorem own_gr {w w' : World} {B n : Nat} {v : Value} {xs : List Value} {r : Nat} (h : w.ownsRow B 5 1 v n xs) (g : w.grownBy w' (some r)) (hr : ∀ k, v.ownBlock = some k → k ≠ r) : w'.ownsRow B 5 1 v n xs := by
  refine h.kept (row := some r) g ?_
  cases hv : v.ownBlock with
  | none => exact Or.inl rfl
  | some k => exact Or.inr (by simpa using hr k hv)

set_option maxRecDepth 10000 in
set_option maxHeartbeats 1000000 in
theorem readEntry_rd (w : World) (r : Nat) (st : Option (List UInt8)) (h : Cd.Rd w r st) (hl : ∀ xs, st = some xs → xs.length ≤ 140737488355328) :
    Calls Tryz.prog 125 #[.pointer (some ⟨r, 0, none⟩)] w fun e w' => ∃ s, e = .returned (ent (decE st).1.1 s) ∧ w'.ownsRow w.heap.size 5 1 s (decE st).1.2.length ((decE st).1.2.map Cd.by8) ∧ Cd.Rd w' r (decE st).2 ∧ w.grownBy w' (some r) := by
  have hrl := h.lt
  have h1 := rd_alloc h (.cells #[.int .u64 0, .int .i64 0, .int .u64 0, .int .i64 0, .slice none 0 0] 41)
  have hd := readLabel_rd _ r st h1
  have hb0 : Below w.heap.size w (w.alloc (.cells #[.int .u64 0, .int .i64 0, .int .u64 0, .int .i64 0, .slice none 0 0] 41)) := bl1 _ _
  have hby : ∀ W, Cd.Rd W r (decL st).2 → _ := fun W hW => Cd.bytes_rd W r (decL st).2 hW 64 (by omega) (by omega) (fun xs hx => by
    obtain ⟨us, h1, h2⟩ := decL_len _ _ hx
    have := hl us h1
    omega)
  unfold decE
  generalize Cd.rBytes (decL st).2 64 = R at *
  generalize decL st = D at *
  obtain ⟨⟨a, b, c, d⟩, st1⟩ := D
  obtain ⟨ms, st2⟩ := R
  unfold lab at *
  unfold ent
  simp only at hd hby ⊢
  clear hl h
  go_enter Tryz.func125, Tryz.ntmps125
  go_wp2_with fail
  refine hd.mono ?_
  rintro e w1 ⟨rfl, hr1, hg1⟩
  have hR1 : w1.heap[w.heap.size]? = some (.cells #[.int .u64 0, .int .i64 0, .int .u64 0, .int .i64 0, .slice none 0 0] 41 (0, 0)) := (hg1.block w.heap.size (by simp) (by simp; omega)).trans (heap_alloc_new _ _)
  have hs1 : w.heap.size < w1.heap.size := (Array.getElem?_eq_some_iff.1 hR1).1
  have hbx := bx_new w1 a b c d 39
  have hR2 : (w1.alloc (.cells #[.int .u64 (a : Nat), .int .i64 b, .int .u64 (c : Nat), .int .i64 d] 39)).heap[w.heap.size]? = some (.cells #[.int .u64 0, .int .i64 0, .int .u64 0, .int .i64 0, .slice none 0 0] 41 (0, 0)) := (Below.heap_alloc w1 _ _ hs1).trans hR1
  have hr2 := rd_alloc hr1 (.cells #[.int .u64 (a : Nat), .int .i64 b, .int .u64 (c : Nat), .int .i64 d] 39)
  have hg2 : w.grownBy (w1.alloc (.cells #[.int .u64 (a : Nat), .int .i64 b, .int .u64 (c : Nat), .int .i64 d] 39)).drew (some r) := Cd.grown_trans (Cd.grown_trans (grown_alloc hg1) (gr_of (bl1 _ _) _)) (gr_of ((Below.refl _ _).drew) _)
  have hby2 := hby (w1.alloc (.cells #[.int .u64 (a : Nat), .int .i64 b, .int .u64 (c : Nat), .int .i64 d] 39)).drew (Cd.rd_below hr2 ((Below.refl _ _).drew))
  obtain ⟨W2, hW2⟩ : ∃ W, Hid (w1.alloc (.cells #[.int .u64 (a : Nat), .int .i64 b, .int .u64 (c : Nat), .int .i64 d] 39) = W) := ⟨_, rfl⟩
  obtain ⟨g0, hg0⟩ : ∃ g, Hid (w1.heap.size = g) := ⟨_, rfl⟩
  have hg0l : w.heap.size < g0 := by rw [← hg0.out]; exact hs1
  have hz2 : w.heap.size ≤ W2.heap.size := by rw [← hW2.out]; simp; omega
  clear hd hby h1 hr1 hg1 hR1 hb0 hr2
  go_wp2_with fail
  rw [hW2.out] at hbx hR2 hg2 hby2 ⊢
  rw [hg0.out] at hbx ⊢
  refine wp_region_noPanic ?_
  refine wp_region_held_drew (S := Bx g0 a b c d) (by kernel_rfl) hbx (fun hHeld => ?_)
  unfold Bx at hHeld
  refine tq 0 ?_
  refine tq 1 ?_
  refine comes_up 2 rfl (by kernel_rfl) (fun K hK => ?_)
  go_simp
  refine hby2.mono ?_
  rintro e w3 ⟨v3, rfl, ho3, hr3, hg3⟩
  have hR3 : w3.heap[w.heap.size]? = some (.cells #[.int .u64 0, .int .i64 0, .int .u64 0, .int .i64 0, .slice none 0 0] 41 (0, 0)) := (hg3.block w.heap.size (Array.getElem?_eq_some_iff.1 hR2).1 (by simp; omega)).trans hR2
  have hbx3 : Bx g0 a b c d w3 := by
    have hlt : g0 < W2.heap.size := World.block_lt_of_cell? W2 _ hbx.1
    have key : ∀ j v, W2.cell? ⟨g0, j, none⟩ = some v → w3.cell? ⟨g0, j, none⟩ = some v := fun j v hc => (World.cell?_of_block (a := ⟨g0, j, none⟩) (hg3.block g0 hlt (by simp; omega))).trans hc
    exact ⟨key _ _ hbx.1, key _ _ hbx.2.1, key _ _ hbx.2.2.1, key _ _ hbx.2.2.2⟩
  obtain ⟨ao, cap, rfl⟩ := row_shape ho3
  have hR4 := fun j => cell_setRow_same _ _ j _ #[.int .u64 (a : Nat), .int .i64 b, .int .u64 (c : Nat), .int .i64 d, .slice ao ms.length cap] _ _ hR3
  have hbx4 : Bx g0 a b c d (w3.setRow w.heap.size #[.int .u64 (a : Nat), .int .i64 b, .int .u64 (c : Nat), .int .i64 d, .slice ao ms.length cap]) := by
    have key : ∀ j v, w3.cell? ⟨g0, j, none⟩ = some v → (w3.setRow w.heap.size #[.int .u64 (a : Nat), .int .i64 b, .int .u64 (c : Nat), .int .i64 d, .slice ao ms.length cap]).cell? ⟨g0, j, none⟩ = some v := fun j v hc => (cell_setRow_other _ _ _ _ (by show g0 ≠ w.heap.size; omega)).trans hc
    exact ⟨key _ _ hbx3.1, key _ _ hbx3.2.1, key _ _ hbx3.2.2.1, key _ _ hbx3.2.2.2⟩
  have HE : Hid ((w3.setRow w.heap.size #[.int .u64 (a : Nat), .int .i64 b, .int .u64 (c : Nat), .int .i64 d, .slice ao ms.length cap]).ownsRow w.heap.size 5 1 (.slice ao ms.length cap) ms.length (ms.map Cd.by8) ∧ Cd.Rd (w3.setRow w.heap.size #[.int .u64 (a : Nat), .int .i64 b, .int .u64 (c : Nat), .int .i64 d, .slice ao ms.length cap]) r st2 ∧ w.grownBy (w3.setRow w.heap.size #[.int .u64 (a : Nat), .int .i64 b, .int .u64 (c : Nat), .int .i64 d, .slice ao ms.length cap]) (some r)) := by
    refine ⟨?_, rd_setRow hr3 (by omega) hR3 (noByte_ent _ _ _ _ _ _ _), gr_row (Cd.grown_trans hg2 hg3) (Nat.le_refl _) _⟩
    refine own_gr (r := w.heap.size) (Cd.owns_mono ho3 hz2) ⟨rfl, rfl, rfl, by simp, fun k hk hne => setRow_other _ _ _ _ (by simpa using hne)⟩ (fun k hk => ?_)
    have h1 := (ho3.lt k hk).1
    have h2 : w.heap.size < W2.heap.size := (Array.getElem?_eq_some_iff.1 hR2).1
    have h3 : W2.drew.heap.size = W2.heap.size := rfl
    omega
  clear hby2 ho3 hr3 hg3 hbx hR2 hg2 hz2
  go_wp2_with fail
  refine hK.out _ _ hbx3 (fun hHeld => ?_)
  clear hK K
  (try simp only [Act.put, List.setIfInBounds_toArray, List.set_cons_zero, List.set_cons_succ])
  refine tq 3 ?_
  refine comes_up 4 rfl (by kernel_rfl) (fun K hK => ?_)
  refine step_store_row rfl 41 (.tmp 2) (.tmp 9) rfl w.heap.size #[.int .u64 (a : Nat), .int .i64 b, .int .u64 (c : Nat), .int .i64 d, .slice ao ms.length cap] rfl rfl 41 _ hR3 infoS29 rfl (by simp [Value.oneCell']) ?_
  refine hK.out _ _ hbx4 (fun hHeld => ?_)
  clear hK K
  (try simp only [Act.put])
  refine wpAnyH_done (by kernel_rfl) ?_ _
  refine NoPanic.normal ?_
  have k0 := hR4 0
  have k1 := hR4 1
  have k2 := hR4 2
  have k3 := hR4 3
  have k4 := hR4 4
  simp at k0 k1 k2 k3 k4
  go_wp2
  refine bodyPost_ret (v := .agg #[.int .u64 (a : Nat), .int .i64 b, .int .u64 (c : Nat), .int .i64 d, .slice ao ms.length cap]) ?_ rfl ?_
  · simp [results, Tryz.results125, go_sem, k0, k1, k2, k3, k4]
  · exact ⟨_, rfl, HE.out⟩
end Go.Proofs.YtlaihgdfedalmaaGreat

/-
  A view's message that is an entry: Decode.
-/
namespace Go.Proofs.YtlaihgdfedalmaaGreat
open Go.RowKit
set_option linter.unusedVariables false
set_option linter.unusedSimpArgs false

def Ze : Array Value := #[.int .u64 0, .int .i64 0, .int .u64 0, .int .i64 0, .slice none 0 0]
def Zs : Array Value := #[.slice none 0 0, .slice none 0 0, .int .i64 0, .int .u64 0, .int .i64 0]
/-- What Decode holds of memory. -/
structure Dn (w W : World) (r b : Nat) (c8 c9 : Array Value) (st : Option (List UInt8)) : Prop where
  rd : Cd.Rd W r st
  a1 : W.heap[w.heap.size]? = some (.cells Ze 41 (0, 0))
  a2 : W.heap[w.heap.size + 1]? = some (.cells Zs 45 (0, 0))
  e8 : W.heap[b]? = some (.cells c8 41 (0, 0))
  e9 : W.heap[b + 1]? = some (.cells c9 45 (0, 0))
  bl : Below w.heap.size w W
  rl : w.heap.size + 1 < r
  rb : r < b
variable {w W W' : World} {r b : Nat} {c8 c9 : Array Value} {st st' : Option (List UInt8)}
theorem Dn.step (h : Dn w W r b c8 c9 st) (hr : Cd.Rd W' r st') (g : W.grownBy W' (some r)) : Dn w W' r b c8 c9 st' :=
  have key : ∀ k o, W.heap[k]? = some o → k ≠ r → W'.heap[k]? = some o := fun k o hk hne => (g.block k (Array.getElem?_eq_some_iff.1 hk).1 (by simpa using hne)).trans hk
  { rd := hr, a1 := key _ _ h.a1 (by have := h.rl; omega), a2 := key _ _ h.a2 (by have := h.rl; omega), e8 := key _ _ h.e8 (by have := h.rb; omega), e9 := key _ _ h.e9 (by have := h.rb; omega), bl := bl_grown h.bl h.bl.size g (fun k hk => by cases hk; have := h.rl; omega), rl := h.rl, rb := h.rb }
theorem Dn.below (h : Dn w W r b c8 c9 st) (u : Below W.heap.size W W') : Dn w W' r b c8 c9 st :=
  have key : ∀ k o, W.heap[k]? = some o → W'.heap[k]? = some o := fun k o hk => (u.block k (Array.getElem?_eq_some_iff.1 hk).1).trans hk
  { rd := Cd.rd_below h.rd u, a1 := key _ _ h.a1, a2 := key _ _ h.a2, e8 := key _ _ h.e8, e9 := key _ _ h.e9, bl := bl_step h.bl u, rl := h.rl, rb := h.rb }
theorem Dn.set8 (h : Dn w W r b c8 c9 st) (hn : noByte c8) (cs : Array Value) : Dn w (W.setRow b cs) r b cs c9 st :=
  have hb := h.rb
  have hr := h.rl
  { rd := rd_setRow h.rd (by omega) h.e8 hn, a1 := (setRow_other _ _ _ _ (by omega)).trans h.a1, a2 := (setRow_other _ _ _ _ (by omega)).trans h.a2, e8 := setRow_heap _ _ _ _ _ _ h.e8, e9 := (setRow_other _ _ _ _ (by omega)).trans h.e9, bl := bl_row h.bl (by omega) cs, rl := hr, rb := hb }
theorem infoS38 : (Tryz.prog.info? 45).map (·.size) = some 5 := by kernel_rfl
theorem own_row {w : World} {B n g : Nat} {v : Value} {xs : List Value} (h : w.ownsRow B 5 1 v n xs) (cs : Array Value) (hr : ∀ k, v.ownBlock = some k → k ≠ g) : (w.setRow g cs).ownsRow B 5 1 v n xs :=
  own_gr (r := g) h ⟨rfl, rfl, rfl, by simp, fun k hk hne => setRow_other _ _ _ _ (by simpa using hne)⟩ hr
/-- A summary of zero values in a block of its own. -/
def Ez (b : Nat) (w : World) : Prop := w.cell? ⟨b, 0, none⟩ = some (.slice none 0 0) ∧ w.cell? ⟨b, 1, none⟩ = some (.slice none 0 0) ∧ w.cell? ⟨b, 2, none⟩ = some (.int .i64 0) ∧ w.cell? ⟨b, 3, none⟩ = some (.int .u64 0) ∧ w.cell? ⟨b, 4, none⟩ = some (.int .i64 0)
def ExZ (b : Nat) (x : Lb) (s : Value) (w : World) : Prop :=
  w.cell? ⟨b, 0, none⟩ = some (.int .u64 (x.1 : Nat)) ∧ w.cell? ⟨b, 1, none⟩ = some (.int .i64 x.2.1) ∧ w.cell? ⟨b, 2, none⟩ = some (.int .u64 (x.2.2.1 : Nat)) ∧ w.cell? ⟨b, 3, none⟩ = some (.int .i64 x.2.2.2) ∧ w.cell? ⟨b, 4, none⟩ = some s ∧ Ez (b + 1) w
theorem ex_row {w : World} {b g : Nat} {x : Lb} {s : Value} (h : ExZ b x s w) (h1 : g ≠ b) (h2 : g ≠ b + 1) (cs : Array Value) : ExZ b x s (w.setRow g cs) :=
  have key : ∀ k j v, g ≠ k → w.cell? ⟨k, j, none⟩ = some v → (w.setRow g cs).cell? ⟨k, j, none⟩ = some v := fun k j v hk hc => (cell_setRow_other _ _ _ _ (by show k ≠ g; omega)).trans hc
  ⟨key _ _ _ h1 h.1, key _ _ _ h1 h.2.1, key _ _ _ h1 h.2.2.1, key _ _ _ h1 h.2.2.2.1, key _ _ _ h1 h.2.2.2.2.1, key _ _ _ h2 h.2.2.2.2.2.1, key _ _ _ h2 h.2.2.2.2.2.2.1, key _ _ _ h2 h.2.2.2.2.2.2.2.1, key _ _ _ h2 h.2.2.2.2.2.2.2.2.1, key _ _ _ h2 h.2.2.2.2.2.2.2.2.2⟩
set_option maxRecDepth 10000 in
set_option maxHeartbeats 1000000 in
theorem decode_one_good (w : World) (ao : Option Addr) (n cap : Nat) (xs : List UInt8) (h : Cd.Row w ao n cap xs) (hn : n ≤ 140737488355328) (st : Option (List UInt8)) (hk : Cd.rInt (some xs) 2 = (1, st)) (hl : ∀ ys, st = some ys → ys.length ≤ 140737488355328)
    (hok : formE (decE st).1.1 (decE st).1.2.length = true ∧ (decE st).2 = some []) :
    Calls Tryz.prog 98 #[.slice ao n cap] w fun e w' => ∃ s, e = .returned (.tuple #[.int .u8 1, ent (decE st).1.1 s, .agg Zs, .int .i64 0]) ∧ w'.ownsRow w.heap.size 5 1 s (decE st).1.2.length ((decE st).1.2.map Cd.by8) ∧ Below w.heap.size w w' := by
  have hb0 : Below w.heap.size w ((w.alloc (.cells Ze 41)).alloc (.cells Zs 45)) := bl2 _ _ _
  have hnew := Cd.newReader_any _ ao n cap xs (h.below hb0 (Nat.le_refl _)) hn
  have hint : ∀ W r, Cd.Rd W r (some xs) → _ := fun W r hW => Cd.int_rd W r (some xs) hW 2 (by omega) (by omega)
  have hre : ∀ W r, Cd.Rd W r st → _ := fun W r hW => readEntry_rd W r st hW hl
  generalize decE st = D at *
  obtain ⟨⟨x, ms⟩, st1⟩ := D
  simp only at hok hre ⊢
  obtain ⟨hfm, hst1⟩ := hok
  rw [hk] at hint
  simp only at hint
  have hfe := fun W a c => formE_any W x a ms.length c
  have hbd := fun W r => Cd.bad_rd W r st1
  have hlf := fun W r => Cd.left_rd W r st1
  have hDn : ∀ w1 w2 r, (w.heap.size + 2) ≤ r → Cd.Rd w1 r (some xs) → Below ((w.alloc (.cells Ze 41)).alloc (.cells Zs 45)).heap.size ((w.alloc (.cells Ze 41)).alloc (.cells Zs 45)) w1 → Cd.Rd w2 r st → w1.grownBy w2 (some r) → Dn w ((w2.alloc (.cells Ze 41)).alloc (.cells Zs 45)) r w2.heap.size Ze Zs st := by
    intro w1 w2 r hr hr1 hb1 hr2 hg
    have hrl := hr1.lt
    have hsz := hg.size
    have hs1 := hb1.size
    have e1 : ((w.alloc (.cells Ze 41)).alloc (.cells Zs 45)).heap.size = w.heap.size + 2 := by simp
    rw [e1] at hs1
    have k1 : ((w.alloc (.cells Ze 41)).alloc (.cells Zs 45)).heap[w.heap.size]? = some (.cells Ze 41 (0, 0)) := (Below.heap_alloc _ _ _ (by simp)).trans (heap_alloc_new _ _)
    have k2 : ((w.alloc (.cells Ze 41)).alloc (.cells Zs 45)).heap[w.heap.size + 1]? = some (.cells Zs 45 (0, 0)) := by
      have := heap_alloc_new (w.alloc (.cells Ze 41)) (.cells Zs 45)
      simpa using this
    have key : ∀ k o, k < w.heap.size + 2 → ((w.alloc (.cells Ze 41)).alloc (.cells Zs 45)).heap[k]? = some o → ((w2.alloc (.cells Ze 41)).alloc (.cells Zs 45)).heap[k]? = some o := fun k o hlt hk =>
      (Below.heap_alloc _ _ _ (by simp; omega)).trans ((Below.heap_alloc _ _ _ (by omega)).trans ((hg.block k (by omega) (by simp; omega)).trans ((hb1.block k (by rw [e1]; exact hlt)).trans hk)))
    have e8 : ((w2.alloc (.cells Ze 41)).alloc (.cells Zs 45)).heap[w2.heap.size]? = some (.cells Ze 41 (0, 0)) := (Below.heap_alloc _ _ _ (by simp)).trans (heap_alloc_new _ _)
    have e9 : ((w2.alloc (.cells Ze 41)).alloc (.cells Zs 45)).heap[w2.heap.size + 1]? = some (.cells Zs 45 (0, 0)) := by
      have := heap_alloc_new (w2.alloc (.cells Ze 41)) (.cells Zs 45)
      simpa using this
    have bl1' : Below w.heap.size w w1 := hb0.trans (hb1.mono (by rw [e1]; omega))
    have bl2' : Below w.heap.size w w2 := bl_grown bl1' bl1'.size hg (fun k hk => by cases hk; omega)
    exact { rd := rd_alloc (rd_alloc hr2 _) _, a1 := key _ _ (by omega) k1, a2 := key _ _ (by omega) k2, e8 := e8, e9 := e9, bl := bl2'.trans ((bl2 w2 _ _).mono bl2'.size), rl := by omega, rb := by omega }
  have hsz0 : ((w.alloc (.cells Ze 41)).alloc (.cells Zs 45)).heap.size = w.heap.size + 2 := by simp
  obtain ⟨xa, xb, xc, xd⟩ := x
  unfold Ze Zs at hnew hDn hsz0
  go_enter Tryz.func98, Tryz.ntmps98
  go_wp2_with fail
  refine hnew.mono ?_
  rintro e w1 ⟨r, rfl, hrb, hr1, hb1⟩
  rw [hsz0] at hrb
  clear hnew hsz0 h hb0
  go_wp2_with fail
  refine (hint w1 r hr1).mono ?_
  rintro e w2 ⟨rfl, hr2, hg2⟩
  have G := hDn w1 w2 r hrb hr1 hb1 hr2 hg2
  have hre2 := hre _ r G.rd
  have hxl := hr1.lt
  clear hint hDn hre hr1 hb1 hr2 hg2
  unfold ent at hre2
  go_wp2_with fail
  refine hre2.mono ?_
  rintro e w3 ⟨s, rfl, ho3, hr3, hg3⟩
  obtain ⟨so, sc, rfl⟩ := row_shape ho3
  have G3 := G.step hr3 hg3
  have h8 := G3.e8
  have G4 := G3.set8 (noByte_ent _ _ _ _ _ _ _) #[.int .u64 (xa : Nat), .int .i64 xb, .int .u64 (xc : Nat), .int .i64 xd, .slice so ms.length sc]
  have hbl3 : w2.heap.size < w3.heap.size := (Array.getElem?_eq_some_iff.1 h8).1
  obtain ⟨b8, hb8⟩ : ∃ b, Hid (w2.heap.size = b) := ⟨_, rfl⟩
  have ho4 : (w3.setRow w2.heap.size #[.int .u64 (xa : Nat), .int .i64 xb, .int .u64 (xc : Nat), .int .i64 xd, .slice so ms.length sc]).ownsRow w.heap.size 5 1 (.slice so ms.length sc) ms.length (ms.map Cd.by8) := by
    refine own_gr (r := w2.heap.size) (Cd.owns_mono ho3 (G.bl.size)) ⟨rfl, rfl, rfl, by simp, fun k hk hne => setRow_other _ _ _ _ (by simpa using hne)⟩ (fun k hk => ?_)
    have h1 := (ho3.lt k hk).1
    simp at h1
    omega
  have hnk : ∀ k, (Value.slice so ms.length sc).ownBlock = some k → w.heap.size + 1 < k := fun k hk => by
    have h1 := (ho3.lt k hk).1
    have h2 := G.rl
    have h3 := G.rb
    simp at h1
    omega
  obtain ⟨W4, hW4⟩ : ∃ W, Hid (w3.setRow w2.heap.size #[.int .u64 (xa : Nat), .int .i64 xb, .int .u64 (xc : Nat), .int .i64 xd, .slice so ms.length sc] = W) := ⟨_, rfl⟩
  rw [hW4.out, hb8.out] at G4
  rw [hW4.out] at ho4
  rw [hb8.out] at h8
  have kE : ∀ j, W4.cell? ⟨b8, j, none⟩ = _ := fun j => cell_of_row W4 b8 j _ 41 (0, 0) G4.e8
  have k0 := kE 0
  have k1 := kE 1
  have k2 := kE 2
  have k3 := kE 3
  have k4 := kE 4
  simp at k0 k1 k2 k3 k4
  clear hre2 G ho3 hr3 hg3 G3 kE hbl3
  go_wp2_with (first | (rw [hb8.out]; refine wpList_store_row rfl 41 (.tmp 8) (.tmp 20) rfl b8 #[.int .u64 (xa : Nat), .int .i64 xb, .int .u64 (xc : Nat), .int .i64 xd, .slice so ms.length sc] rfl rfl 41 _ h8 infoS29 rfl (by simp [Value.oneCell']) ?_; rw [← hb8.out, hW4.out, hb8.out]; clear h8 hW4 hb8))
  refine (hfe _ so sc).mono ?_
  rintro e w5 ⟨rfl, hu5⟩
  have G5 := G4.below hu5.bl
  have ho5 := own_bytes_below ho4 hu5.bl
  have hbd5 := hbd w5 r G5.rd
  have hlf5 := hlf w5 r G5.rd
  clear hfe hbd hlf G4 ho4 hu5 k0 k1 k2 k3 k4
  rw [hfm]
  rw [hst1] at hbd5 hlf5
  simp only [Option.isNone_some] at hbd5
  simp only [Cd.rLeft, List.length_nil] at hlf5
  rw [show ((0 : Nat) : Int) = 0 from rfl] at hlf5
  have G6 := G5.below (show Below w5.heap.size w5 w5.drew from (Below.refl _ _).drew)
  have ho6 := own_bytes_below ho5 (show Below w5.heap.size w5 w5.drew from (Below.refl _ _).drew)
  have q1 := G6.a1
  have q2 := G6.a2
  have q2' : (w5.drew.setRow w.heap.size #[.int .u64 (xa : Nat), .int .i64 xb, .int .u64 (xc : Nat), .int .i64 xd, .slice so ms.length sc]).heap[w.heap.size + 1]? = some (.cells Zs 45 (0, 0)) := (setRow_other _ _ _ _ (by omega)).trans q2
  have q1' := setRow_heap _ _ _ #[.int .u64 (xa : Nat), .int .i64 xb, .int .u64 (xc : Nat), .int .i64 xd, .slice so ms.length sc] _ _ q1
  have f1 : ((w5.drew.setRow w.heap.size #[.int .u64 (xa : Nat), .int .i64 xb, .int .u64 (xc : Nat), .int .i64 xd, .slice so ms.length sc]).setRow (w.heap.size + 1) #[.slice none 0 0, .slice none 0 0, .int .i64 0, .int .u64 0, .int .i64 0]).heap[w.heap.size]? = some (.cells #[.int .u64 (xa : Nat), .int .i64 xb, .int .u64 (xc : Nat), .int .i64 xd, .slice so ms.length sc] 41 (0, 0)) := (setRow_other _ _ _ _ (by omega)).trans q1'
  have f2 := setRow_heap _ _ _ #[.slice none 0 0, .slice none 0 0, .int .i64 0, .int .u64 0, .int .i64 0] _ _ q2'
  have hrb5 := G6.rb
  have hrl5 := G6.rl
  have s0 : ExZ b8 (xa, xb, xc, xd) (.slice so ms.length sc) w5.drew := by
    have h1 := fun j => cell_of_row _ b8 j _ 41 (0, 0) G6.e8
    have h2 := fun j => cell_of_row _ (b8 + 1) j _ 45 (0, 0) G6.e9
    exact ⟨h1 0, h1 1, h1 2, h1 3, h1 4, h2 0, h2 1, h2 2, h2 3, h2 4⟩
  have s1 := ex_row (g := w.heap.size) s0 (by omega) (by omega) #[.int .u64 (xa : Nat), .int .i64 xb, .int .u64 (xc : Nat), .int .i64 xd, .slice so ms.length sc]
  have s2 := ex_row (g := w.heap.size + 1) s1 (by omega) (by omega) #[.slice none 0 0, .slice none 0 0, .int .i64 0, .int .u64 0, .int .i64 0]
  have HE : Hid (((w5.drew.setRow w.heap.size #[.int .u64 (xa : Nat), .int .i64 xb, .int .u64 (xc : Nat), .int .i64 xd, .slice so ms.length sc]).setRow (w.heap.size + 1) #[.slice none 0 0, .slice none 0 0, .int .i64 0, .int .u64 0, .int .i64 0]).ownsRow w.heap.size 5 1 (.slice so ms.length sc) ms.length (ms.map Cd.by8) ∧ Below w.heap.size w ((w5.drew.setRow w.heap.size #[.int .u64 (xa : Nat), .int .i64 xb, .int .u64 (xc : Nat), .int .i64 xd, .slice so ms.length sc]).setRow (w.heap.size + 1) #[.slice none 0 0, .slice none 0 0, .int .i64 0, .int .u64 0, .int .i64 0])) := by
    refine ⟨?_, bl_row (bl_row G6.bl (Nat.le_refl _) _) (by omega) _⟩
    exact own_row (own_row ho6 _ (fun k hk => by have := hnk k hk; omega)) _ (fun k hk => by have := hnk k hk; omega)
  have kA := fun j => cell_of_row _ w.heap.size j _ 41 (0, 0) f1
  have kB := fun j => cell_of_row _ (w.heap.size + 1) j _ 45 (0, 0) f2
  have a0 := kA 0
  have a1 := kA 1
  have a2 := kA 2
  have a3 := kA 3
  have a4 := kA 4
  have b0 := kB 0
  have b1 := kB 1
  have b2 := kB 2
  have b3 := kB 3
  have b4 := kB 4
  simp at a0 a1 a2 a3 a4 b0 b1 b2 b3 b4
  obtain ⟨HS0, HS1, HS2⟩ : Hid (ExZ b8 (xa, xb, xc, xd) (.slice so ms.length sc) w5.drew) ∧ Hid _ ∧ Hid _ := ⟨s0, s1, s2⟩
  clear kA kB f1 f2 G5 ho5 G6 ho6 q1' hnk hrb5 hrl5 s0 s1 s2
  go_wp2_with fail
  refine hbd5.mono ?_
  rintro e w6 ⟨rfl, rfl⟩
  clear hbd5
  go_wp2_with fail
  refine hlf5.mono ?_
  rintro e w7 ⟨rfl, rfl⟩
  clear hlf5
  go_wp2_with fail
  refine wp_region_noPanic ?_
  refine wp_region_held_drew (S := ExZ b8 (xa, xb, xc, xd) (.slice so ms.length sc)) (by kernel_rfl) HS0.out (fun hHeld => ?_)
  unfold ExZ at hHeld
  refine tq 0 ?_
  refine tq 1 ?_
  refine tq 2 ?_
  refine tq 3 ?_
  refine comes_up 4 rfl (by kernel_rfl) (fun K hK => ?_)
  refine step_store_row rfl 41 (.tmp 3) (.tmp 43) rfl w.heap.size #[.int .u64 (xa : Nat), .int .i64 xb, .int .u64 (xc : Nat), .int .i64 xd, .slice so ms.length sc] rfl rfl 41 _ q1 infoS29 rfl (by simp [Value.oneCell']) ?_
  refine hK.out _ _ HS1.out (fun hHeld => ?_)
  clear hK K
  (try simp only [Act.put])
  refine comes_up 5 rfl (by kernel_rfl) (fun K hK => ?_)
  refine step_store_row rfl 45 (.tmp 4) (.tmp 44) rfl (w.heap.size + 1) #[.slice none 0 0, .slice none 0 0, .int .i64 0, .int .u64 0, .int .i64 0] rfl rfl 45 _ q2' infoS38 rfl (by simp [Value.oneCell']) ?_
  refine hK.out _ _ HS2.out (fun hHeld => ?_)
  clear hK K
  (try simp only [Act.put])
  refine tq 6 ?_
  refine wpAnyH_done (by kernel_rfl) ?_ _
  refine NoPanic.normal ?_
  go_wp2
  refine bodyPost_ret (v := .tuple #[.int .u8 1, ent (xa, xb, xc, xd) (.slice so ms.length sc), .agg Zs, .int .i64 0]) ?_ rfl ?_
  · simp [results, Tryz.results98, go_sem, a0, a1, a2, a3, a4, b0, b1, b2, b3, b4, Ze, Zs, ent]
  · exact ⟨_, rfl, HE.out⟩
end Go.Proofs.YtlaihgdfedalmaaGreat

/-
  Package total's read: what a message of the view holds.
-/
namespace Go.Proofs.YtlaihgdfedalmaaGreat
open Go.RowKit Go.Sort Go.Conc
set_option linter.unusedVariables false
set_option linter.unusedSimpArgs false

/-- A message that is not looked at. -/
def ReadNo (w : World) (k : Int) (e : Ending) (w' : World) : Prop := e = .returned (.tuple #[.int .u8 0, .agg #[.int .u64 0, .int .i64 0, .int .u64 0, .int .i64 0, .slice none 0 0], .agg #[.slice none 0 0, .slice none 0 0, .int .i64 0, .int .u64 0, .int .i64 0], .int .i64 k]) ∧ Below w.heap.size w w'
theorem read_rows (w w1 : World) (h : Below (w.heap.size + 2) ((w.alloc (.cells #[.int .u64 0, .int .i64 0, .int .u64 0, .int .i64 0, .slice none 0 0] 41)).alloc (.cells #[.slice none 0 0, .slice none 0 0, .int .i64 0, .int .u64 0, .int .i64 0] 45)) w1) :
    w1.heap[w.heap.size]? = some (.cells #[.int .u64 0, .int .i64 0, .int .u64 0, .int .i64 0, .slice none 0 0] 41 (0, 0)) ∧ w1.heap[w.heap.size + 1]? = some (.cells #[.slice none 0 0, .slice none 0 0, .int .i64 0, .int .u64 0, .int .i64 0] 45 (0, 0)) ∧ Below w.heap.size w w1 := by
  have e1 : ((w.alloc (.cells #[.int .u64 0, .int .i64 0, .int .u64 0, .int .i64 0, .slice none 0 0] 41)).alloc (.cells #[.slice none 0 0, .slice none 0 0, .int .i64 0, .int .u64 0, .int .i64 0] 45)).heap.size = w.heap.size + 2 := by simp
  refine ⟨(h.block _ (by omega)).trans ((Below.heap_alloc _ _ _ (by simp)).trans (heap_alloc_new _ _)), (h.block _ (by omega)).trans ?_, (bl2 w _ _).trans (h.mono (by omega))⟩
  have := heap_alloc_new (w.alloc (.cells #[.int .u64 0, .int .i64 0, .int .u64 0, .int .i64 0, .slice none 0 0] 41)) (.cells #[.slice none 0 0, .slice none 0 0, .int .i64 0, .int .u64 0, .int .i64 0] 45)
  simpa using this
/-- Two answers' rows are laid. -/
theorem read_fin (W : World) (g : Nat) (h1 : W.heap[g]? = some (.cells #[.int .u64 0, .int .i64 0, .int .u64 0, .int .i64 0, .slice none 0 0] 41 (0, 0))) (h2 : W.heap[g + 1]? = some (.cells #[.slice none 0 0, .slice none 0 0, .int .i64 0, .int .u64 0, .int .i64 0] 45 (0, 0))) (n1 n2 : Array Value) :
    (W.setRow g n1).heap[g + 1]? = some (.cells #[.slice none 0 0, .slice none 0 0, .int .i64 0, .int .u64 0, .int .i64 0] 45 (0, 0)) ∧ (∀ j, ((W.setRow g n1).setRow (g + 1) n2).cell? ⟨g, j, none⟩ = n1[j]?) ∧ (∀ j, ((W.setRow g n1).setRow (g + 1) n2).cell? ⟨g + 1, j, none⟩ = n2[j]?) := by
  have k2 : (W.setRow g n1).heap[g + 1]? = some (.cells #[.slice none 0 0, .slice none 0 0, .int .i64 0, .int .u64 0, .int .i64 0] 45 (0, 0)) := (setRow_other _ _ _ _ (by omega)).trans h2
  have k1 := setRow_heap W g _ n1 _ _ h1
  have k3 : ((W.setRow g n1).setRow (g + 1) n2).heap[g]? = _ := (setRow_other _ _ _ _ (by omega)).trans k1
  have k4 := setRow_heap _ (g + 1) _ n2 _ _ k2
  exact ⟨k2, fun j => cell_of_row _ g j _ 41 (0, 0) k3, fun j => cell_of_row _ (g + 1) j _ 45 (0, 0) k4⟩
set_option maxRecDepth 10000 in
set_option maxHeartbeats 1000000 in
theorem read_nil (w : World) (f : Value) (ao : Option Addr) (n cap : Nat) : Calls Tryz.prog 57 #[.pointer none, f, .slice ao n cap] w (ReadNo w 6) := by
  obtain ⟨a1, a2, u⟩ := read_rows w _ (Below.refl _ _)
  obtain ⟨b2, f1, f2⟩ := read_fin _ _ a1 a2 #[.int .u64 0, .int .i64 0, .int .u64 0, .int .i64 0, .slice none 0 0] #[.slice none 0 0, .slice none 0 0, .int .i64 0, .int .u64 0, .int .i64 0]
  have HF : Hid (ReadNo w 6 (.returned (.tuple #[.int .u8 0, .agg #[.int .u64 0, .int .i64 0, .int .u64 0, .int .i64 0, .slice none 0 0], .agg #[.slice none 0 0, .slice none 0 0, .int .i64 0, .int .u64 0, .int .i64 0], .int .i64 6])) _) := ⟨rfl, bl_rowL (bl_rowL u (Nat.le_refl _) #[.int .u64 0, .int .i64 0, .int .u64 0, .int .i64 0, .slice none 0 0]) (Nat.le_succ _) #[.slice none 0 0, .slice none 0 0, .int .i64 0, .int .u64 0, .int .i64 0]⟩
  have c0 := f1 0
  have c1 := f1 1
  have c2 := f1 2
  have c3 := f1 3
  have c4 := f1 4
  have d0 := f2 0
  have d1 := f2 1
  have d2 := f2 2
  have d3 := f2 3
  have d4 := f2 4
  simp only [List.getElem?_toArray, List.getElem?_cons_zero, List.getElem?_cons_succ] at c0 c1 c2 c3 c4 d0 d1 d2 d3 d4
  clear f1 f2 u
  go_enter Tryz.func57, Tryz.ntmps57
  go_wp2_with (first | (refine wpList_store_row rfl 41 (.tmp 7) (.tmp 29) rfl w.heap.size #[.int .u64 0, .int .i64 0, .int .u64 0, .int .i64 0, .slice none 0 0] rfl rfl 41 _ a1 infoS41 rfl (by simp [Value.oneCell']) ?_) | (refine wpList_store_row rfl 45 (.tmp 8) (.tmp 30) rfl (w.heap.size + 1) #[.slice none 0 0, .slice none 0 0, .int .i64 0, .int .u64 0, .int .i64 0] rfl rfl 45 _ b2 infoS38 rfl (by simp [Value.oneCell']) ?_))
  refine bodyPost_ret (v := .tuple #[.int .u8 0, .agg #[.int .u64 0, .int .i64 0, .int .u64 0, .int .i64 0, .slice none 0 0], .agg #[.slice none 0 0, .slice none 0 0, .int .i64 0, .int .u64 0, .int .i64 0], .int .i64 6]) ?_ rfl HF.out
  simp [results, Tryz.results57, go_sem, c0, c1, c2, c3, c4, d0, d1, d2, d3, d4]
/-- A message that is looked at: what Decode answers, in rows of one's own. -/
def ReadOk (w : World) (D : World → World → Int → Lb → Sv → Sv → Sv → Int → Int → Int → Int → Prop) (e : Ending) (w' : World) : Prop :=
  ∃ W w1 k x m c o nx hn hp er, Below w.heap.size w W ∧ W.heap.size = w.heap.size + 2 ∧ Below W.heap.size W w1 ∧ D W w1 k x m c o nx hn hp er ∧ e = .returned (.tuple #[.int .u8 k, ent x (sv m), .agg #[sv c, sv o, .int .i64 nx, .int .u64 hn, .int .i64 hp], .int .i64 er]) ∧ w' = (w1.setRow w.heap.size #[.int .u64 (x.1 : Nat), .int .i64 x.2.1, .int .u64 (x.2.2.1 : Nat), .int .i64 x.2.2.2, sv m]).setRow (w.heap.size + 1) #[sv c, sv o, .int .i64 nx, .int .u64 hn, .int .i64 hp]
set_option maxRecDepth 10000 in
set_option maxHeartbeats 1000000 in
theorem read_ok (w : World) (q : Nat) (f : Int) (m s : Nat) (hm : m ≠ 0) (hs : s < 65536) (hh : hasN s f = true) (hc4 : w.cell? ⟨q, 4, none⟩ = some (.int .u64 (m : Nat))) (hc6 : w.cell? ⟨q, 6, none⟩ = some (.int .u16 (s : Nat))) (ao : Option Addr) (n cap : Nat)
    (D : World → World → Int → Lb → Sv → Sv → Sv → Int → Int → Int → Int → Prop)
    (hdec : ∀ W, Below w.heap.size w W → Calls Tryz.prog 98 #[.slice ao n cap] W (fun e w1 => ∃ k x m c o nx hn hp er, e = .returned (.tuple #[.int .u8 k, ent x (sv m), .agg #[sv c, sv o, .int .i64 nx, .int .u64 hn, .int .i64 hp], .int .i64 er]) ∧ Below W.heap.size W w1 ∧ D W w1 k x m c o nx hn hp er)) :
    Calls Tryz.prog 57 #[.pointer (some ⟨q, 0, none⟩), .int .i64 f, .slice ao n cap] w (ReadOk w D) := by
  have hrr := fun w1 h => read_rows w w1 h
  have hW : ((w.alloc (.cells #[.int .u64 0, .int .i64 0, .int .u64 0, .int .i64 0, .slice none 0 0] 41)).alloc (.cells #[.slice none 0 0, .slice none 0 0, .int .i64 0, .int .u64 0, .int .i64 0] 45)).heap.size = w.heap.size + 2 := by simp
  obtain ⟨-, -, u⟩ := read_rows w _ (Below.refl _ _)
  have hiv := inView_any ((w.alloc (.cells #[.int .u64 0, .int .i64 0, .int .u64 0, .int .i64 0, .slice none 0 0] 41)).alloc (.cells #[.slice none 0 0, .slice none 0 0, .int .i64 0, .int .u64 0, .int .i64 0] 45)) q m (bl_cell u hc4)
  have hhas := has_any ((w.alloc (.cells #[.int .u64 0, .int .i64 0, .int .u64 0, .int .i64 0, .slice none 0 0] 41)).alloc (.cells #[.slice none 0 0, .slice none 0 0, .int .i64 0, .int .u64 0, .int .i64 0] 45)) s hs f
  have k6 := bl_cell u hc6
  have hd := hdec ((w.alloc (.cells #[.int .u64 0, .int .i64 0, .int .u64 0, .int .i64 0, .slice none 0 0] 41)).alloc (.cells #[.slice none 0 0, .slice none 0 0, .int .i64 0, .int .u64 0, .int .i64 0] 45)) u
  have e1 : decide (m ≠ 0) = true := by simp [hm]
  rw [e1] at hiv
  rw [hh] at hhas
  clear e1 hc4 hc6 hh hm hs hdec
  go_enter Tryz.func57, Tryz.ntmps57
  go_wp2_with fail
  refine hiv.mono ?_
  rintro e w1 ⟨rfl, rfl⟩
  clear hiv
  go_wp2_with fail
  refine hhas.mono ?_
  rintro e w1 ⟨rfl, rfl⟩
  clear hhas k6
  go_wp2_with fail
  refine hd.mono ?_
  rintro e w1 ⟨k, x, m, c, o, nx, hn, hp, er, rfl, u1, hD⟩
  obtain ⟨a1, a2, -⟩ := hrr w1 (by rw [← hW]; exact u1)
  obtain ⟨b2, f1, f2⟩ := read_fin w1 _ a1 a2 #[.int .u64 (x.1 : Nat), .int .i64 x.2.1, .int .u64 (x.2.2.1 : Nat), .int .i64 x.2.2.2, sv m] #[sv c, sv o, .int .i64 nx, .int .u64 hn, .int .i64 hp]
  have HF : Hid (ReadOk w D (.returned (.tuple #[.int .u8 k, ent x (sv m), .agg #[sv c, sv o, .int .i64 nx, .int .u64 hn, .int .i64 hp], .int .i64 er])) ((w1.setRow w.heap.size #[.int .u64 (x.1 : Nat), .int .i64 x.2.1, .int .u64 (x.2.2.1 : Nat), .int .i64 x.2.2.2, sv m]).setRow (w.heap.size + 1) #[sv c, sv o, .int .i64 nx, .int .u64 hn, .int .i64 hp])) := ⟨_, w1, k, x, m, c, o, nx, hn, hp, er, u, hW, u1, hD, rfl, rfl⟩
  unfold ent at *
  obtain ⟨m0, m1, m2⟩ := m
  obtain ⟨cc0, cc1, cc2⟩ := c
  obtain ⟨o0, o1, o2⟩ := o
  unfold sv at *
  simp only at *
  have c0 := f1 0
  have c1 := f1 1
  have c2 := f1 2
  have c3 := f1 3
  have c4 := f1 4
  have d0 := f2 0
  have d1 := f2 1
  have d2 := f2 2
  have d3 := f2 3
  have d4 := f2 4
  simp only [List.getElem?_toArray, List.getElem?_cons_zero, List.getElem?_cons_succ] at c0 c1 c2 c3 c4 d0 d1 d2 d3 d4
  clear f1 f2 u u1 hD hd hrr hW a2
  go_wp2_with (first | (refine wpList_store_row rfl 41 (.tmp 7) (.tmp 35) rfl w.heap.size #[.int .u64 (x.1 : Nat), .int .i64 x.2.1, .int .u64 (x.2.2.1 : Nat), .int .i64 x.2.2.2, .slice m0 m1 m2] rfl rfl 41 _ a1 infoS41 rfl (by simp [Value.oneCell']) ?_) | (refine wpList_store_row rfl 45 (.tmp 8) (.tmp 36) rfl (w.heap.size + 1) #[.slice cc0 cc1 cc2, .slice o0 o1 o2, .int .i64 nx, .int .u64 hn, .int .i64 hp] rfl rfl 45 _ b2 infoS38 rfl (by simp [Value.oneCell']) ?_))
  refine bodyPost_ret (v := .tuple #[.int .u8 k, .agg #[.int .u64 (x.1 : Nat), .int .i64 x.2.1, .int .u64 (x.2.2.1 : Nat), .int .i64 x.2.2.2, .slice m0 m1 m2], .agg #[.slice cc0 cc1 cc2, .slice o0 o1 o2, .int .i64 nx, .int .u64 hn, .int .i64 hp], .int .i64 er]) ?_ rfl HF.out
  simp [results, Tryz.results57, go_sem, c0, c1, c2, c3, c4, d0, d1, d2, d3, d4]
end Go.Proofs.YtlaihgdfedalmaaGreat

/-
  A select met in a walk, as a closed word: the walk does not look into it.
-/
namespace Go.Proofs.YtlaihgdfedalmaaGreat
open Go Go.RowKit Go.Conc

structure WpS (P : Program) (c : Code) (Q : Exit → Act → World → Prop) (a : Act) (w : World) : Prop where
  out : WpN P c Q a w
section
variable {P : Program} {Q : Exit → Act → World → Prop} {a : Act} {w : World}
theorem then_out {y : Code} {e : Exit} {a : Act} {w : World} (h : Exit.then (WpS P y Q) Q e a w) : Exit.then (WpN P y Q) Q e a w := by
  cases e <;> first | exact h.out | exact h
theorem wpS_of {c : Code} (h : c.wp P Q a w) : WpS P c Q a w := ⟨wpN_of h⟩
theorem wpS_seq {x y : Code} (h : x.wp P (Exit.then (WpS P y Q) Q) a w) : WpS P (Code.seq x y) Q a w :=
  ⟨wpN_seq (fun b k cs => let ⟨e, a', w', q, r⟩ := h b k cs; ⟨e, a', w', then_out q, r⟩)⟩
theorem wpS_seq' {x y : Code} (h : WpS P x (Exit.then (WpS P y Q) Q) a w) : WpS P (Code.seq x y) Q a w :=
  ⟨wpN_seq' (wpN_mono h.out (fun _ _ _ q => then_out q))⟩
theorem calls_of_wpS {f : FuncId} {fn : Func} {c : Code} {args : Array Value} {R : Ending → World → Prop}
    (hf : P.funcs[f]? = some fn) (hb : fn.body = some c)
    (h : WpS P c (bodyPost P fn R) { tmps := args ++ Array.replicate (fn.ntmps - args.size) undef, defers := [] } w) : Calls P f args w R := calls_of_wpN hf hb h.out
theorem wpS_send_room {id : Nat} {o : Oper} {l : List Oper} {c cap s r : Nat} {buf : Array Value} {v z : Value} {tm : Bool}
    (hw : Region.wanted o (yielded (o :: l).toArray a.tmps) = true)
    (hr : (execOp a.eval o).run P w = .ok (.comm #[scase c v z] false .select) w)
    (hc : w.heap[c]? = some (.chan cap buf false s r tm)) (hroom : buf.size < cap)
    (h : wpList P (o :: l).toArray Q l (a.put o.dst (.tuple #[goInt 0, .bool false])) (w.setChan c cap (buf.push v) false (s + 1) r tm)) :
    WpS P (Code.region id (o :: l).toArray false) Q a w := ⟨wpN_send_room hw hr hc hroom h⟩
theorem wpS_send_full {id : Nat} {o : Oper} {l : List Oper} {c cap s r : Nat} {buf : Array Value} {v z : Value} {tm : Bool}
    (hw : Region.wanted o (yielded (o :: l).toArray a.tmps) = true)
    (hr : (execOp a.eval o).run P w = .ok (.comm #[scase c v z] false .select) w)
    (hc : w.heap[c]? = some (.chan cap buf false s r tm)) (hfull : cap ≤ buf.size)
    (h : wpList P (o :: l).toArray Q l (a.put o.dst (.tuple #[goInt (-1), .bool false])) w) :
    WpS P (Code.region id (o :: l).toArray false) Q a w := ⟨wpN_send_full hw hr hc hfull h⟩
end
end Go.Proofs.YtlaihgdfedalmaaGreat

/-
  Package total's Bcast.
-/
namespace Go.Proofs.YtlaihgdfedalmaaGreat
open Go.RowKit Go.Sort Go.Conc
set_option linter.unusedVariables false
set_option linter.unusedSimpArgs false

/-- A call has been: the node is T', and only its own blocks have turned. -/
def Stp (w : World) (col : Nat → Nat) (Z : Nat → Prop) (q : Nat) (T' : Tot) (w' : World) : Prop := ∃ col' Z' a', Tt w' col' Z' q T' a' ∧ Gt w col w' col' ∧ (∀ b, Z b → Z' b) ∧ ∀ b, Z' b → Z b ∨ w.heap.size ≤ b
theorem Stp.still {w w' : World} {col : Nat → Nat} {Z : Nat → Prop} {q : Nat} {T : Tot} {a : Ta} (h : Tt w col Z q T a) (u : Below w.heap.size w w') : Stp w col Z q T w' := ⟨col, Z, a, h.still u, Gt.bl col u, fun _ h => h, fun _ h => .inl h⟩
/-- What a call makes anew may be what nobody writes to. -/
theorem Tt.more {w w' : World} {col : Nat → Nat} {Z : Nat → Prop} {q : Nat} {T : Tot} {a : Ta} (h : Tt w col Z q T a) (u : Below w.heap.size w w') : Tt w' col (fun k => Z k ∨ (w.heap.size ≤ k ∧ k < w'.heap.size)) q T a :=
  h.frame (fun b hb => u.block b (h.d.lt b hb)) u.size (Kp.bl u) (fun _ e => .inl e) (fun b e => e.elim (h.d.zf b) (fun e => by
    by_cases hc : col b = 0
    · exact hc
    · have := h.d.lt b (by omega); omega)) (fun b e => e.elim (fun e => Nat.lt_of_lt_of_le (h.d.zl b e) u.size) (fun e => e.2))
theorem Stp.more {w w1 w' : World} {col : Nat → Nat} {Z : Nat → Prop} {q : Nat} {T : Tot} (u : Below w.heap.size w w1) (h : Stp w1 col (fun k => Z k ∨ (w.heap.size ≤ k ∧ k < w1.heap.size)) q T w') : Stp w col Z q T w' := by
  obtain ⟨c, Z', a, h1, h2, h3, h4⟩ := h
  refine ⟨c, Z', a, h1, (Gt.bl col u).trans h2, fun b hb => h3 b (.inl hb), fun b hb => ?_⟩
  have := u.size
  rcases h4 b hb with (e | e) | e
  · exact .inl e
  · exact .inr e.1
  · exact .inr (by omega)
def Tot.bcast (T : Tot) (b : List UInt8) : Tot × Int :=
  if 64 < b.length then (T, 2) else if T.acc = 64 then (T, 7) else if T.qc ≤ T.dl.length then (T, 7) else (({ T with acc := T.acc + 1, dl := T.dl ++ [b] } : Tot).labelAll, 0)
theorem bcast_nil (w : World) (v : Value) : Calls Tryz.prog 16 #[.pointer none, v] w fun e w' => e = .returned (.int .i64 6) ∧ w' = w := by
  go_enter Tryz.func16, Tryz.ntmps16
  go_wp2
  go_ret
  exact ⟨rfl, rfl⟩
theorem bcast_long (w : World) (q : Nat) (ao : Option Addr) (n cap : Nat) (hn : (64 : Int) < (n : Nat)) : Calls Tryz.prog 16 #[.pointer (some ⟨q, 0, none⟩), .slice ao n cap] w fun e w' => e = .returned (.int .i64 2) ∧ w' = w := by
  go_enter Tryz.func16, Tryz.ntmps16
  go_wp2
  go_ret
  exact ⟨rfl, rfl⟩
theorem bcast_all (w : World) (q : Nat) (ao : Option Addr) (n cap : Nat) (hn : ¬ ((64 : Int) < (n : Nat))) (hc : w.cell? ⟨q, 3, none⟩ = some (.int .i64 64)) : Calls Tryz.prog 16 #[.pointer (some ⟨q, 0, none⟩), .slice ao n cap] w fun e w' => e = .returned (.int .i64 7) ∧ w' = w := by
  go_enter Tryz.func16, Tryz.ntmps16
  go_wp2
  go_ret
  exact ⟨rfl, rfl⟩
set_option maxRecDepth 10000 in
set_option maxHeartbeats 2000000 in
theorem bcast_full (w : World) (q : Nat) (ao : Option Addr) (n cap : Nat) (b : List UInt8) (hb : Cd.Row w ao n cap b) (hn : ¬ ((64 : Int) < (n : Nat))) (acc : Nat) (ha : ((acc : Int) == 64) = false) (c3 : w.cell? ⟨q, 3, none⟩ = some (.int .i64 (acc : Nat)))
    (c qc s r : Nat) (buf : Array Value) (c2 : w.cell? ⟨q, 2, none⟩ = some (.chan (some c))) (hc : w.heap[c]? = some (.chan qc buf false s r false)) (hf : qc ≤ buf.size) :
    Calls Tryz.prog 16 #[.pointer (some ⟨q, 0, none⟩), .slice ao n cap] w fun e w' => e = .returned (.int .i64 7) ∧ Below w.heap.size w w' := by
  have hcl := bclone_any w ao n cap b hb (by omega)
  have hlc : c < w.heap.size := (Array.getElem?_eq_some_iff.1 hc).1
  refine calls_of_wpS Tryz.func16 rfl ?_
  simp only [Tryz.ntmps16, List.size_toArray, List.length_cons, List.length_nil, Nat.reduceAdd, Nat.reduceSub, Array.replicate_succ, Array.replicate_zero, List.push_toArray, List.append_toArray, List.nil_append, List.cons_append]
  refine wpS_seq ?_
  go_wp2_with fail
  refine wpS_seq ?_
  go_wp2_with fail
  refine wpS_seq ?_
  go_wp2_with fail
  refine wpS_seq ?_
  go_wp2_with fail
  refine wpS_seq' ?_
  refine wpS_seq ?_
  go_wp2_with fail
  refine hcl.mono ?_
  rintro e w1 ⟨v, rfl, ho, u⟩
  obtain ⟨so, sc, rfl, -, -⟩ := own_bytes ho
  have hc1 := (u.block c hlc).trans hc
  clear hcl ho
  go_wp2_with fail
  refine wpS_seq' ?_
  refine wpS_send_full (c := c) (v := .slice so b.length sc) (z := .slice none 0 0) rfl (by simp [go_sem, execOp, scase, Act.eval]) hc1 hf ?_
  clear hc hc1 c2 c3 hb hlc
  simp only [Act.put, List.setIfInBounds_toArray, List.set_cons_zero, List.set_cons_succ]
  go_wp2_with fail
  refine wpS_of ?_
  go_wp2
  go_ret
  exact ⟨rfl, u⟩
set_option maxRecDepth 10000 in
set_option maxHeartbeats 2000000 in
theorem bcast_room (w : World) (col : Nat → Nat) (Z : Nat → Prop) (q : Nat) (T : Tot) (a : Ta) (h : Tt w col Z q T a) (hl : Lim T (T.dl.length + 1)) (ao : Option Addr) (n cap : Nat) (b : List UInt8) (hb : Cd.Row w ao n cap b) (hn : ¬ ((64 : Int) < (n : Nat))) (hacc : T.acc < 64) (hr : T.dl.length < T.qc) :
    Calls Tryz.prog 16 #[.pointer (some ⟨q, 0, none⟩), .slice ao n cap] w fun e w' => e = .returned (.int .i64 0) ∧ Stp w col Z q ({ T with acc := T.acc + 1, dl := T.dl ++ [b] } : Tot).labelAll w' := by
  have hcl := bclone_any w ao n cap b hb (by omega)
  have ha : ((T.acc : Int) == 64) = false := by have : (T.acc : Int) ≠ 64 := by omega
                                                simpa using this
  have c3 := h.cell 3 (by omega)
  have c2 := h.cell 2 (by omega)
  simp only [tcell] at c2 c3
  have key : Hid (∀ w1 so sc, Below w.heap.size w w1 → Cd.Row w1 so b.length sc b → (∀ ad, so = some ad → w.heap.size ≤ ad.block ∧ ad.block < w1.heap.size) → ∃ (s r : Nat) (buf : Array Value), w1.heap[a.c]? = some (.chan T.qc buf false s r false) ∧ buf.size < T.qc ∧
      (w1.setChan a.c T.qc (buf.push (.slice so b.length sc)) false (s + 1) r false).cell? ⟨q, 3, none⟩ = some (.int .i64 (T.acc : Nat)) ∧ (w1.setChan a.c T.qc (buf.push (.slice so b.length sc)) false (s + 1) r false).frozen? ⟨q, 3, none⟩ = false ∧
      Calls Tryz.prog 48 #[.pointer (some ⟨q, 0, none⟩)] ((w1.setChan a.c T.qc (buf.push (.slice so b.length sc)) false (s + 1) r false).setCell ⟨q, 3, none⟩ (.int .i64 ((T.acc : Int) + 1))) (fun e w' => e = .returned (.tuple #[]) ∧ Stp w col Z q ({ T with acc := T.acc + 1, dl := T.dl ++ [b] } : Tot).labelAll w')) := by
    intro w1 so sc u hrow hblk
    have h1 := h.more u
    obtain ⟨s, r, vs, k1, k2, k3⟩ := h1.d.ch
    obtain ⟨h2, g2⟩ := h1.chan (dl := T.dl ++ [b]) (vs := vs ++ [(so, b.length, sc)]) (s := s + 1) (r := r) (by simp [k2]) (fun j x c e1 e2 => by
      by_cases hj : j < vs.length
      · rw [List.getElem?_append_left hj] at e1
        rw [List.getElem?_append_left (by omega)] at e2
        exact k3 j x c e1 e2
      · rw [List.getElem?_append_right (by omega)] at e1
        rw [List.getElem?_append_right (by omega)] at e2
        rw [k2] at e1
        cases hjj : j - T.dl.length with
        | zero =>
          rw [hjj] at e1 e2
          simp at e1 e2
          subst e1 e2
          exact ⟨hrow, fun ad e _ => .inr (hblk ad e)⟩
        | succ m => rw [hjj] at e1; simp at e1)
    have ep : ((vs ++ [(so, b.length, sc)]).map sv).toArray = ((vs.map sv).toArray).push (.slice so b.length sc) := by simp [sv]
    rw [ep] at h2 g2
    refine ⟨s, r, (vs.map sv).toArray, k1, by simp [k2, hr], ?_, ?_, ?_⟩
    · have := h2.cell 3 (by omega)
      simpa only [tcell] using this
    · exact h2.fr 3
    · have e8 : ((T.acc + 1 : Nat) : Int) = (T.acc : Int) + 1 := by omega
      have h3 := h2.setc (T' := { T with acc := T.acc + 1, dl := T.dl ++ [b] }) (a' := a) 3 (.int .i64 ((T.acc : Int) + 1)) (fun j hj => by unfold tcell; split <;> simp_all) (by omega) (fun W d => ⟨d.ch, d.con, d.am, d.sa, d.bu, d.od, d.tl, d.cc, d.ccb, d.cab, d.csb, d.cbv, d.cov, d.ctv, d.lt, d.zf, d.zl⟩)
      have g3 := g2.trans (Gt.set (col := col) (q := q) (k := 3) (by rw [h2.fq]; omega) (.int .i64 ((T.acc : Int) + 1)))
      refine (labelDelay_any _ col _ q _ a h3 ⟨⟨hl.tn.n, hl.tn.self, hl.tn.vn, hl.tn.vp, hl.tn.vs, hl.tn.st, hl.tn.K⟩, by simpa using hl.seq, by simpa using hl.buf, by simpa using hl.K⟩).mono ?_
      rintro e w' ⟨rfl, col', a', h4, g4⟩
      exact ⟨rfl, Stp.more u ⟨col', _, a', h4, g3.trans g4, fun _ e => e, fun _ e => .inl e⟩⟩
  have hwr : IntKind.wrap .i64 ((T.acc : Int) + 1) = (T.acc : Int) + 1 := by simp [IntKind.wrap, IntKind.bits, IntKind.signed]; omega
  clear h hl hb hr
  refine calls_of_wpS Tryz.func16 rfl ?_
  simp only [Tryz.ntmps16, List.size_toArray, List.length_cons, List.length_nil, Nat.reduceAdd, Nat.reduceSub, Array.replicate_succ, Array.replicate_zero, List.push_toArray, List.append_toArray, List.nil_append, List.cons_append]
  refine wpS_seq ?_
  go_wp2_with fail
  refine wpS_seq ?_
  go_wp2_with fail
  refine wpS_seq ?_
  go_wp2_with fail
  refine wpS_seq ?_
  go_wp2_with fail
  refine wpS_seq' ?_
  refine wpS_seq ?_
  go_wp2_with fail
  refine hcl.mono ?_
  rintro e w1 ⟨v, rfl, ho, u⟩
  obtain ⟨so, sc, rfl, hrow, hblk⟩ := own_bytes ho
  obtain ⟨s, r, buf, k1, k2, k3, k4, k5⟩ := key.out w1 so sc u hrow hblk
  clear hcl ho key c2 c3 hrow hblk u
  go_wp2_with fail
  refine wpS_seq' ?_
  refine wpS_send_room (c := a.c) (v := .slice so b.length sc) (z := .slice none 0 0) rfl (by simp [go_sem, execOp, scase, Act.eval]) k1 k2 ?_
  generalize w1.setChan a.c T.qc (buf.push (.slice so b.length sc)) false (s + 1) r false = w2 at *
  clear k1 k2
  simp only [Act.put, List.setIfInBounds_toArray, List.set_cons_zero, List.set_cons_succ]
  go_wp2_with fail
  refine wpS_of ?_
  go_wp2_with fail
  refine wpS_of ?_
  go_wp2_with fail
  refine k5.mono ?_
  rintro e w3 ⟨rfl, hS⟩
  have HS : Hid _ := hS
  clear hS k5 k3 k4
  go_wp2
  go_ret
  exact ⟨rfl, HS.out⟩
theorem bcast_any (w : World) (col : Nat → Nat) (Z : Nat → Prop) (q : Nat) (T : Tot) (a : Ta) (h : Tt w col Z q T a) (hl : Lim T (T.dl.length + 1)) (hacc : T.acc ≤ 64) (ao : Option Addr) (n cap : Nat) (b : List UInt8) (hb : Cd.Row w ao n cap b) :
    Calls Tryz.prog 16 #[.pointer (some ⟨q, 0, none⟩), .slice ao n cap] w fun e w' => e = .returned (.int .i64 (T.bcast b).2) ∧ Stp w col Z q (T.bcast b).1 w' := by
  have hlen := hb.1
  have c3 := h.cell 3 (by omega)
  have c2 := h.cell 2 (by omega)
  simp only [tcell] at c2 c3
  unfold Tot.bcast
  by_cases h1 : 64 < b.length
  · rw [if_pos h1]
    refine (bcast_long w q ao n cap (by omega)).mono ?_
    rintro e w' ⟨rfl, rfl⟩
    exact ⟨rfl, Stp.still h (Below.refl _ _)⟩
  · rw [if_neg h1]
    by_cases h2 : T.acc = 64
    · rw [if_pos h2]
      rw [h2] at c3
      refine (bcast_all w q ao n cap (by omega) c3).mono ?_
      rintro e w' ⟨rfl, rfl⟩
      exact ⟨rfl, Stp.still h (Below.refl _ _)⟩
    · rw [if_neg h2]
      have ha : ((T.acc : Int) == 64) = false := by
        have : (T.acc : Int) ≠ 64 := by omega
        simpa using this
      by_cases h3 : T.qc ≤ T.dl.length
      · rw [if_pos h3]
        obtain ⟨s, r, vs, k1, k2, k3⟩ := h.d.ch
        refine (bcast_full w q ao n cap b hb (by omega) T.acc ha c3 a.c T.qc s r _ c2 k1 (by simp [k2]; omega)).mono ?_
        rintro e w' ⟨rfl, u⟩
        exact ⟨rfl, Stp.still h u⟩
      · rw [if_neg h3]
        exact bcast_room w col Z q T a h hl ao n cap b hb (by omega) (by omega) (by omega)
end Go.Proofs.YtlaihgdfedalmaaGreat

/-
  A node's parts, one by one: what is kept where its block is as it was.
-/
namespace Go.Proofs.YtlaihgdfedalmaaGreat
open Go.RowKit Go.Sort Go.Conc
set_option linter.unusedVariables false
set_option linter.unusedSimpArgs false
section
variable {w w' : World} {col col' : Nat → Nat} {Z Z' : Nat → Prop} {q : Nat} {T : Tot} {a : Ta} {K' : Nat}
theorem kCh (h : Td w col Z T a) (hb : w'.heap[a.c]? = w.heap[a.c]?) (hk : Kp Z w w') (hz : ∀ b, Z b → Z' b) : ∃ (s r : Nat) (vs : List Sv), w'.heap[a.c]? = some (.chan T.qc (vs.map sv).toArray false s r false) ∧ vs.length = T.dl.length ∧ ∀ (j : Nat) x b, vs[j]? = some x → T.dl[j]? = some b → Mg Z' w' x b := by
  obtain ⟨s, r, vs, c1, c2, c3⟩ := h.ch
  exact ⟨s, r, vs, hb.trans c1, c2, fun j x b e1 e2 => (c3 j x b e1 e2).kp hk hz⟩
theorem kCon (h : Td w col Z T a) (hb : w'.heap[a.cb]? = w.heap[a.cb]?) (hk : Kp Z w w') (hz : ∀ b, Z b → Z' b) (hK : T.K ≤ K') : ∃ m, StoIs w' a.cb K' m ∧ Con w' m T.con ∧ ∀ x s, OkL x → m x = some s → ∀ ad, s.1 = some ad → 0 < s.2.1 → Z' ad.block := by
  obtain ⟨m, c1, c2, c3⟩ := h.con
  refine ⟨m, (c1.of_block hb).mono hK, ⟨c2.1, c2.2.1, c2.2.2.1, fun y t hy hyt => ?_⟩, fun x s hx hs ad e hn => hz _ (c3 x s hx hs ad e hn)⟩
  obtain ⟨bs, q1, q2⟩ := c2.2.2.2 y t hy hyt
  exact ⟨bs, q1, row_kp q2 (c3 y t hy hyt) hk⟩
theorem kAm (h : Td w col Z T a) (hb : w'.heap[a.ab]? = w.heap[a.ab]?) (hK : T.K ≤ K') : ∃ S, Q.SetIs w' a.ab K' S ∧ ∀ x, x ∈ S ↔ x ∈ T.ord := by
  obtain ⟨S, c1, c2⟩ := h.am
  exact ⟨S, set_mono (c1.of_block hb) hK, c2⟩
theorem kSa (h : Td w col Z T a) (hb : w'.heap[a.sb]? = w.heap[a.sb]?) (hK : T.K ≤ K') : ∃ S, Q.SetIs w' a.sb K' S ∧ ∀ x, x ∈ S ↔ x ∈ T.safe := by
  obtain ⟨S, c1, c2⟩ := h.sa
  exact ⟨S, set_mono (c1.of_block hb) hK, c2⟩
theorem kBu (h : Td w col Z T a) (hb : ∀ b, a.bv.ownBlock = some b → w'.heap[b]? = w.heap[b]?) (hk : Kp Z w w') (hz : ∀ b, Z b → Z' b) : ∃ xs : List (Lb × Sv), xs.length = T.buf.length ∧ Rw w' 41 5 a.bv T.buf.length (flatE xs) ∧ ∀ (j : Nat) e x, T.buf[j]? = some e → xs[j]? = some x → x.1 = e.1 ∧ Mg Z' w' x.2 e.2 := by
  obtain ⟨xs, c1, c2, c3⟩ := h.bu
  exact ⟨xs, c1, c2.frame hb, fun j e x e1 e2 => ⟨(c3 j e x e1 e2).1, (c3 j e x e1 e2).2.kp hk hz⟩⟩
theorem kOd (h : Td w col Z T a) (hb : ∀ b, a.ov.ownBlock = some b → w'.heap[b]? = w.heap[b]?) : Rw w' 39 4 a.ov T.ord.length (flat T.ord) := h.od.frame hb
theorem kTl (h : Td w col Z T a) (hb : ∀ b, a.tv.ownBlock = some b → w'.heap[b]? = w.heap[b]?) (hk : Kp Z w w') (hz : ∀ b, Z b → Z' b) : ∃ xs : List El, xs.map (·.1) = T.told ∧ Rw w' 120 6 a.tv T.told.length (f6 xs) ∧ ∀ x ∈ xs, Fx Z' w' x := by
  obtain ⟨xs, c1, c2, c3⟩ := h.tl
  exact ⟨xs, c1, c2.frame hb, fun x hx => ((c3 x hx).kp hk).mono hz⟩
/-- The map of what is safe has turned. -/
theorem Tt.saf (h : Tt w col Z q T a) {n : Nat} {S safe' : List Lb} (hK : T.K ≤ K') (hn : n ≤ K') (hS : Q.SetIs w' a.sb n S) (hx : ∀ x, x ∈ S ↔ x ∈ safe') (g : w.grownBy w' (some a.sb)) :
    Tt w' col Z q { T with safe := safe', K := K' } a ∧ Gt w col w' col := by
  have hsb := h.d.csb
  have hkp : Kp Z w w' := (Turned.of_grown (F := fun k => k = a.sb) g (by simp)).kp (fun k hz e => by have := h.d.zf k hz; rw [e, hsb] at this; omega)
  have hb : ∀ k c, col k = c → 0 < c → c ≠ 5 → w'.heap[k]? = w.heap[k]? := fun k c e h0 h5 => g.block k (h.d.lt k (by omega)) (by simp; exact fun e' => by rw [e'] at e; omega)
  refine ⟨⟨fun k hk => ?_, fun k => ?_, h.fq, ?_⟩, Gt.gr g (fun k e => by cases e; omega)⟩
  · rw [cell_block (hb q 1 h.fq (by omega) (by omega))]
    exact h.cell k hk
  · rw [frozen_block (hb q 1 h.fq (by omega) (by omega))]
    exact h.fr k
  · exact { ch := kCh (T := T) h.d (hb _ _ h.d.cc (by omega) (by omega)) hkp (fun _ e => e), con := kCon (T := T) h.d (hb _ _ h.d.ccb (by omega) (by omega)) hkp (fun _ e => e) hK, am := kAm (T := T) h.d (hb _ _ h.d.cab (by omega) (by omega)) hK, sa := ⟨S, set_mono hS hn, hx⟩, bu := kBu (T := T) h.d (fun b e => hb _ _ (h.d.cbv b e) (by omega) (by omega)) hkp (fun _ e => e), od := kOd (T := T) h.d (fun b e => hb _ _ (h.d.cov b e) (by omega) (by omega)), tl := kTl (T := T) h.d (fun b e => hb _ _ (h.d.ctv b e) (by omega) (by omega)) hkp (fun _ e => e), cc := h.d.cc, ccb := h.d.ccb, cab := h.d.cab, csb := h.d.csb, cbv := h.d.cbv, cov := h.d.cov, ctv := h.d.ctv, lt := fun b hb => Nat.lt_of_lt_of_le (h.d.lt b hb) g.size, zf := h.d.zf, zl := fun b hb => Nat.lt_of_lt_of_le (h.d.zl b hb) g.size }
end
/-- A map of labels is cleared. -/
theorem clear_set {w : World} {b n : Nat} {ls : List Lb} (h : Q.SetIs w b n ls) : ∃ w', (∀ ty, Sem.run Tryz.prog (Builtin.clear_ #[96] ty #[.map (some b)]) w = .ok (.tuple #[]) w') ∧ Q.SetIs w' b 0 [] ∧ w.grownBy w' (some b) := by
  have hlt := h.lt
  obtain ⟨D, ⟨es, clock, hb, F, hs, hD⟩, h2⟩ := h
  refine ⟨{ w with heap := w.heap.setIfInBounds b (.map #[] clock) }, fun ty => ?_, ⟨.map [], ⟨#[], clock, by simp [hlt], ⟨by simp, MapKept.stamped_empty clock, by simp⟩, Nat.le_refl _, rfl⟩, fun x k hx hk => by simp [Maps.has]⟩, ⟨rfl, rfl, rfl, by simp, fun k hk hne => ?_⟩⟩
  · have und96 : Tryz.prog.underlying 96 = some (.map 39 139) := by kernel_rfl
    simp [Builtin.clear_, run_underlying und96, MapKept.run_getObj_map hb, MapKept.run_setObj_map _ hb, Result.andThen]
  · show (w.heap.setIfInBounds b _)[k]? = w.heap[k]?
    rw [Array.getElem?_setIfInBounds_ne (fun e => by subst e; simp at hne)]
end Go.Proofs.YtlaihgdfedalmaaGreat

/-
  One more label in the order: among and order turn.
-/
namespace Go.Proofs.YtlaihgdfedalmaaGreat
open Go.RowKit Go.Sort Go.Conc
set_option linter.unusedVariables false
set_option linter.unusedSimpArgs false
section
variable {w w4 : World} {col : Nat → Nat} {Z : Nat → Prop} {q : Nat} {T : Tot} {a : Ta}
theorem Tt.putO (h : Tt w col Z q T a) (t : Turned (fun k => k = a.ab ∨ a.ov.ownBlock = some k) w w4) {K' : Nat} (hK : T.K ≤ K') {S' ord' : List Lb} (hS : Q.SetIs w4 a.ab K' S') (hS' : ∀ y, y ∈ S' ↔ y ∈ ord') (v : Value) (hR : Rw w4 39 4 v ord'.length (flat ord')) (loc : ∀ b, v.ownBlock = some b → a.ov.ownBlock = some b ∨ w.heap.size ≤ b) :
    ∃ col', Tt (w4.setCell ⟨q, 11, none⟩ v) col' Z q { T with ord := ord', K := K' } { a with ov := v } ∧ Gt w col (w4.setCell ⟨q, 11, none⟩ v) col' := by
  have hsz := t.size
  have hfq := h.fq
  have hbl : ∀ k, 0 < col k → col k ≠ 4 → col k ≠ 7 → w4.heap[k]? = w.heap[k]? := fun k p1 p2 p3 => t.block k (h.d.lt k p1) (fun e => e.elim (fun e => p2 (by rw [e]; exact h.d.cab)) (fun e => p3 (h.d.cov k e)))
  have hkp : Kp Z w w4 := t.kp (fun k hz e => by
    have := h.d.zf k hz
    rcases e with e | e
    · rw [e, h.d.cab] at this; omega
    · rw [h.d.cov k e] at this; omega)
  have hnew : ∀ k, v.ownBlock = some k → ¬ Z k ∧ (0 < col k → col k = 7) := fun k e => by
    rcases loc k e with e' | e'
    · have := h.d.cov k e'
      exact ⟨fun hz => by have := h.d.zf k hz; omega, fun _ => this⟩
    · exact ⟨fun hz => by have := h.d.zl k hz; omega, fun hc => by have := h.d.lt k hc; omega⟩
  have hcol : ∀ k c, col k = c → 0 < c → c ≠ 7 → recol col a.ov.ownBlock v.ownBlock 7 k = c := fun k c e hc h6 => by
    unfold recol
    rw [if_neg (fun e' => by have := (hnew k e').2 (by omega); omega), if_neg (fun e' => by have := h.d.cov k e'; omega)]
    exact e
  have hset : ∀ k, k ≠ q → (w4.setCell ⟨q, 11, none⟩ v).heap[k]? = w4.heap[k]? := fun k hk => Below.heap_setCell _ _ _ _ hk
  have hblk : ∀ k c, col k = c → 1 < c → c ≠ 4 → c ≠ 7 → (w4.setCell ⟨q, 11, none⟩ v).heap[k]? = w.heap[k]? := fun k c e hc h4 h7 => (hset k (fun e' => by rw [e', hfq] at e; omega)).trans (hbl k (by omega) (by omega) (by omega))
  have hkp2 : Kp Z w (w4.setCell ⟨q, 11, none⟩ v) := fun ad u hz hu => by
    rw [World.cell?_setCell_other _ _ _ _ (fun e => by have := h.d.zf _ hz; rw [← e] at this; simp at this; omega)]
    exact hkp ad u hz hu
  have hs2 : (w4.setCell ⟨q, 11, none⟩ v).heap.size = w4.heap.size := by simp [World.setCell]
  have hqb : w4.heap[q]? = w.heap[q]? := hbl q (by omega) (by omega) (by omega)
  have hid : ∀ b, Z b → Z b := fun _ e => e
  refine ⟨recol col a.ov.ownBlock v.ownBlock 7, ⟨fun k hk => ?_, fun k => ?_, hcol q 1 hfq (by omega) (by omega), ?_⟩, ?_⟩
  · by_cases e : k = 11
    · subst e
      exact World.cell?_setCell_same w4 _ _ ((cell_block hqb).trans (h.cell 11 hk))
    · rw [World.cell?_setCell_other _ _ _ _ (by intro e'; simp only [Addr.mk.injEq] at e'; omega), cell_block hqb, h.cell k hk]
      congr 1
      unfold tcell
      split <;> first | rfl | omega
  · rw [World.frozen?_setCell, frozen_block hqb]
    exact h.fr k
  · refine { ch := kCh (T := T) (a := a) h.d (hblk _ _ h.d.cc (by omega) (by omega) (by omega)) hkp2 hid, con := kCon (T := T) (a := a) h.d (hblk _ _ h.d.ccb (by omega) (by omega) (by omega)) hkp2 hid hK, am := ⟨S', hS.of_block (hset _ (fun e => by have := h.d.cab; rw [e] at this; omega)), hS'⟩, sa := kSa (T := T) (a := a) h.d (hblk _ _ h.d.csb (by omega) (by omega) (by omega)) hK, bu := kBu (T := T) (a := a) h.d (fun b e => hblk _ _ (h.d.cbv b e) (by omega) (by omega) (by omega)) hkp2 hid, od := hR.frame (fun k e => hset k (fun e' => by have := (hnew k e).2 (by rw [e', hfq]; omega); rw [e', hfq] at this; omega)), tl := kTl (T := T) (a := a) h.d (fun b e => hblk _ _ (h.d.ctv b e) (by omega) (by omega) (by omega)) hkp2 hid, cc := hcol _ _ h.d.cc (by omega) (by omega), ccb := hcol _ _ h.d.ccb (by omega) (by omega), cab := hcol _ _ h.d.cab (by omega) (by omega), csb := hcol _ _ h.d.csb (by omega) (by omega), cbv := fun b e => hcol _ _ (h.d.cbv b e) (by omega) (by omega), cov := fun b e => by unfold recol; rw [if_pos e], ctv := fun b e => hcol _ _ (h.d.ctv b e) (by omega) (by omega), lt := fun k hk => ?_, zf := fun k hz => ?_, zl := fun k hz => by have := h.d.zl k hz; omega }
    · unfold recol at hk
      split at hk
      · rename_i e
        rw [hs2]
        exact hR.lt k e
      · split at hk
        · omega
        · have := h.d.lt k hk; omega
    · unfold recol
      rw [if_neg (fun e => (hnew k e).1 hz)]
      split
      · rfl
      · exact h.d.zf k hz
  · refine ⟨(t.mono (fun i e => ?_)).setCell (p := ⟨q, 11, none⟩) (.inl (by show 0 < col q; omega)) v, fun b hb => ?_⟩
    · rcases e with e | e
      · rw [e, h.d.cab]; omega
      · rw [h.d.cov i e]; omega
    · unfold recol at hb
      split at hb
      · rename_i e
        rcases loc b e with e' | e'
        · exact .inl (by rw [h.d.cov b e']; omega)
        · exact .inr e'
      · split at hb
        · omega
        · exact .inl hb
end
end Go.Proofs.YtlaihgdfedalmaaGreat

/-
  A new order: its labels and the set of them lie in new memory.
-/
namespace Go.Proofs.YtlaihgdfedalmaaGreat
open Go.RowKit Go.Sort Go.Conc
set_option linter.unusedVariables false
set_option linter.unusedSimpArgs false
/-- The colours behind it. -/
def ocol (col : Nat → Nat) (ab m : Nat) (ov v : Value) : Nat → Nat := fun k => if k = m then 4 else if v.ownBlock = some k then 7 else if k = ab ∨ ov.ownBlock = some k then 0 else col k
section
variable {w w4 : World} {col : Nat → Nat} {Z : Nat → Prop} {q : Nat} {T : Tot} {a : Ta}
theorem Tt.newO (h : Tt w col Z q T a) (u : Below w.heap.size w w4) {K' : Nat} (hK : T.K ≤ K') {S' ord' : List Lb} {m : Nat} (hm : w.heap.size ≤ m) (hS : Q.SetIs w4 m K' S') (hS' : ∀ y, y ∈ S' ↔ y ∈ ord') (v : Value) (hR : Rw w4 39 4 v ord'.length (flat ord')) (loc : ∀ b, v.ownBlock = some b → w.heap.size ≤ b ∧ b ≠ m) :
    Tt ((w4.setCell ⟨q, 11, none⟩ v).setCell ⟨q, 12, none⟩ (.map (some m))) (ocol col a.ab m a.ov v) Z q { T with ord := ord', K := K' } { a with ov := v, ab := m } ∧ Gt w col ((w4.setCell ⟨q, 11, none⟩ v).setCell ⟨q, 12, none⟩ (.map (some m))) (ocol col a.ab m a.ov v) := by
  obtain ⟨W, hW⟩ : ∃ W, (w4.setCell ⟨q, 11, none⟩ v).setCell ⟨q, 12, none⟩ (.map (some m)) = W := ⟨_, rfl⟩
  have hsz := u.size
  have hfq := h.fq
  have hql := h.d.lt q (by omega)
  have h4 := h.still u
  have hs2 : W.heap.size = w4.heap.size := by rw [← hW]; simp [World.setCell]
  have hset : ∀ k, k ≠ q → W.heap[k]? = w4.heap[k]? := fun k hk => by
    rw [← hW]; exact (Below.heap_setCell _ _ _ _ hk).trans (Below.heap_setCell _ _ _ _ hk)
  have hcol : ∀ k c, col k = c → 0 < c → c ≠ 4 → c ≠ 7 → ocol col a.ab m a.ov v k = c := fun k c e hc h4 h7 => by
    have hkl := h.d.lt k (by omega)
    unfold ocol
    rw [if_neg (by omega), if_neg (fun e' => by have := (loc k e').1; omega), if_neg (fun e' => e'.elim (fun e' => by rw [e', h.d.cab] at e; omega) (fun e' => by have := h.d.cov k e'; omega))]
    exact e
  have hblk : ∀ k c, col k = c → 1 < c → W.heap[k]? = w.heap[k]? := fun k c e hc => (hset k (fun e' => by rw [e', hfq] at e; omega)).trans (u.block k (h.d.lt k (by omega)))
  have hkp2 : Kp Z w W := fun ad x hz hx => by
    have hne : ad.block ≠ q := fun e => by have := h.d.zf _ hz; rw [e] at this; omega
    have := h.d.zl _ hz
    rw [World.cell?_of_block (w := w) ((hset _ hne).trans (u.block _ this))]
    exact hx
  have hid : ∀ b, Z b → Z b := fun _ e => e
  have hmq : m ≠ q := by omega
  have hcell : ∀ k, k < 20 → W.cell? ⟨q, k, none⟩ = some (tcell { T with ord := ord', K := K' } { a with ov := v, ab := m } k) := fun k hk => by
    rw [← hW]
    by_cases e : k = 12
    · subst e
      exact World.cell?_setCell_same _ _ _ ((World.cell?_setCell_other _ _ _ _ (by intro e'; simp only [Addr.mk.injEq] at e'; omega)).trans (h4.cell 12 (by omega)))
    · rw [World.cell?_setCell_other _ _ _ _ (by intro e'; simp only [Addr.mk.injEq] at e'; omega)]
      by_cases e2 : k = 11
      · subst e2
        exact World.cell?_setCell_same w4 _ _ (h4.cell 11 (by omega))
      · rw [World.cell?_setCell_other _ _ _ _ (by intro e'; simp only [Addr.mk.injEq] at e'; omega), h4.cell k hk]
        congr 1
        unfold tcell
        split <;> first | rfl | omega
  have hfr : ∀ k, W.frozen? ⟨q, k, none⟩ = false := fun k => by rw [← hW, World.frozen?_setCell, World.frozen?_setCell]; exact h4.fr k
  have hgt : Gt w col W (ocol col a.ab m a.ov v) := by
    refine ⟨?_, fun b hb => ?_⟩
    · rw [← hW]
      exact ((Turned.of_below u).setCell (p := ⟨q, 11, none⟩) (.inl (by show 0 < col q; omega)) v).setCell (p := ⟨q, 12, none⟩) (.inl (by show 0 < col q; omega)) _
    · unfold ocol at hb
      split at hb
      · rename_i e; exact .inr (by omega)
      · split at hb
        · rename_i e; exact .inr (loc b e).1
        · split at hb
          · omega
          · exact .inl hb
  rw [hW]
  refine ⟨⟨hcell, hfr, hcol q 1 hfq (by omega) (by omega) (by omega), ?_⟩, hgt⟩
  refine { ch := kCh (T := T) (a := a) h.d (hblk _ _ h.d.cc (by omega)) hkp2 hid, con := kCon (T := T) (a := a) h.d (hblk _ _ h.d.ccb (by omega)) hkp2 hid hK, am := ⟨S', hS.of_block (hset _ hmq), hS'⟩, sa := kSa (T := T) (a := a) h.d (hblk _ _ h.d.csb (by omega)) hK, bu := kBu (T := T) (a := a) h.d (fun b e => hblk _ _ (h.d.cbv b e) (by omega)) hkp2 hid, od := hR.frame (fun k e => hset k (fun e' => by have := (loc k e).1; omega)), tl := kTl (T := T) (a := a) h.d (fun b e => hblk _ _ (h.d.ctv b e) (by omega)) hkp2 hid, cc := hcol _ _ h.d.cc (by omega) (by omega) (by omega), ccb := hcol _ _ h.d.ccb (by omega) (by omega) (by omega), cab := by unfold ocol; rw [if_pos rfl], csb := hcol _ _ h.d.csb (by omega) (by omega) (by omega), cbv := fun b e => hcol _ _ (h.d.cbv b e) (by omega) (by omega) (by omega), cov := fun b e => by unfold ocol; rw [if_neg (loc b e).2, if_pos e], ctv := fun b e => hcol _ _ (h.d.ctv b e) (by omega) (by omega) (by omega), lt := fun k hk => ?_, zf := fun k hz => ?_, zl := fun k hz => by have := h.d.zl k hz; omega }
  · unfold ocol at hk
    split at hk
    · rename_i e; rw [hs2, e]; exact hS.lt
    · split at hk
      · rename_i e; rw [hs2]; exact hR.lt k e
      · split at hk
        · omega
        · have := h.d.lt k hk; omega
  · have h1 := h.d.zf k hz
    have h2 := h.d.zl k hz
    unfold ocol
    rw [if_neg (by omega), if_neg (fun e => by have := (loc k e).1; omega)]
    split
    · rfl
    · exact h1
end
end Go.Proofs.YtlaihgdfedalmaaGreat

/-
  Package total's line.put: one more label behind all others, if it isn't among them.
-/
namespace Go.Proofs.YtlaihgdfedalmaaGreat
open Go.RowKit Go.Sort Go.Conc
set_option linter.unusedVariables false
set_option linter.unusedSimpArgs false

theorem tcell_K (T : Tot) (a : Ta) (K' k : Nat) : tcell { T with K := K' } a k = tcell T a k := by unfold tcell; split <;> rfl
theorem Tt.monoK {w : World} {col : Nat → Nat} {Z : Nat → Prop} {q : Nat} {T : Tot} {a : Ta} (h : Tt w col Z q T a) {K' : Nat} (hK : T.K ≤ K') : Tt w col Z q { T with K := K' } a :=
  ⟨fun k hk => by rw [tcell_K]; exact h.cell k hk, h.fr, h.fq, { ch := h.d.ch, con := kCon (T := T) h.d rfl (fun _ _ _ e => e) (fun _ e => e) hK, am := kAm (T := T) h.d rfl hK, sa := kSa (T := T) h.d rfl hK, bu := h.d.bu, od := h.d.od, tl := h.d.tl, cc := h.d.cc, ccb := h.d.ccb, cab := h.d.cab, csb := h.d.csb, cbv := h.d.cbv, cov := h.d.cov, ctv := h.d.ctv, lt := h.d.lt, zf := h.d.zf, zl := h.d.zl }⟩
def Tot.putO (T : Tot) (x : Lb) : Tot := { T with ord := if x ∈ T.ord then T.ord else T.ord ++ [x], K := T.K + 1 }
def S6p (q B ab : Nat) (b0 b1 b2 b3 : Value) (r : Bool) (W : World) : Prop := W.cell? ⟨q, 12, none⟩ = some (.map (some ab)) ∧ W.cell? ⟨B, 0, none⟩ = some b0 ∧ W.cell? ⟨B, 1, none⟩ = some b1 ∧ W.cell? ⟨B, 2, none⟩ = some b2 ∧ W.cell? ⟨B, 3, none⟩ = some b3 ∧ (Instr.lookup 96 (.map (some ab)) (.agg #[b0, b1, b2, b3]) true).run Tryz.prog W = .ok (.tuple #[.agg #[], .bool r]) W
def S5p (q o B : Nat) (v b0 b1 b2 b3 : Value) (W : World) : Prop := W.cell? ⟨q, o, none⟩ = some v ∧ W.cell? ⟨B, 0, none⟩ = some b0 ∧ W.cell? ⟨B, 1, none⟩ = some b1 ∧ W.cell? ⟨B, 2, none⟩ = some b2 ∧ W.cell? ⟨B, 3, none⟩ = some b3
set_option maxRecDepth 10000 in
set_option maxHeartbeats 2000000 in
theorem putL_any (w : World) (col : Nat → Nat) (Z : Nat → Prop) (q : Nat) (T : Tot) (a : Ta) (h : Tt w col Z q T a) (x : Lb) (hx : OkL x) (hK : T.K < 1000000) (hol : T.ord.length ≤ 4999) :
    Calls Tryz.prog 60 #[.pointer (some ⟨q, 11, none⟩), lab x] w fun e w' => e = .returned (.tuple #[]) ∧ LabPost w col Z q (T.putO x) w' := by
  have hql : q < w.heap.size := h.d.lt q (by rw [h.fq]; omega)
  have hal : a.ab < w.heap.size := h.d.lt a.ab (by rw [h.d.cab]; omega)
  have hqa : q ≠ a.ab := fun e => by have h1 := h.fq; have h2 := h.d.cab; rw [← e] at h2; omega
  obtain ⟨wa, hwa⟩ : ∃ wa, w.alloc (.cells #[.int .u64 (x.1 : Nat), .int .i64 x.2.1, .int .u64 (x.2.2.1 : Nat), .int .i64 x.2.2.2] 39) = wa := ⟨_, rfl⟩
  have u1 : Below w.heap.size w wa.drew := by rw [← hwa]; exact (bl1 _ _).drew
  have s1 : wa.drew.heap.size = w.heap.size + 1 := by rw [← hwa]; show (w.alloc _).heap.size = _; simp
  have hB1 : wa.drew.heap[w.heap.size]? = some (.cells #[.int .u64 (x.1 : Nat), .int .i64 x.2.1, .int .u64 (x.2.2.1 : Nat), .int .i64 x.2.2.2] 39 (0, 0)) := by rw [← hwa]; exact heap_alloc_new w _
  obtain ⟨S, c1, c2⟩ := h.d.am
  have hxS : decide (x ∈ S) = decide (x ∈ T.ord) := decide_eq_decide.2 (c2 x)
  have hS6 : ∀ W : World, Below wa.drew.heap.size wa.drew W → S6p q w.heap.size a.ab (.int .u64 (x.1 : Nat)) (.int .i64 x.2.1) (.int .u64 (x.2.2.1 : Nat)) (.int .i64 x.2.2.2) (decide (x ∈ T.ord)) W := fun W u => by
    have hb : W.heap[w.heap.size]? = wa.drew.heap[w.heap.size]? := u.block _ (by omega)
    have hc := fun j => (cell_block (o := j) hb).trans (cell_of_heap hB1 j)
    refine ⟨((h.still u1).still u).cell 12 (by omega), hc 0, hc 1, hc 2, hc 3, ?_⟩
    have := ((c1.of_block (w' := W) ((u.block _ (by omega)).trans (u1.block _ hal))).look hx)
    rw [hxS] at this
    exact this
  obtain ⟨w2, hw2⟩ : ∃ w2, (wa.alloc (.cells #[] 139)).drew = w2 := ⟨_, rfl⟩
  have u2 : Below wa.drew.heap.size wa.drew w2 := by rw [← hw2]; exact bl1 wa.drew (.cells #[] 139)
  have hs1 := hS6 wa.drew (Below.refl _ _)
  have hs2 := hS6 w2 u2
  have HW1 : Hid (w.alloc (.cells #[.int .u64 (x.1 : Nat), .int .i64 x.2.1, .int .u64 (x.2.2.1 : Nat), .int .i64 x.2.2.2] 39) = wa) := hwa
  have HW2 : Hid ((wa.alloc (.cells #[] 139)).drew = w2) := hw2
  have h2 := (h.still u1).still u2
  have hB2 : w2.heap[w.heap.size]? = some (.cells #[.int .u64 (x.1 : Nat), .int .i64 x.2.1, .int .u64 (x.2.2.1 : Nat), .int .i64 x.2.2.2] 39 (0, 0)) := (u2.block _ (by omega)).trans hB1
  have G2 : Hid (Gt w col w2 col) := (Gt.bl col u1).trans (Gt.bl col u2)
  have s2 := u2.size
  by_cases hin : x ∈ T.ord
  · rw [decide_eq_true hin] at hs1 hs2
    have hT : T.putO x = { T with K := T.K + 1 } := by unfold Tot.putO; rw [if_pos hin]
    have HF : Hid (LabPost w col Z q (T.putO x) w2) := by
      rw [hT]
      exact ⟨col, a, h2.monoK (Nat.le_succ _), G2.out⟩
    unfold lab
    clear h h2 c1 c2 hS6 hxS hB1 hB2 hwa hw2 hT u1 u2 hx hK hol hin G2
    go_enter Tryz.func60, Tryz.ntmps60
    go_wp2_with fail
    rw [HW1.out]
    refine wp_region_noPanic ?_
    refine wp_region_held_drew (S := S6p q w.heap.size a.ab (.int .u64 (x.1 : Nat)) (.int .i64 x.2.1) (.int .u64 (x.2.2.1 : Nat)) (.int .i64 x.2.2.2) true) (by kernel_rfl) (hs1) (fun hHeld => ?_)
    unfold S6p at hHeld
    refine tq 0 ?_
    refine tq 1 ?_
    refine tq 2 ?_
    refine tq 3 ?_
    refine tq 4 ?_
    refine tq 5 ?_
    refine tq 6 ?_
    refine tq 7 ?_
    refine tq 8 ?_
    refine comes_up 9 rfl (by kernel_rfl) (fun K hK => ?_)
    go_simp
    rw [HW2.out]
    refine hK.out _ _ (hs2) (fun hHeld => ?_)
    clear hK K
    (try simp only [Act.put, List.setIfInBounds_toArray, List.set_cons_zero, List.set_cons_succ])
    refine comes_up 10 rfl (by kernel_rfl) (fun K hK => ?_)
    go_simp

    refine hK.out _ _ (hs2) (fun hHeld => ?_)
    clear hK K
    (try simp only [Act.put, List.setIfInBounds_toArray, List.set_cons_zero, List.set_cons_succ])
    refine tq 11 ?_
    refine wpAnyH_done (by kernel_rfl) ?_ _
    refine NoPanic.normal ?_
    clear hHeld hs1 hs2
    go_wp2
    refine bodyPost_ret (results_none rfl _ _ _) rfl ?_
    exact ⟨rfl, HF.out⟩
  · rw [decide_eq_false hin] at hs1 hs2
    have hT : T.putO x = { T with ord := T.ord ++ [x], K := T.K + 1 } := by unfold Tot.putO; rw [if_neg hin]
    have ud : Below w2.heap.size w2 w2.drew := (Below.refl _ _).drew
    have hb := h2.still ud
    have hB2d : w2.drew.heap[w.heap.size]? = w2.heap[w.heap.size]? := rfl
    have hcab := hb.d.cab
    have hfq := hb.fq
    have hol7 : ∀ k, a.ov.ownBlock = some k → col k = 7 := hb.d.cov
    have hlt := hb.d.lt
    obtain ⟨w4, hrun4, hS4, g4⟩ := (c1.of_block (w' := w2.drew) ((u2.block _ (by omega)).trans (u1.block _ hal))).store (by unfold maxLen; omega) hx
    have hs4 := g4.size
    have hsd : w2.drew.heap.size = w2.heap.size := rfl
    have bq4 : w4.heap[q]? = w2.heap[q]? := g4.block q (hlt q (by omega)) (by simp; exact hqa)
    have bB4 : w4.heap[w.heap.size]? = w2.heap[w.heap.size]? := g4.block _ (by omega) (by simp; omega)
    have hc3 : ∀ (W : World), W.heap[w.heap.size]? = w2.heap[w.heap.size]? → ∀ j, W.cell? ⟨w.heap.size, j, none⟩ = (#[.int .u64 (x.1 : Nat), .int .i64 x.2.1, .int .u64 (x.2.2.1 : Nat), .int .i64 x.2.2.2] : Array Value)[j]? := fun W e j => (cell_block e).trans (cell_of_heap hB2 j)
    have hq12 : ∀ W : World, W.heap[q]? = w2.heap[q]? → W.cell? ⟨q, 12, none⟩ = some (.map (some a.ab)) := fun W e => (cell_block e).trans (h2.cell 12 (by omega))
    have hs3 : S5p q 12 w.heap.size (.map (some a.ab)) (.int .u64 (x.1 : Nat)) (.int .i64 x.2.1) (.int .u64 (x.2.2.1 : Nat)) (.int .i64 x.2.2.2) w2.drew := ⟨hq12 _ rfl, hc3 _ rfl 0, hc3 _ rfl 1, hc3 _ rfl 2, hc3 _ rfl 3⟩
    have hs3' : S5p q 12 w.heap.size (.map (some a.ab)) (.int .u64 (x.1 : Nat)) (.int .i64 x.2.1) (.int .u64 (x.2.2.1 : Nat)) (.int .i64 x.2.2.2) w4 := ⟨hq12 _ bq4, hc3 _ bB4 0, hc3 _ bB4 1, hc3 _ bB4 2, hc3 _ bB4 3⟩
    obtain ⟨w5, hw5⟩ : ∃ w5, w4.alloc (.cells #[.int .u64 (x.1 : Nat), .int .i64 x.2.1, .int .u64 (x.2.2.1 : Nat), .int .i64 x.2.2.2] 39) = w5 := ⟨_, rfl⟩
    have u5 : Below w4.heap.size w4 w5.drew := by rw [← hw5]; exact (bl1 _ _).drew
    have bq5 : w5.drew.heap[q]? = w2.heap[q]? := (u5.block q (by have := hlt q (by omega); omega)).trans bq4
    have bB5 : w5.drew.heap[w.heap.size]? = w2.heap[w.heap.size]? := (u5.block _ (by omega)).trans bB4
    have hod4 : Rw w4 39 4 a.ov T.ord.length (flat T.ord) := hb.d.od.frame (fun k e => g4.block k (hlt k (by have := hol7 k e; omega)) (by simp; intro e'; have := hol7 k e; rw [e'] at this; omega))
    have hod5 : Rw w5.drew 39 4 a.ov T.ord.length (flat T.ord) := hod4.frame (fun k e => u5.block k (hod4.lt k e))
    have hcell5 : ∀ j u, (cellsL x)[j]? = some u → w5.drew.cell? ((⟨w4.heap.size, 0, none⟩ : Addr).add j) = some u := fun j u hj => by
      rw [Addr.add_lit, Nat.zero_add, ← hw5]
      exact cell_box w4 #[.int .u64 (x.1 : Nat), .int .i64 x.2.1, .int .u64 (x.2.2.1 : Nat), .int .i64 x.2.2.2] 39 j u (by simpa [cellsL] using hj)
    obtain ⟨v7, w7, hrun7, hR7, g7, loc7⟩ := rw_append (w := w5.drew) und28 infoL rfl (by omega) (by omega) hod5 (by omega) ⟨w4.heap.size, 0, none⟩ 1 (cellsL x) (by simp [cellsL]) hcell5 (fun u hu => by simp [cellsL] at hu; rcases hu with rfl | rfl | rfl | rfl <;> rfl) 43
    have hs5 := u5.size
    have bq7 : w7.heap[q]? = w2.heap[q]? := (g7.block q (by have := hlt q (by omega); omega) (fun e => by have := hol7 q e.symm; omega)).trans bq5
    have bB7 : w7.heap[w.heap.size]? = w2.heap[w.heap.size]? := (g7.block _ (by omega) (fun e => by have h1 := hol7 _ e.symm; have h3 := h.d.lt w.heap.size (by omega); omega)).trans bB5
    obtain ⟨bo, bcap, hbv, _, _⟩ := hod5.shape
    obtain ⟨vo, vcap, hv7, _, _⟩ := hR7.shape
    have hq11 : ∀ W : World, W.heap[q]? = w2.heap[q]? → W.cell? ⟨q, 11, none⟩ = some (.slice bo T.ord.length bcap) := fun W e => (cell_block e).trans ((h2.cell 11 (by omega)).trans (by show some a.ov = _; rw [hbv]))
    have hS11 : ∀ W : World, W.heap[q]? = w2.heap[q]? → W.heap[w.heap.size]? = w2.heap[w.heap.size]? → S5p q 11 w.heap.size (.slice bo T.ord.length bcap) (.int .u64 (x.1 : Nat)) (.int .i64 x.2.1) (.int .u64 (x.2.2.1 : Nat)) (.int .i64 x.2.2.2) W := fun W e1 e2 => ⟨hq11 W e1, hc3 _ e2 0, hc3 _ e2 1, hc3 _ e2 2, hc3 _ e2 3⟩
    have sA := hS11 w4.drew bq4 bB4
    have sB := hS11 w5.drew bq5 bB5
    have sC := hS11 w7 bq7 bB7
    have hc7 := hq11 w7 bq7
    have hf7 : w7.frozen? ⟨q, 11, none⟩ = false := (frozen_block bq7).trans (h2.fr 11)
    have hS7 : Q.SetIs w7 a.ab (T.K + 1) (x :: S) := hS4.of_block ((g7.block _ (by have := hlt a.ab (by omega); omega) (fun e => by have := hol7 _ e.symm; omega)).trans (u5.block _ (by have := hlt a.ab (by omega); omega)))
    have t7 : Turned (fun k => k = a.ab ∨ a.ov.ownBlock = some k) w2.drew w7 := ((Turned.of_grown (F := fun k => k = a.ab ∨ a.ov.ownBlock = some k) g4 (fun k e => .inl (by cases e; rfl))).trans (Turned.of_below (F := fun _ => False) u5) (fun i e => False.elim e)).trans (Turned.of_grown (F := fun k => a.ov.ownBlock = some k) g7 (fun k e => e)) (fun i e => .inl (.inr e))
    have hlen : (T.ord ++ [x]).length = T.ord.length + 1 := by simp
    have hfl : flat (T.ord ++ [x]) = flat T.ord ++ cellsL x := by rw [flat_app]; simp [flat]
    obtain ⟨col', hFin, hGf⟩ := hb.putO t7 (K' := T.K + 1) (Nat.le_succ _) (ord' := T.ord ++ [x]) hS7 (fun y => by simp [c2 y, or_comm]) v7 (by rw [hlen, hfl]; exact hR7) (fun k e => (loc7 k e).imp id (fun hle => by omega))
    have HF : Hid (LabPost w col Z q (T.putO x) (w7.setCell ⟨q, 11, none⟩ v7)) := by
      rw [hT]
      exact ⟨col', _, hFin, (G2.out.trans (Gt.bl col ud)).trans hGf⟩
    have HR4 : Hid ((Instr.mapUpdate 96 (.map (some a.ab)) (lab x) (.agg #[])).run Tryz.prog w2.drew = .ok () w4) := hrun4
    have hrun4' := hrun4
    unfold lab at hrun4'
    rw [hbv] at hrun7
    rw [hv7] at hrun7 HF
    have HR7 := hrun7
    have HW5 : Hid (w4.alloc (.cells #[.int .u64 (x.1 : Nat), .int .i64 x.2.1, .int .u64 (x.2.2.1 : Nat), .int .i64 x.2.2.2] 39) = w5) := hw5
    rw [← hw5] at sB hrun7
    unfold lab
    clear h h2 c1 c2 hS6 hxS hB1 hB2 hwa hw2 hT u1 u2 hx hK hol hin G2 ud hb hB2d hcab hfq hol7 hlt hS4 g4 hs4 hsd bq4 bB4 hc3 hq12 u5 bq5 bB5 hod4 hod5 hcell5 hR7 g7 loc7 hs5 bq7 bB7 hq11 hS11 hS7 t7 hlen hfl hFin hGf HR4 HR7 hrun4 hbv hv7 hw5 HW5
    go_enter Tryz.func60, Tryz.ntmps60
    go_wp2_with fail
    rw [HW1.out]
    refine wp_region_noPanic ?_
    refine wp_region_held_drew (S := S6p q w.heap.size a.ab (.int .u64 (x.1 : Nat)) (.int .i64 x.2.1) (.int .u64 (x.2.2.1 : Nat)) (.int .i64 x.2.2.2) false) (by kernel_rfl) (hs1) (fun hHeld => ?_)
    unfold S6p at hHeld
    refine tq 0 ?_
    refine tq 1 ?_
    refine tq 2 ?_
    refine tq 3 ?_
    refine tq 4 ?_
    refine tq 5 ?_
    refine tq 6 ?_
    refine tq 7 ?_
    refine tq 8 ?_
    refine comes_up 9 rfl (by kernel_rfl) (fun K hK => ?_)
    go_simp
    rw [HW2.out]
    refine hK.out _ _ (hs2) (fun hHeld => ?_)
    clear hK K
    (try simp only [Act.put, List.setIfInBounds_toArray, List.set_cons_zero, List.set_cons_succ])
    refine comes_up 10 rfl (by kernel_rfl) (fun K hK => ?_)
    go_simp
    refine hK.out _ _ (hs2) (fun hHeld => ?_)
    clear hK K
    (try simp only [Act.put, List.setIfInBounds_toArray, List.set_cons_zero, List.set_cons_succ])
    refine tq 11 ?_
    refine wpAnyH_done (by kernel_rfl) ?_ _
    refine NoPanic.normal ?_
    clear hHeld hs1 hs2
    go_wp2_with fail
    refine wp_region_noPanic ?_
    refine wp_region_held_drew (S := S5p q 12 w.heap.size (.map (some a.ab)) (.int .u64 (x.1 : Nat)) (.int .i64 x.2.1) (.int .u64 (x.2.2.1 : Nat)) (.int .i64 x.2.2.2)) (by kernel_rfl) (hs3) (fun hHeld => ?_)
    unfold S5p at hHeld
    refine tq 0 ?_
    refine tq 1 ?_
    refine tq 2 ?_
    refine tq 3 ?_
    refine tq 4 ?_
    refine tq 5 ?_
    refine comes_up 6 rfl (by kernel_rfl) (fun K hK => ?_)
    go_simp
    refine hK.out _ _ (hs3') (fun hHeld => ?_)
    clear hK K
    (try simp only [Act.put, List.setIfInBounds_toArray, List.set_cons_zero, List.set_cons_succ])
    refine wpAnyH_done (by kernel_rfl) ?_ _
    refine NoPanic.normal ?_
    clear hHeld hs3 hs3' hrun4'
    go_wp2_with fail
    refine wp_region_noPanic ?_
    refine beginE (S5p q 11 w.heap.size (.slice bo T.ord.length bcap) (.int .u64 (x.1 : Nat)) (.int .i64 x.2.1) (.int .u64 (x.2.2.1 : Nat)) (.int .i64 x.2.2.2)) 10 (by kernel_rfl) (sA) (fun hHeld => ?_)
    unfold S5p at hHeld
    refine tqE 0 ?_
    refine tqE 1 ?_
    refine tqE 2 ?_
    refine tqE 3 ?_
    refine tqE 4 ?_
    refine tqE 5 ?_
    refine upE 6 rfl (by kernel_rfl) (fun K hK => ?_)
    go_simp
    refine hK.out _ _ (sB) (fun hHeld => ?_)
    clear hK K
    (try simp only [Act.put, List.setIfInBounds_toArray, List.set_cons_zero, List.set_cons_succ])
    refine upE 7 rfl (by kernel_rfl) (fun K hK => ?_)
    refine step_append_run rfl (.tmp 26) (.tmp 28) 43 rfl (.slice bo T.ord.length bcap) (.slice (some ⟨w4.heap.size, 0, none⟩) 1 1) (.slice vo (T.ord.length + 1) vcap) w7 rfl rfl hrun7 ?_
    refine hK.out _ _ (sC) (fun hHeld => ?_)
    clear hK K
    (try simp only [Act.put, List.setIfInBounds_toArray, List.set_cons_zero, List.set_cons_succ])
    refine pureE 8 (v := ?_) rfl (by kernel_rfl) (by kernel_rfl) (by kernel_rfl) (by kernel_rfl) (fun _ _ _ h => h) (Or.inl ⟨by rfl, by intro wx hSw; (try dsimp only at hSw); go_simp; try with_reducible rfl⟩) (by assumption) ?_
    (try simp only [Act.put, List.setIfInBounds_toArray, List.set_cons_zero, List.set_cons_succ])
    refine pureE 9 (v := ?_) rfl (by kernel_rfl) (by kernel_rfl) (by kernel_rfl) (by kernel_rfl) (fun _ _ _ h => h) (Or.inl ⟨by rfl, by intro wx hSw; (try dsimp only at hSw); go_simp; try with_reducible rfl⟩) (by assumption) ?_
    (try simp only [Act.put, List.setIfInBounds_toArray, List.set_cons_zero, List.set_cons_succ])
    refine lastE 10 rfl (by kernel_rfl) (by kernel_rfl) (fun K hK => ?_)
    go_simp
    refine hK.out _ _ ?_
    clear hK K
    (try simp only [Act.put, List.setIfInBounds_toArray, List.set_cons_zero, List.set_cons_succ])
    refine doneE (by kernel_rfl) ?_ _
    refine NoPanic.normal ?_
    go_wp2
    go_end0
    exact ⟨rfl, HF.out⟩
end Go.Proofs.YtlaihgdfedalmaaGreat

/-
  Lists of entries, and of labels, out of bytes.
-/
namespace Go.Proofs.YtlaihgdfedalmaaGreat
open Go.RowKit
set_option linter.unusedVariables false
set_option linter.unusedSimpArgs false

theorem rUint_less (st : Option (List UInt8)) (ys : List UInt8) (h : (Cd.rUint st).2 = some ys) : ∃ xs, st = some xs ∧ ys.length < xs.length := by
  cases st with
  | none => simp [Cd.rUint] at h
  | some xs =>
    refine ⟨xs, rfl, ?_⟩
    unfold Cd.rUint at h
    simp only at h
    split at h
    · cases h
    · rename_i n s hr
      have := Cd.rd_size hr
      simp at h
      subst h
      simp
      omega
theorem decV_less (st : Option (List UInt8)) (ys : List UInt8) (h : (decV st).2 = some ys) : ∃ xs, st = some xs ∧ ys.length < xs.length := by
  unfold decV at h
  split at h
  · cases h
  · rename_i zs hz
    simp at h
    subst h
    obtain ⟨us, h1, h2⟩ := Cd.rInt_len _ _ _ hz
    obtain ⟨xs, h3, h4⟩ := rUint_less _ _ h1
    exact ⟨xs, h3, by omega⟩
theorem decL_less (st : Option (List UInt8)) (ys : List UInt8) (h : (decL st).2 = some ys) : ∃ xs, st = some xs ∧ ys.length < xs.length := by
  unfold decL at h
  split at h
  · rename_i zs hf hz
    simp at h
    subst h
    obtain ⟨us, h1, h2⟩ := Cd.rInt_len _ _ _ hz
    obtain ⟨xs, h3, h4⟩ := Cd.rUint_len _ _ h1
    obtain ⟨vs, h5, h6⟩ := decV_less _ _ h3
    exact ⟨vs, h5, by omega⟩
  · cases h
theorem rBytes_len (st : Option (List UInt8)) (m : Int) (ys : List UInt8) (h : (Cd.rBytes st m).2 = some ys) : ∃ xs, st = some xs ∧ ys.length ≤ xs.length := by
  unfold Cd.rBytes at h
  split at h
  · cases h
  · rename_i zs hz
    split at h
    · cases h
    · simp at h
      subst h
      obtain ⟨us, h1, h2⟩ := Cd.rInt_len _ _ _ hz
      exact ⟨us, h1, by simp; omega⟩
theorem decE_less (st : Option (List UInt8)) (ys : List UInt8) (h : (decE st).2 = some ys) : ∃ xs, st = some xs ∧ ys.length < xs.length := by
  unfold decE at h
  obtain ⟨us, h1, h2⟩ := rBytes_len _ _ _ h
  obtain ⟨xs, h3, h4⟩ := decL_less _ _ h1
  exact ⟨xs, h3, by omega⟩
/-- So many parts; a fault: none of them. -/
def decN {α : Type} (f : Option (List UInt8) → α × Option (List UInt8)) : Nat → Option (List UInt8) → List α × Option (List UInt8)
  | 0, st => ([], st)
  | k + 1, st => match (f st).2, (decN f k (f st).2).2 with
    | some _, some zs => ((f st).1 :: (decN f k (f st).2).1, some zs)
    | _, _ => ([], none)
def combN {α : Type} (es : List α) (r : List α × Option (List UInt8)) : List α × Option (List UInt8) := match r.2 with | none => ([], none) | some zs => (es ++ r.1, some zs)
theorem decN_none {α : Type} (f : Option (List UInt8) → α × Option (List UInt8)) (k : Nat) (st : Option (List UInt8)) (h : (decN f k st).2 = none) : (decN f k st).1 = [] := by
  cases k with
  | zero => rfl
  | succ k =>
    unfold decN at h ⊢
    split at h
    · cases h
    · rfl
theorem combN_start {α : Type} (f : Option (List UInt8) → α × Option (List UInt8)) (k : Nat) (st : Option (List UInt8)) : combN [] (decN f k st) = decN f k st := by
  have := decN_none f k st
  unfold combN
  split
  · rename_i h
    exact Prod.ext (this h).symm h.symm
  · rename_i zs h
    exact Prod.ext (by simp) h.symm
theorem combN_step {α : Type} (f : Option (List UInt8) → α × Option (List UInt8)) (es : List α) (k : Nat) (st : Option (List UInt8)) (ys : List UInt8) (h : (f st).2 = some ys) : combN es (decN f (k + 1) st) = combN (es ++ [(f st).1]) (decN f k (some ys)) := by
  unfold combN
  conv => lhs; unfold decN
  rw [h]
  cases hd : (decN f k (some ys)).2 with
  | none => simp
  | some zs => simp
theorem combN_fail {α : Type} (f : Option (List UInt8) → α × Option (List UInt8)) (es : List α) (k : Nat) (st : Option (List UInt8)) (h : (f st).2 = none) : combN es (decN f (k + 1) st) = ([], none) := by
  unfold combN decN
  rw [h]
theorem rd_gr {w w' : World} {r : Nat} {st : Option (List UInt8)} {row : Option Nat} (h : Cd.Rd w r st) (g : w.grownBy w' row) (hr : ∀ k, row = some k → r < k) : Cd.Rd w' r st := by
  have he : w'.heap[r]? = w.heap[r]? := g.block r h.lt (fun e => by have := hr _ e.symm; omega)
  cases st with
  | none => exact he.trans h
  | some xs =>
    obtain ⟨ao, n, cap, h1, h2, h3⟩ := h
    exact ⟨ao, n, cap, he.trans h1, row_grown h2 g (fun a ha _ e => by have := h3 a ha; have := hr _ e; omega), h3⟩
theorem gr_both {w a b : World} {r : Nat} {row : Option Nat} (h : w.grownBy a (some r)) (g : a.grownBy b row) (hr : ∀ k, row = some k → w.heap.size ≤ k) : w.grownBy b (some r) :=
  ⟨g.os.trans h.os, g.tape.trans h.tape, g.output.trans h.output, Nat.le_trans h.size g.size, fun k hk hne => (g.block k (Nat.lt_of_lt_of_le hk h.size) (fun e => by have := hr _ e.symm; omega)).trans (h.block k hk hne)⟩

set_option maxRecDepth 20000 in
set_option maxHeartbeats 2000000 in
theorem readEs_rd (w : World) (r : Nat) (st : Option (List UInt8)) (h : Cd.Rd w r st) (hl : ∀ xs, st = some xs → xs.length ≤ 1000000) :
    Calls Tryz.prog 157 #[.pointer (some ⟨r, 0, none⟩), .func (.func 125) #[] #[]] w fun e w' => ∃ v, e = .returned v ∧ EO w.heap.size w' v (decN decE (Cd.rInt st 9223372036854775807).1 (Cd.rInt st 9223372036854775807).2).1 ∧ Cd.Rd w' r (decN decE (Cd.rInt st 9223372036854775807).1 (Cd.rInt st 9223372036854775807).2).2 ∧ w.grownBy w' (some r) := by
  have hrl := h.lt
  have hi := Cd.int_rd w r st h 9223372036854775807 (by omega) (by omega)
  have hlen : ∀ ys, (Cd.rInt st 9223372036854775807).2 = some ys → ys.length ≤ 1000000 := fun ys hy => by
    obtain ⟨xs, h1, h2⟩ := Cd.rInt_len _ _ _ hy
    have := hl xs h1
    omega
  have hle := Cd.rInt_le st 9223372036854775807
  have h0 : (Cd.rInt st 9223372036854775807).2 = none → (Cd.rInt st 9223372036854775807).1 = 0 := fun e => by
    unfold Cd.rInt at e ⊢
    split
    · rfl
    · rename_i zs hz
      rw [hz] at e
      simp only at e
      split at e <;> simp_all
  generalize Cd.rInt st 9223372036854775807 = RI at *
  obtain ⟨N, st1⟩ := RI
  simp only at hi hlen hle h0 ⊢
  generalize hF : decN decE N st1 = F
  have HN : (N : Int) ≤ 9223372036854775807 := by
    cases st1 with
    | none => have := h0 rfl; omega
    | some ys => exact (hle ys rfl).2
  have HF : Hid (combN [] (decN decE N st1) = F) := by rw [combN_start]; exact hF
  clear hF hle hl
  have hre : ∀ (W : World) (sk : Option (List UInt8)), Cd.Rd W r sk → (∀ ys, sk = some ys → ys.length ≤ 1000000) → _ := fun W sk hW hb => readEntry_rd W r sk hW (fun xs hx => by have := hb xs hx; omega)
  obtain ⟨i0, hi0, hz0, hz1, hz2⟩ := info_parts infoE29
  go_enter Tryz.func157, Tryz.ntmps157
  go_wp2_with fail
  refine hi.mono ?_
  rintro e w1 ⟨rfl, hr1, hg1⟩
  clear hi h
  go_wp2_with fail
  go_loopw [5, 9] (fun lv iv wr => ∃ (k : Nat) (es : List (Lb × List UInt8)) (sk : Option (List UInt8)), k ≤ N ∧ iv = .int .i64 k ∧ EO w.heap.size wr lv es ∧ es.length = k ∧ Cd.Rd wr r sk ∧ (∀ ys, sk = some ys → k + ys.length ≤ 1000000) ∧ (sk = none → k = 0 ∧ N = 0) ∧ combN es (decN decE (N - k) sk) = F ∧ w.grownBy wr (some r) ∧ (∃ ao cap, lv = .slice ao k cap)) (fun _ iv _ => N - (intOf iv).toNat)
  case atStart => exact ⟨0, [], st1, by omega, rfl, EO.nil _ _, rfl, hr1, fun ys hy => by have := hlen ys hy; omega, fun e => ⟨rfl, h0 e⟩, HF.out, hg1, _, _, rfl⟩
  case round =>
    obtain ⟨k, es, sk, hk, rfl, hE, hek, hrk, hbk, hnk, hcb, hgk, ao, cap, rfl⟩ := hrel
    have HCB : Hid (combN es (decN decE (N - k) sk) = F) := hcb
    clear hcb HF
    by_cases hlt : k < N
    · have hltI : (k : Int) < (N : Int) := by omega
      obtain ⟨yk, rfl⟩ : ∃ y, sk = some y := by
        cases sk with
        | none => have := (hnk rfl).2; omega
        | some y => exact ⟨y, rfl⟩
      have hre1 := hre wr (some yk) hrk (fun ys hy => by have := hbk ys hy; omega)
      have HD : Hid (∀ ys, (decE (some yk)).2 = some ys → ys.length < yk.length) := fun ys hy => by
        obtain ⟨xs, h1, h2⟩ := decE_less _ _ hy
        cases h1
        exact h2
      have hst := combN_step decE es (N - (k + 1)) (some yk)
      have hfa := combN_fail decE es (N - (k + 1)) (some yk)
      rw [show N - (k + 1) + 1 = N - k by omega, HCB.out] at hst hfa
      have HB : Hid (k + yk.length ≤ 1000000) := hbk yk rfl
      generalize decE (some yk) = DE at *
      obtain ⟨⟨⟨a0, a1, a2, a3⟩, mm⟩, st2⟩ := DE
      unfold ent at hre1
      simp only at hre1 HD hst hfa
      have hEsz := hgk.size
      have HVB : Hid (∀ q, (Value.slice ao k cap).ownBlock = some q → q < wr.heap.size) := fun q hq => by
        obtain ⟨_, _, ho, _⟩ := hE
        exact (ownE_lt ho q hq).2
      clear hre hnk hbk HCB
      go_wp2_with fail
      refine hre1.mono ?_
      rintro e w2 ⟨s, rfl, hos, hr2, hg2⟩
      obtain ⟨so, sc, rfl⟩ := row_shape hos
      have hE2 := hE.gr hg2 (fun q hq => by cases hq; omega)
      have hg02 := Cd.grown_trans hgk hg2
      have hu := bl1 w2 (.cells #[.int .u64 (a0 : Nat), .int .i64 a1, .int .u64 (a2 : Nat), .int .i64 a3, .slice so mm.length sc] 41)
      have hr3 := Cd.rd_below hr2 hu
      have hbad := Cd.bad_rd _ r st2 hr3
      have hE3 := hE2.bl hu
      have hg03 := gr_both hg02 (row := none) ⟨hu.os, hu.tape, hu.output, hu.size, fun i hi _ => hu.block i hi⟩ (fun q hq => by cases hq)
      obtain ⟨e0, e1, e2, e3, e4⟩ := ex_new w2 (a0, a1, a2, a3) (.slice so mm.length sc) 41
      simp only at e0 e1 e2 e3 e4
      have HMB : Hid (∀ a : Addr, so = some a → 0 < mm.length → wr.heap.size ≤ a.block ∧ a.block < w2.heap.size) := fun a ha hn => by
        obtain ⟨_, _, hv, _, hB⟩ := Cd.owns_row hos
        simp only [Value.slice.injEq] at hv
        exact ⟨hB a (by rw [← hv.1]; exact ha), Cd.owns_lt hos a ha⟩
      obtain ⟨_, _, hv, hrw, _⟩ := Cd.owns_row hos
      simp only [Value.slice.injEq] at hv
      obtain ⟨rfl, _, rfl⟩ := hv
      have hrw3 := hrw.below hu (Nat.le_refl _)
      obtain ⟨W3, hW3⟩ : ∃ W, Hid (w2.alloc (.cells #[.int .u64 (a0 : Nat), .int .i64 a1, .int .u64 (a2 : Nat), .int .i64 a3, .slice so mm.length sc] 41) = W) := ⟨_, rfl⟩
      rw [hW3.out] at hbad hE3 hg03 e0 e1 e2 e3 e4 hr3 hrw3
      have hlt3 : w2.heap.size < W3.heap.size := by rw [← hW3.out]; simp
      obtain ⟨g2, hg2'⟩ : ∃ g, Hid (w2.heap.size = g) := ⟨_, rfl⟩
      rw [hg2'.out] at e0 e1 e2 e3 e4 hlt3
      clear hre1 hos hr2 hg2 hE hE2 hg02 hu hrw
      cases st2 with
      | none =>
        have HFF : Hid (([], none) = F) := (hfa rfl).symm
        simp only [Option.isNone_none] at hbad
        clear hst hfa HD
        go_wp2_with fail
        rw [hW3.out, hg2'.out]
        refine hbad.mono ?_
        rintro e w4 ⟨rfl, rfl⟩
        clear hbad
        go_wp2
        go_ret
        rw [← HFF.out]
        exact ⟨_, rfl, EO.nil _ _, hr3, hg03⟩
      | some zs =>
        have HFF : Hid (F = combN (es ++ [((a0, a1, a2, a3), mm)]) (decN decE (N - (k + 1)) (some zs))) := hst zs rfl
        have hzl := HD.out zs rfl
        have hkb := HB.out
        simp only [Option.isNone_some] at hbad
        obtain ⟨xs, hxl, hxo, hxm⟩ := id hE3
        have hxo' : W3.ownsRow w.heap.size 41 5 (.slice ao k cap) k (flatE xs) := by rw [← hek]; rw [← hek] at hxo; exact hxo
        have hal := bl1 W3 (.cells #[.int .u64 (a0 : Nat), .int .i64 a1, .int .u64 (a2 : Nat), .int .i64 a3, .slice so mm.length sc] 41)
        have hxoA : (W3.alloc (.cells #[.int .u64 (a0 : Nat), .int .i64 a1, .int .u64 (a2 : Nat), .int .i64 a3, .slice so mm.length sc] 41)).ownsRow w.heap.size 41 5 (.slice ao k cap) k (flatE xs) := hxo'.alloc _
        have hcA : ∀ j u, (cells5 ((a0, a1, a2, a3), (so, mm.length, sc)))[j]? = some u → (W3.alloc (.cells #[.int .u64 (a0 : Nat), .int .i64 a1, .int .u64 (a2 : Nat), .int .i64 a3, .slice so mm.length sc] 41)).cell? ((⟨W3.heap.size, 0, none⟩ : Addr).add j) = some u := fun j u hj => by
          rw [Addr.add_lit, Nat.zero_add]
          exact cell_box W3 _ 41 j u (by simpa [cells5] using hj)
        have hsB : w.heap.size ≤ (W3.alloc (.cells #[.int .u64 (a0 : Nat), .int .i64 a1, .int .u64 (a2 : Nat), .int .i64 a3, .slice so mm.length sc] 41)).heap.size := by have := hg03.size; simp; omega
        clear hst hfa HD
        go_wp2_with fail
        rw [hW3.out, hg2'.out]
        refine hbad.mono ?_
        rintro e w4 ⟨rfl, rfl⟩
        clear hbad
        go_wp2_with (at_builtin; refine wpList_append_own_at _ rfl (.tmp 16) (.tmp 18) 42 rfl w.heap.size 41 i0 (.agg #[.int .u64 0, .int .i64 0, .int .u64 0, .int .i64 0, .slice none 0 0]) 5 56 und35 hi0 hz0 hz1 hz2 rfl (by decide) _ k (flatE xs) rfl ?d1 ⟨W3.heap.size, 0, none⟩ 1 1 (cells5 ((a0, a1, a2, a3), (so, mm.length, sc))) rfl ?d0 ?d2 ?d3 ?d4 ?d5 ?d6 ?_)
        case d1 => exact hxoA
        case d0 => simp [cells5]
        case d2 => exact hcA
        case d3 => intro u hu; simp [cells5] at hu; rcases hu with rfl | rfl | rfl | rfl | rfl <;> rfl
        case d4 => unfold maxLen; omega
        case d5 => omega
        case d6 => exact hsB
        intro v' w5 hown5 hg5 _ hat5
        have HMB' := HMB.out
        rw [hg2'.out] at HMB'
        have hrsz : w.heap.size ≤ wr.heap.size := hEsz
        have hvb : ∀ q, (Value.slice ao k cap).ownBlock = some q → w.heap.size ≤ q ∧ q < wr.heap.size := fun q hq => ⟨(ownE_lt hxo' q hq).1, HVB.out q hq⟩
        have hEf : EO w.heap.size w5 v' (es ++ [((a0, a1, a2, a3), mm)]) := by
          refine EO.snoc (s := (so, mm.length, sc)) hxl (w := W3.alloc (.cells #[.int .u64 (a0 : Nat), .int .i64 a1, .int .u64 (a2 : Nat), .int .i64 a3, .slice so mm.length sc] 41)) (v := .slice ao k cap) (fun j e x he hx => ?_) (hrw3.below hal (Nat.le_refl _)) (fun a ha hn => ⟨Nat.le_trans hrsz (HMB' a ha hn).1, fun hq => ?_⟩) (by rw [hek]; exact hown5) hg5 (by simpa using hat5)
          · obtain ⟨q1, q2, q3⟩ := hxm j e x he hx
            exact ⟨q1, q2.below hal (Nat.le_refl _), fun a ha hn => ⟨(q3 a ha hn).1, Nat.lt_of_lt_of_le (q3 a ha hn).2.1 hal.size, (q3 a ha hn).2.2⟩⟩
          · have := (hvb _ hq).2
            have := (HMB' a ha hn).1
            omega
        have hr5 : Cd.Rd w5 r (some zs) := rd_gr (Cd.rd_below hr3 hal) hg5 (fun q hq => by have := (hvb q hq).1; omega)
        have hg05 : w.grownBy w5 (some r) := gr_both (gr_both hg03 (row := none) ⟨hal.os, hal.tape, hal.output, hal.size, fun i hi _ => hal.block i hi⟩ (fun q hq => by cases hq)) hg5 (fun q hq => (hvb q hq).1)
        obtain ⟨ao5, cp5, hv5, _⟩ := hEf.er
        simp only [List.length_append, List.length_cons, List.length_nil, Nat.zero_add, hek] at hv5
        subst hv5
        have HFE : Hid (EO w.heap.size w5 (.slice ao5 (k + 1) cp5) (es ++ [((a0, a1, a2, a3), mm)]) ∧ Cd.Rd w5 r (some zs) ∧ w.grownBy w5 (some r)) := ⟨hEf, hr5, hg05⟩
        clear hxo hxo' hxoA hcA hown5 hg5 hat5 hE3 hg03 hr3 hrw3 e0 e1 e2 e3 e4 hal hEf hr5 hg05 hvb HMB' hxm
        go_wp2
        go_roundw
        case rel => first | exact ⟨k + 1, es ++ [((a0, a1, a2, a3), mm)], some zs, by omega, by go_num, HFE.out.1, by simp [hek], HFE.out.2.1, fun ys hy => by cases hy; omega, fun e => (by cases e), HFF.out.symm, HFE.out.2.2, _, _, rfl⟩ | ((repeat apply Exists.intro); exact ⟨⟨k + 1, es ++ [((a0, a1, a2, a3), mm)], some zs, by omega, by go_num, HFE.out.1, by simp [hek], HFE.out.2.1, fun ys hy => by cases hy; omega, fun e => (by cases e), HFF.out.symm, HFE.out.2.2, _, _, rfl⟩, rfl⟩)
        case measure => simp [intOf]; omega
    · obtain rfl : N = k := by omega
      have hltI : ¬ ((N : Int) < (N : Int)) := by omega
      have HFF : Hid (F.1 = es ∧ F.2 = sk) := by
        have := HCB.out
        rw [Nat.sub_self] at this
        unfold combN decN at this
        rw [← this]
        cases sk with
        | none =>
          have := (hnk rfl).1
          have : es = [] := List.eq_nil_of_length_eq_zero (by omega)
          subst this
          exact ⟨rfl, rfl⟩
        | some ys => exact ⟨by simp, rfl⟩
      clear HCB hre
      go_wp2
      go_ret
      rw [HFF.out.1, HFF.out.2]
      exact ⟨_, rfl, hE, hrk, hgk⟩
end Go.Proofs.YtlaihgdfedalmaaGreat
