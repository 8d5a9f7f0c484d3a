/-
  Package total's Primary and Waiting.
-/
import Derived.Test.YtlaihgdfedalmaaGreatMix0
import Derived.Test.YtlaihgdfedalmaaGreatTDelay
namespace Go.Proofs.YtlaihgdfedalmaaGreat
open Go.RowKit Go.Sort Go.Conc
set_option linter.unusedVariables false
set_option linter.unusedSimpArgs false

theorem most_any (w : World) (s : Nat) (hs : s < 65536) (n : Int) (h1 : 1 ≤ n) (h2 : n ≤ 16) : Calls Tryz.prog 79 #[.int .u16 (s : Nat), .int .i64 n] w fun e w' => e = .returned (.bool (decide (n < 2 * (cntF 16 s : Nat)))) ∧ ∃ q, w' = w.drewN q := by
  have hc := count_any w s hs
  have hl := cntF_le 16 s
  generalize cntF 16 s = c at *
  go_enter Tryz.func79, Tryz.ntmps79
  go_wp2_with fail
  refine hc.mono ?_
  rintro e w1 ⟨rfl, k, rfl⟩
  clear hc
  go_wp2
  go_ret
  exact ⟨rfl, k, rfl⟩
def S3p (q : Nat) (v4 v6 v0 : Value) (W : World) : Prop := W.cell? ⟨q, 4, none⟩ = some v4 ∧ W.cell? ⟨q, 6, none⟩ = some v6 ∧ W.cell? ⟨q, 0, none⟩ = some v0
set_option maxRecDepth 10000 in
set_option maxHeartbeats 1000000 in
theorem prim_cells (w : World) (q : Nat) (n : Int) (vn vs : Nat) (h1 : 1 ≤ n) (h2 : n ≤ 16) (hs : vs < 65536) (h : S3p q (.int .u64 (vn : Nat)) (.int .u16 (vs : Nat)) (.int .i64 n) w) :
    Calls Tryz.prog 38 #[.pointer (some ⟨q, 0, none⟩)] w fun e w' => e = .returned (.bool (decide (vn ≠ 0) && decide (n < 2 * (cntF 16 vs : Nat)))) ∧ ∃ k, w' = w.drewN k := by
  have hiv := inView_any w.drew q vn h.1
  have hmo := most_any w.drew vs hs n h1 h2
  obtain ⟨b1, hb1⟩ : ∃ b, decide (n < 2 * (cntF 16 vs : Nat)) = b := ⟨_, rfl⟩
  rw [hb1] at hmo ⊢
  have hd : S3p q (.int .u64 (vn : Nat)) (.int .u16 (vs : Nat)) (.int .i64 n) w.drew := h
  by_cases h0 : vn = 0
  · have e1 : decide (vn ≠ 0) = false := by simp [h0]
    rw [e1] at hiv ⊢
    clear hb1 h0 e1
    go_enter Tryz.func38, Tryz.ntmps38
    go_wp2_with fail
    refine wp_region_noPanic ?_
    refine wp_region_held_drew (S := S3p q (.int .u64 (vn : Nat)) (.int .u16 (vs : Nat)) (.int .i64 n)) (by kernel_rfl) (hd) (fun hHeld => ?_)
    unfold S3p at hHeld
    refine tq 0 ?_
    refine tq 1 ?_
    refine tq 2 ?_
    refine tq 3 ?_
    refine comes_up 4 rfl (by kernel_rfl) (fun K hK => ?_)
    go_simp
    refine hiv.mono ?_
    rintro e w1 ⟨rfl, rfl⟩
    go_wp2_with fail
    refine hK.out _ _ (hd) (fun hHeld => ?_)
    clear hK K
    (try simp only [Act.put, List.setIfInBounds_toArray, List.set_cons_zero, List.set_cons_succ])
    refine tq 5 ?_
    refine tq 6 ?_
    refine tqS 7 ?_
    refine tqS 8 ?_
    refine tqS 9 ?_
    refine tqS 10 ?_
    refine tqS 11 ?_
    refine tqS 12 ?_
    refine tqS 13 ?_
    refine tqS 14 ?_
    refine tqS 15 ?_
    refine tqS 16 ?_
    refine tq 17 ?_
    refine tq 18 ?_
    refine wpAnyH_done (by kernel_rfl) ?_ _
    refine NoPanic.normal ?_
    go_wp2
    go_ret
    exact ⟨rfl, 1, rfl⟩
  · have e1 : decide (vn ≠ 0) = true := by simp [h0]
    rw [e1] at hiv ⊢
    clear hb1 h0 e1
    go_enter Tryz.func38, Tryz.ntmps38
    go_wp2_with fail
    refine wp_region_noPanic ?_
    refine wp_region_held_drew (S := S3p q (.int .u64 (vn : Nat)) (.int .u16 (vs : Nat)) (.int .i64 n)) (by kernel_rfl) (hd) (fun hHeld => ?_)
    unfold S3p at hHeld
    refine tq 0 ?_
    refine tq 1 ?_
    refine tq 2 ?_
    refine tq 3 ?_
    refine comes_up 4 rfl (by kernel_rfl) (fun K hK => ?_)
    go_simp
    refine hiv.mono ?_
    rintro e w1 ⟨rfl, rfl⟩
    go_wp2_with fail
    refine hK.out _ _ (hd) (fun hHeld => ?_)
    clear hK K
    (try simp only [Act.put, List.setIfInBounds_toArray, List.set_cons_zero, List.set_cons_succ])
    refine tq 5 ?_
    refine tq 6 ?_
    refine tq 7 ?_
    refine tq 8 ?_
    refine tq 9 ?_
    refine tq 10 ?_
    refine tq 11 ?_
    refine tq 12 ?_
    refine tq 13 ?_
    refine tq 14 ?_
    refine tq 15 ?_
    refine comes_up 16 rfl (by kernel_rfl) (fun K hK => ?_)
    go_simp
    refine hmo.mono ?_
    rintro e w1 ⟨rfl, k, rfl⟩
    go_wp2_with fail
    refine hK.out _ _ ((show S3p q (.int .u64 (vn : Nat)) (.int .u16 (vs : Nat)) (.int .i64 n) (w.drew.drewN k) from h)) (fun hHeld => ?_)
    clear hK K
    (try simp only [Act.put, List.setIfInBounds_toArray, List.set_cons_zero, List.set_cons_succ])
    refine tq 17 ?_
    refine tq 18 ?_
    refine wpAnyH_done (by kernel_rfl) ?_ _
    refine NoPanic.normal ?_
    go_wp2
    go_ret
    exact ⟨by rw [Bool.true_and]; rfl, 1 + k, rfl⟩
def Tot.prim (T : Tot) : Bool := decide (T.vn ≠ 0) && decide (T.n < 2 * (cntF 16 T.vs : Nat))
theorem prim_any {w : World} {col : Nat → Nat} {Z : Nat → Prop} {q : Nat} {T : Tot} {a : Ta} (h : Tt w col Z q T a) (hn : Tn T) : Calls Tryz.prog 38 #[.pointer (some ⟨q, 0, none⟩)] w fun e w' => e = .returned (.bool T.prim) ∧ ∃ k, w' = w.drewN k :=
  prim_cells w q T.n T.vn T.vs hn.n.1 hn.n.2 hn.vs ⟨h.cell 4 (by omega), h.cell 6 (by omega), h.cell 0 (by omega)⟩
def Sq0 (v : Value) (W : World) : Prop := v = v
set_option maxRecDepth 10000 in
set_option maxHeartbeats 1000000 in
theorem prim_nil (w : World) : Calls Tryz.prog 38 #[.pointer none] w fun e w' => e = .returned (.bool false) ∧ ∃ k, w' = w.drewN k := by
  go_enter Tryz.func38, Tryz.ntmps38
  go_wp2_with fail
  refine wp_region_noPanic ?_
  refine wp_region_held_drew (S := Sq0 undef) (by kernel_rfl) rfl (fun hHeld => ?_)
  refine tq 0 ?_
  refine tq 1 ?_
  refine tq 2 ?_
  refine tqS 3 ?_
  refine tqS 4 ?_
  refine tq 5 ?_
  refine tq 6 ?_
  refine tqS 7 ?_
  refine tqS 8 ?_
  refine tqS 9 ?_
  refine tqS 10 ?_
  refine tqS 11 ?_
  refine tqS 12 ?_
  refine tqS 13 ?_
  refine tqS 14 ?_
  refine tqS 15 ?_
  refine tqS 16 ?_
  refine tq 17 ?_
  refine tq 18 ?_
  refine wpAnyH_done (by kernel_rfl) ?_ _
  refine NoPanic.normal ?_
  go_wp2
  go_ret
  exact ⟨rfl, 1, rfl⟩
theorem waiting_nil (w : World) : Calls Tryz.prog 37 #[.pointer none] w fun e w' => e = .returned (.int .i64 0) ∧ w' = w := by
  go_enter Tryz.func37, Tryz.ntmps37
  go_wp2
  go_ret
  exact ⟨rfl, rfl⟩
theorem und93 : Tryz.prog.underlying 93 = some (.chan .both 37) := by kernel_rfl
theorem wpList_len_chan {w : World} {ops : Array Oper} {rest : List Oper} {o : Oper} {a : Act} {Q : Exit → Act → World → Prop} (hgd : o.guard = none) (x : Operand)
    (ho : o.op = .call { callee := .builtin .len, args := #[x], argTypes := #[93] }) (c cap : Nat) (buf : Array Value) (cl : Bool) (s r : Nat) (hx : a.eval x = .chan (some c)) (hc : w.heap[c]? = some (.chan cap buf cl s r false))
    (h : wpList Tryz.prog ops Q rest (a.put o.dst (goInt buf.size)) w) : wpList Tryz.prog ops Q (o :: rest) a w := by
  have hrun : (Builtin.len_ #[93] o.type #[.chan (some c)]).run Tryz.prog w = .ok (goInt buf.size) w := by
    simp [Builtin.len_, run_underlying und93, run_getObj_chan _ _ hc]
  refine wpList_plain hgd fun K hK => ?_
  unfold Oper.wp execOp
  simp only [ho, resolve, invoke, builtin, Sem.run_bind, Sem.run_pure, Result.andThen_ok, List.map_toArray, List.map_cons, List.map_nil, hx, hrun]
  exact hK _ _ h
set_option maxRecDepth 10000 in
set_option maxHeartbeats 1000000 in
theorem waiting_any {w : World} {col : Nat → Nat} {Z : Nat → Prop} {q : Nat} {T : Tot} {a : Ta} (h : Tt w col Z q T a) : Calls Tryz.prog 37 #[.pointer (some ⟨q, 0, none⟩)] w fun e w' => e = .returned (.int .i64 (T.dl.length : Nat)) ∧ w' = w := by
  have hc2 := h.cell 2 (by omega)
  simp only [tcell] at hc2
  obtain ⟨s, r, vs, k1, k2, k3⟩ := h.d.ch
  have HB : Hid ((vs.map sv).toArray.size = T.dl.length) := by unfold Hid; simp [k2]
  generalize (vs.map sv).toArray = B at *
  clear k3 k2 h
  go_enter Tryz.func37, Tryz.ntmps37
  go_wp2_with (refine wpList_len_chan rfl (.tmp 8) rfl a.c T.qc B false s r rfl k1 ?_)
  go_ret
  exact ⟨by rw [← HB.out]; rfl, rfl⟩
end Go.Proofs.YtlaihgdfedalmaaGreat
