/-
  Package total's View.
-/
import Derived.Test.YtlaihgdfedalmaaGreatTStep
import Derived.Test.YtlaihgdfedalmaaGreatMix3
import Derived.Deep.MidRow
namespace Go.Proofs.YtlaihgdfedalmaaGreat
open Go.RowKit Go.Sort Go.Conc
set_option linter.unusedVariables false
set_option linter.unusedSimpArgs false

/-- A view as a value. -/
def vw (n : Nat) (p : Int) (s : Nat) : Value := .agg #[.int .u64 (n : Nat), .int .i64 p, .int .u16 (s : Nat)]
/-- A view begins: nothing of the one before is left but what is known. -/
def Tot.fresh (T : Tot) (n : Nat) (p : Int) (s : Nat) : Tot := { T with vn := n, vp := p, vs := s, st := 0, seq := 0, buf := [], told := [], sf := 0, safe := [] }
def Tot.view (T : Tot) (n : Nat) (p : Int) (s : Nat) : Tot × Int := if gtV (n, p) (T.vn, T.vp) && hasN s T.self then ((T.fresh n p s).labelAll, 0) else (T, 9)
theorem view_nil (w : World) (n : Nat) (p : Int) (s : Nat) : Calls Tryz.prog 18 #[.pointer none, vw n p s] w fun e w' => e = .returned (.int .i64 6) ∧ Below w.heap.size w w' := by
  have u := bl1 w (.cells #[.int .u64 (n : Nat), .int .i64 p, .int .u16 (s : Nat)] 36)
  unfold vw
  go_enter Tryz.func18, Tryz.ntmps18
  go_wp2
  go_ret
  exact ⟨rfl, u⟩
def S6v (g q : Nat) (g0 g1 g2 v4 v5 v1 : Value) (W : World) : Prop := W.cell? ⟨g, 0, none⟩ = some g0 ∧ W.cell? ⟨g, 1, none⟩ = some g1 ∧ W.cell? ⟨g, 2, none⟩ = some g2 ∧ W.cell? ⟨q, 4, none⟩ = some v4 ∧ W.cell? ⟨q, 5, none⟩ = some v5 ∧ W.cell? ⟨q, 1, none⟩ = some v1
theorem S6v.up {g q : Nat} {g0 g1 g2 v4 v5 v1 : Value} {W W' : World} (h : S6v g q g0 g1 g2 v4 v5 v1 W) (u : Below W.heap.size W W') : S6v g q g0 g1 g2 v4 v5 v1 W' :=
  ⟨bl_cell u h.1, bl_cell u h.2.1, bl_cell u h.2.2.1, bl_cell u h.2.2.2.1, bl_cell u h.2.2.2.2.1, bl_cell u h.2.2.2.2.2⟩
section
variable {w : World} {col : Nat → Nat} {Z : Nat → Prop} {q : Nat} {T : Tot} {a : Ta}
/-- The cells that a new view writes. -/
def viewW (w : World) (q n : Nat) (p : Int) (s : Nat) : World := ((((((((w.setCell ⟨q, 4, none⟩ (.int .u64 (n : Nat))).setCell ⟨q, 5, none⟩ (.int .i64 p)).setCell ⟨q, 6, none⟩ (.int .u16 (s : Nat))).setCell ⟨q, 7, none⟩ (.int .u8 0)).setCell ⟨q, 8, none⟩ (.int .u64 0)).setCell ⟨q, 9, none⟩ (.slice none 0 0)).setCell ⟨q, 17, none⟩ (.slice none 0 0)).setCell ⟨q, 18, none⟩ (.int .u16 0))
theorem Tt.viewW (h : Tt w col Z q T a) (n : Nat) (p : Int) (s : Nat) : Tt (viewW w q n p s) col Z q { T.fresh n p s with safe := T.safe } { a with bv := .slice none 0 0, tv := .slice none 0 0 } ∧ Gt w col (Go.Proofs.YtlaihgdfedalmaaGreat.viewW w q n p s) col := by
  have hq : 0 < col q := by rw [h.fq]; omega
  have h1 := h.setc (T' := { T with vn := n }) (a' := a) 4 (.int .u64 (n : Nat)) (fun j hj => by unfold tcell; split <;> simp_all) (by omega) (fun W d => ⟨d.ch, d.con, d.am, d.sa, d.bu, d.od, d.tl, d.cc, d.ccb, d.cab, d.csb, d.cbv, d.cov, d.ctv, d.lt, d.zf, d.zl⟩)
  have h2 := h1.setc (T' := { T with vn := n, vp := p }) (a' := a) 5 (.int .i64 p) (fun j hj => by unfold tcell; split <;> simp_all) (by omega) (fun W d => ⟨d.ch, d.con, d.am, d.sa, d.bu, d.od, d.tl, d.cc, d.ccb, d.cab, d.csb, d.cbv, d.cov, d.ctv, d.lt, d.zf, d.zl⟩)
  have h3 := h2.setc (T' := { T with vn := n, vp := p, vs := s }) (a' := a) 6 (.int .u16 (s : Nat)) (fun j hj => by unfold tcell; split <;> simp_all) (by omega) (fun W d => ⟨d.ch, d.con, d.am, d.sa, d.bu, d.od, d.tl, d.cc, d.ccb, d.cab, d.csb, d.cbv, d.cov, d.ctv, d.lt, d.zf, d.zl⟩)
  have h4 := h3.setc (T' := { T with vn := n, vp := p, vs := s, st := 0 }) (a' := a) 7 (.int .u8 0) (fun j hj => by unfold tcell; split <;> simp_all) (by omega) (fun W d => ⟨d.ch, d.con, d.am, d.sa, d.bu, d.od, d.tl, d.cc, d.ccb, d.cab, d.csb, d.cbv, d.cov, d.ctv, d.lt, d.zf, d.zl⟩)
  have h5 := h4.setc (T' := { T with vn := n, vp := p, vs := s, st := 0, seq := 0 }) (a' := a) 8 (.int .u64 0) (fun j hj => by unfold tcell; split <;> simp_all) (by omega) (fun W d => ⟨d.ch, d.con, d.am, d.sa, d.bu, d.od, d.tl, d.cc, d.ccb, d.cab, d.csb, d.cbv, d.cov, d.ctv, d.lt, d.zf, d.zl⟩)
  have h6 := h5.setc (T' := { T with vn := n, vp := p, vs := s, st := 0, seq := 0, buf := [] }) (a' := { a with bv := .slice none 0 0 }) 9 (.slice none 0 0) (fun j hj => by unfold tcell; split <;> simp_all) (by omega) (fun W d => ⟨d.ch, d.con, d.am, d.sa, ⟨[], rfl, rw_nil _ _ _, fun j e x e1 => by simp at e1⟩, d.od, d.tl, d.cc, d.ccb, d.cab, d.csb, fun b e => by simp [Value.ownBlock] at e, d.cov, d.ctv, d.lt, d.zf, d.zl⟩)
  have h7 := h6.setc (T' := { T with vn := n, vp := p, vs := s, st := 0, seq := 0, buf := [], told := [] }) (a' := { a with bv := .slice none 0 0, tv := .slice none 0 0 }) 17 (.slice none 0 0) (fun j hj => by unfold tcell; split <;> simp_all) (by omega) (fun W d => ⟨d.ch, d.con, d.am, d.sa, d.bu, d.od, ⟨[], rfl, rw_nil _ _ _, fun x hx => by simp at hx⟩, d.cc, d.ccb, d.cab, d.csb, d.cbv, d.cov, fun b e => by simp [Value.ownBlock] at e, d.lt, d.zf, d.zl⟩)
  have h8 := h7.setc (T' := { T with vn := n, vp := p, vs := s, st := 0, seq := 0, buf := [], told := [], sf := 0 }) (a' := { a with bv := .slice none 0 0, tv := .slice none 0 0 }) 18 (.int .u16 0) (fun j hj => by unfold tcell; split <;> simp_all) (by omega) (fun W d => ⟨d.ch, d.con, d.am, d.sa, d.bu, d.od, d.tl, d.cc, d.ccb, d.cab, d.csb, d.cbv, d.cov, d.ctv, d.lt, d.zf, d.zl⟩)
  exact ⟨h8, (((((((Gt.set hq _).trans (Gt.set hq _)).trans (Gt.set hq _)).trans (Gt.set hq _)).trans (Gt.set hq _)).trans (Gt.set hq _)).trans (Gt.set hq _)).trans (Gt.set hq _)⟩
/-- The chain of worlds of a new view's stores. -/
structure Vch (w1 : World) (q n : Nat) (p : Int) (s : Nat) (sb : Nat) (W4 W5 W6 W7 W8 W9 : World) : Prop where
  th : w1.there q 4 3
  e4 : w1.setCells q 4 [.int .u64 (n : Nat), .int .i64 p, .int .u16 (s : Nat)] = W4
  c7 : ∃ x, W4.cell? ⟨q, 7, none⟩ = some (.int .u8 x)
  f7 : W4.frozen? ⟨q, 7, none⟩ = false
  e5 : W4.setCell ⟨q, 7, none⟩ (.int .u8 0) = W5
  c8 : ∃ x, W5.cell? ⟨q, 8, none⟩ = some (.int .u64 x)
  f8 : W5.frozen? ⟨q, 8, none⟩ = false
  e6 : W5.setCell ⟨q, 8, none⟩ (.int .u64 0) = W6
  c9 : ∃ x, W6.cell? ⟨q, 9, none⟩ = some x
  f9 : W6.frozen? ⟨q, 9, none⟩ = false
  e7 : W6.setCell ⟨q, 9, none⟩ (.slice none 0 0) = W7
  c17 : ∃ x, W7.cell? ⟨q, 17, none⟩ = some x
  f17 : W7.frozen? ⟨q, 17, none⟩ = false
  e8 : W7.setCell ⟨q, 17, none⟩ (.slice none 0 0) = W8
  c18 : ∃ x, W8.cell? ⟨q, 18, none⟩ = some (.int .u16 x)
  f18 : W8.frozen? ⟨q, 18, none⟩ = false
  e9 : W8.setCell ⟨q, 18, none⟩ (.int .u16 0) = W9
  c19 : W9.cell? ⟨q, 19, none⟩ = some (.map (some sb))
theorem Tt.vch (h : Tt w col Z q T a) (n : Nat) (p : Int) (s : Nat) : ∃ W4 W5 W6 W7 W8, Vch w q n p s a.sb W4 W5 W6 W7 W8 (Go.Proofs.YtlaihgdfedalmaaGreat.viewW w q n p s) := by
  have co : ∀ (W : World) (k j : Nat) (v : Value), k ≠ j → (W.setCell ⟨q, j, none⟩ v).cell? ⟨q, k, none⟩ = W.cell? ⟨q, k, none⟩ := fun W k j v hk => World.cell?_setCell_other _ _ _ _ (by intro e; simp only [Addr.mk.injEq] at e; omega)
  refine ⟨_, _, _, _, _, ⟨fun j hj => ⟨by rw [h.cell (4 + j) (by omega)]; rfl, h.fr _⟩, rfl, ⟨((T.st : Nat) : Int), ?_⟩, ?_, rfl, ⟨((T.seq : Nat) : Int), ?_⟩, ?_, rfl, ⟨a.bv, ?_⟩, ?_, rfl, ⟨a.tv, ?_⟩, ?_, rfl, ⟨((T.sf : Nat) : Int), ?_⟩, ?_, rfl, ?_⟩⟩
  all_goals (try simp only [Go.Proofs.YtlaihgdfedalmaaGreat.viewW, World.setCells, Nat.reduceAdd, World.frozen?_setCell, h.fr])
  all_goals (try simp only [co _ _ _ _ (show (7 : Nat) ≠ 4 by omega), co _ _ _ _ (show (7 : Nat) ≠ 5 by omega), co _ _ _ _ (show (7 : Nat) ≠ 6 by omega), co _ _ _ _ (show (8 : Nat) ≠ 4 by omega), co _ _ _ _ (show (8 : Nat) ≠ 5 by omega), co _ _ _ _ (show (8 : Nat) ≠ 6 by omega), co _ _ _ _ (show (8 : Nat) ≠ 7 by omega), co _ _ _ _ (show (9 : Nat) ≠ 4 by omega), co _ _ _ _ (show (9 : Nat) ≠ 5 by omega), co _ _ _ _ (show (9 : Nat) ≠ 6 by omega), co _ _ _ _ (show (9 : Nat) ≠ 7 by omega), co _ _ _ _ (show (9 : Nat) ≠ 8 by omega), co _ _ _ _ (show (17 : Nat) ≠ 4 by omega), co _ _ _ _ (show (17 : Nat) ≠ 5 by omega), co _ _ _ _ (show (17 : Nat) ≠ 6 by omega), co _ _ _ _ (show (17 : Nat) ≠ 7 by omega), co _ _ _ _ (show (17 : Nat) ≠ 8 by omega), co _ _ _ _ (show (17 : Nat) ≠ 9 by omega), co _ _ _ _ (show (18 : Nat) ≠ 4 by omega), co _ _ _ _ (show (18 : Nat) ≠ 5 by omega), co _ _ _ _ (show (18 : Nat) ≠ 6 by omega), co _ _ _ _ (show (18 : Nat) ≠ 7 by omega), co _ _ _ _ (show (18 : Nat) ≠ 8 by omega), co _ _ _ _ (show (18 : Nat) ≠ 9 by omega), co _ _ _ _ (show (18 : Nat) ≠ 17 by omega), co _ _ _ _ (show (19 : Nat) ≠ 4 by omega), co _ _ _ _ (show (19 : Nat) ≠ 5 by omega), co _ _ _ _ (show (19 : Nat) ≠ 6 by omega), co _ _ _ _ (show (19 : Nat) ≠ 7 by omega), co _ _ _ _ (show (19 : Nat) ≠ 8 by omega), co _ _ _ _ (show (19 : Nat) ≠ 9 by omega), co _ _ _ _ (show (19 : Nat) ≠ 17 by omega), co _ _ _ _ (show (19 : Nat) ≠ 18 by omega)])
  · exact h.cell 7 (by omega)
  · exact h.cell 8 (by omega)
  · exact h.cell 9 (by omega)
  · exact h.cell 17 (by omega)
  · exact h.cell 18 (by omega)
  · exact h.cell 19 (by omega)
end
theorem wpList_clear96 {w : World} {ops : Array Oper} {rest : List Oper} {o : Oper} {a : Act} {Q : Exit → Act → World → Prop} (hgd : o.guard = none) (x : Operand)
    (ho : o.op = .call { callee := .builtin .clear, args := #[x], argTypes := #[96] }) (b : Nat) (w' : World) (hx : a.eval x = .map (some b)) (hrun : ∀ ty, Sem.run Tryz.prog (Builtin.clear_ #[96] ty #[.map (some b)]) w = .ok (.tuple #[]) w')
    (h : wpList Tryz.prog ops Q rest (a.put o.dst (.tuple #[])) w') : wpList Tryz.prog ops Q (o :: rest) a w := by
  refine wpList_plain hgd fun K hK => ?_
  unfold Oper.wp execOp
  simp only [ho, resolve, invoke, builtin, Sem.run_bind, Sem.run_pure, Result.andThen_ok, List.map_toArray, List.map_cons, List.map_nil, hx, hrun]
  exact hK _ _ h
theorem info36 : (Tryz.prog.info? 36).map (·.size) = some 3 := by kernel_rfl
set_option maxRecDepth 10000 in
set_option maxHeartbeats 1000000 in
theorem view_ok (w : World) (col : Nat → Nat) (Z : Nat → Prop) (q : Nat) (T : Tot) (a : Ta) (h : Tt w col Z q T a) (n : Nat) (p : Int) (s : Nat) (hs : s < 65536) (hgt : gtV (n, p) (T.vn, T.vp) = true) (hha : hasN s T.self = true) (hl : Lim (T.fresh n p s) T.dl.length) :
    Calls Tryz.prog 18 #[.pointer (some ⟨q, 0, none⟩), vw n p s] w fun e w' => e = .returned (.int .i64 0) ∧ Stp w col Z q (T.fresh n p s).labelAll w' := by
  have u := bl1 w (.cells #[.int .u64 (n : Nat), .int .i64 p, .int .u16 (s : Nat)] 36)
  have cb := fun j v (e : (#[.int .u64 (n : Nat), .int .i64 p, .int .u16 (s : Nat)] : Array Value)[j]? = some v) => cell_box w #[.int .u64 (n : Nat), .int .i64 p, .int .u16 (s : Nat)] 36 j v e
  have hS0 : S6v w.heap.size q (.int .u64 (n : Nat)) (.int .i64 p) (.int .u16 (s : Nat)) (.int .u64 (T.vn : Nat)) (.int .i64 T.vp) (.int .i64 T.self) (w.alloc (.cells #[.int .u64 (n : Nat), .int .i64 p, .int .u16 (s : Nat)] 36)) :=
    ⟨cb 0 _ rfl, cb 1 _ rfl, cb 2 _ rfl, bl_cell u (h.cell 4 (by omega)), bl_cell u (h.cell 5 (by omega)), bl_cell u (h.cell 1 (by omega))⟩
  have hS : S6v w.heap.size q (.int .u64 (n : Nat)) (.int .i64 p) (.int .u16 (s : Nat)) (.int .u64 (T.vn : Nat)) (.int .i64 T.vp) (.int .i64 T.self) (w.alloc (.cells #[.int .u64 (n : Nat), .int .i64 p, .int .u16 (s : Nat)] 36)).drew := hS0.up ((Below.refl _ _).drew)
  have hu : Below w.heap.size w (w.alloc (.cells #[.int .u64 (n : Nat), .int .i64 p, .int .u16 (s : Nat)] 36)).drew := u.drew
  have habv := fun W => above_any W (n, p) (T.vn, T.vp)
  have hhas := fun W => has_any W s hs T.self
  clear cb hS0 u
  have key : Hid (∀ w1, Below w.heap.size w w1 → ∃ w2, (∀ ty, Sem.run Tryz.prog (Builtin.clear_ #[96] ty #[.map (some a.sb)]) (viewW w1 q n p s) = .ok (.tuple #[]) w2) ∧ Calls Tryz.prog 48 #[.pointer (some ⟨q, 0, none⟩)] w2 (fun e w' => e = .returned (.tuple #[]) ∧ Stp w col Z q (T.fresh n p s).labelAll w')) := by
    intro w1 u1
    obtain ⟨h2, g2⟩ := (h.still u1).viewW n p s
    obtain ⟨S, c1, c2⟩ := h2.d.sa
    obtain ⟨w2, hrun, hS2, g⟩ := clear_set c1
    obtain ⟨h3, g3⟩ := h2.saf (K' := T.K) (safe' := []) (Nat.le_refl _) (Nat.zero_le _) hS2 (fun x => Iff.rfl) g
    refine ⟨w2, hrun, (labelDelay_any w2 col Z q (T.fresh n p s) _ h3 hl).mono ?_⟩
    rintro e w' ⟨rfl, col', a', h4, g4⟩
    exact ⟨rfl, col', Z, a', h4, (((Gt.bl col u1).trans g2).trans g3).trans g4, fun _ e => e, fun _ e => .inl e⟩
  have HC : Hid (∀ W, Below w.heap.size w W → ∃ W4 W5 W6 W7 W8, Vch W q n p s a.sb W4 W5 W6 W7 W8 (viewW W q n p s)) := fun W u1 => (h.still u1).vch n p s
  rw [hgt] at habv
  rw [hha] at hhas
  clear h hl hgt hha
  unfold vw
  simp only [vid] at habv
  go_enter Tryz.func18, Tryz.ntmps18
  go_wp2_with fail
  refine wp_region_noPanic ?_
  refine wp_region_held_drew (S := S6v w.heap.size q (.int .u64 (n : Nat)) (.int .i64 p) (.int .u16 (s : Nat)) (.int .u64 (T.vn : Nat)) (.int .i64 T.vp) (.int .i64 T.self)) (by kernel_rfl) (hS) (fun hHeld => ?_)
  unfold S6v at hHeld
  refine tq 0 ?_
  refine tq 1 ?_
  refine tq 2 ?_
  refine tq 3 ?_
  refine tq 4 ?_
  refine tq 5 ?_
  refine tq 6 ?_
  refine comes_up 7 rfl (by kernel_rfl) (fun K hK => ?_)
  go_simp
  refine (habv _).mono ?_
  rintro e w1 ⟨rfl, hu1⟩
  have hS1 := hS.up hu1.bl
  have hu2 := bl_step hu hu1.bl
  have hh1 := hhas w1
  clear habv hu1 hhas
  go_wp2_with fail
  refine hK.out _ _ (hS1) (fun hHeld => ?_)
  clear hK K
  (try simp only [Act.put, List.setIfInBounds_toArray, List.set_cons_zero, List.set_cons_succ])
  refine tq 8 ?_
  refine tq 9 ?_
  refine tq 10 ?_
  refine tq 11 ?_
  refine tq 12 ?_
  refine tq 13 ?_
  refine tq 14 ?_
  refine tq 15 ?_
  refine comes_up 16 rfl (by kernel_rfl) (fun K hK => ?_)
  go_simp
  refine hh1.mono ?_
  rintro e w2 ⟨rfl, rfl⟩
  go_wp2_with fail
  refine hK.out _ _ (hS1) (fun hHeld => ?_)
  clear hK K
  (try simp only [Act.put, List.setIfInBounds_toArray, List.set_cons_zero, List.set_cons_succ])
  refine tq 17 ?_
  refine tq 18 ?_
  refine wpAnyH_done (by kernel_rfl) ?_ _
  refine NoPanic.normal ?_
  clear hS hHeld hh1 hu
  obtain ⟨x0, x1, x2, x3, x4, x5⟩ := hS1
  obtain ⟨w3, hrun, hcall⟩ := key.out w1 hu2
  obtain ⟨W4, W5, W6, W7, W8, V⟩ := HC.out w1 hu2
  generalize viewW w1 q n p s = W9 at *
  obtain ⟨hth, e4, ⟨y7, c7⟩, f7, e5, ⟨y8, c8⟩, f8, e6, ⟨y9, c9⟩, f9, e7, ⟨y17, c17⟩, f17, e8, ⟨y18, c18⟩, f18, e9, c19⟩ := V
  have E4 : Hid (w1.setCells q 4 [.int .u64 (n : Nat), .int .i64 p, .int .u16 (s : Nat)] = W4) := e4
  clear key HC hu2 e4
  go_wp2_with (first | (refine wpList_store_mid rfl 36 (.tmp 31) (.tmp 29) rfl q 4 #[.int .u64 (n : Nat), .int .i64 p, .int .u16 (s : Nat)] rfl rfl hth info36 (by simp [Value.oneCell']) ?_; rw [show (#[.int .u64 (n : Nat), .int .i64 p, .int .u16 (s : Nat)] : Array Value).toList = [.int .u64 (n : Nat), .int .i64 p, .int .u16 (s : Nat)] from rfl, E4.out]) | (refine wpList_clear96 rfl (.tmp 48) rfl a.sb w3 rfl hrun ?_))
  refine hcall.mono ?_
  rintro e w4 ⟨rfl, hS4⟩
  have HS : Hid _ := hS4
  clear hS4 hcall hrun
  go_wp2
  go_ret
  exact ⟨rfl, HS.out⟩
end Go.Proofs.YtlaihgdfedalmaaGreat
