/-
  Steps on rows of events: one grows, and its place is told.
-/
import Derived.Test.YthnbijnpbjfoaaaJTrP
namespace Go.Proofs.Ythnbijnpbjfoaaa
open Go.RowKit Go.Sort
set_option linter.unusedVariables false

/-- Rows, a view's box, and all of old as it was. -/
structure TS (w wr : World) (g n V : Nat) (v : Vw) (R : Nat → Sr) (X : Nat → List Ev) : Prop where
  tl : TL w.heap.size wr g n (n + 1) R X
  bl : Below w.heap.size w wr
  vb : VBx wr V v
theorem TS.up {w wr w' : World} {g n V : Nat} {v : Vw} {R : Nat → Sr} {X : Nat → List Ev} (h : TS w wr g n V v R X) (u : Below wr.heap.size wr w') : TS w w' g n V v R X := ⟨h.tl.up u, bl_step h.bl u, h.vb.up u⟩
theorem TS.cong {w wr : World} {g n V : Nat} {v : Vw} {R : Nat → Sr} {X Y : Nat → List Ev} (h : TS w wr g n V v R X) (e : ∀ i, i < n + 1 → X i = Y i) : TS w wr g n V v R Y := ⟨h.tl.cong e, h.bl, h.vb⟩
/-- What is known behind an append to row i, ahead of the store. -/
structure Put (w A w5 : World) (g n V i : Nat) (v : Vw) (R : Nat → Sr) (X : Nat → List Ev) (r' : Sr) (es : List Ev) : Prop where
  gr : A.grownBy w5 (slv (R i)).ownBlock
  cell : w5.cell? ⟨g, i, none⟩ = some (slv (R i))
  fz : w5.frozen? ⟨g, i, none⟩ = false
  ts : TS w (w5.setCell ⟨g, i, none⟩ (slv r')) g n V v (upd R i r') (upd X i es)
  last : upd R i r' n = R n
theorem TS.putG {w A w5 : World} {g n V i : Nat} {v : Vw} {R : Nat → Sr} {X : Nat → List Ev} (h : TS w A g n V v R X) (hi : i < n) {r' : Sr} {es : List Ev} (ho : EvO w.heap.size w5 r' es) (hb : Below w.heap.size A w5) (hg : A.grownBy w5 (slv (R i)).ownBlock) (hat : (slv r').ownBlock = (slv (R i)).ownBlock ∨ ∃ k, (slv r').ownBlock = some k ∧ A.heap.size ≤ k) :
    Put w A w5 g n V i v R X r' es := by
  have hgne : some g ≠ (slv (R i)).ownBlock := fun e => h.tl.ng (by omega) e.symm
  have hblk : w5.heap[g]? = A.heap[g]? := hg.block g h.tl.glt hgne
  refine ⟨hg, ?_, ?_, ⟨h.tl.put hi ho hb hg hat, TL.below (h.bl.trans hb) h.tl.gB, ?_⟩, upd_ne R _ (by omega)⟩
  · rw [cell_blk (a := ⟨g, i, none⟩) hblk]; exact h.tl.cell i hi
  · obtain ⟨c, hc⟩ := h.tl.blk
    simp [World.frozen?, hblk, hc]
  · refine (h.vb.grown hg (fun k hk => ((h.tl.row i (by omega)).blk hk).2.2)).setg ?_
    obtain ⟨c, hc⟩ := h.tl.blk
    exact ⟨c, hblk.trans hc⟩
/-- Events that lie at a are appended to row i. -/
theorem TS.put {w A : World} {g n V i : Nat} {v : Vw} {R : Nat → Sr} {X : Nat → List Ev} (h : TS w A g n V v R X) (hi : i < n) (xs : List Ex) (hx : ∀ x ∈ xs, ExOk w.heap.size A x) (hn : (X i).length + xs.length ≤ 10000) {a : Addr} (c : Nat) (ha : ∀ j u, (cellE xs)[j]? = some u → A.cell? (a.add j) = some u) :
    ∃ (r' : Sr) (w5 : World), (Builtin.append_ #[41, 41] 41 #[slv (R i), .slice (some a) xs.length c]).run Try.prog A = .ok (slv r') w5 ∧ Put w A w5 g n V i v R X r' (X i ++ xs.map Prod.fst) := by
  obtain ⟨r', w5, h1, h2, h3, h4, h5⟩ := (h.tl.row i (by omega)).run xs hx hn h.tl.sz c ha
  exact ⟨r', w5, h1, h.putG hi h2 h3 h4 h5⟩
theorem TS.put_none {w A : World} {g n V i : Nat} {v : Vw} {R : Nat → Sr} {X : Nat → List Ev} (h : TS w A g n V v R X) (hi : i < n) :
    (Builtin.append_ #[41, 41] 41 #[slv (R i), .slice none 0 0]).run Try.prog A = .ok (slv (R i)) A ∧ Put w A A g n V i v R X (R i) (X i) :=
  ⟨(h.tl.row i (by omega)).run_none, h.putG hi (h.tl.row i (by omega)) (Below.refl _ _) (World.grownBy.refl _ _) (.inl rfl)⟩
/-- .. to the row beside. -/
theorem TS.side {w A : World} {g n V : Nat} {v : Vw} {R : Nat → Sr} {X : Nat → List Ev} (h : TS w A g n V v R X) (xs : List Ex) (hx : ∀ x ∈ xs, ExOk w.heap.size A x) (hn : (X n).length + xs.length ≤ 10000) {a : Addr} (c : Nat) (ha : ∀ j u, (cellE xs)[j]? = some u → A.cell? (a.add j) = some u) :
    ∃ (r' : Sr) (w5 : World), (Builtin.append_ #[41, 41] 41 #[slv (R n), .slice (some a) xs.length c]).run Try.prog A = .ok (slv r') w5 ∧ TS w w5 g n V v (upd R n r') (upd X n (X n ++ xs.map Prod.fst)) ∧ A.grownBy w5 (slv (R n)).ownBlock := by
  obtain ⟨r', w5, h1, h2, h3, h4, h5⟩ := (h.tl.row n (by omega)).run xs hx hn h.tl.sz c ha
  exact ⟨r', w5, h1, ⟨h.tl.app (by omega) (Nat.le_refl _) h2 h3 h4 h5, h.bl.trans h3, h.vb.grown h4 (fun k hk => ((h.tl.row n (by omega)).blk hk).2.2)⟩, h4⟩
theorem TS.nil {w wr : World} {g n V : Nat} {v : Vw} {R : Nat → Sr} {X : Nat → List Ev} (h : TS w wr g n V v R X) : TS w wr g n V v (upd R n (none, 0, 0)) (upd X n []) := ⟨h.tl.nil (Nat.le_refl _) (by omega), h.bl, h.vb⟩
theorem exOk_nil {B : Nat} {w : World} (e : Ev) (he : e.m = []) : ExOk B w (e, (none, 0, 0)) := ⟨Cp.nil, by rw [he]; exact ⟨rfl, by show (0:Nat) ≤ _; omega, fun _ => rfl, fun h => by cases h⟩⟩
theorem exOk_of {w w' : World} {e : Ev} {r : Sr} (hc : Cp r) (h : Rw (fun _ => True) w r.1 r.2.1 e.m) (u : Below w.heap.size w w') : ExOk w.heap.size w' (e, r) := ⟨hc, (h.imp (fun b hb _ => hb)).keep (Kp.up u)⟩
theorem wpList_append_runE {P : Program} {w : World} {ops : Array Oper} {rest : List Oper} {o : Oper} {a : Act} {Q : Exit → Act → World → Prop} (hgd : o.guard = none) (s x : Operand) (t : TypeId) (ho : o.op = .call { callee := .builtin .append, args := #[s, x], argTypes := #[t, t] })
    (v y v' : Value) (w' : World) (hs : a.eval s = v) (hx : a.eval x = y) (hrun : (Builtin.append_ #[t, t] o.type #[v, y]).run P w = .ok v' w') (h : wpList P ops Q rest (a.put o.dst v') w') : wpList P ops Q (o :: rest) a w := by
  refine wpList_plain hgd fun K hK => ?_
  unfold Oper.wp
  simp [execOp, ho, resolve, invoke, builtin, hs, hx, hrun, Result.andThen]
  exact hK _ _ h
set_option maxRecDepth 100000 in
theorem size41 (w : World) : (sizeOf (Try.prog.elem 41)).run Try.prog w = .ok 6 w := by rfl
theorem und41e : Try.prog.underlying 41 = some (.slice (Try.prog.elem 41)) := by kernel_rfl
theorem slice_to41 (w : World) (ao : Option Addr) (L cap n : Nat) (hn : n ≤ cap) (hao : ∀ a, ao = some a → a.spot = none) : (Instr.slice 41 (.slice ao L cap) none (some (.int .i64 (n : Nat))) none).run Try.prog w = .ok (.slice ao n cap) w := by
  rw [run_slice_h w 41 ao L cap und41e .i64 (n : Nat) (by omega) (by omega), size41]
  simp only [Result.andThen_ok, sliced, Int.toNat_natCast, Nat.sub_zero, Nat.zero_mul]
  congr 2
  split
  · rfl
  · cases ao with
    | none => rfl
    | some a => simp [Addr.add]
theorem und49x : (Try.prog.underlying 49).any (·.isRow) = true := by kernel_rfl
theorem info49x : (Try.prog.info? 49).map (·.size) = some 6 := by kernel_rfl
/-- An event is read. -/
theorem wpList_load_Ex {ops : Array Oper} {rest : List Oper} {o : Oper} {a : Act} {w : World} {Q : Exit → Act → World → Prop} (hgd : o.guard = none) (x : Operand) (ho : o.op = .load 49 x) (b of : Nat) (hx : a.eval x = .pointer (some ⟨b, of, none⟩)) (e : Ev) (r : Sr) (h6 : ∀ (j : Nat) u, (cellsE (e, r))[j]? = some u → w.cell? ⟨b, of + j, none⟩ = some u)
    (h : wpList Try.prog ops Q rest (a.put o.dst (.agg #[.int .u8 (e.k : Nat), .int .u64 (e.n : Nat), .int .i64 e.p, .int .u16 (e.s : Nat), .int .i64 e.f, .slice r.1 r.2.1 r.2.2])) w) : wpList Try.prog ops Q (o :: rest) a w := by
  obtain ⟨d, hd, hr⟩ := (Option.any_eq_true _ _).1 und49x
  exact wpList_load_mid hgd 49 x ho b of hx (cellsE (e, r)) d h6 hd hr info49x h
/-- The bits of a set, as the statements test them. -/
theorem bit_test (s i : Nat) (hs : s < 65536) : (bits .and .u16 ((s : Int) / 2 ^ i) 1 == 1) = s.testBit i := by
  have h1 : ((s : Int) / 2 ^ i) = ((s / 2 ^ i : Nat) : Int) := by simp
  have h2 : s / 2 ^ i < 65536 := Nat.lt_of_le_of_lt (Nat.div_le_self _ _) hs
  have h3 : (s / 2 ^ i) &&& 1 = (s / 2 ^ i) % 2 := Nat.and_one_is_mod _
  have h4 : (s / 2 ^ i) % 2 < 2 := Nat.mod_lt _ (by omega)
  rw [h1, Nat.testBit_eq_decide_div_mod_eq]
  have h5 := u16_and_nat (s / 2 ^ i) 1 h2 (by omega)
  rw [show ((1 : Nat) : Int) = 1 from rfl] at h5
  rw [h5, h3]
  rw [Bool.eq_iff_iff]
  simp
  omega
/-- Rows that grow, one node behind the other. -/
def Xg (X0 f : Nat → List Ev) (i : Nat) : Nat → List Ev := fun j => X0 j ++ (if j < i then f j else [])
theorem Xg_zero (X0 f : Nat → List Ev) : Xg X0 f 0 = X0 := by funext j; simp [Xg]
theorem Xg_at (X0 f : Nat → List Ev) (i : Nat) : Xg X0 f i i = X0 i := by simp [Xg]
theorem Xg_step (X0 f : Nat → List Ev) (i : Nat) : upd (Xg X0 f i) i (X0 i ++ f i) = Xg X0 f (i + 1) := by
  funext j
  by_cases e : j = i
  · subst e; rw [upd_same]; simp [Xg]
  · rw [upd_ne _ _ e]
    unfold Xg
    by_cases e2 : j < i
    · rw [if_pos e2, if_pos (by omega)]
    · rw [if_neg e2, if_neg (by omega)]
theorem Xg_no (X0 f : Nat → List Ev) (i : Nat) (h : f i = []) : Xg X0 f (i + 1) = Xg X0 f i := by
  rw [← Xg_step, h, List.append_nil]
  funext j
  by_cases e : j = i
  · subst e; rw [upd_same, Xg_at]
  · rw [upd_ne _ _ e]
theorem upd_comm {α : Type} (f : Nat → α) {i n : Nat} (a b : α) (h : i ≠ n) : upd (upd f n a) i b = upd (upd f i b) n a := by
  funext j
  by_cases e : j = i
  · subst e; rw [upd_same, upd_ne _ _ h, upd_same]
  · rw [upd_ne _ _ e]
    by_cases e2 : j = n
    · subst e2; rw [upd_same, upd_same]
    · rw [upd_ne _ _ e2, upd_ne _ _ e2, upd_ne _ _ e]
theorem Put.vb {w A w5 : World} {g n V i : Nat} {v : Vw} {R : Nat → Sr} {X : Nat → List Ev} {r' : Sr} {es : List Ev} (h : Put w A w5 g n V i v R X r' es) (hA : TS w A g n V v R X) (hi : i < n) {Q : Nat} {T : TypeId} (hQ : ∃ c, A.heap[Q]? = some (.cells c T (0, 0))) (hT : T ≠ 49) : ∀ j u, A.cell? ⟨Q, j, none⟩ = some u → w5.cell? ⟨Q, j, none⟩ = some u := fun j u hc => by
  rw [cell_blk (a := ⟨Q, j, none⟩) (h.gr.block Q (World.block_lt_of_cell? A _ hc) (fun e => ?_))]
  · exact hc
  · obtain ⟨_, _, c, hc'⟩ := (hA.tl.row i (by omega)).blk e.symm
    obtain ⟨c2, hc2⟩ := hQ
    rw [hc2] at hc'
    simp at hc'
    exact hT hc'.2
theorem Put.bl {w w2 A w5 : World} {g n V i : Nat} {v : Vw} {R : Nat → Sr} {X : Nat → List Ev} {r' : Sr} {es : List Ev} (h : Put w A w5 g n V i v R X r' es) (hA : TS w A g n V v R X) (hi : i < n) (hb : Below w.heap.size w2 A) (u : Value) : Below w.heap.size w2 (w5.setCell ⟨g, i, none⟩ u) :=
  TL.below (hb.trans (bl_grown (Below.refl _ _) hA.bl.size h.gr (fun kk hkk => ((hA.tl.row i (by omega)).blk hkk).1))) hA.tl.gB
theorem cell_one (w : World) (x : Ex) : ∀ j u, (cellE [x])[j]? = some u → (w.alloc (.cells #[.int .u8 (x.1.k : Nat), .int .u64 (x.1.n : Nat), .int .i64 x.1.p, .int .u16 (x.1.s : Nat), .int .i64 x.1.f, .slice x.2.1 x.2.2.1 x.2.2.2] 49)).cell? ((⟨w.heap.size, 0, none⟩ : Addr).add j) = some u := fun j u hj => by
  rw [Addr.add_lit, Nat.zero_add]
  refine cell_box w _ 49 j u ?_
  have e : cellE [x] = cellsE x := by simp [cellE]
  rw [e] at hj
  simpa [cellsE] using hj
/-- The block's rows alone. -/
theorem TL.drop {B : Nat} {w : World} {g n : Nat} {R : Nat → Sr} {X : Nat → List Ev} {ALL : List Ev} (h : TL B w g n (n + 1) R (upd X n ALL)) : TL B w g n n R X :=
  ⟨h.sz, h.gB, h.blk, Nat.le_refl _, h.cell, fun i hi => by have := h.row i (by omega); rwa [upd_ne _ _ (by omega)] at this, fun i j hi hj => h.apart i j (by omega) (by omega)⟩
/-- The k-th byte. -/
theorem Rw.byte {p : Nat → Prop} {w : World} {ao : Option Addr} {n : Nat} {xs : By} (h : Rw p w ao n xs) {k : Nat} (hk : k < n) : ∃ b off, ao = some ⟨b, off, none⟩ ∧ w.cell? ⟨b, off + k, none⟩ = some (.int .u8 ((byAt xs k : Nat) : Int)) ∧ byAt xs k < 256 := by
  obtain ⟨h1, h2, h3, h4⟩ := h
  obtain ⟨b, off, e, _, hc⟩ := h4 (by omega)
  have hx : xs[k]? = some (xs[k]'(by omega)) := List.getElem?_eq_getElem (by omega)
  refine ⟨b, off, e, ?_, UInt8.toNat_lt _⟩
  rw [hc k _ hx]
  unfold byAt
  rw [List.getD_eq_getElem?_getD, hx]
  rfl
/-- The j-th event of a row of one's own. -/
theorem EvO.at {B : Nat} {w : World} {r : Sr} {es : List Ev} (h : EvO B w r es) {k : Nat} {e : Ev} (hk : es[k]? = some e) : ∃ b cap, ∃ t : Sr, r = (some ⟨b, 0, none⟩, es.length, cap) ∧ E6 w b (k * 6) e t ∧ ExOk B w (e, t) := by
  have hlt := (List.getElem?_eq_some_iff.1 hk).1
  rcases h.shape with ⟨_, rfl⟩ | ⟨b, cap, rfl, _⟩
  · simp at hlt
  · obtain ⟨xs, h1, h2, h3⟩ := h.cells
    have h4 := h3 b cap rfl
    rw [← h1, List.getElem?_map] at hk
    obtain ⟨⟨e', t⟩, hx, rfl⟩ := Option.map_eq_some_iff.1 hk
    have hc : ∀ i u, i < 6 → (cellsE (e', t))[i]? = some u → w.cell? ⟨b, k * 6 + i, none⟩ = some u := fun i u hi hu => h4 _ _ (by rw [cellE_get xs k _ i hx hi]; exact hu)
    exact ⟨b, cap, t, rfl, ⟨hc 0 _ (by omega) rfl, hc 1 _ (by omega) rfl, hc 2 _ (by omega) rfl, hc 3 _ (by omega) rfl, hc 4 _ (by omega) rfl, hc 5 _ (by omega) rfl⟩, h2 _ (List.mem_of_getElem? hx)⟩
/-- The first events of the row beside are appended to row i. -/
theorem TS.putAll {w A : World} {g n V i hv : Nat} {v : Vw} {R : Nat → Sr} {X : Nat → List Ev} {ALL : List Ev} (h : TS w A g n V v R (upd X n ALL)) (hi : i < n) (hle : hv ≤ ALL.length) (hn : (X i).length + hv ≤ 10000) :
    ∃ (r' : Sr) (w5 : World), (Builtin.append_ #[41, 41] 41 #[slv (R i), .slice (R n).1 hv (R n).2.2]).run Try.prog A = .ok (slv r') w5 ∧ Put w A w5 g n V i v R (upd X n ALL) r' (X i ++ ALL.take hv) := by
  have hr := h.tl.row n (by omega)
  rw [upd_same] at hr
  have hXi : upd X n ALL i = X i := upd_ne _ _ (by omega)
  rcases hr.shape with ⟨e, rfl⟩ | ⟨b, cap, e, _⟩
  · rw [e]
    obtain rfl : hv = 0 := by simpa using hle
    obtain ⟨h1, h2⟩ := h.put_none hi
    rw [hXi] at h2
    exact ⟨R i, A, h1, by simpa using h2⟩
  · obtain ⟨xs, h1, h2, h3⟩ := hr.cells
    have h4 := h3 b cap e
    have hl : xs.length = ALL.length := by rw [← h1]; simp
    have hlt : (xs.take hv).length = hv := by rw [List.length_take]; omega
    obtain ⟨r', w5, k1, k2⟩ := h.put hi (xs.take hv) (fun y hy => h2 y (List.mem_of_mem_take hy)) (by rw [hXi, hlt]; omega) (a := ⟨b, 0, none⟩) cap (fun j u hj => by
      rw [Addr.add_lit, Nat.zero_add]
      exact h4 j u (cellE_take _ _ _ _ hj))
    rw [hlt] at k1
    rw [hXi, List.map_take, h1] at k2
    rw [e]
    exact ⟨r', w5, k1, k2⟩
/-- What a whole time makes. -/
theorem seg_fin {n k i vn sv : Nat} {runs : List Rn} {x : Rn} {lb : Bool} {ALL : List Ev} {X0 X1 X2 X3 : Nat → List Ev} {L : Nat} (hx : runs[k]? = some x) (hlb : lastF runs k = lb) (hvn : k + 1 = vn) (hsv : setF n x.set = sv)
    (h0 : traceX n runs k = X0) (h1 : Xg X0 (segV (vn, 0, sv)) n = X1) (h2 : (fun j => X1 j ++ ownS n (vn, 0, sv) (x.sends.take 10) j) = X2) (hA : allS n (vn, 0, sv) (x.sends.take 10) = ALL) (h3 : Xg X2 (segR (vn, 0, sv) ALL lb x.had) n = X3)
    (hL : leastF ALL.length lb x.had sv n = L) (hor : i = n ∨ x.safe.length ≤ i) : ∀ j, j < n + 1 → upd (Xg X3 (segF (vn, 0, sv) ALL L x.safe) i) n ALL j = upd (traceX n runs (k + 1)) n ALL j := fun j hj => by
  by_cases e : j = n
  · subst e; rw [upd_same, upd_same]
  · rw [upd_ne _ _ e, upd_ne _ _ e]
    have hv : vwF n k x = (vn, 0, sv) := by unfold vwF; rw [hvn, hsv]
    have hjn : j < n := by omega
    have e1 : traceX n runs (k + 1) j = X0 j ++ segD n k lb x j := by
      show traceX n runs k j ++ (match runs[k]? with
        | some x => segD n k (lastF runs k) x j
        | none => []) = _
      rw [h0, hx, hlb]
    have e3 : X3 j = X2 j ++ segR (vn, 0, sv) ALL lb x.had j := by rw [← h3]; unfold Xg; rw [if_pos hjn]
    have e2 : X2 j = X1 j ++ ownS n (vn, 0, sv) (x.sends.take 10) j := by rw [← h2]
    have e4 : X1 j = X0 j ++ segV (vn, 0, sv) j := by rw [← h1]; unfold Xg; rw [if_pos hjn]
    have e5 : Xg X3 (segF (vn, 0, sv) ALL L x.safe) i j = X3 j ++ segF (vn, 0, sv) ALL L x.safe j := by
      unfold Xg
      by_cases h : j < i
      · rw [if_pos h]
      · rw [if_neg h]
        unfold segF
        rw [if_neg (by omega)]
    rw [e1, e5, e3, e2, e4]
    unfold segD
    simp only [hv, hA, hL, List.append_assoc]
end Go.Proofs.Ythnbijnpbjfoaaa
