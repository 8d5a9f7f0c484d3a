/-
  stay.take: an event in the view.
-/
import Derived.Test.YthnbijnpbjfoaaaJSettle
namespace Go.Proofs.Ythnbijnpbjfoaaa
open Go.RowKit Go.Sort
set_option linter.unusedVariables false

def TakePost (p : Nat → Prop) (Z : Nat) (w : World) (q : Nat) (y : Sy) (e : Ev) (ee : Ending) (w' : World) : Prop :=
  ((∃ y', takeD y e = some y' ∧ ee = .returned (.bool true) ∧ Cur p Z w' q y') ∨ (takeD y e = none ∧ ee = .returned (.bool false))) ∧ Tch q Z w w'
def T1 (q X : Nat) (n : Nat) (p : Int) (s : Nat) (n' : Nat) (p' : Int) (s' : Nat) (w : World) : Prop :=
  w.cell? ⟨q, 1, none⟩ = some (.int .u64 (n : Nat)) ∧ w.cell? ⟨q, 2, none⟩ = some (.int .i64 p) ∧ w.cell? ⟨q, 3, none⟩ = some (.int .u16 (s : Nat)) ∧ w.cell? ⟨X, 1, none⟩ = some (.int .u64 (n' : Nat)) ∧ w.cell? ⟨X, 2, none⟩ = some (.int .i64 p') ∧ w.cell? ⟨X, 3, none⟩ = some (.int .u16 (s' : Nat))
def T6 (q X : Nat) (rs r : Sr) (w : World) : Prop := w.cell? ⟨q, 4, none⟩ = some (.slice rs.1 rs.2.1 rs.2.2) ∧ w.cell? ⟨X, 5, none⟩ = some (.slice r.1 r.2.1 r.2.2)
def T8g (q X : Nat) (rg : Sr) (f : Int) (r : Sr) (w : World) : Prop := w.cell? ⟨q, 5, none⟩ = some (.slice rg.1 rg.2.1 rg.2.2) ∧ w.cell? ⟨X, 4, none⟩ = some (.int .i64 f) ∧ w.cell? ⟨X, 5, none⟩ = some (.slice r.1 r.2.1 r.2.2)
theorem take_view {y : Sy} {e : Ev} (h : y.n = 0 ∨ sameView y e = false) : takeD y e = none := by unfold takeD; rw [if_pos h]
theorem take_kind {y : Sy} {e : Ev} (h1 : y.n ≠ 0) (h2 : sameView y e = true) : takeD y e = if e.k = 2 then some { y with sent := y.sent ++ [e.m] } else if e.k = 3 then some { y with got := y.got ++ [(e.f, e.m)] } else if e.k = 4 then (if y.got[y.safe]? = some (e.f, e.m) then some { y with safe := y.safe + 1 } else none) else none := by
  unfold takeD
  rw [if_neg (by simp [h1, h2])]
theorem Cur.cellq {p : Nat → Prop} {Z : Nat} {w : World} {q : Nat} {y : Sy} (h : Cur p Z w q y) : w.cell? ⟨q, 0, none⟩ = some (.int .i64 (y.node : Nat)) := by
  obtain ⟨rs, rg, h0, h1, h2, _⟩ := h
  exact h2.1
theorem Cur.set4 {p : Nat → Prop} {Z : Nat} {w w' : World} {q : Nat} {y : Sy} {r r' : Sr} {xs : List By} (h : Cur p Z w q y) (hp : ∀ b, p b → b < Z ∧ b ≠ q) (hr : w.cell? ⟨q, 4, none⟩ = some (.slice r.1 r.2.1 r.2.2)) (hb : Below Z w w') (hgr : w.grownBy w' (Value.slice r.1 r.2.1 r.2.2).ownBlock) (ho : OwB p Z w' r' xs) : Cur p Z (w'.setCell ⟨q, 4, none⟩ (.slice r'.1 r'.2.1 r'.2.2)) q { y with sent := xs } := by
  obtain ⟨rs, rg, h0, h1, h2, h3, h4, h5⟩ := h
  have e : rs = r := by
    have := h2.2.2.2.2.1
    rw [hr] at this
    simp at this
    obtain ⟨a, b, c⟩ := this
    exact Prod.ext a.symm (Prod.ext b.symm c.symm)
  subst e
  have hg : w'.grownBy (w'.setCell ⟨q, 4, none⟩ (.slice r'.1 r'.2.1 r'.2.2)) (some q) := ⟨rfl, rfl, rfl, by simp [World.setCell], fun k _ hne => heap_setCell_other _ _ _ _ (fun e => hne (by rw [e]))⟩
  have kb : Kp (fun b => b < Z) w w' := Kp.below hb (fun _ hb => hb)
  have h5' : OwP p Z w' rg y.got := by
    obtain ⟨k0, xs', k1, k2, k3⟩ := h5
    obtain ⟨_, rs', l1, _⟩ := h4
    refine ⟨k0, xs', k1.kept hgr ?_, k2, fun j x d hx hd => (k3 j x d hx hd).keep (fun ad v hb' hc => kb ad v (hp _ hb').1 hc)⟩
    cases hb' : Value.ownBlock (.slice rg.1 rg.2.1 rg.2.2) with
    | none => exact Or.inl rfl
    | some k =>
      refine Or.inr (fun e => ?_)
      exact own_apart k1 l1 (by decide) hb' e.symm
  refine ⟨r', rg, h0, by have := hb.size; simpa [World.setCell] using Nat.le_trans h1 this, (h2.keep kb h0).set4 r' xs, fun i => by rw [World.frozen?_setCell]; exact (hb.frozen h0).trans (h3 i), ho.other hg (fun b hb => ?_) (fun b hb => (hp b hb).2), h5'.other2 hg (fun b hb => ?_) (fun b hb => (hp b hb).2)⟩
  · obtain ⟨_, rs', h1', _⟩ := ho
    have := (own_blk h1' hb).1
    omega
  · obtain ⟨_, xs', h1', _⟩ := h5'
    have := (own_blk h1' hb).1
    omega
theorem Cur.set5 {p : Nat → Prop} {Z : Nat} {w w' : World} {q : Nat} {y : Sy} {r r' : Sr} {xs : List Di} (h : Cur p Z w q y) (hp : ∀ b, p b → b < Z ∧ b ≠ q) (hr : w.cell? ⟨q, 5, none⟩ = some (.slice r.1 r.2.1 r.2.2)) (hb : Below Z w w') (hgr : w.grownBy w' (Value.slice r.1 r.2.1 r.2.2).ownBlock) (ho : OwP p Z w' r' xs) : Cur p Z (w'.setCell ⟨q, 5, none⟩ (.slice r'.1 r'.2.1 r'.2.2)) q { y with got := xs } := by
  obtain ⟨rs, rg, h0, h1, h2, h3, h4, h5⟩ := h
  have e : rg = r := by
    have := h2.2.2.2.2.2.1
    rw [hr] at this
    simp at this
    obtain ⟨a, b, c⟩ := this
    exact Prod.ext a.symm (Prod.ext b.symm c.symm)
  subst e
  have hg : w'.grownBy (w'.setCell ⟨q, 5, none⟩ (.slice r'.1 r'.2.1 r'.2.2)) (some q) := ⟨rfl, rfl, rfl, by simp [World.setCell], fun k _ hne => heap_setCell_other _ _ _ _ (fun e => hne (by rw [e]))⟩
  have kb : Kp (fun b => b < Z) w w' := Kp.below hb (fun _ hb => hb)
  have h4' : OwB p Z w' rs y.sent := by
    obtain ⟨k0, rs', k1, k2, k3, k4⟩ := h4
    obtain ⟨_, xs', l1, _⟩ := h5
    refine ⟨k0, rs', k1.kept hgr ?_, k2, k3, fun j x d hx hd => (k4 j x d hx hd).keep (fun ad v hb' hc => kb ad v (hp _ hb').1 hc)⟩
    cases hb' : Value.ownBlock (.slice rs.1 rs.2.1 rs.2.2) with
    | none => exact Or.inl rfl
    | some k =>
      refine Or.inr (fun e => ?_)
      exact own_apart k1 l1 (by decide) hb' e.symm
  refine ⟨rs, r', h0, by have := hb.size; simpa [World.setCell] using Nat.le_trans h1 this, (h2.keep kb h0).set5 r' xs, fun i => by rw [World.frozen?_setCell]; exact (hb.frozen h0).trans (h3 i), h4'.other hg (fun b hb => ?_) (fun b hb => (hp b hb).2), ho.other2 hg (fun b hb => ?_) (fun b hb => (hp b hb).2)⟩
  · obtain ⟨_, rs', h1', _⟩ := h4'
    have := (own_blk h1' hb).1
    omega
  · obtain ⟨_, xs', h1', _⟩ := ho
    have := (own_blk h1' hb).1
    omega
/-- One more item, as a run, and which block grew. -/
theorem OwP.runG {p : Nat → Prop} {B : Nat} {w : World} {r : Sr} {S : List Di} (h : OwP p B w r S) (hp : ∀ b, p b → b < B) (x : Ix) (d : Di) (hx : It p w x d) (hn : S.length ≤ 10000) (hB : B ≤ w.heap.size) {a : Addr} (ha : ∀ j u, ([.int .i64 x.1, .slice x.2.1 x.2.2.1 x.2.2.2] : List Value)[j]? = some u → w.cell? (a.add j) = some u) :
    ∃ (r' : Sr) (w' : World), (Builtin.append_ #[25, 25] 25 #[.slice r.1 r.2.1 r.2.2, .slice (some a) 1 1]).run Try.prog w = .ok (.slice r'.1 r'.2.1 r'.2.2) w' ∧ OwP p B w' r' (S ++ [d]) ∧ Below B w w' ∧ w.grownBy w' (Value.slice r.1 r.2.1 r.2.2).ownBlock := by
  obtain ⟨r', w', h1, h2, h3⟩ := h.run hp x d hx hn hB ha
  obtain ⟨h0, xs, k1, _⟩ := h
  obtain ⟨i0, hi0, hz0, hz1, hz2⟩ := info_parts infoI
  obtain ⟨v', w2, m1, _, m3, _⟩ := run_append_own_at (P := Try.prog) (w := w) B 25 25 34 i0 (.agg #[.int .i64 0, .slice none 0 0]) 2 32 und25 hi0 hz0 hz1 hz2 rfl (by decide) _ S.length (cellI xs) k1 a 1 1 [.int .i64 x.1, .slice x.2.1 x.2.2.1 x.2.2.2] rfl ha (fun u hu => by
    simp at hu
    rcases hu with rfl | rfl <;> rfl) (by unfold maxLen; omega) (by omega) hB
  rw [h1] at m1
  simp only [Result.ok.injEq] at m1
  exact ⟨r', w', h1, h2, h3, by rw [m1.2]; exact m3⟩
set_option maxRecDepth 10000 in
set_option maxHeartbeats 4000000 in
theorem take_any (p : Nat → Prop) (Z : Nat) (w : World) (q : Nat) (y : Sy) (h : Cur p Z w q y) (hp : ∀ b, p b → b < Z ∧ b ≠ q) (e : Ev) (r : Sr) (hc : Cp r) (hr : Rw p w r.1 r.2.1 e.m) (hs9 : y.sent.length ≤ 9000) (hg : y.got.length ≤ 9000) (hsg : y.safe ≤ y.got.length) :
    Calls Try.prog 35 #[ptr q, evv e r] w fun ee w' => TakePost p Z w q y e ee w' := by
  have hZ0 : Z ≤ w.heap.size := by obtain ⟨_, _, _, z, _⟩ := h; exact z
  obtain ⟨w1, hw1⟩ : ∃ w1, w.alloc (.cells #[.int .u8 (e.k : Nat), .int .u64 (e.n : Nat), .int .i64 e.p, .int .u16 (e.s : Nat), .int .i64 e.f, .slice r.1 r.2.1 r.2.2] 49) = w1 := ⟨_, rfl⟩
  have u1 : Up w w1 := by rw [← hw1]; exact (Up.refl _).alloc _
  have e6 := e6_new w e r 49
  rw [hw1] at e6
  obtain ⟨X, hX⟩ : ∃ X, w.heap.size = X := ⟨_, rfl⟩
  rw [hX] at e6
  have hXZ : Z ≤ X := by omega
  have HC : Hid (Cur p Z w1 q y ∧ Up w w1 ∧ Rw p w1 r.1 r.2.1 e.m ∧ Cp r) := ⟨h.up u1.bl, u1, hr.up u1.bl, hc⟩
  have HE6 : Hid (E6 w1 X 0 e r) := e6
  have HY : Hid (y.sent.length ≤ 9000 ∧ y.got.length ≤ 9000 ∧ y.safe ≤ y.got.length) := ⟨hs9, hg, hsg⟩
  obtain ⟨rs, rg, hq, hZ, h9, hfz, hos, hog⟩ := HC.out.1
  obtain ⟨y0, y1, y2, y3, y4, y5, y6, y7, y8⟩ := h9
  obtain ⟨e0, e1, e2, e3, e4, e5⟩ := e6
  simp only [Nat.zero_add] at e0 e1 e2 e3 e4 e5
  have ud : Below w1.heap.size w1 w1.drew := ((Up.refl w1).drew).bl
  have t1 : T1 q X y.n y.p y.s e.n e.p e.s w1.drew := ⟨bl_cell ud y1, bl_cell ud y2, bl_cell ud y3, bl_cell ud e1, bl_cell ud e2, bl_cell ud e3⟩
  have hX1 : ∃ c, w1.heap[X]? = some (.cells c 49 (0, 0)) := by rw [← hw1, ← hX]; exact ⟨_, heap_alloc_new _ _⟩
  have HRS : Hid (∀ k, (Value.slice rs.1 rs.2.1 rs.2.2).ownBlock = some k → k ≠ X) := fun k hk e => by
    obtain ⟨_, rs', l1, _⟩ := hos
    obtain ⟨_, _, c, hc⟩ := own_blk l1 hk
    obtain ⟨c', hc'⟩ := hX1
    rw [e, hc'] at hc
    simp at hc
  have HRG : Hid (∀ k, (Value.slice rg.1 rg.2.1 rg.2.2).ownBlock = some k → k ≠ X) := fun k hk e => by
    obtain ⟨_, xs', l1, _⟩ := hog
    obtain ⟨_, _, c, hc⟩ := own_blk l1 hk
    obtain ⟨c', hc'⟩ := hX1
    rw [e, hc'] at hc
    simp at hc
  have HOS : Hid (OwB p Z w1 rs y.sent ∧ OwP p Z w1 rg y.got ∧ (∀ i, w1.frozen? ⟨q, i, none⟩ = false) ∧ q < Z) := ⟨hos, hog, hfz, hq⟩
  have HT : Hid (∀ W, Below w1.heap.size w1 W → Tch q Z w W) := fun W u => (Tch.of (HC.out.2.1.bl.mono hZ0)).trans (Tch.of (u.mono (by have := HC.out.2.1.bl.size; omega)))
  have hve := fun W => view_equal e.n e.p e.s y.n y.p y.s W
  have hsv : sameView y e = decide (e.n = y.n ∧ e.p = y.p ∧ e.s = y.s) := rfl
  obtain ⟨sv, hsv2⟩ : ∃ sv, sameView y e = sv := ⟨_, rfl⟩
  rw [← hsv, hsv2] at hve
  have HSV : Hid (sameView y e = sv) := hsv2
  clear h u1 hr hc hs9 hg hsg hZ hfz hos hog y0 y1 y2 y3 y6 y7 y8 e1 e2 e3 hsv hsv2 ud hX1
  unfold ptr evv
  by_cases hn0 : y.n = 0
  · have HNO : Hid (takeD y e = none) := take_view (.inl hn0)
    rw [hn0] at t1 hve
    go_enter Try.func35, Try.ntmps35
    go_wp2_with fail
    (try simp only [hw1, hX])
    clear hw1 hX
    refine wp_region_noPanic ?_
    refine wp_region_held_drew (S := T1 q X 0 y.p y.s e.n e.p e.s) (by kernel_rfl) (t1) (fun hHeld => ?_)
    unfold T1 at hHeld
    refine tq 0 ?_
    refine tq 1 ?_
    refine tq 2 ?_
    refine tq 3 ?_
    refine tq 4 ?_
    refine tq 5 ?_
    refine tq 6 ?_
    refine tq 7 ?_
    refine tqS 8 ?_
    refine tqS 9 ?_
    refine tqS 10 ?_
    refine tqS 11 ?_
    refine tqS 12 ?_
    refine tqS 13 ?_
    refine tqS 14 ?_
    refine tq 15 ?_
    refine wpAnyH_done (by kernel_rfl) ?_ _
    refine NoPanic.normal ?_
    go_wp2
    go_ret
    exact ⟨.inr ⟨HNO.out, rfl⟩, HT.out _ ((Up.refl w1).drew).bl⟩
  have hnb : ((y.n : Int) == 0) = false := by simp; omega
  cases sv with
  | false =>
    have HNO : Hid (takeD y e = none) := take_view (.inr HSV.out)
    go_enter Try.func35, Try.ntmps35
    go_wp2_with fail
    (try simp only [hw1, hX])
    clear hw1 hX
    refine wp_region_noPanic ?_
    refine wp_region_held_drew (S := T1 q X y.n y.p y.s e.n e.p e.s) (by kernel_rfl) (t1) (fun hHeld => ?_)
    unfold T1 at hHeld
    refine tq 0 ?_
    refine tq 1 ?_
    refine tq 2 ?_
    refine tq 3 ?_
    refine tq 4 ?_
    refine tq 5 ?_
    refine tq 6 ?_
    refine tq 7 ?_
    refine tq 8 ?_
    refine tq 9 ?_
    refine tq 10 ?_
    refine tq 11 ?_
    refine tq 12 ?_
    refine tq 13 ?_
    refine tq 14 ?_
    refine tq 15 ?_
    refine wpAnyH_done (by kernel_rfl) ?_ _
    refine NoPanic.normal ?_
    go_wp2
    go_ret
    exact ⟨.inr ⟨HNO.out, rfl⟩, HT.out _ ((Up.refl w1).drew).bl⟩
  | true =>
    have HTK := take_kind hn0 HSV.out
    have HTKH : Hid _ := HTK
    obtain ⟨D1, hD1⟩ : ∃ D, w1.drew = D := ⟨_, rfl⟩
    have ud : Below w1.heap.size w1 D1 := by rw [← hD1]; exact ((Up.refl w1).drew).bl
    have e0 := bl_cell ud e0
    have e4 := bl_cell ud e4
    have e5 := bl_cell ud e5
    have y4 := bl_cell ud y4
    have y5 := bl_cell ud y5
    have HD1 : Hid (Below w1.heap.size w1 D1) := ud
    clear HTK ud
    by_cases hk2 : e.k = 2
    · have HNEW : Hid (takeD y e = some { y with sent := y.sent ++ [e.m] }) := by
        show _ = _
        rw [HTKH.out, if_pos hk2]
      obtain ⟨D2, hD2⟩ : ∃ D, D1.drew = D := ⟨_, rfl⟩
      have u2 : Below D1.heap.size D1 D2 := by rw [← hD2]; exact ((Up.refl D1).drew).bl
      obtain ⟨A, hA⟩ : ∃ A, D2.alloc (.cells #[.slice r.1 r.2.1 r.2.2] 30) = A := ⟨_, rfl⟩
      have uA : Below D2.heap.size D2 A := by rw [← hA]; exact bl1 _ _
      obtain ⟨g, hg⟩ : ∃ g, D2.heap.size = g := ⟨_, rfl⟩
      have hAc : ∀ j u, ([.slice r.1 r.2.1 r.2.2] : List Value)[j]? = some u → A.cell? ((⟨g, 0, none⟩ : Addr).add j) = some u := fun j u hj => by
        rw [← hA, ← hg, Addr.add_lit, Nat.zero_add]
        exact cell_box D2 _ 30 j u (by simpa using hj)
      have u1A : Below w1.heap.size w1 A := bl_step HD1.out (bl_step u2 uA)
      have hZA : Z ≤ A.heap.size := by have := u1A.size; have := HC.out.2.1.bl.size; omega
      obtain ⟨r', w5, hrun, ho5, hb5, hg5⟩ := (HOS.out.1.keep u1A).run (fun b hb => (hp b hb).1) r e.m HC.out.2.2.2 (HC.out.2.2.1.up u1A) (by have := HY.out; omega) hZA hAc
      have y4d := bl_cell u2 y4
      have e5d := bl_cell u2 e5
      have y4a := bl_cell uA y4d
      have e5a := bl_cell uA e5d
      have hX5 : w5.cell? ⟨X, 5, none⟩ = some (.slice r.1 r.2.1 r.2.2) := by
        rw [cell_blk (a := ⟨X, 5, none⟩) (hg5.block X (World.block_lt_of_cell? A _ e5a) (fun e => HRS.out X e.symm rfl))]
        exact e5a
      have y45 : w5.cell? ⟨q, 4, none⟩ = some (.slice rs.1 rs.2.1 rs.2.2) := (hb5.cell HOS.out.2.2.2).trans y4a
      have fz5 : w5.frozen? ⟨q, 4, none⟩ = false := (hb5.frozen HOS.out.2.2.2).trans ((u1A.frozen (show (⟨q, 4, none⟩ : Addr).block < w1.heap.size from Nat.lt_of_lt_of_le HOS.out.2.2.2 (Nat.le_trans hZ0 HC.out.2.1.bl.size))).trans (HOS.out.2.2.1 4))
      have HFIN : Hid (Cur p Z (w5.setCell ⟨q, 4, none⟩ (.slice r'.1 r'.2.1 r'.2.2)) q { y with sent := y.sent ++ [e.m] } ∧ Tch q Z w (w5.setCell ⟨q, 4, none⟩ (.slice r'.1 r'.2.1 r'.2.2))) :=
        ⟨(HC.out.1.up u1A).set4 hp y4a hb5 hg5 ho5, ((HT.out A u1A).trans (Tch.of hb5)).trans (Tch.set _ _ _)⟩
      have HRUN : Hid ((Builtin.append_ #[32, 32] 32 #[.slice rs.1 rs.2.1 rs.2.2, .slice (some ⟨g, 0, none⟩) 1 1]).run Try.prog A = .ok (.slice r'.1 r'.2.1 r'.2.2) w5) := hrun
      have sa : T6 q X rs r D2 := ⟨y4d, e5d⟩
      have sb : T6 q X rs r A := ⟨y4a, e5a⟩
      have sc : T6 q X rs r w5 := ⟨y45, hX5⟩
      have e0' : D1.cell? ⟨X, 0, none⟩ = some (.int .u8 2) := by rw [hk2] at e0; exact e0
      clear hrun ho5 hb5 hg5 hAc u1A hZA y4d e5d y4a e5a hX5 e0 y4 y5 e4 e5 hk2 u2 uA
      go_enter Try.func35, Try.ntmps35
      go_wp2_with fail
      (try simp only [hw1, hX])
      clear hw1 hX
      refine wp_region_noPanic ?_
      refine wp_region_held_drew (S := T1 q X y.n y.p y.s e.n e.p e.s) (by kernel_rfl) (t1) (fun hHeld => ?_)
      unfold T1 at hHeld
      refine tq 0 ?_
      refine tq 1 ?_
      refine tq 2 ?_
      refine tq 3 ?_
      refine tq 4 ?_
      refine tq 5 ?_
      refine tq 6 ?_
      refine tq 7 ?_
      refine tq 8 ?_
      refine tq 9 ?_
      refine tq 10 ?_
      refine tq 11 ?_
      refine tq 12 ?_
      refine tq 13 ?_
      refine tq 14 ?_
      refine tq 15 ?_
      refine wpAnyH_done (by kernel_rfl) ?_ _
      refine NoPanic.normal ?_
      simp only [hD1]
      clear hHeld t1 hD1
      go_wp2_with fail
      refine wp_region_noPanic ?_
      refine beginE (T6 q X rs r) 11 (by kernel_rfl) (by rw [hD2]; exact sa) (fun hHeld => ?_)
      simp only [hD2] at hHeld ⊢
      unfold T6 at hHeld
      refine tqE 0 ?_
      refine tqE 1 ?_
      refine tqE 2 ?_
      refine tqE 3 ?_
      refine tqE 4 ?_
      refine tqE 5 ?_
      refine tqE 6 ?_
      refine upE 7 rfl (by kernel_rfl) (fun K hK => ?_)
      go_simp
      (try simp only [hA, hg])
      refine hK.out _ _ (sb) (fun hHeld => ?_)
      clear hK K
      (try simp only [Act.put, List.setIfInBounds_toArray, List.set_cons_zero, List.set_cons_succ])
      refine upE 8 rfl (by kernel_rfl) (fun K hK => ?_)
      refine step_append_run rfl (.tmp 29) (.tmp 32) 32 rfl (.slice rs.1 rs.2.1 rs.2.2) (.slice (some ⟨g, 0, none⟩) 1 1) (.slice r'.1 r'.2.1 r'.2.2) w5 (by simp [Act.eval]) (by simp [Act.eval]) HRUN.out ?_
      refine hK.out _ _ (sc) (fun hHeld => ?_)
      clear hK K
      (try simp only [Act.put, List.setIfInBounds_toArray, List.set_cons_zero, List.set_cons_succ])
      refine pureE 9 (v := ?_) rfl (by kernel_rfl) (by kernel_rfl) (by kernel_rfl) (by kernel_rfl) (fun _ _ _ h => h) (Or.inl ⟨by rfl, by intro wx hSw; (try dsimp only at hSw); go_simp; try with_reducible rfl⟩) (by assumption) ?_
      (try simp only [Act.put, List.setIfInBounds_toArray, List.set_cons_zero, List.set_cons_succ])
      refine pureE 10 (v := ?_) rfl (by kernel_rfl) (by kernel_rfl) (by kernel_rfl) (by kernel_rfl) (fun _ _ _ h => h) (Or.inl ⟨by rfl, by intro wx hSw; (try dsimp only at hSw); go_simp; try with_reducible rfl⟩) (by assumption) ?_
      (try simp only [Act.put, List.setIfInBounds_toArray, List.set_cons_zero, List.set_cons_succ])
      refine lastE 11 rfl (by kernel_rfl) (by kernel_rfl) (fun K hK => ?_)
      go_simp
      refine hK.out _ _ ?_
      clear hK K
      (try simp only [Act.put, List.setIfInBounds_toArray, List.set_cons_zero, List.set_cons_succ])
      refine doneE (by kernel_rfl) ?_ _
      refine NoPanic.normal ?_
      go_wp2
      go_ret
      exact ⟨.inl ⟨_, HNEW.out, rfl, HFIN.out.1⟩, HFIN.out.2⟩
    by_cases hk3 : e.k = 3
    · have HNEW : Hid (takeD y e = some { y with got := y.got ++ [(e.f, e.m)] }) := by
        show _ = _
        rw [HTKH.out, if_neg hk2, if_pos hk3]
      obtain ⟨D2, hD2⟩ : ∃ D, D1.drew = D := ⟨_, rfl⟩
      have u2 : Below D1.heap.size D1 D2 := by rw [← hD2]; exact ((Up.refl D1).drew).bl
      obtain ⟨A, hA⟩ : ∃ A, D2.alloc (.cells #[.int .i64 e.f, .slice r.1 r.2.1 r.2.2] 34) = A := ⟨_, rfl⟩
      have uA : Below D2.heap.size D2 A := by rw [← hA]; exact bl1 _ _
      obtain ⟨g, hg⟩ : ∃ g, D2.heap.size = g := ⟨_, rfl⟩
      have hAc : ∀ j u, ([.int .i64 e.f, .slice r.1 r.2.1 r.2.2] : List Value)[j]? = some u → A.cell? ((⟨g, 0, none⟩ : Addr).add j) = some u := fun j u hj => by
        rw [← hA, ← hg, Addr.add_lit, Nat.zero_add]
        exact cell_box D2 _ 34 j u (by simpa using hj)
      have u1A : Below w1.heap.size w1 A := bl_step HD1.out (bl_step u2 uA)
      have hZA : Z ≤ A.heap.size := by have := u1A.size; have := HC.out.2.1.bl.size; omega
      obtain ⟨r', w5, hrun, ho5, hb5, hg5⟩ := (HOS.out.2.1.keep u1A).runG (fun b hb => (hp b hb).1) (e.f, r) (e.f, e.m) ⟨rfl, HC.out.2.2.1.up u1A⟩ (by have := HY.out; omega) hZA hAc
      have y5d := bl_cell u2 y5
      have e4d := bl_cell u2 e4
      have e5d := bl_cell u2 e5
      have y5a := bl_cell uA y5d
      have e4a := bl_cell uA e4d
      have e5a := bl_cell uA e5d
      have hX5 : w5.cell? ⟨X, 5, none⟩ = some (.slice r.1 r.2.1 r.2.2) := by
        rw [cell_blk (a := ⟨X, 5, none⟩) (hg5.block X (World.block_lt_of_cell? A _ e5a) (fun e => HRG.out X e.symm rfl))]
        exact e5a
      have hX4 : w5.cell? ⟨X, 4, none⟩ = some (.int .i64 e.f) := by
        rw [cell_blk (a := ⟨X, 4, none⟩) (hg5.block X (World.block_lt_of_cell? A _ e5a) (fun e => HRG.out X e.symm rfl))]
        exact e4a
      have y45 : w5.cell? ⟨q, 5, none⟩ = some (.slice rg.1 rg.2.1 rg.2.2) := (hb5.cell HOS.out.2.2.2).trans y5a
      have fz5 : w5.frozen? ⟨q, 5, none⟩ = false := (hb5.frozen HOS.out.2.2.2).trans ((u1A.frozen (show (⟨q, 5, none⟩ : Addr).block < w1.heap.size from Nat.lt_of_lt_of_le HOS.out.2.2.2 (Nat.le_trans hZ0 HC.out.2.1.bl.size))).trans (HOS.out.2.2.1 5))
      have HFIN : Hid (Cur p Z (w5.setCell ⟨q, 5, none⟩ (.slice r'.1 r'.2.1 r'.2.2)) q { y with got := y.got ++ [(e.f, e.m)] } ∧ Tch q Z w (w5.setCell ⟨q, 5, none⟩ (.slice r'.1 r'.2.1 r'.2.2))) :=
        ⟨(HC.out.1.up u1A).set5 hp y5a hb5 hg5 ho5, ((HT.out A u1A).trans (Tch.of hb5)).trans (Tch.set _ _ _)⟩
      have HRUN : Hid ((Builtin.append_ #[25, 25] 25 #[.slice rg.1 rg.2.1 rg.2.2, .slice (some ⟨g, 0, none⟩) 1 1]).run Try.prog A = .ok (.slice r'.1 r'.2.1 r'.2.2) w5) := hrun
      have sa : T8g q X rg e.f r D2 := ⟨y5d, e4d, e5d⟩
      have sb : T8g q X rg e.f r A := ⟨y5a, e4a, e5a⟩
      have sc : T8g q X rg e.f r w5 := ⟨y45, hX4, hX5⟩
      have e0' : D1.cell? ⟨X, 0, none⟩ = some (.int .u8 3) := by rw [hk3] at e0; exact e0
      clear hrun ho5 hb5 hg5 hAc u1A hZA y5d e5d y5a e5a hX5 e0 y4 y5 e4 e5 e4d e4a hX4 hk2 hk3 u2 uA
      go_enter Try.func35, Try.ntmps35
      go_wp2_with fail
      (try simp only [hw1, hX])
      clear hw1 hX
      refine wp_region_noPanic ?_
      refine wp_region_held_drew (S := T1 q X y.n y.p y.s e.n e.p e.s) (by kernel_rfl) (t1) (fun hHeld => ?_)
      unfold T1 at hHeld
      refine tq 0 ?_
      refine tq 1 ?_
      refine tq 2 ?_
      refine tq 3 ?_
      refine tq 4 ?_
      refine tq 5 ?_
      refine tq 6 ?_
      refine tq 7 ?_
      refine tq 8 ?_
      refine tq 9 ?_
      refine tq 10 ?_
      refine tq 11 ?_
      refine tq 12 ?_
      refine tq 13 ?_
      refine tq 14 ?_
      refine tq 15 ?_
      refine wpAnyH_done (by kernel_rfl) ?_ _
      refine NoPanic.normal ?_
      simp only [hD1]
      clear hHeld t1 hD1
      go_wp2_with fail
      refine wp_region_noPanic ?_
      refine beginE (T8g q X rg e.f r) 14 (by kernel_rfl) (by rw [hD2]; exact sa) (fun hHeld => ?_)
      simp only [hD2] at hHeld ⊢
      unfold T8g at hHeld
      refine tqE 0 ?_
      refine tqE 1 ?_
      refine tqE 2 ?_
      refine tqE 3 ?_
      refine tqE 4 ?_
      refine tqE 5 ?_
      refine tqE 6 ?_
      refine tqE 7 ?_
      refine tqE 8 ?_
      refine tqE 9 ?_
      refine upE 10 rfl (by kernel_rfl) (fun K hK => ?_)
      go_simp
      (try simp only [hA, hg])
      refine hK.out _ _ (sb) (fun hHeld => ?_)
      clear hK K
      (try simp only [Act.put, List.setIfInBounds_toArray, List.set_cons_zero, List.set_cons_succ])
      refine upE 11 rfl (by kernel_rfl) (fun K hK => ?_)
      refine step_append_run rfl (.tmp 42) (.tmp 48) 25 rfl (.slice rg.1 rg.2.1 rg.2.2) (.slice (some ⟨g, 0, none⟩) 1 1) (.slice r'.1 r'.2.1 r'.2.2) w5 (by simp [Act.eval]) (by simp [Act.eval]) HRUN.out ?_
      refine hK.out _ _ (sc) (fun hHeld => ?_)
      clear hK K
      (try simp only [Act.put, List.setIfInBounds_toArray, List.set_cons_zero, List.set_cons_succ])
      refine pureE 12 (v := ?_) rfl (by kernel_rfl) (by kernel_rfl) (by kernel_rfl) (by kernel_rfl) (fun _ _ _ h => h) (Or.inl ⟨by rfl, by intro wx hSw; (try dsimp only at hSw); go_simp; try with_reducible rfl⟩) (by assumption) ?_
      (try simp only [Act.put, List.setIfInBounds_toArray, List.set_cons_zero, List.set_cons_succ])
      refine pureE 13 (v := ?_) rfl (by kernel_rfl) (by kernel_rfl) (by kernel_rfl) (by kernel_rfl) (fun _ _ _ h => h) (Or.inl ⟨by rfl, by intro wx hSw; (try dsimp only at hSw); go_simp; try with_reducible rfl⟩) (by assumption) ?_
      (try simp only [Act.put, List.setIfInBounds_toArray, List.set_cons_zero, List.set_cons_succ])
      refine lastE 14 rfl (by kernel_rfl) (by kernel_rfl) (fun K hK => ?_)
      go_simp
      refine hK.out _ _ ?_
      clear hK K
      (try simp only [Act.put, List.setIfInBounds_toArray, List.set_cons_zero, List.set_cons_succ])
      refine doneE (by kernel_rfl) ?_ _
      refine NoPanic.normal ?_
      go_wp2
      go_ret
      exact ⟨.inl ⟨_, HNEW.out, rfl, HFIN.out.1⟩, HFIN.out.2⟩
    by_cases hk4 : e.k = 4
    · have hse := settle_any p Z D1 q y (HC.out.1.up HD1.out) hp (e.f, e.m) r ((HC.out.2.2.1.up HD1.out).imp (fun _ _ _ => trivial)) HY.out.2.1 HY.out.2.2
      unfold ptr itm at hse
      have e0' : D1.cell? ⟨X, 0, none⟩ = some (.int .u8 4) := by rw [hk4] at e0; exact e0
      have HNEW : Hid (takeD y e = if y.got[y.safe]? = some (e.f, e.m) then some { y with safe := y.safe + 1 } else none) := by
        show _ = _
        rw [HTKH.out, if_neg hk2, if_neg hk3, if_pos hk4]
      clear e0 y4 y5 hk2 hk3 hk4
      go_enter Try.func35, Try.ntmps35
      go_wp2_with fail
      (try simp only [hw1, hX])
      clear hw1 hX
      refine wp_region_noPanic ?_
      refine wp_region_held_drew (S := T1 q X y.n y.p y.s e.n e.p e.s) (by kernel_rfl) (t1) (fun hHeld => ?_)
      unfold T1 at hHeld
      refine tq 0 ?_
      refine tq 1 ?_
      refine tq 2 ?_
      refine tq 3 ?_
      refine tq 4 ?_
      refine tq 5 ?_
      refine tq 6 ?_
      refine tq 7 ?_
      refine tq 8 ?_
      refine tq 9 ?_
      refine tq 10 ?_
      refine tq 11 ?_
      refine tq 12 ?_
      refine tq 13 ?_
      refine tq 14 ?_
      refine tq 15 ?_
      refine wpAnyH_done (by kernel_rfl) ?_ _
      refine NoPanic.normal ?_
      simp only [hD1]
      clear hHeld t1 hD1
      go_wp2_with fail
      refine hse.mono ?_
      rintro ee w5 ⟨hs5, ht5⟩
      have HT5 : Hid (Tch q Z w w5) := (HT.out D1 HD1.out).trans ht5
      clear hse ht5
      rcases hs5 with ⟨h1, rfl, h2⟩ | ⟨h1, rfl⟩
      · have HF : Hid (takeD y e = some { y with safe := y.safe + 1 } ∧ Cur p Z w5 q { y with safe := y.safe + 1 }) := ⟨by rw [HNEW.out, if_pos h1], h2⟩
        clear h1 h2
        go_wp2
        go_ret
        exact ⟨.inl ⟨_, HF.out.1, rfl, HF.out.2⟩, HT5.out⟩
      · have HF : Hid (takeD y e = none) := by show _ = _; rw [HNEW.out, if_neg h1]
        clear h1
        go_wp2
        go_ret
        exact ⟨.inr ⟨HF.out, rfl⟩, HT5.out⟩
    have hb2 : ((e.k : Int) == 2) = false := by simp; omega
    have hb3 : ((e.k : Int) == 3) = false := by simp; omega
    have hb4 : ((e.k : Int) == 4) = false := by simp; omega
    have HNO : Hid (takeD y e = none) := by
      show _ = _
      rw [HTKH.out, if_neg hk2, if_neg hk3, if_neg hk4]
    clear hk2 hk3 hk4
    go_enter Try.func35, Try.ntmps35
    go_wp2_with fail
    (try simp only [hw1, hX])
    clear hw1 hX
    refine wp_region_noPanic ?_
    refine wp_region_held_drew (S := T1 q X y.n y.p y.s e.n e.p e.s) (by kernel_rfl) (t1) (fun hHeld => ?_)
    unfold T1 at hHeld
    refine tq 0 ?_
    refine tq 1 ?_
    refine tq 2 ?_
    refine tq 3 ?_
    refine tq 4 ?_
    refine tq 5 ?_
    refine tq 6 ?_
    refine tq 7 ?_
    refine tq 8 ?_
    refine tq 9 ?_
    refine tq 10 ?_
    refine tq 11 ?_
    refine tq 12 ?_
    refine tq 13 ?_
    refine tq 14 ?_
    refine tq 15 ?_
    refine wpAnyH_done (by kernel_rfl) ?_ _
    refine NoPanic.normal ?_
    simp only [hD1]
    go_wp2
    go_ret
    exact ⟨.inr ⟨HNO.out, rfl⟩, HT.out _ HD1.out⟩
end Go.Proofs.Ythnbijnpbjfoaaa
