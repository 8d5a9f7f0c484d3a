/-
  Package total's labelDelay: in a view all that waits has labels.
-/
import Derived.Test.YtlaihgdfedalmaaGreatMix3
namespace Go.Proofs.YtlaihgdfedalmaaGreat
open Go.RowKit Go.Sort Go.Conc
set_option linter.unusedVariables false
set_option linter.unusedSimpArgs false

theorem inView_any (w : World) (q n : Nat) (hc : w.cell? ⟨q, 4, none⟩ = some (.int .u64 (n : Nat))) :
    Calls Tryz.prog 53 #[.pointer (some ⟨q, 0, none⟩)] w fun e w' => e = .returned (.bool (decide (n ≠ 0))) ∧ w' = w := by
  go_enter Tryz.func53, Tryz.ntmps53
  go_wp2
  go_ret
  have hd : ((n : Int) != 0) = decide (n ≠ 0) := by
    by_cases h : n = 0
    · subst h; rfl
    · have : ((n : Int) == 0) = false := by simpa using h
      simp [bne, this, h]
  refine ⟨?_, rfl⟩
  rw [← hd]
  rfl
/-- The eldest that waits is taken; the others go on waiting. -/
def Tot.pop (T : Tot) : Tot := match T.dl with
  | [] => T
  | b :: r => ({ T with dl := r } : Tot).label b
def Tot.drain : Nat → Tot → Tot
  | 0, T => T
  | n + 1, T => Tot.drain n T.pop
/-- In a view all that waits has labels. -/
def Tot.labelAll (T : Tot) : Tot := if T.vn = 0 then T else T.drain T.dl.length
section
variable {w : World} {col : Nat → Nat} {Z : Nat → Prop} {q : Nat} {T : Tot} {a : Ta}
theorem setChan_heap_other (w : World) (c cap : Nat) (buf : Array Value) (cl : Bool) (s r : Nat) (tm : Bool) {k : Nat} (h : k ≠ c) : (w.setChan c cap buf cl s r tm).heap[k]? = w.heap[k]? := by
  simp [World.setChan, Array.getElem?_setIfInBounds_ne (Ne.symm h)]
/-- The channel's block has turned. -/
theorem Tt.chan (h : Tt w col Z q T a) {dl : List (List UInt8)} {vs : List Sv} {s r : Nat} (hl : vs.length = dl.length) (hm : ∀ (j : Nat) x b, vs[j]? = some x → dl[j]? = some b → Mg Z w x b) :
    Tt (w.setChan a.c T.qc (vs.map sv).toArray false s r false) col Z q { T with dl := dl } a ∧ Gt w col (w.setChan a.c T.qc (vs.map sv).toArray false s r false) col := by
  have hcc := h.d.cc
  have hlc := h.d.lt a.c (by omega)
  have hkp : Kp Z w (w.setChan a.c T.qc (vs.map sv).toArray false s r false) := fun ad u hz hu => by
    have hne : ad.block ≠ a.c := fun e => by have := h.d.zf _ hz; rw [e] at this; omega
    rw [World.cell?_of_block (w := w) (setChan_heap_other _ _ _ _ _ _ _ _ hne)]
    exact hu
  have hb : ∀ k c, col k = c → c ≠ 2 → (w.setChan a.c T.qc (vs.map sv).toArray false s r false).heap[k]? = w.heap[k]? := fun k c e h2 => setChan_heap_other _ _ _ _ _ _ _ _ (fun e' => by rw [e'] at e; omega)
  have hsz : (w.setChan a.c T.qc (vs.map sv).toArray false s r false).heap.size = w.heap.size := size_setChan _ _ _ _ _ _ _ _
  refine ⟨⟨fun k hk => ?_, fun k => ?_, h.fq, ?_⟩, ⟨⟨rfl, rfl, rfl, by omega, fun k hk hn => ?_⟩, fun _ e => .inl e⟩⟩
  · rw [cell_block (hb q 1 h.fq (by omega))]; exact h.cell k hk
  · rw [frozen_block (hb q 1 h.fq (by omega))]; exact h.fr k
  · refine { ch := ⟨s, r, vs, heap_setChan _ _ _ _ _ _ _ _ hlc, hl, fun j x b e1 e2 => (hm j x b e1 e2).kp hkp (fun _ e => e)⟩, con := ?_, am := ?_, sa := ?_, bu := ?_, od := ?_, tl := ?_, cc := h.d.cc, ccb := h.d.ccb, cab := h.d.cab, csb := h.d.csb, cbv := h.d.cbv, cov := h.d.cov, ctv := h.d.ctv, lt := fun b hb => by have := h.d.lt b hb; omega, zf := h.d.zf, zl := fun b hb => by have := h.d.zl b hb; omega }
    · obtain ⟨m, c1, c2, c3⟩ := h.d.con
      refine ⟨m, c1.of_block (hb _ _ h.d.ccb (by omega)), ⟨c2.1, c2.2.1, c2.2.2.1, fun y t hy hyt => ?_⟩, c3⟩
      obtain ⟨bs, q1, q2⟩ := c2.2.2.2 y t hy hyt
      exact ⟨bs, q1, row_kp q2 (c3 y t hy hyt) hkp⟩
    · obtain ⟨S, c1, c2⟩ := h.d.am
      exact ⟨S, c1.of_block (hb _ _ h.d.cab (by omega)), c2⟩
    · obtain ⟨S, c1, c2⟩ := h.d.sa
      exact ⟨S, c1.of_block (hb _ _ h.d.csb (by omega)), c2⟩
    · obtain ⟨xs, c1, c2, c3⟩ := h.d.bu
      exact ⟨xs, c1, c2.frame (fun k e => hb _ _ (h.d.cbv k e) (by omega)), fun j e x e1 e2 => ⟨(c3 j e x e1 e2).1, (c3 j e x e1 e2).2.kp hkp (fun _ e => e)⟩⟩
    · exact h.d.od.frame (fun k e => hb _ _ (h.d.cov k e) (by omega))
    · obtain ⟨ys, c1, c2, c3⟩ := h.d.tl
      exact ⟨ys, c1, c2.frame (fun k e => hb _ _ (h.d.ctv k e) (by omega)), fun y hy => (c3 y hy).kp hkp⟩
  · exact setChan_heap_other _ _ _ _ _ _ _ _ (fun e => hn (by rw [e, hcc]; omega))
theorem Tt.recv (h : Tt w col Z q T a) {b : List UInt8} {r : List (List UInt8)} (hd : T.dl = b :: r) :
    ∃ (s k : Nat) (x : Sv) (vs : List Sv), w.heap[a.c]? = some (.chan T.qc (sv x :: vs.map sv).toArray false s k false) ∧ Mg Z (w.setChan a.c T.qc (vs.map sv).toArray false s (k + 1) false) x b ∧ Tt (w.setChan a.c T.qc (vs.map sv).toArray false s (k + 1) false) col Z q { T with dl := r } a ∧ Gt w col (w.setChan a.c T.qc (vs.map sv).toArray false s (k + 1) false) col := by
  obtain ⟨s, k, vs, h1, h2, h3⟩ := h.d.ch
  rw [hd] at h2 h3
  obtain ⟨x, vs, rfl⟩ : ∃ x ys, vs = x :: ys := by
    cases vs with
    | nil => simp at h2
    | cons x ys => exact ⟨x, ys, rfl⟩
  obtain ⟨c1, c2⟩ := h.chan (dl := r) (vs := vs) (s := s) (r := k + 1) (by simpa using h2) (fun j x b e1 e2 => h3 (j + 1) x b (by simpa using e1) (by simpa using e2))
  refine ⟨s, k, x, vs, by simpa using h1, (h3 0 x b rfl rfl).kp (c2.turned.kp (fun j hz e => by have := h.d.zf j hz; omega)) (fun _ e => e), c1, c2⟩
/-- What is bounded while labels are given. -/
structure Lim (T : Tot) (n : Nat) : Prop where
  tn : Tn T
  seq : T.seq + n < 18446744073709551616
  buf : T.buf.length + n ≤ 1000
  K : T.K + n ≤ 1000000
theorem Lim.pop {n : Nat} {b : List UInt8} {r : List (List UInt8)} (h : Lim T (n + 1)) (hd : T.dl = b :: r) : Lim T.pop n := by
  obtain ⟨h1, h2, h3, h4⟩ := h
  have e : T.pop = ({ T with dl := r } : Tot).label b := by unfold Tot.pop; rw [hd]
  rw [e]
  exact ⟨⟨h1.n, h1.self, h1.vn, h1.vp, h1.vs, h1.st, by simp [Tot.label]; omega⟩, by simp [Tot.label]; omega, by simp [Tot.label]; omega, by simp [Tot.label]; omega⟩
end
def DelPost (w : World) (col : Nat → Nat) (Z : Nat → Prop) (q : Nat) (T : Tot) (e : Ending) (w' : World) : Prop := e = .returned (.tuple #[]) ∧ LabPost w col Z q T.labelAll w'
/-- Where the loop stands. -/
def DelAt (w : World) (col : Nat → Nat) (Z : Nat → Prop) (q : Nat) (T : Tot) (n : Nat) (W : World) : Prop := ∃ col' a' T', Tt W col' Z q T' a' ∧ Gt w col W col' ∧ T'.dl.length = n ∧ Lim T' n ∧ T'.vn = T.vn ∧ (T.vn ≠ 0 → T'.drain n = T.drain T.dl.length) ∧ (T.vn = 0 → T' = T)
set_option maxRecDepth 10000 in
set_option maxHeartbeats 2000000 in
theorem labelDelay_any (w : World) (col : Nat → Nat) (Z : Nat → Prop) (q : Nat) (T : Tot) (a : Ta) (h : Tt w col Z q T a) (hl : Lim T T.dl.length) :
    Calls Tryz.prog 48 #[.pointer (some ⟨q, 0, none⟩)] w (DelPost w col Z q T) := by
  refine calls_of_wpN Tryz.func48 rfl ?_
  refine wpN_block ?_
  refine wpN_loop (fun n A W => (∃ u1 u2 u3 u4 u5 u6 u7 u8 u9 u10 u11 u12 u13 u14 u15, A = { tmps := #[.pointer (some ⟨q, 0, none⟩), u1, u2, u3, u4, u5, u6, u7, u8, u9, u10, u11, u12, u13, u14, u15], defers := [] }) ∧ DelAt w col Z q T n W) ?round T.dl.length _ _ ?start
  case start =>
    refine ⟨⟨_, _, _, _, _, _, _, _, _, _, _, _, _, _, _, rfl⟩, col, a, T, h, Gt.refl _ _, rfl, hl, rfl, fun _ => rfl, fun _ => rfl⟩
  case round =>
    rintro n A W ⟨⟨u1, u2, u3, u4, u5, u6, u7, u8, u9, u10, u11, u12, u13, u14, u15, rfl⟩, col', a', T', hT, hG, hn, hL, hv, hd0, hd1⟩
    have hc4 := hT.cell 4 (by omega)
    have hiv := inView_any W q T'.vn hc4
    refine wpN_seq ?_
    go_wp2_with fail
    refine hiv.mono ?_
    rintro e W1 ⟨rfl, rfl⟩
    clear hiv
    by_cases h0 : T'.vn = 0
    · have hdc : decide (T'.vn ≠ 0) = false := by simp [h0]
      rw [hdc]
      have HP : Hid (DelPost w col Z q T (.returned (.tuple #[])) W1) := ⟨rfl, by
        unfold Tot.labelAll
        rw [if_pos (by rw [← hv]; exact h0)]
        have := hd1 (by rw [← hv]; exact h0)
        subst this
        exact ⟨_, _, hT, hG⟩⟩
      clear hdc hT hG hc4 hL hd0 hd1 h hl
      go_wp2
      go_end0
      exact HP.out
    · have hdc : decide (T'.vn ≠ 0) = true := by simp [h0]
      rw [hdc]
      have hc2 := hT.cell 2 (by omega)
      simp only [tcell] at hc2
      clear hdc h hl
      go_wp2_with fail
      refine wpN_block ?_
      refine wpN_seq ?_
      go_wp2_with fail
      refine wpN_seq' ?_
      cases hdl : T'.dl with
      | nil =>
        obtain ⟨s, r, vs, k1, k2, k3⟩ := hT.d.ch
        rw [hdl] at k2
        obtain rfl : vs = [] := List.eq_nil_of_length_eq_zero k2
        have HP : Hid (DelPost w col Z q T (.returned (.tuple #[])) W1) := ⟨rfl, by
          unfold Tot.labelAll
          rw [if_neg (by rw [← hv]; exact h0), ← hd0 (by rw [← hv]; exact h0)]
          have : n = 0 := by rw [← hn, hdl]; rfl
          subst this
          exact ⟨_, _, hT, hG⟩⟩
        refine wpN_recv_none (c := a'.c) (z := .slice none 0 0) rfl (by simp [go_sem, execOp, rcase, Act.eval]) k1 ?_
        clear hT hG hL hn hv hd0 hd1 hc4 hc2 k1 k2 k3 h0 hdl
        simp only [Act.put, List.setIfInBounds_toArray, List.set_cons_zero, List.set_cons_succ]
        go_wp2_with fail
        refine wpN_of ?_
        go_wp2
        go_end0
        exact HP.out
      | cons b rest =>
        obtain ⟨s, k, x, vs, k1, hm, hT2, hG2⟩ := hT.recv hdl
        refine wpN_recv_buf (c := a'.c) (z := .slice none 0 0) rfl (by simp [go_sem, execOp, rcase, Act.eval]) k1 (by simp) ?_
        have hn1 : n = rest.length + 1 := by rw [← hn, hdl]; rfl
        subst hn1
        obtain ⟨x0, x1, x2⟩ := x
        have e1 : ((sv (x0, x1, x2) :: vs.map sv).toArray.extract 1 (sv (x0, x1, x2) :: vs.map sv).toArray.size) = (vs.map sv).toArray := by
          simp
          rw [show vs.length = (vs.map sv).length by simp, List.take_length]
        have e2 : (sv (x0, x1, x2) :: vs.map sv).toArray.getD 0 undef = .slice x0 x1 x2 := by simp [sv]
        rw [e1, e2]
        have hpop : T'.pop = ({ T' with dl := rest } : Tot).label b := by unfold Tot.pop; rw [hdl]
        have hL2 := hL.pop hdl
        have hlab := label_any _ col' Z q { T' with dl := rest } a' hT2 ⟨hL.tn.n, hL.tn.self, hL.tn.vn, hL.tn.vp, hL.tn.vs, hL.tn.st, hL.tn.K⟩ (by have := hL.seq; simp; omega) (by have := hL.buf; simp; omega) x0 x1 x2 b hm
        have HR : Hid (∀ W3, LabPost (W1.setChan a'.c T'.qc (vs.map sv).toArray false s (k + 1) false) col' Z q (({ T' with dl := rest } : Tot).label b) W3 → DelAt w col Z q T rest.length W3) := by
          rintro W3 ⟨c3, a3, h3, g3⟩
          refine ⟨c3, a3, _, h3, (hG.trans hG2).trans g3, rfl, ?_, hv, fun hne => ?_, fun e => absurd (hv.trans e) h0⟩
          · rw [← hpop]; exact hL2
          · rw [← hd0 hne, ← hpop]; rfl
        generalize hpost : LabPost (W1.setChan a'.c T'.qc (vs.map sv).toArray false s (k + 1) false) col' Z q (({ T' with dl := rest } : Tot).label b) = Po at *
        generalize hW2 : W1.setChan a'.c T'.qc (vs.map sv).toArray false s (k + 1) false = W2 at *
        clear hT hT2 hG hG2 hL hL2 hn hv hd0 hd1 hc4 hc2 k1 h0 hdl e1 e2 hpop hm hpost hW2
        simp only [Act.put, List.setIfInBounds_toArray, List.set_cons_zero, List.set_cons_succ]
        go_wp2_with fail
        refine wpN_of ?_
        go_wp2_with fail
        refine hlab.mono ?_
        rintro e W3 ⟨rfl, hp⟩
        have HD := HR.out W3 hp
        clear hlab HR hp
        go_wp2_with fail
        exact ⟨rest.length, Nat.lt_succ_self _, ⟨_, _, _, _, _, _, _, _, _, _, _, _, _, _, _, rfl⟩, HD⟩
end Go.Proofs.YtlaihgdfedalmaaGreat
