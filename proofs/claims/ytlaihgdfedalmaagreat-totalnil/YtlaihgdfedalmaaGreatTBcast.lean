/-
  Package total's Bcast.
-/
import Derived.Test.YtlaihgdfedalmaaGreatTPrim
import Derived.Test.YtlaihgdfedalmaaGreatTSelS
import Derived.Test.YtlaihgdfedalmaaGreatMix2
namespace Go.Proofs.YtlaihgdfedalmaaGreat
open Go.RowKit Go.Sort Go.Conc
set_option linter.unusedVariables false
set_option linter.unusedSimpArgs false

/-- A call has been: the node is T', and only its own blocks have turned. -/
def Stp (w : World) (col : Nat → Nat) (Z : Nat → Prop) (q : Nat) (T' : Tot) (w' : World) : Prop := ∃ col' Z' a', Tt w' col' Z' q T' a' ∧ Gt w col w' col' ∧ (∀ b, Z b → Z' b) ∧ ∀ b, Z' b → Z b ∨ w.heap.size ≤ b
theorem Stp.still {w w' : World} {col : Nat → Nat} {Z : Nat → Prop} {q : Nat} {T : Tot} {a : Ta} (h : Tt w col Z q T a) (u : Below w.heap.size w w') : Stp w col Z q T w' := ⟨col, Z, a, h.still u, Gt.bl col u, fun _ h => h, fun _ h => .inl h⟩
/-- What a call makes anew may be what nobody writes to. -/
theorem Tt.more {w w' : World} {col : Nat → Nat} {Z : Nat → Prop} {q : Nat} {T : Tot} {a : Ta} (h : Tt w col Z q T a) (u : Below w.heap.size w w') : Tt w' col (fun k => Z k ∨ (w.heap.size ≤ k ∧ k < w'.heap.size)) q T a :=
  h.frame (fun b hb => u.block b (h.d.lt b hb)) u.size (Kp.bl u) (fun _ e => .inl e) (fun b e => e.elim (h.d.zf b) (fun e => by
    by_cases hc : col b = 0
    · exact hc
    · have := h.d.lt b (by omega); omega)) (fun b e => e.elim (fun e => Nat.lt_of_lt_of_le (h.d.zl b e) u.size) (fun e => e.2))
theorem Stp.more {w w1 w' : World} {col : Nat → Nat} {Z : Nat → Prop} {q : Nat} {T : Tot} (u : Below w.heap.size w w1) (h : Stp w1 col (fun k => Z k ∨ (w.heap.size ≤ k ∧ k < w1.heap.size)) q T w') : Stp w col Z q T w' := by
  obtain ⟨c, Z', a, h1, h2, h3, h4⟩ := h
  refine ⟨c, Z', a, h1, (Gt.bl col u).trans h2, fun b hb => h3 b (.inl hb), fun b hb => ?_⟩
  have := u.size
  rcases h4 b hb with (e | e) | e
  · exact .inl e
  · exact .inr e.1
  · exact .inr (by omega)
def Tot.bcast (T : Tot) (b : List UInt8) : Tot × Int :=
  if 64 < b.length then (T, 2) else if T.acc = 64 then (T, 7) else if T.qc ≤ T.dl.length then (T, 7) else (({ T with acc := T.acc + 1, dl := T.dl ++ [b] } : Tot).labelAll, 0)
theorem bcast_nil (w : World) (v : Value) : Calls Tryz.prog 16 #[.pointer none, v] w fun e w' => e = .returned (.int .i64 6) ∧ w' = w := by
  go_enter Tryz.func16, Tryz.ntmps16
  go_wp2
  go_ret
  exact ⟨rfl, rfl⟩
theorem bcast_long (w : World) (q : Nat) (ao : Option Addr) (n cap : Nat) (hn : (64 : Int) < (n : Nat)) : Calls Tryz.prog 16 #[.pointer (some ⟨q, 0, none⟩), .slice ao n cap] w fun e w' => e = .returned (.int .i64 2) ∧ w' = w := by
  go_enter Tryz.func16, Tryz.ntmps16
  go_wp2
  go_ret
  exact ⟨rfl, rfl⟩
theorem bcast_all (w : World) (q : Nat) (ao : Option Addr) (n cap : Nat) (hn : ¬ ((64 : Int) < (n : Nat))) (hc : w.cell? ⟨q, 3, none⟩ = some (.int .i64 64)) : Calls Tryz.prog 16 #[.pointer (some ⟨q, 0, none⟩), .slice ao n cap] w fun e w' => e = .returned (.int .i64 7) ∧ w' = w := by
  go_enter Tryz.func16, Tryz.ntmps16
  go_wp2
  go_ret
  exact ⟨rfl, rfl⟩
set_option maxRecDepth 10000 in
set_option maxHeartbeats 2000000 in
theorem bcast_full (w : World) (q : Nat) (ao : Option Addr) (n cap : Nat) (b : List UInt8) (hb : Cd.Row w ao n cap b) (hn : ¬ ((64 : Int) < (n : Nat))) (acc : Nat) (ha : ((acc : Int) == 64) = false) (c3 : w.cell? ⟨q, 3, none⟩ = some (.int .i64 (acc : Nat)))
    (c qc s r : Nat) (buf : Array Value) (c2 : w.cell? ⟨q, 2, none⟩ = some (.chan (some c))) (hc : w.heap[c]? = some (.chan qc buf false s r false)) (hf : qc ≤ buf.size) :
    Calls Tryz.prog 16 #[.pointer (some ⟨q, 0, none⟩), .slice ao n cap] w fun e w' => e = .returned (.int .i64 7) ∧ Below w.heap.size w w' := by
  have hcl := bclone_any w ao n cap b hb (by omega)
  have hlc : c < w.heap.size := (Array.getElem?_eq_some_iff.1 hc).1
  refine calls_of_wpS Tryz.func16 rfl ?_
  simp only [Tryz.ntmps16, List.size_toArray, List.length_cons, List.length_nil, Nat.reduceAdd, Nat.reduceSub, Array.replicate_succ, Array.replicate_zero, List.push_toArray, List.append_toArray, List.nil_append, List.cons_append]
  refine wpS_seq ?_
  go_wp2_with fail
  refine wpS_seq ?_
  go_wp2_with fail
  refine wpS_seq ?_
  go_wp2_with fail
  refine wpS_seq ?_
  go_wp2_with fail
  refine wpS_seq' ?_
  refine wpS_seq ?_
  go_wp2_with fail
  refine hcl.mono ?_
  rintro e w1 ⟨v, rfl, ho, u⟩
  obtain ⟨so, sc, rfl, -, -⟩ := own_bytes ho
  have hc1 := (u.block c hlc).trans hc
  clear hcl ho
  go_wp2_with fail
  refine wpS_seq' ?_
  refine wpS_send_full (c := c) (v := .slice so b.length sc) (z := .slice none 0 0) rfl (by simp [go_sem, execOp, scase, Act.eval]) hc1 hf ?_
  clear hc hc1 c2 c3 hb hlc
  simp only [Act.put, List.setIfInBounds_toArray, List.set_cons_zero, List.set_cons_succ]
  go_wp2_with fail
  refine wpS_of ?_
  go_wp2
  go_ret
  exact ⟨rfl, u⟩
set_option maxRecDepth 10000 in
set_option maxHeartbeats 2000000 in
theorem bcast_room (w : World) (col : Nat → Nat) (Z : Nat → Prop) (q : Nat) (T : Tot) (a : Ta) (h : Tt w col Z q T a) (hl : Lim T (T.dl.length + 1)) (ao : Option Addr) (n cap : Nat) (b : List UInt8) (hb : Cd.Row w ao n cap b) (hn : ¬ ((64 : Int) < (n : Nat))) (hacc : T.acc < 64) (hr : T.dl.length < T.qc) :
    Calls Tryz.prog 16 #[.pointer (some ⟨q, 0, none⟩), .slice ao n cap] w fun e w' => e = .returned (.int .i64 0) ∧ Stp w col Z q ({ T with acc := T.acc + 1, dl := T.dl ++ [b] } : Tot).labelAll w' := by
  have hcl := bclone_any w ao n cap b hb (by omega)
  have ha : ((T.acc : Int) == 64) = false := by have : (T.acc : Int) ≠ 64 := by omega
                                                simpa using this
  have c3 := h.cell 3 (by omega)
  have c2 := h.cell 2 (by omega)
  simp only [tcell] at c2 c3
  have key : Hid (∀ w1 so sc, Below w.heap.size w w1 → Cd.Row w1 so b.length sc b → (∀ ad, so = some ad → w.heap.size ≤ ad.block ∧ ad.block < w1.heap.size) → ∃ (s r : Nat) (buf : Array Value), w1.heap[a.c]? = some (.chan T.qc buf false s r false) ∧ buf.size < T.qc ∧
      (w1.setChan a.c T.qc (buf.push (.slice so b.length sc)) false (s + 1) r false).cell? ⟨q, 3, none⟩ = some (.int .i64 (T.acc : Nat)) ∧ (w1.setChan a.c T.qc (buf.push (.slice so b.length sc)) false (s + 1) r false).frozen? ⟨q, 3, none⟩ = false ∧
      Calls Tryz.prog 48 #[.pointer (some ⟨q, 0, none⟩)] ((w1.setChan a.c T.qc (buf.push (.slice so b.length sc)) false (s + 1) r false).setCell ⟨q, 3, none⟩ (.int .i64 ((T.acc : Int) + 1))) (fun e w' => e = .returned (.tuple #[]) ∧ Stp w col Z q ({ T with acc := T.acc + 1, dl := T.dl ++ [b] } : Tot).labelAll w')) := by
    intro w1 so sc u hrow hblk
    have h1 := h.more u
    obtain ⟨s, r, vs, k1, k2, k3⟩ := h1.d.ch
    obtain ⟨h2, g2⟩ := h1.chan (dl := T.dl ++ [b]) (vs := vs ++ [(so, b.length, sc)]) (s := s + 1) (r := r) (by simp [k2]) (fun j x c e1 e2 => by
      by_cases hj : j < vs.length
      · rw [List.getElem?_append_left hj] at e1
        rw [List.getElem?_append_left (by omega)] at e2
        exact k3 j x c e1 e2
      · rw [List.getElem?_append_right (by omega)] at e1
        rw [List.getElem?_append_right (by omega)] at e2
        rw [k2] at e1
        cases hjj : j - T.dl.length with
        | zero =>
          rw [hjj] at e1 e2
          simp at e1 e2
          subst e1 e2
          exact ⟨hrow, fun ad e _ => .inr (hblk ad e)⟩
        | succ m => rw [hjj] at e1; simp at e1)
    have ep : ((vs ++ [(so, b.length, sc)]).map sv).toArray = ((vs.map sv).toArray).push (.slice so b.length sc) := by simp [sv]
    rw [ep] at h2 g2
    refine ⟨s, r, (vs.map sv).toArray, k1, by simp [k2, hr], ?_, ?_, ?_⟩
    · have := h2.cell 3 (by omega)
      simpa only [tcell] using this
    · exact h2.fr 3
    · have e8 : ((T.acc + 1 : Nat) : Int) = (T.acc : Int) + 1 := by omega
      have h3 := h2.setc (T' := { T with acc := T.acc + 1, dl := T.dl ++ [b] }) (a' := a) 3 (.int .i64 ((T.acc : Int) + 1)) (fun j hj => by unfold tcell; split <;> simp_all) (by omega) (fun W d => ⟨d.ch, d.con, d.am, d.sa, d.bu, d.od, d.tl, d.cc, d.ccb, d.cab, d.csb, d.cbv, d.cov, d.ctv, d.lt, d.zf, d.zl⟩)
      have g3 := g2.trans (Gt.set (col := col) (q := q) (k := 3) (by rw [h2.fq]; omega) (.int .i64 ((T.acc : Int) + 1)))
      refine (labelDelay_any _ col _ q _ a h3 ⟨⟨hl.tn.n, hl.tn.self, hl.tn.vn, hl.tn.vp, hl.tn.vs, hl.tn.st, hl.tn.K⟩, by simpa using hl.seq, by simpa using hl.buf, by simpa using hl.K⟩).mono ?_
      rintro e w' ⟨rfl, col', a', h4, g4⟩
      exact ⟨rfl, Stp.more u ⟨col', _, a', h4, g3.trans g4, fun _ e => e, fun _ e => .inl e⟩⟩
  have hwr : IntKind.wrap .i64 ((T.acc : Int) + 1) = (T.acc : Int) + 1 := by simp [IntKind.wrap, IntKind.bits, IntKind.signed]; omega
  clear h hl hb hr
  refine calls_of_wpS Tryz.func16 rfl ?_
  simp only [Tryz.ntmps16, List.size_toArray, List.length_cons, List.length_nil, Nat.reduceAdd, Nat.reduceSub, Array.replicate_succ, Array.replicate_zero, List.push_toArray, List.append_toArray, List.nil_append, List.cons_append]
  refine wpS_seq ?_
  go_wp2_with fail
  refine wpS_seq ?_
  go_wp2_with fail
  refine wpS_seq ?_
  go_wp2_with fail
  refine wpS_seq ?_
  go_wp2_with fail
  refine wpS_seq' ?_
  refine wpS_seq ?_
  go_wp2_with fail
  refine hcl.mono ?_
  rintro e w1 ⟨v, rfl, ho, u⟩
  obtain ⟨so, sc, rfl, hrow, hblk⟩ := own_bytes ho
  obtain ⟨s, r, buf, k1, k2, k3, k4, k5⟩ := key.out w1 so sc u hrow hblk
  clear hcl ho key c2 c3 hrow hblk u
  go_wp2_with fail
  refine wpS_seq' ?_
  refine wpS_send_room (c := a.c) (v := .slice so b.length sc) (z := .slice none 0 0) rfl (by simp [go_sem, execOp, scase, Act.eval]) k1 k2 ?_
  generalize w1.setChan a.c T.qc (buf.push (.slice so b.length sc)) false (s + 1) r false = w2 at *
  clear k1 k2
  simp only [Act.put, List.setIfInBounds_toArray, List.set_cons_zero, List.set_cons_succ]
  go_wp2_with fail
  refine wpS_of ?_
  go_wp2_with fail
  refine wpS_of ?_
  go_wp2_with fail
  refine k5.mono ?_
  rintro e w3 ⟨rfl, hS⟩
  have HS : Hid _ := hS
  clear hS k5 k3 k4
  go_wp2
  go_ret
  exact ⟨rfl, HS.out⟩
theorem bcast_any (w : World) (col : Nat → Nat) (Z : Nat → Prop) (q : Nat) (T : Tot) (a : Ta) (h : Tt w col Z q T a) (hl : Lim T (T.dl.length + 1)) (hacc : T.acc ≤ 64) (ao : Option Addr) (n cap : Nat) (b : List UInt8) (hb : Cd.Row w ao n cap b) :
    Calls Tryz.prog 16 #[.pointer (some ⟨q, 0, none⟩), .slice ao n cap] w fun e w' => e = .returned (.int .i64 (T.bcast b).2) ∧ Stp w col Z q (T.bcast b).1 w' := by
  have hlen := hb.1
  have c3 := h.cell 3 (by omega)
  have c2 := h.cell 2 (by omega)
  simp only [tcell] at c2 c3
  unfold Tot.bcast
  by_cases h1 : 64 < b.length
  · rw [if_pos h1]
    refine (bcast_long w q ao n cap (by omega)).mono ?_
    rintro e w' ⟨rfl, rfl⟩
    exact ⟨rfl, Stp.still h (Below.refl _ _)⟩
  · rw [if_neg h1]
    by_cases h2 : T.acc = 64
    · rw [if_pos h2]
      rw [h2] at c3
      refine (bcast_all w q ao n cap (by omega) c3).mono ?_
      rintro e w' ⟨rfl, rfl⟩
      exact ⟨rfl, Stp.still h (Below.refl _ _)⟩
    · rw [if_neg h2]
      have ha : ((T.acc : Int) == 64) = false := by
        have : (T.acc : Int) ≠ 64 := by omega
        simpa using this
      by_cases h3 : T.qc ≤ T.dl.length
      · rw [if_pos h3]
        obtain ⟨s, r, vs, k1, k2, k3⟩ := h.d.ch
        refine (bcast_full w q ao n cap b hb (by omega) T.acc ha c3 a.c T.qc s r _ c2 k1 (by simp [k2]; omega)).mono ?_
        rintro e w' ⟨rfl, u⟩
        exact ⟨rfl, Stp.still h u⟩
      · rw [if_neg h3]
        exact bcast_room w col Z q T a h hl ao n cap b hb (by omega) (by omega) (by omega)
end Go.Proofs.YtlaihgdfedalmaaGreat
