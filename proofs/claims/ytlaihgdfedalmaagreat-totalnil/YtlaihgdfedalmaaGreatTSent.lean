/-
  Package total's Sent.
-/
import Derived.Test.YtlaihgdfedalmaaGreatTNext
namespace Go.Proofs.YtlaihgdfedalmaaGreat
open Go.RowKit Go.Sort Go.Conc
set_option linter.unusedVariables false
set_option linter.unusedSimpArgs false

theorem sent_nil (w : World) : Calls Tryz.prog 21 #[.pointer none] w fun e w' => e = .returned (.int .i64 6) ∧ w' = w := by
  go_enter Tryz.func21, Tryz.ntmps21
  go_wp2
  go_ret
  exact ⟨rfl, rfl⟩
set_option maxRecDepth 10000 in
set_option maxHeartbeats 1000000 in
theorem sent_no (w : World) (q : Nat) (h : Calls Tryz.prog 20 #[.pointer (some ⟨q, 0, none⟩)] w (fun e w' => e = .returned (.tuple #[.slice none 0 0, .bool false]) ∧ Below w.heap.size w w')) : Calls Tryz.prog 21 #[.pointer (some ⟨q, 0, none⟩)] w fun e w' => e = .returned (.int .i64 8) ∧ Below w.heap.size w w' := by
  go_enter Tryz.func21, Tryz.ntmps21
  go_wp2_with fail
  refine h.mono ?_
  rintro e w1 ⟨rfl, u⟩
  clear h
  go_wp2
  go_ret
  exact ⟨rfl, u⟩
set_option maxRecDepth 10000 in
set_option maxHeartbeats 1000000 in
theorem sent_sum (w : World) (q : Nat) (R : World → Prop) (h : Calls Tryz.prog 20 #[.pointer (some ⟨q, 0, none⟩)] w (fun e w' => ∃ mo ml mc, e = .returned (.tuple #[.slice mo ml mc, .bool true]) ∧ w'.cell? ⟨q, 7, none⟩ = some (.int .u8 0) ∧ w'.frozen? ⟨q, 7, none⟩ = false ∧ R (w'.setCell ⟨q, 7, none⟩ (.int .u8 1)))) : Calls Tryz.prog 21 #[.pointer (some ⟨q, 0, none⟩)] w fun e w' => e = .returned (.int .i64 0) ∧ R w' := by
  go_enter Tryz.func21, Tryz.ntmps21
  go_wp2_with fail
  refine h.mono ?_
  rintro e w1 ⟨mo, ml, mc, rfl, c7, f7, hR⟩
  have HR : Hid _ := hR
  clear h hR
  go_wp2
  go_ret
  exact ⟨rfl, HR.out⟩
set_option maxRecDepth 10000 in
set_option maxHeartbeats 1000000 in
theorem sent_one1 (w : World) (q bo off : Nat) (R : World → Prop) (h : Calls Tryz.prog 20 #[.pointer (some ⟨q, 0, none⟩)] w (fun e w' => ∃ mo ml mc, e = .returned (.tuple #[.slice mo ml mc, .bool true]) ∧ w'.cell? ⟨q, 7, none⟩ = some (.int .u8 2) ∧ w'.cell? ⟨q, 9, none⟩ = some (.slice (some ⟨bo, off, none⟩) 1 1) ∧ w'.frozen? ⟨q, 9, none⟩ = false ∧ R (w'.setCell ⟨q, 9, none⟩ (.slice (some ⟨bo, off, none⟩) 0 0)))) : Calls Tryz.prog 21 #[.pointer (some ⟨q, 0, none⟩)] w fun e w' => e = .returned (.int .i64 0) ∧ R w' := by
  go_enter Tryz.func21, Tryz.ntmps21
  go_wp2_with fail
  refine h.mono ?_
  rintro e w1 ⟨mo, ml, mc, rfl, c7, c9, f9, hR⟩
  have HR : Hid _ := hR
  clear h hR
  go_wp2
  go_ret
  exact ⟨rfl, HR.out⟩
set_option maxRecDepth 10000 in
set_option maxHeartbeats 1000000 in
theorem sent_one (w : World) (q bo off M cap : Nat) (h1 : 1 ≤ M) (h2 : M ≤ cap) (h3 : 1 < cap) (R : World → Prop) (h : Calls Tryz.prog 20 #[.pointer (some ⟨q, 0, none⟩)] w (fun e w' => ∃ mo ml mc, e = .returned (.tuple #[.slice mo ml mc, .bool true]) ∧ w'.cell? ⟨q, 7, none⟩ = some (.int .u8 2) ∧ w'.cell? ⟨q, 9, none⟩ = some (.slice (some ⟨bo, off, none⟩) M cap) ∧ w'.frozen? ⟨q, 9, none⟩ = false ∧ R (w'.setCell ⟨q, 9, none⟩ (.slice (some ⟨bo, off + 5, none⟩) (M - 1) (cap - 1))))) : Calls Tryz.prog 21 #[.pointer (some ⟨q, 0, none⟩)] w fun e w' => e = .returned (.int .i64 0) ∧ R w' := by
  go_enter Tryz.func21, Tryz.ntmps21
  go_wp2_with fail
  refine h.mono ?_
  rintro e w1 ⟨mo, ml, mc, rfl, c7, c9, f9, hR⟩
  have HR : Hid _ := hR
  clear h hR
  go_wp2
  go_ret
  exact ⟨rfl, HR.out⟩
/-- What a node's own things are bounded by. -/
structure Tk (T : Tot) : Prop where
  K : T.K ≤ 100000
  cl : T.con.length ≤ 5000
  c : ∀ e ∈ T.con, OkL e.1 ∧ e.2.length ≤ 64
  ol : T.ord.length ≤ 5000
  o : ∀ x ∈ T.ord, OkL x
  h : T.hn < 18446744073709551616
  b : ∀ e ∈ T.buf, OkL e.1
def Tot.sent (T : Tot) : Tot × Int := match T.next with
  | none => (T, 8)
  | some _ => if T.st = 2 then ({ T with buf := T.buf.tail }, 0) else ({ T with st := 1 }, 0)
theorem rw_tail {w : World} {e : TypeId} {bo off M cap : Nat} {c cs : List Value} (h : Rw w e 5 (.slice (some ⟨bo, off, none⟩) M cap) M (c ++ cs)) (hc : c.length = 5) (hM : 1 ≤ M) :
    M ≤ cap ∧ (cap = 1 → Rw w e 5 (.slice (some ⟨bo, off, none⟩) 0 0) 0 cs) ∧ (1 < cap → Rw w e 5 (.slice (some ⟨bo, off + 5, none⟩) (M - 1) (cap - 1)) (M - 1) cs) := by
  obtain ⟨h0, h1, ao, cap', hv, hm, ⟨rfl, rfl, rfl⟩ | ⟨b, o, N, f, rfl, hr, h2, h3, h4⟩⟩ := h
  · omega
  · simp only [Value.slice.injEq, Option.some.injEq, Addr.mk.injEq] at hv
    obtain ⟨⟨rfl, rfl, -⟩, -, rfl⟩ := hv
    rw [List.length_append, hc] at h0
    have h1' : ∀ x ∈ cs, x.oneCell' = true := fun x hx => h1 x (by simp [hx])
    refine ⟨h3, fun e1 => ?_, fun e1 => ?_⟩
    · subst e1
      have : M = 1 := by omega
      subst this
      have hcs : cs = [] := List.eq_nil_of_length_eq_zero (by omega)
      subst hcs
      exact ⟨rfl, by simp, _, 0, rfl, Nat.zero_le _, .inr ⟨bo, off, N, f, rfl, hr, by omega, Nat.le_refl _, fun j x hj => by simp at hj⟩⟩
    · refine ⟨?_, h1', _, cap - 1, rfl, by omega, .inr ⟨bo, off + 5, N, f, rfl, hr, ?_, by omega, fun j x hj => ?_⟩⟩
      · rw [Nat.sub_mul]; omega
      · rw [Nat.sub_mul]; omega
      · have := h4 (5 + j) x (by rw [List.getElem?_append_right (by omega), hc, show 5 + j - 5 = j by omega]; exact hj)
        rw [show off + 5 + j = off + (5 + j) by omega]
        exact this
theorem Tt.setBuf {w : World} {col : Nat → Nat} {Z : Nat → Prop} {q : Nat} {T : Tot} {a : Ta} (h : Tt w col Z q T a) (v : Value) (b : List En) (hd : ∀ W, Td W col Z T a → Td W col Z { T with buf := b } { a with bv := v }) : Tt (w.setCell ⟨q, 9, none⟩ v) col Z q { T with buf := b } { a with bv := v } :=
  h.setc 9 v (fun j hj => by unfold tcell; split <;> simp_all) (by omega) hd
set_option maxHeartbeats 1000000 in
theorem sent_any {w : World} {col : Nat → Nat} {Z : Nat → Prop} {q : Nat} {T : Tot} {a : Ta} (h : Tt w col Z q T a) (hk : Tk T) :
    Calls Tryz.prog 21 #[.pointer (some ⟨q, 0, none⟩)] w fun e w' => e = .returned (.int .i64 T.sent.2) ∧ Stp w col Z q T.sent.1 w' := by
  have hnx := nextT_any h hk.K hk.cl hk.c hk.ol hk.o hk.h hk.b
  have hq : 0 < col q := by rw [h.fq]; omega
  unfold Tot.sent
  cases hN : T.next with
  | none =>
    rw [hN] at hnx
    refine (sent_no w q (hnx.mono (fun e w' p => ⟨p.2, p.1⟩))).mono ?_
    rintro e w' ⟨rfl, u⟩
    exact ⟨rfl, Stp.still h u⟩
  | some b =>
    rw [hN] at hnx
    show Calls Tryz.prog 21 #[.pointer (some ⟨q, 0, none⟩)] w fun e w' => e = .returned (.int .i64 (if T.st = 2 then (({ T with buf := T.buf.tail }, 0) : Tot × Int) else ({ T with st := 1 }, 0)).2) ∧ Stp w col Z q (if T.st = 2 then (({ T with buf := T.buf.tail }, 0) : Tot × Int) else ({ T with st := 1 }, 0)).1 w'
    have hN' := hN
    unfold Tot.next at hN'
    by_cases h0 : T.vn = 0
    · rw [if_pos h0] at hN'; cases hN'
    rw [if_neg h0] at hN'
    by_cases h1 : T.st = 0
    · rw [if_neg (by omega)]
      refine sent_sum w q (Stp w col Z q { T with st := 1 }) (hnx.mono ?_)
      rintro e w1 ⟨u, v, rfl, hv⟩
      obtain ⟨so, sc, rfl, _, _⟩ := own_bytes hv
      have hs := h.still u
      have c7 := hs.cell 7 (by omega)
      simp only [tcell, h1] at c7
      refine ⟨so, _, sc, rfl, c7, hs.fr 7, ?_⟩
      have h2 := hs.setc (T' := { T with st := 1 }) (a' := a) 7 (.int .u8 1) (fun j hj => by unfold tcell; split <;> simp_all) (by omega) (fun W d => ⟨d.ch, d.con, d.am, d.sa, d.bu, d.od, d.tl, d.cc, d.ccb, d.cab, d.csb, d.cbv, d.cov, d.ctv, d.lt, d.zf, d.zl⟩)
      exact ⟨col, Z, a, h2, (Gt.bl col u).trans (Gt.set hq _), fun _ e => e, fun _ e => .inl e⟩
    · rw [if_neg h1] at hN'
      by_cases h2 : T.st = 2
      · rw [if_pos h2] at hN' ⊢
        cases hbu : T.buf with
        | nil => rw [hbu] at hN'; cases hN'
        | cons y r =>
          obtain ⟨xs, x1, x2, x3⟩ := h.d.bu
          obtain ⟨z, zs, rfl⟩ : ∃ z zs, xs = z :: zs := by
            cases xs with
            | nil => rw [hbu] at x1; simp at x1
            | cons z zs => exact ⟨z, zs, rfl⟩
          obtain ⟨bo, off, M, cap, hM, hbv⟩ : ∃ bo off M cap, M = T.buf.length ∧ a.bv = .slice (some ⟨bo, off, none⟩) M cap := by
            obtain ⟨ao, cap, e1, _, _⟩ := x2.shape
            have hz : (flatE (z :: zs))[0]? = some (.int .u64 (z.1.1 : Nat)) := by simp [flatE, cells5]
            have x2' := x2
            rw [e1] at x2'
            obtain ⟨_, bo, off, e2, _, _⟩ := x2'.cell hz
            exact ⟨bo, off, _, cap, rfl, by rw [e1, e2]⟩
          have hM1 : 1 ≤ M := by rw [hM, hbu]; simp
          have hd : ∀ v, (∀ (W : World) (c cs : List Value), c.length = 5 → Rw W 41 5 (.slice (some ⟨bo, off, none⟩) M cap) M (c ++ cs) → Rw W 41 5 v (M - 1) cs) → v.ownBlock = some bo → ∀ W, Td W col Z T a → Td W col Z { T with buf := T.buf.tail } { a with bv := v } := by
            intro v hv hvo W d
            obtain ⟨xs', y1, y2, y3⟩ := d.bu
            obtain ⟨z', zs', rfl⟩ : ∃ z zs, xs' = z :: zs := by
              cases xs' with
              | nil => rw [hbu] at y1; simp at y1
              | cons z zs => exact ⟨z, zs, rfl⟩
            rw [hbv, ← hM, show flatE (z' :: zs') = cells5 z' ++ flatE zs' by simp [flatE]] at y2
            have y4 := hv W _ _ (by simp [cells5]) y2
            refine ⟨d.ch, d.con, d.am, d.sa, ⟨zs', by simp only [List.length_tail]; simp at y1; omega, ?_, fun j e x e1 e2 => ?_⟩, d.od, d.tl, d.cc, d.ccb, d.cab, d.csb, fun b e => d.cbv b (by rw [hbv]; simp only at e; rw [hvo] at e; cases e; rfl), d.cov, d.ctv, d.lt, d.zf, d.zl⟩
            · simp only [List.length_tail]
              rw [← hM]
              exact y4
            · simp only at e1
              rw [hbu] at e1 y3
              exact y3 (j + 1) e x (by simpa using e1) (by simpa using e2)
          obtain ⟨hMc, _, _⟩ := rw_tail (w := w) (e := 41) (bo := bo) (off := off) (M := M) (cap := cap) (c := cells5 z) (cs := flatE zs) (by rw [← hbv, hM, show cells5 z ++ flatE zs = flatE (z :: zs) by simp [flatE]]; exact x2) (by simp [cells5]) hM1
          have hfin : ∀ w1 v, Below w.heap.size w w1 → (∀ (W : World) (c cs : List Value), c.length = 5 → Rw W 41 5 (.slice (some ⟨bo, off, none⟩) M cap) M (c ++ cs) → Rw W 41 5 v (M - 1) cs) → v.ownBlock = some bo → Stp w col Z q { T with buf := T.buf.tail } (w1.setCell ⟨q, 9, none⟩ v) := by
            intro w1 v u hv hvo
            have h3 := (h.still u).setBuf v T.buf.tail (hd v hv hvo)
            exact ⟨col, Z, _, h3, (Gt.bl col u).trans (Gt.set hq _), fun _ e => e, fun _ e => .inl e⟩
          rw [← hbu]
          by_cases hc1 : cap = 1
          · obtain rfl : M = 1 := by omega
            subst hc1
            refine sent_one1 w q bo off (Stp w col Z q { T with buf := T.buf.tail }) (hnx.mono ?_)
            rintro e w1 ⟨u, v, rfl, hv⟩
            obtain ⟨so, sc, rfl, _, _⟩ := own_bytes hv
            have hs := h.still u
            have c7 := hs.cell 7 (by omega)
            have c9 := hs.cell 9 (by omega)
            simp only [tcell, h2, hbv] at c7 c9
            exact ⟨so, _, sc, rfl, c7, c9, hs.fr 9, hfin w1 _ u (fun W c cs hc hR => (rw_tail hR hc (Nat.le_refl _)).2.1 rfl) rfl⟩
          · refine sent_one w q bo off M cap hM1 hMc (by omega) (Stp w col Z q { T with buf := T.buf.tail }) (hnx.mono ?_)
            rintro e w1 ⟨u, v, rfl, hv⟩
            obtain ⟨so, sc, rfl, _, _⟩ := own_bytes hv
            have hs := h.still u
            have c7 := hs.cell 7 (by omega)
            have c9 := hs.cell 9 (by omega)
            simp only [tcell, h2, hbv] at c7 c9
            exact ⟨so, _, sc, rfl, c7, c9, hs.fr 9, hfin w1 _ u (fun W c cs hc hR => (rw_tail hR hc hM1).2.2 (by omega)) rfl⟩
      · rw [if_neg h2] at hN'; cases hN'
end Go.Proofs.YtlaihgdfedalmaaGreat
