/-
  A node's parts turn: one more message under its label; one more entry that waits to be sent.
-/
import Derived.Test.YtlaihgdfedalmaaGreatTRep
namespace Go.Proofs.YtlaihgdfedalmaaGreat
open Go.RowKit Go.Sort
set_option linter.unusedVariables false

theorem set_mono {w : World} {b n n' : Nat} {ls : List Lb} (h : Q.SetIs w b n ls) (hn : n ≤ n') : Q.SetIs w b n' ls := by
  obtain ⟨D, ho, hD⟩ := h
  exact ⟨D, ho.mono hn, hD⟩
theorem find_iff {es : List En} (h : Asc es) (x : Lb) (bs : List UInt8) : findE es x = some bs ↔ (x, bs) ∈ es := ⟨find_mem, fun hm => mem_find h hm⟩
theorem find_none {es : List En} (h : Asc es) {x : Lb} : findE es x = none ↔ ∀ bs, (x, bs) ∉ es := by
  constructor
  · intro hf bs hm
    rw [mem_find h hm] at hf
    cases hf
  · intro hn
    cases hf : findE es x with
    | none => rfl
    | some bs => exact absurd (find_mem hf) (hn bs)
theorem mem_insR {e y : En} : ∀ {l : List En}, y ∈ insR e l ↔ y = e ∨ y ∈ l
  | [] => by simp [insR]
  | z :: r => by
    unfold insR
    split
    · simp
    · rw [List.mem_cons, mem_insR, List.mem_cons]
      constructor
      · rintro (h | h | h) <;> simp [h]
      · rintro (h | h | h) <;> simp [h]
/-- One more in the store. -/
theorem Con.put {w : World} {m : Lb → Option Sv} {es : List En} (h : Con w m es) {x : Lb} (hx : OkL x) {s : Sv} {b : List UInt8} (hr : Cd.Row w s.1 s.2.1 s.2.2 b) : Con w (putM m x s) (mstep es (x, b)) := by
  have ha : Asc (mstep es (x, b)) := mstep_asc h.1
  cases hm : m x with
  | some u =>
    have e1 : putM m x s = m := by funext y; unfold putM; simp [hm]
    obtain ⟨bs, e2, _⟩ := h.2.2.2 x u hx hm
    have e3 : mstep es (x, b) = es := by unfold mstep; simp [e2]
    rw [e1, e3]
    exact h
  | none =>
    have hf := h.2.2.1 x hx hm
    have e3 : mstep es (x, b) = insR (x, b) es := by unfold mstep; simp [hf]
    have hn := (find_none h.1).1 hf
    refine ⟨ha, fun e he => ?_, fun y hy hym => ?_, fun y t hy hyt => ?_⟩
    · rw [e3, mem_insR] at he
      rcases he with rfl | he
      · exact hx
      · exact h.2.1 e he
    · unfold putM at hym
      rw [hm] at hym
      by_cases e : y = x
      · subst e; simp at hym
      · simp [e] at hym
        rw [find_none ha]
        intro bs hb
        rw [e3, mem_insR] at hb
        rcases hb with hb | hb
        · simp at hb; exact e hb.1
        · exact (find_none h.1).1 (h.2.2.1 y hy hym) bs hb
    · unfold putM at hyt
      rw [hm] at hyt
      by_cases e : y = x
      · subst e
        simp at hyt
        subst hyt
        exact ⟨b, (find_iff ha _ _).2 (by rw [e3, mem_insR]; exact .inl rfl), hr⟩
      · simp [e] at hyt
        obtain ⟨bs, q1, q2⟩ := h.2.2.2 y t hy hyt
        exact ⟨bs, (find_iff ha _ _).2 (by rw [e3, mem_insR]; exact .inr (find_mem q1)), q2⟩
/-- What a call may have turned: the node's own blocks. -/
structure Gt (w : World) (col : Nat → Nat) (w' : World) (col' : Nat → Nat) : Prop where
  turned : Turned (fun b => 0 < col b) w w'
  foot : ∀ b, 0 < col' b → 0 < col b ∨ w.heap.size ≤ b
theorem Gt.refl (w : World) (col : Nat → Nat) : Gt w col w col := ⟨Turned.refl _ _, fun _ h => .inl h⟩
theorem Gt.trans {w w' w'' : World} {c c' c'' : Nat → Nat} (h : Gt w c w' c') (k : Gt w' c' w'' c'') : Gt w c w'' c'' :=
  ⟨h.turned.trans k.turned h.foot, fun b hb => (k.foot b hb).elim (h.foot b) (fun hle => .inr (Nat.le_trans h.turned.size hle))⟩
theorem Gt.bl {w w' : World} (col : Nat → Nat) (u : Below w.heap.size w w') : Gt w col w' col := ⟨Turned.of_below u, fun _ h => .inl h⟩
theorem Gt.gr {w w' : World} {col : Nat → Nat} {row : Option Nat} (g : w.grownBy w' row) (hr : ∀ k, row = some k → 0 < col k) : Gt w col w' col := ⟨Turned.of_grown g hr, fun _ h => .inl h⟩
theorem Gt.set {w : World} {col : Nat → Nat} {q k : Nat} (hq : 0 < col q) (v : Value) : Gt w col (w.setCell ⟨q, k, none⟩ v) col := ⟨(Turned.refl _ _).setCell (.inl hq) v, fun _ h => .inl h⟩
section
variable {w w' : World} {col : Nat → Nat} {Z : Nat → Prop} {q : Nat} {T : Tot} {a : Ta}
/-- The store's block has turned. -/
theorem Tt.putC (h : Tt w col Z q T a) {m : Lb → Option Sv} {x : Lb} {s : Sv} {b : List UInt8} (hm : Con w m T.con ∧ ∀ x s, OkL x → m x = some s → ∀ ad, s.1 = some ad → 0 < s.2.1 → Z ad.block) (hx : OkL x) (hg : Mg Z w s b)
    (hS : StoIs w' a.cb (T.K + 1) (putM m x s)) (g : w.grownBy w' (some a.cb)) : Tt w' col Z q { T with con := mstep T.con (x, b), K := T.K + 1 } a := by
  have hcb := h.d.ccb
  have hkp : Kp Z w w' := (Turned.of_grown (F := fun k => k = a.cb) g (by simp)).kp (fun k hz e => by have := h.d.zf k hz; rw [e, hcb] at this; omega)
  have hb : ∀ k, k ≠ a.cb → k < w.heap.size → w'.heap[k]? = w.heap[k]? := fun k hk hl => g.block k hl (by simpa using hk)
  have hcol : ∀ k, 0 < col k → col k ≠ 3 → w'.heap[k]? = w.heap[k]? := fun k h1 h2 => hb k (fun e => h2 (by rw [e, hcb])) (h.d.lt k h1)
  have hC := (hm.1.put hx hg.1)
  refine ⟨fun k hk => ?_, fun k => ?_, h.fq, ?_⟩
  · rw [cell_block (hcol q (by rw [h.fq]; omega) (by rw [h.fq]; omega))]
    exact h.cell k hk
  · rw [frozen_block (hcol q (by rw [h.fq]; omega) (by rw [h.fq]; omega))]
    exact h.fr k
  · refine { ch := ?_, con := ?_, am := ?_, sa := ?_, bu := ?_, od := ?_, tl := ?_, cc := h.d.cc, ccb := h.d.ccb, cab := h.d.cab, csb := h.d.csb, cbv := h.d.cbv, cov := h.d.cov, ctv := h.d.ctv, lt := fun b hb => Nat.lt_of_lt_of_le (h.d.lt b hb) g.size, zf := h.d.zf, zl := fun b hb => Nat.lt_of_lt_of_le (h.d.zl b hb) g.size }
    · obtain ⟨s', r, vs, h1, h2, h3⟩ := h.d.ch
      exact ⟨s', r, vs, by rw [hcol _ (by rw [h.d.cc]; omega) (by rw [h.d.cc]; omega)]; exact h1, h2, fun j y c e1 e2 => (h3 j y c e1 e2).kp hkp (fun _ e => e)⟩
    · refine ⟨_, hS, ⟨hC.1, hC.2.1, hC.2.2.1, fun y t hy hyt => ?_⟩, fun y t hy hyt ad e hn => ?_⟩
      · obtain ⟨bs, q1, q2⟩ := hC.2.2.2 y t hy hyt
        refine ⟨bs, q1, row_kp q2 (fun ad e hn => ?_) hkp⟩
        unfold putM at hyt
        split at hyt
        · cases hyt; exact hg.2 ad e hn
        · exact hm.2 y t hy hyt ad e hn
      · unfold putM at hyt
        split at hyt
        · cases hyt; exact hg.2 ad e hn
        · exact hm.2 y t hy hyt ad e hn
    · obtain ⟨S, h1, h2⟩ := h.d.am
      exact ⟨S, set_mono (h1.of_block (hcol _ (by rw [h.d.cab]; omega) (by rw [h.d.cab]; omega))) (Nat.le_succ _), h2⟩
    · obtain ⟨S, h1, h2⟩ := h.d.sa
      exact ⟨S, set_mono (h1.of_block (hcol _ (by rw [h.d.csb]; omega) (by rw [h.d.csb]; omega))) (Nat.le_succ _), h2⟩
    · obtain ⟨xs, h1, h2, h3⟩ := h.d.bu
      exact ⟨xs, h1, h2.frame (fun b e => hcol b (by rw [h.d.cbv b e]; omega) (by rw [h.d.cbv b e]; omega)), fun j e x e1 e2 => ⟨(h3 j e x e1 e2).1, (h3 j e x e1 e2).2.kp hkp (fun _ e => e)⟩⟩
    · exact h.d.od.frame (fun b e => hcol b (by rw [h.d.cov b e]; omega) (by rw [h.d.cov b e]; omega))
    · obtain ⟨xs, h1, h2, h3⟩ := h.d.tl
      exact ⟨xs, h1, h2.frame (fun b e => hcol b (by rw [h.d.ctv b e]; omega) (by rw [h.d.ctv b e]; omega)), fun x hx => (h3 x hx).kp hkp⟩
end
end Go.Proofs.YtlaihgdfedalmaaGreat
