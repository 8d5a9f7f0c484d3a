/-
  A node's parts, one by one: what is kept where its block is as it was.
-/
import Derived.Test.YtlaihgdfedalmaaGreatTBcast
namespace Go.Proofs.YtlaihgdfedalmaaGreat
open Go.RowKit Go.Sort Go.Conc
set_option linter.unusedVariables false
set_option linter.unusedSimpArgs false
section
variable {w w' : World} {col col' : Nat → Nat} {Z Z' : Nat → Prop} {q : Nat} {T : Tot} {a : Ta} {K' : Nat}
theorem kCh (h : Td w col Z T a) (hb : w'.heap[a.c]? = w.heap[a.c]?) (hk : Kp Z w w') (hz : ∀ b, Z b → Z' b) : ∃ (s r : Nat) (vs : List Sv), w'.heap[a.c]? = some (.chan T.qc (vs.map sv).toArray false s r false) ∧ vs.length = T.dl.length ∧ ∀ (j : Nat) x b, vs[j]? = some x → T.dl[j]? = some b → Mg Z' w' x b := by
  obtain ⟨s, r, vs, c1, c2, c3⟩ := h.ch
  exact ⟨s, r, vs, hb.trans c1, c2, fun j x b e1 e2 => (c3 j x b e1 e2).kp hk hz⟩
theorem kCon (h : Td w col Z T a) (hb : w'.heap[a.cb]? = w.heap[a.cb]?) (hk : Kp Z w w') (hz : ∀ b, Z b → Z' b) (hK : T.K ≤ K') : ∃ m, StoIs w' a.cb K' m ∧ Con w' m T.con ∧ ∀ x s, OkL x → m x = some s → ∀ ad, s.1 = some ad → 0 < s.2.1 → Z' ad.block := by
  obtain ⟨m, c1, c2, c3⟩ := h.con
  refine ⟨m, (c1.of_block hb).mono hK, ⟨c2.1, c2.2.1, c2.2.2.1, fun y t hy hyt => ?_⟩, fun x s hx hs ad e hn => hz _ (c3 x s hx hs ad e hn)⟩
  obtain ⟨bs, q1, q2⟩ := c2.2.2.2 y t hy hyt
  exact ⟨bs, q1, row_kp q2 (c3 y t hy hyt) hk⟩
theorem kAm (h : Td w col Z T a) (hb : w'.heap[a.ab]? = w.heap[a.ab]?) (hK : T.K ≤ K') : ∃ S, Q.SetIs w' a.ab K' S ∧ ∀ x, x ∈ S ↔ x ∈ T.ord := by
  obtain ⟨S, c1, c2⟩ := h.am
  exact ⟨S, set_mono (c1.of_block hb) hK, c2⟩
theorem kSa (h : Td w col Z T a) (hb : w'.heap[a.sb]? = w.heap[a.sb]?) (hK : T.K ≤ K') : ∃ S, Q.SetIs w' a.sb K' S ∧ ∀ x, x ∈ S ↔ x ∈ T.safe := by
  obtain ⟨S, c1, c2⟩ := h.sa
  exact ⟨S, set_mono (c1.of_block hb) hK, c2⟩
theorem kBu (h : Td w col Z T a) (hb : ∀ b, a.bv.ownBlock = some b → w'.heap[b]? = w.heap[b]?) (hk : Kp Z w w') (hz : ∀ b, Z b → Z' b) : ∃ xs : List (Lb × Sv), xs.length = T.buf.length ∧ Rw w' 41 5 a.bv T.buf.length (flatE xs) ∧ ∀ (j : Nat) e x, T.buf[j]? = some e → xs[j]? = some x → x.1 = e.1 ∧ Mg Z' w' x.2 e.2 := by
  obtain ⟨xs, c1, c2, c3⟩ := h.bu
  exact ⟨xs, c1, c2.frame hb, fun j e x e1 e2 => ⟨(c3 j e x e1 e2).1, (c3 j e x e1 e2).2.kp hk hz⟩⟩
theorem kOd (h : Td w col Z T a) (hb : ∀ b, a.ov.ownBlock = some b → w'.heap[b]? = w.heap[b]?) : Rw w' 39 4 a.ov T.ord.length (flat T.ord) := h.od.frame hb
theorem kTl (h : Td w col Z T a) (hb : ∀ b, a.tv.ownBlock = some b → w'.heap[b]? = w.heap[b]?) (hk : Kp Z w w') (hz : ∀ b, Z b → Z' b) : ∃ xs : List El, xs.map (·.1) = T.told ∧ Rw w' 120 6 a.tv T.told.length (f6 xs) ∧ ∀ x ∈ xs, Fx Z' w' x := by
  obtain ⟨xs, c1, c2, c3⟩ := h.tl
  exact ⟨xs, c1, c2.frame hb, fun x hx => ((c3 x hx).kp hk).mono hz⟩
/-- The map of what is safe has turned. -/
theorem Tt.saf (h : Tt w col Z q T a) {n : Nat} {S safe' : List Lb} (hK : T.K ≤ K') (hn : n ≤ K') (hS : Q.SetIs w' a.sb n S) (hx : ∀ x, x ∈ S ↔ x ∈ safe') (g : w.grownBy w' (some a.sb)) :
    Tt w' col Z q { T with safe := safe', K := K' } a ∧ Gt w col w' col := by
  have hsb := h.d.csb
  have hkp : Kp Z w w' := (Turned.of_grown (F := fun k => k = a.sb) g (by simp)).kp (fun k hz e => by have := h.d.zf k hz; rw [e, hsb] at this; omega)
  have hb : ∀ k c, col k = c → 0 < c → c ≠ 5 → w'.heap[k]? = w.heap[k]? := fun k c e h0 h5 => g.block k (h.d.lt k (by omega)) (by simp; exact fun e' => by rw [e'] at e; omega)
  refine ⟨⟨fun k hk => ?_, fun k => ?_, h.fq, ?_⟩, Gt.gr g (fun k e => by cases e; omega)⟩
  · rw [cell_block (hb q 1 h.fq (by omega) (by omega))]
    exact h.cell k hk
  · rw [frozen_block (hb q 1 h.fq (by omega) (by omega))]
    exact h.fr k
  · exact { ch := kCh (T := T) h.d (hb _ _ h.d.cc (by omega) (by omega)) hkp (fun _ e => e), con := kCon (T := T) h.d (hb _ _ h.d.ccb (by omega) (by omega)) hkp (fun _ e => e) hK, am := kAm (T := T) h.d (hb _ _ h.d.cab (by omega) (by omega)) hK, sa := ⟨S, set_mono hS hn, hx⟩, bu := kBu (T := T) h.d (fun b e => hb _ _ (h.d.cbv b e) (by omega) (by omega)) hkp (fun _ e => e), od := kOd (T := T) h.d (fun b e => hb _ _ (h.d.cov b e) (by omega) (by omega)), tl := kTl (T := T) h.d (fun b e => hb _ _ (h.d.ctv b e) (by omega) (by omega)) hkp (fun _ e => e), cc := h.d.cc, ccb := h.d.ccb, cab := h.d.cab, csb := h.d.csb, cbv := h.d.cbv, cov := h.d.cov, ctv := h.d.ctv, lt := fun b hb => Nat.lt_of_lt_of_le (h.d.lt b hb) g.size, zf := h.d.zf, zl := fun b hb => Nat.lt_of_lt_of_le (h.d.zl b hb) g.size }
end
/-- A map of labels is cleared. -/
theorem clear_set {w : World} {b n : Nat} {ls : List Lb} (h : Q.SetIs w b n ls) : ∃ w', (∀ ty, Sem.run Tryz.prog (Builtin.clear_ #[96] ty #[.map (some b)]) w = .ok (.tuple #[]) w') ∧ Q.SetIs w' b 0 [] ∧ w.grownBy w' (some b) := by
  have hlt := h.lt
  obtain ⟨D, ⟨es, clock, hb, F, hs, hD⟩, h2⟩ := h
  refine ⟨{ w with heap := w.heap.setIfInBounds b (.map #[] clock) }, fun ty => ?_, ⟨.map [], ⟨#[], clock, by simp [hlt], ⟨by simp, MapKept.stamped_empty clock, by simp⟩, Nat.le_refl _, rfl⟩, fun x k hx hk => by simp [Maps.has]⟩, ⟨rfl, rfl, rfl, by simp, fun k hk hne => ?_⟩⟩
  · have und96 : Tryz.prog.underlying 96 = some (.map 39 139) := by kernel_rfl
    simp [Builtin.clear_, run_underlying und96, MapKept.run_getObj_map hb, MapKept.run_setObj_map _ hb, Result.andThen]
  · show (w.heap.setIfInBounds b _)[k]? = w.heap[k]?
    rw [Array.getElem?_setIfInBounds_ne (fun e => by subst e; simp at hne)]
end Go.Proofs.YtlaihgdfedalmaaGreat
