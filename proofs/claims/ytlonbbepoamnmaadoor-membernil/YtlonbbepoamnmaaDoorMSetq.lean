/-
  A node's own cells are written to.
-/
import Derived.Test.YtlonbbepoamnmaaDoorMRead3
import Derived.Test.YtlonbbepoamnmaaDoorMCopy
namespace Go.Proofs.YtlonbbepoamnmaaDoor
open Go.RowKit
set_option linter.unusedVariables false
section
variable {w w' : World} {F Z : Nat → Prop} {q : Nat} {M : Mm} {o : Option Nat}

theorem set_cell {w : World} {a : Addr} {u v : Value} (h : w.cell? a = some u) : (w.setCell a v).cell? a = some v := World.cell?_setCell_same _ _ _ h
theorem set_other {w : World} {b i j : Nat} {v : Value} (h : j ≠ i) : (w.setCell ⟨b, i, none⟩ v).cell? ⟨b, j, none⟩ = w.cell? ⟨b, j, none⟩ := World.cell?_setCell_other _ _ _ _ (fun e => h (by cases e; rfl))

/-- Only the node's own block has turned. -/
theorem Pb.setq {p : Nat} {P : Pp} (h : Pb w F Z q p P) (hq : F q) (zf : ∀ b, Z b → ¬ F b) (hb : ∀ b, b ≠ q → w'.heap[b]? = w.heap[b]?) : Pb w' F Z q p P := by
  obtain ⟨ao, cap, ss, r1, r2, r3, r4, r5⟩ := h.row
  have hp := hb p h.ne
  have hk : Kp Z w w' := fun ad v hz hc => by
    rw [World.cell?_of_block (w := w) (hb _ (fun e => zf _ hz (e ▸ hq)))]; exact hc
  refine ⟨h.ne, h.fp, by rw [cell_block hp]; exact h.c0, by rw [cell_block hp]; exact h.c1, by rw [cell_block hp]; exact h.c2, by rw [cell_block hp]; exact h.c3, fun k => by rw [frozen_block hp]; exact h.fr k, h.s16, h.a16, h.len, ao, cap, ss, by rw [cell_block hp]; exact r1, ?_, r3, r4, fun j x d hx hd => (r5 j x d hx hd).keep hk⟩
  refine row_block r2 (fun b hbb => ?_)
  cases ao with
  | none => cases hbb
  | some a =>
    have : a.block = b := by simpa [Value.ownBlock] using hbb
    subst this
    exact hb _ (r3 a rfl).2.2
theorem OwnIs.setq {O : Option Pp} (h : OwnIs w F Z q O o) (hq : F q) (zf : ∀ b, Z b → ¬ F b) (hb : ∀ b, b ≠ q → w'.heap[b]? = w.heap[b]?) : OwnIs w' F Z q O o := by
  cases O <;> cases o <;> simp only [OwnIs] at h ⊢
  exact h.setq hq zf hb
/-- One of the node's cells is written to. -/
theorem Mb.set1 (h : Mb w F Z q M o) {k : Nat} {v : Value} {M' : Mm} {o' : Option Nat} (hm : ∀ j, j < 73 → j ≠ k → mcell M' o' j = mcell M o j) (hk : k < 73) (hv : mcell M' o' k = v) (hn : M'.n = M.n) (hs : M'.self = M.self) (hown : OwnIs (w.setCell ⟨q, k, none⟩ v) F Z q M'.own o') :
    Mb (w.setCell ⟨q, k, none⟩ v) F Z q M' o' where
  cell := fun j hj => by
    by_cases e : j = k
    · subst e; rw [set_cell (h.cell j hj), hv]
    · rw [set_other e, hm j hj e]; exact h.cell j hj
  fr := fun j => by rw [World.frozen?_setCell]; exact h.fr j
  fq := h.fq
  lt := fun b hb => by rw [World.size_setCell]; exact h.lt b hb
  f0 := h.f0
  zf := h.zf
  zl := fun b hb => by rw [World.size_setCell]; exact h.zl b hb
  tab := h.tab.keep (heap_setCell_other _ _ _ _ (by have := h.q0; show 0 ≠ q; omega))
  n16 := by rw [hn]; exact h.n16
  sn := by rw [hn, hs]; exact h.sn
  own := hown
theorem set_blocks (w : World) (q k : Nat) (v : Value) : ∀ b, b ≠ q → (w.setCell ⟨q, k, none⟩ v).heap[b]? = w.heap[b]? := fun b hb => heap_setCell_other _ _ _ _ hb
theorem Mb.same1 (h : Mb w F Z q M o) {k : Nat} {v : Value} {M' : Mm} (hm : ∀ j, j < 73 → j ≠ k → mcell M' o j = mcell M o j) (hk : k < 73) (hv : mcell M' o k = v) (hn : M'.n = M.n) (hs : M'.self = M.self) (ho : M'.own = M.own) :
    Mb (w.setCell ⟨q, k, none⟩ v) F Z q M' o := h.set1 hm hk hv hn hs (by rw [ho]; exact h.own.setq h.fq h.zf (set_blocks _ _ _ _))
theorem mcell_ne {M M' : Mm} {o o' : Option Nat} (k : Nat) (h0 : k ≠ 0 → M'.n = M.n) (h1 : k ≠ 1 → M'.self = M.self) (h2 : k ≠ 2 → M'.cur.1 = M.cur.1) (h3 : k ≠ 3 → M'.cur.2 = M.cur.2) (h4 : k ≠ 4 → M'.cset = M.cset) (h5 : k ≠ 5 → M'.prom.1 = M.prom.1) (h6 : k ≠ 6 → M'.prom.2 = M.prom.2) (h7 : k ≠ 7 → M'.high = M.high) (h8 : k ≠ 8 → o' = o)
    (h9 : ∀ i c, i < 16 → c < 4 → k ≠ 9 + i * 4 + c → tcell (M'.told i) c = tcell (M.told i) c) : ∀ j, j < 73 → j ≠ k → mcell M' o' j = mcell M o j := by
  intro j hj hjk
  match j with
  | 0 => show Value.int _ _ = _; rw [h0 (Ne.symm hjk)]; rfl
  | 1 => show Value.int _ _ = _; rw [h1 (Ne.symm hjk)]; rfl
  | 2 => show Value.int _ _ = _; rw [h2 (Ne.symm hjk)]; rfl
  | 3 => show Value.int _ _ = _; rw [h3 (Ne.symm hjk)]; rfl
  | 4 => show Value.int _ _ = _; rw [h4 (Ne.symm hjk)]; rfl
  | 5 => show Value.int _ _ = _; rw [h5 (Ne.symm hjk)]; rfl
  | 6 => show Value.int _ _ = _; rw [h6 (Ne.symm hjk)]; rfl
  | 7 => show Value.int _ _ = _; rw [h7 (Ne.symm hjk)]; rfl
  | 8 => show ptr _ = _; rw [h8 (Ne.symm hjk)]; rfl
  | t + 9 =>
    show tcell (M'.told (t / 4)) (t % 4) = tcell (M.told (t / 4)) (t % 4)
    exact h9 _ _ (by omega) (by omega) (by omega)
theorem Mb.setHigh (h : Mb w F Z q M o) (x : Nat) : Mb (w.setCell ⟨q, 7, none⟩ (.int .u64 (x : Nat))) F Z q { M with high := x } o :=
  h.same1 (mcell_ne 7 (fun _ => rfl) (fun _ => rfl) (fun _ => rfl) (fun _ => rfl) (fun _ => rfl) (fun _ => rfl) (fun _ => rfl) (fun e => absurd rfl e) (fun _ => rfl) (fun _ _ _ _ _ => rfl)) (by omega) rfl rfl rfl rfl
/-- The number of what was accepted last; a proposal's stays what it was. -/
theorem Mb.setProm (h : Mb w F Z q M o) (v : Vid) : Mb ((w.setCell ⟨q, 5, none⟩ (.int .u64 (v.1 : Nat))).setCell ⟨q, 6, none⟩ (.int .i64 v.2)) F Z q { M with prom := v } o := by
  have h1 : Mb (w.setCell ⟨q, 5, none⟩ (.int .u64 (v.1 : Nat))) F Z q { M with prom := (v.1, M.prom.2) } o :=
    h.same1 (mcell_ne 5 (fun _ => rfl) (fun _ => rfl) (fun _ => rfl) (fun _ => rfl) (fun _ => rfl) (fun e => absurd rfl e) (fun _ => rfl) (fun _ => rfl) (fun _ => rfl) (fun _ _ _ _ _ => rfl)) (by omega) rfl rfl rfl rfl
  exact h1.same1 (mcell_ne 6 (fun _ => rfl) (fun _ => rfl) (fun _ => rfl) (fun _ => rfl) (fun _ => rfl) (fun _ => rfl) (fun e => absurd rfl e) (fun _ => rfl) (fun _ => rfl) (fun _ _ _ _ _ => rfl)) (by omega) rfl rfl rfl rfl
theorem Mb.setCur (h : Mb w F Z q M o) (v : Vid) (s : Nat) : Mb (((w.setCell ⟨q, 2, none⟩ (.int .u64 (v.1 : Nat))).setCell ⟨q, 3, none⟩ (.int .i64 v.2)).setCell ⟨q, 4, none⟩ (.int .u16 (s : Nat))) F Z q { M with cur := v, cset := s } o := by
  have h1 : Mb (w.setCell ⟨q, 2, none⟩ (.int .u64 (v.1 : Nat))) F Z q { M with cur := (v.1, M.cur.2) } o :=
    h.same1 (mcell_ne 2 (fun _ => rfl) (fun _ => rfl) (fun e => absurd rfl e) (fun _ => rfl) (fun _ => rfl) (fun _ => rfl) (fun _ => rfl) (fun _ => rfl) (fun _ => rfl) (fun _ _ _ _ _ => rfl)) (by omega) rfl rfl rfl rfl
  have h2 : Mb ((w.setCell ⟨q, 2, none⟩ (.int .u64 (v.1 : Nat))).setCell ⟨q, 3, none⟩ (.int .i64 v.2)) F Z q { M with cur := v } o :=
    h1.same1 (mcell_ne 3 (fun _ => rfl) (fun _ => rfl) (fun _ => rfl) (fun e => absurd rfl e) (fun _ => rfl) (fun _ => rfl) (fun _ => rfl) (fun _ => rfl) (fun _ => rfl) (fun _ _ _ _ _ => rfl)) (by omega) rfl rfl rfl rfl
  exact h2.same1 (mcell_ne 4 (fun _ => rfl) (fun _ => rfl) (fun _ => rfl) (fun _ => rfl) (fun e => absurd rfl e) (fun _ => rfl) (fun _ => rfl) (fun _ => rfl) (fun _ => rfl) (fun _ _ _ _ _ => rfl)) (by omega) rfl rfl rfl rfl
theorem Mb.dropOwn (h : Mb w F Z q M o) : Mb (w.setCell ⟨q, 8, none⟩ (.pointer none)) F Z q { M with own := none } none :=
  h.set1 (mcell_ne 8 (fun _ => rfl) (fun _ => rfl) (fun _ => rfl) (fun _ => rfl) (fun _ => rfl) (fun _ => rfl) (fun _ => rfl) (fun _ => rfl) (fun e => absurd rfl e) (fun _ _ _ _ _ => rfl)) (by omega) rfl rfl rfl trivial
theorem tcell_set (t : Vid × Vid) : ∀ c, c < 4 → tcell t c = [Value.int .u64 (t.1.1 : Nat), .int .i64 t.1.2, .int .u64 (t.2.1 : Nat), .int .i64 t.2.2].getD c undef := by
  intro c hc
  match c with
  | 0 => rfl
  | 1 => rfl
  | 2 => rfl
  | 3 => rfl
theorem told_step {M : Mm} {i k : Nat} (t t' : Vid × Vid) (hk : k < 4) (he : ∀ c, c < 4 → c ≠ k → tcell t' c = tcell t c) : ∀ (j c : Nat), j < 16 → c < 4 → 9 + i * 4 + k ≠ 9 + j * 4 + c → tcell (upd M.told i t' j) c = tcell (upd M.told i t j) c := by
  intro j c hj hc hne
  by_cases e : j = i
  · subst e; rw [upd_same, upd_same]; exact he c hc (by omega)
  · rw [upd_other _ _ e, upd_other _ _ e]
theorem upd_self {α : Type} (f : Nat → α) (i : Nat) : upd f i (f i) = f := by funext j; unfold upd; split <;> simp_all
theorem Mb.setTold (h : Mb w F Z q M o) (i : Nat) (hi : i < 16) (t : Vid × Vid) :
    Mb ((((w.setCell ⟨q, 9 + i * 4, none⟩ (.int .u64 (t.1.1 : Nat))).setCell ⟨q, 9 + i * 4 + 1, none⟩ (.int .i64 t.1.2)).setCell ⟨q, 9 + i * 4 + 2, none⟩ (.int .u64 (t.2.1 : Nat))).setCell ⟨q, 9 + i * 4 + 3, none⟩ (.int .i64 t.2.2)) F Z q { M with told := upd M.told i t } o := by
  have h0 : Mb w F Z q { M with told := upd M.told i (M.told i) } o := by rw [upd_self]; exact h
  have hcell : ∀ (T : Nat → Vid × Vid) c, c < 4 → mcell { M with told := T } o (9 + i * 4 + c) = tcell (T i) c := fun T c hc => mcell_told _ _ _ _ hc
  have step : ∀ (W : World) (s s' : Vid × Vid) (k : Nat) (v : Value), Mb W F Z q { M with told := upd M.told i s } o → k < 4 → (∀ c, c < 4 → c ≠ k → tcell s' c = tcell s c) → tcell s' k = v → Mb (W.setCell ⟨q, 9 + i * 4 + k, none⟩ v) F Z q { M with told := upd M.told i s' } o := by
    intro W s s' k v hW hk he hv
    refine hW.same1 (mcell_ne (9 + i * 4 + k) (fun _ => rfl) (fun _ => rfl) (fun _ => rfl) (fun _ => rfl) (fun _ => rfl) (fun _ => rfl) (fun _ => rfl) (fun _ => rfl) (fun _ => rfl) (told_step s s' hk he)) (by omega) ?_ rfl rfl rfl
    rw [hcell _ k hk, upd_same]; exact hv
  have e1 := step w (M.told i) ((t.1.1, (M.told i).1.2), (M.told i).2) 0 (.int .u64 (t.1.1 : Nat)) h0 (by omega) (fun c hc hne => by match c with | 0 => exact absurd rfl hne | 1 => rfl | 2 => rfl | 3 => rfl) rfl
  have e2 := step _ _ (t.1, (M.told i).2) 1 (.int .i64 t.1.2) e1 (by omega) (fun c hc hne => by match c with | 0 => rfl | 1 => exact absurd rfl hne | 2 => rfl | 3 => rfl) rfl
  have e3 := step _ _ (t.1, (t.2.1, (M.told i).2.2)) 2 (.int .u64 (t.2.1 : Nat)) e2 (by omega) (fun c hc hne => by match c with | 0 => rfl | 1 => rfl | 2 => exact absurd rfl hne | 3 => rfl) rfl
  exact step _ _ t 3 (.int .i64 t.2.2) e3 (by omega) (fun c hc hne => by match c with | 0 => rfl | 1 => rfl | 2 => rfl | 3 => exact absurd rfl hne) rfl
/-- The node's own block alone has turned. -/
theorem sp_set (h : Mb w F Z q M o) {w' : World} {F0 Z0 : Nat → Prop} {w0 : World} (s : Sp w0 F0 Z0 w F Z) (k : Nat) (v : Value) : Sp w0 F0 Z0 (w.setCell ⟨q, k, none⟩ v) F Z :=
  s.trans ⟨(Turned.refl F w).setCell (.inl h.fq) v, fun _ h => .inl h, fun _ h => h, fun _ h => .inl h, fun b hb => by rw [World.size_setCell]; exact h.zl b hb⟩
end
end Go.Proofs.YtlonbbepoamnmaaDoor
