/-
  A new order: its labels and the set of them lie in new memory.
-/
import Derived.Test.YtlaihgdfedalmaaGreatTPutO
namespace Go.Proofs.YtlaihgdfedalmaaGreat
open Go.RowKit Go.Sort Go.Conc
set_option linter.unusedVariables false
set_option linter.unusedSimpArgs false
/-- The colours behind it. -/
def ocol (col : Nat → Nat) (ab m : Nat) (ov v : Value) : Nat → Nat := fun k => if k = m then 4 else if v.ownBlock = some k then 7 else if k = ab ∨ ov.ownBlock = some k then 0 else col k
section
variable {w w4 : World} {col : Nat → Nat} {Z : Nat → Prop} {q : Nat} {T : Tot} {a : Ta}
theorem Tt.newO (h : Tt w col Z q T a) (u : Below w.heap.size w w4) {K' : Nat} (hK : T.K ≤ K') {S' ord' : List Lb} {m : Nat} (hm : w.heap.size ≤ m) (hS : Q.SetIs w4 m K' S') (hS' : ∀ y, y ∈ S' ↔ y ∈ ord') (v : Value) (hR : Rw w4 39 4 v ord'.length (flat ord')) (loc : ∀ b, v.ownBlock = some b → w.heap.size ≤ b ∧ b ≠ m) :
    Tt ((w4.setCell ⟨q, 11, none⟩ v).setCell ⟨q, 12, none⟩ (.map (some m))) (ocol col a.ab m a.ov v) Z q { T with ord := ord', K := K' } { a with ov := v, ab := m } ∧ Gt w col ((w4.setCell ⟨q, 11, none⟩ v).setCell ⟨q, 12, none⟩ (.map (some m))) (ocol col a.ab m a.ov v) := by
  obtain ⟨W, hW⟩ : ∃ W, (w4.setCell ⟨q, 11, none⟩ v).setCell ⟨q, 12, none⟩ (.map (some m)) = W := ⟨_, rfl⟩
  have hsz := u.size
  have hfq := h.fq
  have hql := h.d.lt q (by omega)
  have h4 := h.still u
  have hs2 : W.heap.size = w4.heap.size := by rw [← hW]; simp [World.setCell]
  have hset : ∀ k, k ≠ q → W.heap[k]? = w4.heap[k]? := fun k hk => by
    rw [← hW]; exact (Below.heap_setCell _ _ _ _ hk).trans (Below.heap_setCell _ _ _ _ hk)
  have hcol : ∀ k c, col k = c → 0 < c → c ≠ 4 → c ≠ 7 → ocol col a.ab m a.ov v k = c := fun k c e hc h4 h7 => by
    have hkl := h.d.lt k (by omega)
    unfold ocol
    rw [if_neg (by omega), if_neg (fun e' => by have := (loc k e').1; omega), if_neg (fun e' => e'.elim (fun e' => by rw [e', h.d.cab] at e; omega) (fun e' => by have := h.d.cov k e'; omega))]
    exact e
  have hblk : ∀ k c, col k = c → 1 < c → W.heap[k]? = w.heap[k]? := fun k c e hc => (hset k (fun e' => by rw [e', hfq] at e; omega)).trans (u.block k (h.d.lt k (by omega)))
  have hkp2 : Kp Z w W := fun ad x hz hx => by
    have hne : ad.block ≠ q := fun e => by have := h.d.zf _ hz; rw [e] at this; omega
    have := h.d.zl _ hz
    rw [World.cell?_of_block (w := w) ((hset _ hne).trans (u.block _ this))]
    exact hx
  have hid : ∀ b, Z b → Z b := fun _ e => e
  have hmq : m ≠ q := by omega
  have hcell : ∀ k, k < 20 → W.cell? ⟨q, k, none⟩ = some (tcell { T with ord := ord', K := K' } { a with ov := v, ab := m } k) := fun k hk => by
    rw [← hW]
    by_cases e : k = 12
    · subst e
      exact World.cell?_setCell_same _ _ _ ((World.cell?_setCell_other _ _ _ _ (by intro e'; simp only [Addr.mk.injEq] at e'; omega)).trans (h4.cell 12 (by omega)))
    · rw [World.cell?_setCell_other _ _ _ _ (by intro e'; simp only [Addr.mk.injEq] at e'; omega)]
      by_cases e2 : k = 11
      · subst e2
        exact World.cell?_setCell_same w4 _ _ (h4.cell 11 (by omega))
      · rw [World.cell?_setCell_other _ _ _ _ (by intro e'; simp only [Addr.mk.injEq] at e'; omega), h4.cell k hk]
        congr 1
        unfold tcell
        split <;> first | rfl | omega
  have hfr : ∀ k, W.frozen? ⟨q, k, none⟩ = false := fun k => by rw [← hW, World.frozen?_setCell, World.frozen?_setCell]; exact h4.fr k
  have hgt : Gt w col W (ocol col a.ab m a.ov v) := by
    refine ⟨?_, fun b hb => ?_⟩
    · rw [← hW]
      exact ((Turned.of_below u).setCell (p := ⟨q, 11, none⟩) (.inl (by show 0 < col q; omega)) v).setCell (p := ⟨q, 12, none⟩) (.inl (by show 0 < col q; omega)) _
    · unfold ocol at hb
      split at hb
      · rename_i e; exact .inr (by omega)
      · split at hb
        · rename_i e; exact .inr (loc b e).1
        · split at hb
          · omega
          · exact .inl hb
  rw [hW]
  refine ⟨⟨hcell, hfr, hcol q 1 hfq (by omega) (by omega) (by omega), ?_⟩, hgt⟩
  refine { ch := kCh (T := T) (a := a) h.d (hblk _ _ h.d.cc (by omega)) hkp2 hid, con := kCon (T := T) (a := a) h.d (hblk _ _ h.d.ccb (by omega)) hkp2 hid hK, am := ⟨S', hS.of_block (hset _ hmq), hS'⟩, sa := kSa (T := T) (a := a) h.d (hblk _ _ h.d.csb (by omega)) hK, bu := kBu (T := T) (a := a) h.d (fun b e => hblk _ _ (h.d.cbv b e) (by omega)) hkp2 hid, od := hR.frame (fun k e => hset k (fun e' => by have := (loc k e).1; omega)), tl := kTl (T := T) (a := a) h.d (fun b e => hblk _ _ (h.d.ctv b e) (by omega)) hkp2 hid, cc := hcol _ _ h.d.cc (by omega) (by omega) (by omega), ccb := hcol _ _ h.d.ccb (by omega) (by omega) (by omega), cab := by unfold ocol; rw [if_pos rfl], csb := hcol _ _ h.d.csb (by omega) (by omega) (by omega), cbv := fun b e => hcol _ _ (h.d.cbv b e) (by omega) (by omega) (by omega), cov := fun b e => by unfold ocol; rw [if_neg (loc b e).2, if_pos e], ctv := fun b e => hcol _ _ (h.d.ctv b e) (by omega) (by omega) (by omega), lt := fun k hk => ?_, zf := fun k hz => ?_, zl := fun k hz => by have := h.d.zl k hz; omega }
  · unfold ocol at hk
    split at hk
    · rename_i e; rw [hs2, e]; exact hS.lt
    · split at hk
      · rename_i e; rw [hs2]; exact hR.lt k e
      · split at hk
        · omega
        · have := h.d.lt k hk; omega
  · have h1 := h.d.zf k hz
    have h2 := h.d.zl k hz
    unfold ocol
    rw [if_neg (by omega), if_neg (fun e => by have := (loc k e).1; omega)]
    split
    · rfl
    · exact h1
end
end Go.Proofs.YtlaihgdfedalmaaGreat
