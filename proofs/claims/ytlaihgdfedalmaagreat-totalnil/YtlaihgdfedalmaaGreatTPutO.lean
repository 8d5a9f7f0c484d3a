/-
  One more label in the order: among and order turn.
-/
import Derived.Test.YtlaihgdfedalmaaGreatTStep
namespace Go.Proofs.YtlaihgdfedalmaaGreat
open Go.RowKit Go.Sort Go.Conc
set_option linter.unusedVariables false
set_option linter.unusedSimpArgs false
section
variable {w w4 : World} {col : Nat → Nat} {Z : Nat → Prop} {q : Nat} {T : Tot} {a : Ta}
theorem Tt.putO (h : Tt w col Z q T a) (t : Turned (fun k => k = a.ab ∨ a.ov.ownBlock = some k) w w4) {K' : Nat} (hK : T.K ≤ K') {S' ord' : List Lb} (hS : Q.SetIs w4 a.ab K' S') (hS' : ∀ y, y ∈ S' ↔ y ∈ ord') (v : Value) (hR : Rw w4 39 4 v ord'.length (flat ord')) (loc : ∀ b, v.ownBlock = some b → a.ov.ownBlock = some b ∨ w.heap.size ≤ b) :
    ∃ col', Tt (w4.setCell ⟨q, 11, none⟩ v) col' Z q { T with ord := ord', K := K' } { a with ov := v } ∧ Gt w col (w4.setCell ⟨q, 11, none⟩ v) col' := by
  have hsz := t.size
  have hfq := h.fq
  have hbl : ∀ k, 0 < col k → col k ≠ 4 → col k ≠ 7 → w4.heap[k]? = w.heap[k]? := fun k p1 p2 p3 => t.block k (h.d.lt k p1) (fun e => e.elim (fun e => p2 (by rw [e]; exact h.d.cab)) (fun e => p3 (h.d.cov k e)))
  have hkp : Kp Z w w4 := t.kp (fun k hz e => by
    have := h.d.zf k hz
    rcases e with e | e
    · rw [e, h.d.cab] at this; omega
    · rw [h.d.cov k e] at this; omega)
  have hnew : ∀ k, v.ownBlock = some k → ¬ Z k ∧ (0 < col k → col k = 7) := fun k e => by
    rcases loc k e with e' | e'
    · have := h.d.cov k e'
      exact ⟨fun hz => by have := h.d.zf k hz; omega, fun _ => this⟩
    · exact ⟨fun hz => by have := h.d.zl k hz; omega, fun hc => by have := h.d.lt k hc; omega⟩
  have hcol : ∀ k c, col k = c → 0 < c → c ≠ 7 → recol col a.ov.ownBlock v.ownBlock 7 k = c := fun k c e hc h6 => by
    unfold recol
    rw [if_neg (fun e' => by have := (hnew k e').2 (by omega); omega), if_neg (fun e' => by have := h.d.cov k e'; omega)]
    exact e
  have hset : ∀ k, k ≠ q → (w4.setCell ⟨q, 11, none⟩ v).heap[k]? = w4.heap[k]? := fun k hk => Below.heap_setCell _ _ _ _ hk
  have hblk : ∀ k c, col k = c → 1 < c → c ≠ 4 → c ≠ 7 → (w4.setCell ⟨q, 11, none⟩ v).heap[k]? = w.heap[k]? := fun k c e hc h4 h7 => (hset k (fun e' => by rw [e', hfq] at e; omega)).trans (hbl k (by omega) (by omega) (by omega))
  have hkp2 : Kp Z w (w4.setCell ⟨q, 11, none⟩ v) := fun ad u hz hu => by
    rw [World.cell?_setCell_other _ _ _ _ (fun e => by have := h.d.zf _ hz; rw [← e] at this; simp at this; omega)]
    exact hkp ad u hz hu
  have hs2 : (w4.setCell ⟨q, 11, none⟩ v).heap.size = w4.heap.size := by simp [World.setCell]
  have hqb : w4.heap[q]? = w.heap[q]? := hbl q (by omega) (by omega) (by omega)
  have hid : ∀ b, Z b → Z b := fun _ e => e
  refine ⟨recol col a.ov.ownBlock v.ownBlock 7, ⟨fun k hk => ?_, fun k => ?_, hcol q 1 hfq (by omega) (by omega), ?_⟩, ?_⟩
  · by_cases e : k = 11
    · subst e
      exact World.cell?_setCell_same w4 _ _ ((cell_block hqb).trans (h.cell 11 hk))
    · rw [World.cell?_setCell_other _ _ _ _ (by intro e'; simp only [Addr.mk.injEq] at e'; omega), cell_block hqb, h.cell k hk]
      congr 1
      unfold tcell
      split <;> first | rfl | omega
  · rw [World.frozen?_setCell, frozen_block hqb]
    exact h.fr k
  · refine { ch := kCh (T := T) (a := a) h.d (hblk _ _ h.d.cc (by omega) (by omega) (by omega)) hkp2 hid, con := kCon (T := T) (a := a) h.d (hblk _ _ h.d.ccb (by omega) (by omega) (by omega)) hkp2 hid hK, am := ⟨S', hS.of_block (hset _ (fun e => by have := h.d.cab; rw [e] at this; omega)), hS'⟩, sa := kSa (T := T) (a := a) h.d (hblk _ _ h.d.csb (by omega) (by omega) (by omega)) hK, bu := kBu (T := T) (a := a) h.d (fun b e => hblk _ _ (h.d.cbv b e) (by omega) (by omega) (by omega)) hkp2 hid, od := hR.frame (fun k e => hset k (fun e' => by have := (hnew k e).2 (by rw [e', hfq]; omega); rw [e', hfq] at this; omega)), tl := kTl (T := T) (a := a) h.d (fun b e => hblk _ _ (h.d.ctv b e) (by omega) (by omega) (by omega)) hkp2 hid, cc := hcol _ _ h.d.cc (by omega) (by omega), ccb := hcol _ _ h.d.ccb (by omega) (by omega), cab := hcol _ _ h.d.cab (by omega) (by omega), csb := hcol _ _ h.d.csb (by omega) (by omega), cbv := fun b e => hcol _ _ (h.d.cbv b e) (by omega) (by omega), cov := fun b e => by unfold recol; rw [if_pos e], ctv := fun b e => hcol _ _ (h.d.ctv b e) (by omega) (by omega), lt := fun k hk => ?_, zf := fun k hz => ?_, zl := fun k hz => by have := h.d.zl k hz; omega }
    · unfold recol at hk
      split at hk
      · rename_i e
        rw [hs2]
        exact hR.lt k e
      · split at hk
        · omega
        · have := h.d.lt k hk; omega
    · unfold recol
      rw [if_neg (fun e => (hnew k e).1 hz)]
      split
      · rfl
      · exact h.d.zf k hz
  · refine ⟨(t.mono (fun i e => ?_)).setCell (p := ⟨q, 11, none⟩) (.inl (by show 0 < col q; omega)) v, fun b hb => ?_⟩
    · rcases e with e | e
      · rw [e, h.d.cab]; omega
      · rw [h.d.cov i e]; omega
    · unfold recol at hb
      split at hb
      · rename_i e
        rcases loc b e with e' | e'
        · exact .inl (by rw [h.d.cov b e']; omega)
        · exact .inr e'
      · split at hb
        · omega
        · exact .inl hb
end
end Go.Proofs.YtlaihgdfedalmaaGreat
