/-
  The document's net as it is made; a law on what is held of a region's worlds.
-/
import Derived.Test.YtagabmhgcmnldaaMDo3
namespace Go.Proofs.Ytagabmhgcmnldaa
open Go.RowKit
set_option linter.unusedVariables false
set_option linter.unusedSimpArgs false

theorem wpAnyH_weaken {P : Program} {md : Region.Mode} {ops : Array Oper} {Q : Exit → Act → World → Prop} {S S' : World → Prop} (hS : ∀ w, S' w → S w) : ∀ (fuel : Nat) (listed : Array Bool) (a : Act) (w : World), wpAnyH P md ops Q S' fuel listed a w → wpAnyH P md ops Q S fuel listed a w
  | 0, _, _, _, h => h
  | fuel + 1, _, _, _, h => ⟨h.1, fun i hi => wpOp_mono (fun a' w' h' => ⟨hS _ h'.1, wpAnyH_weaken hS fuel _ a' w' h'.2⟩) (h.2 i hi)⟩

def zeroM : Array Value := #[.int .i64 0, .slice none 0 0, .slice none 0 0] ++ (Array.replicate 256 (.bool false) ++ #[.int .i64 0])
def newM (N : Nat) : Array Value := #[.int .i64 (N : Nat), .slice none 0 0, .slice none 0 0] ++ (Array.replicate 256 (.bool false) ++ #[.int .i64 0])
set_option maxRecDepth 100000 in
theorem zeroM_run (w : World) : (zeroValue 34).run Try.prog w = .ok (.agg zeroM) w := by kernel_rfl
theorem newM_is (N : Nat) : zeroM.setIfInBounds 0 (.int .i64 (N : Nat)) = newM N := by kernel_rfl
theorem newM_size (N : Nat) : (newM N).size = 260 := by simp [newM]
theorem newM_get (N i : Nat) (hi : i < 260) : (newM N)[i]? = some (mcell N (.slice none 0 0) (.slice none 0 0) (fun _ => false) 0 i) := by
  unfold newM mcell
  by_cases h3 : i < 3
  · rw [Array.getElem?_append_left (by simpa using h3)]
    have : i = 0 ∨ i = 1 ∨ i = 2 := by omega
    rcases this with rfl | rfl | rfl <;> rfl
  · rw [Array.getElem?_append_right (by simp; omega), if_neg (by omega), if_neg (by omega), if_neg (by omega)]
    by_cases h4 : i < 259
    · rw [if_pos h4, Array.getElem?_append_left (by simp; omega), Array.getElem?_replicate, if_pos (by simp; omega)]
    · rw [if_neg h4]
      obtain rfl : i = 259 := by omega
      rw [Array.getElem?_append_right (by simp)]
      simp
theorem newM_net (w : World) (N : Nat) (h1 : 1 ≤ N) (h2 : N ≤ 16) : MIs (w.alloc (.cells (newM N) 34)) w.heap.size N (.slice none 0 0) (.slice none 0 0) (fun _ => false) 0 [] [] where
  obj := by
    have := World.rowIs_alloc w (newM N) 34 (mcell N (.slice none 0 0) (.slice none 0 0) (fun _ => false) 0) (fun i hi => newM_get N i (by rw [newM_size] at hi; exact hi))
    rwa [newM_size] at this
  lrow := World.ownsRow_nil _ _ _ _
  brow := World.ownsRow_nil _ _ _ _
  len := rfl
  pk := fun j x a hx => by simp at hx
  lp := by simp [Value.ownBlock]
  bp := by simp [Value.ownBlock]
  lb := by simp [Value.ownBlock]
  xp := by simp
  xx := fun i j x y hx => by simp at hx
  n1 := h1
  n16 := h2
  most := by simp
  lost' := by omega
  frm := by simp
theorem new_both {w w' : World} {F : Nat → Prop} {p N : Nat} (n : Nt w' F p N (allN N) 0 []) (h1 : 1 ≤ N) (h2 : N ≤ 16) (hw : w.heap.size ≤ w'.heap.size) (hF : ∀ b, F b → w.heap.size ≤ b) : ∃ G, Bth (w'.alloc (.cells (newM N) 34)) G p w'.heap.size N 0 [] ∧ ∀ b, G b → w.heap.size ≤ b := by
  have hm := newM_net w' N h1 h2
  have hfm : ∀ b, Fm w'.heap.size (.slice none 0 0) (.slice none 0 0) [] b → b = w'.heap.size := by
    rintro b (rfl | h | h | ⟨x, hx, _⟩)
    · rfl
    · simp [Value.ownBlock] at h
    · simp [Value.ownBlock] at h
    · simp at hx
  refine ⟨fun b => F b ∨ b = w'.heap.size, ⟨⟨F, allN N, fun _ => false, _, _, [], n.alloc _, hm, Rel.all N, fun b hb hf => ?_, fun b => .inl, fun b hb => .inr (hfm b hb)⟩, ?_⟩, ?_⟩
  · have := n.2 b hb
    have := hfm b hf
    omega
  · rintro b (hb | rfl)
    · have := n.2 b hb; simp; omega
    · simp
  · rintro b (hb | rfl)
    · exact hF b hb
    · exact hw
end Go.Proofs.Ytagabmhgcmnldaa
