/-
  Three rings beside one another: of numbers, of truths and of lists of one number each.
-/
import Derived.Test.YtipgmdeehmjokaaRArgs
import Derived.Test.YtipgmdeehmjokaaRTakeU
import Derived.Test.YtipgmdeehmjokaaRTakeB
import Derived.Test.YtipgmdeehmjokaaRTakeY
namespace Go.Proofs.Ytipgmdeehmjokaa
open Go.RowKit
set_option linter.unusedVariables false

def num (y : Nat) : Value := .int .u8 (y : Nat)
def big (y : Nat) : Value := .bool (decide (128 ≤ (y : Int)))

/-- Lists of one number each, in blocks of their own. -/
def Boxes (w : World) (F : Nat → Prop) (zs : List Value) (ys : List Nat) : Prop :=
  zs.length = ys.length ∧ ∀ (j : Nat) (v : Value) (y : Nat), zs[j]? = some v → ys[j]? = some y → ∃ g : Nat, v = .slice (some ⟨g, 0, none⟩) 1 1 ∧ w.cell? ⟨g, 0, none⟩ = some (num y) ∧ ¬ F g

structure Three (w0 w : World) (pa : Nat) (sa : Value) (fa : Nat) (pb : Nat) (sb : Value) (fb : Nat) (pc : Nat) (sc : Value) (fc : Nat) (m : Nat) (ya yb yc : List Nat) (zs : List Value) : Prop where
  ra : Ring w 5 pa sa m fa (ya.map num)
  rb : Ring w 4 pb sb m fb (yb.map big)
  rc : Ring w 49 pc sc m fc zs
  boxes : Boxes w (fun b => Foot pa sa b ∨ Foot pb sb b ∨ Foot pc sc b) zs yc
  sab : ∀ b, Foot pa sa b → ¬ Foot pb sb b
  sac : ∀ b, Foot pa sa b → ¬ Foot pc sc b
  sbc : ∀ b, Foot pb sb b → ¬ Foot pc sc b
  turned : Turned (fun _ => False) w0 w
  own : ∀ b, Foot pa sa b ∨ Foot pb sb b ∨ Foot pc sc b → w0.heap.size ≤ b

section
variable {w0 w w' : World} {pa : Nat} {sa : Value} {fa : Nat} {pb : Nat} {sb : Value} {fb : Nat} {pc : Nat} {sc : Value} {fc : Nat} {m : Nat} {ya yb yc : List Nat} {zs : List Value}

theorem Boxes.on {F F' G : Nat → Prop} (h : Boxes w F zs yc) (t : Turned G w w') (hG : ∀ b, G b → F b) (hF : ∀ b, F' b → F b ∨ w.heap.size ≤ b) : Boxes w' F' zs yc := by
  refine ⟨h.1, fun j v y hv hy => ?_⟩
  obtain ⟨g, e1, e2, e3⟩ := h.2 j v y hv hy
  have hlt := World.block_lt_of_cell? w _ e2
  refine ⟨g, e1, ?_, fun hf => (hF g hf).elim e3 (fun hle => ?_)⟩
  · rw [cell_block (t.block g hlt (fun hg => e3 (hG g hg)))]; exact e2
  · have : g < w.heap.size := hlt
    omega

theorem foot_new {p : Nat} {sv sv' : Value} {p2 : Nat} {s2 : Value} {most first : Nat} {xs : List Value} {e : TypeId} (g : Goes p sv w sv' w') (h : Ring w e p2 s2 most first xs) (hs : ∀ b, Foot p sv b → ¬ Foot p2 s2 b) : ∀ b, Foot p sv' b → ¬ Foot p2 s2 b := by
  intro b hb h2
  rcases g.foot b hb with h1 | h1
  · exact hs b h1 h2
  · have := h.foot_lt b h2
    omega

theorem Three.goA {sa' : Value} {fa' : Nat} {ya' : List Nat} (h : Three w0 w pa sa fa pb sb fb pc sc fc m ya yb yc zs) (g : Goes pa sa w sa' w') (r : Ring w' 5 pa sa' m fa' (ya'.map num)) : Three w0 w' pa sa' fa' pb sb fb pc sc fc m ya' yb yc zs where
  ra := r
  rb := h.rb.turned g.turned (fun b hb hf => h.sab b hf hb)
  rc := h.rc.turned g.turned (fun b hb hf => h.sac b hf hb)
  boxes := h.boxes.on g.turned (fun b hb => .inl hb) (fun b hb => hb.elim (fun h1 => (g.foot b h1).elim (fun x => .inl (.inl x)) .inr) (fun h1 => .inl (.inr h1)))
  sab := foot_new g h.rb h.sab
  sac := foot_new g h.rc h.sac
  sbc := h.sbc
  turned := h.turned.trans g.turned (fun i hi => .inr (h.own i (.inl hi)))
  own := fun b hb => by
    rcases hb with hb | hb
    · exact (g.foot b hb).elim (fun x => h.own b (.inl x)) (fun x => Nat.le_trans h.turned.size x)
    · exact h.own b (.inr hb)
theorem Three.goB {sb' : Value} {fb' : Nat} {yb' : List Nat} (h : Three w0 w pa sa fa pb sb fb pc sc fc m ya yb yc zs) (g : Goes pb sb w sb' w') (r : Ring w' 4 pb sb' m fb' (yb'.map big)) : Three w0 w' pa sa fa pb sb' fb' pc sc fc m ya yb' yc zs where
  ra := h.ra.turned g.turned (fun b hb hf => h.sab b hb hf)
  rb := r
  rc := h.rc.turned g.turned (fun b hb hf => h.sbc b hf hb)
  boxes := h.boxes.on g.turned (fun b hb => .inr (.inl hb)) (fun b hb => hb.elim (fun h1 => .inl (.inl h1)) (fun h1 => h1.elim (fun h2 => (g.foot b h2).elim (fun x => .inl (.inr (.inl x))) .inr) (fun h2 => .inl (.inr (.inr h2)))))
  sab := fun b h1 h2 => foot_new g h.ra (fun b hb hc => h.sab b hc hb) b h2 h1
  sac := h.sac
  sbc := foot_new g h.rc h.sbc
  turned := h.turned.trans g.turned (fun i hi => .inr (h.own i (.inr (.inl hi))))
  own := fun b hb => by
    rcases hb with hb | hb | hb
    · exact h.own b (.inl hb)
    · exact (g.foot b hb).elim (fun x => h.own b (.inr (.inl x))) (fun x => Nat.le_trans h.turned.size x)
    · exact h.own b (.inr (.inr hb))
theorem Three.goC {sc' : Value} {fc' : Nat} {yc' : List Nat} {zs' : List Value} (h : Three w0 w pa sa fa pb sb fb pc sc fc m ya yb yc zs) (g : Goes pc sc w sc' w') (hb : Boxes w (fun b => Foot pa sa b ∨ Foot pb sb b ∨ Foot pc sc b) zs' yc') (r : Ring w' 49 pc sc' m fc' zs') : Three w0 w' pa sa fa pb sb fb pc sc' fc' m ya yb yc' zs' where
  ra := h.ra.turned g.turned (fun b hb hf => h.sac b hb hf)
  rb := h.rb.turned g.turned (fun b hb hf => h.sbc b hb hf)
  rc := r
  boxes := hb.on g.turned (fun b hb => .inr (.inr hb)) (fun b hb => hb.elim (fun h1 => .inl (.inl h1)) (fun h1 => h1.elim (fun h2 => .inl (.inr (.inl h2))) (fun h2 => (g.foot b h2).elim (fun x => .inl (.inr (.inr x))) .inr)))
  sab := h.sab
  sac := fun b h1 h2 => foot_new g h.ra (fun b hb hc => h.sac b hc hb) b h2 h1
  sbc := fun b h1 h2 => foot_new g h.rb (fun b hb hc => h.sbc b hc hb) b h2 h1
  turned := h.turned.trans g.turned (fun i hi => .inr (h.own i (.inr (.inr hi))))
  own := fun b hb => by
    rcases hb with hb | hb | hb
    · exact h.own b (.inl hb)
    · exact h.own b (.inr (.inl hb))
    · exact (g.foot b hb).elim (fun x => h.own b (.inr (.inr x))) (fun x => Nat.le_trans h.turned.size x)
theorem Three.still {F : Nat → Prop} (h : Three w0 w pa sa fa pb sb fb pc sc fc m ya yb yc zs) (t : Turned (fun _ => False) w w') : Three w0 w' pa sa fa pb sb fb pc sc fc m ya yb yc zs where
  ra := h.ra.turned t (fun _ _ hf => hf)
  rb := h.rb.turned t (fun _ _ hf => hf)
  rc := h.rc.turned t (fun _ _ hf => hf)
  boxes := h.boxes.on t (fun _ hf => hf.elim) (fun _ hb => .inl hb)
  sab := h.sab
  sac := h.sac
  sbc := h.sbc
  turned := h.turned.trans t (fun _ hf => hf.elim)
  own := h.own

theorem Boxes.snoc {F : Nat → Prop} {g y : Nat} (h : Boxes w F zs yc) (hc : w.cell? ⟨g, 0, none⟩ = some (num y)) (hg : ¬ F g) : Boxes w F (zs ++ [.slice (some ⟨g, 0, none⟩) 1 1]) (yc ++ [y]) := by
  refine ⟨by simp [h.1], fun j v z hv hz => ?_⟩
  by_cases hj : j < zs.length
  · rw [List.getElem?_append_left hj] at hv
    rw [List.getElem?_append_left (by rw [← h.1]; exact hj)] at hz
    exact h.2 j v z hv hz
  · rw [List.getElem?_append_right (by omega)] at hv
    rw [List.getElem?_append_right (by have := h.1; omega)] at hz
    obtain ⟨h1, h2⟩ := List.getElem?_eq_some_iff.1 hv
    obtain ⟨h3, h4⟩ := List.getElem?_eq_some_iff.1 hz
    simp at h2 h4
    exact ⟨g, h2.symm, by rw [← h4]; exact hc, hg⟩
theorem Boxes.cons {F : Nat → Prop} {y : Nat} {ys : List Nat} (h : Boxes w F zs (y :: ys)) : ∃ g zs', zs = .slice (some ⟨g, 0, none⟩) 1 1 :: zs' ∧ w.cell? ⟨g, 0, none⟩ = some (num y) ∧ ¬ F g ∧ Boxes w F zs' ys := by
  cases zs with
  | nil => have := h.1; simp at this
  | cons v zs' =>
    obtain ⟨g, rfl, e2, e3⟩ := h.2 0 v y rfl rfl
    exact ⟨g, zs', rfl, e2, e3, by have := h.1; simpa using this, fun j v z hv hz => h.2 (j + 1) v z (by simpa using hv) (by simpa using hz)⟩
end
end Go.Proofs.Ytipgmdeehmjokaa
