/-
  Joined states of the document.
-/
import Derived.Test.YtlonbbepoamnmaaDoorSJMath
import Derived.Test.YtlonbbepoamnmaaDoorSIdx
import Derived.Test.YtlonbbepoamnmaaDoorSSame
import Derived.Deep.RegionHeld3
import Derived.Deep.Cut
import Derived.Deep.CutRange
namespace Go.Proofs.YtlonbbepoamnmaaDoor
open Go.RowKit
set_option linter.unusedVariables false
/-- A state's cells. -/
def C4 (b o : Nat) (x : Sx) (wx : World) : Prop :=
  wx.cell? ⟨b, o, none⟩ = some (.int .u64 (x.1 : Nat)) ∧ wx.cell? ⟨b, o + 1, none⟩ = some (.int .i64 x.2.1) ∧ wx.cell? ⟨b, o + 2, none⟩ = some (.int .i64 x.2.2.1) ∧ wx.cell? ⟨b, o + 3, none⟩ = some (.slice x.2.2.2.1 x.2.2.2.2.1 x.2.2.2.2.2)
theorem C4.up {b o : Nat} {x : Sx} {w w' : World} (h : C4 b o x w) (u : Below w.heap.size w w') : C4 b o x w' :=
  ⟨Kp.up (p := fun _ => True) u _ _ trivial h.1, Kp.up (p := fun _ => True) u _ _ trivial h.2.1, Kp.up (p := fun _ => True) u _ _ trivial h.2.2.1, Kp.up (p := fun _ => True) u _ _ trivial h.2.2.2⟩
theorem Its.small {p : Nat → Prop} {w : World} {ao : Option Addr} {n : Nat} {ds : List Di} (h : Its p w ao n ds) : n ≤ 4398046511104 := by obtain ⟨xs, h1, _⟩ := h; exact h1.2.1
theorem Sts.its {p : Nat → Prop} {w : World} {ao : Option Addr} {n : Nat} {ss : List Sx} {es : List (List Di)} (h : Sts p w ao n ss es) {x : Sx} (hx : x ∈ ss) : ∃ e, Its p w x.2.2.2.1 x.2.2.2.2.1 e := by
  obtain ⟨j, hj⟩ := List.mem_iff_getElem?.1 hx
  have := (List.getElem?_eq_some_iff.1 hj).1
  have h1 := h.1.1
  have h2 := h.2.1
  exact ⟨es[j]'(by omega), h.2.2 j x _ hj (List.getElem?_eq_getElem (by omega))⟩
/-- What the items of a state say that stood in a list. -/
def esAt (es : List (List Di)) (J : List Tg) : List (List Di) := J.map (fun t => es.getD t.2 [])
theorem join_sts {p q : Nat → Prop} {w w' : World} {ao jo : Option Addr} {n m : Nat} {ss : List Sx} {es : List (List Di)} {J : List Tg} (h : Sts p w ao n ss es) (hk : Kp p w w') (hJ : ∀ t ∈ J, t ∈ tagl ss) (hs : SR q w' jo m (J.map (·.1))) :
    Sts (fun b => p b ∨ q b) w' jo m (J.map (·.1)) (esAt es J) := by
  refine ⟨hs.imp (fun _ _ hb => .inr hb), by unfold esAt; rw [List.length_map, ← hs.1, List.length_map], fun j x e hx he => ?_⟩
  unfold esAt at he
  rw [List.getElem?_map] at hx he
  obtain ⟨t, ht, rfl⟩ := Option.map_eq_some_iff.1 hx
  rw [ht] at he
  simp at he
  subst he
  have hm := tagl_mem (hJ t (List.mem_of_getElem? ht))
  have hl := (List.getElem?_eq_some_iff.1 hm).1
  have h1 := h.1.1
  have h2 := h.2.1
  have hes : es[t.2]? = some (es[t.2]?.getD []) := by rw [List.getElem?_eq_getElem (by omega)]; rfl
  exact ((h.2.2 t.2 t.1 _ hm hes).keep hk).imp (fun _ _ hb => .inl hb)
theorem join_mem {ss : List Sx} {J : List Tg} (hJ : ∀ t ∈ J, t ∈ tagl ss) : ∀ x ∈ J.map (·.1), x ∈ ss := fun x hx => by
  obtain ⟨t, ht, rfl⟩ := List.mem_map.1 hx
  exact List.mem_of_getElem? (tagl_mem (hJ t ht))
end Go.Proofs.YtlonbbepoamnmaaDoor
