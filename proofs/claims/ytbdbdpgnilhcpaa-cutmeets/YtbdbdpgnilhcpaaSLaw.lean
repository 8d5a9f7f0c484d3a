/-
  What the statements on cut lean on: numbers of views as they are handed in; joined states of the document's.
-/
import Derived.Test.YtbdbdpgnilhcpaaSArgs
import Derived.Lib.SmallJoins
namespace Go.Proofs.Ytbdbdpgnilhcpaa
open Go.ChangeShapes Go.WideShapes Go.ChangeAt Go.RowKit Go.Joins
set_option linter.unusedVariables false
theorem shut_vid {H : Type} {enc : TypeId × Value → H} {W : World} {base : Nat} {spare : Nat → Bool} {held : Bool} {n q : Int} (wa : (Lit.int .u64 n).wf = true) (wb : (Lit.int .i64 q).wf = true) :
    DataW.Trod enc Try.prog W base spare held 28 (.agg #[.int .u64 n, .int .i64 q]) (.agg [.lit (.int .u64 n), .lit (.int .i64 q)]) ([] ++ []) :=
  shut_agg2 (y0 := (.lit (.int .u64 n), [])) (y1 := (.lit (.int .i64 q), [])) Try.underlying28 (by kernel_rfl) cells28 ⟨1, by simp [DataW.trod, Try.underlying26, wa]⟩ ⟨1, by simp [DataW.trod, Try.underlying3, wb]⟩

theorem Its.small {p : Nat → Prop} {w : World} {ao : Option Addr} {n : Nat} {ds : List Di} (h : Its p w ao n ds) : n ≤ 4398046511104 := by obtain ⟨xs, h1, _⟩ := h; exact h1.2.1
theorem Sts.its {p : Nat → Prop} {w : World} {ao : Option Addr} {n : Nat} {ss : List Sx} {es : List (List Di)} (h : Sts p w ao n ss es) {x : Sx} (hx : x ∈ ss) : ∃ e, Its p w x.2.2.2.1 x.2.2.2.2.1 e := by
  obtain ⟨j, hj⟩ := List.mem_iff_getElem?.1 hx
  have := (List.getElem?_eq_some_iff.1 hj).1
  have h1 := h.1.1
  have h2 := h.2.1
  exact ⟨es[j]'(by omega), h.2.2 j x _ hj (List.getElem?_eq_getElem (by omega))⟩
theorem Sts.ok {p : Nat → Prop} {w : World} {ao : Option Addr} {n : Nat} {ss : List Sx} {es : List (List Di)} (h : Sts p w ao n ss es) (hf : FlOk ss) : ∀ x ∈ ss, OkS x := fun x hx => by
  obtain ⟨e, he⟩ := h.its hx
  have := he.small
  have := hf x hx
  unfold OkS
  omega
theorem right_true {ss : List Sx} {n : Nat} (h : rightB ss n = true) : FlOk ss ∧ n ≤ 40 := by
  unfold rightB at h
  simpa using h
/-- What the items of a state say that stood in a list. -/
def esAt (es : List (List Di)) (J : List Tg) : List (List Di) := J.map (fun t => es.getD t.2 [])
theorem join_sts {p q : Nat → Prop} {w w' : World} {ao jo : Option Addr} {n m : Nat} {ss : List Sx} {es : List (List Di)} {J : List Tg} (h : Sts p w ao n ss es) (hk : Kp p w w') (hJ : ∀ t ∈ J, t ∈ tagl ss) (hs : SR q w' jo m (J.map (·.1))) :
    Sts (fun b => p b ∨ q b) w' jo m (J.map (·.1)) (esAt es J) := by
  refine ⟨hs.imp (fun _ _ hb => .inr hb), by unfold esAt; rw [List.length_map, ← hs.1, List.length_map], fun j x e hx he => ?_⟩
  unfold esAt at he
  rw [List.getElem?_map] at hx he
  obtain ⟨t, ht, rfl⟩ := Option.map_eq_some_iff.1 hx
  rw [ht] at he
  simp at he
  subst he
  have hm := tagl_mem (hJ t (List.mem_of_getElem? ht))
  have hl := (List.getElem?_eq_some_iff.1 hm).1
  have h1 := h.1.1
  have h2 := h.2.1
  have hes : es[t.2]? = some (es[t.2]?.getD []) := by rw [List.getElem?_eq_getElem (by omega)]; rfl
  exact ((h.2.2 t.2 t.1 _ hm hes).keep hk).imp (fun _ _ hb => .inl hb)
theorem join_mem {ss : List Sx} {J : List Tg} (hJ : ∀ t ∈ J, t ∈ tagl ss) : ∀ x ∈ J.map (·.1), x ∈ ss := fun x hx => by
  obtain ⟨t, ht, rfl⟩ := List.mem_map.1 hx
  exact List.mem_of_getElem? (tagl_mem (hJ t ht))
end Go.Proofs.Ytbdbdpgnilhcpaa
