/-
  The document's Find; a copy of bytes.
-/
import Derived.Test.YtlaihgdfedalmaaGreatFMath
import Derived.Test.YtlaihgdfedalmaaGreatEOwn
namespace Go.Proofs.YtlaihgdfedalmaaGreat
open Go.RowKit
set_option linter.unusedVariables false
set_option linter.unusedSimpArgs false

/-- What Find tells. -/
def FindIs (w w' : World) (es : List En) (x : Lb) (e : Ending) : Prop :=
  ∃ v b, e = .returned (.tuple #[v, .bool b]) ∧ b = (findE es x).isSome ∧ (∃ so sn sc, v = .slice so sn sc ∧ Cd.Row w' so sn sc ((findE es x).getD []))

set_option maxRecDepth 10000 in
set_option maxHeartbeats 1000000 in
theorem bclone_any (w : World) (ao : Option Addr) (n cap : Nat) (xs : List UInt8) (h : Cd.Row w ao n cap xs) (hn : n ≤ 140737488355328) :
    Calls Tryz.prog 47 #[.slice ao n cap] w fun e w' => ∃ v, e = .returned v ∧ w'.ownsRow w.heap.size 5 1 v xs.length (xs.map Cd.by8) ∧ Below w.heap.size w w' := by
  have q := fun (w : World) (a : Option Addr) (n c n' c' : Nat) => Lib.run_eql_slice_nil (P := Tryz.prog) w 37 5 a n c n' c' und34
  have hl := h.1
  cases ao with
  | none =>
    obtain ⟨rfl, rfl⟩ := h.2.2.2.1 rfl
    have : xs = [] := List.eq_nil_of_length_eq_zero hl
    subst this
    clear h
    go_enter Tryz.func47, Tryz.ntmps47
    go_wp2
    go_ret
    exact ⟨_, rfl, World.ownsRow_nil _ _ _ _, Below.refl _ _⟩
  | some a =>
    have hal := bl1 w (.cells #[] 5)
    have hown : (w.alloc (.cells #[] 5)).ownsRow w.heap.size 5 1 (.slice (some ⟨w.heap.size, 0, none⟩) 0 0) ([] : List UInt8).length (([] : List UInt8).map Cd.by8) := by
      have := World.ownsRow_lit (base := w.heap.size) (e := 5) (size := 1) w #[] 0 (Nat.le_refl _) (by unfold maxLen; omega) rfl
      simpa using this
    have hcs : ∀ j u, (xs.map Cd.by8)[j]? = some u → (w.alloc (.cells #[] 5)).cell? (a.add j) = some u := fun j u hj => bl_cell hal (h.olds a rfl j u hj)
    have hs : w.heap.size ≤ (w.alloc (.cells #[] 5)).heap.size := hal.size
    have hnil := q
    clear h
    go_enter Tryz.func47, Tryz.ntmps47
    go_wp2_with (at_builtin; refine wpList_append_adds rfl (.tmp 5) (.tmp 6) rfl w.heap.size _ [] rfl ?d1 a n cap xs rfl ?d0 ?d2 ?d3 ?d4 ?_)
    case d1 => exact hown
    case d0 => exact hl
    case d2 => exact hcs
    case d3 => simpa using hn
    case d4 => exact hs
    intro v w1 ha
    have hb := hal.trans (ha.below hs (fun k hk => (own_lt hown k hk).1))
    have ho := ha.own
    clear hown hcs hs ha
    go_wp2
    go_ret
    exact ⟨v, rfl, by simpa using ho, hb⟩
end Go.Proofs.YtlaihgdfedalmaaGreat
