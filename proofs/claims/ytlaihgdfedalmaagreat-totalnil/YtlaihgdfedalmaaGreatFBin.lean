/-
  slices.BinarySearchFunc over entries by their labels, and Find.
-/
import Derived.Test.YtlaihgdfedalmaaGreatFFind
import Derived.Test.YtlaihgdfedalmaaGreatECmp
namespace Go.Proofs.YtlaihgdfedalmaaGreat
open Go.RowKit
set_option linter.unusedVariables false
set_option linter.unusedSimpArgs false

theorem asc_get {es : List En} (h : Asc es) {i j : Nat} {a b : En} (hi : es[i]? = some a) (hj : es[j]? = some b) (hij : i < j) : ltL a.1 b.1 := by
  obtain ⟨h1, h2⟩ := List.getElem?_eq_some_iff.1 hi
  obtain ⟨h3, h4⟩ := List.getElem?_eq_some_iff.1 hj
  have := List.pairwise_iff_getElem.1 h i j h1 h3 hij
  rwa [h2, h4] at this

end Go.Proofs.YtlaihgdfedalmaaGreat
