/-
  Summaries as they are handed in.
-/
import Derived.Test.YtlaihgdfedalmaaGreatEArgs
import Derived.Test.YtlaihgdfedalmaaGreatEAlike
import Derived.Lib.SmallJoins
namespace Go.Proofs.YtlaihgdfedalmaaGreat
open Go.ChangeShapes Go.WideShapes Go.ChangeAt Go.RowKit Go.Deep
set_option linter.unusedVariables false
set_option linter.unusedSimpArgs false

/-- No part takes more than the form's reach. -/
def Fits {H : Type} (t : TypeId) (d : DataW H) : Prop := ∀ n ∈ d.weights Tryz.prog t, n ≤ 140737488351232
theorem Fits.cap {H : Type} {t e : TypeId} {D : Nat → DataW H} {len m : Nat} (ht : Tryz.prog.underlying t = some (.slice e)) (h : Fits t (.slice ((List.range len).map D) ((List.range (m - len)).map fun j => D (len + j)))) : (len + (m - len)) * Tryz.prog.bytesOf e ≤ 140737488351232 := by
  have := h ((len + (m - len)) * Tryz.prog.bytesOf e) (by simp [DataW.weights, ht])
  exact this
theorem Fits.part {H : Type} {t : TypeId} {fs : Array Field} {xs : List (DataW H × List MemPlace)} (ht : Tryz.prog.underlying t = some (.struct fs)) (h : Fits t (.agg (xs.map (·.1)))) {i : Nat} {f : Field} {x : DataW H × List MemPlace} (hf : fs[i]? = some f) (hx : xs[i]? = some x) : Fits f.type x.1 := by
  intro n hn
  refine h n ?_
  simp only [DataW.weights, ht]
  refine DataW.weights_mem_each (j := i) (t := f.type) (d := x.1) ?_ ?_ n hn
  · rw [List.getElem?_map, Array.getElem?_toList, hf]; rfl
  · rw [List.getElem?_map, hx]; rfl

/-- A summary that was handed in. -/
structure Smy where
  ao : Option Addr
  n : Nat
  ac : Nat
  es : List (Lb × List UInt8)
  bo : Option Addr
  m : Nat
  bc : Nat
  ls : List Lb
  nx : Int
  hn : Nat
  hp : Int
def Smy.val (y : Smy) : Value := sumv (.slice y.ao y.n y.ac) (.slice y.bo y.m y.bc) y.nx y.hn y.hp
structure SmyOk (W : World) (y : Smy) : Prop where
  er : ER (fun _ => True) W y.ao y.n y.es
  lr : LR W y.bo y.m y.ls
  eok : ∀ e ∈ y.es, OkL e.1
  lok : ∀ x ∈ y.ls, OkL x
  ez : y.ao = none → y.n = 0
  lz : y.bo = none → y.m = 0
  ec : y.n ≤ y.ac
  lc : y.m ≤ y.bc
  em : y.ac ≤ 140737488355328
  lm : y.bc ≤ 140737488355328
  nxi : In y.nx
  hnl : y.hn < 18446744073709551616
  hpi : In y.hp
theorem SmyOk.bl {W W' : World} {y : Smy} (h : SmyOk W y) (u : Below W.heap.size W W') : SmyOk W' y := { h with er := h.er.bl u, lr := h.lr.up u }

end Go.Proofs.YtlaihgdfedalmaaGreat
