/-
  A select met in a walk, as a closed word: the walk does not look into it.
-/
import Derived.Test.YtlaihgdfedalmaaGreatMix3
namespace Go.Proofs.YtlaihgdfedalmaaGreat
open Go Go.RowKit Go.Conc

structure WpS (P : Program) (c : Code) (Q : Exit → Act → World → Prop) (a : Act) (w : World) : Prop where
  out : WpN P c Q a w
section
variable {P : Program} {Q : Exit → Act → World → Prop} {a : Act} {w : World}
theorem then_out {y : Code} {e : Exit} {a : Act} {w : World} (h : Exit.then (WpS P y Q) Q e a w) : Exit.then (WpN P y Q) Q e a w := by
  cases e <;> first | exact h.out | exact h
theorem wpS_of {c : Code} (h : c.wp P Q a w) : WpS P c Q a w := ⟨wpN_of h⟩
theorem wpS_seq {x y : Code} (h : x.wp P (Exit.then (WpS P y Q) Q) a w) : WpS P (Code.seq x y) Q a w :=
  ⟨wpN_seq (fun b k cs => let ⟨e, a', w', q, r⟩ := h b k cs; ⟨e, a', w', then_out q, r⟩)⟩
theorem wpS_seq' {x y : Code} (h : WpS P x (Exit.then (WpS P y Q) Q) a w) : WpS P (Code.seq x y) Q a w :=
  ⟨wpN_seq' (wpN_mono h.out (fun _ _ _ q => then_out q))⟩
theorem calls_of_wpS {f : FuncId} {fn : Func} {c : Code} {args : Array Value} {R : Ending → World → Prop}
    (hf : P.funcs[f]? = some fn) (hb : fn.body = some c)
    (h : WpS P c (bodyPost P fn R) { tmps := args ++ Array.replicate (fn.ntmps - args.size) undef, defers := [] } w) : Calls P f args w R := calls_of_wpN hf hb h.out
theorem wpS_send_room {id : Nat} {o : Oper} {l : List Oper} {c cap s r : Nat} {buf : Array Value} {v z : Value} {tm : Bool}
    (hw : Region.wanted o (yielded (o :: l).toArray a.tmps) = true)
    (hr : (execOp a.eval o).run P w = .ok (.comm #[scase c v z] false .select) w)
    (hc : w.heap[c]? = some (.chan cap buf false s r tm)) (hroom : buf.size < cap)
    (h : wpList P (o :: l).toArray Q l (a.put o.dst (.tuple #[goInt 0, .bool false])) (w.setChan c cap (buf.push v) false (s + 1) r tm)) :
    WpS P (Code.region id (o :: l).toArray false) Q a w := ⟨wpN_send_room hw hr hc hroom h⟩
theorem wpS_send_full {id : Nat} {o : Oper} {l : List Oper} {c cap s r : Nat} {buf : Array Value} {v z : Value} {tm : Bool}
    (hw : Region.wanted o (yielded (o :: l).toArray a.tmps) = true)
    (hr : (execOp a.eval o).run P w = .ok (.comm #[scase c v z] false .select) w)
    (hc : w.heap[c]? = some (.chan cap buf false s r tm)) (hfull : cap ≤ buf.size)
    (h : wpList P (o :: l).toArray Q l (a.put o.dst (.tuple #[goInt (-1), .bool false])) w) :
    WpS P (Code.region id (o :: l).toArray false) Q a w := ⟨wpN_send_full hw hr hc hfull h⟩
end
end Go.Proofs.YtlaihgdfedalmaaGreat
