/-
  Texts of the walk, one behind the other.
-/
import Derived.Conc.LoneSelect
import Derived.Test.YtlaihgdfedalmaaGreatMix0
import Derived.Test.YtlaihgdfedalmaaGreatMix2
import Derived.Laws.MakeOwn
import Derived.Test.YtlaihgdfedalmaaGreatMix1
import Derived.Deep.MidRow
import Derived.Test.YtlaihgdfedalmaaGreatRows
import Derived.ProofKit
import Derived.OpenShut
import Derived.ShutString
import Derived.ChangeOld
import Derived.Below
import Derived.SizedLaws
import Derived.Deep.Slices
import Derived.ChangeSame
import Derived.MapViews
import Derived.WideKeyArgs
import Derived.Lib.SmallJoins
/-
  A select with one case and a default, met in a walk: code in a frame that is no initialiser's (WpN), the kit's walk elsewhere.
-/
namespace Go.Proofs.YtlaihgdfedalmaaGreat
open Go Go.RowKit Go.Conc

/-- What code does in an ordinary frame. -/
def WpN (P : Program) (c : Code) (Q : Exit → Act → World → Prop) (a : Act) (w : World) : Prop :=
  ∀ (b : Frame) (k : List Item) (cs : List Frame), b.kind = .normal →
    ∃ e a' w', Q e a' w' ∧ Arrives P (lone (b.at a (.code c :: k)) cs w) b k cs e a' w'

section
variable {P : Program} {Q : Exit → Act → World → Prop} {a : Act} {w : World}

theorem wpN_of {c : Code} (h : c.wp P Q a w) : WpN P c Q a w := fun b k cs _ => h b k cs

/-- Ordinary code, then code with a select in it. -/
theorem wpN_seq {x y : Code} (h : x.wp P (Exit.then (WpN P y Q) Q) a w) : WpN P (Code.seq x y) Q a w := by
  intro b k cs hb
  obtain ⟨e, a₁, w₁, hq, harr⟩ := h b (.code y :: k) cs
  by_cases he : e = .normal
  · subst he
    obtain ⟨e₂, a₂, w₂, hq₂, harr₂⟩ := hq b k cs hb
    exact ⟨e₂, a₂, w₂, hq₂, .of_steps (.head step_seq harr) harr₂⟩
  · have hq' : Q e a₁ w₁ := by cases e <;> first | exact absurd rfl he | exact hq
    exact ⟨e, a₁, w₁, hq', .of_steps (.one step_seq) (.pass (x := .code y) rfl (fun _ _ => .inl he) harr)⟩

/-- Code with a select in it, then more. -/
theorem wpN_seq' {x y : Code} (h : WpN P x (Exit.then (WpN P y Q) Q) a w) : WpN P (Code.seq x y) Q a w := by
  intro b k cs hb
  obtain ⟨e, a₁, w₁, hq, harr⟩ := h b (.code y :: k) cs hb
  by_cases he : e = .normal
  · subst he
    obtain ⟨e₂, a₂, w₂, hq₂, harr₂⟩ := hq b k cs hb
    exact ⟨e₂, a₂, w₂, hq₂, .of_steps (.head step_seq harr) harr₂⟩
  · have hq' : Q e a₁ w₁ := by cases e <;> first | exact absurd rfl he | exact hq
    exact ⟨e, a₁, w₁, hq', .of_steps (.one step_seq) (.pass (x := .code y) rfl (fun _ _ => .inl he) harr)⟩

theorem wpN_block {id : Nat} {c : Code} (h : WpN P c (Exit.inBlock id Q) a w) : WpN P (Code.block id c) Q a w := by
  intro b k cs hb
  obtain ⟨e, a₁, w₁, hq, harr⟩ := h b (.inBlock id :: k) cs hb
  cases e with
  | normal => exact ⟨.normal, a₁, w₁, hq, .head step_block (Steps.trans harr (.one step_inBlock))⟩
  | exit id' =>
    by_cases hid : id' = id
    · simp only [Exit.inBlock, hid, if_true] at hq
      exact ⟨.normal, a₁, w₁, hq, .head step_block (harr k (by simp [exitTo, hid]))⟩
    · simp only [Exit.inBlock, hid, if_false] at hq
      refine ⟨.exit id', a₁, w₁, hq, fun k' hk => .head step_block (harr k' ?_)⟩
      have : (id == id') = false := by simp; exact fun h => hid h.symm
      simp [exitTo, this, hk]
  | goto l => exact ⟨_, a₁, w₁, hq, fun k' hk => .head step_block (harr k' (by simp [gotoIn, hk]))⟩
  | ret => exact ⟨_, a₁, w₁, hq, .of_steps (.one step_block) harr⟩
  | panic ch => exact ⟨_, a₁, w₁, hq, .of_steps (.one step_block) harr⟩
  | outgrown => exact ⟨_, a₁, w₁, hq, .of_steps (b := b) (k := k) (cs := cs) (e := .outgrown) (.one step_block) harr⟩

theorem wpN_mono {c : Code} {Q' : Exit → Act → World → Prop} (h : WpN P c Q a w) (hq : ∀ e a w, Q e a w → Q' e a w) : WpN P c Q' a w :=
  fun b k cs hb => let ⟨e, a', w', q, r⟩ := h b k cs hb; ⟨e, a', w', hq _ _ _ q, r⟩

/-- A loop with a select in its round: so many rounds at most. -/
theorem wpN_loop {c : Code} (I : Nat → Act → World → Prop) (round : ∀ n a w, I n a w → WpN P c (Exit.then (fun a' w' => ∃ m, m < n ∧ I m a' w') Q) a w) :
    ∀ n a w, I n a w → WpN P (Code.loop c) Q a w := by
  intro n a w h0 b k cs hb
  have key : ∀ n a w, I n a w → ∃ e a' w', Q e a' w' ∧ Arrives P (lone (b.at a (.code c :: .inLoop c :: k)) cs w) b k cs e a' w' := by
    intro n
    induction n using Nat.strongRecOn with
    | _ n ih =>
      intro a w hI
      obtain ⟨e, a₁, w₁, hq, harr⟩ := round n a w hI b (.inLoop c :: k) cs hb
      by_cases he : e = .normal
      · subst he
        obtain ⟨m, hm, hI'⟩ := hq
        obtain ⟨e₂, a₂, w₂, hq₂, harr₂⟩ := ih m hm a₁ w₁ hI'
        exact ⟨e₂, a₂, w₂, hq₂, .of_steps (Steps.trans harr (.one step_inLoop)) harr₂⟩
      · have hq' : Q e a₁ w₁ := by cases e <;> first | exact absurd rfl he | exact hq
        exact ⟨e, a₁, w₁, hq', .pass (x := .inLoop c) rfl (fun _ _ => .inl he) harr⟩
  obtain ⟨e, a', w', hq, harr⟩ := key n a w h0
  exact ⟨e, a', w', hq, .of_steps (.one step_loop) harr⟩

theorem calls_of_wpN {f : FuncId} {fn : Func} {c : Code} {args : Array Value} {R : Ending → World → Prop}
    (hf : P.funcs[f]? = some fn) (hb : fn.body = some c)
    (h : WpN P c (bodyPost P fn R) { tmps := args ++ Array.replicate (fn.ntmps - args.size) undef, defers := [] } w) : Calls P f args w R := by
  intro cs
  let b : Frame := { (default : Frame) with fn := f, kind := .normal }
  have henter : Frame.enter P f args .normal = b.at { tmps := args ++ Array.replicate (fn.ntmps - args.size) undef, defers := [] } [.code c] := by
    simp [Frame.enter, Frame.at, hf, hb, b]
  obtain ⟨e, a', w', hq, harr⟩ := h b [] cs rfl
  rw [← henter] at harr
  cases e with
  | normal =>
    obtain ⟨hd, v, hr, hR⟩ := hq
    exact ⟨.returned v, w', _, hR, Steps.trans harr (.one step_end), rfl, rfl, hd, rfl, fn, hf, hr⟩
  | ret =>
    obtain ⟨hd, v, hr, hR⟩ := hq
    obtain ⟨todo, hs⟩ := harr
    exact ⟨.returned v, w', _, hR, hs, rfl, rfl, hd, rfl, fn, hf, hr⟩
  | panic chain =>
    obtain ⟨hd, hR⟩ := hq
    obtain ⟨todo, hs⟩ := harr
    exact ⟨.panicked chain, w', _, hR, hs, rfl, rfl, hd, fn, hf⟩
  | exit id => exact hq.elim
  | goto l => exact hq.elim
  | outgrown => exact ⟨.outgrown, w', b, hq, harr.resolve_left (by simp [b]), rfl, trivial⟩

/-- A region that opens with a select: one step of the machine, then the rest of the region. -/
theorem wpN_sel {id : Nat} {o : Oper} {l : List Oper} {cases : Array CommCase} {v : Value} {w' : World}
    (hw : Region.wanted o (yielded (o :: l).toArray a.tmps) = true)
    (hr : (execOp a.eval o).run P w = .ok (.comm cases false .select) w)
    (hs : ∀ fr cs es, stepG P true (G fr cs) w = .comm (G fr cs) cases false .select w es → step P (solo (G fr cs) w) = .next (solo (G (fr.finish v) cs) w'))
    (h : wpList P (o :: l).toArray Q l (a.put o.dst v) w') : WpN P (Code.region id (o :: l).toArray false) Q a w := by
  intro b k cs hb
  have h0 : ((o :: l).toArray)[0]? = some o := by simp
  have hg := stepG_comm (P := P) (main := true) (b := b) (k := k) (cs := cs) (rest := List.range' 1 l.length) h0 hw (by rw [hb]; simp) hr
  have hstep := hs _ _ _ hg
  rw [Frame.finish_at, h0] at hstep
  have hl := wpOps_eq_wpList (P := P) (ops := (o :: l).toArray) (Q := Q) l 1 (fun j => by simp [Nat.add_comm 1 j])
  have h' : wpOps P (o :: l).toArray Q (List.range' 1 l.length) (a.put o.dst v) w' := by rw [hl]; exact h
  obtain ⟨e, a', w'', hq, harr⟩ := wp_ops _ _ _ h' b k cs
  refine ⟨e, a', w'', hq, .of_steps (.head step_region (.one ?_)) harr⟩
  have hrange : List.range (o :: l).toArray.size = 0 :: List.range' 1 l.length := by
    rw [List.range_eq_range']; simp [List.range'_succ]
  rw [hrange]
  exact hstep

/-- A send with room. -/
theorem wpN_send_room {id : Nat} {o : Oper} {l : List Oper} {c cap s r : Nat} {buf : Array Value} {v z : Value} {tm : Bool}
    (hw : Region.wanted o (yielded (o :: l).toArray a.tmps) = true)
    (hr : (execOp a.eval o).run P w = .ok (.comm #[scase c v z] false .select) w)
    (hc : w.heap[c]? = some (.chan cap buf false s r tm)) (hroom : buf.size < cap)
    (h : wpList P (o :: l).toArray Q l (a.put o.dst (.tuple #[goInt 0, .bool false])) (w.setChan c cap (buf.push v) false (s + 1) r tm)) :
    WpN P (Code.region id (o :: l).toArray false) Q a w :=
  wpN_sel hw hr (fun _ _ _ hg => step_lone_select_send_room hg hc hroom) h
/-- A send without room. -/
theorem wpN_send_full {id : Nat} {o : Oper} {l : List Oper} {c cap s r : Nat} {buf : Array Value} {v z : Value} {tm : Bool}
    (hw : Region.wanted o (yielded (o :: l).toArray a.tmps) = true)
    (hr : (execOp a.eval o).run P w = .ok (.comm #[scase c v z] false .select) w)
    (hc : w.heap[c]? = some (.chan cap buf false s r tm)) (hfull : cap ≤ buf.size)
    (h : wpList P (o :: l).toArray Q l (a.put o.dst (.tuple #[goInt (-1), .bool false])) w) :
    WpN P (Code.region id (o :: l).toArray false) Q a w :=
  wpN_sel hw hr (fun _ _ _ hg => step_lone_select_send_full hg hc hfull) h
/-- A receive of what lies there. -/
theorem wpN_recv_buf {id : Nat} {o : Oper} {l : List Oper} {c cap s r : Nat} {buf : Array Value} {z : Value} {tm closed : Bool}
    (hw : Region.wanted o (yielded (o :: l).toArray a.tmps) = true)
    (hr : (execOp a.eval o).run P w = .ok (.comm #[rcase c z] false .select) w)
    (hc : w.heap[c]? = some (.chan cap buf closed s r tm)) (hsome : 0 < buf.size)
    (h : wpList P (o :: l).toArray Q l (a.put o.dst (.tuple #[goInt 0, .bool true, buf.getD 0 undef])) (w.setChan c cap (buf.extract 1 buf.size) closed s (r + 1) tm)) :
    WpN P (Code.region id (o :: l).toArray false) Q a w :=
  wpN_sel hw hr (fun _ _ _ hg => step_lone_select_recv_buf hg hc hsome) h
/-- A receive where nothing lies. -/
theorem wpN_recv_none {id : Nat} {o : Oper} {l : List Oper} {c cap s r : Nat} {z : Value} {tm : Bool}
    (hw : Region.wanted o (yielded (o :: l).toArray a.tmps) = true)
    (hr : (execOp a.eval o).run P w = .ok (.comm #[rcase c z] false .select) w)
    (hc : w.heap[c]? = some (.chan cap #[] false s r tm))
    (h : wpList P (o :: l).toArray Q l (a.put o.dst (.tuple #[goInt (-1), .bool false, z])) w) :
    WpN P (Code.region id (o :: l).toArray false) Q a w :=
  wpN_sel hw hr (fun _ _ _ hg => step_lone_select_default hg hc) h
end
end Go.Proofs.YtlaihgdfedalmaaGreat

/-
  The document's Merge: entries by their labels, with others.
-/
namespace Go.Proofs.YtlaihgdfedalmaaGreat
open Go.RowKit
set_option linter.unusedVariables false
set_option linter.unusedSimpArgs false

end Go.Proofs.YtlaihgdfedalmaaGreat

/-
  The labels of entries: content's and the document's.
-/
namespace Go.Proofs.YtlaihgdfedalmaaGreat
open Go.RowKit
set_option linter.unusedVariables false
set_option linter.unusedSimpArgs false

theorem infoL : (Tryz.prog.info? 39).map (fun i => (i.zero, i.size, i.bytes)) = some (some (.agg #[.int .u64 0, .int .i64 0, .int .u64 0, .int .i64 0]), 4, 32) := by kernel_rfl
theorem und28 : Tryz.prog.underlying 43 = some (.slice 39) := by kernel_rfl
/-- append of one label. -/
theorem wpList_append_lab {w : World} {ops : Array Oper} {rest : List Oper} {o : Oper} {a : Act} {Q : Exit → Act → World → Prop} (hgd : o.guard = none) (s x : Operand)
    (ho : o.op = .call { callee := .builtin .append, args := #[s, x], argTypes := #[43, 43] }) (B : Nat) (v : Value) (n : Nat) (ls : List Lb) (hs : a.eval s = v) (hown : w.ownsRow B 39 4 v n (flat ls)) (y : Lb)
    (g : Nat) (hg : w.heap.size = g) (hx : a.eval x = .slice (some ⟨g, 0, none⟩) 1 1) (hlen : n ≤ 1000000) (hB : B ≤ w.heap.size)
    (h : ∀ v' w', w'.ownsRow B 39 4 v' (n + 1) (flat (ls ++ [y])) → w.grownBy w' v.ownBlock → wpList Tryz.prog ops Q rest (a.put o.dst v') w') :
    wpList Tryz.prog ops Q (o :: rest) a (w.alloc (.cells #[.int .u64 (y.1 : Nat), .int .i64 y.2.1, .int .u64 (y.2.2.1 : Nat), .int .i64 y.2.2.2] 39)) := by
  subst hg
  have hal := bl1 w (.cells #[.int .u64 (y.1 : Nat), .int .i64 y.2.1, .int .u64 (y.2.2.1 : Nat), .int .i64 y.2.2.2] 39)
  have hga : w.grownBy (w.alloc (.cells #[.int .u64 (y.1 : Nat), .int .i64 y.2.1, .int .u64 (y.2.2.1 : Nat), .int .i64 y.2.2.2] 39)) none := ⟨hal.os, hal.tape, hal.output, hal.size, fun i hi _ => hal.block i hi⟩
  have hown2 := hown.kept (row := none) hga (by cases v.ownBlock with | none => exact Or.inl rfl | some k => exact Or.inr (by simp))
  obtain ⟨i0, hi0, hz0, hz1, hz2⟩ := info_parts infoL
  refine wpList_append_own_at _ hgd s x 43 ho B 39 i0 (.agg #[.int .u64 0, .int .i64 0, .int .u64 0, .int .i64 0]) 4 32 und28 hi0 hz0 hz1 hz2 rfl (by decide) v n (flat ls) hs hown2 ⟨w.heap.size, 0, none⟩ 1 1 (cellsL y) hx (by simp [cellsL]) (fun j u hj => ?_) (fun u hu => ?_) (by unfold maxLen; omega) (by omega) (Nat.le_trans hB hal.size) (fun v' w' a b _ d => h v' w' ?_ ?_)
  · rw [Addr.add_lit, Nat.zero_add]
    exact cell_box w _ 39 j u (by simpa [cellsL] using hj)
  · simp [cellsL] at hu
    rcases hu with rfl | rfl | rfl | rfl <;> rfl
  · rw [flat_app, show flat [y] = cellsL y by simp [flat]]
    exact a
  · exact ⟨b.os.trans hga.os, b.tape.trans hga.tape, b.output.trans hga.output, Nat.le_trans hga.size b.size, fun i hi hne => (b.block i (Nat.lt_of_lt_of_le hi hga.size) hne).trans (hga.block i hi (by simp))⟩
theorem make28 (n : Nat) (hc : n ≤ 1000000) (w : World) : ∃ cur, (Instr.makeSlice 43 (.int .i64 0) (.int .i64 (n : Int))).run Tryz.prog w = .ok (.slice (some ⟨w.heap.size, 0, none⟩) 0 n) (w.alloc (.cells cur 39)) ∧ cur.size = n * 4 := by
  obtain ⟨i0, hi, hz0, hz1, hz2⟩ := info_parts infoL
  have h := run_make (P := Tryz.prog) w 43 39 i0 _ und28 hi hz0 .i64 .i64 0 (n : Int) (by omega) (by omega) (by rw [hz2]; omega) (by omega)
  rw [show ((n : Int)).toNat = n by omega] at h
  exact ⟨_, h, by rw [size_madeCells, hz1]⟩
theorem own_shape {w : World} {B n s : Nat} {t : TypeId} {v : Value} {xs : List Value} (h : w.ownsRow B t s v n xs) : ∃ ao cap, v = .slice ao n cap := by
  rcases id h.2 with ⟨rfl, h0⟩ | ⟨g, cap, cur, rfl, _⟩
  · exact ⟨none, 0, by rw [h0]⟩
  · exact ⟨_, _, rfl⟩

set_option maxRecDepth 10000 in
set_option maxHeartbeats 2000000 in
theorem labels_any (p : Nat → Prop) (w : World) (ao : Option Addr) (n cap : Nat) (es : List En) (h : ER p w ao n es) (hn : n ≤ 1000000) :
    Calls Tryz.prog 139 #[.slice ao n cap] w fun e w' => ∃ v, e = .returned v ∧ w'.ownsRow w.heap.size 39 4 v n (flat (es.map (·.1))) ∧ Below w.heap.size w w' := by
  have hl := h.1
  obtain ⟨cur, hmk, hcur⟩ := make28 n hn w
  have ho0 : (w.alloc (.cells cur 39)).ownsRow w.heap.size 39 4 (.slice (some ⟨w.heap.size, 0, none⟩) 0 n) 0 [] := World.ownsRow_made w cur n (Nat.le_refl _) (by unfold maxLen; omega) hcur
  have hb0 := bl1 w (.cells cur 39)
  go_enter Tryz.func139, Tryz.ntmps139
  go_wp2_with fail
  go_loopw [3, 5, 11] (fun ov bv iv wr => ∃ (k : Nat) (oo : Option Addr) (oc : Nat), k ≤ n ∧ iv = .int .i64 k ∧ ov = .slice oo k oc ∧ (∃ u, bv = u) ∧ wr.ownsRow w.heap.size 39 4 (.slice oo k oc) k (flat ((es.take k).map (·.1))) ∧ Below w.heap.size w wr) (fun _ _ iv _ => n - (intOf iv).toNat)
  case atStart => exact ⟨0, _, _, by omega, rfl, rfl, ⟨_, rfl⟩, by simpa [flat] using ho0, hb0⟩
  case round =>
    clear ho0 hb0 hmk hcur
    obtain ⟨k, oo, oc, hk, rfl, rfl, ⟨bv, hbv⟩, hown, hb⟩ := hrel
    replace hbv := hbv.symm
    subst hbv
    by_cases hlt : k < n
    · have hltI : (k : Int) < (n : Int) := by omega
      have hk0 : ¬ ((k : Int) < 0) := by omega
      obtain ⟨e, he⟩ : ∃ z, es[k]? = some z := ⟨es[k]'(by omega), List.getElem?_eq_getElem (by omega)⟩
      obtain ⟨b, off, hao, _, hc⟩ := h.2.2 (by omega)
      obtain ⟨so, sn, sc, c0, c1, c2, c3, c4, _, _⟩ := hc k e he
      have HT : Hid ((es.take (k + 1)).map (·.1) = (es.take k).map (·.1) ++ [e.1]) := by show _ = _; rw [List.take_add_one, he]; simp
      have d0 := (hb.cell (World.block_lt_of_cell? w _ c0)).trans c0
      have d1 := (hb.cell (World.block_lt_of_cell? w _ c1)).trans c1
      have d2 := (hb.cell (World.block_lt_of_cell? w _ c2)).trans c2
      have d3 := (hb.cell (World.block_lt_of_cell? w _ c3)).trans c3
      have d4 := (hb.cell (World.block_lt_of_cell? w _ c4)).trans c4
      obtain ⟨y, em⟩ := e
      simp only at d0 d1 d2 d3 d4 HT
      subst hao
      have hs := hb.size
      have hba := bl1 wr (.cells #[.int .u64 (y.1 : Nat), .int .i64 y.2.1, .int .u64 (y.2.2.1 : Nat), .int .i64 y.2.2.2, .slice so sn sc] 41)
      obtain ⟨x0, x1, x2, x3, x4⟩ := ex_new wr y (.slice so sn sc) 41
      have hga : wr.grownBy (wr.alloc (.cells #[.int .u64 (y.1 : Nat), .int .i64 y.2.1, .int .u64 (y.2.2.1 : Nat), .int .i64 y.2.2.2, .slice so sn sc] 41)) none := ⟨hba.os, hba.tape, hba.output, hba.size, fun i hi _ => hba.block i hi⟩
      have howa := hown.kept (row := none) hga (by cases (Value.slice oo k oc).ownBlock with | none => exact Or.inl rfl | some k => exact Or.inr (by simp))
      have hbw : Below w.heap.size w (wr.alloc (.cells #[.int .u64 (y.1 : Nat), .int .i64 y.2.1, .int .u64 (y.2.2.1 : Nat), .int .i64 y.2.2.2, .slice so sn sc] 41)) := hb.trans (hba.mono hs)
      have HOL : Hid (∀ r, (Value.slice oo k oc).ownBlock = some r → w.heap.size ≤ r) := fun r hr => (hown.lt r hr).1
      obtain ⟨lk, hlk⟩ : ∃ l, (es.take k).map (·.1) = l := ⟨_, rfl⟩
      rw [hlk] at howa HT
      have HW : Hid ((wr.alloc (.cells #[.int .u64 (y.1 : Nat), .int .i64 y.2.1, .int .u64 (y.2.2.1 : Nat), .int .i64 y.2.2.2, .slice so sn sc] 41)).ownsRow w.heap.size 39 4 (.slice oo k oc) k (flat lk) ∧ Below w.heap.size w (wr.alloc (.cells #[.int .u64 (y.1 : Nat), .int .i64 y.2.1, .int .u64 (y.2.2.1 : Nat), .int .i64 y.2.2.2, .slice so sn sc] 41))) := ⟨howa, hbw⟩
      clear hc he c0 c1 c2 c3 c4 hown hga howa hbw hba hlk
      go_wp2_with (first | (refine wpList_load_E rfl (.tmp 13) rfl b (off + k * 5) rfl y (.slice so sn sc) d0 d1 d2 d3 d4 ?_) | (at_builtin; refine wpList_append_lab rfl (.tmp 15) (.tmp 18) rfl w.heap.size _ k lk rfl ?d1 y (wr.heap.size + 1) ?d2 rfl ?d3 ?d4 ?_))
      case d1 => exact HW.out.1
      case d3 => omega
      case d4 => omega
      intro v2 w2 hown2 hg2
      have hb2 := bl_grown HW.out.2 HW.out.2.size hg2 HOL.out
      obtain ⟨o2, q2, rfl⟩ := own_shape hown2
      clear d0 d1 d2 d3 d4 hg2 HOL HW x0 x1 x2 x3 x4
      go_wp2
      go_roundw
      case rel => first | exact ⟨k + 1, o2, q2, by omega, by go_num, rfl, ⟨_, rfl⟩, by rw [HT.out]; exact hown2, hb2⟩ | ((repeat apply Exists.intro); exact ⟨⟨k + 1, o2, q2, by omega, by go_num, rfl, ⟨_, rfl⟩, by rw [HT.out]; exact hown2, hb2⟩, rfl⟩)
      case measure => simp [intOf]; omega
    · obtain rfl : n = k := by omega
      have hltI : ¬ ((n : Int) < (n : Int)) := by omega
      have HE : Hid (wr.ownsRow w.heap.size 39 4 (.slice oo n oc) n (flat (es.map (·.1)))) := by
        show wr.ownsRow _ _ _ _ _ _
        rw [List.take_of_length_le (by omega)] at hown
        exact hown
      clear hown
      go_wp2
      go_ret
      exact ⟨_, rfl, HE.out, hb⟩
end Go.Proofs.YtlaihgdfedalmaaGreat

/-
  What nodes told, in memory; what comes of it, in plain data.
-/
namespace Go.Proofs.YtlaihgdfedalmaaGreat
open Go.RowKit
set_option linter.unusedVariables false
set_option linter.unusedSimpArgs false

/-- A node, and what it told. -/
structure Pt where
  node : Int
  es : List En
  ls : List Lb
  nx : Int
  hn : Nat
  hp : Int
/-- A summary's five cells, in blocks of p. -/
def SC (p : Nat → Prop) (w : World) (b off : Nat) (t : Pt) (ca : Option Addr) (cc : Nat) (oa : Option Addr) (oc : Nat) : Prop :=
  (w.cell? ⟨b, off, none⟩ = some (.slice ca t.es.length cc) ∧ w.cell? ⟨b, off + 1, none⟩ = some (.slice oa t.ls.length oc) ∧ w.cell? ⟨b, off + 2, none⟩ = some (.int .i64 t.nx) ∧ w.cell? ⟨b, off + 3, none⟩ = some (.int .u64 (t.hn : Nat)) ∧ w.cell? ⟨b, off + 4, none⟩ = some (.int .i64 t.hp)) ∧
  ER p w ca t.es.length t.es ∧ LR w oa t.ls.length t.ls ∧ (∀ a, oa = some a → 0 < t.ls.length → p a.block) ∧ (ca = none → t.es.length = 0 ∧ cc = 0) ∧ (oa = none → t.ls.length = 0 ∧ oc = 0)
/-- Summaries in memory, in blocks of p. -/
def SL (p : Nat → Prop) (w : World) (ao : Option Addr) (n : Nat) (ts : List Pt) : Prop :=
  ts.length = n ∧ n ≤ 9223372036854775807 ∧ (0 < n → ∃ b off, ao = some ⟨b, off, none⟩ ∧ p b ∧ ∀ j t, ts[j]? = some t → ∃ ca cc oa oc, SC p w b (off + j * 5) t ca cc oa oc)
/-- Nodes and what they told in memory, in blocks of p. -/
def TL (p : Nat → Prop) (w : World) (ao : Option Addr) (n : Nat) (ts : List Pt) : Prop :=
  ts.length = n ∧ n ≤ 9223372036854775807 ∧ (0 < n → ∃ b off, ao = some ⟨b, off, none⟩ ∧ p b ∧ ∀ j t, ts[j]? = some t → w.cell? ⟨b, off + j * 6, none⟩ = some (.int .i64 t.node) ∧ ∃ ca cc oa oc, SC p w b (off + j * 6 + 1) t ca cc oa oc)
theorem LR.kp {p : Nat → Prop} {w w' : World} {ao : Option Addr} {n : Nat} {ls : List Lb} (h : LR w ao n ls) (hp : ∀ a, ao = some a → 0 < n → p a.block) (k : Kp p w w') : LR w' ao n ls := by
  by_cases h0 : n = 0
  · exact ⟨h.1, h.2.1, fun hn => by omega⟩
  · refine h.of_cells (fun ad v hb hv => k ad v ?_ hv)
    obtain ⟨b, off, e, _⟩ := h.2.2 (by omega)
    rw [e] at hb hp
    simp at hb
    rw [← hb]
    exact hp _ rfl (by omega)
theorem SC.kp {p : Nat → Prop} {w w' : World} {b off : Nat} {t : Pt} {ca : Option Addr} {cc : Nat} {oa : Option Addr} {oc : Nat} (h : SC p w b off t ca cc oa oc) (hb : p b) (k : Kp p w w') : SC p w' b off t ca cc oa oc := by
  obtain ⟨⟨h0, h1, h2, h3, h4⟩, h5, h6, h7, h8, h9⟩ := h
  exact ⟨⟨k _ _ hb h0, k _ _ hb h1, k _ _ hb h2, k _ _ hb h3, k _ _ hb h4⟩, h5.kp k, h6.kp h7 k, h7, h8, h9⟩
theorem SL.kp {p : Nat → Prop} {w w' : World} {ao : Option Addr} {n : Nat} {ts : List Pt} (h : SL p w ao n ts) (k : Kp p w w') : SL p w' ao n ts := by
  refine ⟨h.1, h.2.1, fun hn => ?_⟩
  obtain ⟨b, off, e, hp, hc⟩ := h.2.2 hn
  refine ⟨b, off, e, hp, fun j t hj => ?_⟩
  obtain ⟨ca, cc, oa, oc, hs⟩ := hc j t hj
  exact ⟨ca, cc, oa, oc, hs.kp hp k⟩
theorem TL.kp {p : Nat → Prop} {w w' : World} {ao : Option Addr} {n : Nat} {ts : List Pt} (h : TL p w ao n ts) (k : Kp p w w') : TL p w' ao n ts := by
  refine ⟨h.1, h.2.1, fun hn => ?_⟩
  obtain ⟨b, off, e, hp, hc⟩ := h.2.2 hn
  refine ⟨b, off, e, hp, fun j t hj => ?_⟩
  obtain ⟨h0, ca, cc, oa, oc, hs⟩ := hc j t hj
  exact ⟨k _ _ hp h0, ca, cc, oa, oc, hs.kp hp k⟩
theorem SL.bl {p : Nat → Prop} {w w' : World} {ao : Option Addr} {n : Nat} {ts : List Pt} (h : SL p w ao n ts) (u : Below w.heap.size w w') : SL p w' ao n ts := h.kp (Kp.bl u)
theorem TL.bl {p : Nat → Prop} {w w' : World} {ao : Option Addr} {n : Nat} {ts : List Pt} (h : TL p w ao n ts) (u : Below w.heap.size w w') : TL p w' ao n ts := h.kp (Kp.bl u)

/-- The greatest number of a primary view. -/
def gtV (a b : Nat × Int) : Bool := decide (0 < cmpV a.1 a.2 b.1 b.2)
def highF (v : Nat × Int) (t : Pt) : Nat × Int := if gtV (t.hn, t.hp) v then (t.hn, t.hp) else v
def highT (ts : List Pt) : Nat × Int := ts.foldl highF (0, 0)
/-- Who is chosen. -/
def chF (h : Nat × Int) (c : Int) (t : Pt) : Int := if (decide (t.hn = h.1) && decide (t.hp = h.2)) then (if c < t.node then t.node else c) else c
def chT (ts : List Pt) : Int := ts.foldl (chF (highT ts)) (-1)
def nxF (n : Int) (t : Pt) : Int := if n < t.nx then t.nx else n
def nxT (ts : List Pt) : Int := ts.foldl nxF 1
theorem foldl_take {α β : Type} (f : β → α → β) (b : β) (l : List α) (k : Nat) (x : α) (h : l[k]? = some x) : (l.take (k + 1)).foldl f b = f ((l.take k).foldl f b) x := by
  rw [List.take_add_one, h]
  simp
theorem und65s : (Tryz.prog.underlying 120).any (·.isRow) = true := by kernel_rfl
theorem info65 : (Tryz.prog.info? 120).map (·.size) = some 6 := by kernel_rfl
/-- A node and what it told is read. -/
theorem wpList_load_T {ops : Array Oper} {rest : List Oper} {o : Oper} {a : Act} {w : World} {Q : Exit → Act → World → Prop} (hgd : o.guard = none) (x : Operand) (ho : o.op = .load 120 x) (b of : Nat) (hx : a.eval x = .pointer (some ⟨b, of, none⟩))
    (v0 v1 v2 v3 v4 v5 : Value) (h0 : w.cell? ⟨b, of, none⟩ = some v0) (h1 : w.cell? ⟨b, of + 1, none⟩ = some v1) (h2 : w.cell? ⟨b, of + 1 + 1, none⟩ = some v2) (h3 : w.cell? ⟨b, of + 1 + 2, none⟩ = some v3) (h4 : w.cell? ⟨b, of + 1 + 3, none⟩ = some v4) (h5 : w.cell? ⟨b, of + 1 + 4, none⟩ = some v5)
    (h : wpList Tryz.prog ops Q rest (a.put o.dst (.agg #[v0, v1, v2, v3, v4, v5])) w) : wpList Tryz.prog ops Q (o :: rest) a w := by
  obtain ⟨d, hd, hr⟩ := (Option.any_eq_true _ _).1 und65s
  refine wpList_load_mid hgd 120 x ho b of hx [v0, v1, v2, v3, v4, v5] d (fun j u hj => ?_) hd hr info65 h
  match j, hj with
  | 0, hj => simp at hj; subst hj; simpa using h0
  | 1, hj => simp at hj; subst hj; exact h1
  | 2, hj => simp at hj; subst hj; exact h2
  | 3, hj => simp at hj; subst hj; exact h3
  | 4, hj => simp at hj; subst hj; exact h4
  | 5, hj => simp at hj; subst hj; exact h5
  | n + 6, hj => simp at hj
/-- A view's number in a box. -/
def VB (g : Nat) (v : Nat × Int) (w : World) : Prop := w.heap[g]? = some (.cells #[.int .u64 (v.1 : Nat), .int .i64 v.2] 33 (0, 0))
theorem VB.lt {g : Nat} {v : Nat × Int} {w : World} (h : VB g v w) : g < w.heap.size := (Array.getElem?_eq_some_iff.1 h).1
theorem VB.bl {g : Nat} {v : Nat × Int} {w w' : World} (h : VB g v w) (u : Below w.heap.size w w') : VB g v w' := by
  unfold VB at *
  rw [u.block g (Array.getElem?_eq_some_iff.1 h).1]
  exact h
theorem VB.at {g : Nat} {v : Nat × Int} {w : World} (h : VB g v w) : w.cell? ⟨g, 0, none⟩ = some (.int .u64 (v.1 : Nat)) ∧ w.cell? ⟨g, 1, none⟩ = some (.int .i64 v.2) := by
  unfold VB at h
  unfold World.cell?
  simp [h]
theorem VB.set {g : Nat} {v : Nat × Int} {w : World} (h : VB g v w) (z : Nat × Int) : VB g z (w.setRow g #[.int .u64 (z.1 : Nat), .int .i64 z.2]) := setRow_heap _ _ _ _ _ _ h
theorem VB.other {g k : Nat} {v : Nat × Int} {w : World} (h : VB g v w) (cs : Array Value) (hk : g ≠ k) : VB g v (w.setRow k cs) := by
  unfold VB at *
  rw [setRow_other _ _ _ _ hk]
  exact h
theorem info32 : (Tryz.prog.info? 33).map (·.size) = some 2 := by kernel_rfl
end Go.Proofs.YtlaihgdfedalmaaGreat

/-
  The document's Same: are two lists of entries one?
-/
namespace Go.Proofs.YtlaihgdfedalmaaGreat
open Go.RowKit
set_option linter.unusedVariables false

/-- What a round of Same reads: two entries, and what their messages say. -/
def S2 (b o : Nat) (x : Lb) (so : Option Addr) (sn sc : Nat) (m : List UInt8) (b' o' : Nat) (y : Lb) (to : Option Addr) (tn tc : Nat) (k : List UInt8) (w : World) : Prop :=
  w.cell? ⟨b, o, none⟩ = some (.int .u64 (x.1 : Nat)) ∧ w.cell? ⟨b, o + 1, none⟩ = some (.int .i64 x.2.1) ∧ w.cell? ⟨b, o + 2, none⟩ = some (.int .u64 (x.2.2.1 : Nat)) ∧ w.cell? ⟨b, o + 3, none⟩ = some (.int .i64 x.2.2.2) ∧ w.cell? ⟨b, o + 4, none⟩ = some (.slice so sn sc) ∧ (convert 37 9 (.slice so sn sc)).run Tryz.prog w = .ok (.string (Cd.str m)) w ∧
  w.cell? ⟨b', o', none⟩ = some (.int .u64 (y.1 : Nat)) ∧ w.cell? ⟨b', o' + 1, none⟩ = some (.int .i64 y.2.1) ∧ w.cell? ⟨b', o' + 2, none⟩ = some (.int .u64 (y.2.2.1 : Nat)) ∧ w.cell? ⟨b', o' + 3, none⟩ = some (.int .i64 y.2.2.2) ∧ w.cell? ⟨b', o' + 4, none⟩ = some (.slice to tn tc) ∧ (convert 37 9 (.slice to tn tc)).run Tryz.prog w = .ok (.string (Cd.str k)) w

set_option maxRecDepth 10000 in
set_option maxHeartbeats 1000000 in
theorem sameE_any (p q : Nat → Prop) (w : World) (ao : Option Addr) (n cap : Nat) (es : List (Lb × List UInt8)) (h : ER p w ao n es) (bo : Option Addr) (m cbp : Nat) (fs : List (Lb × List UInt8)) (g : ER q w bo m fs) :
    Calls Tryz.prog 80 #[.slice ao n cap, .slice bo m cbp] w fun e w' => e = .returned (.bool (decide (es = fs))) ∧ Up w w' := by
  have hl := h.1
  have hmax := h.2.1
  have hm := g.1
  generalize hdd : decide (es = fs) = r
  have HD : Hid (decide (es = fs) = r) := hdd
  clear hdd
  by_cases hnm : n = m
  · subst hnm
    go_enter Tryz.func80, Tryz.ntmps80
    go_wp2_with fail
    go_loopw [5] (fun iv wr => ∃ k : Nat, k ≤ n ∧ iv = .int .i64 k ∧ es.take k = fs.take k ∧ ER p wr ao n es ∧ ER q wr bo n fs ∧ Up w wr) (fun iv _ => n - (intOf iv).toNat)
    case atStart => exact ⟨0, by omega, rfl, by simp, h, g, Up.refl _⟩
    case round =>
      obtain ⟨k, hk, rfl, hno, hr, hs, hu⟩ := hrel
      have HNO : Hid (es.take k = fs.take k) := hno
      clear hno h g
      by_cases hlt : k < n
      · have hltI : (k : Int) < (n : Int) := by omega
        obtain ⟨x, hx⟩ : ∃ y, es[k]? = some y := ⟨es[k]'(by omega), List.getElem?_eq_getElem (by omega)⟩
        obtain ⟨y, hy⟩ : ∃ y, fs[k]? = some y := ⟨fs[k]'(by omega), List.getElem?_eq_getElem (by omega)⟩
        have HX : Hid (es[k]? = some x) := hx
        have HY : Hid (fs[k]? = some y) := hy
        obtain ⟨b, off, hao, _, hc⟩ := hr.2.2 (by omega)
        obtain ⟨so, sn, sc, c0, c1, c2, c3, c4, hcr, _⟩ := hc k x hx
        obtain ⟨b', off', hbo, _, hd⟩ := hs.2.2 (by omega)
        obtain ⟨to, tn, tc, d0, d1, d2, d3, d4, hdr, _⟩ := hd k y hy
        have HS : Hid (∀ W : World, Below wr.heap.size wr W → S2 b (off + k * 5) x.1 so sn sc x.2 b' (off' + k * 5) y.1 to tn tc y.2 W) := fun W u => ⟨bl_cell u c0, bl_cell u c1, bl_cell u c2, bl_cell u c3, bl_cell u c4, Cd.conv_row (hcr.below u (Nat.le_refl _)), bl_cell u d0, bl_cell u d1, bl_cell u d2, bl_cell u d3, bl_cell u d4, Cd.conv_row (hdr.below u (Nat.le_refl _))⟩
        have s0 := HS.out wr.drew ((Below.refl _ _).drew)
        have heq := fun W => lab_equal x.1 y.1 W
        have hbe := Cd.str_beq x.2 y.2
        have HR := hr
        have HSS := hs
        subst hao
        subst hbo
        clear hc hd hx hy hr hs hcr hdr c0 c1 c2 c3 c4 d0 d1 d2 d3 d4
        have hk0 : ¬ ((k : Int) < 0) := by omega
        obtain ⟨x, xm⟩ := x
        obtain ⟨y, ym⟩ := y
        simp only at heq hbe s0 HS
        unfold S2 at s0
        cases he : decide (x = y) with
        | false =>
          rw [he] at heq
          have hrt : Hid (false = r) := by
            show false = r
            rw [← HD.out]
            have hne : x ≠ y := by simpa using he
            symm
            simp only [decide_eq_false_iff_not]
            intro e
            subst e
            have := HX.out.symm.trans HY.out
            simp at this
            exact hne this.1
          clear he HNO hbe
          go_wp2_with fail
          refine wp_region_noPanic ?_
          refine wp_region_held_drew (S := S2 b (off + k * 5) x so sn sc xm b' (off' + k * 5) y to tn tc ym) (by kernel_rfl) s0 (fun hHeld => ?_)
          unfold S2 at hHeld
          refine tq 0 ?_
          refine tq 1 ?_
          refine tq 2 ?_
          refine tq 3 ?_
          refine tq 4 ?_
          refine tq 5 ?_
          refine tq 6 ?_
          refine tq 7 ?_
          refine tq 8 ?_
          refine tq 9 ?_
          refine tq 10 ?_
          refine tq 11 ?_
          refine tqS 12 ?_
          refine tqS 13 ?_
          refine tqS 14 ?_
          refine tqS 15 ?_
          refine tqS 16 ?_
          refine tqS 17 ?_
          refine tqS 18 ?_
          refine tqS 19 ?_
          refine tqS 20 ?_
          refine tqS 21 ?_
          refine tqS 22 ?_
          refine tqS 23 ?_
          refine tqS 24 ?_
          refine tq 25 ?_
          refine wpAnyH_done (by kernel_rfl) ?_ _
          refine NoPanic.normal ?_
          go_wp2
          go_ret
          exact ⟨ret_bool hrt.out, hu.drew⟩
        | true =>
          rw [he] at heq
          have exy : x = y := by simpa using he
          cases hm2 : decide (xm = ym) with
          | true =>
            rw [hm2] at hbe
            have hno' : Hid (es.take (k + 1) = fs.take (k + 1)) := by
              have e : xm = ym := by simpa using hm2
              show es.take (k + 1) = fs.take (k + 1)
              rw [List.take_add_one, List.take_add_one, HNO.out, HX.out, HY.out, e, exy]
            clear he HNO hm2 exy
            go_wp2_with fail
            refine wp_region_noPanic ?_
            refine wp_region_held_drew (S := S2 b (off + k * 5) x so sn sc xm b' (off' + k * 5) y to tn tc ym) (by kernel_rfl) s0 (fun hHeld => ?_)
            unfold S2 at hHeld
            refine tq 0 ?_
            refine tq 1 ?_
            refine tq 2 ?_
            refine tq 3 ?_
            refine tq 4 ?_
            refine tq 5 ?_
            refine tq 6 ?_
            refine tq 7 ?_
            refine tq 8 ?_
            refine tq 9 ?_
            refine tq 10 ?_
            refine tq 11 ?_
            refine tq 12 ?_
            refine tq 13 ?_
            refine tq 14 ?_
            refine tq 15 ?_
            refine tq 16 ?_
            refine tq 17 ?_
            refine tq 18 ?_
            refine tq 19 ?_
            refine tq 20 ?_
            refine tq 21 ?_
            refine tq 22 ?_
            refine tq 23 ?_
            refine tq 24 ?_
            refine tq 25 ?_
            refine wpAnyH_done (by kernel_rfl) ?_ _
            refine NoPanic.normal ?_
            go_wp2
            go_roundw
            case rel => first | exact ⟨k + 1, by omega, by go_num, hno'.out, HR.bl ((Below.refl _ _).drew), HSS.bl ((Below.refl _ _).drew), hu.drew⟩ | ((repeat apply Exists.intro); exact ⟨⟨k + 1, by omega, by go_num, hno'.out, HR.bl ((Below.refl _ _).drew), HSS.bl ((Below.refl _ _).drew), hu.drew⟩, rfl⟩)
            case measure => simp [intOf]; omega
          | false =>
            rw [hm2] at hbe
            have hrt : Hid (false = r) := by
              show false = r
              rw [← HD.out]
              have hne : xm ≠ ym := by simpa using hm2
              symm
              simp only [decide_eq_false_iff_not]
              intro e
              subst e
              have := HX.out.symm.trans HY.out
              simp at this
              exact hne this.2
            clear he HNO hm2 exy
            go_wp2_with fail
            refine wp_region_noPanic ?_
            refine wp_region_held_drew (S := S2 b (off + k * 5) x so sn sc xm b' (off' + k * 5) y to tn tc ym) (by kernel_rfl) s0 (fun hHeld => ?_)
            unfold S2 at hHeld
            refine tq 0 ?_
            refine tq 1 ?_
            refine tq 2 ?_
            refine tq 3 ?_
            refine tq 4 ?_
            refine tq 5 ?_
            refine tq 6 ?_
            refine tq 7 ?_
            refine tq 8 ?_
            refine tq 9 ?_
            refine tq 10 ?_
            refine tq 11 ?_
            refine tq 12 ?_
            refine tq 13 ?_
            refine tq 14 ?_
            refine tq 15 ?_
            refine tq 16 ?_
            refine tq 17 ?_
            refine tq 18 ?_
            refine tq 19 ?_
            refine tq 20 ?_
            refine tq 21 ?_
            refine tq 22 ?_
            refine tq 23 ?_
            refine tq 24 ?_
            refine tq 25 ?_
            refine wpAnyH_done (by kernel_rfl) ?_ _
            refine NoPanic.normal ?_
            go_wp2
            go_ret
            exact ⟨ret_bool hrt.out, hu.drew⟩
      · obtain rfl : k = n := by omega
        have hrt : Hid (true = r) := by
          show true = r
          rw [← HD.out]
          symm
          have e := HNO.out
          rw [List.take_of_length_le (by omega), List.take_of_length_le (by omega)] at e
          simpa using e
        clear HNO hr hs
        go_wp2
        go_ret
        exact ⟨ret_bool hrt.out, hu⟩
  · have hrt : Hid (false = r) := by
      show false = r
      rw [← HD.out]
      symm
      simp only [decide_eq_false_iff_not]
      intro e
      subst e
      exact hnm (by omega)
    have hne : ((n : Int) != (m : Int)) = true := by simp; omega
    clear h g hl hm
    go_enter Tryz.func80, Tryz.ntmps80
    go_wp2
    go_ret
    exact ⟨ret_bool hrt.out, Up.refl _⟩
end Go.Proofs.YtlaihgdfedalmaaGreat

/-
  The document's Alike: are two summaries one?
-/
namespace Go.Proofs.YtlaihgdfedalmaaGreat
open Go.RowKit
set_option linter.unusedVariables false

def sumv (c o : Value) (nx : Int) (hn : Nat) (hp : Int) : Value := .agg #[c, o, .int .i64 nx, .int .u64 (hn : Nat), .int .i64 hp]
def Sb (B : Nat) (c o : Value) (nx : Int) (hn : Nat) (hp : Int) (w : World) : Prop :=
  w.cell? ⟨B, 0, none⟩ = some c ∧ w.cell? ⟨B, 1, none⟩ = some o ∧ w.cell? ⟨B, 2, none⟩ = some (.int .i64 nx) ∧ w.cell? ⟨B, 3, none⟩ = some (.int .u64 (hn : Nat)) ∧ w.cell? ⟨B, 4, none⟩ = some (.int .i64 hp)
theorem sb_new (w : World) (c o : Value) (nx : Int) (hn : Nat) (hp : Int) (t : TypeId) : Sb w.heap.size c o nx hn hp (w.alloc (.cells #[c, o, .int .i64 nx, .int .u64 (hn : Nat), .int .i64 hp] t)) :=
  ⟨cell_box w _ t 0 _ rfl, cell_box w _ t 1 _ rfl, cell_box w _ t 2 _ rfl, cell_box w _ t 3 _ rfl, cell_box w _ t 4 _ rfl⟩
theorem Sb.bl {B : Nat} {c o : Value} {nx : Int} {hn : Nat} {hp : Int} {w w' : World} (h : Sb B c o nx hn hp w) (u : Below w.heap.size w w') : Sb B c o nx hn hp w' :=
  ⟨bl_cell u h.1, bl_cell u h.2.1, bl_cell u h.2.2.1, bl_cell u h.2.2.2.1, bl_cell u h.2.2.2.2⟩
theorem vid_equal (n1 : Nat) (p1 : Int) (n2 : Nat) (p2 : Int) (w : World) : Sem.run Tryz.prog (Op.equalIn 10000 33 (.agg #[.int .u64 (n1 : Nat), .int .i64 p1]) (.agg #[.int .u64 (n2 : Nat), .int .i64 p2])) w = .ok (decide (n1 = n2) && decide (p1 = p2)) w := vid_equalIn 9998 n1 p1 n2 p2 w

set_option maxRecDepth 10000 in
set_option maxHeartbeats 1000000 in
theorem alike_any (p q : Nat → Prop) (w : World) (ao : Option Addr) (n ac : Nat) (es : List (Lb × List UInt8)) (h : ER p w ao n es) (bo : Option Addr) (m bc : Nat) (ls : List Lb) (g : LR w bo m ls) (nx : Int) (hn : Nat) (hp : Int)
    (ao' : Option Addr) (n' ac' : Nat) (es' : List (Lb × List UInt8)) (h' : ER q w ao' n' es') (bo' : Option Addr) (m' bc' : Nat) (ls' : List Lb) (g' : LR w bo' m' ls') (nx' : Int) (hn' : Nat) (hp' : Int) :
    Calls Tryz.prog 39 #[sumv (.slice ao n ac) (.slice bo m bc) nx hn hp, sumv (.slice ao' n' ac') (.slice bo' m' bc') nx' hn' hp'] w fun e w' => e = .returned (.bool (decide (es = es') && decide (ls = ls') && decide (nx = nx') && (decide (hn = hn') && decide (hp = hp')))) ∧ Up w w' := by
  unfold sumv
  have up0 : Up w ((w.alloc (.cells #[.slice ao n ac, .slice bo m bc, .int .i64 nx, .int .u64 (hn : Nat), .int .i64 hp] 45)).alloc (.cells #[.slice ao' n' ac', .slice bo' m' bc', .int .i64 nx', .int .u64 (hn' : Nat), .int .i64 hp'] 45)) := ((Up.refl _).alloc _).alloc _
  have c1 := (sb_new w (.slice ao n ac) (.slice bo m bc) nx hn hp 45).bl (bl1 _ (.cells #[.slice ao' n' ac', .slice bo' m' bc', .int .i64 nx', .int .u64 (hn' : Nat), .int .i64 hp'] 45))
  have c2 := sb_new (w.alloc (.cells #[.slice ao n ac, .slice bo m bc, .int .i64 nx, .int .u64 (hn : Nat), .int .i64 hp] 45)) (.slice ao' n' ac') (.slice bo' m' bc') nx' hn' hp' 45
  have hsz : (w.alloc (.cells #[.slice ao n ac, .slice bo m bc, .int .i64 nx, .int .u64 (hn : Nat), .int .i64 hp] 45)).heap.size = w.heap.size + 1 := by simp
  rw [hsz] at c2
  have hs1 := fun W (u : Up w W) => sameE_any p q W ao n ac es (h.bl u.bl) ao' n' ac' es' (h'.bl u.bl)
  have hs2 := fun W (u : Up w W) => same_any W bo m bc ls (g.up u.bl) bo' m' bc' ls' (g'.up u.bl)
  have heq := fun W => vid_equal hn hp hn' hp' W
  have C1 := c1
  have C2 := c2
  clear h h' g g' hsz
  obtain ⟨x0, x1, x2, x3, x4⟩ := c1
  obtain ⟨y0, y1, y2, y3, y4⟩ := c2
  cases he : decide (es = es') with
  | false =>
    rw [he] at hs1
    simp only [Bool.false_and]
    go_enter Tryz.func39, Tryz.ntmps39
    go_wp2_with fail
    refine (hs1 _ up0).mono ?_
    rintro e w1 ⟨rfl, hu⟩
    have up1 := up0.trans hu
    clear hs1 hs2 C1 C2 x0 x1 x2 x3 x4 y0 y1 y2 y3 y4 up0 hu heq
    go_wp2
    go_ret
    exact ⟨rfl, up1⟩
  | true =>
    rw [he] at hs1
    simp only [Bool.true_and]
    cases hl : decide (ls = ls') with
    | false =>
      rw [hl] at hs2
      simp only [Bool.false_and]
      go_enter Tryz.func39, Tryz.ntmps39
      go_wp2_with fail
      refine (hs1 _ up0).mono ?_
      rintro e w1 ⟨rfl, hu⟩
      have up1 := up0.trans hu
      have D1 := C1.bl hu.bl
      have D2 := C2.bl hu.bl
      clear hs1 C1 C2 x0 x1 x2 x3 x4 y0 y1 y2 y3 y4 up0 hu heq
      obtain ⟨x0, x1, x2, x3, x4⟩ := D1
      obtain ⟨y0, y1, y2, y3, y4⟩ := D2
      go_wp2_with fail
      refine (hs2 _ up1).mono ?_
      rintro e w2 ⟨rfl, hu⟩
      have up2 := up1.trans hu
      clear hs2 x0 x1 x2 x3 x4 y0 y1 y2 y3 y4 up1 hu
      go_wp2
      go_ret
      exact ⟨rfl, up2⟩
    | true =>
      rw [hl] at hs2
      simp only [Bool.true_and]
      go_enter Tryz.func39, Tryz.ntmps39
      go_wp2_with fail
      refine (hs1 _ up0).mono ?_
      rintro e w1 ⟨rfl, hu⟩
      have up1 := up0.trans hu
      have D1 := C1.bl hu.bl
      have D2 := C2.bl hu.bl
      clear hs1 C1 C2 x0 x1 x2 x3 x4 y0 y1 y2 y3 y4 up0 hu
      obtain ⟨x0, x1, x2, x3, x4⟩ := id D1
      obtain ⟨y0, y1, y2, y3, y4⟩ := id D2
      go_wp2_with fail
      refine (hs2 _ up1).mono ?_
      rintro e w2 ⟨rfl, hu⟩
      have up2 := up1.trans hu
      have E1 := D1.bl hu.bl
      have E2 := D2.bl hu.bl
      clear hs2 x0 x1 x2 x3 x4 y0 y1 y2 y3 y4 up1 hu D1 D2
      obtain ⟨x0, x1, x2, x3, x4⟩ := E1
      obtain ⟨y0, y1, y2, y3, y4⟩ := E2
      by_cases hx : nx = nx'
      · subst hx
        go_wp2
        go_ret
        exact ⟨ret_bool (by simp), up2⟩
      · go_wp2
        go_ret
        exact ⟨ret_bool (by simp [hx]), up2⟩
end Go.Proofs.YtlaihgdfedalmaaGreat

/-
  exchange's High, Chosen and Next.
-/
namespace Go.Proofs.YtlaihgdfedalmaaGreat
open Go.RowKit
set_option linter.unusedVariables false
set_option linter.unusedSimpArgs false

set_option maxRecDepth 10000 in
theorem above_any (w : World) (a b : Nat × Int) : Calls Tryz.prog 50 #[vid a.1 a.2, vid b.1 b.2] w fun e w' => e = .returned (.bool (gtV a b)) ∧ Up w w' := by
  have c1 := fun W => compare_any W a.1 a.2 b.1 b.2
  have up0 : Up w ((w.alloc (.cells #[.int .u64 (a.1 : Nat), .int .i64 a.2] 33)).alloc (.cells #[.int .u64 (b.1 : Nat), .int .i64 b.2] 33)) := ((Up.refl _).alloc _).alloc _
  have hsz : (w.alloc (.cells #[.int .u64 (a.1 : Nat), .int .i64 a.2] 33)).heap.size = w.heap.size + 1 := by simp
  have x0 := bl_cell (bl1 (w.alloc (.cells #[.int .u64 (a.1 : Nat), .int .i64 a.2] 33)) (.cells #[.int .u64 (b.1 : Nat), .int .i64 b.2] 33)) (cell_box w #[.int .u64 (a.1 : Nat), .int .i64 a.2] 33 0 _ rfl)
  have x1 := bl_cell (bl1 (w.alloc (.cells #[.int .u64 (a.1 : Nat), .int .i64 a.2] 33)) (.cells #[.int .u64 (b.1 : Nat), .int .i64 b.2] 33)) (cell_box w #[.int .u64 (a.1 : Nat), .int .i64 a.2] 33 1 _ rfl)
  have y0 := cell_box (w.alloc (.cells #[.int .u64 (a.1 : Nat), .int .i64 a.2] 33)) #[.int .u64 (b.1 : Nat), .int .i64 b.2] 33 0 _ rfl
  have y1 := cell_box (w.alloc (.cells #[.int .u64 (a.1 : Nat), .int .i64 a.2] 33)) #[.int .u64 (b.1 : Nat), .int .i64 b.2] 33 1 _ rfl
  rw [hsz] at y0 y1
  unfold gtV
  generalize cmpV a.1 a.2 b.1 b.2 = C at *
  obtain ⟨a0, a1⟩ := a
  obtain ⟨b0, b1⟩ := b
  unfold vid at *
  simp only at *
  clear hsz
  go_enter Tryz.func50, Tryz.ntmps50
  go_wp2_with fail
  refine (c1 _).mono ?_
  rintro e w1 ⟨rfl, hb⟩
  have up1 := up0.trans hb
  clear hb c1 up0 x0 x1 y0 y1
  go_wp2
  go_ret
  exact ⟨rfl, up1⟩

set_option maxRecDepth 10000 in
set_option maxHeartbeats 2000000 in
theorem high_any (p : Nat → Prop) (w : World) (ao : Option Addr) (n cap : Nat) (ts : List Pt) (h : TL p w ao n ts) :
    Calls Tryz.prog 132 #[.slice ao n cap] w fun e w' => e = .returned (vid (highT ts).1 (highT ts).2) ∧ Below w.heap.size w w' := by
  have hl := h.1
  have hmax := h.2.1
  have ha := fun W a b => above_any W a b
  have b0 : Below w.heap.size w ((w.alloc (.cells #[.int .u64 0, .int .i64 0] 33)).alloc (.cells #[.int .u64 0, .int .i64 0] 33)) := bl2 _ _ _
  have hsz : (w.alloc (.cells #[.int .u64 0, .int .i64 0] 33)).heap.size = w.heap.size + 1 := by simp
  have v0 : VB w.heap.size (0, 0) ((w.alloc (.cells #[.int .u64 0, .int .i64 0] 33)).alloc (.cells #[.int .u64 0, .int .i64 0] 33)) := (show VB w.heap.size (0, 0) (w.alloc (.cells #[.int .u64 0, .int .i64 0] 33)) from heap_alloc_new _ _).bl (bl1 _ _)
  have v1 : VB (w.heap.size + 1) (0, 0) ((w.alloc (.cells #[.int .u64 0, .int .i64 0] 33)).alloc (.cells #[.int .u64 0, .int .i64 0] 33)) := by
    rw [← hsz]
    exact heap_alloc_new _ _
  unfold vid at *
  go_enter Tryz.func132, Tryz.ntmps132
  go_wp2_with fail
  go_loopw [5, 8] (fun bv iv wr => ∃ (k : Nat), k ≤ n ∧ iv = .int .i64 k ∧ (∃ u, bv = u) ∧ VB w.heap.size (0, 0) wr ∧ VB (w.heap.size + 1) ((ts.take k).foldl highF (0, 0)) wr ∧ Below w.heap.size w wr) (fun _ iv _ => n - (intOf iv).toNat)
  case atStart => exact ⟨0, by omega, rfl, ⟨_, rfl⟩, v0, v1, b0⟩
  case round =>
    clear v0 v1 b0 hsz
    obtain ⟨k, hk, rfl, ⟨bv, hbv⟩, hv0, hv1, hb⟩ := hrel
    replace hbv := hbv.symm
    subst hbv
    by_cases hlt : k < n
    · have hltI : (k : Int) < (n : Int) := by omega
      have hk0 : ¬ ((k : Int) < 0) := by omega
      obtain ⟨t, ht⟩ : ∃ z, ts[k]? = some z := ⟨ts[k]'(by omega), List.getElem?_eq_getElem (by omega)⟩
      have HT : Hid ((ts.take (k + 1)).foldl highF (0, 0) = highF ((ts.take k).foldl highF (0, 0)) t) := foldl_take _ _ _ _ _ ht
      obtain ⟨b, off, hao, _, hc⟩ := h.2.2 (by omega)
      obtain ⟨c0, ca, cc, oa, oc, ⟨c1, c2, c3, c4, c5⟩, _⟩ := hc k t ht
      have kk : ∀ {ad : Addr} {v : Value}, w.cell? ad = some v → wr.cell? ad = some v := fun hv => (hb.cell (World.block_lt_of_cell? w _ hv)).trans hv
      replace c0 := kk c0
      replace c1 := kk c1
      replace c2 := kk c2
      replace c3 := kk c3
      replace c4 := kk c4
      replace c5 := kk c5
      obtain ⟨tn, te, tl, tx, th, tp⟩ := t
      simp only at c0 c1 c2 c3 c4 c5 HT
      subst hao
      generalize (ts.take k).foldl highF (0, 0) = hv at *
      have ba := bl1 wr (.cells #[.int .i64 tn, .slice ca te.length cc, .slice oa tl.length oc, .int .i64 tx, .int .u64 (th : Nat), .int .i64 tp] 120)
      have x4 := cell_box wr #[.int .i64 tn, .slice ca te.length cc, .slice oa tl.length oc, .int .i64 tx, .int .u64 (th : Nat), .int .i64 tp] 120 4 _ rfl
      have x5 := cell_box wr #[.int .i64 tn, .slice ca te.length cc, .slice oa tl.length oc, .int .i64 tx, .int .u64 (th : Nat), .int .i64 tp] 120 5 _ rfl
      obtain ⟨y0, y1⟩ := (hv1.bl ba).at
      have hb2 := bl_step hb ba
      have hv0' := hv0.bl ba
      have hv1' := hv1.bl ba
      obtain ⟨wa, hwa⟩ : ∃ W, Hid (wr.alloc (.cells #[.int .i64 tn, .slice ca te.length cc, .slice oa tl.length oc, .int .i64 tx, .int .u64 (th : Nat), .int .i64 tp] 120) = W) := ⟨_, rfl⟩
      have hca := ha (wr.alloc (.cells #[.int .i64 tn, .slice ca te.length cc, .slice oa tl.length oc, .int .i64 tx, .int .u64 (th : Nat), .int .i64 tp] 120)) (th, tp) hv
      have sz : wr.heap.size < (wr.alloc (.cells #[.int .i64 tn, .slice ca te.length cc, .slice oa tl.length oc, .int .i64 tx, .int .u64 (th : Nat), .int .i64 tp] 120)).heap.size := by simp
      have HX : Hid (∀ W, Below wa.heap.size wa W → W.cell? ⟨wr.heap.size, 4, none⟩ = some (.int .u64 (th : Nat)) ∧ W.cell? ⟨wr.heap.size, 5, none⟩ = some (.int .i64 tp)) := by
        rw [hwa.out] at x4 x5
        exact fun W u => ⟨bl_cell u x4, bl_cell u x5⟩
      clear hc ht kk hv0 hv1 hb ba
      go_wp2_with (refine wpList_load_T rfl (.tmp 10) rfl b (off + k * 6) rfl _ _ _ _ _ _ c0 c1 c2 c3 c4 c5 ?_)
      refine hca.mono ?_
      rw [hwa.out] at hv0' hv1' hb2 sz
      rw [hwa.out]
      rintro e w2 ⟨rfl, u2⟩
      have hv0 := hv0'.bl u2.bl
      have hv1 := hv1'.bl u2.bl
      have hb3 := bl_step hb2 u2.bl
      obtain ⟨z4, z5⟩ := HX.out w2 u2.bl
      clear hca x4 x5 y0 y1 HX hwa c0 c1 c2 c3 c4 c5 hv0' hv1' hb2 u2
      have HT2 : Hid ((ts.take (k + 1)).foldl highF (0, 0) = if gtV (th, tp) hv then (th, tp) else hv) := HT.out
      clear HT
      cases hgt : gtV (th, tp) hv with
      | true =>
        rw [hgt] at HT2
        simp only [if_true] at HT2
        have hv1n := hv1.set (th, tp)
        have hv0n := hv0.other #[.int .u64 (th : Nat), .int .i64 tp] (by omega : w.heap.size ≠ w.heap.size + 1)
        have hbn := bl_row hb3 (g := w.heap.size + 1) (by omega) #[.int .u64 (th : Nat), .int .i64 tp]
        have HN : Hid (VB w.heap.size (0, 0) (w2.setRow (w.heap.size + 1) #[.int .u64 (th : Nat), .int .i64 tp]) ∧ VB (w.heap.size + 1) (th, tp) (w2.setRow (w.heap.size + 1) #[.int .u64 (th : Nat), .int .i64 tp]) ∧ Below w.heap.size w (w2.setRow (w.heap.size + 1) #[.int .u64 (th : Nat), .int .i64 tp])) := ⟨hv0n, hv1n, hbn⟩
        have hst : w2.heap[w.heap.size + 1]? = some (.cells #[.int .u64 (hv.1 : Nat), .int .i64 hv.2] 33 (0, 0)) := hv1
        clear hv1n hv0n hbn hv0 hv1 hb3 hgt
        go_wp2_with (refine wpList_store_row rfl 33 (.tmp 3) (.tmp 19) rfl (w.heap.size + 1) #[.int .u64 (th : Nat), .int .i64 tp] rfl rfl 33 _ hst info32 rfl (by simp [Value.oneCell']) ?_)
        go_roundw
        case rel => first | exact ⟨k + 1, by omega, by go_num, ⟨_, rfl⟩, HN.out.1, by rw [HT2.out]; exact HN.out.2.1, HN.out.2.2⟩ | ((repeat apply Exists.intro); exact ⟨⟨k + 1, by omega, by go_num, ⟨_, rfl⟩, HN.out.1, by rw [HT2.out]; exact HN.out.2.1, HN.out.2.2⟩, rfl⟩)
        case measure => simp [intOf]; omega
      | false =>
        rw [hgt] at HT2
        simp only [Bool.false_eq_true, if_false] at HT2
        clear hgt
        go_wp2
        go_roundw
        case rel => first | exact ⟨k + 1, by omega, by go_num, ⟨_, rfl⟩, hv0, by rw [HT2.out]; exact hv1, hb3⟩ | ((repeat apply Exists.intro); exact ⟨⟨k + 1, by omega, by go_num, ⟨_, rfl⟩, hv0, by rw [HT2.out]; exact hv1, hb3⟩, rfl⟩)
        case measure => simp [intOf]; omega
    · obtain rfl : n = k := by omega
      have hltI : ¬ ((n : Int) < (n : Int)) := by omega
      have HE : Hid ((ts.take n).foldl highF (0, 0) = highT ts) := by show _ = _; rw [List.take_of_length_le (by omega)]; rfl
      obtain ⟨hh, HHH⟩ : ∃ v, Hid (highT ts = v) := ⟨_, rfl⟩
      rw [HE.out, HHH.out] at hv1
      obtain ⟨y0, y1⟩ := hv1.at
      have hst : wr.heap[w.heap.size]? = some (.cells #[.int .u64 ((0 : Nat) : Nat), .int .i64 0] 33 (0, 0)) := hv0
      have hvn := hv0.set hh
      have hbn := bl_row hb (g := w.heap.size) (Nat.le_refl _) #[.int .u64 (hh.1 : Nat), .int .i64 hh.2]
      have HN : Hid (VB w.heap.size hh (wr.setRow w.heap.size #[.int .u64 (hh.1 : Nat), .int .i64 hh.2]) ∧ Below w.heap.size w (wr.setRow w.heap.size #[.int .u64 (hh.1 : Nat), .int .i64 hh.2])) := ⟨hvn, hbn⟩
      clear hvn hbn hv0 hv1 hb HE
      go_wp2_with (refine wpList_store_row rfl 33 (.tmp 2) (.tmp 21) rfl w.heap.size #[.int .u64 (hh.1 : Nat), .int .i64 hh.2] rfl rfl 33 _ hst info32 rfl (by simp [Value.oneCell']) ?_)
      refine bodyPost_ret (results_cell_row Tryz.results132 _ _ w.heap.size 33 #[.int .u64 (hh.1 : Nat), .int .i64 hh.2] (0, 0) _ rfl HN.out.1 Tryz.underlying33 rfl info32) rfl ?_
      rw [HHH.out]
      exact ⟨rfl, HN.out.2⟩
end Go.Proofs.YtlaihgdfedalmaaGreat

/-
  exchange's Chosen and Next.
-/
namespace Go.Proofs.YtlaihgdfedalmaaGreat
open Go.RowKit
set_option linter.unusedVariables false
set_option linter.unusedSimpArgs false

set_option maxRecDepth 10000 in
set_option maxHeartbeats 2000000 in
theorem next_any (p : Nat → Prop) (w : World) (ao : Option Addr) (n cap : Nat) (ts : List Pt) (h : TL p w ao n ts) :
    Calls Tryz.prog 130 #[.slice ao n cap] w fun e w' => e = .returned (.int .i64 (nxT ts)) ∧ Below w.heap.size w w' := by
  have hl := h.1
  have hmax := h.2.1
  go_enter Tryz.func130, Tryz.ntmps130
  go_wp2_with fail
  go_loopw [3, 5, 8] (fun nv bv iv wr => ∃ (k : Nat) (x : Int), k ≤ n ∧ iv = .int .i64 k ∧ nv = .int .i64 x ∧ (∃ u, bv = u) ∧ x = (ts.take k).foldl nxF 1 ∧ Below w.heap.size w wr) (fun _ _ iv _ => n - (intOf iv).toNat)
  case atStart => exact ⟨0, 1, by omega, rfl, rfl, ⟨_, rfl⟩, rfl, Below.refl _ _⟩
  case round =>
    obtain ⟨k, x, hk, rfl, rfl, ⟨bv, hbv⟩, hx, hb⟩ := hrel
    have HX : Hid (x = (ts.take k).foldl nxF 1) := hx
    clear hx
    replace hbv := hbv.symm
    subst hbv
    by_cases hlt : k < n
    · have hltI : (k : Int) < (n : Int) := by omega
      have hk0 : ¬ ((k : Int) < 0) := by omega
      obtain ⟨t, ht⟩ : ∃ z, ts[k]? = some z := ⟨ts[k]'(by omega), List.getElem?_eq_getElem (by omega)⟩
      have HT : Hid ((ts.take (k + 1)).foldl nxF 1 = if x < t.nx then t.nx else x) := by show _ = _; rw [foldl_take _ _ _ _ _ ht, ← HX.out]; rfl
      obtain ⟨b, off, hao, _, hc⟩ := h.2.2 (by omega)
      obtain ⟨c0, ca, cc, oa, oc, ⟨c1, c2, c3, c4, c5⟩, hrest⟩ := hc k t ht
      have kk : ∀ {ad : Addr} {v : Value}, w.cell? ad = some v → wr.cell? ad = some v := fun hv => (hb.cell (World.block_lt_of_cell? w _ hv)).trans hv
      replace c0 := kk c0
      replace c1 := kk c1
      replace c2 := kk c2
      replace c3 := kk c3
      replace c4 := kk c4
      replace c5 := kk c5
      obtain ⟨tn, te, tl, tx, th, tp⟩ := t
      simp only at c0 c1 c2 c3 c4 c5 HT
      subst hao
      have ba := bl1 wr (.cells #[.int .i64 tn, .slice ca te.length cc, .slice oa tl.length oc, .int .i64 tx, .int .u64 (th : Nat), .int .i64 tp] 120)
      have xx := fun j v hj => cell_box wr #[.int .i64 tn, .slice ca te.length cc, .slice oa tl.length oc, .int .i64 tx, .int .u64 (th : Nat), .int .i64 tp] 120 j v hj
      have x0 := xx 0 _ rfl
      have x1 := xx 1 _ rfl
      have x3 := xx 3 _ rfl
      have x4 := xx 4 _ rfl
      have x5 := xx 5 _ rfl
      have hb2 := bl_step hb ba
      clear hc ht kk hb ba xx HX hrest
      go_wp2_with (refine wpList_load_T rfl (.tmp 10) rfl b (off + k * 6) rfl _ _ _ _ _ _ c0 c1 c2 c3 c4 c5 ?_)
      go_roundw
      case rel => first | exact ⟨k + 1, _, by omega, by go_num, rfl, ⟨_, rfl⟩, HT.out.symm, hb2⟩ | ((repeat apply Exists.intro); exact ⟨⟨k + 1, _, by omega, by go_num, rfl, ⟨_, rfl⟩, HT.out.symm, hb2⟩, rfl⟩)
      case measure => simp [intOf]; omega
    · obtain rfl : n = k := by omega
      have hltI : ¬ ((n : Int) < (n : Int)) := by omega
      have HE : Hid (nxT ts = x) := by show _ = _; rw [HX.out, List.take_of_length_le (by omega)]; rfl
      clear HX
      go_wp2
      go_ret
      rw [HE.out]
      exact ⟨rfl, hb⟩
set_option maxRecDepth 10000 in
set_option maxHeartbeats 2000000 in
theorem chosen_any (p : Nat → Prop) (w : World) (ao : Option Addr) (n cap : Nat) (ts : List Pt) (h : TL p w ao n ts) :
    Calls Tryz.prog 160 #[.slice ao n cap] w fun e w' => e = .returned (.int .i64 (chT ts)) ∧ Below w.heap.size w w' := by
  have hl := h.1
  have hmax := h.2.1
  have hhi := high_any p w ao n cap ts h
  unfold vid at hhi
  unfold chT
  generalize highT ts = hh at *
  go_enter Tryz.func160, Tryz.ntmps160
  go_wp2_with fail
  refine hhi.mono ?_
  rintro e w1 ⟨rfl, u1⟩
  have v1 : VB w1.heap.size hh (w1.alloc (.cells #[.int .u64 (hh.1 : Nat), .int .i64 hh.2] 33)) := heap_alloc_new _ _
  have b1 := bl_step u1 (bl1 w1 (.cells #[.int .u64 (hh.1 : Nat), .int .i64 hh.2] 33))
  obtain ⟨g1, hg1⟩ : ∃ g, Hid (w1.heap.size = g) := ⟨_, rfl⟩
  rw [hg1.out] at v1
  clear hhi u1
  go_wp2_with fail
  rw [hg1.out]
  go_loopw [4, 6, 11] (fun nv bv iv wr => ∃ (k : Nat) (x : Int), k ≤ n ∧ iv = .int .i64 k ∧ nv = .int .i64 x ∧ (∃ u, bv = u) ∧ x = (ts.take k).foldl (chF hh) (-1) ∧ VB g1 hh wr ∧ Below w.heap.size w wr) (fun _ _ iv _ => n - (intOf iv).toNat)
  case atStart => exact ⟨0, -1, by omega, rfl, rfl, ⟨_, rfl⟩, rfl, v1, b1⟩
  case round =>
    clear v1 b1
    obtain ⟨k, x, hk, rfl, rfl, ⟨bv, hbv⟩, hx, hv1, hb⟩ := hrel
    have HX : Hid (x = (ts.take k).foldl (chF hh) (-1)) := hx
    clear hx
    replace hbv := hbv.symm
    subst hbv
    by_cases hlt : k < n
    · have hltI : (k : Int) < (n : Int) := by omega
      have hk0 : ¬ ((k : Int) < 0) := by omega
      obtain ⟨t, ht⟩ : ∃ z, ts[k]? = some z := ⟨ts[k]'(by omega), List.getElem?_eq_getElem (by omega)⟩
      have HT : Hid ((ts.take (k + 1)).foldl (chF hh) (-1) = if (decide (t.hn = hh.1) && decide (t.hp = hh.2)) then (if x < t.node then t.node else x) else x) := by show _ = _; rw [foldl_take _ _ _ _ _ ht, ← HX.out]; rfl
      obtain ⟨b, off, hao, _, hc⟩ := h.2.2 (by omega)
      obtain ⟨c0, ca, cc, oa, oc, ⟨c1, c2, c3, c4, c5⟩, hrest⟩ := hc k t ht
      have kk : ∀ {ad : Addr} {v : Value}, w.cell? ad = some v → wr.cell? ad = some v := fun hv => (hb.cell (World.block_lt_of_cell? w _ hv)).trans hv
      replace c0 := kk c0
      replace c1 := kk c1
      replace c2 := kk c2
      replace c3 := kk c3
      replace c4 := kk c4
      replace c5 := kk c5
      obtain ⟨tn, te, tl, tx, th, tp⟩ := t
      simp only at c0 c1 c2 c3 c4 c5 HT
      subst hao
      have ba := bl1 wr (.cells #[.int .i64 tn, .slice ca te.length cc, .slice oa tl.length oc, .int .i64 tx, .int .u64 (th : Nat), .int .i64 tp] 120)
      have xx := fun j v hj => cell_box wr #[.int .i64 tn, .slice ca te.length cc, .slice oa tl.length oc, .int .i64 tx, .int .u64 (th : Nat), .int .i64 tp] 120 j v hj
      have x0 := xx 0 _ rfl
      have x1 := xx 1 _ rfl
      have x3 := xx 3 _ rfl
      have x4 := xx 4 _ rfl
      have x5 := xx 5 _ rfl
      have hb2 := bl_step hb ba
      have hv1a := hv1.bl ba
      obtain ⟨y0, y1⟩ := hv1a.at
      have heq := fun W => vid_equal th tp hh.1 hh.2 W
      obtain ⟨q, hq⟩ : ∃ q, (decide (th = hh.1) && decide (tp = hh.2)) = q := ⟨_, rfl⟩
      rw [hq] at heq HT
      clear hc ht kk hb ba xx HX hrest hv1 hq
      cases q with
      | true =>
        simp only [if_true] at HT
        go_wp2_with (refine wpList_load_T rfl (.tmp 13) rfl b (off + k * 6) rfl _ _ _ _ _ _ c0 c1 c2 c3 c4 c5 ?_)
        go_roundw
        case rel => first | exact ⟨k + 1, _, by omega, by go_num, rfl, ⟨_, rfl⟩, HT.out.symm, hv1a, hb2⟩ | ((repeat apply Exists.intro); exact ⟨⟨k + 1, _, by omega, by go_num, rfl, ⟨_, rfl⟩, HT.out.symm, hv1a, hb2⟩, rfl⟩)
        case measure => simp [intOf]; omega
      | false =>
        simp only [Bool.false_eq_true, if_false] at HT
        go_wp2_with (refine wpList_load_T rfl (.tmp 13) rfl b (off + k * 6) rfl _ _ _ _ _ _ c0 c1 c2 c3 c4 c5 ?_)
        go_roundw
        case rel => first | exact ⟨k + 1, _, by omega, by go_num, rfl, ⟨_, rfl⟩, HT.out.symm, hv1a, hb2⟩ | ((repeat apply Exists.intro); exact ⟨⟨k + 1, _, by omega, by go_num, rfl, ⟨_, rfl⟩, HT.out.symm, hv1a, hb2⟩, rfl⟩)
        case measure => simp [intOf]; omega
    · obtain rfl : n = k := by omega
      have hltI : ¬ ((n : Int) < (n : Int)) := by omega
      have HE : Hid (ts.foldl (chF hh) (-1) = x) := by show _ = _; rw [HX.out, List.take_of_length_le (by omega)]
      clear HX hv1
      go_wp2
      go_ret
      rw [HE.out]
      exact ⟨rfl, hb⟩
end Go.Proofs.YtlaihgdfedalmaaGreat

/-
  exchange's Short.
-/
namespace Go.Proofs.YtlaihgdfedalmaaGreat
open Go.RowKit
set_option linter.unusedVariables false
set_option linter.unusedSimpArgs false

/-- The first of a node. -/
def atT (ts : List Pt) (c : Int) : Option Pt := ts.find? (fun t => decide (t.node = c))
def shortT (ts : List Pt) : List Lb := if chT ts = -1 then [] else ((atT ts (chT ts)).map (·.ls)).getD []
theorem ch_has (hh : Nat × Int) : ∀ (ts : List Pt) (c : Int), ts.foldl (chF hh) c = c ∨ ∃ t ∈ ts, t.node = ts.foldl (chF hh) c
  | [], c => .inl rfl
  | t :: r, c => by
    have h1 : chF hh c t = c ∨ chF hh c t = t.node := by
      unfold chF
      split
      · split
        · exact .inr rfl
        · exact .inl rfl
      · exact .inl rfl
    rcases ch_has hh r (chF hh c t) with h | ⟨u, hu, he⟩
    · rcases h1 with h2 | h2
      · exact .inl (by show r.foldl (chF hh) (chF hh c t) = c; rw [h, h2])
      · exact .inr ⟨t, by simp, by show t.node = r.foldl (chF hh) (chF hh c t); rw [h, h2]⟩
    · exact .inr ⟨u, by simp [hu], he⟩

set_option maxRecDepth 10000 in
theorem isNode_any (w : World) (B : Nat) (c : Int) (hB : w.cell? ⟨B, 0, none⟩ = some (.int .i64 c)) (v0 : Int) (v1 v2 v3 v4 v5 : Value) :
    Calls Tryz.prog 161 #[.agg #[.int .i64 v0, v1, v2, v3, v4, v5], .pointer (some ⟨B, 0, none⟩)] w fun e w' => e = .returned (.bool (decide (v0 = c))) ∧ Below w.heap.size w w' := by
  have ba := bl1 w (.cells #[.int .i64 v0, v1, v2, v3, v4, v5] 120)
  have x0 := cell_box w #[.int .i64 v0, v1, v2, v3, v4, v5] 120 0 _ rfl
  have y0 := bl_cell ba hB
  go_enter Tryz.func161, Tryz.ntmps161
  go_wp2
  go_ret
  exact ⟨ret_bool (by first | rfl | (by_cases h : v0 = c <;> simp [h])), ba⟩

set_option maxRecDepth 10000 in
set_option maxHeartbeats 2000000 in
theorem index_any (p : Nat → Prop) (w : World) (ao : Option Addr) (n cap : Nat) (ts : List Pt) (h : TL p w ao n ts) (B : Nat) (c : Int) (hB : w.cell? ⟨B, 0, none⟩ = some (.int .i64 c)) (hex : ∃ t ∈ ts, t.node = c) :
    Calls Tryz.prog 129 #[.slice ao n cap, .func (.func 161) #[] #[.pointer (some ⟨B, 0, none⟩)]] w fun e w' => (∃ (j : Nat) (t : Pt), e = .returned (.int .i64 (j : Nat)) ∧ ts[j]? = some t ∧ atT ts c = some t) ∧ Below w.heap.size w w' := by
  have hl := h.1
  have hmax := h.2.1
  have HEX : Hid (∃ t ∈ ts, t.node = c) := hex
  clear hex
  go_enter Tryz.func129, Tryz.ntmps129
  go_wp2_with fail
  go_loopw [5, 8] (fun jv iv wr => ∃ (k : Nat), k ≤ n ∧ iv = .int .i64 k ∧ (∃ u, jv = u) ∧ (∀ (j : Nat) t, j < k → ts[j]? = some t → t.node ≠ c) ∧ Below w.heap.size w wr) (fun _ iv _ => n - (intOf iv).toNat)
  case atStart => exact ⟨0, by omega, rfl, ⟨_, rfl⟩, fun j t hj => by omega, Below.refl _ _⟩
  case round =>
    obtain ⟨k, hk, rfl, ⟨bv, hbv⟩, hno, hb⟩ := hrel
    have HNO : Hid (∀ (j : Nat) t, j < k → ts[j]? = some t → t.node ≠ c) := hno
    clear hno
    replace hbv := hbv.symm
    subst hbv
    by_cases hlt : k < n
    · have hltI : (k : Int) < (n : Int) := by omega
      have hk0 : ¬ ((k : Int) < 0) := by omega
      obtain ⟨t, ht⟩ : ∃ z, ts[k]? = some z := ⟨ts[k]'(by omega), List.getElem?_eq_getElem (by omega)⟩
      have HT : Hid (ts[k]? = some t) := ht
      obtain ⟨b, off, hao, _, hc⟩ := h.2.2 (by omega)
      obtain ⟨c0, ca, cc, oa, oc, ⟨c1, c2, c3, c4, c5⟩, hrest⟩ := hc k t ht
      have kk : ∀ {ad : Addr} {v : Value}, w.cell? ad = some v → wr.cell? ad = some v := fun hv => (hb.cell (World.block_lt_of_cell? w _ hv)).trans hv
      replace c0 := kk c0
      replace c1 := kk c1
      replace c2 := kk c2
      replace c3 := kk c3
      replace c4 := kk c4
      replace c5 := kk c5
      have hin := isNode_any wr B c (kk hB) t.node (.slice ca t.es.length cc) (.slice oa t.ls.length oc) (.int .i64 t.nx) (.int .u64 (t.hn : Nat)) (.int .i64 t.hp)
      subst hao
      obtain ⟨q, hq⟩ : ∃ q, decide (t.node = c) = q := ⟨_, rfl⟩
      rw [hq] at hin
      clear hc ht kk hrest
      cases q with
      | true =>
        have HA : Hid (atT ts c = some t) := by
          show ts.find? _ = _
          rw [List.find?_eq_some_iff_getElem]
          obtain ⟨h1, h2⟩ := List.getElem?_eq_some_iff.1 HT.out
          refine ⟨hq, k, h1, h2, fun j hj => ?_⟩
          have := HNO.out j _ hj (List.getElem?_eq_getElem (by omega))
          simpa using this
        clear hq HNO
        go_wp2_with (refine wpList_load_T rfl (.tmp 14) rfl b (off + k * 6) rfl _ _ _ _ _ _ c0 c1 c2 c3 c4 c5 ?_)
        refine hin.mono ?_
        rintro e w2 ⟨rfl, u2⟩
        have uf := bl_step hb u2
        clear hin
        go_wp2
        go_ret
        exact ⟨⟨k, t, rfl, HT.out, HA.out⟩, uf⟩
      | false =>
        have HN2 : Hid (∀ (j : Nat) t, j < k + 1 → ts[j]? = some t → t.node ≠ c) := fun j u hj hu => by
          by_cases e : j = k
          · subst e
            rw [HT.out] at hu
            cases hu
            simpa using hq
          · exact HNO.out j u (by omega) hu
        clear hq HNO
        go_wp2_with (refine wpList_load_T rfl (.tmp 14) rfl b (off + k * 6) rfl _ _ _ _ _ _ c0 c1 c2 c3 c4 c5 ?_)
        refine hin.mono ?_
        rintro e w2 ⟨rfl, u2⟩
        have uf := bl_step hb u2
        clear hin
        go_wp2
        go_roundw
        case rel => first | exact ⟨k + 1, by omega, by go_num, ⟨_, rfl⟩, HN2.out, uf⟩ | ((repeat apply Exists.intro); exact ⟨⟨k + 1, by omega, by go_num, ⟨_, rfl⟩, HN2.out, uf⟩, rfl⟩)
        case measure => simp [intOf]; omega
    · exfalso
      obtain ⟨t, ht, hc⟩ := HEX.out
      obtain ⟨j, hj, hje⟩ := List.getElem_of_mem ht
      exact HNO.out j t (by omega) (by rw [← hje]; exact List.getElem?_eq_getElem hj) hc

set_option maxRecDepth 10000 in
set_option maxHeartbeats 2000000 in
theorem short_any (p : Nat → Prop) (w : World) (ao : Option Addr) (n cap : Nat) (ts : List Pt) (h : TL p w ao n ts) (hll : ∀ t ∈ ts, t.ls.length ≤ 5000) :
    Calls Tryz.prog 131 #[.slice ao n cap] w fun e w' => ∃ v, e = .returned v ∧ w'.ownsRow w.heap.size 39 4 v (shortT ts).length (flat (shortT ts)) ∧ Below w.heap.size w w' := by
  have hch := chosen_any p w ao n cap ts h
  have hl := h.1
  have hmax := h.2.1
  have HH : Hid (chT ts ≠ -1 → ∃ t ∈ ts, t.node = chT ts) := fun hne => by
    rcases ch_has (highT ts) ts (-1) with h1 | h1
    · exact absurd h1 hne
    · exact h1
  obtain ⟨c, HC⟩ : ∃ c, Hid (chT ts = c) := ⟨_, rfl⟩
  rw [HC.out] at hch HH
  go_enter Tryz.func131, Tryz.ntmps131
  go_wp2_with fail
  refine hch.mono ?_
  rintro e w1 ⟨rfl, u1⟩
  have ba := bl1 w1 (.cells #[.int .i64 c] 3)
  have y0 := cell_box w1 #[.int .i64 c] 3 0 _ rfl
  have u2 := bl_step u1 ba
  clear hch
  by_cases h1 : c = -1
  · have HS : Hid (shortT ts = []) := by show shortT ts = []; unfold shortT; rw [HC.out, if_pos h1]
    subst h1
    clear HH
    go_wp2
    go_ret
    refine ⟨_, rfl, ?_, u2⟩
    rw [HS.out]
    exact World.ownsRow_nil _ _ _ _
  · have h1b : (c == -1) = false := by simpa using h1
    have hix := index_any p _ ao n cap ts (h.bl u2) w1.heap.size c y0 (HH.out h1)
    clear HH
    go_wp2_with fail
    refine hix.mono ?_
    rintro e w3 ⟨⟨j, t, rfl, hj, hat⟩, u3⟩
    have HS : Hid (shortT ts = t.ls) := by show shortT ts = t.ls; unfold shortT; rw [HC.out, if_neg h1, hat]; rfl
    have u03 := bl_step u2 u3
    have hjl := (List.getElem?_eq_some_iff.1 hj).1
    have hjI : (j : Int) < (n : Int) := by omega
    have hj0 : ¬ ((j : Int) < 0) := by omega
    obtain ⟨b, off, hao, _, hc⟩ := (h.bl u03).2.2 (by omega)
    obtain ⟨c0, ca, cc, oa, oc, ⟨c1, c2, c3, c4, c5⟩, hr1, hr2, hr3, hr4, hr5⟩ := hc j t hj
    subst hao
    have hcl := Q.clone_any w3 oa t.ls.length oc t.ls hr2 (hll t (List.mem_of_getElem? hj)) (fun e => (hr5 e).1)
    clear hix hc hat hj y0
    go_wp2_with fail
    refine hcl.mono ?_
    rintro e w4 ⟨v, rfl, ho, u4⟩
    have uf := bl_step u03 u4
    have HO : Hid (w4.ownsRow w.heap.size 39 4 v t.ls.length (flat t.ls)) := own_base ho u03.size
    clear hcl ho
    go_wp2
    go_ret
    refine ⟨v, rfl, ?_, uf⟩
    rw [HS.out]
    exact HO.out
end Go.Proofs.YtlaihgdfedalmaaGreat

/-
  slices.BinarySearchFunc over entries by their labels, and Find.
-/
namespace Go.Proofs.YtlaihgdfedalmaaGreat
open Go.RowKit
set_option linter.unusedVariables false
set_option linter.unusedSimpArgs false

theorem asc_get {es : List En} (h : Asc es) {i j : Nat} {a b : En} (hi : es[i]? = some a) (hj : es[j]? = some b) (hij : i < j) : ltL a.1 b.1 := by
  obtain ⟨h1, h2⟩ := List.getElem?_eq_some_iff.1 hi
  obtain ⟨h3, h4⟩ := List.getElem?_eq_some_iff.1 hj
  have := List.pairwise_iff_getElem.1 h i j h1 h3 hij
  rwa [h2, h4] at this

end Go.Proofs.YtlaihgdfedalmaaGreat

/-
  How the statements' arguments are opened: a slice of bytes that came in is a row of bytes, and takes no more than the form's own reach.
-/
namespace Go.Proofs.YtlaihgdfedalmaaGreat.Cd
open Go.ChangeShapes Go.WideShapes Go.ChangeAt Go.RowKit
set_option linter.unusedVariables false

theorem own : ownKnob Tryz.prog.godebug = none := by kernel_rfl
theorem laidOut : laidOutB Tryz.prog = true := by kernel_rfl
theorem cells5 : Tryz.prog.cellsOf 5 = 1 := by kernel_rfl

end Go.Proofs.YtlaihgdfedalmaaGreat.Cd

/-
  Entries as they are handed in.
-/
namespace Go.Proofs.YtlaihgdfedalmaaGreat
open Go.ChangeShapes Go.WideShapes Go.ChangeAt Go.RowKit Go.Deep
set_option linter.unusedVariables false
set_option linter.unusedSimpArgs false

theorem in_of_wf {a : Int} (h : (Lit.int .i64 a).wf = true) : In a := by
  unfold In
  simp [Lit.wf, IntKind.min, IntKind.max, IntKind.bits, IntKind.signed] at h
  omega
theorem u64_of_wf {a : Int} (h : (Lit.int .u64 a).wf = true) : ∃ n : Nat, a = n ∧ n < 18446744073709551616 := by
  simp [Lit.wf, IntKind.min, IntKind.max, IntKind.bits, IntKind.signed] at h
  exact ⟨a.toNat, by omega, by omega⟩
theorem u8_of_wf {a : Int} (h : (Lit.int .u8 a).wf = true) : ∃ n : Nat, a = n ∧ n < 256 := by
  simp [Lit.wf, IntKind.min, IntKind.max, IntKind.bits, IntKind.signed] at h
  exact ⟨a.toNat, by omega, by omega⟩
theorem own : ownKnob Tryz.prog.godebug = none := by kernel_rfl
theorem cellsU8 : Tryz.prog.cellsOf 5 = 1 := by kernel_rfl
theorem vid24 : ∃ f0 f1 : Field, Tryz.prog.underlying 33 = some (.struct #[f0, f1]) ∧ f0.offset = 0 ∧ f1.offset = 1 ∧ f0.type = 31 ∧ f1.type = 3 :=
  ⟨_, _, Tryz.underlying33, rfl, rfl, rfl, rfl⟩
set_option maxRecDepth 10000 in
/-- Bytes that were handed in. -/
theorem trod_bytes {H : Type} {enc : TypeId × Value → H} {W : World} {held : Bool} {fuel : Nat} {cs : List Value} {y : DataW H × List MemPlace} (h : DataW.trod enc Tryz.prog W 0 (fun _ => true) held fuel 37 cs = some y) :
    ∃ ao n cap xs, cs = [.slice ao n cap] ∧ Cd.Row W ao n cap xs := by
  rcases open_ints Tryz.underlying37 Tryz.underlying5 cellsU8 h with ⟨hcs, hy⟩ | ⟨x, l, c, zs, hcs, _, hl, hm, hz, hx, hcell, hwz⟩
  · exact ⟨none, 0, 0, [], hcs, nil_row W⟩
  · simp only [if_true] at hz
    refine ⟨some x, l, c, (zs.take l).map fun z => UInt8.ofNat z.toNat, hcs, by simp; omega, hl, hm, fun e => (by cases e), fun b hb i hi => ?_⟩
    cases hb
    rw [hcell i (by omega)]
    have hi2 : i < zs.length := by omega
    obtain ⟨m, hm1, hm2⟩ := u8_of_wf (hwz (zs.getD i 0) (by simp [List.getD, List.getElem?_eq_getElem hi2]))
    have e : (((zs.take l).map fun z => UInt8.ofNat z.toNat).getD i 0) = UInt8.ofNat (zs.getD i 0).toNat := by
      simp [List.getD, hi, List.getElem?_eq_getElem hi2]
    rw [e, hm1, Int.toNat_natCast, Cd.ofNat_toNat _ hm2]

set_option maxRecDepth 100000 in
end Go.Proofs.YtlaihgdfedalmaaGreat

/-
  Summaries as they are handed in.
-/
namespace Go.Proofs.YtlaihgdfedalmaaGreat
open Go.ChangeShapes Go.WideShapes Go.ChangeAt Go.RowKit Go.Deep
set_option linter.unusedVariables false
set_option linter.unusedSimpArgs false

/-- No part takes more than the form's reach. -/
def Fits {H : Type} (t : TypeId) (d : DataW H) : Prop := ∀ n ∈ d.weights Tryz.prog t, n ≤ 140737488351232
theorem Fits.cap {H : Type} {t e : TypeId} {D : Nat → DataW H} {len m : Nat} (ht : Tryz.prog.underlying t = some (.slice e)) (h : Fits t (.slice ((List.range len).map D) ((List.range (m - len)).map fun j => D (len + j)))) : (len + (m - len)) * Tryz.prog.bytesOf e ≤ 140737488351232 := by
  have := h ((len + (m - len)) * Tryz.prog.bytesOf e) (by simp [DataW.weights, ht])
  exact this
theorem Fits.part {H : Type} {t : TypeId} {fs : Array Field} {xs : List (DataW H × List MemPlace)} (ht : Tryz.prog.underlying t = some (.struct fs)) (h : Fits t (.agg (xs.map (·.1)))) {i : Nat} {f : Field} {x : DataW H × List MemPlace} (hf : fs[i]? = some f) (hx : xs[i]? = some x) : Fits f.type x.1 := by
  intro n hn
  refine h n ?_
  simp only [DataW.weights, ht]
  refine DataW.weights_mem_each (j := i) (t := f.type) (d := x.1) ?_ ?_ n hn
  · rw [List.getElem?_map, Array.getElem?_toList, hf]; rfl
  · rw [List.getElem?_map, hx]; rfl

/-- A summary that was handed in. -/
structure Smy where
  ao : Option Addr
  n : Nat
  ac : Nat
  es : List (Lb × List UInt8)
  bo : Option Addr
  m : Nat
  bc : Nat
  ls : List Lb
  nx : Int
  hn : Nat
  hp : Int
def Smy.val (y : Smy) : Value := sumv (.slice y.ao y.n y.ac) (.slice y.bo y.m y.bc) y.nx y.hn y.hp
structure SmyOk (W : World) (y : Smy) : Prop where
  er : ER (fun _ => True) W y.ao y.n y.es
  lr : LR W y.bo y.m y.ls
  eok : ∀ e ∈ y.es, OkL e.1
  lok : ∀ x ∈ y.ls, OkL x
  ez : y.ao = none → y.n = 0
  lz : y.bo = none → y.m = 0
  ec : y.n ≤ y.ac
  lc : y.m ≤ y.bc
  em : y.ac ≤ 140737488355328
  lm : y.bc ≤ 140737488355328
  nxi : In y.nx
  hnl : y.hn < 18446744073709551616
  hpi : In y.hp
theorem SmyOk.bl {W W' : World} {y : Smy} (h : SmyOk W y) (u : Below W.heap.size W W') : SmyOk W' y := { h with er := h.er.bl u, lr := h.lr.up u }

end Go.Proofs.YtlaihgdfedalmaaGreat

/-
  Lists of entries, entries and labels as they are handed in, and how long their messages are.
-/
namespace Go.Proofs.YtlaihgdfedalmaaGreat
open Go.ChangeShapes Go.WideShapes Go.ChangeAt Go.RowKit Go.Deep
set_option linter.unusedVariables false
set_option linter.unusedSimpArgs false

end Go.Proofs.YtlaihgdfedalmaaGreat

/-
  What the laws' walks lean on: who is in what was merged; a label in a box.
-/
namespace Go.Proofs.YtlaihgdfedalmaaGreat
open Go.RowKit
set_option linter.unusedVariables false
set_option linter.unusedSimpArgs false

theorem mergeE_mem : ∀ (more l : List En) (z : En), z ∈ mergeE l more → z ∈ l ∨ z ∈ more
  | [], l, z, h => .inl h
  | e :: more, l, z, h => by
    have h1 : z ∈ mergeE (mstep l e) more := h
    rcases mergeE_mem more (mstep l e) z h1 with h2 | h2
    · unfold mstep at h2
      split at h2
      · exact .inl h2
      · rcases (insR_mem e l z).1 h2 with rfl | h3
        · exact .inr (by simp)
        · exact .inl h3
    · exact .inr (by simp [h2])
/-- A label in a box. -/
def LB (g : Nat) (y : Lb) (w : World) : Prop := w.heap[g]? = some (.cells #[.int .u64 (y.1 : Nat), .int .i64 y.2.1, .int .u64 (y.2.2.1 : Nat), .int .i64 y.2.2.2] 39 (0, 0))
theorem LB.lt {g : Nat} {y : Lb} {w : World} (h : LB g y w) : g < w.heap.size := (Array.getElem?_eq_some_iff.1 h).1
theorem LB.bl {g : Nat} {y : Lb} {w w' : World} (h : LB g y w) (u : Below w.heap.size w w') : LB g y w' := by
  unfold LB at *
  rw [u.block g (Array.getElem?_eq_some_iff.1 h).1]
  exact h
theorem LB.bx {g : Nat} {y : Lb} {w : World} (h : LB g y w) : Bx g y.1 y.2.1 y.2.2.1 y.2.2.2 w := by
  unfold LB at h
  unfold Bx World.cell?
  simp [h]
theorem LB.new (w : World) (y : Lb) : LB w.heap.size y (w.alloc (.cells #[.int .u64 (y.1 : Nat), .int .i64 y.2.1, .int .u64 (y.2.2.1 : Nat), .int .i64 y.2.2.2] 39)) := heap_alloc_new _ _
theorem LB.set {g : Nat} {y : Lb} {w : World} (h : LB g y w) (z : Lb) : LB g z (w.setRow g #[.int .u64 (z.1 : Nat), .int .i64 z.2.1, .int .u64 (z.2.2.1 : Nat), .int .i64 z.2.2.2]) := setRow_heap _ _ _ _ _ _ h
/-- Both have found the same. -/
theorem FindIs.open {w w' : World} {es : List En} {x : Lb} {e : Ending} (h : FindIs w w' es x e) : ∃ so sn sc, e = .returned (.tuple #[.slice so sn sc, .bool (findE es x).isSome]) ∧ Cd.Row w' so sn sc ((findE es x).getD []) := by
  obtain ⟨v, b, rfl, rfl, so, sn, sc, rfl, hr⟩ := h
  exact ⟨so, sn, sc, rfl, hr⟩
end Go.Proofs.YtlaihgdfedalmaaGreat

/-
  exchange's Known and Full.
-/
namespace Go.Proofs.YtlaihgdfedalmaaGreat
open Go.RowKit
set_option linter.unusedVariables false
set_option linter.unusedSimpArgs false

/-- All entries that were told, one behind the other. -/
def allT (ts : List Pt) : List En := ts.flatMap (·.es)
def knownT (ts : List Pt) : List En := mergeE [] (allT ts)
/-- Rows of entries that grow, their messages elsewhere. -/
def OX (w1 w : World) (v : Value) (out : List En) : Prop :=
  ∃ xs : List T.Sx, xs.length = out.length ∧ w.ownsRow w1.heap.size 41 5 v out.length (T.flat xs) ∧ (∀ (j : Nat) e x, out[j]? = some e → xs[j]? = some x → x.1 = e.1 ∧ Cd.Row w1 x.2.1 x.2.2.1 x.2.2.2 e.2) ∧ Below w1.heap.size w1 w
theorem OX.nil (w1 : World) : OX w1 w1 (.slice none 0 0) [] := ⟨[], rfl, World.ownsRow_nil _ _ _ _, fun j e x he => by simp at he, Below.refl _ _⟩
theorem OX.eo {w1 w : World} {v : Value} {out : List En} (h : OX w1 w v out) : EO 0 w v out := by
  obtain ⟨xs, hl, ho, hm, hb⟩ := h
  refine ⟨xs, hl, own_base ho (Nat.zero_le _), fun j e x he hx => ?_⟩
  obtain ⟨h1, h2⟩ := hm j e x he hx
  refine ⟨h1, row_bl h2 hb (row_lt h2), fun a ha hn => ?_⟩
  have hlt := row_lt h2 a ha hn
  exact ⟨Nat.zero_le _, Nat.lt_of_lt_of_le hlt hb.size, fun e => by have := (ho.lt _ e).1; omega⟩
/-- Others' memory is laid beside. -/
theorem OX.bl {w1 w w' : World} {v : Value} {out : List En} (h : OX w1 w v out) (u : Below w.heap.size w w') : OX w1 w' v out := by
  obtain ⟨xs, h1, h2, h3, h4⟩ := h
  refine ⟨xs, h1, h2.kept (row := none) ⟨u.os, u.tape, u.output, u.size, fun i hi _ => u.block i hi⟩ ?_, h3, h4.trans (u.mono h4.size)⟩
  cases v.ownBlock with
  | none => exact Or.inl rfl
  | some k => exact Or.inr (by simp)
/-- append of a list of entries. -/
theorem wpList_append_OX {w1 w : World} {ops : Array Oper} {rest : List Oper} {o : Oper} {a : Act} {Q : Exit → Act → World → Prop} (hgd : o.guard = none) (s x : Operand)
    (ho : o.op = .call { callee := .builtin .append, args := #[s, x], argTypes := #[42, 42] }) (v : Value) (out : List En) (hs : a.eval s = v) (h : OX w1 w v out) (bo : Option Addr) (m c : Nat) (es : List En) (hx : a.eval x = .slice bo m c) (hE : ER (fun _ => True) w1 bo m es) (hz : bo = none → m = 0 ∧ c = 0) (hnm : out.length + m ≤ 1000000)
    (hk : ∀ v' w', OX w1 w' v' (out ++ es) → wpList Tryz.prog ops Q rest (a.put o.dst v') w') : wpList Tryz.prog ops Q (o :: rest) a w := by
  obtain ⟨xs, hl, how, hm, hb⟩ := h
  obtain ⟨ys, hyr, hys⟩ := hE.xr
  have hel := hE.1
  refine T.wpList_append_XR hgd s x ho w1.heap.size v out.length xs hs how bo m c ys hx (hyr.up hb) hz hnm hb.size (fun v' w' ho' hg => hk v' w' ?_)
  refine ⟨xs ++ ys, by simp [hl, hyr.1, hel], by rw [List.length_append, hel]; exact ho', fun j e y he hy => ?_, bl_grown hb hb.size hg (fun k hk => (how.lt k hk).1)⟩
  by_cases hj : j < out.length
  · rw [List.getElem?_append_left hj] at he
    rw [List.getElem?_append_left (by omega)] at hy
    exact hm j e y he hy
  · rw [List.getElem?_append_right (by omega)] at he hy
    rw [hl] at hy
    exact hys _ e y he hy

set_option maxRecDepth 10000 in
set_option maxHeartbeats 2000000 in
theorem known_any (p : Nat → Prop) (w : World) (ao : Option Addr) (n cap : Nat) (ts : List Pt) (h : TL p w ao n ts) (hlen : (allT ts).length ≤ 100000) (hml : ∀ e ∈ allT ts, e.2.length ≤ 140737488355328) :
    Calls Tryz.prog 140 #[.slice ao n cap] w fun e w' => ∃ v, e = .returned v ∧ EO w.heap.size w' v (knownT ts) ∧ Below w.heap.size w w' := by
  have hl := h.1
  have hmax := h.2.1
  go_enter Tryz.func140, Tryz.ntmps140
  go_wp2_with fail
  go_loopw [3, 5, 8] (fun ov bv iv wr => ∃ (k : Nat) (oo : Option Addr) (oc : Nat), k ≤ n ∧ iv = .int .i64 k ∧ ov = .slice oo (allT (ts.take k)).length oc ∧ (∃ u, bv = u) ∧ OX w wr ov (allT (ts.take k))) (fun _ _ iv _ => n - (intOf iv).toNat)
  case atStart => exact ⟨0, none, 0, by omega, rfl, rfl, ⟨_, rfl⟩, OX.nil w⟩
  case round =>
    obtain ⟨k, oo, oc, hk, rfl, rfl, ⟨bv, hbv⟩, hO⟩ := hrel
    replace hbv := hbv.symm
    subst hbv
    have hb : Below w.heap.size w wr := by obtain ⟨_, _, _, _, hq⟩ := hO; exact hq
    by_cases hlt : k < n
    · have hltI : (k : Int) < (n : Int) := by omega
      have hk0 : ¬ ((k : Int) < 0) := by omega
      obtain ⟨t, ht⟩ : ∃ z, ts[k]? = some z := ⟨ts[k]'(by omega), List.getElem?_eq_getElem (by omega)⟩
      have HT : Hid (allT (ts.take (k + 1)) = allT (ts.take k) ++ t.es) := by show _ = _; unfold allT; rw [List.take_add_one, ht]; simp
      have hlen2 : (allT (ts.take k)).length + t.es.length ≤ 100000 := by
        have e : allT ts = allT (ts.take (k + 1)) ++ allT (ts.drop (k + 1)) := by unfold allT; rw [← List.flatMap_append, List.take_append_drop]
        have := congrArg List.length e
        rw [List.length_append, HT.out, List.length_append] at this
        omega
      obtain ⟨b, off, hao, _, hc⟩ := h.2.2 (by omega)
      obtain ⟨c0, ca, cc, oa, oc2, ⟨c1, c2, c3, c4, c5⟩, hr1, hr2, hr3, hr4, hr5⟩ := hc k t ht
      have kk : ∀ {ad : Addr} {v : Value}, w.cell? ad = some v → wr.cell? ad = some v := fun hv => (hb.cell (World.block_lt_of_cell? w _ hv)).trans hv
      replace c0 := kk c0
      replace c1 := kk c1
      replace c2 := kk c2
      replace c3 := kk c3
      replace c4 := kk c4
      replace c5 := kk c5
      have hE := hr1.mono (q := fun _ => True) (fun _ _ => trivial)
      have HZ : Hid (ca = none → t.es.length = 0 ∧ cc = 0) := hr4
      obtain ⟨tn, te, tl, tx, th, tp⟩ := t
      simp only at c0 c1 c2 c3 c4 c5 HT hE HZ hlen2
      subst hao
      have ba := bl1 wr (.cells #[.int .i64 tn, .slice ca te.length cc, .slice oa tl.length oc2, .int .i64 tx, .int .u64 (th : Nat), .int .i64 tp] 120)
      have x1 := cell_box wr #[.int .i64 tn, .slice ca te.length cc, .slice oa tl.length oc2, .int .i64 tx, .int .u64 (th : Nat), .int .i64 tp] 120 1 _ rfl
      have hOa := hO.bl ba
      obtain ⟨ak, hak⟩ : ∃ l, allT (ts.take k) = l := ⟨_, rfl⟩
      rw [hak] at hOa HT hlen2
      rw [hak]
      clear hc ht kk hr1 hr2 hr3 hr4 hr5 hb hO hak ba
      go_wp2_with (first | (refine wpList_load_T rfl (.tmp 10) rfl b (off + k * 6) rfl _ _ _ _ _ _ c0 c1 c2 c3 c4 c5 ?_) | (at_builtin; refine wpList_append_OX (w1 := w) rfl (.tmp 12) (.tmp 15) rfl _ ak rfl ?d1 ca te.length cc te rfl hE HZ.out ?d2 ?_))
      case d2 => omega
      intro v2 w2 hO2
      obtain ⟨o2, q2, hv2, -, -⟩ := hO2.eo.er2
      subst hv2
      rw [← HT.out] at hO2
      clear hOa x1 c0 c1 c2 c3 c4 c5
      have HL : Hid ((ak ++ te).length = (allT (ts.take (k + 1))).length) := by show _ = _; rw [HT.out]
      rw [HL.out]
      go_wp2
      go_roundw
      case rel => first | exact ⟨k + 1, o2, q2, by omega, by go_num, rfl, ⟨_, rfl⟩, hO2⟩ | ((repeat apply Exists.intro); exact ⟨⟨k + 1, o2, q2, by omega, by go_num, rfl, ⟨_, rfl⟩, hO2⟩, rfl⟩)
      case measure => simp [intOf]; omega
    · obtain rfl : n = k := by omega
      have hltI : ¬ ((n : Int) < (n : Int)) := by omega
      rw [List.take_of_length_le (by omega)] at hO
      rw [List.take_of_length_le (by omega)]
      obtain ⟨o2, q2, hv2, hz2, hE2⟩ := hO.eo.er2
      simp only [Value.slice.injEq] at hv2
      obtain ⟨rfl, -, rfl⟩ := hv2
      have hme := merge_any wr none 0 0 [] (ER.nil _ _ _) (fun _ => ⟨rfl, rfl⟩) oo (allT ts).length oc (allT ts) hE2 hz2 (by omega) (fun e he => hml e (by simpa using he))
      simp only [List.nil_append] at hme
      clear hO hE2 hz2
      go_wp2_with fail
      refine hme.mono ?_
      rintro e w2 ⟨v, rfl, hO2, u2⟩
      have uf := bl_step hb u2
      have HO : Hid (EO w.heap.size w2 v (knownT ts)) := hO2.base hb.size
      clear hme hO2
      go_wp2
      go_ret
      exact ⟨v, rfl, HO.out, uf⟩
/-- The order that is told, and behind it all other labels that were told, rising. -/
def fullT (ts : List Pt) : List Lb := shortT ts ++ out (shortT ts) ((knownT ts).map (·.1))
theorem ltL_q (x y : Lb) : Q.ltL x y ↔ ltL x y := by unfold Q.ltL ltL; exact Iff.rfl
theorem ris_ext {a b : List Lb} (ha : a.Pairwise ltL) (hb : b.Pairwise ltL) (h : ∀ x, x ∈ a ↔ x ∈ b) : a = b := by
  have key : ∀ r : List Lb, r.Pairwise ltL → Asc (r.map fun e => (e, ([] : List UInt8))) := fun r hr => by
    unfold Asc
    rw [List.pairwise_map]
    exact hr
  have mem : ∀ (r : List Lb) (z : En), z ∈ (r.map fun e => (e, ([] : List UInt8))) ↔ z.2 = [] ∧ z.1 ∈ r := fun r z => by
    rw [List.mem_map]
    constructor
    · rintro ⟨e, he, rfl⟩
      exact ⟨rfl, he⟩
    · rintro ⟨h1, h2⟩
      exact ⟨z.1, h2, by rw [← h1]⟩
  have := asc_ext (key a ha) (key b hb) (fun z => by rw [mem, mem, h z.1])
  have h2 := congrArg (List.map (·.1)) this
  rw [List.map_map, List.map_map] at h2
  have e : ∀ r : List Lb, r.map ((fun x : En => x.1) ∘ fun e => (e, ([] : List UInt8))) = r := fun r => by
    induction r with
    | nil => rfl
    | cons x r ih => rw [List.map_cons, ih]; rfl
  rw [e, e] at h2
  exact h2
theorem known_ris (ts : List Pt) : ((knownT ts).map (·.1)).Pairwise ltL := by
  rw [List.pairwise_map]
  exact mergeE_asc _ _ (by unfold Asc; simp)
theorem short_mem {ts : List Pt} {P : Lb → Prop} (h : ∀ t ∈ ts, ∀ x ∈ t.ls, P x) : ∀ x ∈ shortT ts, P x := fun x hx => by
  unfold shortT at hx
  split at hx
  · simp at hx
  · cases ha : atT ts (chT ts) with
    | none => rw [ha] at hx; simp at hx
    | some t =>
      rw [ha] at hx
      have ht : t ∈ ts := List.mem_of_find?_eq_some ha
      exact h t ht x (by simpa using hx)
theorem short_len {ts : List Pt} {n : Nat} (h : ∀ t ∈ ts, t.ls.length ≤ n) : (shortT ts).length ≤ n := by
  unfold shortT
  split
  · simp
  · cases ha : atT ts (chT ts) with
    | none => simp
    | some t => simpa using h t (List.mem_of_find?_eq_some ha)
theorem LR.own2 {w : World} {B n : Nat} {v : Value} {ls : List Lb} (h : w.ownsRow B 39 4 v n (flat ls)) : ∃ ao cap, v = .slice ao n cap ∧ LR w ao n ls ∧ (ao = none → n = 0 ∧ cap = 0) := by
  obtain ⟨ao, cap, hv, hL⟩ := LR.own h
  refine ⟨ao, cap, hv, hL, fun e => ?_⟩
  rcases id h.2 with ⟨hn, h3⟩ | ⟨g, cap', cur, hs, _⟩
  · rw [hn] at hv
    simp at hv
    exact ⟨h3, hv.2.2.symm⟩
  · rw [hs] at hv
    simp at hv
    rw [e] at hv
    simp at hv
set_option maxRecDepth 10000 in
set_option maxHeartbeats 2000000 in
theorem full_any (p : Nat → Prop) (w : World) (ao : Option Addr) (n cap : Nat) (ts : List Pt) (h : TL p w ao n ts) (hlen : (allT ts).length ≤ 5000) (hml : ∀ e ∈ allT ts, e.2.length ≤ 140737488355328) (hok : ∀ e ∈ allT ts, OkL e.1) (hll : ∀ t ∈ ts, t.ls.length ≤ 5000) (hlo : ∀ t ∈ ts, ∀ x ∈ t.ls, OkL x) :
    Calls Tryz.prog 109 #[.slice ao n cap] w fun e w' => ∃ v, e = .returned v ∧ w'.ownsRow w.heap.size 39 4 v (fullT ts).length (flat (fullT ts)) ∧ Below w.heap.size w w' := by
  have k1 := short_any p w ao n cap ts h hll
  have HSL : Hid ((shortT ts).length ≤ 5000) := short_len hll
  have HSO : Hid (∀ x ∈ shortT ts, OkL x) := short_mem hlo
  have HKO : Hid (∀ x ∈ (knownT ts).map (·.1), OkL x) := fun x hx => by
    obtain ⟨e, he, rfl⟩ := List.mem_map.1 hx
    rcases mergeE_mem _ _ e he with h | h
    · simp at h
    · exact hok e h
  have hkl : (knownT ts).length ≤ (allT ts).length := by have := mergeE_len (allT ts) []; unfold knownT; simpa using this
  go_enter Tryz.func109, Tryz.ntmps109
  go_wp2_with fail
  refine k1.mono ?_
  rintro e w1 ⟨v1, rfl, ho1, u1⟩
  obtain ⟨a1, c1, rfl, hL1, hz1⟩ := LR.own2 ho1
  have k2 := known_any p w1 ao n cap ts (h.bl u1) (by omega) hml
  clear k1 ho1
  go_wp2_with fail
  refine k2.mono ?_
  rintro e w2 ⟨v2, rfl, hO2, u2⟩
  obtain ⟨a2, c2, rfl, hz2, hE2⟩ := hO2.er2
  have k3 := labels_any _ w2 a2 (knownT ts).length c2 (knownT ts) hE2 (by omega)
  have u02 := bl_step u1 u2
  have hL2 := hL1.up u2
  clear k2 hO2 hz2 hL1
  go_wp2_with fail
  refine k3.mono ?_
  rintro e w3 ⟨v3, rfl, ho3, u3⟩
  obtain ⟨a3, c3, rfl, hL3, hz3⟩ := LR.own2 ho3
  have u03 := bl_step u02 u3
  have k4 := Q.behind_any w3 a1 (shortT ts).length c1 (shortT ts) (hL2.up u3) hz1 HSO.out a3 (knownT ts).length c3 ((knownT ts).map (·.1)) hL3 hz3 HKO.out HSL.out (by omega)
  clear k3 ho3 hE2
  go_wp2_with fail
  refine k4.mono ?_
  rintro e w4 ⟨v4, rs, rfl, hrs, hmem, ho4, u4⟩
  have hrs2 : rs = (knownT ts).map (·.1) := ris_ext (hrs.imp (fun h => (ltL_q _ _).1 h)) (known_ris ts) hmem
  subst hrs2
  have HO : Hid (w4.ownsRow w.heap.size 39 4 v4 (fullT ts).length (flat (fullT ts))) := by
    have e : (shortT ts).length + (out (shortT ts) ((knownT ts).map (·.1))).length = (fullT ts).length := by unfold fullT; rw [List.length_append]
    rw [e] at ho4
    exact own_base ho4 u03.size
  have uf := bl_step u03 u4
  clear k4 ho4 hrs hmem
  go_wp2
  go_ret
  exact ⟨v4, rfl, HO.out, uf⟩
end Go.Proofs.YtlaihgdfedalmaaGreat

/-
  Three rows that grow side by side: nodes with what they told, their numbers, and what they told.
-/
namespace Go.Proofs.YtlaihgdfedalmaaGreat
open Go.RowKit
set_option linter.unusedVariables false
set_option linter.unusedSimpArgs false

/-- What one told, and where its lists lie. -/
abbrev El := Pt × (Option Addr × Nat) × (Option Addr × Nat)
def c5 (x : El) : List Value := [.slice x.2.1.1 x.1.es.length x.2.1.2, .slice x.2.2.1 x.1.ls.length x.2.2.2, .int .i64 x.1.nx, .int .u64 (x.1.hn : Nat), .int .i64 x.1.hp]
def c6 (x : El) : List Value := .int .i64 x.1.node :: c5 x
def cN (x : El) : Value := .int .i64 x.1.node
def f5 (l : List El) : List Value := l.flatMap c5
def f6 (l : List El) : List Value := l.flatMap c6
theorem f6_snoc (l : List El) (x : El) : f6 (l ++ [x]) = f6 l ++ c6 x := by simp [f6]
theorem f6_get : ∀ (l : List El) (j : Nat) (x : El) (i : Nat), l[j]? = some x → i < 6 → (f6 l)[6 * j + i]? = (c6 x)[i]?
  | [], j, x, i, h, hi => by simp at h
  | a :: r, 0, x, i, h, hi => by
    simp at h; subst h
    rw [show f6 (a :: r) = c6 a ++ f6 r by simp [f6], List.getElem?_append_left (by simp [c6, c5]; omega)]; simp
  | a :: r, j + 1, x, i, h, hi => by
    rw [show f6 (a :: r) = c6 a ++ f6 r by simp [f6], List.getElem?_append_right (by simp [c6, c5]; omega), show 6 * (j + 1) + i - (c6 a).length = 6 * j + i by simp [c6, c5]; omega]
    exact f6_get r j x i (by simpa using h) hi
/-- Its lists, in blocks of p. -/
def Fx (p : Nat → Prop) (w : World) (x : El) : Prop :=
  ER p w x.2.1.1 x.1.es.length x.1.es ∧ LR w x.2.2.1 x.1.ls.length x.1.ls ∧ (∀ a, x.2.2.1 = some a → 0 < x.1.ls.length → p a.block) ∧ (x.2.1.1 = none → x.1.es.length = 0 ∧ x.2.1.2 = 0) ∧ (x.2.2.1 = none → x.1.ls.length = 0 ∧ x.2.2.2 = 0)
theorem Fx.kp {p : Nat → Prop} {w w' : World} {x : El} (h : Fx p w x) (k : Kp p w w') : Fx p w' x := ⟨h.1.kp k, h.2.1.kp h.2.2.1 k, h.2.2.1, h.2.2.2.1, h.2.2.2.2⟩
theorem Fx.mono {p q : Nat → Prop} {w : World} {x : El} (h : Fx p w x) (hq : ∀ k, p k → q k) : Fx q w x := ⟨h.1.mono hq, h.2.1, fun a ha hn => hq _ (h.2.2.1 a ha hn), h.2.2.2.1, h.2.2.2.2⟩
structure Tol (w0 w : World) (p : Nat → Prop) (vt vn vs : Value) (et en es : List El) : Prop where
  lt : ∀ k, p k → k < w.heap.size
  old : ∀ k, k < w0.heap.size → p k
  rt : w.ownsRow w0.heap.size 120 6 vt et.length (f6 et)
  rn : w.ownsRow w0.heap.size 3 1 vn en.length (en.map cN)
  rs : w.ownsRow w0.heap.size 45 5 vs es.length (f5 es)
  nt : ∀ k, vt.ownBlock = some k → ¬ p k ∧ vn.ownBlock ≠ some k ∧ vs.ownBlock ≠ some k
  nn : ∀ k, vn.ownBlock = some k → ¬ p k ∧ vs.ownBlock ≠ some k
  ns : ∀ k, vs.ownBlock = some k → ¬ p k
  ft : ∀ x ∈ et, Fx p w x
  fs : ∀ x ∈ es, Fx p w x
  bl : Below w0.heap.size w0 w
theorem Tol.nil (w : World) : Tol w w (fun k => k < w.heap.size) (.slice none 0 0) (.slice none 0 0) (.slice none 0 0) [] [] [] where
  lt := fun _ h => h
  old := fun _ h => h
  rt := World.ownsRow_nil _ _ _ _
  rn := World.ownsRow_nil _ _ _ _
  rs := World.ownsRow_nil _ _ _ _
  nt := fun k h => by cases h
  nn := fun k h => by cases h
  ns := fun k h => by cases h
  ft := fun x h => by cases h
  fs := fun x h => by cases h
  bl := Below.refl _ _
/-- One block turns that is none of these, or new ones come. -/
theorem Tol.gr {w0 w w' : World} {p : Nat → Prop} {vt vn vs : Value} {et en es : List El} {row : Option Nat} (h : Tol w0 w p vt vn vs et en es) (g : w.grownBy w' row) (hr : ∀ k, row = some k → w0.heap.size ≤ k ∧ ¬ p k ∧ vt.ownBlock ≠ some k ∧ vn.ownBlock ≠ some k ∧ vs.ownBlock ≠ some k) : Tol w0 w' p vt vn vs et en es := by
  have kk : Kp p w w' := fun ad v hp hv => (World.cell?_of_block (g.block _ (World.block_lt_of_cell? w _ hv) (fun e => (hr _ e.symm).2.1 hp))).trans hv
  have own : ∀ {t s n v xs}, w.ownsRow w0.heap.size t s v n xs → (∀ k, row = some k → v.ownBlock ≠ some k) → w'.ownsRow w0.heap.size t s v n xs := fun {t s n v xs} h hv => by
    refine h.kept (row := row) g ?_
    cases row with
    | none => cases v.ownBlock with | none => exact Or.inl rfl | some k => exact Or.inr (by simp)
    | some k => exact Or.inr (hv k rfl)
  exact { lt := fun k hk => Nat.lt_of_lt_of_le (h.lt k hk) g.size, old := h.old, rt := own h.rt (fun k e => (hr k e).2.2.1), rn := own h.rn (fun k e => (hr k e).2.2.2.1), rs := own h.rs (fun k e => (hr k e).2.2.2.2), nt := h.nt, nn := h.nn, ns := h.ns, ft := fun x hx => (h.ft x hx).kp kk, fs := fun x hx => (h.fs x hx).kp kk, bl := bl_grown h.bl h.bl.size g (fun k e => (hr k e).1) }
theorem Tol.up {w0 w w' : World} {p : Nat → Prop} {vt vn vs : Value} {et en es : List El} (h : Tol w0 w p vt vn vs et en es) (u : Below w.heap.size w w') : Tol w0 w' p vt vn vs et en es :=
  h.gr (row := none) ⟨u.os, u.tape, u.output, u.size, fun i hi _ => u.block i hi⟩ (fun k e => by cases e)
/-- New blocks are read, too. -/
theorem Tol.more {w0 w w' : World} {p : Nat → Prop} {vt vn vs : Value} {et en es : List El} (h : Tol w0 w p vt vn vs et en es) (u : Below w.heap.size w w') : Tol w0 w' (fun k => p k ∨ w.heap.size ≤ k ∧ k < w'.heap.size) vt vn vs et en es := by
  have h2 := h.up u
  have lt : ∀ {t s n v xs}, w.ownsRow w0.heap.size t s v n xs → ∀ k, v.ownBlock = some k → ¬ (w.heap.size ≤ k ∧ k < w'.heap.size) := fun {t s n v xs} ho k hk => by have := (ho.lt k hk).2; omega
  exact { h2 with
    lt := fun k hk => by rcases hk with hk | hk; exact h2.lt k hk; exact hk.2
    old := fun k hk => .inl (h.old k hk)
    nt := fun k hk => ⟨by rintro (h1 | h1); exact (h.nt k hk).1 h1; exact lt h.rt k hk h1, (h.nt k hk).2⟩
    nn := fun k hk => ⟨by rintro (h1 | h1); exact (h.nn k hk).1 h1; exact lt h.rn k hk h1, (h.nn k hk).2⟩
    ns := fun k hk => by rintro (h1 | h1); exact h.ns k hk h1; exact lt h.rs k hk h1
    ft := fun x hx => (h2.ft x hx).mono (fun k hk => .inl hk)
    fs := fun x hx => (h2.fs x hx).mono (fun k hk => .inl hk) }
theorem own_ne {w0 w : World} {t : TypeId} {s n : Nat} {v : Value} {xs : List Value} (h : w.ownsRow w0.heap.size t s v n xs) : ∀ k, v.ownBlock = some k → w0.heap.size ≤ k ∧ k < w.heap.size := fun k hk => h.lt k hk
/-- One more of each. -/
theorem Tol.putT {w0 w w' : World} {p : Nat → Prop} {vt vn vs vt' : Value} {et en es : List El} {x : El} (h : Tol w0 w p vt vn vs et en es) (g : w.grownBy w' vt.ownBlock) (ho : w'.ownsRow w0.heap.size 120 6 vt' (et.length + 1) (f6 (et ++ [x]))) (hat : vt'.ownBlock = vt.ownBlock ∨ ∃ k, vt'.ownBlock = some k ∧ w.heap.size ≤ k) (hx : Fx p w x) : Tol w0 w' p vt' vn vs (et ++ [x]) en es := by
  have kk : Kp p w w' := fun ad v hp hv => (World.cell?_of_block (g.block _ (World.block_lt_of_cell? w _ hv) (fun e => (h.nt _ e.symm).1 hp))).trans hv
  have own : ∀ {t s n v xs}, w.ownsRow w0.heap.size t s v n xs → (∀ k, vt.ownBlock = some k → v.ownBlock ≠ some k) → w'.ownsRow w0.heap.size t s v n xs := fun {t s n v xs} h hv => by
    refine h.kept (row := vt.ownBlock) g ?_
    cases hvt : vt.ownBlock with
    | none => cases v.ownBlock with | none => exact Or.inl rfl | some k => exact Or.inr (by simp)
    | some k => exact Or.inr (hv k hvt)
  refine { lt := fun k hk => Nat.lt_of_lt_of_le (h.lt k hk) g.size, old := h.old, rt := by rw [List.length_append]; exact ho, rn := own h.rn (fun k e => (h.nt k e).2.1), rs := own h.rs (fun k e => (h.nt k e).2.2), nt := fun k hk => ?_, nn := h.nn, ns := h.ns, ft := fun y hy => ?_, fs := fun y hy => (h.fs y hy).kp kk, bl := bl_grown h.bl h.bl.size g (fun k hk => (own_ne h.rt k hk).1) }
  · rcases hat with e | ⟨j, e, hj⟩
    · exact h.nt k (e ▸ hk)
    · rw [e] at hk
      simp at hk
      subst hk
      exact ⟨fun hp => by have := h.lt _ hp; omega, fun e2 => by have := (own_ne h.rn _ e2).2; omega, fun e2 => by have := (own_ne h.rs _ e2).2; omega⟩
  · rcases List.mem_append.1 hy with hy | hy
    · exact (h.ft y hy).kp kk
    · rw [List.mem_singleton] at hy
      subst hy
      exact hx.kp kk
end Go.Proofs.YtlaihgdfedalmaaGreat

/-
  Package total's node in memory.
-/
namespace Go.Proofs.YtlaihgdfedalmaaGreat
open Go.RowKit Go.Sort
set_option linter.unusedVariables false

/-- Of what was there only blocks of F have turned. -/
structure Turned (F : Nat → Prop) (w w' : World) : Prop where
  os : w'.os = w.os
  tape : w'.tape = w.tape
  output : w'.output = w.output
  size : w.heap.size ≤ w'.heap.size
  block : ∀ k, k < w.heap.size → ¬ F k → w'.heap[k]? = w.heap[k]?
theorem Turned.refl (F : Nat → Prop) (w : World) : Turned F w w := ⟨rfl, rfl, rfl, Nat.le_refl _, fun _ _ _ => rfl⟩
theorem Turned.trans {F F' : Nat → Prop} {a b c : World} (h : Turned F a b) (k : Turned F' b c) (hF : ∀ i, F' i → F i ∨ a.heap.size ≤ i) : Turned F a c :=
  ⟨k.os.trans h.os, k.tape.trans h.tape, k.output.trans h.output, Nat.le_trans h.size k.size, fun i hi hn => (k.block i (Nat.lt_of_lt_of_le hi h.size) (fun hf => (hF i hf).elim hn (fun hle => by omega))).trans (h.block i hi hn)⟩
theorem Turned.mono {F F' : Nat → Prop} {a b : World} (h : Turned F a b) (hF : ∀ i, F i → F' i) : Turned F' a b :=
  ⟨h.os, h.tape, h.output, h.size, fun i hi hn => h.block i hi (fun hf => hn (hF i hf))⟩
theorem Turned.of_grown {F : Nat → Prop} {w w' : World} {row : Option Nat} (h : w.grownBy w' row) (hr : ∀ k, row = some k → F k) : Turned F w w' :=
  ⟨h.os, h.tape, h.output, h.size, fun i hi hn => h.block i hi (fun e => hn (hr i e.symm))⟩
theorem Turned.of_below {F : Nat → Prop} {w w' : World} (h : Below w.heap.size w w') : Turned F w w' := ⟨h.os, h.tape, h.output, h.size, fun k hk _ => h.block k hk⟩
theorem Turned.alloc {F : Nat → Prop} {a w : World} (h : Turned F a w) (o : Obj) : Turned F a (w.alloc o) :=
  h.trans (Turned.of_grown (F := fun _ => False) (World.grownBy_alloc w o none) (by simp)) (by simp)
theorem Turned.drewN {F : Nat → Prop} {a w : World} (h : Turned F a w) (q : Nat) : Turned F a (w.drewN q) := ⟨h.os, h.tape, h.output, h.size, h.block⟩
theorem Turned.drew {F : Nat → Prop} {a w : World} (h : Turned F a w) : Turned F a w.drew := ⟨h.os, h.tape, h.output, h.size, h.block⟩
theorem Turned.setCell {F : Nat → Prop} {a w : World} (h : Turned F a w) {p : Addr} (hp : F p.block ∨ a.heap.size ≤ p.block) (u : Value) : Turned F a (w.setCell p u) :=
  h.trans (F' := fun i => i = p.block) ⟨rfl, rfl, rfl, by simp [World.setCell], fun k hk hn => Below.heap_setCell _ _ _ _ hn⟩ (by rintro i rfl; exact hp)
theorem Turned.below {F : Nat → Prop} {w w' : World} (h : Turned F w w') {B : Nat} (hB : B ≤ w.heap.size) (hF : ∀ i, F i → B ≤ i) : Below B w w' :=
  ⟨h.os, h.tape, h.output, h.size, fun k hk => h.block k (by omega) (fun hf => by have := hF k hf; omega)⟩
theorem Turned.bl {w w' : World} (h : Turned (fun _ => False) w w') : Below w.heap.size w w' := h.below (Nat.le_refl _) (fun _ f => f.elim)
theorem Turned.kp {F p : Nat → Prop} {w w' : World} (h : Turned F w w') (hp : ∀ b, p b → ¬ F b) : Kp p w w' := fun ad v hb hc => by
  have hl := World.block_lt_of_cell? w _ hc
  have := h.block _ hl (hp _ hb)
  rw [World.cell?_of_block (w := w) this]; exact hc
theorem cell_block {w w' : World} {b o : Nat} (h : w'.heap[b]? = w.heap[b]?) : w'.cell? ⟨b, o, none⟩ = w.cell? ⟨b, o, none⟩ := World.cell?_of_block (w := w) h
theorem frozen_block {w w' : World} {b o : Nat} (h : w'.heap[b]? = w.heap[b]?) : w'.frozen? ⟨b, o, none⟩ = w.frozen? ⟨b, o, none⟩ := World.frozen?_of_block (w := w) h
theorem Kp.up {p : Nat → Prop} {w w' : World} (u : Below w.heap.size w w') : Kp p w w' := Kp.bl u

/-- A node: plain data. K bounds how often something was laid into its maps. -/
structure Tot where
  n : Int
  self : Int
  qc : Nat
  acc : Nat
  vn : Nat
  vp : Int
  vs : Nat
  st : Nat
  seq : Nat
  dl : List (List UInt8)
  buf : List En
  con : List En
  ord : List Lb
  nx : Int
  rep : Int
  hn : Nat
  hp : Int
  told : List Pt
  sf : Nat
  safe : List Lb
  K : Nat
/-- Where its parts lie. -/
structure Ta where
  c : Nat
  cb : Nat
  ab : Nat
  sb : Nat
  bv : Value
  ov : Value
  tv : Value
def tcell (T : Tot) (a : Ta) : Nat → Value
  | 0 => .int .i64 T.n
  | 1 => .int .i64 T.self
  | 2 => .chan (some a.c)
  | 3 => .int .i64 (T.acc : Nat)
  | 4 => .int .u64 (T.vn : Nat)
  | 5 => .int .i64 T.vp
  | 6 => .int .u16 (T.vs : Nat)
  | 7 => .int .u8 (T.st : Nat)
  | 8 => .int .u64 (T.seq : Nat)
  | 9 => a.bv
  | 10 => .map (some a.cb)
  | 11 => a.ov
  | 12 => .map (some a.ab)
  | 13 => .int .i64 T.nx
  | 14 => .int .i64 T.rep
  | 15 => .int .u64 (T.hn : Nat)
  | 16 => .int .i64 T.hp
  | 17 => a.tv
  | 18 => .int .u16 (T.sf : Nat)
  | 19 => .map (some a.sb)
  | _ => undef
/-- A message: its bytes lie in blocks that nobody writes to. -/
def Mg (Z : Nat → Prop) (w : World) (s : Sv) (b : List UInt8) : Prop := Cd.Row w s.1 s.2.1 s.2.2 b ∧ ∀ ad, s.1 = some ad → 0 < s.2.1 → Z ad.block
theorem Mg.kp {Z Z' : Nat → Prop} {w w' : World} {s : Sv} {b : List UInt8} (h : Mg Z w s b) (k : Kp Z w w') (hz : ∀ k, Z k → Z' k) : Mg Z' w' s b := ⟨row_kp h.1 h.2 k, fun ad e hn => hz _ (h.2 ad e hn)⟩
/-- The parts of a node: each block has a colour (0: none of its). -/
structure Td (w : World) (col : Nat → Nat) (Z : Nat → Prop) (T : Tot) (a : Ta) : Prop where
  ch : ∃ (s r : Nat) (vs : List Sv), w.heap[a.c]? = some (.chan T.qc (vs.map sv).toArray false s r false) ∧ vs.length = T.dl.length ∧ ∀ (j : Nat) x b, vs[j]? = some x → T.dl[j]? = some b → Mg Z w x b
  con : ∃ m, StoIs w a.cb T.K m ∧ Con w m T.con ∧ ∀ x s, OkL x → m x = some s → ∀ ad, s.1 = some ad → 0 < s.2.1 → Z ad.block
  am : ∃ S, Q.SetIs w a.ab T.K S ∧ ∀ x, x ∈ S ↔ x ∈ T.ord
  sa : ∃ S, Q.SetIs w a.sb T.K S ∧ ∀ x, x ∈ S ↔ x ∈ T.safe
  bu : ∃ xs : List (Lb × Sv), xs.length = T.buf.length ∧ Rw w 41 5 a.bv T.buf.length (flatE xs) ∧ ∀ (j : Nat) e x, T.buf[j]? = some e → xs[j]? = some x → x.1 = e.1 ∧ Mg Z w x.2 e.2
  od : Rw w 39 4 a.ov T.ord.length (flat T.ord)
  tl : ∃ xs : List El, xs.map (·.1) = T.told ∧ Rw w 120 6 a.tv T.told.length (f6 xs) ∧ ∀ x ∈ xs, Fx Z w x
  cc : col a.c = 2
  ccb : col a.cb = 3
  cab : col a.ab = 4
  csb : col a.sb = 5
  cbv : ∀ b, a.bv.ownBlock = some b → col b = 6
  cov : ∀ b, a.ov.ownBlock = some b → col b = 7
  ctv : ∀ b, a.tv.ownBlock = some b → col b = 8
  lt : ∀ b, 0 < col b → b < w.heap.size
  zf : ∀ b, Z b → col b = 0
  zl : ∀ b, Z b → b < w.heap.size
/-- A node in memory. -/
structure Tt (w : World) (col : Nat → Nat) (Z : Nat → Prop) (q : Nat) (T : Tot) (a : Ta) : Prop where
  cell : ∀ k, k < 20 → w.cell? ⟨q, k, none⟩ = some (tcell T a k)
  fr : ∀ k, w.frozen? ⟨q, k, none⟩ = false
  fq : col q = 1
  d : Td w col Z T a
section
variable {w w' : World} {col : Nat → Nat} {Z Z' : Nat → Prop} {q : Nat} {T : Tot} {a : Ta}
theorem Td.frame (h : Td w col Z T a) (hb : ∀ b, 1 < col b → w'.heap[b]? = w.heap[b]?) (hsz : w.heap.size ≤ w'.heap.size) (hk : Kp Z w w') (hz : ∀ b, Z b → Z' b) (hzf : ∀ b, Z' b → col b = 0) (hzl : ∀ b, Z' b → b < w'.heap.size) : Td w' col Z' T a where
  ch := by
    obtain ⟨s, r, vs, h1, h2, h3⟩ := h.ch
    exact ⟨s, r, vs, by rw [hb _ (by rw [h.cc]; omega)]; exact h1, h2, fun j x b e1 e2 => (h3 j x b e1 e2).kp hk hz⟩
  con := by
    obtain ⟨m, h1, h2, h3⟩ := h.con
    refine ⟨m, h1.of_block (hb _ (by rw [h.ccb]; omega)), ⟨h2.1, h2.2.1, h2.2.2.1, fun x s hx hs => ?_⟩, fun x s hx hs ad e hn => hz _ (h3 x s hx hs ad e hn)⟩
    obtain ⟨bs, e1, e2⟩ := h2.2.2.2 x s hx hs
    exact ⟨bs, e1, row_kp e2 (h3 x s hx hs) hk⟩
  am := by
    obtain ⟨S, h1, h2⟩ := h.am
    exact ⟨S, h1.of_block (hb _ (by rw [h.cab]; omega)), h2⟩
  sa := by
    obtain ⟨S, h1, h2⟩ := h.sa
    exact ⟨S, h1.of_block (hb _ (by rw [h.csb]; omega)), h2⟩
  bu := by
    obtain ⟨xs, h1, h2, h3⟩ := h.bu
    exact ⟨xs, h1, h2.frame (fun b e => hb b (by rw [h.cbv b e]; omega)), fun j e x e1 e2 => ⟨(h3 j e x e1 e2).1, (h3 j e x e1 e2).2.kp hk hz⟩⟩
  od := h.od.frame (fun b e => hb b (by rw [h.cov b e]; omega))
  tl := by
    obtain ⟨xs, h1, h2, h3⟩ := h.tl
    exact ⟨xs, h1, h2.frame (fun b e => hb b (by rw [h.ctv b e]; omega)), fun x hx => ((h3 x hx).kp hk).mono hz⟩
  cc := h.cc
  ccb := h.ccb
  cab := h.cab
  csb := h.csb
  cbv := h.cbv
  cov := h.cov
  ctv := h.ctv
  lt := fun b hb => Nat.lt_of_lt_of_le (h.lt b hb) hsz
  zf := hzf
  zl := hzl
theorem Tt.frame (h : Tt w col Z q T a) (hb : ∀ b, 0 < col b → w'.heap[b]? = w.heap[b]?) (hsz : w.heap.size ≤ w'.heap.size) (hk : Kp Z w w') (hz : ∀ b, Z b → Z' b) (hzf : ∀ b, Z' b → col b = 0) (hzl : ∀ b, Z' b → b < w'.heap.size) : Tt w' col Z' q T a where
  cell := fun k hk => by rw [cell_block (hb q (by rw [h.fq]; omega))]; exact h.cell k hk
  fr := fun k => by rw [frozen_block (hb q (by rw [h.fq]; omega))]; exact h.fr k
  fq := h.fq
  d := h.d.frame (fun b e => hb b (by omega)) hsz hk hz hzf hzl
/-- Only new blocks came. -/
theorem Tt.still (h : Tt w col Z q T a) (u : Below w.heap.size w w') : Tt w' col Z q T a :=
  h.frame (fun b hb => u.block b (h.d.lt b hb)) u.size (Kp.bl u) (fun _ e => e) h.d.zf (fun b e => Nat.lt_of_lt_of_le (h.d.zl b e) u.size)
/-- A cell of the node's own is written to; the parts are as they were. -/
theorem Tt.setc (h : Tt w col Z q T a) {T' : Tot} {a' : Ta} (k : Nat) (v : Value) (hc : ∀ j, j < 20 → tcell T' a' j = if j = k then v else tcell T a j) (hk : k < 20)
    (hd : ∀ W : World, Td W col Z T a → Td W col Z T' a') : Tt (w.setCell ⟨q, k, none⟩ v) col Z q T' a' where
  cell := fun j hj => by
    rw [hc j hj]
    by_cases e : j = k
    · subst e
      rw [if_pos rfl]
      exact World.cell?_setCell_same w _ _ (h.cell j hj)
    · rw [if_neg e, World.cell?_setCell_other _ _ _ _ (by intro h; simp only [Addr.mk.injEq] at h; omega)]
      exact h.cell j hj
  fr := fun j => by rw [World.frozen?_setCell]; exact h.fr j
  fq := h.fq
  d := hd _ (h.d.frame (fun b hb => Below.heap_setCell _ _ _ _ (fun e => by have e' : b = q := (by first | exact e | exact e.symm); rw [e', h.fq] at hb; omega)) (by simp [World.setCell]) (fun ad u hz hu => by
    rw [World.cell?_setCell_other _ _ _ _ (fun e => by have := h.d.zf _ hz; have h1 := h.fq; rw [← e] at this; simp at this; omega)]
    exact hu) (fun _ e => e) h.d.zf (fun b e => by have := h.d.zl b e; simpa [World.setCell] using this))
end
end Go.Proofs.YtlaihgdfedalmaaGreat

/-
  A node's parts turn: one more message under its label; one more entry that waits to be sent.
-/
namespace Go.Proofs.YtlaihgdfedalmaaGreat
open Go.RowKit Go.Sort
set_option linter.unusedVariables false

theorem set_mono {w : World} {b n n' : Nat} {ls : List Lb} (h : Q.SetIs w b n ls) (hn : n ≤ n') : Q.SetIs w b n' ls := by
  obtain ⟨D, ho, hD⟩ := h
  exact ⟨D, ho.mono hn, hD⟩
theorem find_iff {es : List En} (h : Asc es) (x : Lb) (bs : List UInt8) : findE es x = some bs ↔ (x, bs) ∈ es := ⟨find_mem, fun hm => mem_find h hm⟩
theorem find_none {es : List En} (h : Asc es) {x : Lb} : findE es x = none ↔ ∀ bs, (x, bs) ∉ es := by
  constructor
  · intro hf bs hm
    rw [mem_find h hm] at hf
    cases hf
  · intro hn
    cases hf : findE es x with
    | none => rfl
    | some bs => exact absurd (find_mem hf) (hn bs)
theorem mem_insR {e y : En} : ∀ {l : List En}, y ∈ insR e l ↔ y = e ∨ y ∈ l
  | [] => by simp [insR]
  | z :: r => by
    unfold insR
    split
    · simp
    · rw [List.mem_cons, mem_insR, List.mem_cons]
      constructor
      · rintro (h | h | h) <;> simp [h]
      · rintro (h | h | h) <;> simp [h]
/-- One more in the store. -/
theorem Con.put {w : World} {m : Lb → Option Sv} {es : List En} (h : Con w m es) {x : Lb} (hx : OkL x) {s : Sv} {b : List UInt8} (hr : Cd.Row w s.1 s.2.1 s.2.2 b) : Con w (putM m x s) (mstep es (x, b)) := by
  have ha : Asc (mstep es (x, b)) := mstep_asc h.1
  cases hm : m x with
  | some u =>
    have e1 : putM m x s = m := by funext y; unfold putM; simp [hm]
    obtain ⟨bs, e2, _⟩ := h.2.2.2 x u hx hm
    have e3 : mstep es (x, b) = es := by unfold mstep; simp [e2]
    rw [e1, e3]
    exact h
  | none =>
    have hf := h.2.2.1 x hx hm
    have e3 : mstep es (x, b) = insR (x, b) es := by unfold mstep; simp [hf]
    have hn := (find_none h.1).1 hf
    refine ⟨ha, fun e he => ?_, fun y hy hym => ?_, fun y t hy hyt => ?_⟩
    · rw [e3, mem_insR] at he
      rcases he with rfl | he
      · exact hx
      · exact h.2.1 e he
    · unfold putM at hym
      rw [hm] at hym
      by_cases e : y = x
      · subst e; simp at hym
      · simp [e] at hym
        rw [find_none ha]
        intro bs hb
        rw [e3, mem_insR] at hb
        rcases hb with hb | hb
        · simp at hb; exact e hb.1
        · exact (find_none h.1).1 (h.2.2.1 y hy hym) bs hb
    · unfold putM at hyt
      rw [hm] at hyt
      by_cases e : y = x
      · subst e
        simp at hyt
        subst hyt
        exact ⟨b, (find_iff ha _ _).2 (by rw [e3, mem_insR]; exact .inl rfl), hr⟩
      · simp [e] at hyt
        obtain ⟨bs, q1, q2⟩ := h.2.2.2 y t hy hyt
        exact ⟨bs, (find_iff ha _ _).2 (by rw [e3, mem_insR]; exact .inr (find_mem q1)), q2⟩
/-- What a call may have turned: the node's own blocks. -/
structure Gt (w : World) (col : Nat → Nat) (w' : World) (col' : Nat → Nat) : Prop where
  turned : Turned (fun b => 0 < col b) w w'
  foot : ∀ b, 0 < col' b → 0 < col b ∨ w.heap.size ≤ b
theorem Gt.refl (w : World) (col : Nat → Nat) : Gt w col w col := ⟨Turned.refl _ _, fun _ h => .inl h⟩
theorem Gt.trans {w w' w'' : World} {c c' c'' : Nat → Nat} (h : Gt w c w' c') (k : Gt w' c' w'' c'') : Gt w c w'' c'' :=
  ⟨h.turned.trans k.turned h.foot, fun b hb => (k.foot b hb).elim (h.foot b) (fun hle => .inr (Nat.le_trans h.turned.size hle))⟩
theorem Gt.bl {w w' : World} (col : Nat → Nat) (u : Below w.heap.size w w') : Gt w col w' col := ⟨Turned.of_below u, fun _ h => .inl h⟩
theorem Gt.gr {w w' : World} {col : Nat → Nat} {row : Option Nat} (g : w.grownBy w' row) (hr : ∀ k, row = some k → 0 < col k) : Gt w col w' col := ⟨Turned.of_grown g hr, fun _ h => .inl h⟩
theorem Gt.set {w : World} {col : Nat → Nat} {q k : Nat} (hq : 0 < col q) (v : Value) : Gt w col (w.setCell ⟨q, k, none⟩ v) col := ⟨(Turned.refl _ _).setCell (.inl hq) v, fun _ h => .inl h⟩
section
variable {w w' : World} {col : Nat → Nat} {Z : Nat → Prop} {q : Nat} {T : Tot} {a : Ta}
/-- The store's block has turned. -/
theorem Tt.putC (h : Tt w col Z q T a) {m : Lb → Option Sv} {x : Lb} {s : Sv} {b : List UInt8} (hm : Con w m T.con ∧ ∀ x s, OkL x → m x = some s → ∀ ad, s.1 = some ad → 0 < s.2.1 → Z ad.block) (hx : OkL x) (hg : Mg Z w s b)
    (hS : StoIs w' a.cb (T.K + 1) (putM m x s)) (g : w.grownBy w' (some a.cb)) : Tt w' col Z q { T with con := mstep T.con (x, b), K := T.K + 1 } a := by
  have hcb := h.d.ccb
  have hkp : Kp Z w w' := (Turned.of_grown (F := fun k => k = a.cb) g (by simp)).kp (fun k hz e => by have := h.d.zf k hz; rw [e, hcb] at this; omega)
  have hb : ∀ k, k ≠ a.cb → k < w.heap.size → w'.heap[k]? = w.heap[k]? := fun k hk hl => g.block k hl (by simpa using hk)
  have hcol : ∀ k, 0 < col k → col k ≠ 3 → w'.heap[k]? = w.heap[k]? := fun k h1 h2 => hb k (fun e => h2 (by rw [e, hcb])) (h.d.lt k h1)
  have hC := (hm.1.put hx hg.1)
  refine ⟨fun k hk => ?_, fun k => ?_, h.fq, ?_⟩
  · rw [cell_block (hcol q (by rw [h.fq]; omega) (by rw [h.fq]; omega))]
    exact h.cell k hk
  · rw [frozen_block (hcol q (by rw [h.fq]; omega) (by rw [h.fq]; omega))]
    exact h.fr k
  · refine { ch := ?_, con := ?_, am := ?_, sa := ?_, bu := ?_, od := ?_, tl := ?_, cc := h.d.cc, ccb := h.d.ccb, cab := h.d.cab, csb := h.d.csb, cbv := h.d.cbv, cov := h.d.cov, ctv := h.d.ctv, lt := fun b hb => Nat.lt_of_lt_of_le (h.d.lt b hb) g.size, zf := h.d.zf, zl := fun b hb => Nat.lt_of_lt_of_le (h.d.zl b hb) g.size }
    · obtain ⟨s', r, vs, h1, h2, h3⟩ := h.d.ch
      exact ⟨s', r, vs, by rw [hcol _ (by rw [h.d.cc]; omega) (by rw [h.d.cc]; omega)]; exact h1, h2, fun j y c e1 e2 => (h3 j y c e1 e2).kp hkp (fun _ e => e)⟩
    · refine ⟨_, hS, ⟨hC.1, hC.2.1, hC.2.2.1, fun y t hy hyt => ?_⟩, fun y t hy hyt ad e hn => ?_⟩
      · obtain ⟨bs, q1, q2⟩ := hC.2.2.2 y t hy hyt
        refine ⟨bs, q1, row_kp q2 (fun ad e hn => ?_) hkp⟩
        unfold putM at hyt
        split at hyt
        · cases hyt; exact hg.2 ad e hn
        · exact hm.2 y t hy hyt ad e hn
      · unfold putM at hyt
        split at hyt
        · cases hyt; exact hg.2 ad e hn
        · exact hm.2 y t hy hyt ad e hn
    · obtain ⟨S, h1, h2⟩ := h.d.am
      exact ⟨S, set_mono (h1.of_block (hcol _ (by rw [h.d.cab]; omega) (by rw [h.d.cab]; omega))) (Nat.le_succ _), h2⟩
    · obtain ⟨S, h1, h2⟩ := h.d.sa
      exact ⟨S, set_mono (h1.of_block (hcol _ (by rw [h.d.csb]; omega) (by rw [h.d.csb]; omega))) (Nat.le_succ _), h2⟩
    · obtain ⟨xs, h1, h2, h3⟩ := h.d.bu
      exact ⟨xs, h1, h2.frame (fun b e => hcol b (by rw [h.d.cbv b e]; omega) (by rw [h.d.cbv b e]; omega)), fun j e x e1 e2 => ⟨(h3 j e x e1 e2).1, (h3 j e x e1 e2).2.kp hkp (fun _ e => e)⟩⟩
    · exact h.d.od.frame (fun b e => hcol b (by rw [h.d.cov b e]; omega) (by rw [h.d.cov b e]; omega))
    · obtain ⟨xs, h1, h2, h3⟩ := h.d.tl
      exact ⟨xs, h1, h2.frame (fun b e => hcol b (by rw [h.d.ctv b e]; omega) (by rw [h.d.ctv b e]; omega)), fun x hx => (h3 x hx).kp hkp⟩
end
end Go.Proofs.YtlaihgdfedalmaaGreat

/-
  A node's buffer: one more entry behind the others.
-/
namespace Go.Proofs.YtlaihgdfedalmaaGreat
open Go.RowKit Go.Sort
set_option linter.unusedVariables false

theorem infoE41 : (Tryz.prog.info? 41).map (fun i => (i.zero, i.size, i.bytes)) = some (some (.agg #[.int .u64 0, .int .i64 0, .int .u64 0, .int .i64 0, .slice none 0 0]), 5, 56) := infoE29
/-- A colour for a row that has moved. -/
def recol (col : Nat → Nat) (old new : Option Nat) (c : Nat) : Nat → Nat := fun k => if new = some k then c else if old = some k then 0 else col k
section
variable {w w1 w2 : World} {col : Nat → Nat} {Z : Nat → Prop} {q : Nat} {T : Tot} {a : Ta}
theorem Tt.putB (h : Tt w col Z q T a) (u : Below w.heap.size w w1) (v : Value) {xs : List (Lb × Sv)} (hxl : xs.length = T.buf.length) (hxm : ∀ (j : Nat) e x, T.buf[j]? = some e → xs[j]? = some x → x.1 = e.1 ∧ Mg Z w x.2 e.2)
    {x : Lb} {s : Sv} {b : List UInt8} (hg : Mg Z w s b) (hR : Rw w2 41 5 v (T.buf.length + 1) (flatE xs ++ cells5 (x, s))) (g : w1.grownBy w2 a.bv.ownBlock) (loc : ∀ b, v.ownBlock = some b → a.bv.ownBlock = some b ∨ w1.heap.size ≤ b) :
    ∃ col', Tt (w2.setCell ⟨q, 9, none⟩ v) col' Z q { T with buf := T.buf ++ [(x, b)] } { a with bv := v } ∧ Gt w col (w2.setCell ⟨q, 9, none⟩ v) col' := by
  have h1 := h.still u
  have hsz := u.size
  have hgs := g.size
  have hfq := h.fq
  have hbl : ∀ k, 0 < col k → col k ≠ 6 → w2.heap[k]? = w.heap[k]? := fun k p1 p2 => (g.block k (h1.d.lt k p1) (fun e => p2 (h.d.cbv k e.symm))).trans (u.block k (h.d.lt k p1))
  have hkp : Kp Z w w2 := (Kp.bl u).trans ((Turned.of_grown (F := fun k => a.bv.ownBlock = some k) g (fun k e => e)).kp (fun k hz e => by have := h.d.zf k hz; rw [h.d.cbv k e] at this; omega))
  have hnew : ∀ k, v.ownBlock = some k → ¬ Z k ∧ (0 < col k → col k = 6) := fun k e => by
    rcases loc k e with e' | e'
    · have := h.d.cbv k e'
      exact ⟨fun hz => by have := h.d.zf k hz; omega, fun _ => this⟩
    · exact ⟨fun hz => by have := h.d.zl k hz; omega, fun hc => by have := h.d.lt k hc; omega⟩
  have hcol : ∀ k c, col k = c → 0 < c → c ≠ 6 → recol col a.bv.ownBlock v.ownBlock 6 k = c := fun k c e hc h6 => by
    unfold recol
    rw [if_neg (fun e' => by have := (hnew k e').2 (by omega); omega), if_neg (fun e' => by have := h.d.cbv k e'; omega)]
    exact e
  have hset : ∀ k, k ≠ q → (w2.setCell ⟨q, 9, none⟩ v).heap[k]? = w2.heap[k]? := fun k hk => Below.heap_setCell _ _ _ _ hk
  have hblk : ∀ k c, col k = c → 1 < c → c ≠ 6 → (w2.setCell ⟨q, 9, none⟩ v).heap[k]? = w.heap[k]? := fun k c e hc h6 => (hset k (fun e' => by rw [e', hfq] at e; omega)).trans (hbl k (by omega) (by omega))
  have hkp2 : Kp Z w (w2.setCell ⟨q, 9, none⟩ v) := fun ad u hz hu => by
    rw [World.cell?_setCell_other _ _ _ _ (fun e => by have := h.d.zf _ hz; rw [← e] at this; simp at this; omega)]
    exact hkp ad u hz hu
  have hs2 : (w2.setCell ⟨q, 9, none⟩ v).heap.size = w2.heap.size := by simp [World.setCell]
  have hqb : w2.heap[q]? = w.heap[q]? := hbl q (by omega) (by omega)
  refine ⟨recol col a.bv.ownBlock v.ownBlock 6, ⟨fun k hk => ?_, fun k => ?_, hcol q 1 hfq (by omega) (by omega), ?_⟩, ?_⟩
  · by_cases e : k = 9
    · subst e
      exact World.cell?_setCell_same w2 _ _ ((cell_block hqb).trans (h.cell 9 hk))
    · rw [World.cell?_setCell_other _ _ _ _ (by intro e'; simp only [Addr.mk.injEq] at e'; omega), cell_block hqb, h.cell k hk]
      congr 1
      unfold tcell
      split <;> first | rfl | omega
  · rw [World.frozen?_setCell, frozen_block hqb]
    exact h.fr k
  · refine { ch := ?_, con := ?_, am := ?_, sa := ?_, bu := ?_, od := ?_, tl := ?_, cc := hcol _ _ h.d.cc (by omega) (by omega), ccb := hcol _ _ h.d.ccb (by omega) (by omega), cab := hcol _ _ h.d.cab (by omega) (by omega), csb := hcol _ _ h.d.csb (by omega) (by omega), cbv := fun b e => by unfold recol; rw [if_pos e], cov := fun b e => hcol _ _ (h.d.cov b e) (by omega) (by omega), ctv := fun b e => hcol _ _ (h.d.ctv b e) (by omega) (by omega), lt := fun k hk => ?_, zf := fun k hz => ?_, zl := fun k hz => by have := h.d.zl k hz; omega }
    · obtain ⟨s', r, vs, h1, h2, h3⟩ := h.d.ch
      exact ⟨s', r, vs, by rw [hblk _ _ h.d.cc (by omega) (by omega)]; exact h1, h2, fun j y c e1 e2 => (h3 j y c e1 e2).kp hkp2 (fun _ e => e)⟩
    · obtain ⟨m, c1, c2, c3⟩ := h.d.con
      refine ⟨m, c1.of_block (hblk _ _ h.d.ccb (by omega) (by omega)), ⟨c2.1, c2.2.1, c2.2.2.1, fun y t hy hyt => ?_⟩, c3⟩
      obtain ⟨bs, q1, q2⟩ := c2.2.2.2 y t hy hyt
      exact ⟨bs, q1, row_kp q2 (c3 y t hy hyt) hkp2⟩
    · obtain ⟨S, c1, c2⟩ := h.d.am
      exact ⟨S, c1.of_block (hblk _ _ h.d.cab (by omega) (by omega)), c2⟩
    · obtain ⟨S, c1, c2⟩ := h.d.sa
      exact ⟨S, c1.of_block (hblk _ _ h.d.csb (by omega) (by omega)), c2⟩
    · refine ⟨xs ++ [(x, s)], by simp [hxl], ?_, fun j e y e1 e2 => ?_⟩
      · rw [flatE_snoc, show (T.buf ++ [(x, b)]).length = T.buf.length + 1 by simp]
        exact hR.frame (fun k e => hset k (fun e' => by have := (hnew k e).2 (by rw [e', hfq]; omega); rw [e', hfq] at this; omega))
      · simp only at e1
        by_cases hj : j < T.buf.length
        · rw [List.getElem?_append_left hj] at e1
          rw [List.getElem?_append_left (by omega)] at e2
          obtain ⟨p1, p2⟩ := hxm j e y e1 e2
          exact ⟨p1, p2.kp hkp2 (fun _ e => e)⟩
        · have hje : j = T.buf.length := by
            have := (List.getElem?_eq_some_iff.1 e1).1
            simp at this
            omega
          subst hje
          rw [List.getElem?_append_right (by omega)] at e1
          rw [List.getElem?_append_right (by omega)] at e2
          simp [hxl] at e1 e2
          subst e1 e2
          exact ⟨rfl, hg.kp hkp2 (fun _ e => e)⟩
    · exact h.d.od.frame (fun k e => hblk _ _ (h.d.cov k e) (by omega) (by omega))
    · obtain ⟨ys, c1, c2, c3⟩ := h.d.tl
      exact ⟨ys, c1, c2.frame (fun k e => hblk _ _ (h.d.ctv k e) (by omega) (by omega)), fun y hy => (c3 y hy).kp hkp2⟩
    · unfold recol at hk
      split at hk
      · rename_i e
        have := hR.lt k e
        omega
      · split at hk
        · omega
        · have := h.d.lt k hk
          omega
    · unfold recol
      rw [if_neg (fun e => (hnew k e).1 hz)]
      split
      · rfl
      · exact h.d.zf k hz
  · refine ⟨⟨?_, ?_, ?_, by omega, fun k hk hn => ?_⟩, fun k hk => ?_⟩
    · simpa [World.setCell] using g.os.trans u.os
    · simpa [World.setCell] using g.tape.trans u.tape
    · simpa [World.setCell] using g.output.trans u.output
    · rw [hset k (fun e => hn (by rw [e, hfq]; omega))]
      exact (g.block k (by omega) (fun e => hn (by rw [h.d.cbv k e.symm]; omega))).trans (u.block k hk)
    · unfold recol at hk
      split at hk
      · rename_i e
        rcases loc k e with e' | e'
        · exact .inl (by rw [h.d.cbv k e']; omega)
        · exact .inr (by omega)
      · split at hk
        · omega
        · exact .inl hk
end
end Go.Proofs.YtlaihgdfedalmaaGreat

/-
  Package total's label: a message has a label; it is in the store, and waits to be sent.
-/
namespace Go.Proofs.YtlaihgdfedalmaaGreat
open Go.RowKit Go.Sort
set_option linter.unusedVariables false
set_option linter.unusedSimpArgs false

/-- The label of the next message. -/
def Tot.nextL (T : Tot) : Lb := (T.vn, T.vp, T.seq + 1, T.self)
def Tot.label (T : Tot) (b : List UInt8) : Tot := { T with seq := T.seq + 1, con := mstep T.con (T.nextL, b), buf := T.buf ++ [(T.nextL, b)], K := T.K + 1 }
/-- A node's numbers are numbers. -/
structure Tn (T : Tot) : Prop where
  n : 1 ≤ T.n ∧ T.n ≤ 16
  self : 0 ≤ T.self ∧ T.self < T.n
  vn : T.vn < 18446744073709551616
  vp : In T.vp
  vs : T.vs < 65536
  st : T.st < 256
  K : T.K ≤ 1000000
def S4t (q : Nat) (v4 v5 v8 v1 : Value) (W : World) : Prop := W.cell? ⟨q, 4, none⟩ = some v4 ∧ W.cell? ⟨q, 5, none⟩ = some v5 ∧ W.cell? ⟨q, 8, none⟩ = some v8 ∧ W.cell? ⟨q, 1, none⟩ = some v1
def S6t (q o g : Nat) (v e0 e1 e2 e3 e4 : Value) (W : World) : Prop := W.cell? ⟨q, o, none⟩ = some v ∧ W.cell? ⟨g, 0, none⟩ = some e0 ∧ W.cell? ⟨g, 1, none⟩ = some e1 ∧ W.cell? ⟨g, 2, none⟩ = some e2 ∧ W.cell? ⟨g, 3, none⟩ = some e3 ∧ W.cell? ⟨g, 4, none⟩ = some e4
theorem cell_of_heap {w : World} {b : Nat} {cs : Array Value} {t : TypeId} (h : w.heap[b]? = some (.cells cs t (0, 0))) (j : Nat) : w.cell? ⟨b, j, none⟩ = cs[j]? := by
  simp [World.cell?, h]
theorem infoS41 : (Tryz.prog.info? 41).map (·.size) = some 5 := by kernel_rfl
def LabPost (w : World) (col : Nat → Nat) (Z : Nat → Prop) (q : Nat) (T : Tot) (w' : World) : Prop := ∃ col' a', Tt w' col' Z q T a' ∧ Gt w col w' col'
set_option maxRecDepth 10000 in
set_option maxHeartbeats 2000000 in
theorem label_any (w : World) (col : Nat → Nat) (Z : Nat → Prop) (q : Nat) (T : Tot) (a : Ta) (h : Tt w col Z q T a) (hn : Tn T) (hseq : T.seq + 1 < 18446744073709551616) (hbl : T.buf.length ≤ 999) (s0 : Option Addr) (s1 s2 : Nat) (b : List UInt8) (hm : Mg Z w (s0, s1, s2) b) :
    Calls Tryz.prog 89 #[.pointer (some ⟨q, 0, none⟩), .slice s0 s1 s2] w fun e w' => e = .returned (.tuple #[]) ∧ LabPost w col Z q (T.label b) w' := by
  have hx : OkL T.nextL := ⟨hn.vn, hn.vp, hseq, by have := hn.n; have := hn.self; unfold In Tot.nextL; simp; omega⟩
  have hK := hn.K
  have h1 : Tt (w.setCell ⟨q, 8, none⟩ (.int .u64 ((T.seq + 1 : Nat) : Int))) col Z q { T with seq := T.seq + 1 } a := h.setc 8 _ (fun j hj => by unfold tcell; split <;> simp_all) (by omega) (fun W d => ⟨d.ch, d.con, d.am, d.sa, d.bu, d.od, d.tl, d.cc, d.ccb, d.cab, d.csb, d.cbv, d.cov, d.ctv, d.lt, d.zf, d.zl⟩)
  have g1 : Gt w col (w.setCell ⟨q, 8, none⟩ (.int .u64 ((T.seq + 1 : Nat) : Int))) col := Gt.set (by rw [h.fq]; omega) _
  have hm1 : Mg Z (w.setCell ⟨q, 8, none⟩ (.int .u64 ((T.seq + 1 : Nat) : Int))) (s0, s1, s2) b := hm.kp (g1.turned.kp (fun k hz e => by have := h.d.zf k hz; omega)) (fun _ e => e)
  have c8 := h.cell 8 (by omega)
  have f8 := h.fr 8
  have e8 : ((T.seq + 1 : Nat) : Int) = (T.seq : Int) + 1 := by omega
  rw [e8] at h1 g1 hm1
  obtain ⟨w1, hw1⟩ : ∃ w1, w1 = w.setCell ⟨q, 8, none⟩ (.int .u64 ((T.seq : Int) + 1)) := ⟨_, rfl⟩
  rw [← hw1] at h1 g1 hm1
  have HW : Hid (∀ W, Below w1.heap.size w1 W → S4t q (.int .u64 (T.vn : Nat)) (.int .i64 T.vp) (.int .u64 ((T.seq : Int) + 1)) (.int .i64 T.self) W) := fun W u => by
    have k8 := (h1.still u).cell 8 (by omega)
    simp only [tcell, e8] at k8
    exact ⟨(h1.still u).cell 4 (by omega), (h1.still u).cell 5 (by omega), k8, (h1.still u).cell 1 (by omega)⟩
  have hwr : IntKind.wrap .u64 ((T.seq : Int) + 1) = (T.seq : Int) + 1 := by simp [IntKind.wrap, IntKind.bits, IntKind.signed]; omega
  simp only [tcell] at c8
  have HT : Hid (Tt w1 col Z q { T with seq := T.seq + 1 } a ∧ Gt w col w1 col ∧ Mg Z w1 (s0, s1, s2) b) := ⟨h1, g1, hm1⟩
  have HX : Hid (OkL T.nextL ∧ T.K ≤ 1000000 ∧ T.buf.length ≤ 999) := ⟨hx, hK, hbl⟩
  have HW1 : Hid (w1 = w.setCell ⟨q, 8, none⟩ (.int .u64 ((T.seq : Int) + 1))) := hw1
  have hql : q < w.heap.size := h.d.lt q (by rw [h.fq]; omega)
  clear h hn hm h1 g1 hm1 hw1 hx hK hbl hseq
  go_enter Tryz.func89, Tryz.ntmps89
  go_wp2_with fail
  rw [← HW1.out]
  clear c8 f8 HW1 hwr
  have ud : Below w1.heap.size w1 w1.drew := Below.drew (Below.refl _ _)
  have uA : Below w1.heap.size w1 ((w1.alloc (.cells #[.int .u64 0, .int .i64 0, .int .u64 0, .int .i64 0, .slice none 0 0] 41)).drew) := Below.drew ((Below.refl _ _).alloc (Nat.le_refl _) _)
  have hBx : ((w1.alloc (.cells #[.int .u64 0, .int .i64 0, .int .u64 0, .int .i64 0, .slice none 0 0] 41)).drew).heap[w1.heap.size]? = some (.cells #[.int .u64 0, .int .i64 0, .int .u64 0, .int .i64 0, .slice none 0 0] 41 (0, 0)) := heap_alloc_new w1 _
  have uB : Below w1.heap.size w1 (((w1.alloc (.cells #[.int .u64 0, .int .i64 0, .int .u64 0, .int .i64 0, .slice none 0 0] 41)).drew).setRow w1.heap.size #[.int .u64 (T.vn : Nat), .int .i64 T.vp, .int .u64 ((T.seq : Int) + 1), .int .i64 T.self, .slice s0 s1 s2]) := bl_rowL uA (Nat.le_refl _) _
  have hBy : (((w1.alloc (.cells #[.int .u64 0, .int .i64 0, .int .u64 0, .int .i64 0, .slice none 0 0] 41)).drew).setRow w1.heap.size #[.int .u64 (T.vn : Nat), .int .i64 T.vp, .int .u64 ((T.seq : Int) + 1), .int .i64 T.self, .slice s0 s1 s2]).heap[w1.heap.size]? = some (.cells #[.int .u64 (T.vn : Nat), .int .i64 T.vp, .int .u64 ((T.seq : Int) + 1), .int .i64 T.self, .slice s0 s1 s2] 41 (0, 0)) := setRow_heap _ _ _ _ _ _ hBx
  have s1a := HW.out _ ud
  refine wp_region_noPanic ?_
  refine wp_region_held_drew (S := S4t q (.int .u64 (T.vn : Nat)) (.int .i64 T.vp) (.int .u64 ((T.seq : Int) + 1)) (.int .i64 T.self)) (by kernel_rfl) s1a (fun hHeld => ?_)
  unfold S4t at hHeld
  refine tq 0 ?_
  refine tq 1 ?_
  refine tq 2 ?_
  refine tq 3 ?_
  refine tq 4 ?_
  refine tq 5 ?_
  refine tq 6 ?_
  refine tq 7 ?_
  refine tq 8 ?_
  refine tq 9 ?_
  refine tq 10 ?_
  refine tq 11 ?_
  refine tq 12 ?_
  refine tq 13 ?_
  refine tq 14 ?_
  refine tq 15 ?_
  refine comes_up 16 rfl (by kernel_rfl) (fun K hK => ?_)
  go_simp
  refine hK.out _ _ (HW.out _ uA) (fun hHeld => ?_)
  clear hK K
  (try simp only [Act.put, List.setIfInBounds_toArray, List.set_cons_zero, List.set_cons_succ])
  refine comes_up 17 rfl (by kernel_rfl) (fun K hK => ?_)
  refine step_store_row rfl 41 (.tmp 4) (.tmp 27) rfl w1.heap.size #[.int .u64 (T.vn : Nat), .int .i64 T.vp, .int .u64 ((T.seq : Int) + 1), .int .i64 T.self, .slice s0 s1 s2] rfl rfl 41 _ hBx infoS41 rfl (by simp [Value.oneCell']) ?_
  refine hK.out _ _ (HW.out _ uB) (fun hHeld => ?_)
  clear hK K
  (try simp only [Act.put, List.setIfInBounds_toArray, List.set_cons_zero, List.set_cons_succ])
  refine wpAnyH_done (by kernel_rfl) ?_ _
  refine NoPanic.normal ?_
  clear hHeld HW s1a ud uA hBx
  generalize ((w1.alloc (.cells #[.int .u64 0, .int .i64 0, .int .u64 0, .int .i64 0, .slice none 0 0] 41)).drew).setRow w1.heap.size #[.int .u64 (T.vn : Nat), .int .i64 T.vp, .int .u64 ((T.seq : Int) + 1), .int .i64 T.self, .slice s0 s1 s2] = w2 at *
  have h2 := HT.out.1.still uB
  have hm2 : Mg Z w2 (s0, s1, s2) b := HT.out.2.2.kp (Kp.bl uB) (fun _ e => e)
  have hgq : w1.heap.size ≠ q := fun e => by have := HT.out.1.d.lt q (by rw [HT.out.1.fq]; omega); omega
  have hgc : w1.heap.size ≠ a.cb := fun e => by have := HT.out.1.d.lt a.cb (by rw [HT.out.1.d.ccb]; omega); omega
  have hqc : q ≠ a.cb := fun e => by have h1 := HT.out.1.fq; have h2 := HT.out.1.d.ccb; rw [← e] at h2; omega
  have hg2 : w1.heap.size < w2.heap.size := (Array.getElem?_eq_some_iff.1 hBy).1
  obtain ⟨m, hS, hC, hZ⟩ := h2.d.con
  have HC : Hid (Con w2 m T.con ∧ ∀ x s, OkL x → m x = some s → ∀ ad, s.1 = some ad → 0 < s.2.1 → Z ad.block) := ⟨hC, hZ⟩
  have hput := put_any w2.drew a.cb T.K m (hS.of_block rfl) (by have := HX.out.2.1; unfold maxLen; omega) T.nextL HX.out.1 (s0, s1, s2)
  unfold ent sv at hput
  simp only [show T.nextL.1 = T.vn from rfl, show T.nextL.2.1 = T.vp from rfl, show T.nextL.2.2.1 = T.seq + 1 from rfl, show T.nextL.2.2.2 = T.self from rfl, e8] at hput
  have HS6 : Hid (∀ W : World, W.heap[q]? = w2.heap[q]? → W.heap[w1.heap.size]? = w2.heap[w1.heap.size]? → S6t q 10 w1.heap.size (.map (some a.cb)) (.int .u64 (T.vn : Nat)) (.int .i64 T.vp) (.int .u64 ((T.seq : Int) + 1)) (.int .i64 T.self) (.slice s0 s1 s2) W) := fun W e1 e2 => by
    have hb : ∀ j, W.cell? ⟨w1.heap.size, j, none⟩ = (#[.int .u64 (T.vn : Nat), .int .i64 T.vp, .int .u64 ((T.seq : Int) + 1), .int .i64 T.self, .slice s0 s1 s2] : Array Value)[j]? := fun j => (cell_block e2).trans (cell_of_heap hBy j)
    exact ⟨(cell_block e1).trans (h2.cell 10 (by omega)), hb 0, hb 1, hb 2, hb 3, hb 4⟩
  have s6 := HS6.out w2.drew rfl rfl
  clear hS hC hZ
  go_wp2_with fail
  refine wp_region_noPanic ?_
  refine wp_region_held_drew (S := S6t q 10 w1.heap.size (.map (some a.cb)) (.int .u64 (T.vn : Nat)) (.int .i64 T.vp) (.int .u64 ((T.seq : Int) + 1)) (.int .i64 T.self) (.slice s0 s1 s2)) (by kernel_rfl) s6 (fun hHeld => ?_)
  unfold S6t at hHeld
  refine tq 0 ?_
  refine tq 1 ?_
  refine tq 2 ?_
  refine tq 3 ?_
  refine tq 4 ?_
  refine comes_up 5 rfl (by kernel_rfl) (fun K hK => ?_)
  go_simp
  refine hput.mono ?_
  rintro e w3 ⟨rfl, hS3, g3⟩
  clear hput
  have hq3 : w3.heap[q]? = w2.heap[q]? := g3.block q (h2.d.lt q (by rw [h2.fq]; omega)) (by simp; exact hqc)
  have hb3 : w3.heap[w1.heap.size]? = w2.heap[w1.heap.size]? := g3.block w1.heap.size hg2 (by simp; exact hgc)
  go_wp2_with fail
  refine hK.out _ _ (HS6.out w3 hq3 hb3) (fun hHeld => ?_)
  clear hK K
  (try simp only [Act.put, List.setIfInBounds_toArray, List.set_cons_zero, List.set_cons_succ])
  refine wpAnyH_done (by kernel_rfl) ?_ _
  refine NoPanic.normal ?_
  clear hHeld HS6 s6
  have h3 := (h2.still (Below.drew (Below.refl _ _))).putC (w' := w3) HC.out HX.out.1 hm2 hS3 g3
  have hG3 : Gt w col w3 col := HT.out.2.1.trans ((Gt.bl col uB).trans (Gt.trans (w' := w2.drew) (c' := col) (Gt.bl col (Below.drew (Below.refl _ _))) (Gt.gr (col := col) g3 (fun k e => by cases e; rw [h2.d.ccb]; omega))))
  have hm3 : Mg Z w3 (s0, s1, s2) b := hm2.kp ((Turned.of_grown (F := fun k => k = a.cb) (w := w2.drew) g3 (by simp)).kp (fun k hz e => by have := h2.d.zf k hz; rw [e, h2.d.ccb] at this; omega)) (fun _ e => e)
  obtain ⟨xs, hxl, hxr, hxm⟩ := h3.d.bu
  simp only at hxl hxr hxm
  have hbl := HX.out.2.2
  have hxrA : Rw (w3.alloc (.cells #[.int .u64 (T.vn : Nat), .int .i64 T.vp, .int .u64 ((T.seq : Int) + 1), .int .i64 T.self, .slice s0 s1 s2] 41)).drew 41 5 a.bv T.buf.length (flatE xs) := hxr.frame (fun k e => Below.heap_alloc _ _ _ (hxr.lt k e))
  have hcA : ∀ j u, (cells5 (T.nextL, (s0, s1, s2)))[j]? = some u → (w3.alloc (.cells #[.int .u64 (T.vn : Nat), .int .i64 T.vp, .int .u64 ((T.seq : Int) + 1), .int .i64 T.self, .slice s0 s1 s2] 41)).drew.cell? ((⟨w3.heap.size, 0, none⟩ : Addr).add j) = some u := fun j u hj => by
    rw [Addr.add_lit, Nat.zero_add]
    simp only [cells5, show T.nextL.1 = T.vn from rfl, show T.nextL.2.1 = T.vp from rfl, show T.nextL.2.2.1 = T.seq + 1 from rfl, show T.nextL.2.2.2 = T.self from rfl, e8] at hj
    exact cell_box w3 #[.int .u64 (T.vn : Nat), .int .i64 T.vp, .int .u64 ((T.seq : Int) + 1), .int .i64 T.self, .slice s0 s1 s2] 41 j u (by simpa using hj)
  obtain ⟨v4, w4, hrun, hR4, g4, loc4⟩ := rw_append (w := (w3.alloc (.cells #[.int .u64 (T.vn : Nat), .int .i64 T.vp, .int .u64 ((T.seq : Int) + 1), .int .i64 T.self, .slice s0 s1 s2] 41)).drew) und35 infoE41 rfl (by omega) (by omega) hxrA (by omega) ⟨w3.heap.size, 0, none⟩ 1 (cells5 (T.nextL, (s0, s1, s2))) (by simp [cells5]) hcA (fun u hu => by simp [cells5] at hu; rcases hu with rfl | rfl | rfl | rfl | rfl <;> rfl) 42
  have uA3 : Below w3.heap.size w3 (w3.alloc (.cells #[.int .u64 (T.vn : Nat), .int .i64 T.vp, .int .u64 ((T.seq : Int) + 1), .int .i64 T.self, .slice s0 s1 s2] 41)).drew := Below.drew ((Below.refl _ _).alloc (Nat.le_refl _) _)
  obtain ⟨col', hFin, hGf⟩ := h3.putB uA3 v4 hxl hxm hm3 hR4 g4 loc4
  have hq4 : w4.heap[q]? = w3.heap[q]? := (g4.block q (Nat.lt_of_lt_of_le (h3.d.lt q (by rw [h3.fq]; omega)) uA3.size) (fun e => by have := h3.d.cbv q e.symm; rw [h3.fq] at this; omega)).trans (uA3.block q (h3.d.lt q (by rw [h3.fq]; omega)))
  have hb4 : w4.heap[w1.heap.size]? = w2.heap[w1.heap.size]? := ((g4.block w1.heap.size (by have := uA3.size; have := g3.size; have : w2.drew.heap.size = w2.heap.size := rfl; omega) (fun e => by have := HT.out.1.d.lt w1.heap.size (by rw [HT.out.1.d.cbv _ e.symm]; omega); omega)).trans (uA3.block w1.heap.size (by have := g3.size; have : w2.drew.heap.size = w2.heap.size := rfl; omega))).trans hb3
  obtain ⟨bo, bcap, hbv, _, _⟩ := hxr.shape
  obtain ⟨vo, vcap, hv4, _, _⟩ := hR4.shape
  have HS9 : Hid (∀ W : World, W.heap[q]? = w3.heap[q]? → W.heap[w1.heap.size]? = w2.heap[w1.heap.size]? → S6t q 9 w1.heap.size (.slice bo T.buf.length bcap) (.int .u64 (T.vn : Nat)) (.int .i64 T.vp) (.int .u64 ((T.seq : Int) + 1)) (.int .i64 T.self) (.slice s0 s1 s2) W) := fun W e1 e2 => by
    have hb : ∀ j, W.cell? ⟨w1.heap.size, j, none⟩ = (#[.int .u64 (T.vn : Nat), .int .i64 T.vp, .int .u64 ((T.seq : Int) + 1), .int .i64 T.self, .slice s0 s1 s2] : Array Value)[j]? := fun j => (cell_block e2).trans (cell_of_heap hBy j)
    exact ⟨(cell_block e1).trans ((h3.cell 9 (by omega)).trans (by show some a.bv = _; rw [hbv])), hb 0, hb 1, hb 2, hb 3, hb 4⟩
  have hfz : w4.frozen? ⟨q, 9, none⟩ = false := (frozen_block hq4).trans (h3.fr 9)
  have hc4 : w4.cell? ⟨q, 9, none⟩ = some (.slice bo T.buf.length bcap) := (HS9.out w4 hq4 hb4).1
  have HF : Hid (LabPost w col Z q (T.label b) (w4.setCell ⟨q, 9, none⟩ v4)) := ⟨col', _, hFin, hG3.trans hGf⟩
  rw [hbv] at hrun
  rw [hv4] at hrun HF
  have sA := HS9.out w3.drew rfl hb3
  have sB := HS9.out (w3.alloc (.cells #[.int .u64 (T.vn : Nat), .int .i64 T.vp, .int .u64 ((T.seq : Int) + 1), .int .i64 T.self, .slice s0 s1 s2] 41)).drew (uA3.block q (h3.d.lt q (by rw [h3.fq]; omega))) ((uA3.block w1.heap.size (by have := g3.size; have : w2.drew.heap.size = w2.heap.size := rfl; omega)).trans hb3)
  have sC := HS9.out w4 hq4 hb4
  clear hFin hGf hR4 g4 loc4 hxrA hcA hxr hxm hG3 hm3 h3 hS3 g3 HC hm2 h2 HT uB hBy HS9 hq3 hb3 hq4 hb4 uA3 hxl
  go_wp2_with fail
  refine wp_region_noPanic ?_
  refine beginE (S6t q 9 w1.heap.size (.slice bo T.buf.length bcap) (.int .u64 (T.vn : Nat)) (.int .i64 T.vp) (.int .u64 ((T.seq : Int) + 1)) (.int .i64 T.self) (.slice s0 s1 s2)) 10 (by kernel_rfl) sA (fun hHeld => ?_)
  unfold S6t at hHeld
  refine tqE 0 ?_
  refine tqE 1 ?_
  refine tqE 2 ?_
  refine tqE 3 ?_
  refine tqE 4 ?_
  refine tqE 5 ?_
  refine upE 6 rfl (by kernel_rfl) (fun K hK => ?_)
  go_simp
  refine hK.out _ _ sB (fun hHeld => ?_)
  clear hK K
  (try simp only [Act.put, List.setIfInBounds_toArray, List.set_cons_zero, List.set_cons_succ])
  refine upE 7 rfl (by kernel_rfl) (fun K hK => ?_)
  refine step_append_run rfl (.tmp 38) (.tmp 40) 42 rfl (.slice bo T.buf.length bcap) (.slice (some ⟨w3.heap.size, 0, none⟩) 1 1) (.slice vo (T.buf.length + 1) vcap) w4 rfl rfl hrun ?_
  refine hK.out _ _ sC (fun hHeld => ?_)
  clear hK K
  (try simp only [Act.put, List.setIfInBounds_toArray, List.set_cons_zero, List.set_cons_succ])
  refine pureE 8 (v := ?_) rfl (by kernel_rfl) (by kernel_rfl) (by kernel_rfl) (by kernel_rfl) (fun _ _ _ h => h) (Or.inl ⟨by rfl, by intro wx hSw; (try dsimp only at hSw); go_simp; try with_reducible rfl⟩) (by assumption) ?_
  (try simp only [Act.put, List.setIfInBounds_toArray, List.set_cons_zero, List.set_cons_succ])
  refine pureE 9 (v := ?_) rfl (by kernel_rfl) (by kernel_rfl) (by kernel_rfl) (by kernel_rfl) (fun _ _ _ h => h) (Or.inl ⟨by rfl, by intro wx hSw; (try dsimp only at hSw); go_simp; try with_reducible rfl⟩) (by assumption) ?_
  (try simp only [Act.put, List.setIfInBounds_toArray, List.set_cons_zero, List.set_cons_succ])
  refine lastE 10 rfl (by kernel_rfl) (by kernel_rfl) (fun K hK => ?_)
  go_simp
  refine hK.out _ _ ?_
  clear hK K
  (try simp only [Act.put, List.setIfInBounds_toArray, List.set_cons_zero, List.set_cons_succ])
  refine doneE (by kernel_rfl) ?_ _
  refine NoPanic.normal ?_
  go_wp2
  go_end0
  exact ⟨rfl, HF.out⟩
end Go.Proofs.YtlaihgdfedalmaaGreat
