/-
  The labels of entries: content's and the document's.
-/
import Derived.Test.YtlaihgdfedalmaaGreatFMerge
import Derived.Laws.MakeOwn
namespace Go.Proofs.YtlaihgdfedalmaaGreat
open Go.RowKit
set_option linter.unusedVariables false
set_option linter.unusedSimpArgs false

theorem infoL : (Tryz.prog.info? 39).map (fun i => (i.zero, i.size, i.bytes)) = some (some (.agg #[.int .u64 0, .int .i64 0, .int .u64 0, .int .i64 0]), 4, 32) := by kernel_rfl
theorem und28 : Tryz.prog.underlying 43 = some (.slice 39) := by kernel_rfl
/-- append of one label. -/
theorem wpList_append_lab {w : World} {ops : Array Oper} {rest : List Oper} {o : Oper} {a : Act} {Q : Exit → Act → World → Prop} (hgd : o.guard = none) (s x : Operand)
    (ho : o.op = .call { callee := .builtin .append, args := #[s, x], argTypes := #[43, 43] }) (B : Nat) (v : Value) (n : Nat) (ls : List Lb) (hs : a.eval s = v) (hown : w.ownsRow B 39 4 v n (flat ls)) (y : Lb)
    (g : Nat) (hg : w.heap.size = g) (hx : a.eval x = .slice (some ⟨g, 0, none⟩) 1 1) (hlen : n ≤ 1000000) (hB : B ≤ w.heap.size)
    (h : ∀ v' w', w'.ownsRow B 39 4 v' (n + 1) (flat (ls ++ [y])) → w.grownBy w' v.ownBlock → wpList Tryz.prog ops Q rest (a.put o.dst v') w') :
    wpList Tryz.prog ops Q (o :: rest) a (w.alloc (.cells #[.int .u64 (y.1 : Nat), .int .i64 y.2.1, .int .u64 (y.2.2.1 : Nat), .int .i64 y.2.2.2] 39)) := by
  subst hg
  have hal := bl1 w (.cells #[.int .u64 (y.1 : Nat), .int .i64 y.2.1, .int .u64 (y.2.2.1 : Nat), .int .i64 y.2.2.2] 39)
  have hga : w.grownBy (w.alloc (.cells #[.int .u64 (y.1 : Nat), .int .i64 y.2.1, .int .u64 (y.2.2.1 : Nat), .int .i64 y.2.2.2] 39)) none := ⟨hal.os, hal.tape, hal.output, hal.size, fun i hi _ => hal.block i hi⟩
  have hown2 := hown.kept (row := none) hga (by cases v.ownBlock with | none => exact Or.inl rfl | some k => exact Or.inr (by simp))
  obtain ⟨i0, hi0, hz0, hz1, hz2⟩ := info_parts infoL
  refine wpList_append_own_at _ hgd s x 43 ho B 39 i0 (.agg #[.int .u64 0, .int .i64 0, .int .u64 0, .int .i64 0]) 4 32 und28 hi0 hz0 hz1 hz2 rfl (by decide) v n (flat ls) hs hown2 ⟨w.heap.size, 0, none⟩ 1 1 (cellsL y) hx (by simp [cellsL]) (fun j u hj => ?_) (fun u hu => ?_) (by unfold maxLen; omega) (by omega) (Nat.le_trans hB hal.size) (fun v' w' a b _ d => h v' w' ?_ ?_)
  · rw [Addr.add_lit, Nat.zero_add]
    exact cell_box w _ 39 j u (by simpa [cellsL] using hj)
  · simp [cellsL] at hu
    rcases hu with rfl | rfl | rfl | rfl <;> rfl
  · rw [flat_app, show flat [y] = cellsL y by simp [flat]]
    exact a
  · exact ⟨b.os.trans hga.os, b.tape.trans hga.tape, b.output.trans hga.output, Nat.le_trans hga.size b.size, fun i hi hne => (b.block i (Nat.lt_of_lt_of_le hi hga.size) hne).trans (hga.block i hi (by simp))⟩
theorem make28 (n : Nat) (hc : n ≤ 1000000) (w : World) : ∃ cur, (Instr.makeSlice 43 (.int .i64 0) (.int .i64 (n : Int))).run Tryz.prog w = .ok (.slice (some ⟨w.heap.size, 0, none⟩) 0 n) (w.alloc (.cells cur 39)) ∧ cur.size = n * 4 := by
  obtain ⟨i0, hi, hz0, hz1, hz2⟩ := info_parts infoL
  have h := run_make (P := Tryz.prog) w 43 39 i0 _ und28 hi hz0 .i64 .i64 0 (n : Int) (by omega) (by omega) (by rw [hz2]; omega) (by omega)
  rw [show ((n : Int)).toNat = n by omega] at h
  exact ⟨_, h, by rw [size_madeCells, hz1]⟩
theorem own_shape {w : World} {B n s : Nat} {t : TypeId} {v : Value} {xs : List Value} (h : w.ownsRow B t s v n xs) : ∃ ao cap, v = .slice ao n cap := by
  rcases id h.2 with ⟨rfl, h0⟩ | ⟨g, cap, cur, rfl, _⟩
  · exact ⟨none, 0, by rw [h0]⟩
  · exact ⟨_, _, rfl⟩

set_option maxRecDepth 10000 in
set_option maxHeartbeats 2000000 in
theorem labels_any (p : Nat → Prop) (w : World) (ao : Option Addr) (n cap : Nat) (es : List En) (h : ER p w ao n es) (hn : n ≤ 1000000) :
    Calls Tryz.prog 139 #[.slice ao n cap] w fun e w' => ∃ v, e = .returned v ∧ w'.ownsRow w.heap.size 39 4 v n (flat (es.map (·.1))) ∧ Below w.heap.size w w' := by
  have hl := h.1
  obtain ⟨cur, hmk, hcur⟩ := make28 n hn w
  have ho0 : (w.alloc (.cells cur 39)).ownsRow w.heap.size 39 4 (.slice (some ⟨w.heap.size, 0, none⟩) 0 n) 0 [] := World.ownsRow_made w cur n (Nat.le_refl _) (by unfold maxLen; omega) hcur
  have hb0 := bl1 w (.cells cur 39)
  go_enter Tryz.func139, Tryz.ntmps139
  go_wp2_with fail
  go_loopw [3, 5, 11] (fun ov bv iv wr => ∃ (k : Nat) (oo : Option Addr) (oc : Nat), k ≤ n ∧ iv = .int .i64 k ∧ ov = .slice oo k oc ∧ (∃ u, bv = u) ∧ wr.ownsRow w.heap.size 39 4 (.slice oo k oc) k (flat ((es.take k).map (·.1))) ∧ Below w.heap.size w wr) (fun _ _ iv _ => n - (intOf iv).toNat)
  case atStart => exact ⟨0, _, _, by omega, rfl, rfl, ⟨_, rfl⟩, by simpa [flat] using ho0, hb0⟩
  case round =>
    clear ho0 hb0 hmk hcur
    obtain ⟨k, oo, oc, hk, rfl, rfl, ⟨bv, hbv⟩, hown, hb⟩ := hrel
    replace hbv := hbv.symm
    subst hbv
    by_cases hlt : k < n
    · have hltI : (k : Int) < (n : Int) := by omega
      have hk0 : ¬ ((k : Int) < 0) := by omega
      obtain ⟨e, he⟩ : ∃ z, es[k]? = some z := ⟨es[k]'(by omega), List.getElem?_eq_getElem (by omega)⟩
      obtain ⟨b, off, hao, _, hc⟩ := h.2.2 (by omega)
      obtain ⟨so, sn, sc, c0, c1, c2, c3, c4, _, _⟩ := hc k e he
      have HT : Hid ((es.take (k + 1)).map (·.1) = (es.take k).map (·.1) ++ [e.1]) := by show _ = _; rw [List.take_add_one, he]; simp
      have d0 := (hb.cell (World.block_lt_of_cell? w _ c0)).trans c0
      have d1 := (hb.cell (World.block_lt_of_cell? w _ c1)).trans c1
      have d2 := (hb.cell (World.block_lt_of_cell? w _ c2)).trans c2
      have d3 := (hb.cell (World.block_lt_of_cell? w _ c3)).trans c3
      have d4 := (hb.cell (World.block_lt_of_cell? w _ c4)).trans c4
      obtain ⟨y, em⟩ := e
      simp only at d0 d1 d2 d3 d4 HT
      subst hao
      have hs := hb.size
      have hba := bl1 wr (.cells #[.int .u64 (y.1 : Nat), .int .i64 y.2.1, .int .u64 (y.2.2.1 : Nat), .int .i64 y.2.2.2, .slice so sn sc] 41)
      obtain ⟨x0, x1, x2, x3, x4⟩ := ex_new wr y (.slice so sn sc) 41
      have hga : wr.grownBy (wr.alloc (.cells #[.int .u64 (y.1 : Nat), .int .i64 y.2.1, .int .u64 (y.2.2.1 : Nat), .int .i64 y.2.2.2, .slice so sn sc] 41)) none := ⟨hba.os, hba.tape, hba.output, hba.size, fun i hi _ => hba.block i hi⟩
      have howa := hown.kept (row := none) hga (by cases (Value.slice oo k oc).ownBlock with | none => exact Or.inl rfl | some k => exact Or.inr (by simp))
      have hbw : Below w.heap.size w (wr.alloc (.cells #[.int .u64 (y.1 : Nat), .int .i64 y.2.1, .int .u64 (y.2.2.1 : Nat), .int .i64 y.2.2.2, .slice so sn sc] 41)) := hb.trans (hba.mono hs)
      have HOL : Hid (∀ r, (Value.slice oo k oc).ownBlock = some r → w.heap.size ≤ r) := fun r hr => (hown.lt r hr).1
      obtain ⟨lk, hlk⟩ : ∃ l, (es.take k).map (·.1) = l := ⟨_, rfl⟩
      rw [hlk] at howa HT
      have HW : Hid ((wr.alloc (.cells #[.int .u64 (y.1 : Nat), .int .i64 y.2.1, .int .u64 (y.2.2.1 : Nat), .int .i64 y.2.2.2, .slice so sn sc] 41)).ownsRow w.heap.size 39 4 (.slice oo k oc) k (flat lk) ∧ Below w.heap.size w (wr.alloc (.cells #[.int .u64 (y.1 : Nat), .int .i64 y.2.1, .int .u64 (y.2.2.1 : Nat), .int .i64 y.2.2.2, .slice so sn sc] 41))) := ⟨howa, hbw⟩
      clear hc he c0 c1 c2 c3 c4 hown hga howa hbw hba hlk
      go_wp2_with (first | (refine wpList_load_E rfl (.tmp 13) rfl b (off + k * 5) rfl y (.slice so sn sc) d0 d1 d2 d3 d4 ?_) | (at_builtin; refine wpList_append_lab rfl (.tmp 15) (.tmp 18) rfl w.heap.size _ k lk rfl ?d1 y (wr.heap.size + 1) ?d2 rfl ?d3 ?d4 ?_))
      case d1 => exact HW.out.1
      case d3 => omega
      case d4 => omega
      intro v2 w2 hown2 hg2
      have hb2 := bl_grown HW.out.2 HW.out.2.size hg2 HOL.out
      obtain ⟨o2, q2, rfl⟩ := own_shape hown2
      clear d0 d1 d2 d3 d4 hg2 HOL HW x0 x1 x2 x3 x4
      go_wp2
      go_roundw
      case rel => first | exact ⟨k + 1, o2, q2, by omega, by go_num, rfl, ⟨_, rfl⟩, by rw [HT.out]; exact hown2, hb2⟩ | ((repeat apply Exists.intro); exact ⟨⟨k + 1, o2, q2, by omega, by go_num, rfl, ⟨_, rfl⟩, by rw [HT.out]; exact hown2, hb2⟩, rfl⟩)
      case measure => simp [intOf]; omega
    · obtain rfl : n = k := by omega
      have hltI : ¬ ((n : Int) < (n : Int)) := by omega
      have HE : Hid (wr.ownsRow w.heap.size 39 4 (.slice oo n oc) n (flat (es.map (·.1)))) := by
        show wr.ownsRow _ _ _ _ _ _
        rw [List.take_of_length_le (by omega)] at hown
        exact hown
      clear hown
      go_wp2
      go_ret
      exact ⟨_, rfl, HE.out, hb⟩
end Go.Proofs.YtlaihgdfedalmaaGreat
