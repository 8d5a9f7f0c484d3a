/-
  The document's views: the views of a node's events.
-/
import Derived.Test.YthnbijnpbjfoaaaJAll1
import Derived.Test.YthnbijnpbjfoaaaJDefs
import Derived.Test.YthnbijnpbjfoaaaJCur
namespace Go.Proofs.Ythnbijnpbjfoaaa
open Go.RowKit Go.Sort
set_option linter.unusedVariables false

def cellsV (v : Vw) : List Value := [.int .u64 (v.1 : Nat), .int .i64 v.2.1, .int .u16 (v.2.2 : Nat)]
def cellV (vs : List Vw) : List Value := vs.flatMap cellsV
theorem und86 : Try.prog.underlying 86 = some (.slice 47) := by kernel_rfl
theorem info47 : (Try.prog.info? 47).map (fun i => (i.zero, i.size, i.bytes)) = some (some (.agg #[.int .u64 0, .int .i64 0, .int .u16 0]), 3, 24) := by kernel_rfl
theorem und47s : (Try.prog.underlying 47).any (·.isRow) = true := by kernel_rfl
theorem info47s : (Try.prog.info? 47).map (·.size) = some 3 := by kernel_rfl
/-- A view is read. -/
theorem wpList_load_Vw {ops : Array Oper} {rest : List Oper} {o : Oper} {a : Act} {w : World} {Q : Exit → Act → World → Prop} (hgd : o.guard = none) (x : Operand) (ho : o.op = .load 47 x) (b of : Nat) (hx : a.eval x = .pointer (some ⟨b, of, none⟩)) (v : Vw) (h3 : ∀ (j : Nat) u, (cellsV v)[j]? = some u → w.cell? ⟨b, of + j, none⟩ = some u)
    (h : wpList Try.prog ops Q rest (a.put o.dst (.agg #[.int .u64 (v.1 : Nat), .int .i64 v.2.1, .int .u16 (v.2.2 : Nat)])) w) : wpList Try.prog ops Q (o :: rest) a w := by
  obtain ⟨d, hd, hr⟩ := (Option.any_eq_true _ _).1 und47s
  exact wpList_load_mid hgd 47 x ho b of hx (cellsV v) d h3 hd hr info47s h

theorem own_sl {w : World} {B e size n : Nat} {v : Value} {vs : List Value} (h : w.ownsRow B e size v n vs) : ∃ ra rn rc, v = .slice ra rn rc := by
  rcases own_shape h with ⟨rfl, _⟩ | ⟨g, cap, rfl, _⟩
  · exact ⟨_, _, _, rfl⟩
  · exact ⟨_, _, _, rfl⟩
set_option maxRecDepth 10000 in
set_option maxHeartbeats 2000000 in
theorem refViews_any (w : World) (pE : Nat → Prop) (ao : Option Addr) (n cap : Nat) (es : List Ev) (h : EvR pE w ao n es) (hn9 : n ≤ 9000) :
    Calls Try.prog 48 #[.slice ao n cap] w fun e w' => (∃ v, e = .returned v ∧ w'.ownsRow w.heap.size 47 3 v (viewsE es).length (cellV (viewsE es))) ∧ RowKit.Below w.heap.size w w' := by
  have hl : es.length = n := h.1
  have HI : Hid (EvR pE w ao n es) := h
  clear h
  go_enter Try.func48, Try.ntmps48
  go_wp2_with fail
  go_loopw [3, 4] (fun lv iv wr => ∃ k : Nat, k ≤ n ∧ iv = .int .i64 (k : Nat) ∧ wr.ownsRow w.heap.size 47 3 lv (viewsE (es.take k)).length (cellV (viewsE (es.take k))) ∧ RowKit.Below w.heap.size w wr) (fun _ iv _ => n - (intOf iv).toNat)
  case atStart => exact ⟨0, by omega, rfl, ⟨rfl, .inl ⟨rfl, rfl⟩⟩, Below.refl _ _⟩
  case round =>
    obtain ⟨k, hk, rfl, hown, hu⟩ := hrel
    obtain ⟨ra, rn, rc, rfl⟩ := own_sl hown
    by_cases hlt : k < n
    · have hltI : (k : Int) < (n : Int) := by omega
      have hk0 : ¬ ((k : Int) < 0) := by omega
      obtain ⟨e, he⟩ : ∃ e, es[k]? = some e := ⟨es[k]'(by omega), List.getElem?_eq_getElem (by omega)⟩
      obtain ⟨b, off, r, hao, h6, _, _⟩ := EvR.at HI.out he
      subst hao
      have hct : es.take (k + 1) = es.take k ++ [e] := take_snoc he
      have hvl : (viewsE (es.take k)).length ≤ k := by
        unfold viewsE
        rw [List.length_map]
        refine Nat.le_trans (List.length_filter_le _ _) ?_
        simp
        omega
      have hud := hu
      have hd0 := bl_cell hud h6.1
      have h3 : ∀ (j : Nat) u, (cellsV (vwOf e))[j]? = some u → wr.cell? ⟨b, off + k * 6 + 1 + j, none⟩ = some u := fun j u hj => by
        obtain ⟨_, x1, x2, x3, _, _⟩ := h6
        match j, hj with
        | 0, hj => simp [cellsV, vwOf] at hj; subst hj; exact bl_cell hud x1
        | 1, hj => simp [cellsV, vwOf] at hj; subst hj; exact bl_cell hud x2
        | 2, hj => simp [cellsV, vwOf] at hj; subst hj; exact bl_cell hud x3
        | j + 3, hj => simp [cellsV] at hj
      have hod : wr.ownsRow w.heap.size 47 3 _ (viewsE (es.take k)).length (cellV (viewsE (es.take k))) := hown
      have HOD : Hid (RowKit.Below w.heap.size w wr ∧ es.take (k + 1) = es.take k ++ [e] ∧ w.heap.size ≤ wr.heap.size) := ⟨hud, hct, hud.size⟩
      have hsz := hud.size
      have hvl9 : (viewsE (es.take k)).length ≤ 10000 := by omega
      clear hown h6 he hct hu hud
      by_cases hk1 : e.k = 1
      · have hkb : ((e.k : Int) == 1) = true := by simp; omega
        have HK : Hid (viewsE (es.take (k + 1)) = viewsE (es.take k) ++ [vwOf e]) := by
          show _ = _
          rw [HOD.out.2.1, viewsE_snoc, if_pos hk1]
        clear hk1
        generalize e.k = ek at *
        go_wp2_with (first | refine wpList_load_Vw rfl (.tmp 21) rfl b (off + k * 6 + 1) rfl (e.n, e.p, e.s) h3 ?_ | (at_builtin; refine wpList_append_gen rfl (.tmp 17) (.tmp 23) 86 47 rfl (.agg #[.int .u64 0, .int .i64 0, .int .u16 0]) 3 24 und86 info47 rfl (by decide) (by omega) w.heap.size _ (viewsE (es.take k)).length (cellV (viewsE (es.take k))) rfl ?d1 [.int .u64 (e.n : Nat), .int .i64 e.p, .int .u16 (e.s : Nat)] rfl ?d2 wr.heap.size rfl rfl ?d3 ?d4 ?_))
        case d2 => first | rfl | exact ⟨rfl, rfl, rfl⟩ | (intro u hu; simp at hu; rcases hu with rfl | rfl | rfl <;> rfl)
        intro v' w4 hown4 hg4 _
        have hb4 : Below w.heap.size w w4 := bl_grown HOD.out.1 hsz hg4 (fun kk hkk => (own_blk hod hkk).1)
        have hown5 : w4.ownsRow w.heap.size 47 3 v' (viewsE (es.take (k + 1))).length (cellV (viewsE (es.take (k + 1)))) := by
          rw [HK.out]
          simpa [cellV, cellsV, vwOf] using hown4
        have HN : Hid (w4.ownsRow w.heap.size 47 3 v' (viewsE (es.take (k + 1))).length (cellV (viewsE (es.take (k + 1)))) ∧ Below w.heap.size w w4) := ⟨hown5, hb4⟩
        clear hown4 hg4 hb4 hown5 hod h3 hd0
        go_wp2
        go_roundw
        case rel => exact ⟨k + 1, by omega, by go_num, HN.out⟩
        case measure => simp [intOf]; omega
      · have hkb : ((e.k : Int) == 1) = false := by simp; omega
        have HK : Hid (viewsE (es.take (k + 1)) = viewsE (es.take k)) := by
          show _ = _
          rw [HOD.out.2.1, viewsE_snoc, if_neg hk1, List.append_nil]
        clear hk1
        generalize e.k = ek at *
        rw [← HK.out] at hod
        have HN : Hid (wr.ownsRow w.heap.size 47 3 _ (viewsE (es.take (k + 1))).length (cellV (viewsE (es.take (k + 1)))) ∧ Below w.heap.size w wr) := ⟨hod, HOD.out.1⟩
        clear hod
        go_wp2
        go_roundw
        case rel => exact ⟨k + 1, by omega, by go_num, HN.out⟩
        case measure => simp [intOf]; omega
    · obtain rfl : k = n := by omega
      rw [List.take_of_length_le (by omega)] at hown
      go_wp2
      go_ret
      exact ⟨⟨_, rfl, hown⟩, hu⟩
end Go.Proofs.Ythnbijnpbjfoaaa
