/-
  One more summary ahead of a list; each node's number one more.
-/
import Derived.Test.YtooeemhlpmiceaaXMore0
namespace Go.Proofs.Ytooeemhlpmiceaa
open Go.ChangeShapes Go.WideShapes Go.ChangeAt Go.RowKit Go.Deep
set_option linter.unusedVariables false
set_option linter.unusedSimpArgs false

set_option maxRecDepth 100000 in
theorem size_sums {H : Type} {enc : TypeId × Value → H} {W : World} {ao : Option Addr} {len cap : Nat} {d : DataW H} {p : List MemPlace} (h : DataW.Trod enc Try.prog W 0 (fun _ => true) true 43 (.slice ao len cap) d p) (hfit : Fits 43 d) :
    len * 72 ≤ 140737488351232 ∧ (ao = none → len = 0 ∧ cap = 0) := by
  obtain ⟨fuel, hf⟩ := h
  rcases open_slice Try.underlying43 hf with ⟨hcs, _⟩ | ⟨x, len', c, mm, n, D, Pl, hcs, hb, hl, hm, hmm, hyd, hx⟩
  · simp [Value.cells] at hcs
    obtain ⟨rfl, rfl, rfl⟩ := hcs
    exact ⟨by omega, fun _ => ⟨rfl, rfl⟩⟩
  · simp [Value.cells] at hcs
    obtain ⟨rfl, rfl, rfl⟩ := hcs
    simp only [if_true] at hmm
    have hyd1 : d = _ := congrArg Prod.fst hyd
    subst hyd1
    have := Fits.cap Try.underlying43 hfit
    rw [bytes63] at this
    exact ⟨by omega, fun h => by simp at h⟩
theorem f5_at (xs : List El) (i : Nat) (u : Value) (h : (f5 xs)[i]? = some u) : ∃ x, xs[i / 5]? = some x ∧ (c5 x)[i % 5]? = some u := by
  have hi := (List.getElem?_eq_some_iff.1 h).1
  rw [f5_len] at hi
  have hj : i / 5 < xs.length := by omega
  refine ⟨xs[i / 5], List.getElem?_eq_getElem hj, ?_⟩
  have := f5_get xs (i / 5) _ (i % 5) (List.getElem?_eq_getElem hj) (Nat.mod_lt _ (by omega))
  rw [show 5 * (i / 5) + i % 5 = i by omega, h] at this
  exact this.symm
/-- Summaries in memory, one by one. -/
theorem els_of {w : World} {ao : Option Addr} {n : Nat} {ss : List Pt} (h : SL (fun _ => True) w ao n ss) : ∃ els : List El, els.map (·.1) = ss ∧ (∀ x ∈ els, Fx (fun _ => True) w x) ∧ ∀ ad, ao = some ad → ∀ j u, (f5 els)[j]? = some u → w.cell? (ad.add j) = some u := by
  by_cases h0 : n = 0
  · have : ss = [] := List.length_eq_zero_iff.1 (h.1.trans h0)
    subst this
    exact ⟨[], rfl, by simp, fun _ _ j u hj => by simp [f5] at hj⟩
  · obtain ⟨b, off, rfl, -, hc⟩ := h.2.2 (by omega)
    have each : ∀ i, i < ss.length → ∃ q : El, some q.1 = ss[i]? ∧ SC (fun _ => True) w b (off + i * 5) q.1 q.2.1.1 q.2.1.2 q.2.2.1 q.2.2.2 := fun i hi => by
      obtain ⟨ca, cc, oa, oc, hs⟩ := hc i ss[i] (List.getElem?_eq_getElem hi)
      exact ⟨(ss[i], (ca, cc), (oa, oc)), (List.getElem?_eq_getElem hi).symm, hs⟩
    have : Inhabited El := ⟨(⟨0, [], [], 0, 0, 0⟩, (none, 0), (none, 0))⟩
    obtain ⟨q, hq⟩ := choose_lt each
    have hget : ∀ j y, ((List.range ss.length).map q)[j]? = some y → j < ss.length ∧ y = q j := fun j y hj => by
      obtain ⟨h1, h2⟩ := List.getElem?_eq_some_iff.1 hj
      simp at h1 h2
      exact ⟨h1, h2.symm⟩
    refine ⟨(List.range ss.length).map q, ?_, fun x hx => ?_, fun ad had j u hj => ?_⟩
    · refine List.ext_getElem? fun i => ?_
      by_cases hi : i < ss.length
      · rw [← (hq i hi).1]
        simp [hi]
      · rw [List.getElem?_eq_none (by simpa using hi), List.getElem?_eq_none (by omega)]
    · obtain ⟨i, hi⟩ := List.getElem?_of_mem hx
      obtain ⟨h1, rfl⟩ := hget i x hi
      obtain ⟨_, _, h2, h3, h4, h5, h6⟩ := hq i h1
      exact ⟨h2, h3, h4, h5, h6⟩
    · cases had
      obtain ⟨x, hx, hc⟩ := f5_at _ j u hj
      obtain ⟨h1, rfl⟩ := hget _ x hx
      obtain ⟨_, ⟨c0, c1, c2, c3, c4⟩, _⟩ := hq _ h1
      rw [Addr.add_lit]
      have key : ∀ k, j % 5 = k → off + j = off + j / 5 * 5 + k := fun k hk => by omega
      have h5 : j % 5 = 0 ∨ j % 5 = 1 ∨ j % 5 = 2 ∨ j % 5 = 3 ∨ j % 5 = 4 := by omega
      rcases h5 with e | e | e | e | e <;> rw [e] at hc <;> simp [c5] at hc <;> subst hc <;> rw [key _ e]
      · simpa using c0
      · exact c1
      · exact c2
      · exact c3
      · exact c4
theorem Fx.bl {p : Nat → Prop} {w w' : World} {x : El} (h : Fx p w x) (u : Below w.heap.size w w') : Fx p w' x := h.kp (Kp.bl u)
theorem c5_one (x : El) : ∀ u ∈ c5 x, u.oneCell' = true := fun u hu => by
  simp [c5] at hu
  rcases hu with rfl | rfl | rfl | rfl | rfl <;> rfl
theorem f5_one (l : List El) : ∀ u ∈ f5 l, u.oneCell' = true := fun u hu => by
  obtain ⟨x, _, h⟩ := List.mem_flatMap.1 hu
  exact c5_one x u h
theorem f6_one (l : List El) : ∀ u ∈ f6 l, u.oneCell' = true := fun u hu => by
  obtain ⟨x, _, h⟩ := List.mem_flatMap.1 hu
  rcases List.mem_cons.1 h with rfl | h
  · rfl
  · exact c5_one x u h
theorem sl_of {w : World} {B : Nat} {p : Nat → Prop} {vs : Value} {els : List El} (ho : w.ownsRow B 63 5 vs els.length (f5 els)) (hf : ∀ x ∈ els, Fx p w x) : ∃ sa sc, vs = .slice sa els.length sc ∧ SL (fun _ => True) w sa els.length (els.map (·.1)) := by
  rcases id ho.2 with ⟨hv, h0⟩ | ⟨g, cap, cur, hv, hg, hh, hnc, hcm, hcs, htk⟩
  · exact ⟨none, 0, by rw [h0]; exact hv, by simp, by omega, fun hn => by omega⟩
  · subst hv
    refine ⟨_, _, rfl, by simp, by unfold maxLen at hcm; omega, fun hn => ⟨g, 0, rfl, trivial, fun j t hj => ?_⟩⟩
    rw [List.getElem?_map] at hj
    obtain ⟨x, hx, rfl⟩ := Option.map_eq_some_iff.1 hj
    have hcell : ∀ i, i < 5 → w.cell? ⟨g, 0 + j * 5 + i, none⟩ = (c5 x)[i]? := fun i hi => by
      have e := f5_get els j x i hx hi
      have hlt : i < (c5 x).length := by simpa [c5] using hi
      rw [List.getElem?_eq_getElem hlt] at e ⊢
      have := ho.cells (g := g) rfl (5 * j + i) _ e
      rw [Addr.add_lit] at this
      rw [show 0 + j * 5 + i = 0 + (5 * j + i) by omega]
      exact this
    obtain ⟨f1, f2, f3, f4, f5⟩ := hf x (List.mem_of_getElem? hx)
    exact ⟨x.2.1.1, x.2.1.2, x.2.2.1, x.2.2.2, ⟨hcell 0 (by omega), hcell 1 (by omega), hcell 2 (by omega), hcell 3 (by omega), hcell 4 (by omega)⟩, f1.mono (fun _ _ => trivial), f2, fun _ _ _ => trivial, f4, f5⟩
/-- A row of one, just laid. -/
theorem own_lit (w : World) (x : El) : (w.alloc (.cells (c5 x).toArray 63)).ownsRow w.heap.size 63 5 (.slice (some ⟨w.heap.size, 0, none⟩) 1 1) 1 (f5 [x]) :=
  ⟨by simp [f5, c5], .inr ⟨w.heap.size, 1, _, rfl, Nat.le_refl _, heap_alloc_new w _, Nat.le_refl _, by unfold maxLen; omega, by simp [c5], by simp [f5, c5]⟩⟩
/-- Summaries behind a row of one that was just laid. -/
theorem run_append_more {w : World} (X : El) (hX : Fx (fun _ => True) w X) (ao : Option Addr) (n cap : Nat) (ss : List Pt) (hu : SL (fun _ => True) w ao n ss) (hz : ao = none → n = 0 ∧ cap = 0) (hn : n * 72 ≤ 140737488351232) :
    ∃ sa sc w', (Builtin.append_ #[43, 43] 43 #[.slice (some ⟨w.heap.size, 0, none⟩) 1 1, .slice ao n cap]).run Try.prog (w.alloc (.cells (c5 X).toArray 63)) = .ok (.slice sa (n + 1) sc) w' ∧ SL (fun _ => True) w' sa (n + 1) (X.1 :: ss) ∧ Below w.heap.size w w' := by
  obtain ⟨i0, hi0, hz0, hz1, hz2⟩ := info_parts infoSm
  have hal := bl1 w (.cells (c5 X).toArray 63)
  have hown := own_lit w X
  cases ao with
  | none =>
    obtain ⟨rfl, rfl⟩ := hz rfl
    obtain rfl : ss = [] := List.length_eq_zero_iff.1 hu.1
    have hr := run_append_owned_none (P := Try.prog) _ w.heap.size 43 43 63 i0 5 und43 hi0 _ 1 _ hown
    obtain ⟨sa, sc, e, hsl⟩ := sl_of (els := [X]) (p := fun _ => True) hown (fun z hz => by rcases List.mem_singleton.1 hz with rfl; exact hX.bl hal)
    refine ⟨sa, sc, _, ?_, hsl, hal⟩
    rw [hr, e]
    rfl
  | some ad =>
    obtain ⟨els, he, hf, hc⟩ := els_of hu
    have hlen : els.length = n := by have := congrArg List.length he; simp at this; rw [this]; exact hu.1
    obtain ⟨v', w', hr, h1, h2, _⟩ := run_append_own_at (P := Try.prog) (w.alloc (.cells (c5 X).toArray 63)) w.heap.size 43 43 63 i0 (.agg #[.slice none 0 0, .slice none 0 0, .int .i64 0, .int .u64 0, .int .i64 0]) 5 72 und43 hi0 hz0 hz1 hz2 rfl (by decide) _ 1 _ hown ad n cap (f5 els) (by rw [f5_len, hlen]) (fun j u hj => bl_cell hal (hc ad rfl j u hj)) (f5_one els) (by unfold maxLen; omega) (by omega) (by simp)
    have u2 : Below w.heap.size w w' := bl_grown hal hal.size h2 (fun k hk => by simp [Value.ownBlock] at hk; omega)
    rw [show f5 [X] ++ f5 els = f5 (X :: els) by simp [f5], show 1 + n = (X :: els).length by simp; omega] at h1
    obtain ⟨sa, sc, e, hsl⟩ := sl_of (p := fun _ => True) h1 (fun z hz => by
      rcases List.mem_cons.1 hz with rfl | hz
      · exact hX.bl u2
      · exact (hf z hz).bl u2)
    rw [List.map_cons, he] at hsl
    rw [show (X :: els).length = n + 1 by simp; omega] at hsl e
    exact ⟨sa, sc, w', by rw [hr, e], hsl, u2⟩
/-- An append behind a guard that says yes. -/
theorem wpList_append_runG {P : Program} {w : World} {ops : Array Oper} {rest : List Oper} {o : Oper} {a : Act} {Q : Exit → Act → World → Prop} (hw : Region.wanted o (yielded ops a.tmps) = true) (s x : Operand) (t u : TypeId)
    (ho : o.op = .call { callee := .builtin .append, args := #[s, x], argTypes := #[t, u] }) (v y v' : Value) (w' : World) (hs : a.eval s = v) (hx : a.eval x = y) (hrun : (Builtin.append_ #[t, u] o.type #[v, y]).run P w = .ok v' w')
    (h : wpList P ops Q rest (a.put o.dst v') w') : wpList P ops Q (o :: rest) a w := by
  refine wpList_step fun K hK => ?_
  rw [if_pos hw]
  unfold Oper.wp execOp
  simp only [ho, resolve, invoke, builtin, Sem.run_bind, Sem.run_pure, Result.andThen_ok, List.map_toArray, List.map_cons, List.map_nil, hs, hx, hrun]
  exact hK _ _ h
/-- One's number is one more. -/
def inc (x : El) : El := ({ x.1 with node := x.1.node + 1 }, x.2)
def bump (i : Nat) (l : List El) : List El := (l.take i).map inc ++ l.drop i
theorem bump_len (i : Nat) (l : List El) : (bump i l).length = l.length := by simp [bump]; omega
theorem bump_get {i : Nat} {l : List El} {x : El} (h : l[i]? = some x) : (bump i l)[i]? = some x := by
  have hi := (List.getElem?_eq_some_iff.1 h).1
  unfold bump
  rw [List.getElem?_append_right (by simp; omega)]
  simp
  rw [show i - min i l.length = 0 by omega]
  simpa using h
theorem bump_succ {i : Nat} {l : List El} {x : El} (h : l[i]? = some x) : f6 (bump (i + 1) l) = (f6 (bump i l)).set (6 * i) (.int .i64 (x.1.node + 1)) := by
  obtain ⟨hi, hx⟩ := List.getElem?_eq_some_iff.1 h
  have e1 : bump i l = (l.take i).map inc ++ x :: l.drop (i + 1) := by unfold bump; rw [List.drop_eq_getElem_cons hi, hx]
  have e2 : bump (i + 1) l = (l.take i).map inc ++ inc x :: l.drop (i + 1) := by unfold bump; rw [List.take_add_one, h]; simp
  have hlen : (f6 ((l.take i).map inc)).length = 6 * i := by rw [f6_len]; simp; omega
  rw [e1, e2]
  have s1 : ∀ (A B : List El) (y : El), f6 (A ++ y :: B) = f6 A ++ (c6 y ++ f6 B) := fun A B y => by simp [f6]
  rw [s1, s1, List.set_append_right _ _ (by omega), hlen, Nat.sub_self]
  rfl
theorem bump_all (l : List El) : bump l.length l = l.map inc := by simp [bump]
theorem bump_zero (l : List El) : bump 0 l = l := by simp [bump]
/-- A summary's box. -/
def Bxs (w : World) (g : Nat) (ca : Option Addr) (a b : Nat) (oa : Option Addr) (c d : Nat) (x : Int) (y : Nat) (z : Int) : Prop := w.heap[g]? = some (.cells #[.slice ca a b, .slice oa c d, .int .i64 x, .int .u64 (y : Nat), .int .i64 z] 63 (0, 0))
section
variable {w : World} {g a b c d y : Nat} {ca oa : Option Addr} {x z : Int}
theorem Bxs.lt (h : Bxs w g ca a b oa c d x y z) : g < w.heap.size := (Array.getElem?_eq_some_iff.1 h).1
theorem Bxs.cells (h : Bxs w g ca a b oa c d x y z) : w.cell? ⟨g, 0, none⟩ = some (.slice ca a b) ∧ w.cell? ⟨g, 1, none⟩ = some (.slice oa c d) ∧ w.cell? ⟨g, 2, none⟩ = some (.int .i64 x) ∧ w.cell? ⟨g, 3, none⟩ = some (.int .u64 (y : Nat)) ∧ w.cell? ⟨g, 4, none⟩ = some (.int .i64 z) :=
  ⟨by rw [cell_of_row w g 0 _ 63 (0, 0) h]; rfl, by rw [cell_of_row w g 1 _ 63 (0, 0) h]; rfl, by rw [cell_of_row w g 2 _ 63 (0, 0) h]; rfl, by rw [cell_of_row w g 3 _ 63 (0, 0) h]; rfl, by rw [cell_of_row w g 4 _ 63 (0, 0) h]; rfl⟩
theorem Bxs.u8 (h : Bxs w g ca a b oa c d x y z) (i : Nat) (k : Int) : w.cell? ⟨g, i, none⟩ ≠ some (.int .u8 k) := by
  rw [cell_of_row w g i _ 63 (0, 0) h]
  match i with
  | 0 => simp
  | 1 => simp
  | 2 => simp
  | 3 => simp
  | 4 => simp
  | n + 5 => simp
theorem Bxs.u64 (h : Bxs w g ca a b oa c d x y z) (i : Nat) (k l : Int) (h1 : w.cell? ⟨g, i, none⟩ = some (.int .u64 k)) (h2 : w.cell? ⟨g, i + 2, none⟩ = some (.int .u64 l)) : False := by
  rw [cell_of_row w g _ _ 63 (0, 0) h] at h1 h2
  match i with
  | 0 => simp at h1
  | 1 => simp at h1
  | 2 => simp at h1
  | 3 => simp at h2
  | 4 => simp at h1
  | n + 5 => simp at h1
theorem Bxs.bl (h : Bxs w g ca a b oa c d x y z) {w' : World} (u : Below w.heap.size w w') : Bxs w' g ca a b oa c d x y z := (u.block g h.lt).trans h
/-- No list lies in it. -/
theorem Fx.away {e : El} (f : Fx (fun _ => True) w e) (h : Bxs w g ca a b oa c d x y z) : Fx (fun k => k ≠ g) w e := by
  obtain ⟨f1, f2, f3, f4, f5⟩ := f
  refine ⟨⟨f1.1, f1.2.1, fun hn => ?_⟩, f2, fun A hA hn hg => ?_, f4, f5⟩
  · obtain ⟨B, off, e1, _, hc⟩ := f1.2.2 hn
    refine ⟨B, off, e1, fun hg => ?_, fun j q hj => ?_⟩
    · subst hg
      obtain ⟨q, hq⟩ : ∃ q, e.1.es[0]? = some q := ⟨e.1.es[0]'hn, List.getElem?_eq_getElem _⟩
      obtain ⟨_, _, _, c0, _, c2, _⟩ := hc 0 q hq
      exact h.u64 _ _ _ c0 c2
    · obtain ⟨so, sn, sc, c0, c1, c2, c3, c4, hr, _⟩ := hc j q hj
      refine ⟨so, sn, sc, c0, c1, c2, c3, c4, hr, fun A hA hn hg => ?_⟩
      obtain ⟨b', o', e2, h2⟩ := hr.open hn
      rw [hA] at e2
      cases e2
      subst hg
      exact h.u8 _ _ (h2 0 hn)
  · obtain ⟨B, off, e1, hc⟩ := f2.2.2 hn
    rw [hA] at e1
    cases e1
    subst hg
    obtain ⟨q, hq⟩ : ∃ q, e.1.ls[0]? = some q := ⟨e.1.ls[0]'hn, List.getElem?_eq_getElem _⟩
    obtain ⟨c0, _, c2, _⟩ := hc 0 q hq
    exact h.u64 _ _ _ c0 c2
/-- Its view's number is laid anew. -/
theorem Bxs.high (h : Bxs w g ca a b oa c d x y z) : w.there g 3 2 ∧ Bxs (w.setCells g 3 [.int .u64 0, .int .i64 0]) g ca a b oa c d x 0 0 ∧ w.grownBy (w.setCells g 3 [.int .u64 0, .int .i64 0]) (some g) := by
  obtain ⟨c0, c1, c2, c3, c4⟩ := h.cells
  have hl := h.lt
  refine ⟨fun j hj => ?_, ?_, ?_⟩
  · have hf := frozen_of_row w g (3 + j) _ 63 h
    refine ⟨?_, hf⟩
    rcases (show j = 0 ∨ j = 1 by omega) with rfl | rfl
    · rw [c3]; rfl
    · rw [c4]; rfl
  · unfold Bxs at *
    show ((w.setCell ⟨g, 3, none⟩ (.int .u64 0)).setCell ⟨g, 4, none⟩ (.int .i64 0)).heap[g]? = _
    simp only [World.setCell, Array.getElem?_modify, if_true, h, Option.map_some]
    rfl
  · refine ⟨by simp [World.setCells, World.setCell], by simp [World.setCells, World.setCell], by simp [World.setCells, World.setCell], by simp [World.setCells, World.setCell], fun k hk hne => ?_⟩
    have hne' : k ≠ g := fun e => hne (by rw [e])
    show ((w.setCell ⟨g, 3, none⟩ (.int .u64 0)).setCell ⟨g, 4, none⟩ (.int .i64 0)).heap[k]? = _
    rw [Below.heap_setCell _ _ _ _ hne', Below.heap_setCell _ _ _ _ hne']
end
end Go.Proofs.Ytooeemhlpmiceaa
