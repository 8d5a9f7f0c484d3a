/-
  A list of one summary; told of it.
-/
import Derived.Test.YtooeemhlpmiceaaXRef3
namespace Go.Proofs.Ytooeemhlpmiceaa
open Go.ChangeShapes Go.WideShapes Go.ChangeAt Go.RowKit Go.Deep
set_option linter.unusedVariables false
set_option linter.unusedSimpArgs false

theorem one_sl {w : World} {t : Pt} {ca : Option Addr} {cc : Nat} {oa : Option Addr} {oc : Nat} (hE : ER (fun _ => True) w ca t.es.length t.es) (hL : LR w oa t.ls.length t.ls) (hz1 : ca = none → t.es.length = 0 ∧ cc = 0) (hz2 : oa = none → t.ls.length = 0 ∧ oc = 0) :
    SL (fun _ => True) (w.alloc (.cells #[.slice ca t.es.length cc, .slice oa t.ls.length oc, .int .i64 t.nx, .int .u64 (t.hn : Nat), .int .i64 t.hp] 63)) (some ⟨w.heap.size, 0, none⟩) 1 [t] := by
  have u := bl1 w (.cells #[.slice ca t.es.length cc, .slice oa t.ls.length oc, .int .i64 t.nx, .int .u64 (t.hn : Nat), .int .i64 t.hp] 63)
  refine ⟨rfl, by omega, fun _ => ⟨w.heap.size, 0, rfl, trivial, fun j x hj => ?_⟩⟩
  have hj0 : j = 0 := by have := (List.getElem?_eq_some_iff.1 hj).1; simp at this; exact this
  subst hj0
  simp at hj
  subst hj
  exact ⟨ca, cc, oa, oc, ⟨cell_box w _ 63 0 _ rfl, cell_box w _ 63 1 _ rfl, cell_box w _ 63 2 _ rfl, cell_box w _ 63 3 _ rfl, cell_box w _ 63 4 _ rfl⟩, hE.bl u, hL.up u, fun _ _ _ => trivial, hz1, hz2⟩
theorem tl_of {w : World} {B : Nat} {p : Nat → Prop} {vt : Value} {els : List El} (ho : w.ownsRow B 65 6 vt els.length (f6 els)) (hf : ∀ x ∈ els, Fx p w x) : ∃ ta tc, vt = .slice ta els.length tc ∧ TL (fun _ => True) w ta els.length (els.map (·.1)) := by
  rcases id ho.2 with ⟨hv, h0⟩ | ⟨g, cap, cur, hv, hg, hh, hnc, hcm, hcs, htk⟩
  · exact ⟨none, 0, by rw [h0]; exact hv, by simp, by omega, fun hn => by omega⟩
  · subst hv
    refine ⟨_, _, rfl, by simp, by unfold maxLen at hcm; omega, fun hn => ⟨g, 0, rfl, trivial, fun j t hj => ?_⟩⟩
    rw [List.getElem?_map] at hj
    obtain ⟨x, hx, rfl⟩ := Option.map_eq_some_iff.1 hj
    have hcell : ∀ i, i < 6 → w.cell? ⟨g, 0 + j * 6 + i, none⟩ = (c6 x)[i]? := fun i hi => by
      have e := f6_get els j x i hx hi
      have hlt : i < (c6 x).length := by simpa [c6, c5] using hi
      rw [List.getElem?_eq_getElem hlt] at e ⊢
      have := ho.cells (g := g) rfl (6 * j + i) _ e
      rw [Addr.add_lit] at this
      rw [show 0 + j * 6 + i = 0 + (6 * j + i) by omega]
      exact this
    obtain ⟨f1, f2, f3, f4, f5⟩ := hf x (List.mem_of_getElem? hx)
    exact ⟨hcell 0 (by omega), x.2.1.1, x.2.1.2, x.2.2.1, x.2.2.2, ⟨hcell 1 (by omega), hcell 2 (by omega), hcell 3 (by omega), hcell 4 (by omega), hcell 5 (by omega)⟩, f1.mono (fun _ _ => trivial), f2, fun _ _ _ => trivial, f4, f5⟩
/-- What one node told, its number laid anew. -/
def One (w w' : World) (t : Pt) (g tc : Nat) : Prop := w.heap.size ≤ g ∧ w'.frozen? ⟨g, 0, none⟩ = false ∧ (∃ v, w'.cell? ⟨g, 0, none⟩ = some v) ∧ ∀ x : Int, TL (fun _ => True) (w'.setCell ⟨g, 0, none⟩ (.int .i64 x)) (some ⟨g, 0, none⟩) 1 [{ t with node := x, es := mergeE [] t.es }] ∧ Below w.heap.size w (w'.setCell ⟨g, 0, none⟩ (.int .i64 x))
theorem told_one {w w' : World} {t : Pt} {e : Ending} (h : ToldPost w w' [t] 0 e) : ∃ g tc vn vs, e = .returned (.tuple #[.slice (some ⟨g, 0, none⟩) 1 tc, vn, vs]) ∧ One w w' t g tc := by
  obtain ⟨p, vt, vn, vs, els, rfl, hT, hp⟩ := h
  have hlen : els.length = 1 := by have := congrArg List.length hp; simpa [toldL] using this
  obtain ⟨X, rfl⟩ := List.length_eq_one_iff.1 hlen
  have hX : X.1 = { t with node := 0, es := mergeE [] t.es } := by
    have e1 : toldL [t] 0 = [{ t with node := 0, es := mergeE [] t.es }] := rfl
    rw [e1] at hp
    simpa using hp
  have hrt := hT.rt
  obtain ⟨g, tc, rfl⟩ : ∃ g tc, vt = .slice (some ⟨g, 0, none⟩) 1 tc := by
    rcases id hrt.2 with ⟨hv, h0⟩ | ⟨g, cap, cur, hv, _⟩
    · simp at h0
    · exact ⟨g, cap, hv⟩
  have hg := (hrt.lt g rfl).1
  have hng := (hT.nt g rfl).1
  refine ⟨g, tc, vn, vs, rfl, hg, World.ownsRow.frozenAt hrt 0, ?_, fun x => ?_⟩
  · have := hrt.cells (g := g) rfl 0 (.int .i64 X.1.node) rfl
    rw [Addr.add_lit] at this
    exact ⟨_, this⟩
  · obtain ⟨hst, hgs⟩ := World.ownsRow.stored hrt 0 (.int .i64 x)
    obtain ⟨ta, tc', hv, hTL⟩ := tl_of (els := [(({ X.1 with node := x } : Pt), X.2)]) (p := p) hst (fun z hz => by
      rcases List.mem_singleton.1 hz with rfl
      have hf := hT.ft X (by simp)
      have := hf.kp (w' := w'.setCell ⟨g, 0, none⟩ (.int .i64 x)) (fun ad v hpa hv => (World.cell?_of_block (hgs.block _ (World.block_lt_of_cell? w' _ hv) (fun e => hng (by injection e with e; rw [← e]; exact hpa)))).trans hv)
      exact this)
    simp only [List.length_cons, List.length_nil, Nat.zero_add, Value.slice.injEq] at hv
    obtain ⟨rfl, -, rfl⟩ := hv
    simp only [List.length_cons, List.length_nil, Nat.zero_add, List.map_cons, List.map_nil] at hTL
    rw [hX] at hTL
    exact ⟨hTL, bl_grown hT.bl hT.bl.size hgs (fun k hk => by injection hk with e; rw [← e]; exact hg)⟩
theorem one_high (t : Pt) : highT [t] = if gtV (t.hn, t.hp) (0, 0) then (t.hn, t.hp) else (0, 0) := rfl
set_option maxRecDepth 10000 in
theorem open_sum2 {H : Type} {enc : TypeId × Value → H} {W : World} {base : Nat} {v : Value} {d : DataW H} {p : List MemPlace} (hv : Value.okWide Try.prog W .any base 63 v) (h : DataW.Trod enc Try.prog W 0 (fun _ => true) true 63 v d p) (hfit : Fits 63 d) :
    ∃ (t : Pt) (ca : Option Addr) (cc : Nat) (oa : Option Addr) (oc : Nat), v = .agg #[.slice ca t.es.length cc, .slice oa t.ls.length oc, .int .i64 t.nx, .int .u64 (t.hn : Nat), .int .i64 t.hp] ∧ ER (fun _ => True) W ca t.es.length t.es ∧ LR W oa t.ls.length t.ls ∧ (ca = none → t.es.length = 0 ∧ cc = 0) ∧ (oa = none → t.ls.length = 0 ∧ oc = 0) ∧ OkP t := by
  obtain ⟨f0, f1, f2, f3, he, _⟩ := sum38
  obtain ⟨cs, rfl, hs⟩ := okWide_struct he hv
  obtain ⟨fuel, hf⟩ := h
  obtain ⟨t, ca, cc, oa, oc, hc, hr⟩ := trod_sum2 hf hfit
  obtain ⟨h1, h2, h3, h4, h5⟩ := hr
  refine ⟨t, ca, cc, oa, oc, ?_, h1, h2, h3, h4, h5⟩
  obtain ⟨l⟩ := cs
  have e : l = [.slice ca t.es.length cc, .slice oa t.ls.length oc, .int .i64 t.nx, .int .u64 (t.hn : Nat), .int .i64 t.hp] := by simpa [Value.cells] using hc
  rw [e]
end Go.Proofs.Ytooeemhlpmiceaa
