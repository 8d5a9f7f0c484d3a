/-
  slices.SortFunc of labels by label.Compare: the same labels, none ahead of a lesser one.
-/
import Derived.Test.YtpdgoalbknopiaaLDel2
import Derived.Test.YtpdgoalbknopiaaLLay
namespace Go.Proofs.Ytpdgoalbknopiaa
open Go.RowKit Go.Shelf Go.Lib Go.Sort
set_option linter.unusedVariables false

/-- Is a label less than another one? -/
def ltL (x y : Lb) : Prop := x.1 < y.1 ∨ x.1 = y.1 ∧ (x.2.1 < y.2.1 ∨ x.2.1 = y.2.1 ∧ (x.2.2.1 < y.2.2.1 ∨ x.2.2.1 = y.2.2.1 ∧ x.2.2.2 < y.2.2.2))
theorem cmpL_lt (x y : Lb) : cmpL x y < 0 ↔ ltL x y := by
  obtain ⟨n1, p1, s1, q1⟩ := x
  obtain ⟨n2, p2, s2, q2⟩ := y
  unfold cmpL cmpV sgn ltL
  simp only
  repeat' split
  all_goals omega
theorem cmpL_eq (x y : Lb) : cmpL x y = 0 ↔ x = y := by
  obtain ⟨n1, p1, s1, q1⟩ := x
  obtain ⟨n2, p2, s2, q2⟩ := y
  unfold cmpL cmpV sgn
  simp only [Prod.mk.injEq]
  repeat' split
  all_goals omega
theorem ltL_irr (x : Lb) : ¬ ltL x x := by unfold ltL; omega
theorem ltL_trans {x y z : Lb} (h : ltL x y) (k : ltL y z) : ltL x z := by unfold ltL at *; omega
theorem ltL_ntrans {x y z : Lb} (h : ¬ ltL x y) (k : ¬ ltL y z) : ¬ ltL x z := by unfold ltL at *; omega
theorem ltL_tri {x y : Lb} (h : ¬ ltL x y) (k : ¬ ltL y x) : x = y := by
  obtain ⟨n1, p1, s1, q1⟩ := x
  obtain ⟨n2, p2, s2, q2⟩ := y
  unfold ltL at *
  simp only [Prod.mk.injEq] at *
  omega
theorem ltC (x y : Lb) : ltOf cmpL x y = true ↔ ltL x y := by unfold ltOf; rw [← cmpL_lt]; simp
theorem ltC' (x y : Lb) : ltOf cmpL x y = false ↔ ¬ ltL x y := by rw [← ltC]; simp
theorem swoL : SWO (ltOf cmpL) where
  irrefl x := (ltC' _ _).2 (ltL_irr x)
  trans x y z h1 h2 := (ltC _ _).2 (ltL_trans ((ltC _ _).1 h1) ((ltC _ _).1 h2))
  ntrans x y z h1 h2 := (ltC' _ _).2 (ltL_ntrans ((ltC' _ _).1 h1) ((ltC' _ _).1 h2))

theorem flatK_flat (d : Array Lb) : flatK cellsL 4 d = (flat d.toList).toArray := by
  refine ext_get! (by simp [flat_len]) fun t ht => ?_
  have ht' : t < d.size * 4 := by simpa using ht
  rw [get_flatK _ _ _ t ht']
  have hd : t / 4 < d.size := by omega
  have hg := flat_get d.toList (t / 4) d[t / 4] (t % 4) (by simp [hd]) (by omega)
  rw [show 4 * (t / 4) + t % 4 = t by omega] at hg
  rw [getElem!_pos d _ hd]
  have hlt : t % 4 < (cellsL d[t / 4]).length := by simp [cellsL]; omega
  rw [List.getElem?_eq_getElem hlt] at hg
  rw [getElem!_pos (cellsL d[t / 4]) _ hlt]
  obtain ⟨h1, h2⟩ := List.getElem?_eq_some_iff.1 hg
  have h3 : t < (flat d.toList).toArray.size := by simpa using h1
  rw [getElem!_pos _ t h3]
  simpa using h2.symm
theorem put_flat (d : Array Lb) (ls : List Lb) (r : List Value) (h : d.size = ls.length) : putCells id 0 (flat d.toList).toArray (flat ls ++ r).toArray = (flat d.toList ++ r).toArray := by
  have e3 : (flat d.toList).length = (flat ls).length := by rw [flat_len, flat_len, Array.length_toList, h]
  apply Array.ext_getElem?
  intro i
  unfold putCells
  rw [Array.getElem?_mapIdx]
  simp only [List.getElem?_toArray, List.size_toArray, Nat.zero_le, true_and, Nat.zero_add, Nat.sub_zero, id]
  by_cases hi : i < (flat d.toList).length
  · rw [List.getElem?_append_left hi, List.getElem?_eq_getElem (by rw [List.length_append]; omega), Option.map_some, if_pos hi, List.getElem?_eq_getElem hi]
    have h3 : i < (flat d.toList).toArray.size := by simpa using hi
    rw [getElem!_pos _ i h3]
    simp
  · rw [List.getElem?_append_right (by omega), List.getElem?_append_right (by omega), show (flat ls).length = (flat d.toList).length by omega]
    cases r[i - (flat d.toList).length]? with
    | none => rfl
    | some u => simp only [Option.map_some, if_neg hi]

theorem cmpLays12 (blk off size : Nat) (w : World) : CmpLays Try.prog 74 #[] cellsL 4 cmpL blk off size w :=
  fun _ _ _ _ x y => (compareL_any _ x y).mono fun e w' ⟨he, hu⟩ => ⟨he, hu.grow⟩

set_option maxRecDepth 10000 in
set_option maxHeartbeats 1000000 in
theorem sortF_blk (w : World) (g cap n : Nat) (ls : List Lb) (hb : Blk w g cap ls) (hn : ls.length = n) (hlen : n < 4611686018427387904) :
    Calls Try.prog 76 #[.slice (some ⟨g, 0, none⟩) n cap, .func (.func 74) #[] #[]] w fun e w' => e = .returned (.tuple #[]) ∧ ∃ ls', ls'.Perm ls ∧ ls'.Pairwise (fun x y => ¬ ltL y x) ∧ Blk w' g cap ls' ∧ w.grownBy w' (some g) := by
  have hglt := hb.lt
  obtain ⟨r, h1, h2⟩ := hb
  have hH : HoldsK cellsL 4 w g 0 ls.toArray := by
    intro j hj
    rw [flatK_flat] at hj ⊢
    have hj' : j < (flat ls).length := by simpa using hj
    refine ⟨?_, by simp [World.frozen?, h1]⟩
    rw [getElem!_pos _ j hj]
    unfold World.cell?
    rw [h1]
    simp only [List.getElem?_toArray, Nat.zero_add]
    rw [List.getElem?_append_left hj', List.getElem?_eq_getElem hj']
    simp
  have eg : ∀ args w, (callFunc 74 args).run Try.prog w = .ok (.enter 74 args) w := enters_of Try.func74 (by kernel_rfl) rfl
  have hS := AnyQ.slices_SortFunc sortL 4 Try.isAgg26 Try.sizeOf26 cellsL (fun _ => rfl) (fun x v hv => by simp [cellsL] at hv; rcases hv with rfl | rfl | rfl | rfl <;> rfl) cmpL swoL 74 #[] g 0 cap ls.toArray w eg (cmpLays12 g 0 _ w) hH hglt (by simpa [hn] using hlen)
  have hsz : ls.toArray.size = n := by simpa using hn
  rw [hsz] at hS
  change Calls Try.prog 76 _ _ _ at hS
  refine hS.mono ?_
  rintro e w' ⟨rfl, d', q, os, hperm, hsort, rfl⟩
  have hd's : d'.size = n := by rw [hperm.1]; exact hsz
  have hP : d'.toList.Perm ls := by
    have := hperm.2.2
    rw [show d'.extract 0 n = d' by rw [← hd's]; simp, show ls.toArray.extract 0 n = ls.toArray by rw [← hsz]; simp] at this
    simpa using this
  refine ⟨rfl, d'.toList, hP, ?_, ⟨r, ?_, ?_⟩, ?_⟩
  · rw [List.pairwise_iff_getElem]
    intro a b ha hb hab
    have ha' : a < d'.size := by simpa using ha
    have hb' : b < d'.size := by simpa using hb
    have := hsort a b (Nat.zero_le _) hab (by omega)
    rw [getElem!_pos _ a ha', getElem!_pos _ b hb'] at this
    simpa using (ltC' _ _).1 this
  · unfold sortWorldK
    rw [heap_grow_old _ _ (by simpa [putRowK, putRow, mapBlock, Sort.ahead] using hglt)]
    unfold putRowK putRow
    rw [flatK_flat]
    simp only [mapBlock, Sort.ahead, Array.getElem?_modify, h1, if_true, Option.map_some, onCells]
    rw [put_flat d' ls r (by omega)]
  · rw [← h2, List.length_append, List.length_append, flat_len, flat_len, Array.length_toList]; omega
  · refine ⟨rfl, rfl, rfl, by simp [sortWorldK, putRowK, putRow, mapBlock, Sort.ahead, Sort.grow], fun k hk hne => ?_⟩
    unfold sortWorldK
    rw [heap_grow_old _ _ (by simpa [putRowK, putRow, mapBlock, Sort.ahead] using hk)]
    have hkg : ¬ g = k := fun e => hne (by rw [e])
    simp [putRowK, putRow, mapBlock, Sort.ahead, Array.getElem?_modify, hkg]

theorem sortF_none (w : World) (a : Option Addr) (cap : Nat) (fv : Value) : Calls Try.prog 76 #[.slice a 0 cap, fv] w fun e w' => e = .returned (.tuple #[]) ∧ w = w' := by
  have hS := AnyF.slices_SortFunc_none (P := Try.prog) (ρ := sortL_ren) { sortL with } a cap fv w
  change Calls Try.prog 76 _ _ _ at hS
  exact hS.mono fun _ _ h => ⟨h.1, h.2.symm⟩
end Go.Proofs.Ytpdgoalbknopiaa
