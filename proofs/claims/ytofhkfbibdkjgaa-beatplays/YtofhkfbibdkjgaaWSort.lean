/-
  slices.SortFunc at the wheel's own closure: the timers, by how they were armed.
-/
import Derived.Test.YtofhkfbibdkjgaaWOk
import Derived.Test.YtofhkfbibdkjgaaWLay
import Derived.Lib.RowBridge
import Derived.Lib.SortBridge
namespace Go.Proofs.Ytofhkfbibdkjgaa
open Go.RowKit Go.Shelf Go.Lib Go.Sort
set_option linter.unusedVariables false

abbrev Id := { x : Int // In x }
instance : Inhabited Id := ⟨⟨0, by unfold In; omega⟩⟩
def encId (x : Id) : Value := .int .i64 x.1
def cfOf (T : Int → Option Tm) (x y : Id) : Int := Lib.compareInt (armedOf T x.1 : Nat) (armedOf T y.1 : Nat)
theorem ltC (T : Int → Option Tm) (x y : Id) : ltOf (cfOf T) x y = decide (armedOf T x.1 < armedOf T y.1) := by
  unfold ltOf cfOf Lib.compareInt
  by_cases h1 : armedOf T x.1 < armedOf T y.1
  · simp [h1]
  · by_cases h2 : armedOf T y.1 < armedOf T x.1 <;> simp [h1, h2]
theorem swoC (T : Int → Option Tm) : SWO (ltOf (cfOf T)) where
  irrefl x := by rw [ltC]; simp
  trans x y z h1 h2 := by rw [ltC] at *; simp at *; omega
  ntrans x y z h1 h2 := by rw [ltC] at *; simp at *; omega

theorem cells_map (ds : List Int) (h : ∀ i ∈ ds, In i) : ∃ es : List Id, es.map (·.1) = ds := by
  induction ds with
  | nil => exact ⟨[], rfl⟩
  | cons a ds ih =>
    obtain ⟨es, he⟩ := ih (fun i hi => h i (List.mem_cons_of_mem _ hi))
    exact ⟨⟨a, h a (by simp)⟩ :: es, by simp [he]⟩

theorem sw_block (w : World) (g b q : Nat) (d : Array Id) (os : Array Obj) (hb : b < w.heap.size) (hne : b ≠ g) : (sortWorld encId w g 0 q d os).heap[b]? = w.heap[b]? := by
  unfold sortWorld
  rw [heap_grow_old _ _ (by simpa [putRow, mapBlock, Sort.ahead] using hb)]
  simp [putRow, mapBlock, Sort.ahead, Array.getElem?_modify, Ne.symm hne]
theorem sw_row (w : World) (g q : Nat) (d : Array Id) (os : Array Obj) {cur : Array Value} (hg : w.heap[g]? = some (.cells cur 3 (0, 0))) : (sortWorld encId w g 0 q d os).heap[g]? = some (.cells (putCells encId 0 d cur) 3 (0, 0)) := by
  have hb := (Array.getElem?_eq_some_iff.1 hg).1
  unfold sortWorld
  rw [heap_grow_old _ _ (by simpa [putRow, mapBlock, Sort.ahead] using hb)]
  simp [putRow, mapBlock, Sort.ahead, Array.getElem?_modify, hg, onCells]
theorem put_take (d : Array Id) (cur : Array Value) (h : d.size ≤ cur.size) : (putCells encId 0 d cur).toList.take d.size = d.toList.map encId := by
  apply List.ext_getElem?
  intro j
  by_cases hj : j < d.size
  · rw [List.getElem?_take, if_pos hj, List.getElem?_map, Array.getElem?_toList, Array.getElem?_toList]
    unfold putCells
    rw [Array.getElem?_mapIdx, Array.getElem?_eq_getElem (by omega : j < cur.size), Array.getElem?_eq_getElem hj]
    simp [hj]
  · rw [List.getElem?_take, if_neg hj, List.getElem?_eq_none (by simpa using hj)]

set_option maxHeartbeats 1000000 in
theorem sort_any (w : World) (p m B n base g cap : Nat) (T : Int → Option Tm) (hB : w.cell? ⟨B, 0, none⟩ = some (.pointer (some ⟨p, 0, none⟩))) (h2 : w.cell? ⟨p, 2, none⟩ = some (.map (some m))) (hm : MapIs w m n T)
    (ds : List Int) (hds : ∀ i ∈ ds, In i) (hown : w.ownsRow base 3 1 (.slice (some ⟨g, 0, none⟩) ds.length cap) ds.length (ds.map (Value.int .i64))) (hgB : g ≠ B) (hgp : g ≠ p) (hgm : g ≠ m) (hlen : ds.length < 4611686018427387904) :
    Calls Try.prog 28 #[.slice (some ⟨g, 0, none⟩) ds.length cap, .func (.func 29) #[] #[.pointer (some ⟨B, 0, none⟩)]] w fun e w' => e = .returned (.tuple #[]) ∧ ∃ ds' : List Int, ds'.Perm ds ∧ ds'.Pairwise (fun i j => ¬ armedOf T j < armedOf T i) ∧
      w'.ownsRow base 3 1 (.slice (some ⟨g, 0, none⟩) ds.length cap) ds.length (ds'.map (Value.int .i64)) ∧ Turned (fun b => b = g) w w' := by
  obtain ⟨es, he⟩ := cells_map ds hds
  have hel : es.length = ds.length := by rw [← he]; simp
  obtain ⟨cur, hcur, hbg, hnc, hcm, hcs, htk⟩ : ∃ cur, w.heap[g]? = some (.cells cur 3 (0, 0)) ∧ base ≤ g ∧ ds.length ≤ cap ∧ cap ≤ maxLen ∧ cur.size = cap * 1 ∧ cur.toList.take (ds.length * 1) = ds.map (Value.int .i64) := by
    rcases hown.2 with ⟨h0, _⟩ | ⟨g', cap', cur', h0, a, b, c, d, e, f⟩
    · cases h0
    · simp only [Value.slice.injEq, Option.some.injEq, Addr.mk.injEq] at h0
      obtain ⟨⟨rfl, _, _⟩, _, rfl⟩ := h0
      exact ⟨cur', b, a, c, d, e, f⟩
  have hglt : g < w.heap.size := (Array.getElem?_eq_some_iff.1 hcur).1
  have hH : Holds encId w g 0 es.toArray := by
    intro j hj
    have hj' : j < es.length := by simpa using hj
    refine ⟨?_, by simp [World.frozen?, hcur]⟩
    have := hown.cells (g := g) rfl j (encId es.toArray[j]!) (by
      rw [← he, List.map_map, List.getElem?_map, List.getElem?_eq_getElem hj', getElem!_pos _ j hj]
      rfl)
    rwa [Addr.add_lit] at this
  have eg : ∀ args w, (callFunc 29 args).run Try.prog w = .ok (.enter 29 args) w := enters_of Try.func29 (by kernel_rfl) rfl
  have hcmp : CmpReads Try.prog 29 #[.pointer (some ⟨B, 0, none⟩)] encId (cfOf T) g 0 es.toArray.size w := by
    intro q os dk hdk x y
    have hBlt := World.block_lt_of_cell? w _ hB
    have hplt := World.block_lt_of_cell? w _ h2
    exact closure_any (sortWorld encId w g 0 q dk os) p m B n T (by rw [cell_block (sw_block w g B q dk os hBlt (Ne.symm hgB))]; exact hB)
      (by rw [cell_block (sw_block w g p q dk os hplt (Ne.symm hgp))]; exact h2) (hm.of_block (sw_block w g m q dk os hm.lt (Ne.symm hgm))) x.1 y.1 x.2 y.2
  have hS := Any.slices_SortFunc sortL encId (fun _ => rfl) (cfOf T) (swoC T) 29 #[.pointer (some ⟨B, 0, none⟩)] g 0 cap es.toArray w eg hcmp.lays hH hglt (by simpa [hel] using hlen)
  have hsz : es.toArray.size = ds.length := by simpa using hel
  rw [hsz] at hS
  change Calls Try.prog 28 _ _ _ at hS
  refine hS.mono ?_
  rintro e w' ⟨rfl, d', q, os, hperm, hsort, rfl⟩
  have hd's : d'.size = ds.length := by rw [hperm.1]; exact hsz
  have hP : d'.toList.Perm es := by
    have := hperm.2.2
    rw [show d'.extract 0 ds.length = d' by rw [← hd's]; simp, show es.toArray.extract 0 ds.length = es.toArray by rw [← hsz]; simp] at this
    simpa using this
  refine ⟨rfl, d'.toList.map (·.1), ?_, ?_, ?_, ?_⟩
  · rw [← he]; exact hP.map _
  · rw [List.pairwise_map, List.pairwise_iff_getElem]
    intro a b ha hb hab
    have ha' : a < d'.size := by simpa using ha
    have hb' : b < d'.size := by simpa using hb
    have := hsort a b (Nat.zero_le _) hab (by omega)
    rw [ltC, getElem!_pos _ a ha', getElem!_pos _ b hb'] at this
    simpa using this
  · refine ⟨by simp [hd's], .inr ⟨g, cap, _, rfl, hbg, sw_row w g q d' os hcur, hnc, hcm, ?_, ?_⟩⟩
    · rw [show (putCells encId 0 d' cur).size = cur.size by simp [putCells]]; exact hcs
    · rw [Nat.mul_one, ← hd's, put_take d' cur (by omega), List.map_map]; rfl
  · exact ⟨rfl, rfl, rfl, by simp [sortWorld, putRow, mapBlock, Sort.ahead], fun k hk hne => sw_block w g k q d' os hk hne⟩

/-- No timer: nothing turns. -/
theorem sort_none (w : World) (a : Option Addr) (cap : Nat) (fv : Value) : Calls Try.prog 28 #[.slice a 0 cap, fv] w fun e w' => e = .returned (.tuple #[]) ∧ w = w' := by
  have hS := AnyF.slices_SortFunc_none (P := Try.prog) (ρ := sortL_ren) { sortL with } a cap fv w
  change Calls Try.prog 28 _ _ _ at hS
  exact hS.mono fun _ _ h => ⟨h.1, h.2.symm⟩

end Go.Proofs.Ytofhkfbibdkjgaa
