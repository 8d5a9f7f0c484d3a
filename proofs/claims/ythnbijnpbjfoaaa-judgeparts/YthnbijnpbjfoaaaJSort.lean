/-
  slices.SortFunc of stays, by their views' numbers.
-/
import Derived.Test.YthnbijnpbjfoaaaJStays
import Derived.Test.YthnbijnpbjfoaaaJLay
import Derived.Lib.RowBridge
import Derived.Lib.SortBridge
namespace Go.Proofs.Ythnbijnpbjfoaaa
open Go.RowKit Go.Shelf Go.Lib Go.Sort
set_option linter.unusedVariables false

/-- Which of two views' numbers is less. -/
def ltV (n1 : Nat) (p1 : Int) (n2 : Nat) (p2 : Int) : Prop := n1 < n2 ∨ n1 = n2 ∧ p1 < p2
theorem cmpV_lt (n1 : Nat) (p1 : Int) (n2 : Nat) (p2 : Int) : cmpV n1 p1 n2 p2 < 0 ↔ ltV n1 p1 n2 p2 := by
  unfold cmpV sgn ltV
  repeat' split
  all_goals omega
theorem cmpV_gt (n1 : Nat) (p1 : Int) (n2 : Nat) (p2 : Int) : 0 < cmpV n1 p1 n2 p2 ↔ ltV n2 p2 n1 p1 := by
  unfold cmpV sgn ltV
  repeat' split
  all_goals omega
abbrev Ky := Nat × Nat × Int
def KeyAt (w : World) (g : Nat) (x : Ky) : Prop := x.1 ≠ g ∧ w.cell? ⟨x.1, 1, none⟩ = some (.int .u64 (x.2.1 : Nat)) ∧ w.cell? ⟨x.1, 2, none⟩ = some (.int .i64 x.2.2)
def C24 (a b : Nat) (n1 : Nat) (p1 : Int) (n2 : Nat) (p2 : Int) (w : World) : Prop :=
  w.cell? ⟨a, 1, none⟩ = some (.int .u64 (n1 : Nat)) ∧ w.cell? ⟨a, 2, none⟩ = some (.int .i64 p1) ∧ w.cell? ⟨b, 1, none⟩ = some (.int .u64 (n2 : Nat)) ∧ w.cell? ⟨b, 2, none⟩ = some (.int .i64 p2)
theorem C24.up {a b n1 : Nat} {p1 : Int} {n2 : Nat} {p2 : Int} {w w' : World} (h : C24 a b n1 p1 n2 p2 w) (u : Below w.heap.size w w') : C24 a b n1 p1 n2 p2 w' := ⟨bl_cell u h.1, bl_cell u h.2.1, bl_cell u h.2.2.1, bl_cell u h.2.2.2⟩
set_option maxRecDepth 10000 in
theorem cmpP_any (w : World) (a b : Nat) (n1 : Nat) (p1 : Int) (n2 : Nat) (p2 : Int) (h : C24 a b n1 p1 n2 p2 w) :
    Calls Try.prog 24 #[ptr a, ptr b] w fun e w' => e = .returned (.int .i64 (cmpV n1 p1 n2 p2)) ∧ Up w w' := by
  have hc := fun W => compare_any W n1 p1 n2 p2
  have hd := h.up ((Up.refl w).drew).bl
  clear h
  unfold ptr
  unfold vid at hc
  go_enter Try.func24, Try.ntmps24
  go_wp2_with fail
  refine wp_region_noPanic ?_
  refine wp_region_held_drew (S := C24 a b n1 p1 n2 p2) (by kernel_rfl) (hd) (fun hHeld => ?_)
  unfold C24 at hHeld
  refine tq 0 ?_
  refine tq 1 ?_
  refine tq 2 ?_
  refine tq 3 ?_
  refine tq 4 ?_
  refine tq 5 ?_
  refine tq 6 ?_
  refine tq 7 ?_
  refine tq 8 ?_
  refine tq 9 ?_
  refine comes_up 10 rfl (by kernel_rfl) (fun K hK => ?_)
  go_simp
  refine (hc _).mono ?_
  rintro e w1 ⟨rfl, u1⟩
  refine hK.out _ _ (C24.up hHeld u1.bl) (fun hHeld => ?_)
  clear hK K
  (try simp only [Act.put, List.setIfInBounds_toArray, List.set_cons_zero, List.set_cons_succ])
  refine tq 11 ?_
  refine wpAnyH_done (by kernel_rfl) ?_ _
  refine NoPanic.normal ?_
  go_wp2
  go_ret
  exact ⟨rfl, ((Up.refl w).drew).trans u1⟩

section
variable (w : World) (g : Nat)
abbrev Kt := { x : Ky // KeyAt w g x }
def encK (x : Kt w g) : Value := ptr x.1.1
def cfK (x y : Kt w g) : Int := cmpV x.1.2.1 x.1.2.2 y.1.2.1 y.1.2.2
theorem ltK (x y : Kt w g) : ltOf (cfK w g) x y = true ↔ ltV x.1.2.1 x.1.2.2 y.1.2.1 y.1.2.2 := by unfold ltOf cfK; rw [← cmpV_lt]; simp
theorem ltK' (x y : Kt w g) : ltOf (cfK w g) x y = false ↔ ¬ ltV x.1.2.1 x.1.2.2 y.1.2.1 y.1.2.2 := by rw [← ltK]; simp
theorem swoK : SWO (ltOf (cfK w g)) where
  irrefl x := (ltK' _ _ _ _).2 (by unfold ltV; omega)
  trans x y z h1 h2 := by rw [ltK] at *; unfold ltV at *; omega
  ntrans x y z h1 h2 := by rw [ltK'] at *; unfold ltV at *; omega
theorem keys_sub (xs : List Ky) (h : ∀ x ∈ xs, KeyAt w g x) : ∃ es : List (Kt w g), es.map (·.1) = xs := by
  induction xs with
  | nil => exact ⟨[], rfl⟩
  | cons a r ih =>
    obtain ⟨es, he⟩ := ih (fun x hx => h x (List.mem_cons_of_mem _ hx))
    exact ⟨⟨a, h a (by simp)⟩ :: es, by simp [he]⟩
end
theorem sw_block {w : World} {g : Nat} [Inhabited (Kt w g)] (b q : Nat) (d : Array (Kt w g)) (os : Array Obj) (hb : b < w.heap.size) (hne : b ≠ g) : (sortWorld (encK w g) w g 0 q d os).heap[b]? = w.heap[b]? := by
  unfold sortWorld
  rw [heap_grow_old _ _ (by simpa [putRow, mapBlock, Sort.ahead] using hb)]
  simp [putRow, mapBlock, Sort.ahead, Array.getElem?_modify, Ne.symm hne]
theorem sw_row {w : World} {g : Nat} [Inhabited (Kt w g)] (q : Nat) (d : Array (Kt w g)) (os : Array Obj) {cur : Array Value} (hg : w.heap[g]? = some (.cells cur 59 (0, 0))) : (sortWorld (encK w g) w g 0 q d os).heap[g]? = some (.cells (putCells (encK w g) 0 d cur) 59 (0, 0)) := by
  have hb := (Array.getElem?_eq_some_iff.1 hg).1
  unfold sortWorld
  rw [heap_grow_old _ _ (by simpa [putRow, mapBlock, Sort.ahead] using hb)]
  simp [putRow, mapBlock, Sort.ahead, Array.getElem?_modify, hg, onCells]
theorem put_take {w : World} {g : Nat} [Inhabited (Kt w g)] (d : Array (Kt w g)) (cur : Array Value) (h : d.size ≤ cur.size) : (putCells (encK w g) 0 d cur).toList.take d.size = d.toList.map (encK w g) := by
  apply List.ext_getElem?
  intro j
  by_cases hj : j < d.size
  · rw [List.getElem?_take, if_pos hj, List.getElem?_map, Array.getElem?_toList, Array.getElem?_toList]
    unfold putCells
    rw [Array.getElem?_mapIdx, Array.getElem?_eq_getElem (by omega : j < cur.size), Array.getElem?_eq_getElem hj]
    simp [hj]
  · rw [List.getElem?_take, if_neg hj, List.getElem?_eq_none (by simpa using hj)]

set_option maxHeartbeats 1000000 in
theorem sort_any (w : World) (g cap n base : Nat) (xs : List Ky) (hk : ∀ x ∈ xs, KeyAt w g x) (hn : xs.length = n) (hown : w.ownsRow base 59 1 (.slice (some ⟨g, 0, none⟩) n cap) n (xs.map fun x => ptr x.1)) (hn0 : 0 < n) (hlen : n < 4611686018427387904) :
    Calls Try.prog 23 #[.slice (some ⟨g, 0, none⟩) n cap, .func (.func 24) #[] #[]] w fun e w' => e = .returned (.tuple #[]) ∧ ∃ xs' : List Ky, xs'.Perm xs ∧ xs'.Pairwise (fun x y => ¬ ltV y.2.1 y.2.2 x.2.1 x.2.2) ∧
      w'.ownsRow base 59 1 (.slice (some ⟨g, 0, none⟩) n cap) n (xs'.map fun x => ptr x.1) ∧ w.grownBy w' (some g) := by
  subst hn
  obtain ⟨es, he⟩ := keys_sub w g xs hk
  have hel : es.length = xs.length := by rw [← he]; simp
  haveI : Inhabited (Kt w g) := ⟨es[0]'(by omega)⟩
  obtain ⟨cur, hcur, hbg, hnc, hcm, hcs, htk⟩ : ∃ cur, w.heap[g]? = some (.cells cur 59 (0, 0)) ∧ base ≤ g ∧ xs.length ≤ cap ∧ cap ≤ maxLen ∧ cur.size = cap * 1 ∧ cur.toList.take (xs.length * 1) = xs.map (fun x => ptr x.1) := by
    rcases hown.2 with ⟨h0, _⟩ | ⟨g', cap', cur', h0, a, b, c, d, e, f⟩
    · cases h0
    · simp only [Value.slice.injEq, Option.some.injEq, Addr.mk.injEq] at h0
      obtain ⟨⟨rfl, _, _⟩, _, rfl⟩ := h0
      exact ⟨cur', b, a, c, d, e, f⟩
  have hglt : g < w.heap.size := (Array.getElem?_eq_some_iff.1 hcur).1
  have hH : Holds (encK w g) w g 0 es.toArray := by
    intro j hj
    have hj' : j < es.length := by simpa using hj
    refine ⟨?_, by simp [World.frozen?, hcur]⟩
    have := hown.cells (g := g) rfl j (encK w g es.toArray[j]!) (by
      rw [← he, List.map_map, List.getElem?_map, List.getElem?_eq_getElem hj', getElem!_pos _ j hj]
      rfl)
    rwa [Addr.add_lit] at this
  have eg : ∀ args w, (callFunc 24 args).run Try.prog w = .ok (.enter 24 args) w := enters_of Try.func24 (by kernel_rfl) rfl
  have hcmp : CmpLays1 Try.prog 24 #[] (encK w g) (cfK w g) g 0 es.toArray.size w := by
    intro q os dk hdk x y
    have kb : ∀ (z : Kt w g) (o : Nat) (v : Value), w.cell? ⟨z.1.1, o, none⟩ = some v → (sortWorld (encK w g) w g 0 q dk os).cell? ⟨z.1.1, o, none⟩ = some v := fun z o v h => by
      rw [cell_blk (a := ⟨z.1.1, o, none⟩) (sw_block z.1.1 q dk os (World.block_lt_of_cell? w _ h) z.2.1)]
      exact h
    exact (cmpP_any _ x.1.1 y.1.1 x.1.2.1 x.1.2.2 y.1.2.1 y.1.2.2 ⟨kb x 1 _ x.2.2.1, kb x 2 _ x.2.2.2, kb y 1 _ y.2.2.1, kb y 2 _ y.2.2.2⟩).mono fun e w' ⟨h1, h2⟩ => ⟨h1, h2.grow⟩
  have hS := Any.slices_SortFunc sortL (encK w g) (fun _ => rfl) (cfK w g) (swoK w g) 24 #[] g 0 cap es.toArray w eg hcmp hH hglt (by simpa [hel] using hlen)
  have hsz : es.toArray.size = xs.length := by simpa using hel
  rw [hsz] at hS
  change Calls Try.prog 23 _ _ _ at hS
  refine hS.mono ?_
  rintro e w' ⟨rfl, d', q, os, hperm, hsort, rfl⟩
  have hd's : d'.size = xs.length := by rw [hperm.1]; exact hsz
  have hP : d'.toList.Perm es := by
    have := hperm.2.2
    rw [show d'.extract 0 xs.length = d' by rw [← hd's]; simp, show es.toArray.extract 0 xs.length = es.toArray by rw [← hsz]; simp] at this
    simpa using this
  refine ⟨rfl, d'.toList.map (·.1), ?_, ?_, ?_, ?_⟩
  · rw [← he]; exact hP.map _
  · rw [List.pairwise_map, List.pairwise_iff_getElem]
    intro a b ha hb hab
    have ha' : a < d'.size := by simpa using ha
    have hb' : b < d'.size := by simpa using hb
    have := hsort a b (Nat.zero_le _) hab (by omega)
    rw [ltK', getElem!_pos _ a ha', getElem!_pos _ b hb'] at this
    simpa using this
  · refine ⟨by simp [hd's], .inr ⟨g, cap, _, rfl, hbg, sw_row q d' os hcur, hnc, hcm, ?_, ?_⟩⟩
    · rw [show (putCells (encK w g) 0 d' cur).size = cur.size by simp [putCells]]; exact hcs
    · rw [Nat.mul_one, ← hd's, put_take d' cur (by omega), List.map_map]; rfl
  · exact ⟨rfl, rfl, rfl, by simp [sortWorld, putRow, mapBlock, Sort.ahead], fun k hk hne => sw_block k q d' os hk (fun e => hne (by rw [e]))⟩
end Go.Proofs.Ythnbijnpbjfoaaa
