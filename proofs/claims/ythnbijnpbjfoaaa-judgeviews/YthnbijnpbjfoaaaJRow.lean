/-
  Lists of lists as they lie in memory: of bytes, of items, of lists of bytes.
-/
import Derived.Test.YthnbijnpbjfoaaaJCopy
namespace Go.Proofs.Ythnbijnpbjfoaaa
open Go.RowKit Go.Sort
set_option linter.unusedVariables false

/-- Where a list lies, how long it is, how long it may be. -/
abbrev Sr := Option Addr × Nat × Nat
def sl (r : Sr) : Value := .slice r.1 r.2.1 r.2.2
def Cp (r : Sr) : Prop := r.2.1 ≤ r.2.2 ∧ r.2.2 ≤ 9223372036854775807 ∧ (r.1 = none → r.2.2 = 0)
theorem Cp.nil : Cp (none, 0, 0) := ⟨Nat.le_refl _, Nat.zero_le _, fun _ => rfl⟩
def SlR (p : Nat → Prop) (w : World) (ao : Option Addr) (n : Nat) (rs : List Sr) : Prop :=
  rs.length = n ∧ n ≤ 140737488355328 ∧ (ao = none → n = 0) ∧ (0 < n → ∃ b off, ao = some ⟨b, off, none⟩ ∧ p b ∧ ∀ j r, rs[j]? = some r → w.cell? ⟨b, off + j, none⟩ = some (.slice r.1 r.2.1 r.2.2))
theorem SlR.keep {p : Nat → Prop} {w w' : World} {ao : Option Addr} {n : Nat} {xs : List Sr} (h : SlR p w ao n xs) (k : Kp p w w') : SlR p w' ao n xs := by
  obtain ⟨h1, h2, h3, h4⟩ := h
  refine ⟨h1, h2, h3, fun h0 => ?_⟩
  obtain ⟨b, off, e, hp, hc⟩ := h4 h0
  exact ⟨b, off, e, hp, fun j x hj => k _ _ hp (hc j x hj)⟩
/-- A list of lists, each of which lies there as E says. -/
def Lr {α : Type} (E : World → Sr → α → Prop) (w : World) (ao : Option Addr) (n : Nat) (xs : List α) : Prop :=
  ∃ rs, SlR (fun _ => True) w ao n rs ∧ xs.length = n ∧ (∀ r ∈ rs, Cp r) ∧ ∀ (j : Nat) r x, rs[j]? = some r → xs[j]? = some x → E w r x
theorem Lr.keep {α : Type} {E : World → Sr → α → Prop} {w w' : World} {ao : Option Addr} {n : Nat} {xs : List α} (h : Lr E w ao n xs) (u : Below w.heap.size w w') (hE : ∀ r x, E w r x → E w' r x) : Lr E w' ao n xs := by
  obtain ⟨rs, h1, h2, h3, h4⟩ := h
  exact ⟨rs, h1.keep (Kp.up u), h2, h3, fun j r x hr hx => hE r x (h4 j r x hr hx)⟩
theorem Lr.len {α : Type} {E : World → Sr → α → Prop} {w : World} {ao : Option Addr} {n : Nat} {xs : List α} (h : Lr E w ao n xs) : xs.length = n := by obtain ⟨_, _, h2, _⟩ := h; exact h2
theorem Lr.le {α : Type} {E : World → Sr → α → Prop} {w : World} {ao : Option Addr} {n : Nat} {xs : List α} (h : Lr E w ao n xs) : n ≤ 140737488355328 := by obtain ⟨_, h1, _⟩ := h; exact h1.2.1
theorem Lr.nil {α : Type} (E : World → Sr → α → Prop) (w : World) : Lr E w none 0 [] := ⟨[], ⟨rfl, by omega, fun _ => rfl, fun h => by omega⟩, rfl, by simp, fun j r x hr => by simp at hr⟩
theorem Lr.at {α : Type} {E : World → Sr → α → Prop} {w : World} {ao : Option Addr} {n : Nat} {xs : List α} (h : Lr E w ao n xs) {k : Nat} {x : α} (hx : xs[k]? = some x) :
    ∃ b off, ∃ r : Sr, ao = some ⟨b, off, none⟩ ∧ w.cell? ⟨b, off + k, none⟩ = some (.slice r.1 r.2.1 r.2.2) ∧ Cp r ∧ E w r x := by
  obtain ⟨rs, h1, h2, h3, h4⟩ := h
  have hk := (List.getElem?_eq_some_iff.1 hx).1
  obtain ⟨l1, _, _, l4⟩ := h1
  obtain ⟨b, off, e, _, hc⟩ := l4 (by omega)
  have hr : rs[k]? = some (rs[k]'(by omega)) := List.getElem?_eq_getElem (by omega)
  exact ⟨b, off, _, e, hc k _ hr, h3 _ (List.getElem_mem _), h4 k _ x hr hx⟩
abbrev Bs (w : World) (ao : Option Addr) (n : Nat) (xs : List By) : Prop := Lr (fun w r x => Rw (fun _ => True) w r.1 r.2.1 x) w ao n xs
abbrev Bss (w : World) (ao : Option Addr) (n : Nat) (xs : List (List By)) : Prop := Lr (fun w r x => Bs w r.1 r.2.1 x) w ao n xs
abbrev Iss (w : World) (ao : Option Addr) (n : Nat) (xs : List (List Di)) : Prop := Lr (fun w r x => Its (fun _ => True) w r.1 r.2.1 x) w ao n xs
theorem Bs.up {w w' : World} {ao : Option Addr} {n : Nat} {xs : List By} (h : Bs w ao n xs) (u : Below w.heap.size w w') : Bs w' ao n xs := h.keep u (fun r x e => e.keep (Kp.up u))
theorem Bss.up {w w' : World} {ao : Option Addr} {n : Nat} {xs : List (List By)} (h : Bss w ao n xs) (u : Below w.heap.size w w') : Bss w' ao n xs := h.keep u (fun r x e => e.keep u (fun r x e => e.keep (Kp.up u)))
theorem Iss.up {w w' : World} {ao : Option Addr} {n : Nat} {xs : List (List Di)} (h : Iss w ao n xs) (u : Below w.heap.size w w') : Iss w' ao n xs := h.keep u (fun r x e => e.keep (Kp.up u))
theorem Its.up {p : Nat → Prop} {w w' : World} {ao : Option Addr} {n : Nat} {xs : List Di} (h : Its p w ao n xs) (u : Below w.heap.size w w') : Its p w' ao n xs := h.keep (Kp.up u)
theorem Its.nil0 (p : Nat → Prop) (w : World) : Its p w none 0 [] := ⟨[], ⟨rfl, by omega, fun _ => rfl, fun h => by omega⟩, rfl, fun j x d hx => by simp at hx⟩
theorem Its.le {p : Nat → Prop} {w : World} {ao : Option Addr} {n : Nat} {ds : List Di} (h : Its p w ao n ds) : n ≤ 4398046511104 := by obtain ⟨xs, h1, _⟩ := h; exact h1.2.1
/-- The k-th item: its two cells, and its bytes. -/
theorem Its.at {p : Nat → Prop} {w : World} {ao : Option Addr} {n : Nat} {ds : List Di} (h : Its p w ao n ds) {k : Nat} {d : Di} (hd : ds[k]? = some d) :
    ∃ b off, ∃ r : Sr, ao = some ⟨b, off, none⟩ ∧ w.cell? ⟨b, off + k * 2, none⟩ = some (.int .i64 d.1) ∧ w.cell? ⟨b, off + k * 2 + 1, none⟩ = some (.slice r.1 r.2.1 r.2.2) ∧ Rw p w r.1 r.2.1 d.2 := by
  obtain ⟨xs, h1, h2, h3⟩ := h
  have hk := (List.getElem?_eq_some_iff.1 hd).1
  obtain ⟨l1, _, _, l4⟩ := h1
  obtain ⟨b, off, e, _, hc⟩ := l4 (by omega)
  have hx : xs[k]? = some (xs[k]'(by omega)) := List.getElem?_eq_getElem (by omega)
  obtain ⟨c0, c1⟩ := hc k _ hx
  have hi := h3 k _ d hx hd
  rw [hi.1] at c0
  exact ⟨b, off, xs[k].2, e, c0, c1, hi.2⟩
/-- The first k items. -/
theorem Its.take {p : Nat → Prop} {w : World} {ao : Option Addr} {n k : Nat} {ds : List Di} (h : Its p w ao n ds) (hk : k ≤ n) : Its p w ao k (ds.take k) := by
  obtain ⟨xs, h1, h2, h3⟩ := h
  obtain ⟨l1, l2, l3, l4⟩ := h1
  have tk : ∀ {α : Type} {l : List α} {j : Nat} {x : α}, (l.take k)[j]? = some x → l[j]? = some x := fun {α l j x} hj => by
    rw [List.getElem?_take] at hj
    split at hj
    · exact hj
    · cases hj
  refine ⟨xs.take k, ⟨by simp; omega, by omega, fun e => by have := l3 e; omega, fun h0 => ?_⟩, by simp; omega, fun j x d hx hd => h3 j x d (tk hx) (tk hd)⟩
  obtain ⟨b, off, e, hp, hc⟩ := l4 (by omega)
  exact ⟨b, off, e, hp, fun j x hj => hc j x (tk hj)⟩
theorem bl_cell {w w' : World} (u : Below w.heap.size w w') {a : Addr} {v : Value} (h : w.cell? a = some v) : w'.cell? a = some v := (u.cell (World.block_lt_of_cell? w _ h)).trans h
theorem Rw.up {p : Nat → Prop} {w w' : World} {ao : Option Addr} {n : Nat} {xs : List UInt8} (h : Rw p w ao n xs) (u : Below w.heap.size w w') : Rw p w' ao n xs := h.keep (Kp.up u)

def str (xs : List UInt8) : ByteArray := ⟨xs.toArray⟩
theorem str_of (xs : List UInt8) : (xs.map fun x => (x.toNat : Int)).foldl (fun r n => r.push (UInt8.ofNat n.toNat)) ByteArray.empty = str xs := by
  rw [foldl_push_bytes]
  simp [str, ByteArray.empty, ByteArray.emptyWithCapacity, Function.comp_def]
  try rfl
theorem str_beq (a b : List UInt8) : ((str a).toList == (str b).toList) = decide (a = b) := by
  have h : ∀ l, (str l).toList = l := fun l => ByteArray.toList_mk l
  rw [h, h, Bool.eq_iff_iff]
  simp
theorem conv_rw {p : Nat → Prop} {w : World} {ao : Option Addr} {n cap : Nat} {xs : List UInt8} (h : Rw p w ao n xs) : (convert 30 9 (.slice ao n cap)).run Try.prog w = .ok (.string (str xs)) w := by
  cases ao with
  | none =>
    have hx : xs = [] := List.eq_nil_of_length_eq_zero (by have := h.1; have := h.2.2.1 rfl; omega)
    subst hx
    exact run_convert_bytes_nil w 30 5 Try.underlying30 Try.underlying5 _ _ 9 Try.underlying9
  | some a =>
    have hl : (loadCells a n).run Try.prog w = .ok (((xs.map fun x => (x.toNat : Int))).map (Value.int .u8)).toArray w := by
      have := run_loadCells_list (P := Try.prog) w a ((xs.map fun x => (x.toNat : Int)).map (Value.int .u8)) (fun j v hj => h.cells j v (by unfold cellB; simpa [Function.comp_def] using hj))
      simpa [h.1] using this
    rw [run_convert_bytes_string w 30 9 5 _ n cap Try.underlying30 Try.underlying5 Try.underlying9, run_bytesToString w a n cap _ hl, str_of]

set_option maxRecDepth 10000 in
set_option maxHeartbeats 1000000 in
/-- bytes.Equal -/
theorem beq_any (p q : Nat → Prop) (w : World) (ao bo : Option Addr) (n c m d : Nat) (xs ys : List UInt8) (h : Rw p w ao n xs) (g : Rw q w bo m ys) :
    Calls Try.prog 50 #[.slice ao n c, .slice bo m d] w fun e w' => e = .returned (.bool (decide (xs = ys))) ∧ Up w w' := by
  have h1 := conv_rw (cap := c) h
  have h2 := conv_rw (cap := d) g
  have h3 := str_beq xs ys
  clear h g
  go_enter Try.func50, Try.ntmps50
  go_wp2
  go_ret
  exact ⟨rfl, Up.refl _⟩
/-- An item as a value. -/
def itm (f : Int) (r : Sr) : Value := .agg #[.int .i64 f, .slice r.1 r.2.1 r.2.2]
set_option maxRecDepth 10000 in
set_option maxHeartbeats 1000000 in
theorem same_any (p q : Nat → Prop) (w : World) (d e : Di) (r s : Sr) (h : Rw p w r.1 r.2.1 d.2) (g : Rw q w s.1 s.2.1 e.2) :
    Calls Try.prog 31 #[itm d.1 r, itm e.1 s] w fun ee w' => ee = .returned (.bool (decide (d = e))) ∧ Up w w' := by
  obtain ⟨f, xs⟩ := d
  obtain ⟨g', ys⟩ := e
  obtain ⟨ra, rn, rc⟩ := r
  obtain ⟨sa, sn, sc⟩ := s
  simp only [itm] at h g ⊢
  obtain ⟨w0, hw0⟩ : ∃ w0, (w.alloc (.cells #[.int .i64 f, .slice ra rn rc] 34)).alloc (.cells #[.int .i64 g', .slice sa sn sc] 34) = w0 := ⟨_, rfl⟩
  have u0 : Up w w0 := by rw [← hw0]; exact ((Up.refl _).alloc _).alloc _
  have hz : (w.alloc (.cells #[.int .i64 f, .slice ra rn rc] 34)).heap.size = w.heap.size + 1 := by simp
  have a0 : w0.cell? ⟨w.heap.size, 0, none⟩ = some (.int .i64 f) := by rw [← hw0]; exact bl_cell (bl1 _ _) (cell_box w _ 34 0 _ rfl)
  have a1 : w0.cell? ⟨w.heap.size, 1, none⟩ = some (.slice ra rn rc) := by rw [← hw0]; exact bl_cell (bl1 _ _) (cell_box w _ 34 1 _ rfl)
  have b0 : w0.cell? ⟨w.heap.size + 1, 0, none⟩ = some (.int .i64 g') := by rw [← hw0, ← hz]; exact cell_box _ _ 34 0 _ rfl
  have b1 : w0.cell? ⟨w.heap.size + 1, 1, none⟩ = some (.slice sa sn sc) := by rw [← hw0, ← hz]; exact cell_box _ _ 34 1 _ rfl
  have hb := beq_any p q w0 ra sa rn rc sn sc xs ys (h.up u0.bl) (g.up u0.bl)
  by_cases hfg : f = g'
  · subst hfg
    have hd : decide ((f, xs) = (f, ys)) = decide (xs = ys) := by simp
    rw [hd]
    clear h g hd hz
    go_enter Try.func31, Try.ntmps31
    go_wp2_with fail
    (try simp only [hw0])
    refine hb.mono ?_
    rintro _ w1 ⟨rfl, u1⟩
    have u01 := u0.trans u1
    clear hb u0 u1 hw0 a0 a1 b0 b1
    go_wp2
    go_ret
    exact ⟨rfl, u01⟩
  · have hd : decide ((f, xs) = (g', ys)) = false := by simp [hfg]
    have hf2 : (f == g') = false := by simpa using hfg
    rw [hd]
    clear h g hd hz hb
    go_enter Try.func31, Try.ntmps31
    go_wp2_with fail
    (try simp only [hw0])
    go_wp2
    go_ret
    exact ⟨rfl, u0⟩
end Go.Proofs.Ythnbijnpbjfoaaa
