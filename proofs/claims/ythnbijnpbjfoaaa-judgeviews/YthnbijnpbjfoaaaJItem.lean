/-
  Items and their bytes as they lie in memory, and copies of them (slices.Clone, bytes.Clone).
-/
import Derived.Test.YthnbijnpbjfoaaaJBase
import Derived.Test.YthnbijnpbjfoaaaJMath
namespace Go.Proofs.Ythnbijnpbjfoaaa
open Go.RowKit Go.Sort
set_option linter.unusedVariables false

theorem gr_refl (w : World) (r : Option Nat) : w.grownBy w r := ⟨rfl, rfl, rfl, Nat.le_refl _, fun _ _ _ => rfl⟩
theorem gr_trans {a b c : World} {r : Option Nat} (h : a.grownBy b r) (k : b.grownBy c r) : a.grownBy c r :=
  ⟨k.os.trans h.os, k.tape.trans h.tape, k.output.trans h.output, Nat.le_trans h.size k.size, fun i hi hne => (k.block i (Nat.lt_of_lt_of_le hi h.size) hne).trans (h.block i hi hne)⟩
theorem gr_below {a b : World} (h : Below a.heap.size a b) (r : Option Nat) : a.grownBy b r := ⟨h.os, h.tape, h.output, h.size, fun i hi _ => h.block i hi⟩
theorem gr_setRow (w : World) (g : Nat) (cs : Array Value) : w.grownBy (w.setRow g cs) (some g) := ⟨rfl, rfl, rfl, by simp, fun i hi hne => setRow_other _ _ _ _ (fun e => hne (by rw [e]))⟩

/-- An item: whom it is from, and where its bytes lie. -/
abbrev Ix := Int × Option Addr × Nat × Nat
/-- What is read in blocks of a kind is read as before. -/
def Kp (p : Nat → Prop) (w w' : World) : Prop := ∀ ad v, p ad.block → w.cell? ad = some v → w'.cell? ad = some v
theorem Kp.below {p : Nat → Prop} {w w' : World} {B : Nat} (h : Below B w w') (hp : ∀ b, p b → b < B) : Kp p w w' := fun ad v hb hc => (h.cell (hp _ hb)).trans hc
theorem Kp.up {p : Nat → Prop} {w w' : World} (h : Below w.heap.size w w') : Kp p w w' := fun ad v hb hc => (h.cell (World.block_lt_of_cell? w _ hc)).trans hc
theorem Kp.grown {p : Nat → Prop} {w w' : World} {g : Nat} (h : w.grownBy w' (some g)) (hp : ∀ b, p b → b ≠ g) : Kp p w w' := fun ad v hb hc => h.cell hc (by simpa using hp _ hb)
theorem Kp.trans {p : Nat → Prop} {a b c : World} (h : Kp p a b) (k : Kp p b c) : Kp p a c := fun ad v hb hc => k ad v hb (h ad v hb hc)
theorem Kp.imp {p q : Nat → Prop} {a b : World} (h : Kp q a b) (hpq : ∀ n, p n → q n) : Kp p a b := fun ad v hb hc => h ad v (hpq _ hb) hc

/-- Bytes that lie in memory. -/
def Rw (p : Nat → Prop) (w : World) (ao : Option Addr) (n : Nat) (xs : List UInt8) : Prop :=
  xs.length = n ∧ n ≤ 140737488355328 ∧ (ao = none → n = 0) ∧ (0 < n → ∃ b off, ao = some ⟨b, off, none⟩ ∧ p b ∧ ∀ j x, xs[j]? = some x → w.cell? ⟨b, off + j, none⟩ = some (.int .u8 (x.toNat : Int)))
theorem Rw.keep {p : Nat → Prop} {w w' : World} {ao : Option Addr} {n : Nat} {xs : List UInt8} (h : Rw p w ao n xs) (k : Kp p w w') : Rw p w' ao n xs := by
  obtain ⟨h1, h2, h3, h4⟩ := h
  refine ⟨h1, h2, h3, fun h0 => ?_⟩
  obtain ⟨b, off, e, hp, hc⟩ := h4 h0
  exact ⟨b, off, e, hp, fun j x hj => k _ _ hp (hc j x hj)⟩
theorem Rw.imp {p q : Nat → Prop} {w : World} {ao : Option Addr} {n : Nat} {xs : List UInt8} (h : Rw p w ao n xs) (k : ∀ b, b < w.heap.size → p b → q b) : Rw q w ao n xs := by
  obtain ⟨h1, h2, h3, h4⟩ := h
  refine ⟨h1, h2, h3, fun h0 => ?_⟩
  obtain ⟨b, off, e, hp, hc⟩ := h4 h0
  refine ⟨b, off, e, k b ?_ hp, hc⟩
  have := hc 0 xs[0] (List.getElem?_eq_getElem (by omega))
  exact World.block_lt_of_cell? w _ this
/-- Items that lie in memory. -/
def IR (p : Nat → Prop) (w : World) (ao : Option Addr) (n : Nat) (xs : List Ix) : Prop :=
  xs.length = n ∧ n ≤ 4398046511104 ∧ (ao = none → n = 0) ∧ (0 < n → ∃ b off, ao = some ⟨b, off, none⟩ ∧ p b ∧ ∀ j x, xs[j]? = some x → w.cell? ⟨b, off + j * 2, none⟩ = some (.int .i64 x.1) ∧ w.cell? ⟨b, off + j * 2 + 1, none⟩ = some (.slice x.2.1 x.2.2.1 x.2.2.2))
theorem IR.keep {p : Nat → Prop} {w w' : World} {ao : Option Addr} {n : Nat} {xs : List Ix} (h : IR p w ao n xs) (k : Kp p w w') : IR p w' ao n xs := by
  obtain ⟨h1, h2, h3, h4⟩ := h
  refine ⟨h1, h2, h3, fun h0 => ?_⟩
  obtain ⟨b, off, e, hp, hc⟩ := h4 h0
  exact ⟨b, off, e, hp, fun j x hj => ⟨k _ _ hp (hc j x hj).1, k _ _ hp (hc j x hj).2⟩⟩
theorem IR.imp {p q : Nat → Prop} {w : World} {ao : Option Addr} {n : Nat} {xs : List Ix} (h : IR p w ao n xs) (k : ∀ b, b < w.heap.size → p b → q b) : IR q w ao n xs := by
  obtain ⟨h1, h2, h3, h4⟩ := h
  refine ⟨h1, h2, h3, fun h0 => ?_⟩
  obtain ⟨b, off, e, hp, hc⟩ := h4 h0
  refine ⟨b, off, e, k b ?_ hp, hc⟩
  have := (hc 0 xs[0] (List.getElem?_eq_getElem (by omega))).1
  exact World.block_lt_of_cell? w _ this
def It (p : Nat → Prop) (w : World) (x : Ix) (d : Di) : Prop := x.1 = d.1 ∧ Rw p w x.2.1 x.2.2.1 d.2
theorem It.keep {p : Nat → Prop} {w w' : World} {x : Ix} {d : Di} (h : It p w x d) (k : Kp p w w') : It p w' x d := ⟨h.1, h.2.keep k⟩
theorem It.imp {p q : Nat → Prop} {w : World} {x : Ix} {d : Di} (h : It p w x d) (k : ∀ b, b < w.heap.size → p b → q b) : It q w x d := ⟨h.1, h.2.imp k⟩
/-- Items that lie in memory, and what they say. -/
def Its (p : Nat → Prop) (w : World) (ao : Option Addr) (n : Nat) (ds : List Di) : Prop := ∃ xs, IR p w ao n xs ∧ ds.length = n ∧ ∀ (j : Nat) (x : Ix) (d : Di), xs[j]? = some x → ds[j]? = some d → It p w x d
theorem Its.keep {p : Nat → Prop} {w w' : World} {ao : Option Addr} {n : Nat} {ds : List Di} (h : Its p w ao n ds) (k : Kp p w w') : Its p w' ao n ds := by
  obtain ⟨xs, h1, h2, h3⟩ := h
  exact ⟨xs, h1.keep k, h2, fun j x d hx hd => (h3 j x d hx hd).keep k⟩
theorem Its.imp {p q : Nat → Prop} {w : World} {ao : Option Addr} {n : Nat} {ds : List Di} (h : Its p w ao n ds) (k : ∀ b, b < w.heap.size → p b → q b) : Its q w ao n ds := by
  obtain ⟨xs, h1, h2, h3⟩ := h
  exact ⟨xs, h1.imp k, h2, fun j x d hx hd => (h3 j x d hx hd).imp k⟩
theorem Its.len {p : Nat → Prop} {w : World} {ao : Option Addr} {n : Nat} {ds : List Di} (h : Its p w ao n ds) : ds.length = n := by obtain ⟨xs, _, h2, _⟩ := h; exact h2

theorem own_cell {w : World} {B e size n g cap : Nat} {vs : List Value} (h : w.ownsRow B e size (.slice (some ⟨g, 0, none⟩) n cap) n vs) : ∀ j u, vs[j]? = some u → w.cell? ⟨g, j, none⟩ = some u := by
  intro j u hj
  rcases h.2 with ⟨h0, _⟩ | ⟨g', cap', cur, h0, a, b, c, d, e', f⟩
  · cases h0
  · simp only [Value.slice.injEq, Option.some.injEq, Addr.mk.injEq] at h0
    obtain ⟨⟨rfl, _, _⟩, _, rfl⟩ := h0
    unfold World.cell?
    rw [b]
    have : cur.toList[j]? = some u := by
      rw [← f, List.getElem?_take] at hj
      split at hj
      · exact hj
      · cases hj
    simpa using this
theorem own_shape {w : World} {B e size n : Nat} {v : Value} {vs : List Value} (h : w.ownsRow B e size v n vs) : v = .slice none 0 0 ∧ n = 0 ∨ ∃ g cap, v = .slice (some ⟨g, 0, none⟩) n cap ∧ B ≤ g ∧ g < w.heap.size := by
  rcases h.2 with ⟨rfl, rfl⟩ | ⟨g, cap, cur, rfl, a, b, _⟩
  · exact .inl ⟨rfl, rfl⟩
  · exact .inr ⟨g, cap, rfl, a, (Array.getElem?_eq_some_iff.1 b).1⟩

def cellB (xs : List UInt8) : List Value := xs.map (fun x => Value.int .u8 (x.toNat : Int))
theorem infoB : (Try.prog.info? 5).map (fun i => (i.zero, i.size, i.bytes)) = some (some (.int .u8 0), 1, 1) := by kernel_rfl
theorem und30 : Try.prog.underlying 30 = some (.slice 5) := by kernel_rfl
theorem und25 : Try.prog.underlying 25 = some (.slice 34) := by kernel_rfl
theorem Rw.cells {p : Nat → Prop} {w : World} {a : Addr} {n : Nat} {xs : List UInt8} (h : Rw p w (some a) n xs) : ∀ j u, (cellB xs)[j]? = some u → w.cell? (a.add j) = some u := by
  intro j u hj
  obtain ⟨h1, h2, h3, h4⟩ := h
  unfold cellB at hj
  rw [List.getElem?_map] at hj
  obtain ⟨x, hx, rfl⟩ := Option.map_eq_some_iff.1 hj
  have := (List.getElem?_eq_some_iff.1 hx).1
  obtain ⟨b, off, e, hp, hc⟩ := h4 (by omega)
  cases e
  rw [Addr.add_lit]
  exact hc j x hx
theorem Rw.own {w : World} {B n : Nat} {v : Value} {xs : List UInt8} (h : w.ownsRow B 5 1 v n (cellB xs)) (hm : n ≤ 140737488355328) : ∃ ao cap, v = .slice ao n cap ∧ Rw (fun b => B ≤ b) w ao n xs := by
  have hl : xs.length = n := by have := h.1; simp [cellB] at this; omega
  rcases own_shape h with ⟨rfl, rfl⟩ | ⟨g, cap, rfl, hg, _⟩
  · exact ⟨none, 0, rfl, hl, by omega, fun _ => rfl, fun h => by omega⟩
  · refine ⟨some ⟨g, 0, none⟩, cap, rfl, hl, hm, fun e => (by cases e), fun _ => ⟨g, 0, rfl, hg, fun j x hj => ?_⟩⟩
    rw [Nat.zero_add]
    refine own_cell h j _ ?_
    unfold cellB
    rw [List.getElem?_map, hj]
    rfl

set_option maxRecDepth 10000 in
set_option maxHeartbeats 1000000 in
theorem cloneB_any (p : Nat → Prop) (w : World) (ao : Option Addr) (n cap : Nat) (xs : List UInt8) (h : Rw p w ao n xs) :
    Calls Try.prog 34 #[.slice ao n cap] w fun e w' => ∃ ao' cap', e = .returned (.slice ao' n cap') ∧ Rw (fun b => w.heap.size ≤ b) w' ao' n xs ∧ Below w.heap.size w w' := by
  obtain ⟨i0, hi0, hz0, hz1, hz2⟩ := info_parts infoB
  have q30 := fun (w : World) (a : Option Addr) (n c n' c' : Nat) => Lib.run_eql_slice_nil (P := Try.prog) w 30 5 a n c n' c' und30
  have hl := h.1
  have hm := h.2.1
  cases ao with
  | none =>
    obtain rfl := h.2.2.1 rfl
    obtain rfl : xs = [] := List.length_eq_zero_iff.1 hl
    clear h
    go_enter Try.func34, Try.ntmps34
    go_wp2
    go_ret
    exact ⟨none, 0, rfl, ⟨rfl, by omega, fun _ => rfl, fun h => by omega⟩, Below.refl _ _⟩
  | some ad =>
    have hA : Hid (∀ j u, (cellB xs)[j]? = some u → w.cell? (ad.add j) = some u) := h.cells
    have HF : Hid ((cellB xs).length = n * 1) := by show _ = _; simp [cellB, hl]
    have HO : Hid (∀ u ∈ cellB xs, u.oneCell' = true) := fun u hu => by
      obtain ⟨x, _, rfl⟩ := List.mem_map.1 hu
      rfl
    clear h
    go_enter Try.func34, Try.ntmps34
    go_wp2_with (at_builtin; refine wpList_append_own_at _ rfl _ _ 30 rfl w.heap.size 5 i0 (.int .u8 0) 1 1 und30 hi0 hz0 hz1 hz2 rfl (by decide) _ 0 [] rfl ?d1 ad n cap (cellB xs) rfl ?d2 ?d3 ?d4 ?d6 ?d7 ?d8 ?_)
    case d1 => exact World.ownsRow_made w #[] 0 (Nat.le_refl _) (Nat.zero_le _) (by simp)
    case d2 => exact HF.out
    case d3 => exact fun j u hj => ((bl1 w _).cell (World.block_lt_of_cell? w _ (hA.out j u hj))).trans (hA.out j u hj)
    case d4 => exact HO.out
    case d6 => unfold maxLen; omega
    case d7 => omega
    case d8 => simp
    intro v' w1 hown hgrow hnil hat
    obtain ⟨ao', cap', rfl, hr⟩ := Rw.own (xs := xs) (B := w.heap.size) (n := n) (v := v') (w := w1) (by simpa using hown) hm
    have HE : Hid (Rw (fun b => w.heap.size ≤ b) w1 ao' n xs ∧ Below w.heap.size w w1) := ⟨hr, bl_grown (bl1 w _) (by simp) hgrow (by intro k hk; simp [Value.ownBlock] at hk; omega)⟩
    clear hown hgrow hnil hat hr
    go_wp2
    go_ret
    exact ⟨ao', cap', rfl, HE.out⟩

def cellI (xs : List Ix) : List Value := xs.flatMap (fun x => [.int .i64 x.1, .slice x.2.1 x.2.2.1 x.2.2.2])
theorem cellI_len (xs : List Ix) : (cellI xs).length = xs.length * 2 := by
  induction xs with
  | nil => rfl
  | cons a r ih => simp [cellI] at ih ⊢; omega
theorem cellI_get : ∀ (xs : List Ix) (j : Nat) (x : Ix) (i : Nat), xs[j]? = some x → i < 2 → (cellI xs)[2 * j + i]? = [Value.int .i64 x.1, .slice x.2.1 x.2.2.1 x.2.2.2][i]?
  | [], j, x, i, h, hi => by simp at h
  | a :: r, 0, x, i, h, hi => by
    simp at h; subst h
    rw [show cellI (a :: r) = [Value.int .i64 a.1, .slice a.2.1 a.2.2.1 a.2.2.2] ++ cellI r from rfl, List.getElem?_append_left (by simp; omega)]; simp
  | a :: r, j + 1, x, i, h, hi => by
    rw [show cellI (a :: r) = [Value.int .i64 a.1, .slice a.2.1 a.2.2.1 a.2.2.2] ++ cellI r from rfl, List.getElem?_append_right (by simp; omega), show 2 * (j + 1) + i - [Value.int .i64 a.1, Value.slice a.2.1 a.2.2.1 a.2.2.2].length = 2 * j + i by simp; omega]
    exact cellI_get r j x i (by simpa using h) hi
theorem cellI_one {xs : List Ix} {u : Value} (h : u ∈ cellI xs) : u.oneCell' = true := by
  obtain ⟨x, _, hx⟩ := List.mem_flatMap.1 h
  simp at hx
  rcases hx with rfl | rfl <;> rfl
theorem infoI : (Try.prog.info? 34).map (fun i => (i.zero, i.size, i.bytes)) = some (some (.agg #[.int .i64 0, .slice none 0 0]), 2, 32) := by kernel_rfl
theorem IR.cells {p : Nat → Prop} {w : World} {a : Addr} {n : Nat} {xs : List Ix} (h : IR p w (some a) n xs) : ∀ j u, (cellI xs)[j]? = some u → w.cell? (a.add j) = some u := by
  intro j u hj
  obtain ⟨h1, h2, h3, h4⟩ := h
  have hjl : j < xs.length * 2 := by
    have := (List.getElem?_eq_some_iff.1 hj).1
    rwa [cellI_len] at this
  obtain ⟨b, off, e, hp, hc⟩ := h4 (by omega)
  cases e
  rw [Addr.add_lit]
  obtain ⟨x, hx⟩ : ∃ x, xs[j / 2]? = some x := ⟨xs[j / 2]'(by omega), List.getElem?_eq_getElem (by omega)⟩
  have hf := cellI_get xs (j / 2) x (j % 2) hx (by omega)
  rw [show 2 * (j / 2) + j % 2 = j by omega, hj] at hf
  obtain ⟨c0, c1⟩ := hc _ x hx
  have hm : j % 2 = 0 ∨ j % 2 = 1 := by omega
  rcases hm with e | e
  · rw [e] at hf; simp at hf; rw [hf, show off + j = off + j / 2 * 2 by omega]; exact c0
  · rw [e] at hf; simp at hf; rw [hf, show off + j = off + j / 2 * 2 + 1 by omega]; exact c1
theorem IR.own {w : World} {B n : Nat} {v : Value} {xs : List Ix} (h : w.ownsRow B 34 2 v n (cellI xs)) (hm : n ≤ 4398046511104) : (v = .slice none 0 0 ∧ n = 0) ∨ ∃ g cap, v = .slice (some ⟨g, 0, none⟩) n cap ∧ B ≤ g ∧ g < w.heap.size ∧ (∀ i, w.frozen? ⟨g, i, none⟩ = false) ∧ IR (fun b => b = g) w (some ⟨g, 0, none⟩) n xs := by
  have hl : xs.length = n := by have := h.1; rw [cellI_len] at this; omega
  rcases own_shape h with ⟨rfl, rfl⟩ | ⟨g, cap, rfl, hg, hg2⟩
  · exact .inl ⟨rfl, rfl⟩
  · refine .inr ⟨g, cap, rfl, hg, hg2, fun i => ?_, hl, hm, fun e => (by cases e), fun _ => ⟨g, 0, rfl, rfl, fun j x hj => ⟨?_, ?_⟩⟩⟩
    · rcases h.2 with ⟨h0, _⟩ | ⟨g', cap', cur, h0, a, b, _⟩
      · cases h0
      · simp only [Value.slice.injEq, Option.some.injEq, Addr.mk.injEq] at h0
        obtain ⟨⟨rfl, _, _⟩, _, rfl⟩ := h0
        simp [World.frozen?, b]
    · rw [Nat.zero_add]
      refine own_cell h _ _ ?_
      have := cellI_get xs j x 0 hj (by omega)
      rw [show 2 * j + 0 = j * 2 by omega] at this
      exact this
    · rw [Nat.zero_add]
      refine own_cell h _ _ ?_
      have := cellI_get xs j x 1 hj (by omega)
      rw [show 2 * j + 1 = j * 2 + 1 by omega] at this
      exact this

set_option maxRecDepth 10000 in
set_option maxHeartbeats 1000000 in
theorem cloneI_any (p : Nat → Prop) (w : World) (ao : Option Addr) (n cap : Nat) (xs : List Ix) (h : IR p w ao n xs) :
    Calls Try.prog 33 #[.slice ao n cap] w fun e w' => (∃ v, e = .returned v ∧ ((v = .slice none 0 0 ∧ n = 0) ∨ ∃ g cap', v = .slice (some ⟨g, 0, none⟩) n cap' ∧ w.heap.size ≤ g ∧ g < w'.heap.size ∧ (∀ i, w'.frozen? ⟨g, i, none⟩ = false) ∧ IR (fun b => b = g) w' (some ⟨g, 0, none⟩) n xs)) ∧ Below w.heap.size w w' := by
  obtain ⟨i0, hi0, hz0, hz1, hz2⟩ := info_parts infoI
  have q25 := fun (w : World) (a : Option Addr) (n c n' c' : Nat) => Lib.run_eql_slice_nil (P := Try.prog) w 25 34 a n c n' c' und25
  have hl := h.1
  have hm := h.2.1
  cases ao with
  | none =>
    obtain rfl := h.2.2.1 rfl
    clear h
    go_enter Try.func33, Try.ntmps33
    go_wp2
    go_ret
    exact ⟨⟨_, rfl, .inl (by simp)⟩, Below.refl _ _⟩
  | some ad =>
    have hA : Hid (∀ j u, (cellI xs)[j]? = some u → w.cell? (ad.add j) = some u) := h.cells
    have HF : Hid ((cellI xs).length = n * 2) := by show _ = _; rw [cellI_len, hl]
    clear h
    go_enter Try.func33, Try.ntmps33
    go_wp2_with (at_builtin; refine wpList_append_own_at _ rfl _ _ 25 rfl w.heap.size 34 i0 (.agg #[.int .i64 0, .slice none 0 0]) 2 32 und25 hi0 hz0 hz1 hz2 rfl (by decide) _ 0 [] rfl ?d1 ad n cap (cellI xs) rfl ?d2 ?d3 ?d4 ?d6 ?d7 ?d8 ?_)
    case d1 => exact World.ownsRow_made w #[] 0 (Nat.le_refl _) (Nat.zero_le _) (by simp)
    case d2 => exact HF.out
    case d3 => exact fun j u hj => ((bl1 w _).cell (World.block_lt_of_cell? w _ (hA.out j u hj))).trans (hA.out j u hj)
    case d4 => exact fun u hu => cellI_one hu
    case d6 => unfold maxLen; omega
    case d7 => omega
    case d8 => simp
    intro v' w1 hown hgrow hnil hat
    have hr := IR.own (xs := xs) (B := w.heap.size) (n := n) (v := v') (w := w1) (by simpa using hown) hm
    have HE : Hid (((v' = .slice none 0 0 ∧ n = 0) ∨ ∃ g cap', v' = .slice (some ⟨g, 0, none⟩) n cap' ∧ w.heap.size ≤ g ∧ g < w1.heap.size ∧ (∀ i, w1.frozen? ⟨g, i, none⟩ = false) ∧ IR (fun b => b = g) w1 (some ⟨g, 0, none⟩) n xs) ∧ Below w.heap.size w w1) := ⟨hr, bl_grown (bl1 w _) (by simp) hgrow (by intro k hk; simp [Value.ownBlock] at hk; omega)⟩
    clear hown hgrow hnil hat hr
    go_wp2
    go_ret
    exact ⟨⟨v', rfl, HE.out.1⟩, HE.out.2⟩
end Go.Proofs.Ythnbijnpbjfoaaa
