/-
  Rows of states in memory; which of two numbers of views are one; the closures of cut.
-/
import Derived.Test.YtlonbbepoamnmaaDoorSCmp
import Derived.Test.YtlonbbepoamnmaaDoorSItem
namespace Go.Proofs.YtlonbbepoamnmaaDoor
open Go.RowKit Go.Sort
set_option linter.unusedVariables false

/-- A list of states that lies in memory. -/
def SR (p : Nat → Prop) (w : World) (ao : Option Addr) (n : Nat) (ss : List Sx) : Prop :=
  ss.length = n ∧ n ≤ 9223372036854775807 ∧ (ao = none → n = 0) ∧ (0 < n → ∃ b off, ao = some ⟨b, off, none⟩ ∧ p b ∧ ∀ j x, ss[j]? = some x →
    w.cell? ⟨b, off + j * 4, none⟩ = some (.int .u64 (x.1 : Nat)) ∧ w.cell? ⟨b, off + j * 4 + 1, none⟩ = some (.int .i64 x.2.1) ∧ w.cell? ⟨b, off + j * 4 + 2, none⟩ = some (.int .i64 x.2.2.1) ∧ w.cell? ⟨b, off + j * 4 + 3, none⟩ = some (.slice x.2.2.2.1 x.2.2.2.2.1 x.2.2.2.2.2))
theorem SR.keep {p : Nat → Prop} {w w' : World} {ao : Option Addr} {n : Nat} {ss : List Sx} (h : SR p w ao n ss) (k : Kp p w w') : SR p w' ao n ss := by
  obtain ⟨h1, h2, h3, h4⟩ := h
  refine ⟨h1, h2, h3, fun h0 => ?_⟩
  obtain ⟨b, off, e, hp, hc⟩ := h4 h0
  exact ⟨b, off, e, hp, fun j x hj => ⟨k _ _ hp (hc j x hj).1, k _ _ hp (hc j x hj).2.1, k _ _ hp (hc j x hj).2.2.1, k _ _ hp (hc j x hj).2.2.2⟩⟩
theorem SR.up {p : Nat → Prop} {w w' : World} {ao : Option Addr} {n : Nat} {ss : List Sx} (h : SR p w ao n ss) (u : Below w.heap.size w w') : SR p w' ao n ss := h.keep (Kp.up u)
theorem SR.imp {p q : Nat → Prop} {w : World} {ao : Option Addr} {n : Nat} {ss : List Sx} (h : SR p w ao n ss) (k : ∀ b, b < w.heap.size → p b → q b) : SR q w ao n ss := by
  obtain ⟨h1, h2, h3, h4⟩ := h
  refine ⟨h1, h2, h3, fun h0 => ?_⟩
  obtain ⟨b, off, e, hp, hc⟩ := h4 h0
  refine ⟨b, off, e, k b ?_ hp, hc⟩
  have := (hc 0 ss[0] (List.getElem?_eq_getElem (by omega))).1
  exact World.block_lt_of_cell? w _ this
theorem SR.own {w : World} {B n : Nat} {v : Value} {ss : List Sx} (h : w.ownsRow B 45 4 v n (flat ss)) : ∃ ao cap, v = .slice ao n cap ∧ SR (fun b => some b = v.ownBlock ∧ B ≤ b) w ao n ss ∧ n ≤ cap ∧ cap ≤ 9223372036854775807 := by
  have hl : ss.length = n := by have := h.1; rw [flat_len] at this; omega
  rcases h.2 with ⟨rfl, rfl⟩ | ⟨g, cap, cur, rfl, hg, hh, hnc, hcm, hcs, htk⟩
  · exact ⟨_, _, rfl, ⟨hl, by omega, fun _ => rfl, fun h => by omega⟩, by omega, by omega⟩
  · have hcm' : cap ≤ 9223372036854775807 := by unfold maxLen at hcm; omega
    refine ⟨_, _, rfl, ⟨hl, by omega, fun e => (by cases e), fun h0 => ⟨g, 0, rfl, ⟨rfl, hg⟩, fun j x hj => ?_⟩⟩, hnc, hcm'⟩
    have key : ∀ i, i < 4 → w.cell? ⟨g, 0 + j * 4 + i, none⟩ = (cellsS x)[i]? := fun i hi => by
      rw [Nat.zero_add]
      have hf := flat_get ss j x i hj hi
      have hu : (cellsS x)[i]? = some ((cellsS x)[i]'(by simp [cellsS]; omega)) := List.getElem?_eq_getElem _
      rw [hu] at hf ⊢
      rw [show j * 4 + i = 4 * j + i by omega]
      exact own_cell h _ _ hf
    exact ⟨key 0 (by omega), key 1 (by omega), key 2 (by omega), key 3 (by omega)⟩
theorem SR.cells {p : Nat → Prop} {w : World} {a : Addr} {n : Nat} {ss : List Sx} (h : SR p w (some a) n ss) : ∀ j u, (flat ss)[j]? = some u → w.cell? (a.add j) = some u := by
  intro j u hj
  obtain ⟨hl, _, _, hc⟩ := h
  have hjl : j < ss.length * 4 := by
    have := (List.getElem?_eq_some_iff.1 hj).1
    rwa [flat_len] at this
  obtain ⟨b, off, e, hp, hcell⟩ := hc (by omega)
  cases e
  rw [Addr.add_lit]
  obtain ⟨x, hx⟩ : ∃ x, ss[j / 4]? = some x := ⟨ss[j / 4]'(by omega), List.getElem?_eq_getElem (by omega)⟩
  have hf := flat_get ss (j / 4) x (j % 4) hx (by omega)
  rw [show 4 * (j / 4) + j % 4 = j by omega, hj] at hf
  obtain ⟨c0, c1, c2, c3⟩ := hcell _ x hx
  have hm : j % 4 = 0 ∨ j % 4 = 1 ∨ j % 4 = 2 ∨ j % 4 = 3 := by omega
  rcases hm with e | e | e | e
  · rw [e] at hf; simp [cellsS] at hf; rw [hf, show off + j = off + j / 4 * 4 by omega]; exact c0
  · rw [e] at hf; simp [cellsS] at hf; rw [hf, show off + j = off + j / 4 * 4 + 1 by omega]; exact c1
  · rw [e] at hf; simp [cellsS] at hf; rw [hf, show off + j = off + j / 4 * 4 + 2 by omega]; exact c2
  · rw [e] at hf; simp [cellsS] at hf; rw [hf, show off + j = off + j / 4 * 4 + 3 by omega]; exact c3

/-- States that lie in memory, and what their items say. -/
def Sts (p : Nat → Prop) (w : World) (ao : Option Addr) (n : Nat) (ss : List Sx) (es : List (List Di)) : Prop :=
  SR p w ao n ss ∧ es.length = n ∧ ∀ (j : Nat) (x : Sx) (e : List Di), ss[j]? = some x → es[j]? = some e → Its p w x.2.2.2.1 x.2.2.2.2.1 e
theorem Sts.keep {p : Nat → Prop} {w w' : World} {ao : Option Addr} {n : Nat} {ss : List Sx} {es : List (List Di)} (h : Sts p w ao n ss es) (k : Kp p w w') : Sts p w' ao n ss es :=
  ⟨h.1.keep k, h.2.1, fun j x e hx he => (h.2.2 j x e hx he).keep k⟩
theorem Sts.up {p : Nat → Prop} {w w' : World} {ao : Option Addr} {n : Nat} {ss : List Sx} {es : List (List Di)} (h : Sts p w ao n ss es) (u : Below w.heap.size w w') : Sts p w' ao n ss es := h.keep (Kp.up u)
theorem Sts.imp {p q : Nat → Prop} {w : World} {ao : Option Addr} {n : Nat} {ss : List Sx} {es : List (List Di)} (h : Sts p w ao n ss es) (k : ∀ b, b < w.heap.size → p b → q b) : Sts q w ao n ss es :=
  ⟨h.1.imp k, h.2.1, fun j x e hx he => (h.2.2 j x e hx he).imp k⟩

theorem cells28 : Tryd.prog.cellsOf 31 = 2 := by kernel_rfl
theorem vid_equalIn (d : Nat) (n1 : Nat) (p1 : Int) (n2 : Nat) (p2 : Int) (w : World) : Sem.run Tryd.prog (Op.equalIn (d + 2) 31 (.agg #[.int .u64 (n1 : Nat), .int .i64 p1]) (.agg #[.int .u64 (n2 : Nat), .int .i64 p2])) w = .ok (decide (n1 = n2 ∧ p1 = p2)) w := by
  have u3 := Tryd.underlying3
  have a3 := Tryd.isAgg3
  have z3 := Tryd.sizeOf3
  have u26 := Tryd.underlying29
  have a26 := Tryd.isAgg29
  have z26 := Tryd.sizeOf29
  rw [run_equalIn_agg w (d + 1) 31 _ _ (by kernel_rfl) (by kernel_rfl)]
  simp only [Program.fieldsOf, Tryd.underlying31]
  go_simp
  by_cases h1 : n1 = n2
  · by_cases h2 : p1 = p2 <;> simp [h1, h2]
  · have : ¬ ((n1 : Int) = n2) := by omega
    simp [h1, this]
theorem vid_equal (n1 : Nat) (p1 : Int) (n2 : Nat) (p2 : Int) (w : World) : Sem.run Tryd.prog (Op.equalIn 10000 31 (.agg #[.int .u64 (n1 : Nat), .int .i64 p1]) (.agg #[.int .u64 (n2 : Nat), .int .i64 p2])) w = .ok (decide (n1 = n2 ∧ p1 = p2)) w := vid_equalIn 9998 n1 p1 n2 p2 w

theorem isNone_any (w : World) (n : Nat) (p : Int) : Calls Tryd.prog 90 #[vid n p] w fun e w' => e = .returned (.bool (decide (n = 0))) ∧ Up w w' := by
  unfold vid
  have h : ((n : Int) == 0) = decide (n = 0) := by
    by_cases e : n = 0
    · subst e; rfl
    · simp [e]
  generalize hd : decide (n = 0) = r at *
  clear hd
  go_enter Tryd.func90, Tryd.ntmps90
  go_wp2
  go_ret
  exact ⟨rfl, (Up.refl _).alloc _⟩
/-- Is it a state of no view? -/
theorem none1_any (w : World) (x : Sx) : Calls Tryd.prog 89 #[sta x] w fun e w' => e = .returned (.bool (decide (x.1 = 0))) ∧ Up w w' := by
  have h := fun W => isNone_any W x.1 x.2.1
  unfold vid at h
  unfold sta
  go_enter Tryd.func89, Tryd.ntmps89
  go_wp2_with fail
  refine (h _).mono ?_
  rintro e w1 ⟨rfl, hu⟩
  have hu1 := ((Up.refl w).alloc _).trans hu
  clear h
  go_wp2
  go_ret
  exact ⟨rfl, hu1⟩
/-- Are two states of one view? -/
theorem same3_any (w : World) (x y : Sx) : Calls Tryd.prog 97 #[sta x, sta y] w fun e w' => e = .returned (.bool (decide (x.1 = y.1 ∧ x.2.1 = y.2.1))) ∧ Up w w' := by
  have heq := fun W => vid_equal x.1 x.2.1 y.1 y.2.1 W
  generalize decide (x.1 = y.1 ∧ x.2.1 = y.2.1) = r at *
  unfold sta
  go_enter Tryd.func97, Tryd.ntmps97
  go_wp2
  go_ret
  exact ⟨rfl, ((Up.refl _).alloc _).alloc _⟩
end Go.Proofs.YtlonbbepoamnmaaDoor
