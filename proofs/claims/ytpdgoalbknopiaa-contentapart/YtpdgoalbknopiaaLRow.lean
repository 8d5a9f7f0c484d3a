/-
  Rows of labels in memory; which of two labels are one; the document's In and Same.
-/
import Derived.Test.YtpdgoalbknopiaaLForm
namespace Go.Proofs.Ytpdgoalbknopiaa
open Go.RowKit Go.Sort
set_option linter.unusedVariables false

def cellsL (x : Lb) : List Value := [.int .u64 (x.1 : Nat), .int .i64 x.2.1, .int .u64 (x.2.2.1 : Nat), .int .i64 x.2.2.2]
def flat (ls : List Lb) : List Value := ls.flatMap cellsL
theorem flat_len (ls : List Lb) : (flat ls).length = ls.length * 4 := by
  induction ls with
  | nil => rfl
  | cons a r ih => simp [flat, cellsL] at ih ⊢; omega
theorem flat_cons (x : Lb) (ls : List Lb) : flat (x :: ls) = cellsL x ++ flat ls := by simp [flat]
theorem flat_app (a b : List Lb) : flat (a ++ b) = flat a ++ flat b := by simp [flat]
theorem flat_one {ls : List Lb} {u : Value} (h : u ∈ flat ls) : u.oneCell' = true := by
  obtain ⟨x, _, hx⟩ := List.mem_flatMap.1 h
  simp [cellsL] at hx
  rcases hx with rfl | rfl | rfl | rfl <;> rfl
theorem flat_get : ∀ (ls : List Lb) (j : Nat) (x : Lb) (i : Nat), ls[j]? = some x → i < 4 → (flat ls)[4 * j + i]? = (cellsL x)[i]?
  | [], j, x, i, h, hi => by simp at h
  | a :: r, 0, x, i, h, hi => by
    simp at h; subst h
    rw [flat_cons, List.getElem?_append_left (by simp [cellsL]; omega)]; simp
  | a :: r, j + 1, x, i, h, hi => by
    rw [flat_cons, List.getElem?_append_right (by simp [cellsL]; omega), show 4 * (j + 1) + i - (cellsL a).length = 4 * j + i by simp [cellsL]; omega]
    exact flat_get r j x i (by simpa using h) hi
theorem flat_inj : ∀ {a b : List Lb}, flat a = flat b → a = b
  | [], [], _ => rfl
  | [], y :: b, h => by have := congrArg List.length h; simp [flat_len] at this
  | x :: a, [], h => by have := congrArg List.length h; simp [flat_len] at this
  | x :: a, y :: b, h => by
    rw [flat_cons, flat_cons] at h
    have h1 := List.append_inj h (by simp [cellsL])
    have hx : x = y := by
      have := h1.1
      simp [cellsL] at this
      obtain ⟨a1, a2, a3, a4⟩ := this
      exact Prod.ext (by omega) (Prod.ext a2 (Prod.ext (by omega) a4))
    rw [hx, flat_inj h1.2]

/-- A list of labels that lies in memory. -/
def LR (w : World) (ao : Option Addr) (n : Nat) (ls : List Lb) : Prop :=
  ls.length = n ∧ n ≤ 9223372036854775807 ∧ (0 < n → ∃ b off, ao = some ⟨b, off, none⟩ ∧ ∀ j x, ls[j]? = some x →
    w.cell? ⟨b, off + j * 4, none⟩ = some (.int .u64 (x.1 : Nat)) ∧ w.cell? ⟨b, off + j * 4 + 1, none⟩ = some (.int .i64 x.2.1) ∧ w.cell? ⟨b, off + j * 4 + 2, none⟩ = some (.int .u64 (x.2.2.1 : Nat)) ∧ w.cell? ⟨b, off + j * 4 + 3, none⟩ = some (.int .i64 x.2.2.2))
theorem LR.of_cells {w w' : World} {ao : Option Addr} {n : Nat} {ls : List Lb} (h : LR w ao n ls) (hc : ∀ ad v, ao.map (·.block) = some ad.block → w.cell? ad = some v → w'.cell? ad = some v) : LR w' ao n ls := by
  refine ⟨h.1, h.2.1, fun hn => ?_⟩
  obtain ⟨b, off, e, hh⟩ := h.2.2 hn
  refine ⟨b, off, e, fun j x hj => ?_⟩
  obtain ⟨h1, h2, h3, h4⟩ := hh j x hj
  subst e
  exact ⟨hc _ _ rfl h1, hc _ _ rfl h2, hc _ _ rfl h3, hc _ _ rfl h4⟩
theorem LR.up {w w' : World} {ao : Option Addr} {n : Nat} {ls : List Lb} (h : LR w ao n ls) (u : Below w.heap.size w w') : LR w' ao n ls :=
  h.of_cells (fun ad v _ hc => (u.cell (World.block_lt_of_cell? w _ hc)).trans hc)
/-- A row of one's own is one. -/
theorem LR.own {w : World} {B n : Nat} {v : Value} {ls : List Lb} (h : w.ownsRow B 26 4 v n (flat ls)) : ∃ ao cap, v = .slice ao n cap ∧ LR w ao n ls := by
  have hl : ls.length = n := by have := h.1; rw [flat_len] at this; omega
  rcases h.2 with ⟨rfl, rfl⟩ | ⟨g, cap, cur, rfl, hg, hh, hnc, hcm, hcs, htk⟩
  · exact ⟨_, _, rfl, hl, by omega, fun h => by omega⟩
  · refine ⟨_, _, rfl, hl, by unfold maxLen at hcm; omega, fun hn => ⟨g, 0, rfl, fun j x hj => ?_⟩⟩
    have hcell : ∀ i, i < 4 → w.cell? ⟨g, 0 + j * 4 + i, none⟩ = (cellsL x)[i]? := fun i hi => by
      have e := flat_get ls j x i hj hi
      have hlt : i < (cellsL x).length := by simpa [cellsL] using hi
      rw [List.getElem?_eq_getElem hlt] at e ⊢
      have := h.cells (g := g) rfl (4 * j + i) _ e
      rw [Addr.add_lit] at this
      rw [show 0 + j * 4 + i = 0 + (4 * j + i) by omega]
      exact this
    exact ⟨hcell 0 (by omega), hcell 1 (by omega), hcell 2 (by omega), hcell 3 (by omega)⟩


theorem vid_equalIn (d : Nat) (n1 : Nat) (p1 : Int) (n2 : Nat) (p2 : Int) (w : World) : Sem.run Try.prog (Op.equalIn (d + 2) 24 (.agg #[.int .u64 (n1 : Nat), .int .i64 p1]) (.agg #[.int .u64 (n2 : Nat), .int .i64 p2])) w = .ok (decide (n1 = n2) && decide (p1 = p2)) w := by
  have u3 := Try.underlying3
  have a3 := Try.isAgg3
  have z3 := Try.sizeOf3
  have u22 := Try.underlying22
  have a22 := Try.isAgg22
  have z22 := Try.sizeOf22
  rw [run_equalIn_agg w (d + 1) 24 _ _ (by kernel_rfl) (by kernel_rfl)]
  simp only [Program.fieldsOf, Try.underlying24]
  go_simp
  by_cases h1 : n1 = n2
  · subst h1
    by_cases h2 : p1 = p2 <;> simp [h2]
  · have : ¬ ((n1 : Int) = n2) := by omega
    simp [h1, this]
theorem lab_equalIn (d : Nat) (n1 : Nat) (p1 : Int) (s1 : Nat) (q1 : Int) (n2 : Nat) (p2 : Int) (s2 : Nat) (q2 : Int) (w : World) : Sem.run Try.prog (Op.equalIn (d + 3) 26 (.agg #[.int .u64 (n1 : Nat), .int .i64 p1, .int .u64 (s1 : Nat), .int .i64 q1]) (.agg #[.int .u64 (n2 : Nat), .int .i64 p2, .int .u64 (s2 : Nat), .int .i64 q2])) w
    = .ok (decide (((n1, p1, s1, q1) : Lb) = (n2, p2, s2, q2))) w := by
  have u3 := Try.underlying3
  have a3 := Try.isAgg3
  have z3 := Try.sizeOf3
  have u22 := Try.underlying22
  have a22 := Try.isAgg22
  have z22 := Try.sizeOf22
  have a24 := Try.isAgg24
  have z24 := Try.sizeOf24
  have hv := fun W => vid_equalIn d n1 p1 n2 p2 W
  rw [run_equalIn_agg w (d + 2) 26 _ _ (by kernel_rfl) (by kernel_rfl)]
  simp only [Program.fieldsOf, Try.underlying26]
  go_simp
  by_cases h1 : n1 = n2
  · by_cases h2 : p1 = p2
    · by_cases h3 : s1 = s2
      · subst h3
        by_cases h4 : q1 = q2 <;> simp [h1, h2, h4]
      · have : ¬ ((s1 : Int) = s2) := by omega
        simp [h1, h2, h3, this]
    · simp [h1, h2]
  · simp [h1]
theorem lab_equal (x y : Lb) (w : World) : Sem.run Try.prog (Op.equalIn 10000 26 (.agg #[.int .u64 (x.1 : Nat), .int .i64 x.2.1, .int .u64 (x.2.2.1 : Nat), .int .i64 x.2.2.2]) (.agg #[.int .u64 (y.1 : Nat), .int .i64 y.2.1, .int .u64 (y.2.2.1 : Nat), .int .i64 y.2.2.2])) w
    = .ok (decide (x = y)) w := lab_equalIn 9997 x.1 x.2.1 x.2.2.1 x.2.2.2 y.1 y.2.1 y.2.2.1 y.2.2.2 w
theorem Bx.lb {B : Nat} {x : Lb} {w : World} (h : Bx B x.1 x.2.1 x.2.2.1 x.2.2.2 w) : w.cell? ⟨B, 0, none⟩ = some (.int .u64 (x.1 : Nat)) ∧ w.cell? ⟨B, 1, none⟩ = some (.int .i64 x.2.1) ∧ w.cell? ⟨B, 2, none⟩ = some (.int .u64 (x.2.2.1 : Nat)) ∧ w.cell? ⟨B, 3, none⟩ = some (.int .i64 x.2.2.2) := h

set_option maxRecDepth 10000 in
set_option maxHeartbeats 1000000 in
theorem in_any (w : World) (ao : Option Addr) (n cap : Nat) (ls : List Lb) (h : LR w ao n ls) (x : Lb) : Calls Try.prog 34 #[.slice ao n cap, lab x] w fun e w' => e = .returned (.bool (decide (x ∈ ls))) ∧ Up w w' := by
  unfold lab
  have hx0 := bx_new w x.1 x.2.1 x.2.2.1 x.2.2.2 26
  have up0 : Up w (w.alloc (.cells #[.int .u64 (x.1 : Nat), .int .i64 x.2.1, .int .u64 (x.2.2.1 : Nat), .int .i64 x.2.2.2] 26)) := (Up.refl _).alloc _
  have hr0 := h.up up0.bl
  have hl := h.1
  have hmax := h.2.1
  generalize hdd : decide (x ∈ ls) = r
  have HD : Hid (decide (x ∈ ls) = r) := hdd
  clear hdd
  go_enter Try.func34, Try.ntmps34
  go_wp2_with fail
  go_loopw [5] (fun iv wr => ∃ k : Nat, k ≤ n ∧ iv = .int .i64 k ∧ x ∉ ls.take k ∧ LR wr ao n ls ∧ Bx w.heap.size x.1 x.2.1 x.2.2.1 x.2.2.2 wr ∧ Up w wr) (fun iv _ => n - (intOf iv).toNat)
  case atStart => exact ⟨0, by omega, rfl, by simp, hr0, hx0, up0⟩
  case round =>
    obtain ⟨k, hk, rfl, hno, hr, hx, hu⟩ := hrel
    by_cases hlt : k < n
    · have hltI : (k : Int) < (n : Int) := by omega
      obtain ⟨y, hy⟩ : ∃ y, ls[k]? = some y := ⟨ls[k]'(by omega), List.getElem?_eq_getElem (by omega)⟩
      have HT : Hid (ls.take (k + 1) = ls.take k ++ [y]) := by rw [List.take_add_one, hy]; rfl
      obtain ⟨b, off, hao, hc⟩ := hr.2.2 (by omega)
      obtain ⟨c0, c1, c2, c3⟩ := hc k y hy
      have HM : Hid (ls[k]? = some y) := hy
      have heq := fun W => lab_equal y x W
      obtain ⟨d0, d1, d2, d3⟩ := hx.lb
      have HR := hr
      have HB := hx
      subst hao
      clear hc hy hr hx
      have hk0 : ¬ ((k : Int) < 0) := by omega
      cases hd : decide (y = x) with
      | false =>
        rw [hd] at heq
        have hno' : x ∉ ls.take (k + 1) := by rw [HT.out]; simp only [List.mem_append, List.mem_singleton, not_or]; exact ⟨hno, fun e => by simp [e] at hd⟩
        clear hd hno
        go_wp2_with fail
        go_quiet (fail)
        go_wp2
        go_roundw
        case rel => first | exact ⟨k + 1, by omega, by go_num, hno', HR, HB, hu.drewN _⟩ | ((repeat apply Exists.intro); exact ⟨⟨k + 1, by omega, by go_num, hno', HR, HB, hu.drewN _⟩, rfl⟩)
        case measure => simp [intOf]; omega
      | true =>
        rw [hd] at heq
        have hin : x ∈ ls := by
          have e : y = x := by simpa using hd
          subst e
          exact List.mem_of_getElem? HM.out
        have hdx : decide (x ∈ ls) = true := by simpa using hin
        have hrt : Hid (true = r) := hdx.symm.trans HD.out
        clear hd hno hin hdx
        go_wp2_with fail
        go_quiet (fail)
        go_wp2
        go_ret
        exact ⟨ret_bool hrt.out, hu.drewN _⟩
    · obtain rfl : k = n := by omega
      have hno' : x ∉ ls := by rw [List.take_of_length_le (by omega)] at hno; exact hno
      have hdx : decide (x ∈ ls) = false := by simpa using hno'
      have hrt : Hid (false = r) := hdx.symm.trans HD.out
      clear hno hno' hdx hr hx h hr0 hx0 up0
      go_wp2
      go_ret
      exact ⟨ret_bool hrt.out, hu⟩
end Go.Proofs.Ytpdgoalbknopiaa
