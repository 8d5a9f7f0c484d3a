/-
  JudgeParts: of traces of the statements' group, without what is known to be safe, one node's up to its second view are still those of one group, if all others stay. No condition.
-/
import Derived.Test.YthnbijnpbjfoaaaJTrA
import Derived.Test.YthnbijnpbjfoaaaJPartsP
import Derived.Test.YthnbijnpbjfoaaaJSafel
import Derived.Test.YthnbijnpbjfoaaaJAwake
import Derived.Deep.CutRange
import Derived.Deep.CutBlock
namespace Go.Proofs.Ythnbijnpbjfoaaa.judgeParts
open Go.ChangeShapes Go.WideShapes Go.ChangeAt Go.RowKit Go.Deep
set_option linter.unusedVariables false

/-- Rows of which the first i have no event that is known to be safe. -/
def Xs (X : Nat → List Ev) (i : Nat) : Nat → List Ev := fun j => if j < i then noSafe (X j) else X j
theorem Xs_step (X : Nat → List Ev) (i : Nat) : upd (Xs X i) i (noSafe (X i)) = Xs X (i + 1) := by
  funext j
  by_cases e : j = i
  · subst e; rw [upd_same]; simp [Xs]
  · rw [upd_ne _ _ e]
    unfold Xs
    by_cases e2 : j < i
    · rw [if_pos e2, if_pos (by omega)]
    · rw [if_neg e2, if_neg (by omega)]
theorem Xs_at (X : Nat → List Ev) (i : Nat) : Xs X i i = X i := by simp [Xs]
/-- The greatest number of a view in which something of node k has come to others, among the first events. -/
def lastL (k : Nat) : List Ev → Int → Int
  | [], x => x
  | e :: r, x => lastL k r (if e.k = 3 ∧ e.f = (k : Int) ∧ x < (e.n : Int) then (e.n : Int) else x)
theorem lastL_snoc (k : Nat) : ∀ (l : List Ev) (e : Ev) (x : Int), lastL k (l ++ [e]) x = if e.k = 3 ∧ e.f = (k : Int) ∧ lastL k l x < (e.n : Int) then (e.n : Int) else lastL k l x
  | [], e, x => rfl
  | a :: r, e, x => by
    show lastL k (r ++ [e]) _ = _
    rw [lastL_snoc k r e]
    rfl
theorem lastL_ge (k : Nat) : ∀ (l : List Ev) (x : Int), x ≤ lastL k l x
  | [], x => Int.le_refl _
  | e :: r, x => by
    show x ≤ lastL k r _
    refine Int.le_trans ?_ (lastL_ge k r _)
    split <;> omega
theorem lastL_mem (k : Nat) : ∀ (l : List Ev) (x : Int) (e : Ev), e ∈ l → e.k = 3 → e.f = (k : Int) → (e.n : Int) ≤ lastL k l x
  | [], x, e, h, _, _ => by cases h
  | a :: r, x, e, h, h1, h2 => by
    show (e.n : Int) ≤ lastL k r _
    rcases List.mem_cons.1 h with rfl | h
    · refine Int.le_trans ?_ (lastL_ge k r _)
      split
      · exact Int.le_refl _
      · rename_i hc
        refine Int.not_lt.1 (fun hlt => hc ⟨h1, h2, hlt⟩)
    · exact lastL_mem k r _ e h h1 h2
theorem lastL_le (k : Nat) : ∀ (l : List Ev) (x : Int) (c : Int), x ≤ c → (∀ e ∈ l, (e.n : Int) ≤ c) → lastL k l x ≤ c
  | [], x, c, h, _ => h
  | e :: r, x, c, h, h2 => by
    show lastL k r _ ≤ c
    refine lastL_le k r _ c ?_ (fun y hy => h2 y (List.mem_cons_of_mem _ hy))
    split
    · exact h2 e (List.mem_cons_self ..)
    · exact h
/-- .. of the first rows but the k-th. -/
def lastR (k : Nat) (X : Nat → List Ev) : Nat → Int
  | 0 => -1
  | i + 1 => if i = k then lastR k X i else lastL k (X i) (lastR k X i)
theorem lastR_ge (k : Nat) (X : Nat → List Ev) : ∀ i, -1 ≤ lastR k X i
  | 0 => Int.le_refl _
  | i + 1 => by
    unfold lastR
    split
    · exact lastR_ge k X i
    · exact Int.le_trans (lastR_ge k X i) (lastL_ge _ _ _)
theorem lastR_mono (k : Nat) (X : Nat → List Ev) : ∀ i, lastR k X i ≤ lastR k X (i + 1) := fun i => by
  show _ ≤ (if i = k then lastR k X i else lastL k (X i) (lastR k X i))
  split
  · exact Int.le_refl _
  · exact lastL_ge _ _ _
theorem lastR_mem (k : Nat) (X : Nat → List Ev) : ∀ i j e, j < i → j ≠ k → e ∈ X j → e.k = 3 → e.f = (k : Int) → (e.n : Int) ≤ lastR k X i
  | 0, j, e, h, _, _, _, _ => by omega
  | i + 1, j, e, h, hj, he, h1, h2 => by
    by_cases ej : j = i
    · subst ej
      unfold lastR
      rw [if_neg hj]
      exact lastL_mem k _ _ e he h1 h2
    · exact Int.le_trans (lastR_mem k X i j e (by omega) hj he h1 h2) (lastR_mono k X i)
theorem lastR_le (k : Nat) (X : Nat → List Ev) (c : Int) (hc : -1 ≤ c) (hX : ∀ j e, e ∈ X j → (e.n : Int) ≤ c) : ∀ i, lastR k X i ≤ c
  | 0 => hc
  | i + 1 => by
    unfold lastR
    split
    · exact lastR_le k X c hc hX i
    · exact lastL_le k _ _ c (lastR_le k X c hc hX i) (hX i)
/-- The events that have been copied are the beginning ahead of a second view. -/
theorem headV_take : ∀ (l : List Ev) (i : Nat), (∀ j e, 0 < j → j < i → l[j]? = some e → e.k ≠ 1) → i ≤ l.length → (i = l.length ∨ 0 < i ∧ ∃ e, l[i]? = some e ∧ e.k = 1) → l.take i = headV l
  | [], i, _, h, _ => by simp at h; subst h; rfl
  | a :: r, i, h, hl, hor => by
    have hi : 0 < i := by
      rcases hor with h1 | h1
      · rw [h1]; simp
      · exact h1.1
    obtain ⟨q, rfl⟩ : ∃ q, i = q + 1 := ⟨i - 1, by omega⟩
    show a :: r.take q = a :: r.takeWhile _
    congr 1
    have h1 : ∀ j e, j < q → r[j]? = some e → e.k ≠ 1 := fun j e hj he => h (j + 1) e (by omega) (by omega) (by simpa using he)
    have h2 : q = r.length ∨ ∃ e, r[q]? = some e ∧ e.k = 1 := by
      rcases hor with h3 | ⟨_, e, h3, h4⟩
      · exact .inl (by simpa using h3)
      · exact .inr ⟨e, by simpa using h3, h4⟩
    clear h hor hi
    simp only [List.length_cons] at hl
    have : r = r.take q ++ r.drop q := (List.take_append_drop q r).symm
    rw [this, takeWhile_stop]
    · rw [← this]
    · intro e he
      obtain ⟨j, hj⟩ := List.getElem?_of_mem he
      have hlt := (List.getElem?_eq_some_iff.1 hj).1
      rw [List.length_take] at hlt
      rw [List.getElem?_take] at hj
      split at hj
      · have := h1 j e (by omega) hj
        simpa using this
      · cases hj
    · rcases h2 with h2 | ⟨e, h2, h3⟩
      · exact .inl (List.drop_eq_nil_of_le (by omega))
      · refine .inr ⟨e, r.drop (q + 1), ?_, by simp [h3]⟩
        obtain ⟨hq, he⟩ := List.getElem?_eq_some_iff.1 h2
        rw [List.drop_eq_getElem_cons hq, he]
theorem headV_sub : ∀ (l : List Ev) e, e ∈ headV l → e ∈ l
  | [], e, h => h
  | a :: r, e, h => by
    have h' : e ∈ a :: r.takeWhile (fun e => decide (e.k ≠ 1)) := h
    rw [List.mem_cons] at h'
    rcases h' with rfl | h'
    · exact List.mem_cons_self ..
    · exact List.mem_cons_of_mem _ ((List.takeWhile_sublist _).subset h')
theorem headV_len : ∀ (l : List Ev), (headV l).length ≤ l.length
  | [] => Nat.le_refl _
  | a :: r => by
    show (r.takeWhile _).length + 1 ≤ r.length + 1
    have := (List.takeWhile_sublist (p := fun e : Ev => decide (e.k ≠ 1)) (l := r)).length_le
    omega
theorem headV_head {l : List Ev} {e : Ev} (h : (headV l)[0]? = some e) : ∃ r, headV l = e :: r := by
  cases hl : headV l with
  | nil => rw [hl] at h; simp at h
  | cons a r => rw [hl] at h; simp at h; exact ⟨r, by rw [h]⟩
theorem map_upd {n k : Nat} (Y : Nat → List Ev) (m : List Ev) (hk : k < n) : (List.range n).map (upd Y k m) = ((List.range n).map Y).set k m := by
  refine List.ext_getElem? (fun j => ?_)
  by_cases hj : j < n
  · rw [List.getElem?_map, List.getElem?_range hj]
    by_cases e : j = k
    · subst e; rw [List.getElem?_set_self (by simpa using hj)]; simp [upd_same]
    · rw [List.getElem?_set_ne (by omega), List.getElem?_map, List.getElem?_range hj]; simp [upd_ne _ _ e]
  · rw [List.getElem?_eq_none (by simp; omega), List.getElem?_eq_none (by simp; omega)]
/-- What is in reach of the inner loop: the greatest number so far. -/
def curL (k i : Nat) (Y : Nat → List Ev) (j : Nat) : Int := if i = k then lastR k Y i else lastL k ((Y i).take j) (lastR k Y i)
theorem curL_step {k i j : Nat} {Y : Nat → List Ev} {e : Ev} (he : (Y i)[j]? = some e) : curL k i Y (j + 1) = if i ≠ k ∧ e.k = 3 ∧ e.f = (k : Int) ∧ curL k i Y j < (e.n : Int) then (e.n : Int) else curL k i Y j := by
  unfold curL
  by_cases h : i = k
  · rw [if_pos h, if_neg (fun c => c.1 h), if_pos h]
  · rw [if_neg h, if_neg h, take_snoc he, lastL_snoc]
    by_cases c : e.k = 3 ∧ e.f = (k : Int) ∧ lastL k ((Y i).take j) (lastR k Y i) < (e.n : Int)
    · rw [if_pos c, if_pos ⟨h, c⟩]
    · rw [if_neg c, if_neg (fun d => c d.2)]
theorem curL_end {k i : Nat} {Y : Nat → List Ev} : curL k i Y (Y i).length = lastR k Y (i + 1) := by
  show curL k i Y (Y i).length = if i = k then lastR k Y i else lastL k (Y i) (lastR k Y i)
  unfold curL
  rw [List.take_length]
/-- The number of the first view of a list. -/
def firstN (l : List Ev) : Nat := match l with
  | [] => 0
  | v :: _ => v.n
theorem firstN_at {l : List Ev} {e : Ev} (h : l[0]? = some e) : firstN l = e.n := by
  cases l with
  | nil => simp at h
  | cons a r => simp at h; subst h; rfl
theorem curL_zero {k i : Nat} {Y : Nat → List Ev} : curL k i Y 0 = lastR k Y i := by
  unfold curL
  split
  · rfl
  · simp [lastL]
theorem curL_b {k i j : Nat} {Y : Nat → List Ev} (hY : ∀ j e, e ∈ Y j → e.n ≤ 100) : -1 ≤ curL k i Y j ∧ curL k i Y j ≤ 100 := by
  have h1 := lastR_ge k Y i
  have h2 := lastR_le k Y 100 (by omega) (fun j e he => by have := hY j e he; omega) i
  unfold curL
  split
  · exact ⟨h1, h2⟩
  · exact ⟨Int.le_trans h1 (lastL_ge _ _ _), lastL_le k _ _ 100 h2 (fun e he => by have := hY i e (List.mem_of_mem_take he); omega)⟩
theorem traces_n {n : Nat} {runs : List Rn} (h1 : 1 ≤ n) (h6 : n ≤ 6) {q j : Nat} (hq : q ≤ min runs.length 6) {e : Ev} (he : e ∈ traceX n runs q j) : EvOk e ∧ e.n ≤ 100 := by
  rw [traceX_gd] at he
  obtain ⟨r, hr, h⟩ := Gd.L_mem _ _ _ _ he
  have hi := (gdT_ok n runs h1 h6).inv e h
  exact ⟨segT_ok h1 h6 (by omega) h, by omega⟩
set_option maxRecDepth 10000 in
set_option maxHeartbeats 8000000 in
theorem walk (w : World) (nb : Nat) (hnb : nb < 256) (ao : Option Addr) (N cap0 : Nat) (runs : List Rn) (h : RunsR w ao N runs) (hc : Cp (ao, N, cap0)) (who : Nat) (hwho : who < 256) :
    Calls Try.prog 8 #[.int .u8 (nb : Nat), .slice ao N cap0, .int .u8 (who : Nat)] w fun e w' => e = .returned (.bool true) ∧ RowKit.Below w.heap.size w w' := by
  have HI : Hid (RunsR w ao N runs) := h
  have hN42 : N ≤ 4398046511104 := h.2.1
  have hNr : runs.length = N := h.1
  clear h hc
  go_enter Try.func8, Try.ntmps8
  go_wp2_with fail
  refine (awake_any _).mono ?_
  rintro e w1 ⟨rfl, b1⟩
  have HB : Hid (RowKit.Below w.heap.size w w1) := b1
  clear b1
  by_cases hn : N ≤ 6
  case neg =>
    have hnI : (N : Int) > 6 := by omega
    go_wp2_with fail
    refine (awake_any _).mono ?_
    rintro e w2 ⟨rfl, b2⟩
    have HE : Hid (RowKit.Below w.heap.size w w2) := HB.out.trans (b2.mono HB.out.size)
    clear b2
    go_wp2
    go_ret
    exact ⟨rfl, HE.out⟩
  have hnI : ¬ ((N : Int) > 6) := by omega
  obtain ⟨n, hn0⟩ : ∃ n, 1 + nb % 6 = n := ⟨_, rfl⟩
  have hn1 : 1 ≤ n := by omega
  have hn6 : n ≤ 6 := by omega
  have hnn : 1 + (nb : Int) % 6 = (n : Int) := by omega
  have htr := traces_any w1 ao N cap0 runs (HI.out.keep HB.out) n hn1 hn6
  obtain ⟨X, hX⟩ : ∃ X, traceX n runs (min N 6) = X := ⟨_, rfl⟩
  have HX : Hid (traceX n runs (min N 6) = X ∧ (∀ j, (X j).length ≤ 190) ∧ ∀ j e, e ∈ X j → EvOk e ∧ e.n ≤ 100) := by
    refine ⟨hX, fun j => ?_, fun j e he => ?_⟩
    · rw [← hX]
      have := traceX_len n runs (min N 6) j
      omega
    · rw [← hX] at he
      exact traces_n hn1 hn6 (by omega) he
  have HN : Hid (1 ≤ n ∧ n ≤ 6) := ⟨hn1, hn6⟩
  clear hX hn0 hn1
  go_wp2_with fail
  refine htr.mono ?_
  rintro e w2 ⟨g, R, rfl, htl, b2⟩
  rw [HX.out.1] at htl
  have HT : Hid (TL w1.heap.size w2 g n n R X ∧ RowKit.Below w.heap.size w w2) := ⟨htl, HB.out.trans (b2.mono HB.out.size)⟩
  clear htl b2 htr
  go_wp2_with fail
  -- without what is known to be safe
  go_loopw [8] (fun iv wr => ∃ (i : Nat) (R : Nat → Sr), i ≤ n ∧ iv = .int .i64 (i : Nat) ∧ TL w1.heap.size wr g n n R (Xs X i) ∧ RowKit.Below w.heap.size w wr) (fun iv _ => n - (intOf iv).toNat)
  case atStart =>
    refine ⟨0, R, by omega, rfl, HT.out.1.cong (fun j _ => by simp [Xs]), HT.out.2⟩
  case round =>
    clear HT
    obtain ⟨i, R, hi, rfl, htl, hbl⟩ := hrel
    have HS : Hid (TL w1.heap.size wr g n n R (Xs X i) ∧ RowKit.Below w.heap.size w wr) := ⟨htl, hbl⟩
    by_cases hlt : i < n
    · have hltI : (i : Int) < (n : Int) := by omega
      have hi0 : ¬ ((i : Int) < 0) := by omega
      obtain ⟨⟨ra, rn, rc⟩, hri⟩ : ∃ r, R i = r := ⟨_, rfl⟩
      have hci := htl.cell i hlt
      have hrow := htl.row i hlt
      rw [hri] at hci hrow
      rw [Xs_at] at hrow
      replace hci : wr.cell? ⟨g, i, none⟩ = some (.slice ra rn rc) := hci
      have hsl := safeless_any wr w1.heap.size ra rn rc (X i) hrow htl.sz (by have := HX.out.2.1 i; omega)
      clear hrow hri htl hbl
      go_wp2_with fail
      refine hsl.mono ?_
      rintro e w3 ⟨r', rfl, ho', hf', b3⟩
      have htl3 := HS.out.1.up b3
      have HN3 : Hid (TL w1.heap.size (w3.setCell ⟨g, i, none⟩ (.slice r'.1 r'.2.1 r'.2.2)) g n n (upd R i r') (Xs X (i + 1)) ∧ RowKit.Below w.heap.size w (w3.setCell ⟨g, i, none⟩ (.slice r'.1 r'.2.1 r'.2.2))) := by
        refine ⟨?_, TL.below (bl_step HS.out.2 b3) (Nat.le_trans HB.out.size htl3.gB)⟩
        have h1 := htl3.replace hlt ho' (fun j hj b hb hb' => by
          have h2 := ((HS.out.1.row j hj).blk hb).2.1
          have := hf' b hb'
          omega)
        rw [Xs_step] at h1
        exact h1
      have g3 : ∃ v, w3.cell? ⟨g, i, none⟩ = some v := ⟨_, htl3.cell i hlt⟩
      obtain ⟨v3, g3⟩ := g3
      have f3 := htl3.fz i
      clear hsl ho' hf' b3 htl3 hci
      go_wp2
      go_roundw
      case rel => exact ⟨i + 1, _, by omega, by go_num, HN3.out⟩
      case measure => simp [intOf]; omega
    · obtain rfl : n = i := by omega
      obtain ⟨Y, hY⟩ : ∃ Y, Xs X n = Y := ⟨_, rfl⟩
      rw [hY] at htl
      have hYn : ∀ j, j < n → Y j = noSafe (X j) := fun j hj => by rw [← hY]; unfold Xs; rw [if_pos hj]
      have hYm : ∀ j e, e ∈ Y j → e ∈ X j := fun j e he => by
        rw [← hY] at he
        unfold Xs at he
        split at he
        · exact (List.mem_filter.1 he).1
        · exact he
      have hYl : ∀ j, (Y j).length ≤ 190 := fun j => by
        have h1 := HX.out.2.1 j
        have h2 := List.length_filter_le (fun e : Ev => decide (e.k ≠ 4)) (X j)
        rw [← hY]
        unfold Xs noSafe
        split <;> omega
      have HY : Hid ((∀ j, j < n → Y j = noSafe (X j)) ∧ (∀ j e, e ∈ Y j → EvOk e ∧ e.n ≤ 100) ∧ (∀ j, (Y j).length ≤ 190)) := ⟨hYn, fun j e he => HX.out.2.2 j e (hYm j e he), hYl⟩
      obtain ⟨k, hk0⟩ : ∃ k, who % n = k := ⟨_, rfl⟩
      have hkn : k < n := by rw [← hk0]; exact Nat.mod_lt _ (by have := HN.out; omega)
      have hkk : (who : Int) % (n : Int) = (k : Int) := by rw [← hk0]; simp
      have hknI : (k : Int) < (n : Int) := by omega
      have hk00 : ¬ ((k : Int) < 0) := by omega
      have hnI0 : ¬ ((n : Int) = 0) := by omega
      obtain ⟨ys, hys⟩ : ∃ ys, Y k = ys := ⟨_, rfl⟩
      have hys190 : ys.length ≤ 190 := by rw [← hys]; exact hYl k
      have HYS : Hid (Y k = ys) := hys
      have HT : Hid (TL w1.heap.size wr g n (n + 1) (upd R n (none, 0, 0)) (upd Y n []) ∧ RowKit.Below w.heap.size w wr) := ⟨htl.extend, hbl⟩
      obtain ⟨kl, hkl⟩ : ∃ kl, ys.length = kl := ⟨_, rfl⟩
      have HKL : Hid (ys.length = kl) := hkl
      rw [hkl] at hys190
      clear hY hYn hYm hYl hk0 hys hkl htl hbl HS
      generalize wr = w3 at *
      go_upto_block 2 with fail
      (try simp only [hkk])
      clear hkk
      go_cut [10, 11] from 48 to 79 (fun mv _ wx => ∃ R', mv = .slice (R' n).1 (R' n).2.1 (R' n).2.2 ∧ Hid (TL w1.heap.size wx g n (n + 1) R' (upd Y n (headV ys)) ∧ RowKit.Below w.heap.size w wx))
      case first =>
        go_wp2_with fail
        go_loopw [10, 11] (fun mv iv wr => ∃ (i : Nat) (R' : Nat → Sr), i ≤ kl ∧ iv = .int .i64 (i : Nat) ∧ mv = .slice (R' n).1 (R' n).2.1 (R' n).2.2 ∧ TL w1.heap.size wr g n (n + 1) R' (upd Y n (ys.take i)) ∧ RowKit.Below w.heap.size w wr ∧ (∀ j e, 0 < j → j < i → ys[j]? = some e → e.k ≠ 1)) (fun _ iv _ => kl - (intOf iv).toNat)
        case atStart => exact ⟨0, _, by omega, rfl, by rw [upd_same], HT.out.1, HT.out.2, fun j e h1 h2 => by omega⟩
        case round =>
          clear HT
          obtain ⟨i, R', hi, rfl, rfl, htl, hbl, hno⟩ := hrel
          have HS : Hid (TL w1.heap.size wr g n (n + 1) R' (upd Y n (ys.take i)) ∧ RowKit.Below w.heap.size w wr ∧ (∀ j e, 0 < j → j < i → ys[j]? = some e → e.k ≠ 1)) := ⟨htl, hbl, hno⟩
          obtain ⟨⟨ra, rn, rc⟩, hrk⟩ : ∃ r, R' k = r := ⟨_, rfl⟩
          have hck := htl.cell k hkn
          have hrow := htl.row k (by omega)
          rw [hrk] at hck hrow
          rw [upd_ne _ _ (by omega), HYS.out] at hrow
          replace hck : wr.cell? ⟨g, k, none⟩ = some (.slice ra rn rc) := hck
          have hrn : rn = kl := by rw [← HKL.out]; exact hrow.1
          subst hrn
          have HROW : Hid (EvO w1.heap.size wr (ra, rn, rc) ys) := hrow
          clear htl hbl hno hrow hrk
          by_cases hil : i < rn
          · have hilI : (i : Int) < (rn : Int) := by omega
            have hi0 : ¬ ((i : Int) < 0) := by omega
            obtain ⟨e, he⟩ : ∃ e, ys[i]? = some e := ⟨ys[i]'(by have := HKL.out; omega), List.getElem?_eq_getElem _⟩
            obtain ⟨b, cap, ⟨ta, tn, tc⟩, hre, h6, hxok⟩ := HROW.out.at he
            simp only [Prod.mk.injEq] at hre
            obtain ⟨rfl, -, -⟩ := hre
            have h0 := h6.1
            have HE : Hid (ys[i]? = some e ∧ ys.take (i + 1) = ys.take i ++ [e] ∧ ExOk w1.heap.size wr (e, (ta, tn, tc))) := ⟨he, take_snoc he, hxok⟩
            clear he hxok
            by_cases hbr : e.k = 1 ∧ 0 < i
            · have hkb : ((e.k : Int) == 1) = true := by simp; omega
              have hib : (i : Int) > 0 := by omega
              have HF : Hid (TL w1.heap.size wr g n (n + 1) R' (upd Y n (headV ys))) := by
                have e1 : ys.take i = headV ys := headV_take ys i HS.out.2.2 (by have := HKL.out; omega) (.inr ⟨hbr.2, e, HE.out.1, hbr.1⟩)
                have h1 := HS.out.1
                rw [e1] at h1
                exact h1
              clear hbr
              go_wp2_with fail
              go_meet
              exact ⟨R', rfl, HF.out, HS.out.2.1⟩
            · have HNO : Hid (∀ j e', 0 < j → j < i + 1 → ys[j]? = some e' → e'.k ≠ 1) := fun j e' h1 h2 h3 => by
                by_cases ej : j = i
                · subst ej
                  rw [HE.out.1] at h3; cases h3
                  exact fun h4 => hbr ⟨h4, h1⟩
                · exact HS.out.2.2 j e' h1 (by omega) h3
              obtain ⟨A, hA⟩ : ∃ A, wr.alloc (.cells #[.int .u8 (e.k : Nat), .int .u64 (e.n : Nat), .int .i64 e.p, .int .u16 (e.s : Nat), .int .i64 e.f, .slice ta tn tc] 49) = A := ⟨_, rfl⟩
              obtain ⟨q, hq⟩ : ∃ q, wr.heap.size = q := ⟨_, rfl⟩
              have uA : RowKit.Below wr.heap.size wr A := by rw [← hA]; exact bl1 _ _
              have hac := cell_one wr (e, ((ta, tn, tc) : Sr))
              simp only at hac
              rw [hA, hq] at hac
              obtain ⟨r5, w5, hrun, ht5, hb5, _⟩ := (HS.out.1.up uA).side [(e, ((ta, tn, tc) : Sr))] (fun z hz => by rw [List.mem_singleton] at hz; subst hz; exact ⟨HE.out.2.2.1, HE.out.2.2.2.keep (Kp.up uA)⟩) (by rw [upd_same, List.length_take]; simp only [List.length_singleton]; omega) 1 hac
              have HNX : Hid (TL w1.heap.size w5 g n (n + 1) (upd R' n r5) (upd Y n (ys.take (i + 1))) ∧ RowKit.Below w.heap.size w w5) := by
                refine ⟨?_, (bl_step HS.out.2.1 uA).trans (hb5.mono HB.out.size)⟩
                rw [upd_same, upd_upd] at ht5
                rw [HE.out.2.1]
                exact ht5
              have HRUN : Hid ((Builtin.append_ #[41, 41] 41 #[.slice (R' n).1 (R' n).2.1 (R' n).2.2, .slice (some ⟨q, 0, none⟩) 1 1]).run Try.prog A = .ok (.slice r5.1 r5.2.1 r5.2.2) w5) := hrun
              clear hac hrun ht5 hb5 uA
              by_cases hk1 : e.k = 1
              · have hkb : ((e.k : Int) == 1) = true := by simp; omega
                have hib : ¬ ((i : Int) > 0) := by omega
                clear hbr hk1
                go_wp2_with (first | refine wpList_load_Ev rfl (.tmp 76) rfl b (i * 6) rfl e (ta, tn, tc) h6 ?_ | (at_builtin; (try simp only [hA, hq]); refine wpList_append_runE rfl (.tmp 70) (.tmp 78) 41 rfl (.slice (R' n).1 (R' n).2.1 (R' n).2.2) (.slice (some ⟨q, 0, none⟩) 1 1) (.slice r5.1 r5.2.1 r5.2.2) w5 rfl rfl HRUN.out ?_))
                go_roundw
                case rel => first | exact ⟨i + 1, upd R' n r5, by omega, by go_num, by rw [upd_same], HNX.out.1, HNX.out.2, HNO.out⟩ | ((repeat apply Exists.intro); exact ⟨⟨i + 1, upd R' n r5, by omega, by go_num, by rw [upd_same], HNX.out.1, HNX.out.2, HNO.out⟩, rfl⟩)
                case measure => simp [intOf]; omega
              · have hkb : ((e.k : Int) == 1) = false := by simp; omega
                clear hbr hk1
                go_wp2_with (first | refine wpList_load_Ev rfl (.tmp 76) rfl b (i * 6) rfl e (ta, tn, tc) h6 ?_ | (at_builtin; (try simp only [hA, hq]); refine wpList_append_runE rfl (.tmp 70) (.tmp 78) 41 rfl (.slice (R' n).1 (R' n).2.1 (R' n).2.2) (.slice (some ⟨q, 0, none⟩) 1 1) (.slice r5.1 r5.2.1 r5.2.2) w5 rfl rfl HRUN.out ?_))
                go_roundw
                case rel => first | exact ⟨i + 1, upd R' n r5, by omega, by go_num, by rw [upd_same], HNX.out.1, HNX.out.2, HNO.out⟩ | ((repeat apply Exists.intro); exact ⟨⟨i + 1, upd R' n r5, by omega, by go_num, by rw [upd_same], HNX.out.1, HNX.out.2, HNO.out⟩, rfl⟩)
                case measure => simp [intOf]; omega
          · have hilI : ¬ ((i : Int) < (rn : Int)) := by omega
            have HF : Hid (TL w1.heap.size wr g n (n + 1) R' (upd Y n (headV ys))) := by
              have e1 : ys.take i = headV ys := headV_take ys i HS.out.2.2 (by have := HKL.out; omega) (.inl (by have := HKL.out; omega))
              have h1 := HS.out.1
              rw [e1] at h1
              exact h1
            go_wp2_with fail
            go_meet
            exact ⟨R', rfl, HF.out, HS.out.2.1⟩
      case rest =>
        obtain ⟨R', rfl, HT5⟩ := hcut
        clear HT
        generalize wc = w5 at *
        obtain ⟨⟨ma, ml, mc⟩, hRn⟩ : ∃ r, R' n = r := ⟨_, rfl⟩
        simp only [hRn]
        have HRN : Hid (R' n = (ma, ml, mc)) := hRn
        clear hRn
        go_wp2_with fail
        -- the greatest view's number in which something of it has come to others
        go_loopw [12, 13, 14] (fun lv iv _ wr => ∃ i : Nat, i ≤ n ∧ iv = .int .i64 (i : Nat) ∧ lv = .int .i64 (lastR k Y i) ∧ w5 = wr) (fun _ iv _ _ => n - (intOf iv).toNat)
        case atStart => exact ⟨0, by omega, rfl, rfl, rfl⟩
        case round =>
          obtain ⟨i, hi, rfl, rfl, rfl⟩ := hrel
          by_cases hil : i < n
          · have hilI : (i : Int) < (n : Int) := by omega
            have hi0 : ¬ ((i : Int) < 0) := by omega
            obtain ⟨⟨ra, rn, rc⟩, hri⟩ : ∃ r, R' i = r := ⟨_, rfl⟩
            have hci := HT5.out.1.cell i hil
            have hrow := HT5.out.1.row i (by omega)
            rw [hri] at hci hrow
            rw [upd_ne _ _ (by omega)] at hrow
            replace hci : w5.cell? ⟨g, i, none⟩ = some (.slice ra rn rc) := hci
            have HROW : Hid (EvO w1.heap.size w5 (ra, rn, rc) (Y i) ∧ rn = (Y i).length) := ⟨hrow, hrow.1⟩
            have hrn190 : rn ≤ 190 := by rw [HROW.out.2]; exact HY.out.2.2 i
            clear hri hrow
            go_wp2_with fail
            go_loopw [12, 14] (fun lv jv wr => ∃ j : Nat, j ≤ rn ∧ jv = .int .i64 (j : Nat) ∧ lv = .int .i64 (curL k i Y j) ∧ w5 = wr) (fun _ jv _ => rn - (intOf jv).toNat)
            case atStart => exact ⟨0, by omega, rfl, by rw [curL_zero], rfl⟩
            case round =>
              obtain ⟨j, hj, rfl, rfl, rfl⟩ := hrel
              obtain ⟨x, hx⟩ : ∃ x, curL k i Y j = x := ⟨_, rfl⟩
              have hxb := curL_b (k := k) (i := i) (j := j) (Y := Y) (fun j e he => (HY.out.2.1 j e he).2)
              rw [hx] at hxb
              obtain ⟨hx1, hx2⟩ := hxb
              have HXX : Hid (curL k i Y j = x) := hx
              simp only [hx]
              clear hx
              by_cases hjl : j < rn
              · have hjlI : (j : Int) < (rn : Int) := by omega
                have hj0 : ¬ ((j : Int) < 0) := by omega
                obtain ⟨e, he⟩ : ∃ e, (Y i)[j]? = some e := ⟨(Y i)[j]'(by have := HROW.out.2; omega), List.getElem?_eq_getElem _⟩
                obtain ⟨b, cap, t, hre, h6, _⟩ := HROW.out.1.at he
                simp only [Prod.mk.injEq] at hre
                obtain ⟨rfl, -, -⟩ := hre
                obtain ⟨e0, e1, e2, e3, e4, e5⟩ := h6
                have hen := (HY.out.2.1 i e (List.mem_of_getElem? he)).2
                have HST : Hid (curL k i Y (j + 1) = if i ≠ k ∧ e.k = 3 ∧ e.f = (k : Int) ∧ x < (e.n : Int) then (e.n : Int) else x) := by
                  show _ = _
                  rw [curL_step he, HXX.out]
                have hcv : IntKind.i64.wrap (e.n : Int) = (e.n : Int) := IntWalk.i64_in _ (by omega)
                clear he e2 e3 e5
                by_cases hik : i = k
                · have hikb : ((i : Int) != (k : Int)) = false := by simp; omega
                  have HN' : Hid (curL k i Y (j + 1) = x) := by show _ = _; rw [HST.out, if_neg (fun c => c.1 hik)]
                  have HIK : Hid (i = k) := hik
                  clear hik
                  go_wp2
                  go_roundw
                  case rel => first | exact ⟨j + 1, by omega, by go_num, by rw [HN'.out], by trivial⟩ | ((repeat apply Exists.intro); exact ⟨⟨j + 1, by omega, by go_num, by rw [HN'.out], by trivial⟩, rfl⟩)
                  case measure => simp [intOf]; omega
                · have hikb : ((i : Int) != (k : Int)) = true := by simp; omega
                  by_cases hk3 : e.k = 3
                  · have hkb : ((e.k : Int) == 3) = true := by simp; omega
                    by_cases hfk : e.f = (k : Int)
                    · have hfb : (e.f == (k : Int)) = true := by simp; exact hfk
                      by_cases hxn : x < (e.n : Int)
                      · have hxnI : (e.n : Int) > x := hxn
                        have HN' : Hid (curL k i Y (j + 1) = (e.n : Int)) := by show _ = _; rw [HST.out, if_pos ⟨hik, hk3, hfk, hxn⟩]
                        have HK3 : Hid (e.k = 3 ∧ e.f = (k : Int)) := ⟨hk3, hfk⟩
                        clear hk3 hfk
                        go_wp2
                        go_roundw
                        case rel => first | exact ⟨j + 1, by omega, by go_num, by rw [HN'.out], by trivial⟩ | ((repeat apply Exists.intro); exact ⟨⟨j + 1, by omega, by go_num, by rw [HN'.out], by trivial⟩, rfl⟩)
                        case measure => simp [intOf]; omega
                      · have hxnI : ¬ ((e.n : Int) > x) := hxn
                        have HN' : Hid (curL k i Y (j + 1) = x) := by show _ = _; rw [HST.out, if_neg (fun c => hxn c.2.2.2)]
                        clear hk3 hfk
                        go_wp2
                        go_roundw
                        case rel => first | exact ⟨j + 1, by omega, by go_num, by rw [HN'.out], by trivial⟩ | ((repeat apply Exists.intro); exact ⟨⟨j + 1, by omega, by go_num, by rw [HN'.out], by trivial⟩, rfl⟩)
                        case measure => simp [intOf]; omega
                    · have hfb : (e.f == (k : Int)) = false := by simp; exact hfk
                      have HN' : Hid (curL k i Y (j + 1) = x) := by show _ = _; rw [HST.out, if_neg (fun c => hfk c.2.2.1)]
                      clear hk3
                      go_wp2
                      go_roundw
                      case rel => first | exact ⟨j + 1, by omega, by go_num, by rw [HN'.out], by trivial⟩ | ((repeat apply Exists.intro); exact ⟨⟨j + 1, by omega, by go_num, by rw [HN'.out], by trivial⟩, rfl⟩)
                      case measure => simp [intOf]; omega
                  · have hkb : ((e.k : Int) == 3) = false := by simp; omega
                    have HN' : Hid (curL k i Y (j + 1) = x) := by show _ = _; rw [HST.out, if_neg (fun c => hk3 c.2.1)]
                    clear hk3
                    go_wp2
                    go_roundw
                    case rel => first | exact ⟨j + 1, by omega, by go_num, by rw [HN'.out], by trivial⟩ | ((repeat apply Exists.intro); exact ⟨⟨j + 1, by omega, by go_num, by rw [HN'.out], by trivial⟩, rfl⟩)
                    case measure => simp [intOf]; omega
              · obtain rfl : rn = j := by omega
                have hjlI : ¬ ((rn : Int) < (rn : Int)) := by omega
                have HN' : Hid (lastR k Y (i + 1) = x) := by show _ = _; rw [← curL_end, ← HROW.out.2]; exact HXX.out
                go_wp2
                go_roundw
                case rel => first | exact ⟨i + 1, by omega, by go_num, by rw [HN'.out], by trivial⟩ | ((repeat apply Exists.intro); exact ⟨⟨i + 1, by omega, by go_num, by rw [HN'.out], by trivial⟩, rfl⟩)
                case measure => simp [intOf]; omega
          · obtain rfl : n = i := by omega
            have hilI : ¬ ((n : Int) < (n : Int)) := by omega
            obtain ⟨x, hx⟩ : ∃ x, lastR k Y n = x := ⟨_, rfl⟩
            have HXX : Hid (lastR k Y n = x) := hx
            simp only [hx]
            clear hx
            have hxb : -1 ≤ x ∧ x ≤ 100 := by
              rw [← HXX.out]
              exact ⟨lastR_ge k Y n, lastR_le k Y 100 (by omega) (fun j e he => by have := (HY.out.2.1 j e he).2; omega) n⟩
            obtain ⟨hx1, hx2⟩ := hxb
            have hrow := HT5.out.1.row n (by omega)
            rw [upd_same, HRN.out] at hrow
            have HM : Hid (EvO w1.heap.size w5 (ma, ml, mc) (headV ys) ∧ ml = (headV ys).length) := ⟨hrow, hrow.1⟩
            have hml190 : ml ≤ 190 := by
              have := headV_len ys
              rw [HM.out.2]
              have := HKL.out
              omega
            obtain ⟨n0, hn0⟩ : ∃ n0, firstN (headV ys) = n0 := ⟨_, rfl⟩
            have HN0 : Hid (firstN (headV ys) = n0) := hn0
            clear hrow hn0
            go_upto_region 24 with fail
            go_cut [169] from 147 to 168 (fun bv wx => bv = .bool ((decide (0 < ml) && decide ((n0 : Int) < x)) || (decide (ml = 0) && decide (0 ≤ x))) ∧ w5 = wx)
            case first =>
              by_cases hm0 : 0 < ml
              · have hmI : (ml : Int) > 0 := by omega
                have hmI2 : (0 : Int) < (ml : Int) := by omega
                have hmb : ((ml : Int) == 0) = false := by simp; omega
                obtain ⟨e, he⟩ : ∃ e, (headV ys)[0]? = some e := ⟨(headV ys)[0]'(by have := HM.out.2; omega), List.getElem?_eq_getElem _⟩
                obtain ⟨b, cap, t, hre, h6, _⟩ := HM.out.1.at he
                simp only [Prod.mk.injEq] at hre
                obtain ⟨rfl, -, -⟩ := hre
                obtain ⟨_, e1, _, _, _, _⟩ := h6
                simp only [Nat.zero_mul, Nat.zero_add] at e1
                have hen : e.n = n0 := by rw [← HN0.out, firstN_at he]
                have hen2 := (HY.out.2.1 k e (by rw [HYS.out]; exact headV_sub _ _ (List.mem_of_getElem? he))).2
                rw [hen] at e1 hen2
                have hcv : IntKind.i64.wrap (n0 : Int) = (n0 : Int) := IntWalk.i64_in _ (by omega)
                have HM0 : Hid (0 < ml ∧ ¬ ml = 0) := ⟨hm0, by omega⟩
                clear he hen hm0
                by_cases hxn : (n0 : Int) < x
                · have hxnI : x > (n0 : Int) := hxn
                  go_wp2_with fail
                  go_meet
                  exact ⟨by simp [HM0.out.1, hxn], by trivial⟩
                · have hxnI : ¬ (x > (n0 : Int)) := hxn
                  go_wp2_with fail
                  go_meet
                  exact ⟨by simp [HM0.out.2, hxn], by trivial⟩
              · have hmI : ¬ ((ml : Int) > 0) := by omega
                have hmb : ((ml : Int) == 0) = true := by simp; omega
                have HM0 : Hid (ml = 0) := by show ml = 0; omega
                clear hm0
                by_cases hx0 : 0 ≤ x
                · have hx0I : x ≥ 0 := hx0
                  go_wp2_with fail
                  go_meet
                  exact ⟨by simp [HM0.out, hx0], by trivial⟩
                · have hx0I : ¬ (x ≥ 0) := hx0
                  go_wp2_with fail
                  go_meet
                  exact ⟨by simp [HM0.out, hx0], by trivial⟩
            case rest =>
              obtain ⟨rfl, rfl⟩ := hcut
              obtain ⟨bb, hbb⟩ : ∃ bb, ((decide (0 < ml) && decide ((n0 : Int) < x)) || (decide (ml = 0) && decide (0 ≤ x))) = bb := ⟨_, rfl⟩
              rw [hbb]
              have HBB : Hid (((decide (0 < ml) && decide ((n0 : Int) < x)) || (decide (ml = 0) && decide (0 ≤ x))) = bb) := hbb
              clear hbb
              cases bb with
              | true =>
                go_wp2
                go_ret
                exact ⟨rfl, HT5.out.2⟩
              | false =>
                have hcond : ∀ y : Ev, (y.n : Int) ≤ x → (match headV ys with
                    | [] => False
                    | v :: _ => y.n ≤ v.n) := fun y hy => by
                  have hb := HBB.out
                  simp only [Bool.or_eq_false_iff, Bool.and_eq_false_iff, decide_eq_false_iff_not] at hb
                  have h0 := HN0.out
                  have hmle := HM.out.2
                  cases hh : headV ys with
                  | nil =>
                    rw [hh] at hmle
                    simp at hmle
                    show False
                    omega
                  | cons v r =>
                    rw [hh] at hmle h0
                    simp at hmle
                    show y.n ≤ v.n
                    have h0' : v.n = n0 := h0
                    omega
                have hess : (List.range n).map Y = (tracesD n runs).map noSafe' := by
                  unfold tracesD
                  rw [List.map_map]
                  refine List.map_congr_left (fun j hj => ?_)
                  have hjn : j < n := by simpa using hj
                  rw [HY.out.1 j hjn, ← HX.out.1, ← hNr]
                  rfl
                have hgetD : ((List.range n).map Y).getD k [] = ys := by
                  rw [List.getD_eq_getElem?_getD, List.getElem?_map, List.getElem?_range hkn]
                  exact HYS.out
                have hdoc := parts_doc (runs := runs) HN.out.1 HN.out.2 hkn hess (m := headV ys) (by rw [hgetD]) (fun i es hi hik y hy h3 hfk => by
                  rw [List.getElem?_map] at hi
                  obtain ⟨j, hj, rfl⟩ := Option.map_eq_some_iff.1 hi
                  obtain ⟨hjl, hje⟩ := List.getElem?_eq_some_iff.1 hj
                  simp at hjl hje
                  subst hje
                  refine hcond y ?_
                  rw [← HXX.out]
                  exact lastR_mem k Y n i y hjl hik hy h3 hfk)
                rw [← map_upd Y (headV ys) hkn] at hdoc
                have ht6 := HT5.out.1.move hkn
                rw [upd_same, HRN.out] at ht6
                obtain ⟨w6, hw6⟩ : ∃ w6, w5.setCell ⟨g, k, none⟩ (.slice ma ml mc) = w6 := ⟨_, rfl⟩
                have ht6' : TL w1.heap.size w6 g n n (upd R' k (ma, ml, mc)) (upd Y k (headV ys)) := by
                  rw [← hw6]
                  refine TL.cong ht6 (fun j hj => ?_)
                  by_cases e' : j = k
                  · subst e'; rw [upd_same, upd_same]
                  · rw [upd_ne _ _ e', upd_ne _ _ e', upd_ne _ _ (by omega)]
                have hb6 : RowKit.Below w.heap.size w w6 := by
                  rw [← hw6]
                  exact TL.below HT5.out.2 (Nat.le_trans HB.out.size HT5.out.1.gB)
                obtain ⟨X7, hX7⟩ : ∃ X7, upd Y k (headV ys) = X7 := ⟨_, rfl⟩
                rw [hX7] at ht6' hdoc
                have hat : ∀ j, j < n → (X7 j = headV (Y k)) ∨ X7 j = Y j := fun j hj => by
                  by_cases e' : j = k
                  · subst e'; exact .inl (by rw [← hX7, upd_same, HYS.out])
                  · exact .inr (by rw [← hX7, upd_ne _ _ e'])
                have hlen : ∀ j, j < n → (X7 j).length ≤ 190 := fun j hj => by
                  rcases hat j hj with e' | e'
                  · rw [e']; exact Nat.le_trans (headV_len _) (HY.out.2.2 k)
                  · rw [e']; exact HY.out.2.2 j
                have hok : ∀ fs ∈ (List.range n).map X7, ∀ y ∈ fs, EvOk y := fun fs hfs y hy => by
                  obtain ⟨j, hj, rfl⟩ := List.mem_map.1 hfs
                  have hjn : j < n := by simpa using hj
                  rcases hat j hjn with e' | e'
                  · rw [e'] at hy; exact (HY.out.2.1 k y (headV_sub _ _ hy)).1
                  · rw [e'] at hy; exact (HY.out.2.1 j y hy).1
                have hsum : (((List.range n).map X7).map List.length).sum ≤ 9000 := by
                  have h1 := sum_le_mul (l := ((List.range n).map X7).map List.length) (c := 190) (fun z hz => by
                    obtain ⟨fs, hfs, rfl⟩ := List.mem_map.1 hz
                    obtain ⟨j, hj, rfl⟩ := List.mem_map.1 hfs
                    exact hlen j (by simpa using hj))
                  have hl : (((List.range n).map X7).map List.length).length = n := by simp
                  rw [hl] at h1
                  have : n * 190 ≤ 6 * 190 := Nat.mul_le_mul_right _ HN.out.2
                  omega
                have hev := ht6'.evs (by have := HN.out.2; omega) (fun j hj => by have := hlen j hj; omega)
                have hvw := views_any w6 (some ⟨g, 0, none⟩) n n ((List.range n).map X7) hev.lt hok hsum
                have HD : Hid (DocViews ((List.range n).map X7) ∧ (∀ fs ∈ (List.range n).map X7, ∀ y ∈ fs, EvOk y) ∧ RowKit.Below w.heap.size w w6) := ⟨hdoc, hok, hb6⟩
                have g5 : ∃ v, w5.cell? ⟨g, k, none⟩ = some v := ⟨_, HT5.out.1.cell k hkn⟩
                obtain ⟨v5, g5⟩ := g5
                have f5 := HT5.out.1.fz k
                clear hcond hess hgetD hdoc ht6 ht6' hb6 hX7 hat hlen hok hsum hev
                go_upto_region 27 with fail
                (try simp only [hw6])
                clear hw6
                go_wp2_with fail
                refine hvw.mono ?_
                rintro e' w7 ⟨bv, rfl, hb, b7⟩
                have hbt : bv = true := views_same HD.out.2.1 hb (by simp [HD.out.1])
                subst hbt
                have HE : Hid (RowKit.Below w.heap.size w w7) := HD.out.2.2.trans (b7.mono HD.out.2.2.size)
                clear hvw hb b7
                go_wp2
                go_ret
                exact ⟨rfl, HE.out⟩

set_option maxRecDepth 100000 in
theorem lifted (os : Os) (started : os.Started) (H : Type) (enc : TypeId × Value → H) :
    ReturnsInHanded {} Try.checked os 8 .any (Rows.judgePartsSpec.pre6 enc Try.prog Try.f8 Rows.judgePartsRow.domain false) (Rows.judgePartsSpec.post enc Try.prog Try.f8 false true false false) := by
  refine returnsInHanded_of_change_sized (C := Try.checked) own started (by kernel_rfl) Try.func8
    (ChangeSpec.witness6 (enc := enc) (C := Try.checked) false ⟨#[], #[.int .u8 0, .slice none 0 0, .int .u8 0], []⟩ 12 (by kernel_rfl) (by kernel_rfl) (by kernel_rfl) (by kernel_rfl)) ?_
  intro W base args ds gs before hval0 hW hcnd hsz0 _
  have hsz : (DataW.weightsEach Try.prog (Try.f8.params.toList ++ Rows.judgePartsSpec.plain.varTypes Try.prog) (ds ++ gs)).all (· ≤ reachBytes) = true := hsz0
  have hval : ∀ (j : Nat) t v, Try.f8.params[j]? = some t → args[j]? = some v → Value.okWide Try.prog W .any base t v := hval0
  have hW' := hW
  obtain ⟨p, q, hA0, hV, rfl, hfz, hnd⟩ := hW
  have hA : DataW.TrodAll enc Try.prog W 0 (fun _ => true) true Try.f8.params.toList args.toList ds p := hA0
  rw [Try.params8] at hA hval hsz
  obtain ⟨v0, vs0, d0, ds0, p0, q0, hargs0, rfl, rfl, h0, r0⟩ := trodAll_cons hA
  obtain ⟨v1, vs1, d1, ds1, p1, q1, hargs1, rfl, rfl, h1, r1⟩ := trodAll_cons r0
  obtain ⟨v2, vs2, d2, ds2, p2, q2, hargs2, rfl, rfl, h2, r2⟩ := trodAll_cons r1
  obtain ⟨rfl, rfl, rfl⟩ := trodAll_nil r2
  obtain rfl : args = #[v0, v1, v2] := by cases args; simp_all
  obtain ⟨rfl, rfl⟩ := trodVars_none hV
  obtain ⟨a0, rfl, rfl, rfl, w0⟩ := open_int Try.underlying5 (hval 0 5 v0 rfl rfl) h0
  obtain ⟨a1, len1, cap1, rfl⟩ := okWide_slice Try.underlying38 (hval 1 38 v1 rfl rfl)
  have k1 := h1
  have lt1 : ∀ x ∈ p1, x.block < W.heap.size := by obtain ⟨m, hm⟩ := k1; exact DataW.trod_lt m _ _ _ hm
  obtain ⟨xs1, hx1, hc1⟩ := open_runs h1 (fits_of hsz (j := 1) rfl rfl)
  obtain ⟨a2, rfl, rfl, rfl, w2⟩ := open_int Try.underlying5 (hval 2 5 v2 rfl rfl) h2
  clear hA0 hval0 hsz hsz0
  obtain ⟨n0, rfl, hn0⟩ := u8_of_wf w0
  obtain ⟨n2, rfl, hn2⟩ := u8_of_wf w2
  refine (walk W n0 hn0 a1 len1 cap1 xs1 hx1 hc1 n2 hn2).mono fun e W' ⟨he, bel⟩ => ?_
  subst he
  exact ⟨_, rfl, _, _, _, [], _, [], hW', trodAll_mk1 (shut_bool Try.underlying4 _), (trodAll_cons_mk (shut_int Try.underlying5 w0) (trodAll_cons_mk (Below.trod laidOut (by kernel_rfl) (of_decide_eq_true (by kernel_rfl)) k1 bel lt1) (trodAll_cons_mk (shut_int Try.underlying5 w2) trodAll_mk0))), rfl, bel.frame _, fun h => by cases h⟩

theorem over : Rows.judgePartsRow.holds Try.pinned (OpenSpec.ofChange Rows.judgePartsSpec) :=
  OpenClaim.holds_of_wide 8 Try.f8 rfl rfl rfl rfl rfl rfl rfl ⟨rfl, rfl, rfl, rfl, rfl⟩ rfl rfl rfl rfl rfl (by kernel_rfl) Try.func8 (by kernel_rfl)
    (of_decide_eq_true (by kernel_rfl)) (by unfold Func.isWrapper; first | (rw [if_pos (by decide +kernel)]; kernel_rfl) | (rw [if_neg (by decide +kernel)]; exact ⟨rfl, rfl⟩))
    (fun os started H enc _ => lifted os started H enc)

end Go.Proofs.Ythnbijnpbjfoaaa.judgeParts
namespace Go.Proofs.Ythnbijnpbjfoaaa
theorem judgeParts_holds : Rows.JudgePartsSaid := judgeParts.over
#print axioms judgeParts_holds
end Go.Proofs.Ythnbijnpbjfoaaa
