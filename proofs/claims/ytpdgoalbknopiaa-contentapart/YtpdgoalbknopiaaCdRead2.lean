/-
  Contracts of the reader of package code, more: NewReader, Int, Bytes.
-/
import Derived.Test.YtpdgoalbknopiaaCdRead
namespace Go.Proofs.Ytpdgoalbknopiaa.Cd
open Go.RowKit
set_option linter.unusedVariables false

theorem owns_row {w : World} {B : Nat} {v : Value} {n : Nat} {xs : List UInt8} (h : w.ownsRow B 5 1 v n (xs.map by8)) : ∃ ao cap, v = .slice ao n cap ∧ Row w ao n cap xs ∧ ∀ a, ao = some a → B ≤ a.block := by
  have hl : xs.length = n := by simpa using h.1
  rcases h.2 with ⟨rfl, rfl⟩ | ⟨g, cap, cur, rfl, hb, hg, hn, hc, hs, ht⟩
  · exact ⟨none, 0, rfl, ⟨hl, Nat.le_refl _, by unfold maxLen; omega, fun _ => ⟨rfl, rfl⟩, fun a ha => (by cases ha)⟩, fun a ha => (by cases ha)⟩
  · refine ⟨_, cap, rfl, ⟨hl, hn, hc, fun e => (by cases e), fun a ha i hi => ?_⟩, fun a ha => (by cases ha; exact hb)⟩
    cases ha
    have := World.ownsRow.cells h (g := g) rfl i (by8 (xs.getD i 0)) (by simp [List.getElem?_eq_getElem (show i < xs.length by omega)])
    exact this

theorem owns_lt {w : World} {B n cap : Nat} {ao : Option Addr} {xs : List Value} (h : w.ownsRow B 5 1 (.slice ao n cap) n xs) : ∀ a, ao = some a → a.block < w.heap.size := by
  intro a ha
  rcases h.2 with ⟨h0, _⟩ | ⟨g, cap', cur, h0, hb, hg, _⟩
  · cases h0; cases ha
  · subst ha
    simp only [Value.slice.injEq, Option.some.injEq] at h0
    rw [h0.1]
    exact (Array.getElem?_eq_some_iff.1 hg).1
theorem reader_at {w w1 : World} {B : Nat} {v : Value} {n : Nat} {xs : List UInt8} (hb : Below B w w1) (hs : w.heap.size ≤ w1.heap.size) (hB : B ≤ w1.heap.size) (hown : w1.ownsRow B 5 1 v n (xs.map by8)) :
    Rd (w1.alloc (.cells #[v, .bool false] 78)) w1.heap.size (some xs) ∧ Below B w (w1.alloc (.cells #[v, .bool false] 78)) := by
  obtain ⟨ao, cap, rfl, hrow, _⟩ := owns_row hown
  exact ⟨⟨ao, n, cap, heap_alloc_new _ _, hrow.below ((Below.refl _ _).alloc (Nat.le_refl _) _) (Nat.le_refl _), owns_lt hown⟩, hb.alloc hB _⟩

set_option maxHeartbeats 400000 in
theorem newReader_any (w : World) (ao : Option Addr) (n cap : Nat) (xs : List UInt8) (h : Row w ao n cap xs) (hr : n ≤ 140737488355328) :
    Calls Try.prog 22 #[.slice ao n cap] w fun e w' => ∃ r, e = .returned (.pointer (some ⟨r, 0, none⟩)) ∧ w.heap.size ≤ r ∧ Rd w' r (some xs) ∧ Below w.heap.size w w' := by
  obtain ⟨i0, hi, hz0, hz1, hz2⟩ := info_parts Try.info5
  have HR : Hid (Row w ao n cap xs) := h
  obtain ⟨hlen, hle, hm, hnone, _⟩ := h
  cases ao with
  | none =>
    obtain ⟨rfl, rfl⟩ := hnone rfl
    go_enter Try.func22, Try.ntmps22
    go_wp2
    go_ret
    have hx : xs = [] := List.eq_nil_of_length_eq_zero hlen
    subst hx
    exact ⟨_, rfl, Nat.le_refl _, reader_at (Below.refl _ _) (Nat.le_refl _) (Nat.le_refl _) (World.ownsRow_nil _ _ _ _)⟩
  | some a =>
    go_enter Try.func22, Try.ntmps22
    go_wp2_with (first | (at_builtin; refine wpList_append_own _ rfl _ _ 27 rfl w.heap.size 5 i0 (.int .u8 0) 1 1 Try.underlying27 hi hz0 hz1 hz2 rfl (by decide) (.slice none 0 0) 0 [] rfl (World.ownsRow_nil _ _ _ _) a n cap (xs.map by8) rfl ?f2 ?f3 ?f4 ?f6 ?f7 ?f8 ?_))
    case f2 => simp [hlen]
    case f3 => exact HR.out.olds a rfl
    case f4 => exact by8_one xs
    case f6 => unfold maxLen; omega
    case f7 => omega
    case f8 => omega
    · intro v' w1 hown1 hgrow1 _
      have hb : Below w.heap.size w w1 := (Below.refl _ _).grown hgrow1 (Nat.le_refl _) (fun k hk => by simp [Value.ownBlock] at hk)
      have hs := hb.size
      have R := reader_at hb hs hs hown1
      obtain ⟨ao', cap', hv, _, _⟩ := owns_row hown1
      rw [hv] at R ⊢
      clear hown1 hgrow1 hv
      go_wp2
      go_ret
      exact ⟨_, rfl, hs, R⟩

theorem fail_rd (w : World) (r : Nat) (ys : List UInt8) (h : Rd w r (some ys)) : Calls Try.prog 49 #[.pointer (some ⟨r, 0, none⟩)] w fun e w' => e = .returned (.tuple #[]) ∧ Rd w' r none ∧ w.grownBy w' (some r) := by
  obtain ⟨ao, n, cap, hr, hrow, hbl⟩ := h
  obtain ⟨c0, c1, f0, f1⟩ := rd_cell0 hr
  refine (fail_any w r _ _ c0 c1 f0 f1).mono ?_
  rintro e w' ⟨rfl, rfl⟩
  exact ⟨rfl, failed_rd hr⟩

set_option maxHeartbeats 400000 in
theorem rint_nil (w : World) (m : Int) : Calls Try.prog 23 #[.pointer none, .int .i64 m] w fun e w' => e = .returned (.int .i64 0) ∧ w = w' := by
  go_enter Try.func23, Try.ntmps23
  go_wp2_with (first | (go_at_call 48; refine (ruint_nil _).mono ?_; rintro e w' ⟨rfl, rfl⟩) | (go_at_call 26; refine (bad_nil _).mono ?_; rintro e w' ⟨rfl, rfl⟩))
  go_ret
  exact ⟨rfl, rfl⟩
set_option maxHeartbeats 400000 in
theorem rbytes_nil (w : World) (m : Int) : Calls Try.prog 51 #[.pointer none, .int .i64 m] w fun e w' => e = .returned (.slice none 0 0) ∧ w = w' := by
  go_enter Try.func51, Try.ntmps51
  go_wp2_with (first | (go_at_call 23; refine (rint_nil _ _).mono ?_; rintro e w' ⟨rfl, rfl⟩) | (go_at_call 26; refine (bad_nil _).mono ?_; rintro e w' ⟨rfl, rfl⟩))
  go_ret
  exact ⟨rfl, rfl⟩

theorem rUint_lt (st : Option (List UInt8)) : (rUint st).1 < 18446744073709551616 := by
  cases st with
  | none => simp [rUint]
  | some xs =>
    cases hrd : rd xs with
    | none => simp [rUint, hrd]
    | some p => obtain ⟨n, s⟩ := p; simpa [rUint, hrd] using rd_lt hrd

set_option maxHeartbeats 1000000 in
theorem int_rd (w : World) (r : Nat) (st : Option (List UInt8)) (h : Rd w r st) (m : Int) (hm1 : -9223372036854775808 ≤ m) (hm2 : m ≤ 9223372036854775807) :
    Calls Try.prog 23 #[.pointer (some ⟨r, 0, none⟩), .int .i64 m] w fun e w' => e = .returned (.int .i64 ((rInt st m).1 : Nat)) ∧ Rd w' r (rInt st m).2 ∧ w.grownBy w' (some r) := by
  have hu := uint_rd w r st h
  have hlt := rUint_lt st
  generalize hN : (rUint st).1 = N at *
  cases hst : (rUint st).2 with
  | none =>
    rw [hst] at hu
    have e1 : rInt st m = (0, none) := by simp [rInt, hst]
    rw [e1]
    clear e1 hst hN
    go_enter Try.func23, Try.ntmps23
    go_wp2_with (first | (go_at_call 48; refine hu.mono ?_; rintro e w' ⟨rfl, hrd, hg⟩) | (go_at_call 26; refine (bad_rd _ _ _ hrd).mono ?_; rintro e w' ⟨rfl, rfl⟩))
    go_ret
    exact ⟨rfl, hrd, hg⟩
  | some ys =>
    rw [hst] at hu
    by_cases hb : m < 0 ∨ m < (N : Int)
    · have e1 : rInt st m = (0, none) := by simp only [rInt, hst, hN]; rw [if_pos hb]
      rw [e1]
      clear e1 hst hN
      by_cases hm0 : m < 0
      · go_enter Try.func23, Try.ntmps23
        go_wp2_with (first | (go_at_call 48; refine hu.mono ?_; rintro e w' ⟨rfl, hrd, hg⟩) | (go_at_call 26; refine (bad_rd _ _ _ hrd).mono ?_; rintro e w' ⟨rfl, rfl⟩) | (go_at_call 49; refine (fail_rd _ _ _ hrd).mono ?_; rintro e w'' ⟨rfl, hrd2, hg2⟩))
        go_ret
        exact ⟨rfl, hrd2, grown_trans hg hg2⟩
      · have hm3 : m < (N : Int) := by omega
        have hm4 : 0 ≤ m := by omega
        go_enter Try.func23, Try.ntmps23
        go_wp2_with (first | (go_at_call 48; refine hu.mono ?_; rintro e w' ⟨rfl, hrd, hg⟩) | (go_at_call 26; refine (bad_rd _ _ _ hrd).mono ?_; rintro e w' ⟨rfl, rfl⟩) | (go_at_call 49; refine (fail_rd _ _ _ hrd).mono ?_; rintro e w'' ⟨rfl, hrd2, hg2⟩))
        go_ret
        exact ⟨rfl, hrd2, grown_trans hg hg2⟩
    · have e1 : rInt st m = (N, some ys) := by simp only [rInt, hst, hN]; rw [if_neg hb]
      rw [e1]
      clear e1 hst hN
      have hm0 : 0 ≤ m := by omega
      have hNm : (N : Int) ≤ m := by omega
      go_enter Try.func23, Try.ntmps23
      go_wp2_with (first | (go_at_call 48; refine hu.mono ?_; rintro e w' ⟨rfl, hrd, hg⟩) | (go_at_call 26; refine (bad_rd _ _ _ hrd).mono ?_; rintro e w' ⟨rfl, rfl⟩))
      go_ret
      exact ⟨rfl, hrd, hg⟩

theorem rInt_le (st : Option (List UInt8)) (m : Int) (ys : List UInt8) (h : (rInt st m).2 = some ys) : 0 ≤ m ∧ ((rInt st m).1 : Int) ≤ m := by
  unfold rInt at h ⊢
  cases hst : (rUint st).2 with
  | none => simp [hst] at h
  | some zs =>
    simp only [hst] at h ⊢
    split at h
    · simp at h
    · rename_i hn
      rw [if_neg hn]
      simp only
      omega

theorem rUint_len (st : Option (List UInt8)) (ys : List UInt8) (h : (rUint st).2 = some ys) : ∃ xs, st = some xs ∧ ys.length ≤ xs.length := by
  cases st with
  | none => simp [rUint] at h
  | some xs =>
    refine ⟨xs, rfl, ?_⟩
    unfold rUint at h
    cases hrd : rd xs with
    | none => simp [hrd] at h
    | some p => obtain ⟨n, s⟩ := p; simp [hrd] at h; subst h; simp
theorem rInt_len (st : Option (List UInt8)) (m : Int) (ys : List UInt8) (h : (rInt st m).2 = some ys) : ∃ xs, st = some xs ∧ ys.length ≤ xs.length := by
  unfold rInt at h
  cases hst : (rUint st).2 with
  | none => simp [hst] at h
  | some zs =>
    simp only [hst] at h
    split at h
    · simp at h
    · simp at h; subst h; exact rUint_len st _ hst
theorem Row.take {w : World} {ao : Option Addr} {n cap : Nat} {xs : List UInt8} (h : Row w ao n cap xs) (k : Nat) (hk : k ≤ n) : Row w ao k k (xs.take k) := by
  obtain ⟨h1, h2, h3, h4, h5⟩ := h
  refine ⟨by simp; omega, Nat.le_refl _, by omega, fun e => by have := (h4 e).1; omega, fun a ha i hi => ?_⟩
  rw [h5 a ha i (by omega)]
  simp [hi]

theorem row_empty {w : World} (a : Addr) {n : Nat} {xs : List UInt8} (h : xs.length = n) (hn : n = 0) : Row w (some a) n 0 xs := by
  subst hn
  exact ⟨h, Nat.le_refl _, by unfold maxLen; omega, fun e => (by cases e), fun a _ i hi => absurd hi (by omega)⟩
theorem Row.drop_at {w : World} {b off n cap : Nat} {xs : List UInt8} (h : Row w (some ⟨b, off, none⟩) n cap xs) (s : Nat) (hs : s ≤ n) : Row w (some ⟨b, off + s, none⟩) (n - s) (cap - s) (xs.drop s) := by
  obtain ⟨g1, g2, g3, g4, g5⟩ := h
  refine ⟨by simp; omega, by omega, by unfold maxLen at g3 ⊢; omega, fun e => (by cases e), fun a ha i hi => ?_⟩
  cases ha
  have := g5 _ rfl (s + i) (by omega)
  rw [Addr.add_lit] at this ⊢
  rw [show off + s + i = off + (s + i) by omega, this]
  simp [List.getElem?_drop]

theorem grown_none {a b : World} (r : Option Nat) (h : a.grownBy b none) : a.grownBy b r := ⟨h.os, h.tape, h.output, h.size, fun k hk _ => h.block k hk (by simp)⟩
theorem bytes_step {w w' w1 : World} {r n cap N : Nat} {ao : Option Addr} {ys : List UInt8} (hr : w'.heap[r]? = some (.cells #[.slice ao n cap, .bool false] 78 (0, 0))) (hrow : Row w' ao n cap ys) (hN : N ≤ n) (hg : w.grownBy w' (some r))
    {ao2 : Option Addr} {cap2 : Nat} (hbl2 : ∀ a, ao2 = some a → a.block < r) (hrow2 : Row w' ao2 (n - N) cap2 (ys.drop N)) {v' : Value} (hown1 : w1.ownsRow w.heap.size 5 1 v' N ((ys.take N).map by8))
    (hgrow1 : (w'.setCell ⟨r, 0, none⟩ (.slice ao2 (n - N) cap2)).grownBy w1 none) :
    w1.ownsRow w.heap.size 5 1 v' (ys.take N).length ((ys.take N).map by8) ∧ Rd w1 r (some (ys.drop N)) ∧ w.grownBy w1 (some r) := by
  have hs := heap_setCell_same w' r 0 _ 78 (.slice ao2 (n - N) cap2) hr
  have hlt : r < (w'.setCell ⟨r, 0, none⟩ (.slice ao2 (n - N) cap2)).heap.size := (Array.getElem?_eq_some_iff.1 hs).1
  refine ⟨?_, ⟨ao2, n - N, cap2, ?_, ?_, hbl2⟩, grown_trans hg (grown_trans (set_grown _) (grown_none _ hgrow1))⟩
  · rw [show (ys.take N).length = N by have := hrow.1; simp; omega]
    exact hown1
  · rw [hgrow1.block r hlt (by simp), hs]
    rfl
  · exact hrow2.kept hr (grown_trans (set_grown _) (grown_none _ hgrow1))

set_option maxHeartbeats 1000000 in
set_option maxRecDepth 10000 in
theorem bytes_rd (w : World) (r : Nat) (st : Option (List UInt8)) (h : Rd w r st) (m : Int) (hm1 : -9223372036854775808 ≤ m) (hm2 : m ≤ 9223372036854775807) (hl : ∀ xs, st = some xs → xs.length ≤ 140737488355328) :
    Calls Try.prog 51 #[.pointer (some ⟨r, 0, none⟩), .int .i64 m] w fun e w' => ∃ v, e = .returned v ∧ w'.ownsRow w.heap.size 5 1 v (rBytes st m).1.length ((rBytes st m).1.map by8) ∧ Rd w' r (rBytes st m).2 ∧ w.grownBy w' (some r) := by
  have hi := int_rd w r st h m hm1 hm2
  have hil := rInt_le st m
  generalize hN : (rInt st m).1 = N at *
  cases hst : (rInt st m).2 with
  | none =>
    rw [hst] at hi
    have e1 : rBytes st m = ([], none) := by simp [rBytes, hst]
    rw [e1]
    clear e1 hst hN hil
    go_enter Try.func51, Try.ntmps51
    go_wp2_with (first | (go_at_call 23; refine hi.mono ?_; rintro e w' ⟨rfl, hrd, hg⟩) | (go_at_call 26; refine (bad_rd _ _ _ hrd).mono ?_; rintro e w' ⟨rfl, rfl⟩))
    go_ret
    exact ⟨_, rfl, World.ownsRow_nil _ _ _ _, hrd, hg⟩
  | some ys =>
    rw [hst] at hi
    have hNm := hil ys hst
    have hyl : ys.length ≤ 140737488355328 := by obtain ⟨xs, e, h1⟩ := rInt_len st m ys hst; have := hl xs e; omega
    by_cases hb : ys.length < N
    · have e1 : rBytes st m = ([], none) := by simp only [rBytes, hst, hN]; rw [if_pos hb]
      rw [e1]
      clear e1 hst hN hil
      go_enter Try.func51, Try.ntmps51
      go_wp2_with (first | (go_at_call 23; refine hi.mono ?_; rintro e w' ⟨rfl, hrd, hg⟩) | (go_at_call 26; refine (bad_rd _ _ _ hrd).mono ?_; rintro e w' ⟨rfl, rfl⟩; obtain ⟨ao, n, cap, hr, hrow, hbl⟩ := id hrd; obtain ⟨c0, c1, f0, f1⟩ := rd_cell0 hr; have hyn := hrow.1; have hcm := hrow.2.1; have hcx := hrow.2.2.1) | (go_at_call 49; refine (fail_rd _ _ _ hrd).mono ?_; rintro e w'' ⟨rfl, hrd2, hg2⟩))
      go_ret
      exact ⟨_, rfl, World.ownsRow_nil _ _ _ _, hrd2, grown_trans hg hg2⟩
    · have e1 : rBytes st m = (ys.take N, some (ys.drop N)) := by simp only [rBytes, hst, hN]; rw [if_neg hb]
      rw [e1]
      clear e1 hst hN hil
      obtain ⟨i0, hi0, hz0, hz1, hz2⟩ := info_parts Try.info5
      go_enter Try.func51, Try.ntmps51
      go_wp2_with (first | (go_at_call 23; refine hi.mono ?_; rintro e w' ⟨rfl, hrd, hg⟩))
      obtain ⟨ao, n, cap, hr, hrow, hbl⟩ := id hrd
      obtain ⟨c0, c1, f0, f1⟩ := rd_cell0 hr
      have hyn := hrow.1
      have hcm := hrow.2.1
      have hcx := hrow.2.2.1
      unfold maxLen at hcx
      have hgs := hg.size
      cases ao with
      | none =>
        obtain ⟨rfl, rfl⟩ := hrow.2.2.2.1 rfl
        have hN0 : N = 0 := by omega
        subst hN0
        go_wp2_with (first | (go_at_call 26; refine (bad_rd _ _ _ hrd).mono ?_; rintro e w' ⟨rfl, rfl⟩))
        go_ret
        refine ⟨_, rfl, World.ownsRow_nil _ _ _ _, ⟨none, 0, 0, ?_, by simpa using hrow.kept hr (set_grown _), fun a e => by cases e⟩, grown_trans hg (set_grown _)⟩
        rw [heap_setCell_same w' r 0 _ 78 _ hr]
        rfl
      | some a =>
        by_cases hn0 : n = 0
        · subst hn0
          have hN0 : N = 0 := by omega
          subst hN0
          go_wp2_with (first | (go_at_call 26; refine (bad_rd _ _ _ hrd).mono ?_; rintro e w' ⟨rfl, rfl⟩) | (at_builtin; refine wpList_append_own _ rfl _ _ 27 rfl w.heap.size 5 i0 (.int .u8 0) 1 1 Try.underlying27 hi0 hz0 hz1 hz2 rfl (by decide) (.slice none 0 0) 0 [] rfl (World.ownsRow_nil _ _ _ _) a 0 0 ((ys.take 0).map by8) rfl ?a2 ?a3 ?a4 ?a6 ?a7 ?a8 ?_))
          case a2 => first | (simp; done) | (simp; omega)
          case a3 => exact ((hrow.take 0 (by omega)).kept hr (set_grown _)).olds _ rfl
          case a4 => exact by8_one _
          case a6 => unfold maxLen; omega
          case a7 => omega
          case a8 => simp; omega
          · intro v' w1 hown1 hgrow1 _
            have R := bytes_step (hbl2 := fun a' e => by cases e; have hb9 := hbl _ rfl; exact hb9) (N := 0) hr hrow (by omega) hg (ao2 := some a) (cap2 := cap) (by simpa using hrow) (by simpa using hown1) hgrow1
            clear hown1 hgrow1
            go_wp2
            go_ret
            exact ⟨_, rfl, R⟩
        · obtain ⟨b, off, hab, _⟩ := hrow.open (by omega)
          cases hab
          by_cases hN0 : N = 0
          · subst hN0
            go_wp2_with (first | (go_at_call 26; refine (bad_rd _ _ _ hrd).mono ?_; rintro e w' ⟨rfl, rfl⟩) | (at_builtin; refine wpList_append_own _ rfl _ _ 27 rfl w.heap.size 5 i0 (.int .u8 0) 1 1 Try.underlying27 hi0 hz0 hz1 hz2 rfl (by decide) (.slice none 0 0) 0 [] rfl (World.ownsRow_nil _ _ _ _) ⟨b, off, none⟩ 0 0 ((ys.take 0).map by8) rfl ?b2 ?b3 ?b4 ?b6 ?b7 ?b8 ?_))
            case b2 => first | (simp; done) | (simp; omega)
            case b3 => exact ((hrow.take 0 (by omega)).kept hr (set_grown _)).olds _ rfl
            case b4 => exact by8_one _
            case b6 => unfold maxLen; omega
            case b7 => omega
            case b8 => simp; omega
            · intro v' w1 hown1 hgrow1 _
              have R := bytes_step (hbl2 := fun a' e => by cases e; have hb9 := hbl _ rfl; exact hb9) (N := 0) hr hrow (by omega) hg (ao2 := some ⟨b, off, none⟩) (cap2 := cap) (by simpa using hrow) (by simpa using hown1) hgrow1
              clear hown1 hgrow1
              go_wp2
              go_ret
              exact ⟨_, rfl, R⟩
          · by_cases hcN : cap = N
            · subst hcN
              go_wp2_with (first | (go_at_call 26; refine (bad_rd _ _ _ hrd).mono ?_; rintro e w' ⟨rfl, rfl⟩) | (at_builtin; refine wpList_append_own _ rfl _ _ 27 rfl w.heap.size 5 i0 (.int .u8 0) 1 1 Try.underlying27 hi0 hz0 hz1 hz2 rfl (by decide) (.slice none 0 0) 0 [] rfl (World.ownsRow_nil _ _ _ _) ⟨b, off, none⟩ cap cap ((ys.take cap).map by8) rfl ?c2 ?c3 ?c4 ?c6 ?c7 ?c8 ?_))
              case c2 => first | (simp; done) | (simp; omega)
              case c3 => exact ((hrow.take cap (by omega)).kept hr (set_grown _)).olds _ rfl
              case c4 => exact by8_one _
              case c6 => unfold maxLen; omega
              case c7 => omega
              case c8 => simp; omega
              · intro v' w1 hown1 hgrow1 _
                have R := bytes_step (hbl2 := fun a' e => by cases e; have hb9 := hbl _ rfl; exact hb9) (N := cap) hr hrow (by omega) hg (ao2 := some ⟨b, off, none⟩) (cap2 := 0) (row_empty _ (by simp; omega) (by omega)) (by simpa using hown1) (by rw [show n - cap = 0 by omega]; exact hgrow1)
                clear hown1 hgrow1
                go_wp2
                go_ret
                exact ⟨_, rfl, R⟩
            · have hNc : N < cap := by omega
              go_wp2_with (first | (go_at_call 26; refine (bad_rd _ _ _ hrd).mono ?_; rintro e w' ⟨rfl, rfl⟩) | (at_builtin; refine wpList_append_own _ rfl _ _ 27 rfl w.heap.size 5 i0 (.int .u8 0) 1 1 Try.underlying27 hi0 hz0 hz1 hz2 rfl (by decide) (.slice none 0 0) 0 [] rfl (World.ownsRow_nil _ _ _ _) ⟨b, off, none⟩ N N ((ys.take N).map by8) rfl ?d2 ?d3 ?d4 ?d6 ?d7 ?d8 ?_))
              case d2 => first | (simp; done) | (simp; omega)
              case d3 => exact ((hrow.take N (by omega)).kept hr (set_grown _)).olds _ rfl
              case d4 => exact by8_one _
              case d6 => unfold maxLen; omega
              case d7 => omega
              case d8 => simp; omega
              · intro v' w1 hown1 hgrow1 _
                have R := bytes_step (hbl2 := fun a' e => by cases e; have hb9 := hbl _ rfl; exact hb9) (N := N) hr hrow (by omega) hg (hrow.drop_at N (by omega)) (by simpa using hown1) hgrow1
                clear hown1 hgrow1
                go_wp2
                go_ret
                exact ⟨_, rfl, R⟩

end Go.Proofs.Ytpdgoalbknopiaa.Cd
