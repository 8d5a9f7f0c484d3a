/-
  Sets of nodes (package ident): a set with a node, without it; is a node in it; its list; the document's answer.
-/
import Derived.Test.YthnbijnpbjfoaaaJAll1
namespace Go.Proofs.Ythnbijnpbjfoaaa
open Go.RowKit
set_option linter.unusedVariables false

/-- How many of the first f bits are 1. -/
def cntF : Nat → Nat → Nat
  | 0, _ => 0
  | f + 1, n => n % 2 + cntF f (n / 2)

theorem cntF_zero : ∀ f, cntF f 0 = 0
  | 0 => rfl
  | f + 1 => by simp [cntF, cntF_zero f]
theorem cntF_add : ∀ a b n, cntF (a + b) n = cntF a n + cntF b (n / 2 ^ a)
  | 0, b, n => by simp [cntF]
  | a + 1, b, n => by
    rw [Nat.add_right_comm, cntF, cntF, cntF_add a b (n / 2), Nat.div_div_eq_div_mul, Nat.pow_succ, Nat.mul_comm 2]
    omega
theorem cntF_mod : ∀ a n, cntF a (n % 2 ^ a) = cntF a n
  | 0, n => rfl
  | a + 1, n => by
    have h1 : n % 2 ^ (a + 1) % 2 = n % 2 := by rw [Nat.pow_succ, Nat.mul_comm]; exact Nat.mod_mul_right_mod n 2 (2 ^ a)
    have h2 : n % 2 ^ (a + 1) / 2 = n / 2 % 2 ^ a := by rw [Nat.pow_succ, Nat.mul_comm]; exact Nat.mod_mul_right_div_self n 2 (2 ^ a)
    rw [cntF, cntF, h1, h2, cntF_mod a (n / 2)]
theorem cntF_split (n : Nat) : cntF 16 n = cntF 8 (n / 256) + cntF 8 (n % 256) := by
  have h1 : cntF 16 n = cntF 8 n + cntF 8 (n / 256) := cntF_add 8 8 n
  have h2 : cntF 8 (n % 256) = cntF 8 n := cntF_mod 8 n
  omega
theorem cntF_le : ∀ f n, cntF f n ≤ f
  | 0, n => Nat.le_refl _
  | f + 1, n => by have := cntF_le f (n / 2); rw [cntF]; omega
theorem cntF_small : ∀ f k n, n < 2 ^ k → cntF f n ≤ k
  | 0, k, n, _ => by simp [cntF]
  | f + 1, 0, n, h => by have : n = 0 := by simpa using h
                         subst this; rw [cntF_zero]; exact Nat.le_refl _
  | f + 1, k + 1, n, h => by
    have := cntF_small f k (n / 2) (by rw [Nat.pow_succ] at h; omega)
    rw [cntF]; omega
theorem cntF_and_or : ∀ f x y, cntF f (x &&& y) + cntF f (x ||| y) = cntF f x + cntF f y
  | 0, x, y => rfl
  | f + 1, x, y => by
    have h := cntF_and_or f (x / 2) (y / 2)
    have ha : (x &&& y) / 2 = x / 2 &&& y / 2 := Nat.and_div_two
    have ho : (x ||| y) / 2 = x / 2 ||| y / 2 := Nat.or_div_two
    have hm : (x &&& y) % 2 + (x ||| y) % 2 = x % 2 + y % 2 := by
      have e1 : (x &&& y) % 2 = (x % 2) &&& (y % 2) := by have := Nat.and_mod_two_pow (a := x) (b := y) (n := 1); simpa using this
      have e2 : (x ||| y) % 2 = (x % 2) ||| (y % 2) := by have := Nat.or_mod_two_pow (a := x) (b := y) (n := 1); simpa using this
      rw [e1, e2]
      rcases Nat.mod_two_eq_zero_or_one x with hx | hx <;> rcases Nat.mod_two_eq_zero_or_one y with hy | hy <;> rw [hx, hy] <;> rfl
    rw [cntF, cntF, cntF, cntF, ha, ho]
    omega
theorem cntF_disj (f x y : Nat) (h : x &&& y = 0) : cntF f (x ||| y) = cntF f x + cntF f y := by
  have := cntF_and_or f x y
  rw [h, cntF_zero] at this
  omega
theorem cntF_ones : ∀ f k, k ≤ f → cntF f (2 ^ k - 1) = k
  | f, 0, _ => by simp [cntF_zero]
  | 0, k + 1, h => by omega
  | f + 1, k + 1, h => by
    have h1 : (2 ^ (k + 1) - 1) % 2 = 1 := by have := Nat.one_le_two_pow (n := k); rw [Nat.pow_succ]; omega
    have h2 : (2 ^ (k + 1) - 1) / 2 = 2 ^ k - 1 := by have := Nat.one_le_two_pow (n := k); rw [Nat.pow_succ]; omega
    rw [cntF, h1, h2, cntF_ones f k (by omega)]
    omega

/-- The nodes of a set below k, rising. -/
def nodes (s : Nat) (k : Nat) : List Nat := (List.range k).filter (fun i => s.testBit i)
theorem nodes_succ (s k : Nat) : nodes s (k + 1) = nodes s k ++ (if s.testBit k then [k] else []) := by
  simp only [nodes, List.range_succ, List.filter_append]
  congr 1
  by_cases h : s.testBit k <;> simp [h]
theorem nodes_len : ∀ k s, (nodes s k).length = cntF k s
  | 0, s => rfl
  | k + 1, s => by
    rw [nodes_succ, List.length_append, nodes_len k s]
    have h := cntF_add k 1 s
    rw [h]
    congr 1
    show _ = s / 2 ^ k % 2 + 0
    rw [Nat.testBit_eq_decide_div_mod_eq]
    rcases Nat.mod_two_eq_zero_or_one (s / 2 ^ k) with e | e <;> simp [e]
/-- How many bits each byte has. -/
def tab : ByteArray := ⟨((List.range 256).map (fun k => UInt8.ofNat (cntF 8 k))).toArray⟩
theorem tab_all : ∀ i : Fin 256, (tab.data[i.val]?).map UInt8.toNat = some (cntF 8 i.val) := by decide +kernel
theorem tab_at {T : ByteArray} (hT : T = tab) {i : Nat} (h : i < T.size) (k : Nat) (e : i = k) (hk : k < 256) : T[i].toNat = cntF 8 k := by
  subst hT
  subst e
  have ha := tab_all ⟨i, hk⟩
  have hs : i < tab.data.size := h
  simp only [Array.getElem?_eq_getElem hs, Option.map_some, Option.some.injEq] at ha
  exact ha

set_option maxRecDepth 10000 in
theorem ones_any (w : World) (s : Nat) (hs : s < 65536) : Calls Try.prog 83 #[.int .u16 (s : Nat)] w fun e w' => e = .returned (.int .i64 (cntF 16 s : Nat)) ∧ ∃ q, w' = w.drewN q := by
  have ha : bits .and .u16 (s : Int) 255 = ((s % 256 : Nat) : Int) := by
    have := u16_and_nat s 255 hs (by omega)
    rw [show s &&& 255 = s % 256 by exact Nat.and_two_pow_sub_one_eq_mod s 8] at this
    exact this
  have hl1 := cntF_le 8 (s / 256)
  have hl2 := cntF_le 8 (s % 256)
  have HS : Hid (cntF 16 s = cntF 8 (s / 256) + cntF 8 (s % 256)) := cntF_split s
  go_enter Try.func83, Try.ntmps83
  go_wp2_with fail
  refine wp_region_noPanic ?_
  refine wp_region_held_drew (S := fun wx => True) (by kernel_rfl) trivial (fun hHeld => ?_)
  refine take_first 0 (v := ?_) rfl (by kernel_rfl) (by kernel_rfl) (by kernel_rfl) (fun _ _ _ h => h) (Or.inl ⟨by rfl, by intro wx hSw; go_simp; try with_reducible rfl⟩) trivial ?_
  (try simp only [Act.put, List.setIfInBounds_toArray, List.set_cons_zero, List.set_cons_succ])
  refine take_first 1 (v := .int .u16 ((s / 256 : Nat) : Int)) rfl (by kernel_rfl) (by kernel_rfl) (by kernel_rfl) (fun _ _ _ h => h) (Or.inl ⟨by rfl, by intro wx hSw; go_simp⟩) trivial ?_
  (try simp only [Act.put, List.setIfInBounds_toArray, List.set_cons_zero, List.set_cons_succ])
  refine take_first 2 (v := .int .u8 ((cntF 8 (s / 256) : Nat) : Int)) rfl (by kernel_rfl) (by kernel_rfl) (by kernel_rfl) (fun _ _ _ h => h) (Or.inl ⟨by rfl, by
    intro wx hSw
    go_simp
    rw [dif_pos (by omega), Result.andThen_ok, tab_at (by kernel_rfl) _ (s / 256) (by omega) (by omega)]⟩) trivial ?_
  (try simp only [Act.put, List.setIfInBounds_toArray, List.set_cons_zero, List.set_cons_succ])
  refine take_first 3 (v := ?_) rfl (by kernel_rfl) (by kernel_rfl) (by kernel_rfl) (fun _ _ _ h => h) (Or.inl ⟨by rfl, by intro wx hSw; go_simp; try with_reducible rfl⟩) trivial ?_
  (try simp only [Act.put, List.setIfInBounds_toArray, List.set_cons_zero, List.set_cons_succ])
  refine take_first 4 (v := .int .u16 ((s % 256 : Nat) : Int)) rfl (by kernel_rfl) (by kernel_rfl) (by kernel_rfl) (fun _ _ _ h => h) (Or.inl ⟨by rfl, by intro wx hSw; go_simp⟩) trivial ?_
  (try simp only [Act.put, List.setIfInBounds_toArray, List.set_cons_zero, List.set_cons_succ])
  refine take_first 5 (v := .int .u8 ((cntF 8 (s % 256) : Nat) : Int)) rfl (by kernel_rfl) (by kernel_rfl) (by kernel_rfl) (fun _ _ _ h => h) (Or.inl ⟨by rfl, by
    intro wx hSw
    go_simp
    rw [dif_pos (by omega), Result.andThen_ok, tab_at (by kernel_rfl) _ (s % 256) (by omega) (by omega)]⟩) trivial ?_
  (try simp only [Act.put, List.setIfInBounds_toArray, List.set_cons_zero, List.set_cons_succ])
  generalize cntF 8 (s / 256) = c1 at *
  generalize cntF 8 (s % 256) = c2 at *
  refine take_first 6 (v := .int .u8 ((c1 : Int) + c2)) rfl (by kernel_rfl) (by kernel_rfl) (by kernel_rfl) (fun _ _ _ h => h) (Or.inl ⟨by rfl, by intro wx hSw; go_simp; exact IntWalk.u8_in _ (by omega)⟩) trivial ?_
  (try simp only [Act.put, List.setIfInBounds_toArray, List.set_cons_zero, List.set_cons_succ])
  refine take_first 7 (v := .int .i64 ((c1 : Int) + c2)) rfl (by kernel_rfl) (by kernel_rfl) (by kernel_rfl) (fun _ _ _ h => h) (Or.inl ⟨by rfl, by intro wx hSw; go_simp; exact IntWalk.i64_in _ (by omega)⟩) trivial ?_
  (try simp only [Act.put, List.setIfInBounds_toArray, List.set_cons_zero, List.set_cons_succ])
  refine take_first 8 (v := ?_) rfl (by kernel_rfl) (by kernel_rfl) (by kernel_rfl) (fun _ _ _ h => h) (Or.inl ⟨by rfl, by intro wx hSw; go_simp; try with_reducible rfl⟩) trivial ?_
  (try simp only [Act.put, List.setIfInBounds_toArray, List.set_cons_zero, List.set_cons_succ])
  refine wpAnyH_done (by kernel_rfl) ?_ _
  refine NoPanic.normal ?_
  go_wp2
  go_ret
  exact ⟨ret_int (by rw [HS.out]; rfl), 1, rfl⟩

theorem count_any (w : World) (s : Nat) (hs : s < 65536) : Calls Try.prog 80 #[.int .u16 (s : Nat)] w fun e w' => e = .returned (.int .i64 (cntF 16 s : Nat)) ∧ ∃ q, w' = w.drewN q := by
  go_enter Try.func80, Try.ntmps80
  go_wp2_with fail
  refine (ones_any w s hs).mono ?_
  rintro e w1 ⟨rfl, q, rfl⟩
  go_wp2
  go_ret
  exact ⟨rfl, q, rfl⟩

/-- The set of one node. -/
def onlyN (i : Int) : Nat := if 0 ≤ i ∧ i < 16 then 2 ^ i.toNat else 0
theorem onlyN_lt (i : Int) : onlyN i < 65536 := by
  unfold onlyN
  split
  · have h := Nat.pow_le_pow_right (show 0 < 2 by omega) (show i.toNat ≤ 15 by omega)
    omega
  · omega

theorem wrap_pow (n : Nat) (h : n < 16) : IntKind.u16.wrap ((2 : Int) ^ n) = ((2 ^ n : Nat) : Int) := by
  have h2 := Nat.pow_le_pow_right (show 0 < 2 by omega) (show n ≤ 15 by omega)
  have e : ((2 ^ n : Nat) : Int) = (2 : Int) ^ n := by simp
  rw [← e]
  have hp : ∀ m : Nat, m ≤ 2 ^ 15 → IntKind.u16.wrap (m : Int) = m := fun m hm => IntWalk.u16_in _ (by omega)
  exact hp _ h2

set_option maxRecDepth 10000 in
theorem only_any (w : World) (i : Int) : Calls Try.prog 74 #[.int .i64 i] w fun e w' => e = .returned (.int .u16 (onlyN i : Nat)) ∧ w = w' := by
  by_cases h0 : i < 0
  · have HO : Hid (onlyN i = 0) := by unfold Hid onlyN; rw [if_neg (by omega)]
    go_enter Try.func74, Try.ntmps74
    go_wp2
    go_ret
    exact ⟨ret_int (by rw [HO.out]; rfl), rfl⟩
  · by_cases h1 : i < 16
    · have HO : Hid (onlyN i = 2 ^ i.toNat) := by unfold Hid onlyN; rw [if_pos (by omega)]
      have h2 := Nat.pow_le_pow_right (show 0 < 2 by omega) (show i.toNat ≤ 15 by omega)
      obtain ⟨n, rfl⟩ : ∃ n : Nat, i = n := ⟨i.toNat, by omega⟩
      rw [Int.toNat_natCast] at HO h2
      go_enter Try.func74, Try.ntmps74
      go_wp2
      go_ret
      exact ⟨ret_int (by rw [HO.out]; exact wrap_pow n (by omega)), rfl⟩
    · have HO : Hid (onlyN i = 0) := by unfold Hid onlyN; rw [if_neg (by omega)]
      go_enter Try.func74, Try.ntmps74
      go_wp2
      go_ret
      exact ⟨ret_int (by rw [HO.out]; rfl), rfl⟩

theorem and_pow (s k : Nat) : s &&& 2 ^ k = if s.testBit k then 2 ^ k else 0 := by
  apply Nat.eq_of_testBit_eq
  intro j
  rw [Nat.testBit_and, Nat.testBit_two_pow]
  by_cases h : k = j
  · subst h
    cases hb : s.testBit k <;> simp [Nat.testBit_two_pow_self]
  · have h1 : decide (k = j) = false := by simpa using h
    rw [h1, Bool.and_false]
    split
    · rw [Nat.testBit_two_pow, h1]
    · simp

/-- Is a node in a set? -/
def hasN (s : Nat) (i : Int) : Bool := decide (0 ≤ i) && decide (i < 16) && s.testBit i.toNat
theorem has_num (s : Nat) (hs : s < 65536) (i : Int) : (bits .and .u16 (s : Int) (onlyN i : Nat) != 0) = hasN s i := by
  rw [u16_and_nat s (onlyN i) hs (onlyN_lt i)]
  unfold hasN onlyN
  by_cases h : 0 ≤ i ∧ i < 16
  · rw [if_pos h]
    simp only [h.1, h.2, decide_true, Bool.true_and]
    rw [and_pow]
    have h2 := Nat.two_pow_pos i.toNat
    generalize 2 ^ i.toNat = m at *
    cases s.testBit i.toNat
    · simp
    · simp; omega
  · rw [if_neg h]
    by_cases h0 : 0 ≤ i
    · simp [h0, show ¬ i < 16 by omega]
    · simp [h0]

theorem has_any (w : World) (s : Nat) (hs : s < 65536) (i : Int) : Calls Try.prog 52 #[.int .u16 (s : Nat), .int .i64 i] w fun e w' => e = .returned (.bool (hasN s i)) ∧ w = w' := by
  have HH : Hid ((bits .and .u16 (s : Int) (onlyN i : Nat) != 0) = hasN s i) := has_num s hs i
  have ho := only_any w i
  generalize onlyN i = o at *
  go_enter Try.func52, Try.ntmps52
  go_wp2_with fail
  refine ho.mono ?_
  rintro e w1 ⟨rfl, rfl⟩
  go_wp2
  go_ret
  exact ⟨ret_bool (by rw [← HH.out]), rfl⟩

theorem und31s : Try.prog.underlying 31 = some (.slice 3) := by kernel_rfl
theorem info3s : (Try.prog.info? 3).map (fun i => (i.zero, i.size, i.bytes)) = some (some (.int .i64 0), 1, 8) := by kernel_rfl
theorem make_list (c : Nat) (hc : c ≤ 16) (w : World) : (Instr.makeSlice 31 (.int .i64 0) (.int .i64 (c : Int))).run Try.prog w = .ok (.slice (some ⟨w.heap.size, 0, none⟩) 0 c) (w.alloc (.cells (madeCells #[.int .i64 0] c) 3)) := by
  obtain ⟨i, hi, hz, hs, hb⟩ := info_parts info3s
  have hr := run_make (P := Try.prog) w 31 3 i (.int .i64 0) und31s hi hz .i64 .i64 0 (c : Int) (Int.le_refl _) (by omega) (by rw [hb]; omega) (by omega)
  simp only [Int.toNat_zero, Int.toNat_natCast, hs, Nat.mul_one] at hr
  exact hr

def ints (l : List Nat) : List Value := l.map (fun i => Value.int .i64 (i : Nat))
theorem ints_len (l : List Nat) : (ints l).length = l.length := by simp [ints]

set_option maxRecDepth 10000 in
set_option maxHeartbeats 1000000 in
theorem list_any (w : World) (s : Nat) (hs : s < 65536) : Calls Try.prog 66 #[.int .u16 (s : Nat)] w fun e w' => ∃ v, e = .returned v ∧ w'.ownsRow w.heap.size 3 1 v (cntF 16 s) (ints (nodes s 16)) ∧ Below w.heap.size w w' := by
  have hl := cntF_le 16 s
  obtain ⟨i0, hi0, hz0, hz1, hz2⟩ := info_parts info3s
  have hmk := make_list (cntF 16 s) hl
  have hc := count_any w s hs
  have HN : Hid ((nodes s 16).length = cntF 16 s) := nodes_len 16 s
  have hrow : ∀ q, ((w.drewN q).alloc (.cells (madeCells #[.int .i64 0] (cntF 16 s)) 3)).ownsRow w.heap.size 3 1 (.slice (some ⟨w.heap.size, 0, none⟩) 0 (cntF 16 s)) 0 [] := fun q =>
    World.ownsRow_made (w.drewN q) _ (cntF 16 s) (Nat.le_refl _) (by unfold maxLen; omega) (by simp [size_madeCells])
  generalize cntF 16 s = c at *
  go_enter Try.func66, Try.ntmps66
  go_wp2_with fail
  refine hc.mono ?_
  rintro e w1 ⟨rfl, q1, rfl⟩
  have hrow1 := hrow q1
  go_wp2_with fail
  go_loopw [3, 8] (fun v iv wr => ∃ k : Nat, k ≤ 16 ∧ iv = .int .i64 k ∧ wr.ownsRow w.heap.size 3 1 v (nodes s k).length (ints (nodes s k)) ∧ Below w.heap.size w wr) (fun _ iv _ => 16 - (intOf iv).toNat)
  case atStart => exact ⟨0, by omega, rfl, hrow1, (bl_drewN (Below.refl _ _) q1).alloc (Nat.le_refl _) _⟩
  case round =>
    obtain ⟨k, hk, rfl, hown, hb⟩ := hrel
    by_cases hlt : k < 16
    · have hltI : (k : Int) < 16 := by omega
      have hh := has_any wr s hs (k : Int)
      have hhas : hasN s (k : Int) = s.testBit k := by simp [hasN]; omega
      rw [hhas] at hh
      have hnl : (nodes s k).length ≤ k := by rw [nodes_len]; exact cntF_le k s
      have HS : Hid (nodes s (k + 1) = nodes s k ++ (if s.testBit k then [k] else [])) := nodes_succ s k
      have hsz := hb.size
      cases hbit : s.testBit k with
      | false =>
        rw [hbit] at hh
        rw [hbit] at HS
        go_wp2_with fail
        refine hh.mono ?_
        rintro e w2 ⟨rfl, rfl⟩
        go_wp2
        go_roundw
        case rel => first | exact ⟨k + 1, by omega, by go_num, by rw [HS.out]; simpa using hown, hb⟩ | ((repeat apply Exists.intro); exact ⟨⟨k + 1, by omega, by go_num, by rw [HS.out]; simpa using hown, hb⟩, rfl⟩)
        case measure => simp [intOf]; omega
      | true =>
        rw [hbit] at hh
        rw [hbit] at HS
        obtain ⟨L, HL⟩ : ∃ L, Hid ((nodes s k).length = L) := ⟨_, rfl⟩
        have hL := HL.out
        rw [hL] at hown hnl
        clear hL
        go_wp2_with fail
        refine hh.mono ?_
        rintro e w2 ⟨rfl, rfl⟩
        have hb2 := fun o => hb.alloc hsz o
        have hown2 := fun o => hown.alloc o
        go_wp2_with (first | (at_builtin; refine wpList_append_own_at _ rfl _ _ 31 rfl w.heap.size 3 i0 (.int .i64 0) 1 8 und31s hi0 hz0 hz1 hz2 rfl (by decide) _ L (ints (nodes s k)) rfl ?d1 ⟨wr.heap.size, 0, none⟩ 1 1 [.int .i64 (k : Nat)] rfl rfl ?d3 ?d4 ?d6 ?d7 ?d8 ?_))
        case d1 => exact hown2 _
        case d3 => exact cell_one_new _ _ _
        case d4 => simp [Value.oneCell']
        case d6 => unfold maxLen; omega
        case d7 => omega
        case d8 => simp; omega
        intro v' w3 hown3 hgrow hnil hat
        have hb3 := bl_grown (hb2 _) (by simp; omega) hgrow (fun g hg => (hown.lt g hg).1)
        have hown4 : w3.ownsRow w.heap.size 3 1 v' (nodes s (k + 1)).length (ints (nodes s (k + 1))) := by
          rw [HS.out]
          simpa [ints, HL.out] using hown3
        clear hown3 hgrow hnil hat hb2 hown2 hown hb hh
        go_wp2
        go_roundw
        case rel => first | exact ⟨k + 1, by omega, by go_num, hown4, hb3⟩ | ((repeat apply Exists.intro); exact ⟨⟨k + 1, by omega, by go_num, hown4, hb3⟩, rfl⟩)
        case measure => simp [intOf]; omega
    · obtain rfl : k = 16 := by omega
      rw [HN.out] at hown
      go_wp2
      go_ret
      exact ⟨_, rfl, hown, hb⟩

/-- A set with a node, without it. -/
def withN (s : Nat) (i : Int) : Nat := s ||| onlyN i
def withoutN (s : Nat) (i : Int) : Nat := s &&& (65535 - onlyN i)
theorem pow_step (k : Nat) (h : k < 15) : IntKind.u16.wrap (((2 ^ k : Nat) : Int) * 2) = ((2 ^ (k + 1) : Nat) : Int) := by
  have hp := Nat.pow_le_pow_right (show 0 < 2 by omega) (show k ≤ 14 by omega)
  rw [Nat.pow_succ]
  have : ∀ m : Nat, m ≤ 2 ^ 14 → IntKind.u16.wrap ((m : Int) * 2) = ((m * 2 : Nat) : Int) := fun m hm => by rw [IntWalk.u16_in _ (by omega)]; simp
  exact this _ hp

set_option maxRecDepth 10000 in
theorem bit_any (w : World) (n : Nat) (hn : n < 16) : Calls Try.prog 81 #[.int .i64 (n : Nat)] w fun e w' => e = .returned (.int .u16 (2 ^ n : Nat)) ∧ w = w' := by
  go_enter Try.func81, Try.ntmps81
  go_wp2
  go_loop [3, 4] (fun b i => ∃ k : Nat, k ≤ n ∧ i = .int .i64 k ∧ b = .int .u16 (2 ^ k : Nat)) (fun _ i => n - (intOf i).toNat)
  case atStart => exact ⟨0, by omega, rfl, rfl⟩
  case round =>
    obtain ⟨k, hk, rfl, rfl⟩ := hrel
    by_cases hlt : k < n
    · have hltI : (k : Int) < n := by omega
      have hs := pow_step k (by omega)
      obtain ⟨m, HM⟩ : ∃ m : Nat, Hid (2 ^ k = m) := ⟨_, rfl⟩
      have hm := Nat.pow_le_pow_right (show 0 < 2 by omega) (show k ≤ 14 by omega)
      rw [HM.out] at hs hm ⊢
      have HS : Hid (IntKind.u16.wrap ((m : Int) * 2) = ((2 ^ (k + 1) : Nat) : Int)) := hs
      clear hs
      go_wp2
      go_round
      case rel => exact ⟨k + 1, by omega, by go_num, by rw [← HS.out, IntWalk.u16_in _ (by omega)]⟩
      case measure => simp [intOf]; omega
    · obtain rfl : k = n := by omega
      go_wp2
      go_ret
      exact ⟨rfl, rfl⟩

theorem ref_has_num (s n : Nat) : decide (((s : Int) / ((2 ^ n : Nat) : Int)) % 2 = 1) = s.testBit n := by
  rw [Nat.testBit_eq_decide_div_mod_eq]
  have : ((s : Int) / ((2 ^ n : Nat) : Int)) % 2 = ((s / 2 ^ n % 2 : Nat) : Int) := by simp
  rw [this]
  exact decide_eq_decide.2 (by omega)
theorem ref_num (s m : Nat) (hs : s < 65536) (b : Bool) (h : decide (((s : Int) / (m : Int)) % 2 = 1) = b) : ((IntKind.u16.wrap ((s : Int) / (m : Int))).tmod 2 == 1) = b := by
  have e : (s : Int) / (m : Int) = ((s / m : Nat) : Int) := by simp
  have hle := Nat.div_le_self s m
  rw [e] at h ⊢
  clear e
  generalize s / m = d at *
  rw [IntWalk.u16_in _ (by omega), Int.tmod_eq_emod_of_nonneg (by omega), ← h]
  rfl
set_option maxRecDepth 10000 in
theorem refHas_any (w : World) (s : Nat) (hs : s < 65536) (i : Int) : Calls Try.prog 67 #[.int .u16 (s : Nat), .int .i64 i] w fun e w' => e = .returned (.bool (hasN s i)) ∧ w = w' := by
  unfold hasN
  by_cases h0 : 0 ≤ i
  · by_cases h1 : i < 16
    · obtain ⟨n, rfl⟩ : ∃ n : Nat, i = n := ⟨i.toNat, by omega⟩
      have hb := bit_any w n (by omega)
      have HR : Hid (decide (((s : Int) / ((2 ^ n : Nat) : Int)) % 2 = 1) = s.testBit n) := ref_has_num s n
      have hp := Nat.two_pow_pos n
      have hp2 := Nat.pow_le_pow_right (show 0 < 2 by omega) (show n ≤ 15 by omega)
      rw [Int.toNat_natCast, show decide (0 ≤ (n : Int)) = true by simp, show decide ((n : Int) < 16) = true by simpa using h1]
      generalize 2 ^ n = m at *
      go_enter Try.func67, Try.ntmps67
      go_wp2_with fail
      refine hb.mono ?_
      rintro e w1 ⟨rfl, rfl⟩
      go_wp2
      go_ret
      exact ⟨ret_bool (by rw [ref_num s m hs _ HR.out]; simp), rfl⟩
    · rw [show decide (i < 16) = false by simpa using h1]
      go_enter Try.func67, Try.ntmps67
      go_wp2
      go_ret
      exact ⟨ret_bool (by simp), rfl⟩
  · rw [show decide (0 ≤ i) = false by simpa using h0]
    go_enter Try.func67, Try.ntmps67
    go_wp2
    go_ret
    exact ⟨ret_bool (by simp), rfl⟩

end Go.Proofs.Ythnbijnpbjfoaaa
