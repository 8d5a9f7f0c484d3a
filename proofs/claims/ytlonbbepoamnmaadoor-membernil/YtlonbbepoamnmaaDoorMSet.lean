/-
  Sets of nodes: the calls of package ident, and the document's.
-/
import Derived.Test.YtlonbbepoamnmaaDoorSBase
import Derived.Test.YtlonbbepoamnmaaDoorPSet
import Derived.Laws.BitsAllLaws
namespace Go.Proofs.YtlonbbepoamnmaaDoor
open Go.RowKit
set_option linter.unusedVariables false

/-- How many bits each byte has. -/
def tab : ByteArray := ⟨((List.range 256).map (fun k => UInt8.ofNat (cntF 8 k))).toArray⟩
theorem tab_all : ∀ i : Fin 256, (tab.data[i.val]?).map UInt8.toNat = some (cntF 8 i.val) := by decide +kernel
theorem tab_at {T : ByteArray} (hT : T = tab) {i : Nat} (h : i < T.size) (k : Nat) (e : i = k) (hk : k < 256) : T[i].toNat = cntF 8 k := by
  subst hT
  subst e
  have ha := tab_all ⟨i, hk⟩
  have hs : i < tab.data.size := h
  simp only [Array.getElem?_eq_getElem hs, Option.map_some, Option.some.injEq] at ha
  exact ha
set_option maxRecDepth 10000 in
theorem ones_any (w : World) (s : Nat) (hs : s < 65536) : Calls Tryd.prog 105 #[.int .u16 (s : Nat)] w fun e w' => e = .returned (.int .i64 (cntF 16 s : Nat)) ∧ ∃ q, w' = w.drewN q := by
  have ha : bits .and .u16 (s : Int) 255 = ((s % 256 : Nat) : Int) := by
    have := u16_and_nat s 255 hs (by omega)
    rw [show s &&& 255 = s % 256 by exact Nat.and_two_pow_sub_one_eq_mod s 8] at this
    exact this
  have hl1 := cntF_le 8 (s / 256)
  have hl2 := cntF_le 8 (s % 256)
  have HS : Hid (cntF 16 s = cntF 8 (s / 256) + cntF 8 (s % 256)) := cntF_split s
  go_enter Tryd.func105, Tryd.ntmps105
  go_wp2_with fail
  refine wp_region_noPanic ?_
  refine wp_region_held_drew (S := fun wx => True) (by kernel_rfl) trivial (fun hHeld => ?_)
  refine take_first 0 (v := ?_) rfl (by kernel_rfl) (by kernel_rfl) (by kernel_rfl) (fun _ _ _ h => h) (Or.inl ⟨by rfl, by intro wx hSw; go_simp; try with_reducible rfl⟩) trivial ?_
  (try simp only [Act.put, List.setIfInBounds_toArray, List.set_cons_zero, List.set_cons_succ])
  refine take_first 1 (v := .int .u16 ((s / 256 : Nat) : Int)) rfl (by kernel_rfl) (by kernel_rfl) (by kernel_rfl) (fun _ _ _ h => h) (Or.inl ⟨by rfl, by intro wx hSw; go_simp⟩) trivial ?_
  (try simp only [Act.put, List.setIfInBounds_toArray, List.set_cons_zero, List.set_cons_succ])
  refine take_first 2 (v := .int .u8 ((cntF 8 (s / 256) : Nat) : Int)) rfl (by kernel_rfl) (by kernel_rfl) (by kernel_rfl) (fun _ _ _ h => h) (Or.inl ⟨by rfl, by
    intro wx hSw
    go_simp
    rw [dif_pos (by omega), Result.andThen_ok, tab_at (by kernel_rfl) _ (s / 256) (by omega) (by omega)]⟩) trivial ?_
  (try simp only [Act.put, List.setIfInBounds_toArray, List.set_cons_zero, List.set_cons_succ])
  refine take_first 3 (v := ?_) rfl (by kernel_rfl) (by kernel_rfl) (by kernel_rfl) (fun _ _ _ h => h) (Or.inl ⟨by rfl, by intro wx hSw; go_simp; try with_reducible rfl⟩) trivial ?_
  (try simp only [Act.put, List.setIfInBounds_toArray, List.set_cons_zero, List.set_cons_succ])
  refine take_first 4 (v := .int .u16 ((s % 256 : Nat) : Int)) rfl (by kernel_rfl) (by kernel_rfl) (by kernel_rfl) (fun _ _ _ h => h) (Or.inl ⟨by rfl, by intro wx hSw; go_simp⟩) trivial ?_
  (try simp only [Act.put, List.setIfInBounds_toArray, List.set_cons_zero, List.set_cons_succ])
  refine take_first 5 (v := .int .u8 ((cntF 8 (s % 256) : Nat) : Int)) rfl (by kernel_rfl) (by kernel_rfl) (by kernel_rfl) (fun _ _ _ h => h) (Or.inl ⟨by rfl, by
    intro wx hSw
    go_simp
    rw [dif_pos (by omega), Result.andThen_ok, tab_at (by kernel_rfl) _ (s % 256) (by omega) (by omega)]⟩) trivial ?_
  (try simp only [Act.put, List.setIfInBounds_toArray, List.set_cons_zero, List.set_cons_succ])
  generalize cntF 8 (s / 256) = c1 at *
  generalize cntF 8 (s % 256) = c2 at *
  refine take_first 6 (v := .int .u8 ((c1 : Int) + c2)) rfl (by kernel_rfl) (by kernel_rfl) (by kernel_rfl) (fun _ _ _ h => h) (Or.inl ⟨by rfl, by intro wx hSw; go_simp; exact IntWalk.u8_in _ (by omega)⟩) trivial ?_
  (try simp only [Act.put, List.setIfInBounds_toArray, List.set_cons_zero, List.set_cons_succ])
  refine take_first 7 (v := .int .i64 ((c1 : Int) + c2)) rfl (by kernel_rfl) (by kernel_rfl) (by kernel_rfl) (fun _ _ _ h => h) (Or.inl ⟨by rfl, by intro wx hSw; go_simp; exact IntWalk.i64_in _ (by omega)⟩) trivial ?_
  (try simp only [Act.put, List.setIfInBounds_toArray, List.set_cons_zero, List.set_cons_succ])
  refine take_first 8 (v := ?_) rfl (by kernel_rfl) (by kernel_rfl) (by kernel_rfl) (fun _ _ _ h => h) (Or.inl ⟨by rfl, by intro wx hSw; go_simp; try with_reducible rfl⟩) trivial ?_
  (try simp only [Act.put, List.setIfInBounds_toArray, List.set_cons_zero, List.set_cons_succ])
  refine wpAnyH_done (by kernel_rfl) ?_ _
  refine NoPanic.normal ?_
  go_wp2
  go_ret
  exact ⟨ret_int (by rw [HS.out]; rfl), 1, rfl⟩
theorem count_any (w : World) (s : Nat) (hs : s < 65536) : Calls Tryd.prog 99 #[.int .u16 (s : Nat)] w fun e w' => e = .returned (.int .i64 (cntF 16 s : Nat)) ∧ ∃ q, w' = w.drewN q := by
  go_enter Tryd.func99, Tryd.ntmps99
  go_wp2_with fail
  refine (ones_any w s hs).mono ?_
  rintro e w1 ⟨rfl, q, rfl⟩
  go_wp2
  go_ret
  exact ⟨rfl, q, rfl⟩
theorem wrap_pow (n : Nat) (h : n < 16) : IntKind.u16.wrap ((2 : Int) ^ n) = ((2 ^ n : Nat) : Int) := by
  have h2 := Nat.pow_le_pow_right (show 0 < 2 by omega) (show n ≤ 15 by omega)
  have e : ((2 ^ n : Nat) : Int) = (2 : Int) ^ n := by simp
  rw [← e]
  have hp : ∀ m : Nat, m ≤ 2 ^ 15 → IntKind.u16.wrap (m : Int) = m := fun m hm => IntWalk.u16_in _ (by omega)
  exact hp _ h2
set_option maxRecDepth 10000 in
theorem only_any (w : World) (i : Int) : Calls Tryd.prog 54 #[.int .i64 i] w fun e w' => e = .returned (.int .u16 (onlyN i : Nat)) ∧ w = w' := by
  by_cases h0 : i < 0
  · have HO : Hid (onlyN i = 0) := by unfold Hid onlyN; rw [if_neg (by omega)]
    go_enter Tryd.func54, Tryd.ntmps54
    go_wp2
    go_ret
    exact ⟨ret_int (by rw [HO.out]; rfl), rfl⟩
  · by_cases h1 : i < 16
    · have HO : Hid (onlyN i = 2 ^ i.toNat) := by unfold Hid onlyN; rw [if_pos (by omega)]
      have h2 := Nat.pow_le_pow_right (show 0 < 2 by omega) (show i.toNat ≤ 15 by omega)
      obtain ⟨n, rfl⟩ : ∃ n : Nat, i = n := ⟨i.toNat, by omega⟩
      rw [Int.toNat_natCast] at HO h2
      go_enter Tryd.func54, Tryd.ntmps54
      go_wp2
      go_ret
      exact ⟨ret_int (by rw [HO.out]; exact wrap_pow n (by omega)), rfl⟩
    · have HO : Hid (onlyN i = 0) := by unfold Hid onlyN; rw [if_neg (by omega)]
      go_enter Tryd.func54, Tryd.ntmps54
      go_wp2
      go_ret
      exact ⟨ret_int (by rw [HO.out]; rfl), rfl⟩
theorem has_num (s : Nat) (hs : s < 65536) (i : Int) : (bits .and .u16 (s : Int) (onlyN i : Nat) != 0) = hasN s i := by
  rw [u16_and_nat s (onlyN i) hs (onlyN_lt i)]
  unfold hasN onlyN
  by_cases h : 0 ≤ i ∧ i < 16
  · rw [if_pos h]
    simp only [h.1, h.2, decide_true, Bool.true_and]
    rw [and_pow]
    have h2 := Nat.two_pow_pos i.toNat
    generalize 2 ^ i.toNat = m at *
    cases s.testBit i.toNat
    · simp
    · simp; omega
  · rw [if_neg h]
    by_cases h0 : 0 ≤ i
    · simp [h0, show ¬ i < 16 by omega]
    · simp [h0]
theorem has_any (w : World) (s : Nat) (hs : s < 65536) (i : Int) : Calls Tryd.prog 43 #[.int .u16 (s : Nat), .int .i64 i] w fun e w' => e = .returned (.bool (hasN s i)) ∧ w = w' := by
  have HH : Hid ((bits .and .u16 (s : Int) (onlyN i : Nat) != 0) = hasN s i) := has_num s hs i
  have ho := only_any w i
  generalize onlyN i = o at *
  go_enter Tryd.func43, Tryd.ntmps43
  go_wp2_with fail
  refine ho.mono ?_
  rintro e w1 ⟨rfl, rfl⟩
  go_wp2
  go_ret
  exact ⟨ret_bool (by rw [← HH.out]), rfl⟩
theorem und50 : Tryd.prog.underlying 35 = some (.slice 3) := by kernel_rfl
theorem info3 : (Tryd.prog.info? 3).map (fun i => (i.zero, i.size, i.bytes)) = some (some (.int .i64 0), 1, 8) := by kernel_rfl
theorem make_list (c : Nat) (hc : c ≤ 16) (w : World) : (Instr.makeSlice 35 (.int .i64 0) (.int .i64 (c : Int))).run Tryd.prog w = .ok (.slice (some ⟨w.heap.size, 0, none⟩) 0 c) (w.alloc (.cells (madeCells #[.int .i64 0] c) 3)) := by
  obtain ⟨i, hi, hz, hs, hb⟩ := info_parts info3
  have hr := run_make (P := Tryd.prog) w 35 3 i (.int .i64 0) und50 hi hz .i64 .i64 0 (c : Int) (Int.le_refl _) (by omega) (by rw [hb]; omega) (by omega)
  simp only [Int.toNat_zero, Int.toNat_natCast, hs, Nat.mul_one] at hr
  exact hr
def ints (l : List Nat) : List Value := l.map (fun i => Value.int .i64 (i : Nat))
theorem ints_len (l : List Nat) : (ints l).length = l.length := by simp [ints]
set_option maxRecDepth 10000 in
set_option maxHeartbeats 1000000 in
theorem list_any (w : World) (s : Nat) (hs : s < 65536) : Calls Tryd.prog 80 #[.int .u16 (s : Nat)] w fun e w' => ∃ v, e = .returned v ∧ w'.ownsRow w.heap.size 3 1 v (cntF 16 s) (ints (nodes s 16)) ∧ Below w.heap.size w w' := by
  have hl := cntF_le 16 s
  obtain ⟨i0, hi0, hz0, hz1, hz2⟩ := info_parts info3
  have hmk := make_list (cntF 16 s) hl
  have hc := count_any w s hs
  have HN : Hid ((nodes s 16).length = cntF 16 s) := nodes_len 16 s
  have hrow : ∀ q, ((w.drewN q).alloc (.cells (madeCells #[.int .i64 0] (cntF 16 s)) 3)).ownsRow w.heap.size 3 1 (.slice (some ⟨w.heap.size, 0, none⟩) 0 (cntF 16 s)) 0 [] := fun q =>
    World.ownsRow_made (w.drewN q) _ (cntF 16 s) (Nat.le_refl _) (by unfold maxLen; omega) (by simp [size_madeCells])
  generalize cntF 16 s = c at *
  go_enter Tryd.func80, Tryd.ntmps80
  go_wp2_with fail
  refine hc.mono ?_
  rintro e w1 ⟨rfl, q1, rfl⟩
  have hrow1 := hrow q1
  go_wp2_with fail
  go_loopw [3, 8] (fun v iv wr => ∃ k : Nat, k ≤ 16 ∧ iv = .int .i64 k ∧ wr.ownsRow w.heap.size 3 1 v (nodes s k).length (ints (nodes s k)) ∧ Below w.heap.size w wr) (fun _ iv _ => 16 - (intOf iv).toNat)
  case atStart => exact ⟨0, by omega, rfl, hrow1, (bl_drewN (Below.refl _ _) q1).alloc (Nat.le_refl _) _⟩
  case round =>
    obtain ⟨k, hk, rfl, hown, hb⟩ := hrel
    by_cases hlt : k < 16
    · have hltI : (k : Int) < 16 := by omega
      have hh := has_any wr s hs (k : Int)
      have hhas : hasN s (k : Int) = s.testBit k := by simp [hasN]; omega
      rw [hhas] at hh
      have hnl : (nodes s k).length ≤ k := by rw [nodes_len]; exact cntF_le k s
      have HS : Hid (nodes s (k + 1) = nodes s k ++ (if s.testBit k then [k] else [])) := nodes_succ s k
      have hsz := hb.size
      cases hbit : s.testBit k with
      | false =>
        rw [hbit] at hh
        rw [hbit] at HS
        go_wp2_with fail
        refine hh.mono ?_
        rintro e w2 ⟨rfl, rfl⟩
        go_wp2
        go_roundw
        case rel => first | exact ⟨k + 1, by omega, by go_num, by rw [HS.out]; simpa using hown, hb⟩ | ((repeat apply Exists.intro); exact ⟨⟨k + 1, by omega, by go_num, by rw [HS.out]; simpa using hown, hb⟩, rfl⟩)
        case measure => simp [intOf]; omega
      | true =>
        rw [hbit] at hh
        rw [hbit] at HS
        obtain ⟨L, HL⟩ : ∃ L, Hid ((nodes s k).length = L) := ⟨_, rfl⟩
        have hL := HL.out
        rw [hL] at hown hnl
        clear hL
        go_wp2_with fail
        refine hh.mono ?_
        rintro e w2 ⟨rfl, rfl⟩
        have hb2 := fun o => hb.alloc hsz o
        have hown2 := fun o => hown.alloc o
        go_wp2_with (first | (at_builtin; refine wpList_append_own_at _ rfl _ _ 35 rfl w.heap.size 3 i0 (.int .i64 0) 1 8 und50 hi0 hz0 hz1 hz2 rfl (by decide) _ L (ints (nodes s k)) rfl ?d1 ⟨wr.heap.size, 0, none⟩ 1 1 [.int .i64 (k : Nat)] rfl rfl ?d3 ?d4 ?d6 ?d7 ?d8 ?_))
        case d1 => exact hown2 _
        case d3 => exact cell_one_new _ _ _
        case d4 => simp [Value.oneCell']
        case d6 => unfold maxLen; omega
        case d7 => omega
        case d8 => simp; omega
        intro v' w3 hown3 hgrow hnil hat
        have hb3 := bl_grown (hb2 _) (by simp; omega) hgrow (fun g hg => (hown.lt g hg).1)
        have hown4 : w3.ownsRow w.heap.size 3 1 v' (nodes s (k + 1)).length (ints (nodes s (k + 1))) := by
          rw [HS.out]
          simpa [ints, HL.out] using hown3
        clear hown3 hgrow hnil hat hb2 hown2 hown hb hh
        go_wp2
        go_roundw
        case rel => first | exact ⟨k + 1, by omega, by go_num, hown4, hb3⟩ | ((repeat apply Exists.intro); exact ⟨⟨k + 1, by omega, by go_num, hown4, hb3⟩, rfl⟩)
        case measure => simp [intOf]; omega
    · obtain rfl : k = 16 := by omega
      rw [HN.out] at hown
      go_wp2
      go_ret
      exact ⟨_, rfl, hown, hb⟩
theorem with_any (w : World) (s : Nat) (hs : s < 65536) (i : Int) : Calls Tryd.prog 30 #[.int .u16 (s : Nat), .int .i64 i] w fun e w' => e = .returned (.int .u16 (withN s i : Nat)) ∧ w = w' := by
  have ho := only_any w i
  have e := u16_or_nat s (onlyN i) hs (onlyN_lt i)
  unfold withN
  generalize onlyN i = o at *
  generalize s ||| o = r at *
  go_enter Tryd.func30, Tryd.ntmps30
  go_wp2_with fail
  refine ho.mono ?_
  rintro e w1 ⟨rfl, rfl⟩
  go_wp2
  go_ret
  exact ⟨rfl, rfl⟩
theorem without_any (w : World) (s : Nat) (hs : s < 65536) (i : Int) : Calls Tryd.prog 44 #[.int .u16 (s : Nat), .int .i64 i] w fun e w' => e = .returned (.int .u16 (withoutN s i : Nat)) ∧ w = w' := by
  have ho := only_any w i
  have e := u16_andNot_nat s (onlyN i) hs (onlyN_lt i)
  unfold withoutN
  generalize onlyN i = o at *
  generalize s &&& (65535 - o) = r at *
  go_enter Tryd.func44, Tryd.ntmps44
  go_wp2_with fail
  refine ho.mono ?_
  rintro e w1 ⟨rfl, rfl⟩
  go_wp2
  go_ret
  exact ⟨rfl, rfl⟩
theorem pow_step (k : Nat) (h : k < 15) : IntKind.u16.wrap (((2 ^ k : Nat) : Int) * 2) = ((2 ^ (k + 1) : Nat) : Int) := by
  have hp := Nat.pow_le_pow_right (show 0 < 2 by omega) (show k ≤ 14 by omega)
  rw [Nat.pow_succ]
  have : ∀ m : Nat, m ≤ 2 ^ 14 → IntKind.u16.wrap ((m : Int) * 2) = ((m * 2 : Nat) : Int) := fun m hm => by rw [IntWalk.u16_in _ (by omega)]; simp
  exact this _ hp
set_option maxRecDepth 10000 in
theorem bit_any (w : World) (n : Nat) (hn : n < 16) : Calls Tryd.prog 53 #[.int .i64 (n : Nat)] w fun e w' => e = .returned (.int .u16 (2 ^ n : Nat)) ∧ w = w' := by
  go_enter Tryd.func53, Tryd.ntmps53
  go_wp2
  go_loop [3, 4] (fun b i => ∃ k : Nat, k ≤ n ∧ i = .int .i64 k ∧ b = .int .u16 (2 ^ k : Nat)) (fun _ i => n - (intOf i).toNat)
  case atStart => exact ⟨0, by omega, rfl, rfl⟩
  case round =>
    obtain ⟨k, hk, rfl, rfl⟩ := hrel
    by_cases hlt : k < n
    · have hltI : (k : Int) < n := by omega
      have hs := pow_step k (by omega)
      obtain ⟨m, HM⟩ : ∃ m : Nat, Hid (2 ^ k = m) := ⟨_, rfl⟩
      have hm := Nat.pow_le_pow_right (show 0 < 2 by omega) (show k ≤ 14 by omega)
      rw [HM.out] at hs hm ⊢
      have HS : Hid (IntKind.u16.wrap ((m : Int) * 2) = ((2 ^ (k + 1) : Nat) : Int)) := hs
      clear hs
      go_wp2
      go_round
      case rel => exact ⟨k + 1, by omega, by go_num, by rw [← HS.out, IntWalk.u16_in _ (by omega)]⟩
      case measure => simp [intOf]; omega
    · obtain rfl : k = n := by omega
      go_wp2
      go_ret
      exact ⟨rfl, rfl⟩
theorem ref_has_num (s n : Nat) : decide (((s : Int) / ((2 ^ n : Nat) : Int)) % 2 = 1) = s.testBit n := by
  rw [Nat.testBit_eq_decide_div_mod_eq]
  have : ((s : Int) / ((2 ^ n : Nat) : Int)) % 2 = ((s / 2 ^ n % 2 : Nat) : Int) := by simp
  rw [this]
  exact decide_eq_decide.2 (by omega)
theorem ref_num (s m : Nat) (hs : s < 65536) (b : Bool) (h : decide (((s : Int) / (m : Int)) % 2 = 1) = b) : ((IntKind.u16.wrap ((s : Int) / (m : Int))).tmod 2 == 1) = b := by
  have e : (s : Int) / (m : Int) = ((s / m : Nat) : Int) := by simp
  have hle := Nat.div_le_self s m
  rw [e] at h ⊢
  clear e
  generalize s / m = d at *
  rw [IntWalk.u16_in _ (by omega), Int.tmod_eq_emod_of_nonneg (by omega), ← h]
  rfl
set_option maxRecDepth 10000 in
theorem refHas_any (w : World) (s : Nat) (hs : s < 65536) (i : Int) : Calls Tryd.prog 27 #[.int .u16 (s : Nat), .int .i64 i] w fun e w' => e = .returned (.bool (hasN s i)) ∧ w = w' := by
  unfold hasN
  by_cases h0 : 0 ≤ i
  · by_cases h1 : i < 16
    · obtain ⟨n, rfl⟩ : ∃ n : Nat, i = n := ⟨i.toNat, by omega⟩
      have hb := bit_any w n (by omega)
      have HR : Hid (decide (((s : Int) / ((2 ^ n : Nat) : Int)) % 2 = 1) = s.testBit n) := ref_has_num s n
      have hp := Nat.two_pow_pos n
      have hp2 := Nat.pow_le_pow_right (show 0 < 2 by omega) (show n ≤ 15 by omega)
      rw [Int.toNat_natCast, show decide (0 ≤ (n : Int)) = true by simp, show decide ((n : Int) < 16) = true by simpa using h1]
      generalize 2 ^ n = m at *
      go_enter Tryd.func27, Tryd.ntmps27
      go_wp2_with fail
      refine hb.mono ?_
      rintro e w1 ⟨rfl, rfl⟩
      go_wp2
      go_ret
      exact ⟨ret_bool (by rw [ref_num s m hs _ HR.out]; simp), rfl⟩
    · rw [show decide (i < 16) = false by simpa using h1]
      go_enter Tryd.func27, Tryd.ntmps27
      go_wp2
      go_ret
      exact ⟨ret_bool (by simp), rfl⟩
  · rw [show decide (0 ≤ i) = false by simpa using h0]
    go_enter Tryd.func27, Tryd.ntmps27
    go_wp2
    go_ret
    exact ⟨ret_bool (by simp), rfl⟩
set_option maxRecDepth 10000 in
theorem refWith_any (w : World) (s : Nat) (hs : s < 65536) (i : Int) : Calls Tryd.prog 28 #[.int .u16 (s : Nat), .int .i64 i] w fun e w' => e = .returned (.int .u16 (withN s i : Nat)) ∧ w = w' := by
  have hh := refHas_any w s hs i
  have hlt := withN_lt s hs i
  rw [withN_eq] at hlt ⊢
  by_cases h0 : i < 0
  · rw [if_neg (by omega)]
    go_enter Tryd.func28, Tryd.ntmps28
    go_wp2
    go_ret
    exact ⟨rfl, rfl⟩
  · by_cases h1 : 15 < i
    · rw [if_neg (by omega)]
      go_enter Tryd.func28, Tryd.ntmps28
      go_wp2
      go_ret
      exact ⟨rfl, rfl⟩
    · obtain ⟨n, rfl⟩ : ∃ n : Nat, i = n := ⟨i.toNat, by omega⟩
      have hb := bit_any w n (by omega)
      rw [Int.toNat_natCast] at hlt ⊢
      generalize 2 ^ n = m at *
      cases hc : hasN s n with
      | true =>
        rw [hc] at hh
        rw [if_neg (by simp)]
        go_enter Tryd.func28, Tryd.ntmps28
        go_wp2_with fail
        refine hh.mono ?_
        rintro e w1 ⟨rfl, rfl⟩
        go_wp2
        go_ret
        exact ⟨rfl, rfl⟩
      | false =>
        rw [hc] at hh hlt
        rw [if_pos ⟨by omega, by omega, rfl⟩] at hlt ⊢
        go_enter Tryd.func28, Tryd.ntmps28
        go_wp2_with fail
        refine hh.mono ?_
        rintro e w1 ⟨rfl, rfl⟩
        go_wp2_with fail
        refine hb.mono ?_
        rintro e w1 ⟨rfl, rfl⟩
        go_wp2
        go_ret
        exact ⟨ret_int (by go_num), rfl⟩
set_option maxRecDepth 10000 in
set_option maxHeartbeats 1000000 in
theorem refList_any (w : World) (s : Nat) (hs : s < 65536) : Calls Tryd.prog 39 #[.int .u16 (s : Nat)] w fun e w' => ∃ v, e = .returned v ∧ w'.ownsRow w.heap.size 3 1 v (cntF 16 s) (ints (nodes s 16)) ∧ Below w.heap.size w w' := by
  obtain ⟨i0, hi0, hz0, hz1, hz2⟩ := info_parts info3
  have HN : Hid ((nodes s 16).length = cntF 16 s) := nodes_len 16 s
  go_enter Tryd.func39, Tryd.ntmps39
  go_wp2_with fail
  go_loopw [3, 4] (fun v iv wr => ∃ k : Nat, k ≤ 16 ∧ iv = .int .i64 k ∧ wr.ownsRow w.heap.size 3 1 v (nodes s k).length (ints (nodes s k)) ∧ Below w.heap.size w wr) (fun _ iv _ => 16 - (intOf iv).toNat)
  case atStart => exact ⟨0, by omega, rfl, World.ownsRow_nil _ _ _ _, Below.refl _ _⟩
  case round =>
    obtain ⟨k, hk, rfl, hown, hb⟩ := hrel
    by_cases hlt : k < 16
    · have hltI : (k : Int) < 16 := by omega
      have hh := refHas_any wr s hs (k : Int)
      have hhas : hasN s (k : Int) = s.testBit k := by simp [hasN]; omega
      rw [hhas] at hh
      have hnl : (nodes s k).length ≤ k := by rw [nodes_len]; exact cntF_le k s
      have HS : Hid (nodes s (k + 1) = nodes s k ++ (if s.testBit k then [k] else [])) := nodes_succ s k
      have hsz := hb.size
      cases hbit : s.testBit k with
      | false =>
        rw [hbit] at hh
        rw [hbit] at HS
        go_wp2_with fail
        refine hh.mono ?_
        rintro e w2 ⟨rfl, rfl⟩
        go_wp2
        go_roundw
        case rel => first | exact ⟨k + 1, by omega, by go_num, by rw [HS.out]; simpa using hown, hb⟩ | ((repeat apply Exists.intro); exact ⟨⟨k + 1, by omega, by go_num, by rw [HS.out]; simpa using hown, hb⟩, rfl⟩)
        case measure => simp [intOf]; omega
      | true =>
        rw [hbit] at hh
        rw [hbit] at HS
        obtain ⟨L, HL⟩ : ∃ L, Hid ((nodes s k).length = L) := ⟨_, rfl⟩
        have hL := HL.out
        rw [hL] at hown hnl
        clear hL
        go_wp2_with fail
        refine hh.mono ?_
        rintro e w2 ⟨rfl, rfl⟩
        have hb2 := fun o => hb.alloc hsz o
        have hown2 := fun o => hown.alloc o
        go_wp2_with (first | (at_builtin; refine wpList_append_own_at _ rfl _ _ 35 rfl w.heap.size 3 i0 (.int .i64 0) 1 8 und50 hi0 hz0 hz1 hz2 rfl (by decide) _ L (ints (nodes s k)) rfl ?d1 ⟨wr.heap.size, 0, none⟩ 1 1 [.int .i64 (k : Nat)] rfl rfl ?d3 ?d4 ?d6 ?d7 ?d8 ?_))
        case d1 => exact hown2 _
        case d3 => exact cell_one_new _ _ _
        case d4 => simp [Value.oneCell']
        case d6 => unfold maxLen; omega
        case d7 => omega
        case d8 => simp; omega
        intro v' w3 hown3 hgrow hnil hat
        have hb3 := bl_grown (hb2 _) (by simp; omega) hgrow (fun g hg => (hown.lt g hg).1)
        have hown4 : w3.ownsRow w.heap.size 3 1 v' (nodes s (k + 1)).length (ints (nodes s (k + 1))) := by
          rw [HS.out]
          simpa [ints, HL.out] using hown3
        clear hown3 hgrow hnil hat hb2 hown2 hown hb hh
        go_wp2
        go_roundw
        case rel => first | exact ⟨k + 1, by omega, by go_num, hown4, hb3⟩ | ((repeat apply Exists.intro); exact ⟨⟨k + 1, by omega, by go_num, hown4, hb3⟩, rfl⟩)
        case measure => simp [intOf]; omega
    · obtain rfl : k = 16 := by omega
      rw [HN.out] at hown
      go_wp2
      go_ret
      exact ⟨_, rfl, hown, hb⟩
/-- The table of package math/bits. -/
def tzTab : List Nat := [0, 1, 28, 2, 29, 14, 24, 3, 30, 22, 20, 15, 25, 17, 4, 8, 31, 27, 13, 23, 21, 19, 16, 7, 26, 12, 18, 6, 11, 5, 10, 9]
def Tab (w : World) : Prop := ∀ j v, tzTab[j]? = some v → w.cell? ⟨0, j, none⟩ = some (.int .u8 (v : Nat))
theorem Tab.below {w w' : World} {B : Nat} (h : Tab w) (hb : Below B w w') (hB : 0 < B) : Tab w' := fun j v hj => (hb.cell (p := ⟨0, j, none⟩) hB).trans (h j v hj)
theorem Tab.drewN {w : World} (h : Tab w) (q : Nat) : Tab (w.drewN q) := h
theorem Tab.lt {w : World} (h : Tab w) : 0 < w.heap.size := World.block_lt_of_cell? w _ (h 0 0 rfl)
theorem tz_ok : ∀ k : Fin 16, tzTab[2 ^ k.val * 125613361 % 4294967296 / 134217728]? = some k.val := by decide
set_option maxRecDepth 10000 in
theorem tz_any (w : World) (hT : Tab w) (s k m : Nat) (hs : s < 65536) (he : s = 2 ^ k * (2 * m + 1)) : Calls Tryd.prog 77 #[.int .u16 (s : Nat)] w fun e w' => e = .returned (.int .i64 (k : Nat)) ∧ w = w' := by
  have hk := low_lt k m (he ▸ hs)
  have hpos : 0 < s := by rw [he]; exact Nat.mul_pos (Nat.two_pow_pos k) (by omega)
  have h1 : IntKind.u16.wrap (-(s : Int)) = ((65536 - s : Nat) : Int) := by rw [IntKind.wrap_u16]; omega
  have h2 := u16_and_nat s (65536 - s) hs (by omega)
  have h3 := low_and k m (he ▸ hs)
  rw [← he] at h3
  rw [h3] at h2
  have h4 := tz_ok ⟨k, hk⟩
  simp only at h4
  have hd : 2 ^ k * 125613361 % 4294967296 / 134217728 < 32 := by omega
  have h5 := hT _ _ h4
  have hp := Nat.pow_le_pow_right (show 0 < 2 by omega) (show k ≤ 15 by omega)
  clear h3 h4 he hT
  obtain ⟨P, HP⟩ : ∃ P : Nat, Hid (2 ^ k = P) := ⟨_, rfl⟩
  rw [HP.out] at h2 hd h5 hp
  have hsn : ((s : Int) == 0) = false := by simp; omega
  go_enter Tryd.func77, Tryd.ntmps77
  go_wp2
  go_ret
  exact ⟨rfl, rfl⟩
theorem least_zero (w : World) : Calls Tryd.prog 55 #[.int .u16 0] w fun e w' => e = .returned (.int .i64 (-1)) ∧ w = w' := by
  go_enter Tryd.func55, Tryd.ntmps55
  go_wp2
  go_ret
  exact ⟨rfl, rfl⟩
theorem least_any (w : World) (hT : Tab w) (s : Nat) (hs : s < 65536) : Calls Tryd.prog 55 #[.int .u16 (s : Nat)] w fun e w' => e = .returned (.int .i64 (leastN s)) ∧ w = w' := by
  by_cases h0 : s = 0
  · subst h0
    rw [leastN_zero]
    exact least_zero w
  · obtain ⟨k, m, he⟩ := low_bit s (by omega)
    have ht := tz_any w hT s k m hs he
    have hl := low_first k m (he ▸ hs)
    rw [← he] at hl
    rw [leastN_some hl]
    have hsn : ((s : Int) == 0) = false := by simp; omega
    clear he hl hT
    go_enter Tryd.func55, Tryd.ntmps55
    go_wp2_with fail
    refine ht.mono ?_
    rintro e w1 ⟨rfl, rfl⟩
    go_wp2
    go_ret
    exact ⟨rfl, rfl⟩
end Go.Proofs.YtlonbbepoamnmaaDoor
