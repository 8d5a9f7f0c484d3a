/-
  The document's list of a set, and its least node, by the table of package math/bits.
-/
import Derived.Test.YtlahdemhigcjnaaDoorDSets
namespace Go.Proofs.YtlahdemhigcjnaaDoor
open Go.RowKit
set_option linter.unusedVariables false

set_option maxRecDepth 10000 in
set_option maxHeartbeats 1000000 in
theorem refList_any (w : World) (s : Nat) (hs : s < 65536) : Calls Tryd.prog 7 #[.int .u16 (s : Nat)] w fun e w' => ∃ v, e = .returned v ∧ w'.ownsRow w.heap.size 3 1 v (cntF 16 s) (ints (nodes s 16)) ∧ Below w.heap.size w w' := by
  obtain ⟨i0, hi0, hz0, hz1, hz2⟩ := info_parts info3
  have HN : Hid ((nodes s 16).length = cntF 16 s) := nodes_len 16 s
  go_enter Tryd.func7, Tryd.ntmps7
  go_wp2_with fail
  go_loopw [3, 4] (fun v iv wr => ∃ k : Nat, k ≤ 16 ∧ iv = .int .i64 k ∧ wr.ownsRow w.heap.size 3 1 v (nodes s k).length (ints (nodes s k)) ∧ Below w.heap.size w wr) (fun _ iv _ => 16 - (intOf iv).toNat)
  case atStart => exact ⟨0, by omega, rfl, World.ownsRow_nil _ _ _ _, Below.refl _ _⟩
  case round =>
    obtain ⟨k, hk, rfl, hown, hb⟩ := hrel
    by_cases hlt : k < 16
    · have hltI : (k : Int) < 16 := by omega
      have hh := refHas_any wr s hs (k : Int)
      have hhas : hasN s (k : Int) = s.testBit k := by simp [hasN]; omega
      rw [hhas] at hh
      have hnl : (nodes s k).length ≤ k := by rw [nodes_len]; exact cntF_le k s
      have HS : Hid (nodes s (k + 1) = nodes s k ++ (if s.testBit k then [k] else [])) := nodes_succ s k
      have hsz := hb.size
      cases hbit : s.testBit k with
      | false =>
        rw [hbit] at hh
        rw [hbit] at HS
        go_wp2_with fail
        refine hh.mono ?_
        rintro e w2 ⟨rfl, rfl⟩
        go_wp2
        go_roundw
        case rel => first | exact ⟨k + 1, by omega, by go_num, by rw [HS.out]; simpa using hown, hb⟩ | ((repeat apply Exists.intro); exact ⟨⟨k + 1, by omega, by go_num, by rw [HS.out]; simpa using hown, hb⟩, rfl⟩)
        case measure => simp [intOf]; omega
      | true =>
        rw [hbit] at hh
        rw [hbit] at HS
        obtain ⟨L, HL⟩ : ∃ L, Hid ((nodes s k).length = L) := ⟨_, rfl⟩
        have hL := HL.out
        rw [hL] at hown hnl
        clear hL
        go_wp2_with fail
        refine hh.mono ?_
        rintro e w2 ⟨rfl, rfl⟩
        have hb2 := fun o => hb.alloc hsz o
        have hown2 := fun o => hown.alloc o
        go_wp2_with (first | (at_builtin; refine wpList_append_own_at _ rfl _ _ 24 rfl w.heap.size 3 i0 (.int .i64 0) 1 8 und50 hi0 hz0 hz1 hz2 rfl (by decide) _ L (ints (nodes s k)) rfl ?d1 ⟨wr.heap.size, 0, none⟩ 1 1 [.int .i64 (k : Nat)] rfl rfl ?d3 ?d4 ?d6 ?d7 ?d8 ?_))
        case d1 => exact hown2 _
        case d3 => exact cell_one_new _ _ _
        case d4 => simp [Value.oneCell']
        case d6 => unfold maxLen; omega
        case d7 => omega
        case d8 => simp; omega
        intro v' w3 hown3 hgrow hnil hat
        have hb3 := bl_grown (hb2 _) (by simp; omega) hgrow (fun g hg => (hown.lt g hg).1)
        have hown4 : w3.ownsRow w.heap.size 3 1 v' (nodes s (k + 1)).length (ints (nodes s (k + 1))) := by
          rw [HS.out]
          simpa [ints, HL.out] using hown3
        clear hown3 hgrow hnil hat hb2 hown2 hown hb hh
        go_wp2
        go_roundw
        case rel => first | exact ⟨k + 1, by omega, by go_num, hown4, hb3⟩ | ((repeat apply Exists.intro); exact ⟨⟨k + 1, by omega, by go_num, hown4, hb3⟩, rfl⟩)
        case measure => simp [intOf]; omega
    · obtain rfl : k = 16 := by omega
      rw [HN.out] at hown
      go_wp2
      go_ret
      exact ⟨_, rfl, hown, hb⟩

/-- The table of package math/bits. -/
def tzTab : List Nat := [0, 1, 28, 2, 29, 14, 24, 3, 30, 22, 20, 15, 25, 17, 4, 8, 31, 27, 13, 23, 21, 19, 16, 7, 26, 12, 18, 6, 11, 5, 10, 9]
def Tab (w : World) : Prop := ∀ j v, tzTab[j]? = some v → w.cell? ⟨0, j, none⟩ = some (.int .u8 (v : Nat))
theorem Tab.below {w w' : World} {B : Nat} (h : Tab w) (hb : Below B w w') (hB : 0 < B) : Tab w' := fun j v hj => (hb.cell (p := ⟨0, j, none⟩) hB).trans (h j v hj)
theorem Tab.drewN {w : World} (h : Tab w) (q : Nat) : Tab (w.drewN q) := h
theorem Tab.lt {w : World} (h : Tab w) : 0 < w.heap.size := World.block_lt_of_cell? w _ (h 0 0 rfl)
theorem tz_ok : ∀ k : Fin 16, tzTab[2 ^ k.val * 125613361 % 4294967296 / 134217728]? = some k.val := by decide

set_option maxRecDepth 10000 in
theorem tz_any (w : World) (hT : Tab w) (s k m : Nat) (hs : s < 65536) (he : s = 2 ^ k * (2 * m + 1)) : Calls Tryd.prog 20 #[.int .u16 (s : Nat)] w fun e w' => e = .returned (.int .i64 (k : Nat)) ∧ w = w' := by
  have hk := low_lt k m (he ▸ hs)
  have hpos : 0 < s := by rw [he]; exact Nat.mul_pos (Nat.two_pow_pos k) (by omega)
  have h1 : IntKind.u16.wrap (-(s : Int)) = ((65536 - s : Nat) : Int) := by rw [IntKind.wrap_u16]; omega
  have h2 := u16_and_nat s (65536 - s) hs (by omega)
  have h3 := low_and k m (he ▸ hs)
  rw [← he] at h3
  rw [h3] at h2
  have h4 := tz_ok ⟨k, hk⟩
  simp only at h4
  have hd : 2 ^ k * 125613361 % 4294967296 / 134217728 < 32 := by omega
  have h5 := hT _ _ h4
  have hp := Nat.pow_le_pow_right (show 0 < 2 by omega) (show k ≤ 15 by omega)
  clear h3 h4 he hT
  obtain ⟨P, HP⟩ : ∃ P : Nat, Hid (2 ^ k = P) := ⟨_, rfl⟩
  rw [HP.out] at h2 hd h5 hp
  have hsn : ((s : Int) == 0) = false := by simp; omega
  go_enter Tryd.func20, Tryd.ntmps20
  go_wp2
  go_ret
  exact ⟨rfl, rfl⟩

/-- The least node of a set, -1: none. -/
def leastN (s : Nat) : Int := (((nodes s 16)[0]?).map (fun (k : Nat) => (k : Int))).getD (-1)
theorem leastN_some {s k : Nat} (h : (nodes s 16)[0]? = some k) : leastN s = k := by unfold leastN; rw [h]; rfl
theorem leastN_zero : leastN 0 = -1 := by decide
theorem least_zero (w : World) : Calls Tryd.prog 15 #[.int .u16 0] w fun e w' => e = .returned (.int .i64 (-1)) ∧ w = w' := by
  go_enter Tryd.func15, Tryd.ntmps15
  go_wp2
  go_ret
  exact ⟨rfl, rfl⟩
theorem least_any (w : World) (hT : Tab w) (s : Nat) (hs : s < 65536) : Calls Tryd.prog 15 #[.int .u16 (s : Nat)] w fun e w' => e = .returned (.int .i64 (leastN s)) ∧ w = w' := by
  by_cases h0 : s = 0
  · subst h0
    rw [leastN_zero]
    exact least_zero w
  · obtain ⟨k, m, he⟩ := low_bit s (by omega)
    have ht := tz_any w hT s k m hs he
    have hl := low_first k m (he ▸ hs)
    rw [← he] at hl
    rw [leastN_some hl]
    have hsn : ((s : Int) == 0) = false := by simp; omega
    clear he hl hT
    go_enter Tryd.func15, Tryd.ntmps15
    go_wp2_with fail
    refine ht.mono ?_
    rintro e w1 ⟨rfl, rfl⟩
    go_wp2
    go_ret
    exact ⟨rfl, rfl⟩
end Go.Proofs.YtlahdemhigcjnaaDoor
