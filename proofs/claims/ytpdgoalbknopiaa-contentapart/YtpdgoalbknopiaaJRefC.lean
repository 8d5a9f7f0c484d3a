/-
  The document's answers for views' numbers as bytes, and back.
-/
import Derived.Test.YtpdgoalbknopiaaJDec
namespace Go.Proofs.Ytpdgoalbknopiaa
open Go.RowKit
set_option linter.unusedVariables false

set_option maxRecDepth 10000 in
set_option maxHeartbeats 1000000 in
theorem refEncode_any (w : World) (N : Nat) (hN : N < 18446744073709551616) (p : Int) (hp0 : 0 ≤ p) (hp15 : p ≤ 15) :
    Calls Try.prog 42 #[vid N p] w fun e w' => ∃ v, e = .returned v ∧ w'.ownsRow w.heap.size 5 1 v ((Cd.enc N).length + 1) ((Cd.enc N ++ [pb p]).map Cd.by8) ∧ Below w.heap.size w w' := by
  obtain ⟨i0, hi0, hz0, hz1, hz2⟩ := info_parts info5
  have hpb := pb_num p hp0 hp15
  have hel := Cd.enc_length N
  have hwr : IntKind.u8.wrap p = p := IntWalk.u8_in _ (by omega)
  have hb0 : Below w.heap.size w (w.alloc (.cells #[Value.int .u64 (N : Nat), .int .i64 p] 24)) := (Below.refl _ _).alloc (Nat.le_refl _) _
  have c1 := cell_box w #[Value.int .u64 (N : Nat), .int .i64 p] 24 1 _ rfl
  have hru := Cd.refUint_any (w.alloc (.cells #[Value.int .u64 (N : Nat), .int .i64 p] 24)) N hN
  unfold vid
  go_enter Try.func42, Try.ntmps42
  go_wp2_with fail
  refine hru.mono ?_
  rintro e w1 ⟨v1, rfl, hown, hb1⟩
  have d1 := (hb1.cell (World.block_lt_of_cell? _ _ c1)).trans c1
  have bl1 := bl_step hb0 hb1
  obtain ⟨L, HL⟩ : ∃ L, Hid ((Cd.enc N).length = L) := ⟨_, rfl⟩
  rw [HL.out] at hown hel
  obtain ⟨ao1, cap1, hv1⟩ := row_shape hown
  subst hv1
  have hown1 := Cd.owns_mono hown (B' := w.heap.size) (by simp)
  clear hru hown hb1 c1 hb0
  go_wp2_with (first | (at_builtin; refine wpList_append_own_at _ rfl _ _ 27 rfl w.heap.size 5 i0 (.int .u8 0) 1 1 und34 hi0 hz0 hz1 hz2 rfl (by decide) (.slice ao1 L cap1) L ((Cd.enc N).map Cd.by8) rfl ?d1 ⟨w1.heap.size, 0, none⟩ 1 1 [.int .u8 p] rfl rfl ?d3 ?d4 ?d6 ?d7 ?d8 ?_))
  case d1 => exact hown1.alloc _
  case d3 => exact cell_one_new _ _ _
  case d4 => simp [Value.oneCell']
  case d6 => unfold maxLen; omega
  case d7 => omega
  case d8 => have := bl1.size; simp; omega
  intro v' w3 hown3 hgrow hnil hat
  have hbl3 := bl_grown (bl1.alloc bl1.size (.cells #[.int .u8 p] 5)) (by have := bl1.size; simp; omega) hgrow (fun g hg => (hown1.lt g hg).1)
  rw [← hpb] at hown3
  have HE : Hid (w3.ownsRow w.heap.size 5 1 v' ((Cd.enc N).length + 1) ((Cd.enc N ++ [pb p]).map Cd.by8) ∧ Below w.heap.size w w3) := ⟨by rw [HL.out]; simpa using hown3, hbl3⟩
  clear hown3 hgrow hnil hat hbl3 hown1 bl1
  go_wp2
  go_ret
  exact ⟨v', rfl, HE.out⟩

/-- What the document's reader makes of it is the same. -/
theorem dec_ref (st : Option (List UInt8)) : decV st = if (Cd.rInt (Cd.rUint st).2 15).2.isNone || !formV (Cd.rUint st).1 ((Cd.rInt (Cd.rUint st).2 15).1 : Nat) then ((0, 0), none) else (((Cd.rUint st).1, (Cd.rInt (Cd.rUint st).2 15).1), (Cd.rInt (Cd.rUint st).2 15).2) := by
  unfold decV
  generalize (Cd.rUint st).1 = N
  generalize (Cd.rUint st).2 = st1
  unfold Cd.rInt formV
  generalize (Cd.rUint st1).1 = x
  cases (Cd.rUint st1).2 with
  | none => simp
  | some ys =>
    simp only
    have cs : ∀ m : Int, 0 ≤ m → ((m < (x : Int) ∧ (if m < 0 ∨ m < (x : Int) then ((0 : Nat), (none : Option (List UInt8))) else (x, some ys)) = (0, none)) ∨ ((x : Int) ≤ m ∧ (if m < 0 ∨ m < (x : Int) then ((0 : Nat), (none : Option (List UInt8))) else (x, some ys)) = (x, some ys))) := by
      intro m hm
      by_cases h : m < (x : Int)
      · exact .inl ⟨h, if_pos (.inr h)⟩
      · exact .inr ⟨by omega, if_neg (by omega)⟩
    by_cases h0 : N = 0
    · subst h0
      simp only [if_true]
      rcases cs 0 (by omega) with ⟨a1, a2⟩ | ⟨a1, a2⟩
      · rcases cs 15 (by omega) with ⟨b1, b2⟩ | ⟨b1, b2⟩
        · simp only [a2, b2]; simp
        · simp only [a2, b2]; simp; omega
      · obtain rfl : x = 0 := by omega
        simp only [a2]; simp
    · simp only [if_neg h0]
      rcases cs 15 (by omega) with ⟨b1, b2⟩ | ⟨b1, b2⟩
      · simp only [b2]; simp
      · simp only [b2]; simp; omega
end Go.Proofs.Ytpdgoalbknopiaa
