/-
  Contracts: Bytes of package code, and Bytes of the document's answer: how many bytes there are, and the bytes, behind what came, in new memory.
-/
import Derived.Test.YtpdgoalbknopiaaCdRefUint
import Derived.Deep.DeepAppendWide
namespace Go.Proofs.Ytpdgoalbknopiaa.Cd
open Go.RowKit
set_option linter.unusedVariables false

theorem cat_step {w wr w1 : World} {B L : Nat} {zs ys : List UInt8} {v v' : Value} (hbel : Below B w wr) (hB : B ≤ wr.heap.size) (h0 : wr.ownsRow B 5 1 v L (zs.map by8))
    (hown : w1.ownsRow B 5 1 v' (L + ys.length) (zs.map by8 ++ ys.map by8)) (hgrow : wr.grownBy w1 v.ownBlock) :
    w1.ownsRow B 5 1 v' (L + ys.length) ((zs ++ ys).map by8) ∧ Below B w w1 :=
  ⟨by simpa using hown, hbel.grown hgrow hB (fun k hk => (h0.lt k hk).1)⟩

set_option maxHeartbeats 400000 in
theorem bytes_any (w : World) (ao : Option Addr) (n cap : Nat) (xs : List UInt8) (h : Row w ao n cap xs) (bo : Option Addr) (m bcap : Nat) (ys : List UInt8) (hy : Row w bo m bcap ys) (hr : n + 10 ≤ 140737488355328) (hm : m ≤ 2000000) :
    Calls Try.prog 47 #[.slice ao n cap, .slice bo m bcap] w fun e w' => ∃ v, e = .returned v ∧ w'.ownsRow w.heap.size 5 1 v (n + (enc m).length + ys.length) ((xs ++ enc m ++ ys).map by8) ∧ Below w.heap.size w w' := by
  obtain ⟨i0, hi, hz0, hz1, hz2⟩ := info_parts Try.info5
  have hel := enc_length m
  have hyl := hy.1
  go_enter Try.func47, Try.ntmps47
  go_wp2_with fail
  refine (uint_any _ _ _ _ _ h m (by omega) hr).mono ?_
  rintro e w1 ⟨v, rfl, hown, hb⟩
  have hs := hb.size
  have hy1 := hy.below hb (Nat.le_refl _)
  cases bo with
  | none =>
    obtain ⟨rfl, rfl⟩ := hy.2.2.2.1 rfl
    have hy0 : ys = [] := List.eq_nil_of_length_eq_zero hyl
    subst hy0
    go_wp2_with (first | (at_builtin; refine wpList_append_own_none rfl _ _ 27 rfl w.heap.size 5 i0 1 Try.underlying27 hi v _ _ rfl hown rfl ?_))
    go_ret
    exact ⟨v, rfl, by simpa using hown, hb⟩
  | some b =>
    go_wp2_with (first | (at_builtin; refine wpList_append_own_wide _ rfl _ _ 27 rfl w.heap.size 5 i0 (.int .u8 0) 1 1 Try.underlying27 hi hz0 hz1 hz2 rfl (by decide) v _ _ rfl hown b m bcap (ys.map by8) rfl ?f2 ?f3 ?f4 ?f6 ?f7 ?f8 ?_))
    case f2 => simp [hyl]
    case f3 => exact hy1.olds b rfl
    case f4 => exact by8_one ys
    case f6 => unfold maxLen; omega
    case f7 => omega
    case f8 => omega
    · intro v' w2 hown2 hgrow2 _
      have R := cat_step (ys := ys) hb hs hown (by rw [hyl]; simpa using hown2) hgrow2
      clear hown2 hgrow2
      go_wp2
      go_ret
      exact ⟨v', rfl, R⟩

set_option maxHeartbeats 400000 in
theorem refBytes_any (w : World) (bo : Option Addr) (m bcap : Nat) (ys : List UInt8) (hy : Row w bo m bcap ys) (hm : m ≤ 2000000) :
    Calls Try.prog 55 #[.slice bo m bcap] w fun e w' => ∃ v, e = .returned v ∧ w'.ownsRow w.heap.size 5 1 v ((enc m).length + ys.length) ((enc m ++ ys).map by8) ∧ Below w.heap.size w w' := by
  obtain ⟨i0, hi, hz0, hz1, hz2⟩ := info_parts Try.info5
  have hel := enc_length m
  have hyl := hy.1
  go_enter Try.func55, Try.ntmps55
  go_wp2_with fail
  refine (refUint_any _ m (by omega)).mono ?_
  rintro e w1 ⟨v, rfl, hown, hb⟩
  have hs := hb.size
  have hy1 := hy.below hb (Nat.le_refl _)
  cases bo with
  | none =>
    obtain ⟨rfl, rfl⟩ := hy.2.2.2.1 rfl
    have hy0 : ys = [] := List.eq_nil_of_length_eq_zero hyl
    subst hy0
    go_wp2_with (first | (at_builtin; refine wpList_append_own_none rfl _ _ 27 rfl w.heap.size 5 i0 1 Try.underlying27 hi v _ _ rfl hown rfl ?_))
    go_ret
    exact ⟨v, rfl, by simpa using hown, hb⟩
  | some b =>
    go_wp2_with (first | (at_builtin; refine wpList_append_own_wide _ rfl _ _ 27 rfl w.heap.size 5 i0 (.int .u8 0) 1 1 Try.underlying27 hi hz0 hz1 hz2 rfl (by decide) v _ _ rfl hown b m bcap (ys.map by8) rfl ?g2 ?g3 ?g4 ?g6 ?g7 ?g8 ?_))
    case g2 => simp [hyl]
    case g3 => exact hy1.olds b rfl
    case g4 => exact by8_one ys
    case g6 => unfold maxLen; omega
    case g7 => omega
    case g8 => omega
    · intro v' w2 hown2 hgrow2 _
      have R := cat_step (ys := ys) hb hs hown (by rw [hyl]; simpa using hown2) hgrow2
      clear hown2 hgrow2
      go_wp2
      go_ret
      exact ⟨v', rfl, R⟩

end Go.Proofs.Ytpdgoalbknopiaa.Cd
