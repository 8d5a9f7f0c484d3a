/-
  slices.IndexFunc of states, at what cut asks of them; what the statements ask of states.
-/
import Derived.Test.YtlonbbepoamnmaaDoorSRow
namespace Go.Proofs.YtlonbbepoamnmaaDoor
open Go.RowKit Go.Sort
set_option linter.unusedVariables false

set_option maxRecDepth 10000 in
set_option maxHeartbeats 1000000 in
theorem index_none (p : Nat → Prop) (w : World) (ao : Option Addr) (n cap : Nat) (ss : List Sx) (h : SR p w ao n ss) :
    Calls Tryd.prog 102 #[.slice ao n cap, .func (.func 89) #[] #[]] w fun e w' => ((e = .returned (.int .i64 (-1)) ∧ ∀ x ∈ ss, ¬ (x.1 = 0)) ∨ ∃ i y, i < n ∧ e = .returned (.int .i64 (i : Nat)) ∧ (∀ x ∈ ss.take i, ¬ (x.1 = 0)) ∧ ss[i]? = some y ∧ (y.1 = 0)) ∧ Up w w' := by
  have hl := h.1
  have hmax := h.2.1
  go_enter Tryd.func102, Tryd.ntmps102
  go_wp2_with fail
  go_loopw [5, 8] (fun _ iv wr => ∃ k : Nat, k ≤ n ∧ iv = .int .i64 k ∧ (∀ x ∈ ss.take k, ¬ (x.1 = 0)) ∧ Up w wr) (fun _ iv _ => n - (intOf iv).toNat)
  case atStart => exact ⟨0, by omega, rfl, by simp, Up.refl _⟩
  case round =>
    obtain ⟨k, hk, rfl, hno, hu⟩ := hrel
    have HN : Hid (∀ x ∈ ss.take k, ¬ (x.1 = 0)) := hno
    clear hno
    by_cases hlt : k < n
    · have hltI : (k : Int) < (n : Int) := by omega
      obtain ⟨y, hy⟩ : ∃ y, ss[k]? = some y := ⟨ss[k]'(by omega), List.getElem?_eq_getElem (by omega)⟩
      obtain ⟨b, off, hao, _, hc⟩ := (h.up hu.bl).2.2.2 (by omega)
      obtain ⟨c0, c1, c2, c3⟩ := hc k y hy
      have HY : Hid (ss[k]? = some y) := hy
      have hcl := none1_any wr y
      unfold sta at hcl
      subst hao
      clear hc hy h
      have hk0 : ¬ ((k : Int) < 0) := by omega
      cases hd : decide (y.1 = 0) with
      | true =>
        rw [hd] at hcl
        have hin : Hid (y.1 = 0) := by simpa [Hid] using hd
        clear hd
        go_wp2_with fail
        refine hcl.mono ?_
        rintro e w1 ⟨rfl, hb1⟩
        have hu1 := hu.trans hb1
        clear hcl c0 c1 c2 c3 hb1
        go_wp2
        go_ret
        exact ⟨Or.inr ⟨k, y, hlt, rfl, HN.out, HY.out, hin.out⟩, hu1⟩
      | false =>
        rw [hd] at hcl
        have hin : ¬ (y.1 = 0) := by simpa using hd
        have HN' : Hid (∀ x ∈ ss.take (k + 1), ¬ (x.1 = 0)) := by
          intro x hx
          rw [List.take_add_one, HY.out] at hx
          simp only [Option.toList_some, List.mem_append, List.mem_singleton] at hx
          rcases hx with hx | rfl
          · exact HN.out x hx
          · exact hin
        clear hd
        go_wp2_with fail
        refine hcl.mono ?_
        rintro e w1 ⟨rfl, hb1⟩
        have hu1 := hu.trans hb1
        clear hcl c0 c1 c2 c3 hb1 hin
        go_wp2
        go_roundw
        case rel => first | exact ⟨k + 1, by omega, by go_num, HN'.out, hu1⟩ | ((repeat apply Exists.intro); exact ⟨⟨k + 1, by omega, by go_num, HN'.out, hu1⟩, rfl⟩)
        case measure => simp [intOf]; omega
    · obtain rfl : k = n := by omega
      clear h
      go_wp2
      go_ret
      refine ⟨Or.inl ⟨rfl, ?_⟩, hu⟩
      have := HN.out
      rwa [List.take_of_length_le (by omega)] at this

end Go.Proofs.YtlonbbepoamnmaaDoor
