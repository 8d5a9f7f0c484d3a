/-
  slices.IndexFunc and slices.DeleteFunc of labels, at what among tells.
-/
import Derived.Test.YtdnhhbpnefhjlaaLAmong
import Derived.Laws.CopyRow
import Derived.Lib.SliceRun
namespace Go.Proofs.Ytdnhhbpnefhjlaa
open Go.RowKit Go.Sort
set_option linter.unusedVariables false

set_option maxRecDepth 10000 in
set_option maxHeartbeats 1000000 in
theorem indexFunc_any (w : World) (ao : Option Addr) (n cap : Nat) (ls : List Lb) (h : LR w ao n ls) (hok : ∀ x ∈ ls, OkL x) (B m k0 : Nat) (S : List Lb) (hB : w.cell? ⟨B, 0, none⟩ = some (.map (some m))) (hS : SetIs w m k0 S) :
    Calls Try.prog 58 #[.slice ao n cap, .func (.func 59) #[] #[.pointer (some ⟨B, 0, none⟩)]] w fun e w' => ((e = .returned (.int .i64 (-1)) ∧ ∀ x ∈ ls, x ∉ S) ∨ ∃ i y, i < n ∧ e = .returned (.int .i64 (i : Nat)) ∧ (∀ x ∈ ls.take i, x ∉ S) ∧ ls[i]? = some y ∧ y ∈ S) ∧ Up w w' := by
  have hl := h.1
  have hmax := h.2.1
  go_enter Try.func58, Try.ntmps58
  go_wp2_with fail
  go_loopw [5, 8] (fun _ iv wr => ∃ k : Nat, k ≤ n ∧ iv = .int .i64 k ∧ (∀ x ∈ ls.take k, x ∉ S) ∧ Up w wr) (fun _ iv _ => n - (intOf iv).toNat)
  case atStart => exact ⟨0, by omega, rfl, by simp, Up.refl _⟩
  case round =>
    obtain ⟨k, hk, rfl, hno, hu⟩ := hrel
    have HN : Hid (∀ x ∈ ls.take k, x ∉ S) := hno
    clear hno
    by_cases hlt : k < n
    · have hltI : (k : Int) < (n : Int) := by omega
      obtain ⟨y, hy⟩ : ∃ y, ls[k]? = some y := ⟨ls[k]'(by omega), List.getElem?_eq_getElem (by omega)⟩
      obtain ⟨b, off, hao, hc⟩ := (h.up hu.bl).2.2 (by omega)
      obtain ⟨c0, c1, c2, c3⟩ := hc k y hy
      have HY : Hid (ls[k]? = some y) := hy
      have hcl := closure_any wr B m k0 S (hu.cell hB) (hS.of_block (hu.bl.block m hS.lt)) y (hok y (List.mem_of_getElem? hy))
      unfold lab at hcl
      subst hao
      clear hc hy h hok hS hB
      have hk0 : ¬ ((k : Int) < 0) := by omega
      cases hd : decide (y ∈ S) with
      | true =>
        rw [hd] at hcl
        have hin : y ∈ S := by simpa using hd
        clear hd
        go_wp2_with fail
        refine hcl.mono ?_
        rintro e w1 ⟨rfl, hb1⟩
        have hu1 := hu.trans hb1
        clear hcl c0 c1 c2 c3 hb1
        go_wp2
        go_ret
        exact ⟨Or.inr ⟨k, y, hlt, rfl, HN.out, HY.out, hin⟩, hu1⟩
      | false =>
        rw [hd] at hcl
        have hin : y ∉ S := by simpa using hd
        have HN' : Hid (∀ x ∈ ls.take (k + 1), x ∉ S) := by
          intro x hx
          rw [List.take_add_one, HY.out] at hx
          simp at hx
          rcases hx with hx | rfl
          · exact HN.out x hx
          · exact hin
        clear hd
        go_wp2_with fail
        refine hcl.mono ?_
        rintro e w1 ⟨rfl, hb1⟩
        have hu1 := hu.trans hb1
        clear hcl c0 c1 c2 c3 hb1
        go_wp2
        go_roundw
        case rel => first | exact ⟨k + 1, by omega, by go_num, HN'.out, hu1⟩ | ((repeat apply Exists.intro); exact ⟨⟨k + 1, by omega, by go_num, HN'.out, hu1⟩, rfl⟩)
        case measure => simp [intOf]; omega
    · obtain rfl : k = n := by omega
      clear h hok hS hB
      go_wp2
      go_ret
      refine ⟨Or.inl ⟨rfl, ?_⟩, hu⟩
      have := HN.out
      rwa [List.take_of_length_le (by omega)] at this
end Go.Proofs.Ytdnhhbpnefhjlaa
