/-
  Which states are right, by cut.Form and by the document.
-/
import Derived.Test.YtfemjbaadnjanaaSForm
namespace Go.Proofs.Ytfemjbaadnjanaa
open Go.RowKit Go.Sort
set_option linter.unusedVariables false
set_option linter.unusedSimpArgs false

theorem form1R_any (w : World) (x : Ix) : Calls Try.prog 86 #[.agg #[.int .i64 x.1, .slice x.2.1 x.2.2.1 x.2.2.2]] w fun e w' => e = .returned (.bool (!okF x.1)) ∧ Up w w' := by
  obtain ⟨r, HR⟩ : ∃ r, Hid ((!okF x.1) = r) := ⟨_, rfl⟩
  rw [HR.out]
  by_cases h0 : x.1 < 0
  · have hr : r = true := by rw [← HR.out]; simp [okF]; omega
    subst hr
    go_enter Try.func86, Try.ntmps86
    go_wp2
    go_ret
    exact ⟨rfl, (Up.refl _).alloc _⟩
  · by_cases h1 : 16 ≤ x.1
    · have hr : r = true := by rw [← HR.out]; simp [okF]; omega
      subst hr
      go_enter Try.func86, Try.ntmps86
      go_wp2
      go_ret
      exact ⟨ret_bool (by simp [h1]), (Up.refl _).alloc _⟩
    · have hr : r = false := by rw [← HR.out]; simp [okF]; omega
      subst hr
      go_enter Try.func86, Try.ntmps86
      go_wp2
      go_ret
      exact ⟨ret_bool (by simp [h1]), (Up.refl _).alloc _⟩

set_option maxRecDepth 10000 in
set_option maxHeartbeats 1000000 in
theorem indexR_item (p : Nat → Prop) (w : World) (ao : Option Addr) (n cap : Nat) (xs : List Ix) (h : IR p w ao n xs) :
    Calls Try.prog 92 #[.slice ao n cap, .func (.func 86) #[] #[]] w fun e w' => (if xs.all (fun x => okF x.1) = true then e = .returned (.int .i64 (-1)) else ∃ i : Nat, e = .returned (.int .i64 (i : Nat))) ∧ Up w w' := by
  have hl := h.1
  have hmax := h.2.1
  have HX : Hid (∀ (k : Nat) (x : Ix), xs[k]? = some x → okF x.1 = false → xs.all (fun x => okF x.1) = false) := fun k x hx hf => by
    rw [List.all_eq_false]
    exact ⟨x, List.mem_of_getElem? hx, by rw [hf]; simp⟩
  have HA : Hid ((∀ x ∈ xs, okF x.1 = true) → xs.all (fun x => okF x.1) = true) := fun h => List.all_eq_true.2 h
  obtain ⟨r, hr⟩ : ∃ r, xs.all (fun x => okF x.1) = r := ⟨_, rfl⟩
  rw [hr] at HX HA ⊢
  clear hr
  go_enter Try.func92, Try.ntmps92
  go_wp2_with fail
  go_loopw [5, 8] (fun _ iv wr => ∃ k : Nat, k ≤ n ∧ iv = .int .i64 k ∧ (∀ x ∈ xs.take k, okF x.1 = true) ∧ Up w wr) (fun _ iv _ => n - (intOf iv).toNat)
  case atStart => exact ⟨0, by omega, rfl, by simp, Up.refl _⟩
  case round =>
    obtain ⟨k, hk, rfl, hno, hu⟩ := hrel
    have HN : Hid (∀ x ∈ xs.take k, okF x.1 = true) := hno
    clear hno
    by_cases hlt : k < n
    · have hltI : (k : Int) < (n : Int) := by omega
      obtain ⟨y, hy⟩ : ∃ y, xs[k]? = some y := ⟨xs[k]'(by omega), List.getElem?_eq_getElem (by omega)⟩
      obtain ⟨b, off, hao, _, hc⟩ := (h.keep (Kp.up hu.bl)).2.2.2 (by omega)
      obtain ⟨c0, c1⟩ := hc k y hy
      have HY : Hid (xs[k]? = some y) := hy
      have hcl := form1R_any wr y
      subst hao
      clear hc hy h
      have hk0 : ¬ ((k : Int) < 0) := by omega
      cases hd : okF y.1 with
      | false =>
        rw [hd] at hcl
        have hr := HX.out k y HY.out hd
        subst hr
        clear hd HX HA
        go_wp2_with fail
        refine hcl.mono ?_
        rintro e w1 ⟨rfl, hb1⟩
        have hu1 := hu.trans hb1
        clear hcl c0 c1 hb1
        go_wp2
        go_ret
        (try simp only [Bool.false_eq_true, if_false])
        exact ⟨⟨k, rfl⟩, hu1⟩
      | true =>
        rw [hd] at hcl
        have HN' : Hid (∀ x ∈ xs.take (k + 1), okF x.1 = true) := by
          intro x hx
          rw [List.take_add_one, HY.out] at hx
          simp only [Option.toList_some, List.mem_append, List.mem_singleton] at hx
          rcases hx with hx | rfl
          · exact HN.out x hx
          · exact hd
        clear hd HX HA
        go_wp2_with fail
        refine hcl.mono ?_
        rintro e w1 ⟨rfl, hb1⟩
        have hu1 := hu.trans hb1
        clear hcl c0 c1 hb1
        go_wp2
        go_roundw
        case rel => first | exact ⟨k + 1, by omega, by go_num, HN'.out, hu1⟩ | ((repeat apply Exists.intro); exact ⟨⟨k + 1, by omega, by go_num, HN'.out, hu1⟩, rfl⟩)
        case measure => simp [intOf]; omega
    · obtain rfl : k = n := by omega
      have hr := HA.out (by have := HN.out; rwa [List.take_of_length_le (by omega)] at this)
      subst hr
      clear h HX HA
      go_wp2
      go_ret
      (try simp only [if_true])
      exact ⟨rfl, hu⟩
theorem containsR_any (p : Nat → Prop) (w : World) (ao : Option Addr) (n cap : Nat) (xs : List Ix) (h : IR p w ao n xs) :
    Calls Try.prog 85 #[.slice ao n cap, .func (.func 86) #[] #[]] w fun e w' => e = .returned (.bool (!xs.all (fun x => okF x.1))) ∧ Up w w' := by
  have hix := indexR_item p w ao n cap xs h
  clear h
  cases hr : xs.all (fun x => okF x.1) with
  | true =>
    rw [hr] at hix
    simp only [if_true] at hix
    clear hr
    go_enter Try.func85, Try.ntmps85
    go_wp2_with fail
    refine hix.mono ?_
    rintro e w1 ⟨rfl, hu⟩
    clear hix
    go_wp2
    go_ret
    exact ⟨ret_bool (by simp), hu⟩
  | false =>
    rw [hr] at hix
    simp only [Bool.false_eq_true, if_false] at hix
    clear hr
    go_enter Try.func85, Try.ntmps85
    go_wp2_with fail
    refine hix.mono ?_
    rintro e w1 ⟨⟨i, rfl⟩, hu⟩
    have hi : ¬ ((i : Int) < 0) := by omega
    clear hix
    go_wp2
    go_ret
    exact ⟨ret_bool (by simp), hu⟩

end Go.Proofs.Ytfemjbaadnjanaa
