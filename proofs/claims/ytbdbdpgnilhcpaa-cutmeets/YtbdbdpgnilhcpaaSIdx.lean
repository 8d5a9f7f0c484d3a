/-
  slices.IndexFunc of states, at what cut asks of them; what the statements ask of states.
-/
import Derived.Test.YtbdbdpgnilhcpaaSRow
namespace Go.Proofs.Ytbdbdpgnilhcpaa
open Go.RowKit Go.Sort
set_option linter.unusedVariables false

set_option maxRecDepth 10000 in
set_option maxHeartbeats 1000000 in
theorem index_none (p : Nat → Prop) (w : World) (ao : Option Addr) (n cap : Nat) (ss : List Sx) (h : SR p w ao n ss) :
    Calls Try.prog 39 #[.slice ao n cap, .func (.func 29) #[] #[]] w fun e w' => ((e = .returned (.int .i64 (-1)) ∧ ∀ x ∈ ss, ¬ (x.1 = 0)) ∨ ∃ i y, i < n ∧ e = .returned (.int .i64 (i : Nat)) ∧ (∀ x ∈ ss.take i, ¬ (x.1 = 0)) ∧ ss[i]? = some y ∧ (y.1 = 0)) ∧ Up w w' := by
  have hl := h.1
  have hmax := h.2.1
  go_enter Try.func39, Try.ntmps39
  go_wp2_with fail
  go_loopw [5, 8] (fun _ iv wr => ∃ k : Nat, k ≤ n ∧ iv = .int .i64 k ∧ (∀ x ∈ ss.take k, ¬ (x.1 = 0)) ∧ Up w wr) (fun _ iv _ => n - (intOf iv).toNat)
  case atStart => exact ⟨0, by omega, rfl, by simp, Up.refl _⟩
  case round =>
    obtain ⟨k, hk, rfl, hno, hu⟩ := hrel
    have HN : Hid (∀ x ∈ ss.take k, ¬ (x.1 = 0)) := hno
    clear hno
    by_cases hlt : k < n
    · have hltI : (k : Int) < (n : Int) := by omega
      obtain ⟨y, hy⟩ : ∃ y, ss[k]? = some y := ⟨ss[k]'(by omega), List.getElem?_eq_getElem (by omega)⟩
      obtain ⟨b, off, hao, _, hc⟩ := (h.up hu.bl).2.2.2 (by omega)
      obtain ⟨c0, c1, c2, c3⟩ := hc k y hy
      have HY : Hid (ss[k]? = some y) := hy
      have hcl := none1_any wr y
      unfold sta at hcl
      subst hao
      clear hc hy h
      have hk0 : ¬ ((k : Int) < 0) := by omega
      cases hd : decide (y.1 = 0) with
      | true =>
        rw [hd] at hcl
        have hin : Hid (y.1 = 0) := by simpa [Hid] using hd
        clear hd
        go_wp2_with fail
        refine hcl.mono ?_
        rintro e w1 ⟨rfl, hb1⟩
        have hu1 := hu.trans hb1
        clear hcl c0 c1 c2 c3 hb1
        go_wp2
        go_ret
        exact ⟨Or.inr ⟨k, y, hlt, rfl, HN.out, HY.out, hin.out⟩, hu1⟩
      | false =>
        rw [hd] at hcl
        have hin : ¬ (y.1 = 0) := by simpa using hd
        have HN' : Hid (∀ x ∈ ss.take (k + 1), ¬ (x.1 = 0)) := by
          intro x hx
          rw [List.take_add_one, HY.out] at hx
          simp only [Option.toList_some, List.mem_append, List.mem_singleton] at hx
          rcases hx with hx | rfl
          · exact HN.out x hx
          · exact hin
        clear hd
        go_wp2_with fail
        refine hcl.mono ?_
        rintro e w1 ⟨rfl, hb1⟩
        have hu1 := hu.trans hb1
        clear hcl c0 c1 c2 c3 hb1 hin
        go_wp2
        go_roundw
        case rel => first | exact ⟨k + 1, by omega, by go_num, HN'.out, hu1⟩ | ((repeat apply Exists.intro); exact ⟨⟨k + 1, by omega, by go_num, HN'.out, hu1⟩, rfl⟩)
        case measure => simp [intOf]; omega
    · obtain rfl : k = n := by omega
      clear h
      go_wp2
      go_ret
      refine ⟨Or.inl ⟨rfl, ?_⟩, hu⟩
      have := HN.out
      rwa [List.take_of_length_le (by omega)] at this

set_option maxRecDepth 10000 in
set_option maxHeartbeats 1000000 in
theorem index_view (p : Nat → Prop) (w : World) (ao : Option Addr) (n cap : Nat) (ss : List Sx) (h : SR p w ao n ss) (B vn : Nat) (vp : Int) (h0 : w.cell? ⟨B, 0, none⟩ = some (.int .u64 (vn : Nat))) (h1 : w.cell? ⟨B, 1, none⟩ = some (.int .i64 vp)) :
    Calls Try.prog 39 #[.slice ao n cap, .func (.func 40) #[] #[.pointer (some ⟨B, 0, none⟩)]] w fun e w' => ((e = .returned (.int .i64 (-1)) ∧ ∀ x ∈ ss, ¬ (x.1 = vn ∧ x.2.1 = vp)) ∨ ∃ i y, i < n ∧ e = .returned (.int .i64 (i : Nat)) ∧ (∀ x ∈ ss.take i, ¬ (x.1 = vn ∧ x.2.1 = vp)) ∧ ss[i]? = some y ∧ (y.1 = vn ∧ y.2.1 = vp)) ∧ Up w w' := by
  have hl := h.1
  have hmax := h.2.1
  go_enter Try.func39, Try.ntmps39
  go_wp2_with fail
  go_loopw [5, 8] (fun _ iv wr => ∃ k : Nat, k ≤ n ∧ iv = .int .i64 k ∧ (∀ x ∈ ss.take k, ¬ (x.1 = vn ∧ x.2.1 = vp)) ∧ Up w wr) (fun _ iv _ => n - (intOf iv).toNat)
  case atStart => exact ⟨0, by omega, rfl, by simp, Up.refl _⟩
  case round =>
    obtain ⟨k, hk, rfl, hno, hu⟩ := hrel
    have HN : Hid (∀ x ∈ ss.take k, ¬ (x.1 = vn ∧ x.2.1 = vp)) := hno
    clear hno
    by_cases hlt : k < n
    · have hltI : (k : Int) < (n : Int) := by omega
      obtain ⟨y, hy⟩ : ∃ y, ss[k]? = some y := ⟨ss[k]'(by omega), List.getElem?_eq_getElem (by omega)⟩
      obtain ⟨b, off, hao, _, hc⟩ := (h.up hu.bl).2.2.2 (by omega)
      obtain ⟨c0, c1, c2, c3⟩ := hc k y hy
      have HY : Hid (ss[k]? = some y) := hy
      have hcl := rest1_any wr B vn vp (hu.cell h0) (hu.cell h1) y
      unfold sta at hcl
      subst hao
      clear hc hy h h0 h1
      have hk0 : ¬ ((k : Int) < 0) := by omega
      cases hd : decide (y.1 = vn ∧ y.2.1 = vp) with
      | true =>
        rw [hd] at hcl
        have hin : Hid (y.1 = vn ∧ y.2.1 = vp) := by simpa [Hid] using hd
        clear hd
        go_wp2_with fail
        refine hcl.mono ?_
        rintro e w1 ⟨rfl, hb1⟩
        have hu1 := hu.trans hb1
        clear hcl c0 c1 c2 c3 hb1
        go_wp2
        go_ret
        exact ⟨Or.inr ⟨k, y, hlt, rfl, HN.out, HY.out, hin.out⟩, hu1⟩
      | false =>
        rw [hd] at hcl
        have hin : ¬ (y.1 = vn ∧ y.2.1 = vp) := by simpa using hd
        have HN' : Hid (∀ x ∈ ss.take (k + 1), ¬ (x.1 = vn ∧ x.2.1 = vp)) := by
          intro x hx
          rw [List.take_add_one, HY.out] at hx
          simp only [Option.toList_some, List.mem_append, List.mem_singleton] at hx
          rcases hx with hx | rfl
          · exact HN.out x hx
          · exact hin
        clear hd
        go_wp2_with fail
        refine hcl.mono ?_
        rintro e w1 ⟨rfl, hb1⟩
        have hu1 := hu.trans hb1
        clear hcl c0 c1 c2 c3 hb1 hin
        go_wp2
        go_roundw
        case rel => first | exact ⟨k + 1, by omega, by go_num, HN'.out, hu1⟩ | ((repeat apply Exists.intro); exact ⟨⟨k + 1, by omega, by go_num, HN'.out, hu1⟩, rfl⟩)
        case measure => simp [intOf]; omega
    · obtain rfl : k = n := by omega
      clear h h0 h1
      go_wp2
      go_ret
      refine ⟨Or.inl ⟨rfl, ?_⟩, hu⟩
      have := HN.out
      rwa [List.take_of_length_le (by omega)] at this

/-- Are states not too many, with floors that aren't too far? -/
def FlOk (ss : List Sx) : Prop := ∀ x ∈ ss, 0 ≤ x.2.2.1 ∧ x.2.2.1 ≤ 1073741824
instance (ss : List Sx) : Decidable (FlOk ss) := by unfold FlOk; infer_instance
def rightB (ss : List Sx) (n : Nat) : Bool := decide (FlOk ss) && decide (n ≤ 40)
theorem right_bad {ss : List Sx} {n k : Nat} {y : Sx} (hy : ss[k]? = some y) (h : y.2.2.1 < 0 ∨ 1073741824 < y.2.2.1) : rightB ss n = false := by
  have : ¬ FlOk ss := fun hf => by have := hf y (List.mem_of_getElem? hy); omega
  simp [rightB, this]

set_option maxRecDepth 10000 in
set_option maxHeartbeats 1000000 in
theorem right_any (p : Nat → Prop) (w : World) (ao : Option Addr) (n cap : Nat) (ss : List Sx) (h : SR p w ao n ss) :
    Calls Try.prog 11 #[.slice ao n cap] w fun e w' => e = .returned (.bool (rightB ss n)) ∧ Up w w' := by
  obtain ⟨r, HD⟩ : ∃ r, Hid (rightB ss n = r) := ⟨_, rfl⟩
  rw [HD.out]
  have hl := h.1
  have hmax := h.2.1
  go_enter Try.func11, Try.ntmps11
  go_wp2_with fail
  go_loopw [3] (fun iv wr => ∃ k : Nat, k ≤ n ∧ iv = .int .i64 k ∧ FlOk (ss.take k) ∧ Up w wr) (fun iv _ => n - (intOf iv).toNat)
  case atStart => exact ⟨0, by omega, rfl, by simp [FlOk], Up.refl _⟩
  case round =>
    obtain ⟨k, hk, rfl, hfl, hu⟩ := hrel
    have HN : Hid (FlOk (ss.take k)) := hfl
    clear hfl
    by_cases hlt : k < n
    · have hltI : (k : Int) < (n : Int) := by omega
      obtain ⟨y, hy⟩ : ∃ y, ss[k]? = some y := ⟨ss[k]'(by omega), List.getElem?_eq_getElem (by omega)⟩
      obtain ⟨b, off, hao, _, hc⟩ := (h.up hu.bl).2.2.2 (by omega)
      obtain ⟨c0, c1, c2, c3⟩ := hc k y hy
      have HY : Hid (ss[k]? = some y) := hy
      subst hao
      clear hc hy h
      have hk0 : ¬ ((k : Int) < 0) := by omega
      by_cases f0 : y.2.2.1 < 0
      · go_wp2
        go_ret
        exact ⟨ret_bool (by rw [← HD.out, right_bad HY.out (.inl f0)]), hu⟩
      · by_cases f1 : 1073741824 < y.2.2.1
        · go_wp2
          go_ret
          exact ⟨ret_bool (by rw [← HD.out, right_bad HY.out (.inr f1)]), hu⟩
        · have HN' : Hid (FlOk (ss.take (k + 1))) := by
            intro x hx
            rw [List.take_add_one, HY.out] at hx
            simp only [Option.toList_some, List.mem_append, List.mem_singleton] at hx
            rcases hx with hx | rfl
            · exact HN.out x hx
            · exact ⟨by omega, by omega⟩
          go_wp2
          go_roundw
          case rel => first | exact ⟨k + 1, by omega, by go_num, HN'.out, hu⟩ | ((repeat apply Exists.intro); exact ⟨⟨k + 1, by omega, by go_num, HN'.out, hu⟩, rfl⟩)
          case measure => simp [intOf]; omega
    · obtain rfl : k = n := by omega
      clear h
      by_cases h40 : k ≤ 40
      · have h40I : (k : Int) ≤ 40 := by omega
        have HF : Hid (FlOk ss) := by have := HN.out; rwa [List.take_of_length_le (by omega)] at this
        go_wp2
        go_ret
        exact ⟨ret_bool (by rw [← HD.out]; simp [rightB, HF.out, h40]), hu⟩
      · have h40I : ¬ ((k : Int) ≤ 40) := by omega
        go_wp2
        go_ret
        exact ⟨ret_bool (by rw [← HD.out]; simp [rightB, h40]), hu⟩
end Go.Proofs.Ytbdbdpgnilhcpaa
