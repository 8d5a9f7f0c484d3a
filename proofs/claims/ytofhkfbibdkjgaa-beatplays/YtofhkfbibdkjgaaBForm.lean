/-
  Which configurations are right.
-/
import Derived.Test.YtofhkfbibdkjgaaBSet
import Derived.Laws.Rows
namespace Go.Proofs.Ytofhkfbibdkjgaa
open Go.RowKit
set_option linter.unusedVariables false

theorem upTo_yes (w : World) (t n : Int) (h : 1 ≤ n ∧ n ≤ t) : Calls Try.prog 18 #[.int .i64 t, .int .i64 n] w fun e w' => e = .returned (.bool true) ∧ w = w' := by
  obtain ⟨h1, h2⟩ := h
  go_enter Try.func18, Try.ntmps18
  go_wp2
  go_ret
  exact ⟨rfl, rfl⟩
theorem upTo_no (w : World) (t n : Int) (h : ¬ (1 ≤ n ∧ n ≤ t)) : Calls Try.prog 18 #[.int .i64 t, .int .i64 n] w fun e w' => e = .returned (.bool false) ∧ w = w' := by
  by_cases h1 : 1 ≤ n
  · have h2 : ¬ n ≤ t := fun h2 => h ⟨h1, h2⟩
    clear h
    go_enter Try.func18, Try.ntmps18
    go_wp2
    go_ret
    exact ⟨rfl, rfl⟩
  · clear h
    go_enter Try.func18, Try.ntmps18
    go_wp2
    go_ret
    exact ⟨rfl, rfl⟩

def cfg (N B M W R Q : Int) : Value := .agg #[.int .i64 N, .int .i64 B, .int .i64 M, .int .i64 W, .int .i64 R, .int .i64 Q]
/-- A right configuration. -/
def Right (N B M W R Q : Int) : Prop := (1 ≤ N ∧ N ≤ 16) ∧ 1 ≤ B ∧ B < M ∧ M ≤ 1000 ∧ (1 ≤ W ∧ W ≤ 32) ∧ (1 ≤ R ∧ R ≤ 256) ∧ (1 ≤ Q ∧ Q ≤ 256)
instance (N B M W R Q : Int) : Decidable (Right N B M W R Q) := by unfold Right; infer_instance

set_option maxRecDepth 10000 in
theorem form_no1 (w : World) (N B M W R Q : Int)  (h1 : ¬ (1 ≤ N ∧ N ≤ 16)) : Calls Try.prog 10 #[cfg N B M W R Q] w fun e w' => e = .returned (.bool false) ∧ ∃ o, w' = w.alloc o := by
  unfold cfg
  go_enter Try.func10, Try.ntmps10
  go_wp2_with fail
  refine (upTo_no _ 16 N h1).mono ?_
  rintro e w1 ⟨rfl, rfl⟩
  go_wp2
  go_ret
  exact ⟨rfl, _, rfl⟩
set_option maxRecDepth 10000 in
theorem form_no2 (w : World) (N B M W R Q : Int) (h1 : 1 ≤ N ∧ N ≤ 16) (h2 : ¬ (1 ≤ B)) : Calls Try.prog 10 #[cfg N B M W R Q] w fun e w' => e = .returned (.bool false) ∧ ∃ o, w' = w.alloc o := by
  unfold cfg
  go_enter Try.func10, Try.ntmps10
  go_wp2_with fail
  refine (upTo_yes _ 16 N h1).mono ?_
  rintro e w1 ⟨rfl, rfl⟩
  go_wp2
  go_ret
  exact ⟨rfl, _, rfl⟩
set_option maxRecDepth 10000 in
theorem form_no3 (w : World) (N B M W R Q : Int) (h1 : 1 ≤ N ∧ N ≤ 16) (h2 : 1 ≤ B) (h3 : ¬ (B < M)) : Calls Try.prog 10 #[cfg N B M W R Q] w fun e w' => e = .returned (.bool false) ∧ ∃ o, w' = w.alloc o := by
  unfold cfg
  go_enter Try.func10, Try.ntmps10
  go_wp2_with fail
  refine (upTo_yes _ 16 N h1).mono ?_
  rintro e w1 ⟨rfl, rfl⟩
  go_wp2
  go_ret
  exact ⟨rfl, _, rfl⟩
set_option maxRecDepth 10000 in
theorem form_no4 (w : World) (N B M W R Q : Int) (h1 : 1 ≤ N ∧ N ≤ 16) (h2 : 1 ≤ B) (h3 : B < M) (h4 : ¬ (M ≤ 1000)) : Calls Try.prog 10 #[cfg N B M W R Q] w fun e w' => e = .returned (.bool false) ∧ ∃ o, w' = w.alloc o := by
  unfold cfg
  go_enter Try.func10, Try.ntmps10
  go_wp2_with fail
  refine (upTo_yes _ 16 N h1).mono ?_
  rintro e w1 ⟨rfl, rfl⟩
  go_wp2
  go_ret
  exact ⟨rfl, _, rfl⟩
set_option maxRecDepth 10000 in
theorem form_no5 (w : World) (N B M W R Q : Int) (h1 : 1 ≤ N ∧ N ≤ 16) (h2 : 1 ≤ B) (h3 : B < M) (h4 : M ≤ 1000) (h5 : ¬ (1 ≤ W ∧ W ≤ 32)) : Calls Try.prog 10 #[cfg N B M W R Q] w fun e w' => e = .returned (.bool false) ∧ ∃ o, w' = w.alloc o := by
  unfold cfg
  go_enter Try.func10, Try.ntmps10
  go_wp2_with fail
  refine (upTo_yes _ 16 N h1).mono ?_
  rintro e w1 ⟨rfl, rfl⟩
  go_wp2_with fail
  refine (upTo_no _ 32 W h5).mono ?_
  rintro e w1 ⟨rfl, rfl⟩
  go_wp2
  go_ret
  exact ⟨rfl, _, rfl⟩
set_option maxRecDepth 10000 in
theorem form_no6 (w : World) (N B M W R Q : Int) (h1 : 1 ≤ N ∧ N ≤ 16) (h2 : 1 ≤ B) (h3 : B < M) (h4 : M ≤ 1000) (h5 : 1 ≤ W ∧ W ≤ 32) (h6 : ¬ (1 ≤ R ∧ R ≤ 256)) : Calls Try.prog 10 #[cfg N B M W R Q] w fun e w' => e = .returned (.bool false) ∧ ∃ o, w' = w.alloc o := by
  unfold cfg
  go_enter Try.func10, Try.ntmps10
  go_wp2_with fail
  refine (upTo_yes _ 16 N h1).mono ?_
  rintro e w1 ⟨rfl, rfl⟩
  go_wp2_with fail
  refine (upTo_yes _ 32 W h5).mono ?_
  rintro e w1 ⟨rfl, rfl⟩
  go_wp2_with fail
  refine (upTo_no _ 256 R h6).mono ?_
  rintro e w1 ⟨rfl, rfl⟩
  go_wp2
  go_ret
  exact ⟨rfl, _, rfl⟩
set_option maxRecDepth 10000 in
theorem form_no7 (w : World) (N B M W R Q : Int) (h1 : 1 ≤ N ∧ N ≤ 16) (h2 : 1 ≤ B) (h3 : B < M) (h4 : M ≤ 1000) (h5 : 1 ≤ W ∧ W ≤ 32) (h6 : 1 ≤ R ∧ R ≤ 256) (h7 : ¬ (1 ≤ Q ∧ Q ≤ 256)) : Calls Try.prog 10 #[cfg N B M W R Q] w fun e w' => e = .returned (.bool false) ∧ ∃ o, w' = w.alloc o := by
  unfold cfg
  go_enter Try.func10, Try.ntmps10
  go_wp2_with fail
  refine (upTo_yes _ 16 N h1).mono ?_
  rintro e w1 ⟨rfl, rfl⟩
  go_wp2_with fail
  refine (upTo_yes _ 32 W h5).mono ?_
  rintro e w1 ⟨rfl, rfl⟩
  go_wp2_with fail
  refine (upTo_yes _ 256 R h6).mono ?_
  rintro e w1 ⟨rfl, rfl⟩
  go_wp2_with fail
  refine (upTo_no _ 256 Q h7).mono ?_
  rintro e w1 ⟨rfl, rfl⟩
  go_wp2
  go_ret
  exact ⟨rfl, _, rfl⟩
set_option maxRecDepth 10000 in
theorem form_yes (w : World) (N B M W R Q : Int) (h1 : 1 ≤ N ∧ N ≤ 16) (h2 : 1 ≤ B) (h3 : B < M) (h4 : M ≤ 1000) (h5 : 1 ≤ W ∧ W ≤ 32) (h6 : 1 ≤ R ∧ R ≤ 256) (h7 : 1 ≤ Q ∧ Q ≤ 256) : Calls Try.prog 10 #[cfg N B M W R Q] w fun e w' => e = .returned (.bool true) ∧ ∃ o, w' = w.alloc o := by
  unfold cfg
  go_enter Try.func10, Try.ntmps10
  go_wp2_with fail
  refine (upTo_yes _ 16 N h1).mono ?_
  rintro e w1 ⟨rfl, rfl⟩
  go_wp2_with fail
  refine (upTo_yes _ 32 W h5).mono ?_
  rintro e w1 ⟨rfl, rfl⟩
  go_wp2_with fail
  refine (upTo_yes _ 256 R h6).mono ?_
  rintro e w1 ⟨rfl, rfl⟩
  go_wp2_with fail
  refine (upTo_yes _ 256 Q h7).mono ?_
  rintro e w1 ⟨rfl, rfl⟩
  go_wp2
  go_ret
  exact ⟨rfl, _, rfl⟩

theorem form_any (w : World) (N B M W R Q : Int) : Calls Try.prog 10 #[cfg N B M W R Q] w fun e w' => e = .returned (.bool (decide (Right N B M W R Q))) ∧ ∃ o, w' = w.alloc o := by
  by_cases h1 : 1 ≤ N ∧ N ≤ 16
  · by_cases h2 : 1 ≤ B
    · by_cases h3 : B < M
      · by_cases h4 : M ≤ 1000
        · by_cases h5 : 1 ≤ W ∧ W ≤ 32
          · by_cases h6 : 1 ≤ R ∧ R ≤ 256
            · by_cases h7 : 1 ≤ Q ∧ Q ≤ 256
              · rw [decide_eq_true (show Right N B M W R Q from ⟨h1, h2, h3, h4, h5, h6, h7⟩)]; exact form_yes w N B M W R Q h1 h2 h3 h4 h5 h6 h7
              · rw [decide_eq_false (show ¬ Right N B M W R Q from fun h => h7 h.2.2.2.2.2.2)]; exact form_no7 w N B M W R Q h1 h2 h3 h4 h5 h6 h7
            · rw [decide_eq_false (show ¬ Right N B M W R Q from fun h => h6 h.2.2.2.2.2.1)]; exact form_no6 w N B M W R Q h1 h2 h3 h4 h5 h6
          · rw [decide_eq_false (show ¬ Right N B M W R Q from fun h => h5 h.2.2.2.2.1)]; exact form_no5 w N B M W R Q h1 h2 h3 h4 h5
        · rw [decide_eq_false (show ¬ Right N B M W R Q from fun h => h4 h.2.2.2.1)]; exact form_no4 w N B M W R Q h1 h2 h3 h4
      · rw [decide_eq_false (show ¬ Right N B M W R Q from fun h => h3 h.2.2.1)]; exact form_no3 w N B M W R Q h1 h2 h3
    · rw [decide_eq_false (show ¬ Right N B M W R Q from fun h => h2 h.2.1)]; exact form_no2 w N B M W R Q h1 h2
  · rw [decide_eq_false (show ¬ Right N B M W R Q from fun h => h1 h.1)]; exact form_no1 w N B M W R Q h1

end Go.Proofs.Ytofhkfbibdkjgaa
