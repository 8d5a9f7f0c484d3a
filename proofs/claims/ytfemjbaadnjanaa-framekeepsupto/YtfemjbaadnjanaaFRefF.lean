/-
  Which states, items and lists are right, by the document's answer.
-/
import Derived.Test.YtfemjbaadnjanaaFRight
namespace Go.Proofs.Ytfemjbaadnjanaa
open Go.RowKit
set_option linter.unusedVariables false
set_option linter.unusedSimpArgs false

def formG (x : Sx) (xs : List Ix) : Bool := decide (0 ≤ x.2.2.1) && decide (x.2.2.1 ≤ 1073741824) && formD x xs
set_option maxRecDepth 10000 in
set_option maxHeartbeats 2000000 in
theorem refForm6G_any (p : Nat → Prop) (w : World) (x : Sx) (xs : List Ix) (h : IR p w x.2.2.2.1 x.2.2.2.2.1 xs):
    Calls Try.prog 57 #[sta x] w fun e w' => e = .returned (.bool (formG x xs)) ∧ Up w w' := by
  have hfo := fun W => refForm_any W x.1 x.2.1
  unfold vid at hfo
  unfold sta at *
  have hl := h.1
  have hmax := h.2.1
  obtain ⟨w0, hw0⟩ : ∃ w0, w.alloc (.cells #[.int .u64 (x.1 : Nat), .int .i64 x.2.1, .int .i64 x.2.2.1, .slice x.2.2.2.1 x.2.2.2.2.1 x.2.2.2.2.2] 52) = w0 := ⟨_, rfl⟩
  have hu0 : Up w w0 := by rw [← hw0]; exact (Up.refl _).alloc _
  have hb0 : Bs w.heap.size x w0 := by rw [← hw0]; exact bs_new w x 52
  have HI : Hid (IR p w0 x.2.2.2.1 x.2.2.2.2.1 xs) := h.keep (Kp.up hu0.bl)
  have HB : Hid (Bs w.heap.size x w0) := hb0
  obtain ⟨r, HR⟩ : ∃ r, Hid (formG x xs = r) := ⟨_, rfl⟩
  rw [HR.out]
  clear h hb0
  go_enter Try.func57, Try.ntmps57
  go_wp2_with fail
  (try simp only [hw0])
  go_loopw [3] (fun iv wr => ∃ k : Nat, k ≤ x.2.2.2.2.1 ∧ iv = .int .i64 k ∧ (∀ y ∈ xs.take k, okF y.1 = true) ∧ Up w0 wr) (fun iv _ => x.2.2.2.2.1 - (intOf iv).toNat)
  case atStart => exact ⟨0, by omega, rfl, by simp, by first | exact Up.refl _ | (rw [hw0]; exact Up.refl _)⟩
  case round =>
    obtain ⟨k, hk, rfl, hno, hu⟩ := hrel
    have HN : Hid (∀ y ∈ xs.take k, okF y.1 = true) := hno
    obtain ⟨c0, c1, c2, c3⟩ := HB.out.up hu
    clear hno
    by_cases hlt : k < x.2.2.2.2.1
    · have hltI : (k : Int) < (x.2.2.2.2.1 : Int) := by omega
      obtain ⟨y, hy⟩ : ∃ y, xs[k]? = some y := ⟨xs[k]'(by omega), List.getElem?_eq_getElem (by omega)⟩
      obtain ⟨b, off, hao, _, hc⟩ := (HI.out.keep (Kp.up hu.bl)).2.2.2 (by omega)
      obtain ⟨d0, d1⟩ := hc k y hy
      have HY : Hid (xs[k]? = some y) := hy
      rw [hao] at c3
      have hk0 : ¬ ((k : Int) < 0) := by omega
      have hbad : okF y.1 = false → r = false := fun hd => by
        have : xs.all (fun y => okF y.1) = false := by rw [List.all_eq_false]; exact ⟨y, List.mem_of_getElem? HY.out, by rw [hd]; simp⟩
        rw [← HR.out, formG, formD, this]; simp
      clear hc hy
      by_cases f0 : y.1 < 0
      · have hr := hbad (by simp [okF]; omega)
        subst hr
        clear HR hbad
        go_wp2
        go_ret
        exact ⟨rfl, hu0.trans hu⟩
      · by_cases f1 : 15 < y.1
        · have hr := hbad (by simp [okF]; omega)
          subst hr
          clear HR hbad
          go_wp2
          go_ret
          exact ⟨rfl, hu0.trans hu⟩
        · have HN' : Hid (∀ z ∈ xs.take (k + 1), okF z.1 = true) := by
            intro z hz
            rw [List.take_add_one, HY.out] at hz
            simp only [Option.toList_some, List.mem_append, List.mem_singleton] at hz
            rcases hz with hz | rfl
            · exact HN.out z hz
            · simp [okF]; omega
          clear hbad
          go_wp2
          go_roundw
          case rel => first | exact ⟨k + 1, by omega, by go_num, HN'.out, hu⟩ | ((repeat apply Exists.intro); exact ⟨⟨k + 1, by omega, by go_num, HN'.out, hu⟩, rfl⟩)
          case measure => simp [intOf]; omega
    · have hkn : k = x.2.2.2.2.1 := by omega
      have hltI : ¬ ((k : Int) < (x.2.2.2.2.1 : Int)) := by omega
      have hall : xs.all (fun y => okF y.1) = true := List.all_eq_true.2 (by have := HN.out; rwa [List.take_of_length_le (by omega)] at this)
      have hr : r = (decide (0 ≤ x.2.2.1) && decide (x.2.2.1 ≤ 1073741824) && (formV x.1 x.2.1 && (decide (0 < x.1) || (decide (x.2.2.1 = 0) && decide (x.2.2.2.2.1 = 0))))) := by rw [← HR.out, formG, formD, hall]; simp
      have hu0r := hu0.trans hu
      have HB1 : Hid (Bs w.heap.size x wr) := HB.out.up hu
      clear HR HI hall HN
      go_wp2_with fail
      refine (hfo _).mono ?_
      rintro e w2 ⟨rfl, hu2⟩
      obtain ⟨c0, c1, c2, c3⟩ := HB1.out.up hu2
      have hu02 := hu0r.trans hu2
      clear hfo hu2 hu0r hu hu0
      by_cases hrange : 0 ≤ x.2.2.1 ∧ x.2.2.1 ≤ 1073741824
      · obtain ⟨hge, hle⟩ := hrange
        rw [decide_eq_true hge, decide_eq_true hle] at hr
        simp only [Bool.true_and] at hr
        cases hv : formV x.1 x.2.1 with
        | false =>
          rw [hv] at hr
          simp only [Bool.false_and] at hr
          subst hr
          go_wp2
          go_ret
          exact ⟨rfl, hu02⟩
        | true =>
          rw [hv] at hr
          simp only [Bool.true_and] at hr
          by_cases hn0 : 0 < x.1
          · rw [decide_eq_true hn0] at hr
            simp only [Bool.true_or] at hr
            subst hr
            have hn0I : (0 : Int) < (x.1 : Int) := by omega
            go_wp2
            go_ret
            exact ⟨rfl, hu02⟩
          · have hn0I : ¬ ((0 : Int) < (x.1 : Int)) := by omega
            rw [decide_eq_false hn0] at hr
            simp only [Bool.false_or] at hr
            by_cases h0 : x.2.2.1 = 0
            · have h0b : (x.2.2.1 == 0) = true := by simpa using h0
              rw [decide_eq_true h0] at hr
              simp only [Bool.true_and] at hr
              have hlb : ((x.2.2.2.2.1 : Int) == 0) = decide (x.2.2.2.2.1 = 0) := by
                by_cases e : x.2.2.2.2.1 = 0
                · rw [e]; rfl
                · rw [decide_eq_false e]; simp [e]
              rw [← hlb] at hr
              subst hr
              clear h0 hlb
              go_wp2
              go_ret
              exact ⟨(by first | rfl | exact ret_bool (by first | rfl | (by_cases e : x.2.2.2.2.1 = 0 <;> simp [e]))), hu02⟩
            · have h0b : (x.2.2.1 == 0) = false := by simpa using h0
              rw [decide_eq_false h0] at hr
              simp only [Bool.false_and] at hr
              subst hr
              go_wp2
              go_ret
              exact ⟨rfl, hu02⟩
      · have hr0 : r = false := by
          rw [hr]
          by_cases a : 0 ≤ x.2.2.1
          · rw [decide_eq_false (show ¬ x.2.2.1 ≤ 1073741824 from fun b => hrange ⟨a, b⟩)]; simp
          · rw [decide_eq_false a]; simp
        subst hr0
        clear hr
        cases hv : formV x.1 x.2.1 with
        | false =>
          go_wp2
          go_ret
          exact ⟨rfl, hu02⟩
        | true =>
          by_cases a : 0 ≤ x.2.2.1
          · have b : ¬ x.2.2.1 ≤ 1073741824 := fun b => hrange ⟨a, b⟩
            go_wp2
            go_ret
            exact ⟨rfl, hu02⟩
          · go_wp2
            go_ret
            exact ⟨rfl, hu02⟩

theorem refForm6S_any (p : Nat → Prop) (w : World) (x : Sx) (d : Sd) (h : SiX p w x d) :
    Calls Try.prog 57 #[sta x] w fun e w' => e = .returned (.bool (formS d)) ∧ Up w w' := by
  obtain ⟨h1, h2, h3, h4⟩ := h
  have hl := h4.len
  obtain ⟨xs, hI, he⟩ := h4.all okF
  have := refForm6G_any p w x xs hI
  have e : formG x xs = formS d := by
    unfold formG formD formS
    rw [he, ← h1, ← h2, ← h3, hl]
    generalize formV x.1 x.2.1 = a
    generalize decide (0 ≤ x.2.2.1) = b
    generalize decide (x.2.2.1 ≤ 1073741824) = c
    cases a <;> cases b <;> cases c <;> simp
  rw [e] at this
  exact this

set_option maxRecDepth 10000 in
set_option maxHeartbeats 1000000 in
theorem refRight_any (p : Nat → Prop) (w : World) (ao : Option Addr) (n cap : Nat) (ds : List Di) (h : ItsX p w ao n ds) :
    Calls Try.prog 24 #[.slice ao n cap] w fun e w' => e = .returned (.bool (itsB ds)) ∧ Up w w' := by
  have hdl := h.len
  obtain ⟨xs, hI, he⟩ := h.all okF
  have hl := hI.1
  have hmax := hI.2.1
  have HI : Hid (IR p w ao n xs) := hI
  obtain ⟨r, HR⟩ : ∃ r, Hid (itsB ds = r) := ⟨_, rfl⟩
  rw [HR.out]
  have HB : Hid (r = (decide (n ≤ 4096) && xs.all (fun x => okF x.1))) := by show r = _; rw [← HR.out, itsB, he, hdl]
  clear h hI he HR hdl
  go_enter Try.func24, Try.ntmps24
  go_wp2_with fail
  go_loopw [3] (fun iv wr => ∃ k : Nat, k ≤ n ∧ iv = .int .i64 k ∧ (∀ y ∈ xs.take k, okF y.1 = true) ∧ Up w wr) (fun iv _ => n - (intOf iv).toNat)
  case atStart => exact ⟨0, by omega, rfl, by simp, Up.refl _⟩
  case round =>
    obtain ⟨k, hk, rfl, hno, hu⟩ := hrel
    have HN : Hid (∀ y ∈ xs.take k, okF y.1 = true) := hno
    clear hno
    by_cases hlt : k < n
    · have hltI : (k : Int) < (n : Int) := by omega
      obtain ⟨y, hy⟩ : ∃ y, xs[k]? = some y := ⟨xs[k]'(by omega), List.getElem?_eq_getElem (by omega)⟩
      obtain ⟨b, off, hao, _, hc⟩ := (HI.out.keep (Kp.up hu.bl)).2.2.2 (by omega)
      obtain ⟨d0, d1⟩ := hc k y hy
      have HY : Hid (xs[k]? = some y) := hy
      have hk0 : ¬ ((k : Int) < 0) := by omega
      have hbad : okF y.1 = false → r = false := fun hd => by
        have : xs.all (fun y => okF y.1) = false := by rw [List.all_eq_false]; exact ⟨y, List.mem_of_getElem? HY.out, by rw [hd]; simp⟩
        rw [HB.out, this]; simp
      subst hao
      clear hc hy HI
      by_cases f0 : y.1 < 0
      · have hr := hbad (by simp [okF]; omega)
        subst hr
        clear hbad HB
        go_wp2
        go_ret
        exact ⟨rfl, hu⟩
      · by_cases f1 : 15 < y.1
        · have hr := hbad (by simp [okF]; omega)
          subst hr
          clear hbad HB
          go_wp2
          go_ret
          exact ⟨rfl, hu⟩
        · have HN' : Hid (∀ z ∈ xs.take (k + 1), okF z.1 = true) := by
            intro z hz
            rw [List.take_add_one, HY.out] at hz
            simp only [Option.toList_some, List.mem_append, List.mem_singleton] at hz
            rcases hz with hz | rfl
            · exact HN.out z hz
            · simp [okF]; omega
          clear hbad HB
          go_wp2
          go_roundw
          case rel => first | exact ⟨k + 1, by omega, by go_num, HN'.out, hu⟩ | ((repeat apply Exists.intro); exact ⟨⟨k + 1, by omega, by go_num, HN'.out, hu⟩, rfl⟩)
          case measure => simp [intOf]; omega
    · obtain rfl : k = n := by omega
      have hall : xs.all (fun y => okF y.1) = true := List.all_eq_true.2 (by have := HN.out; rwa [List.take_of_length_le (by omega)] at this)
      have HR2 : Hid (r = decide (k ≤ 4096)) := by show r = _; rw [HB.out, hall]; simp
      clear HI HB hall HN
      go_wp2
      go_ret
      refine ⟨ret_bool ?_, hu⟩
      rw [HR2.out]
      by_cases h4 : k ≤ 4096
      · rw [decide_eq_true h4]; simp; omega
      · rw [decide_eq_false h4]; simp; omega

set_option maxRecDepth 10000 in
set_option maxHeartbeats 1000000 in
theorem refFine_any (p : Nat → Prop) (w : World) (ao : Option Addr) (n cap : Nat) (ds : List Sd) (h : SsX p w ao n ds) :
    Calls Try.prog 23 #[.slice ao n cap] w fun e w' => e = .returned (.bool (decide (n ≤ 4096) && ds.all stOk)) ∧ Up w w' := by
  obtain ⟨ss, hS, hdl, hsd⟩ := h
  have hl := hS.1
  have hmax := hS.2.1
  have HS : Hid (SR p w ao n ss ∧ ∀ (j : Nat) (x : Sx) (d : Sd), ss[j]? = some x → ds[j]? = some d → SiX p w x d) := ⟨hS, hsd⟩
  obtain ⟨r, HB⟩ : ∃ r, Hid ((decide (n ≤ 4096) && ds.all stOk) = r) := ⟨_, rfl⟩
  rw [HB.out]
  clear hS hsd
  go_enter Try.func23, Try.ntmps23
  go_wp2_with fail
  go_loopw [3] (fun iv wr => ∃ k : Nat, k ≤ n ∧ iv = .int .i64 k ∧ (∀ y ∈ ds.take k, stOk y = true) ∧ Up w wr) (fun iv _ => n - (intOf iv).toNat)
  case atStart => exact ⟨0, by omega, rfl, by simp, Up.refl _⟩
  case round =>
    obtain ⟨k, hk, rfl, hno, hu⟩ := hrel
    have HN : Hid (∀ y ∈ ds.take k, stOk y = true) := hno
    clear hno
    by_cases hlt : k < n
    · have hltI : (k : Int) < (n : Int) := by omega
      obtain ⟨y, hy⟩ : ∃ y, ss[k]? = some y := ⟨ss[k]'(by omega), List.getElem?_eq_getElem (by omega)⟩
      obtain ⟨d, hd⟩ : ∃ d, ds[k]? = some d := ⟨ds[k]'(by omega), List.getElem?_eq_getElem (by omega)⟩
      have HSR : Hid (SR p wr ao n ss) := HS.out.1.up hu.bl
      obtain ⟨b, off, hao, _, hc⟩ := HSR.out.2.2.2 (by omega)
      obtain ⟨c0, c1, c2, c3⟩ := hc k y hy
      have hsi := (HS.out.2 k y d hy hd).keep (Kp.up hu.bl)
      have hcl := refForm6S_any p wr y d hsi
      have hyl := hsi.2.2.2.len
      have hysm := hsi.2.2.2.small
      unfold sta at hcl
      have HY : Hid (ds[k]? = some d) := hd
      have HYS : Hid (ss[k]? = some y) := hy
      have hk0 : ¬ ((k : Int) < 0) := by omega
      have hbad : stOk d = false → r = false := fun hq => by
        have : ds.all stOk = false := by rw [List.all_eq_false]; exact ⟨d, List.mem_of_getElem? HY.out, by rw [hq]; simp⟩
        rw [← HB.out, this]; simp
      subst hao
      clear hc hy hd HS hsi
      cases hf : formS d with
      | false =>
        have hr := hbad (by simp [stOk, hf])
        subst hr
        rw [hf] at hcl
        clear hbad HB hf
        go_wp2_with fail
        refine hcl.mono ?_
        rintro e w1 ⟨rfl, hu1⟩
        have hu01 := hu.trans hu1
        clear hcl hu1 c0 c1 c2 c3
        go_wp2
        go_ret
        exact ⟨rfl, hu01⟩
      | true =>
        rw [hf] at hcl
        go_wp2_with fail
        refine hcl.mono ?_
        rintro e w1 ⟨rfl, hu1⟩
        have hu01 := hu.trans hu1
        obtain ⟨b', off', hao', _, hc'⟩ := (HSR.out.up hu1.bl).2.2.2 (by omega)
        simp only [Option.some.injEq, Addr.mk.injEq, and_true] at hao'
        obtain ⟨rfl, rfl⟩ := hao'
        obtain ⟨_, _, _, e3⟩ := hc' k y HYS.out
        clear hcl hu1 c0 c1 c2 c3 hc'
        by_cases h4 : 4096 < y.2.2.2.2.1
        · have hr := hbad (by unfold stOk; rw [hyl, decide_eq_false (by omega)]; rfl)
          subst hr
          have h4I : (4096 : Int) < (y.2.2.2.2.1 : Int) := by omega
          clear hbad HB hf
          go_wp2
          go_ret
          exact ⟨rfl, hu01⟩
        · have HN' : Hid (∀ z ∈ ds.take (k + 1), stOk z = true) := by
            intro z hz
            rw [List.take_add_one, HY.out] at hz
            simp only [Option.toList_some, List.mem_append, List.mem_singleton] at hz
            rcases hz with hz | rfl
            · exact HN.out z hz
            · unfold stOk; rw [hyl, hf, decide_eq_true (by omega)]; rfl
          have h4I : ¬ (4096 : Int) < (y.2.2.2.2.1 : Int) := by omega
          clear hbad HB hf
          go_wp2
          go_roundw
          case rel => first | exact ⟨k + 1, by omega, by go_num, HN'.out, hu01⟩ | ((repeat apply Exists.intro); exact ⟨⟨k + 1, by omega, by go_num, HN'.out, hu01⟩, rfl⟩)
          case measure => simp [intOf]; omega
    · obtain rfl : k = n := by omega
      have hall : ds.all stOk = true := List.all_eq_true.2 (by have := HN.out; rwa [List.take_of_length_le (by omega)] at this)
      have HR2 : Hid (r = decide (k ≤ 4096)) := by show r = _; rw [← HB.out, hall]; simp
      clear HS HB hall HN
      go_wp2
      go_ret
      refine ⟨ret_bool ?_, hu⟩
      rw [HR2.out]
      by_cases h4 : k ≤ 4096
      · rw [decide_eq_true h4]; simp; omega
      · rw [decide_eq_false h4]; simp; omega
end Go.Proofs.Ytfemjbaadnjanaa
