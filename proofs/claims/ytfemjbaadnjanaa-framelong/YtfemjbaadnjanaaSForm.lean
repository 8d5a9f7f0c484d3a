/-
  Which states are right, by cut.Form and by the document.
-/
import Derived.Test.YtfemjbaadnjanaaSFormV
namespace Go.Proofs.Ytfemjbaadnjanaa
open Go.RowKit Go.Sort
set_option linter.unusedVariables false
set_option linter.unusedSimpArgs false

set_option maxRecDepth 10000 in
theorem refForm_any (w : World) (n : Nat) (p : Int) : Calls Try.prog 22 #[vid n p] w fun e w' => e = .returned (.bool (formV n p)) ∧ Up w w' := by
  unfold formV vid
  by_cases h0 : n = 0
  · subst h0
    have e : (decide (0 ≤ p) && decide (p ≤ if (0 : Nat) = 0 then 0 else 15)) = (p == 0) := by
      rw [Bool.eq_iff_iff]; simp; omega
    rw [e]
    clear e
    go_enter Try.func22, Try.ntmps22
    go_wp2
    go_ret
    exact ⟨rfl, (Up.refl _).alloc _⟩
  · rw [if_neg h0]
    have hI : ((n : Int) == 0) = false := by simp; omega
    by_cases h1 : 0 ≤ p
    · rw [show decide (0 ≤ p) = true by simpa using h1]
      go_enter Try.func22, Try.ntmps22
      go_wp2
      go_ret
      exact ⟨ret_bool (by simp), (Up.refl _).alloc _⟩
    · rw [show decide (0 ≤ p) = false by simpa using h1]
      go_enter Try.func22, Try.ntmps22
      go_wp2
      go_ret
      exact ⟨ret_bool (by simp), (Up.refl _).alloc _⟩

theorem great_any (w : World) (n : Nat) : Calls Try.prog 84 #[.int .u64 (n : Nat)] w fun e w' => e = .returned (.int .i64 (if n = 0 then 0 else 15)) ∧ w = w' := by
  by_cases h0 : n = 0
  · subst h0
    go_enter Try.func84, Try.ntmps84
    go_wp2
    go_ret
    exact ⟨rfl, rfl⟩
  · rw [if_neg h0]
    have hI : ((n : Int) == 0) = false := by simp; omega
    go_enter Try.func84, Try.ntmps84
    go_wp2
    go_ret
    exact ⟨rfl, rfl⟩

set_option maxRecDepth 10000 in
theorem form_any (w : World) (n : Nat) (p : Int) : Calls Try.prog 70 #[vid n p] w fun e w' => e = .returned (.bool (formV n p)) ∧ Up w w' := by
  have hg := fun W => great_any W n
  unfold formV vid
  generalize (if n = 0 then (0 : Int) else 15) = g at *
  by_cases h1 : 0 ≤ p
  · have hd : decide (0 ≤ p) = true := by simpa using h1
    rw [hd]
    have hgs := fun W => (hg W).mono (fun e w' ⟨a, b⟩ => (⟨a, b.symm⟩ : e = _ ∧ w' = W))
    go_enter Try.func70, Try.ntmps70
    go_wp2_with fail
    go_quiet (first | (go_at_call 84; refine Calls.quiet_of_same (hgs _)))
    go_wp2
    go_ret
    exact ⟨ret_bool (by simp), ((Up.refl _).alloc _).drewN _⟩
  · have hd : decide (0 ≤ p) = false := by simpa using h1
    rw [hd]
    have hgs := fun W => (hg W).mono (fun e w' ⟨a, b⟩ => (⟨a, b.symm⟩ : e = _ ∧ w' = W))
    go_enter Try.func70, Try.ntmps70
    go_wp2_with fail
    go_quiet (first | (go_at_call 84; refine Calls.quiet_of_same (hgs _)))
    go_wp2
    go_ret
    exact ⟨ret_bool (by simp), ((Up.refl _).alloc _).drewN _⟩


/-- Whom an item is from. -/
def okF (f : Int) : Bool := decide (0 ≤ f) && decide (f ≤ 15)
theorem form1_any (w : World) (x : Ix) : Calls Try.prog 90 #[.agg #[.int .i64 x.1, .slice x.2.1 x.2.2.1 x.2.2.2]] w fun e w' => e = .returned (.bool (!okF x.1)) ∧ Up w w' := by
  obtain ⟨r, HR⟩ : ∃ r, Hid ((!okF x.1) = r) := ⟨_, rfl⟩
  rw [HR.out]
  by_cases h0 : x.1 < 0
  · have hr : r = true := by rw [← HR.out]; simp [okF]; omega
    subst hr
    go_enter Try.func90, Try.ntmps90
    go_wp2
    go_ret
    exact ⟨rfl, (Up.refl _).alloc _⟩
  · by_cases h1 : 16 ≤ x.1
    · have hr : r = true := by rw [← HR.out]; simp [okF]; omega
      subst hr
      go_enter Try.func90, Try.ntmps90
      go_wp2
      go_ret
      exact ⟨ret_bool (by simp [h1]), (Up.refl _).alloc _⟩
    · have hr : r = false := by rw [← HR.out]; simp [okF]; omega
      subst hr
      go_enter Try.func90, Try.ntmps90
      go_wp2
      go_ret
      exact ⟨ret_bool (by simp [h1]), (Up.refl _).alloc _⟩

set_option maxRecDepth 10000 in
set_option maxHeartbeats 1000000 in
theorem index_item (p : Nat → Prop) (w : World) (ao : Option Addr) (n cap : Nat) (xs : List Ix) (h : IR p w ao n xs) :
    Calls Try.prog 92 #[.slice ao n cap, .func (.func 90) #[] #[]] w fun e w' => (if xs.all (fun x => okF x.1) = true then e = .returned (.int .i64 (-1)) else ∃ i : Nat, e = .returned (.int .i64 (i : Nat))) ∧ Up w w' := by
  have hl := h.1
  have hmax := h.2.1
  have HX : Hid (∀ (k : Nat) (x : Ix), xs[k]? = some x → okF x.1 = false → xs.all (fun x => okF x.1) = false) := fun k x hx hf => by
    rw [List.all_eq_false]
    exact ⟨x, List.mem_of_getElem? hx, by rw [hf]; simp⟩
  have HA : Hid ((∀ x ∈ xs, okF x.1 = true) → xs.all (fun x => okF x.1) = true) := fun h => List.all_eq_true.2 h
  obtain ⟨r, hr⟩ : ∃ r, xs.all (fun x => okF x.1) = r := ⟨_, rfl⟩
  rw [hr] at HX HA ⊢
  clear hr
  go_enter Try.func92, Try.ntmps92
  go_wp2_with fail
  go_loopw [5, 8] (fun _ iv wr => ∃ k : Nat, k ≤ n ∧ iv = .int .i64 k ∧ (∀ x ∈ xs.take k, okF x.1 = true) ∧ Up w wr) (fun _ iv _ => n - (intOf iv).toNat)
  case atStart => exact ⟨0, by omega, rfl, by simp, Up.refl _⟩
  case round =>
    obtain ⟨k, hk, rfl, hno, hu⟩ := hrel
    have HN : Hid (∀ x ∈ xs.take k, okF x.1 = true) := hno
    clear hno
    by_cases hlt : k < n
    · have hltI : (k : Int) < (n : Int) := by omega
      obtain ⟨y, hy⟩ : ∃ y, xs[k]? = some y := ⟨xs[k]'(by omega), List.getElem?_eq_getElem (by omega)⟩
      obtain ⟨b, off, hao, _, hc⟩ := (h.keep (Kp.up hu.bl)).2.2.2 (by omega)
      obtain ⟨c0, c1⟩ := hc k y hy
      have HY : Hid (xs[k]? = some y) := hy
      have hcl := form1_any wr y
      subst hao
      clear hc hy h
      have hk0 : ¬ ((k : Int) < 0) := by omega
      cases hd : okF y.1 with
      | false =>
        rw [hd] at hcl
        have hr := HX.out k y HY.out hd
        subst hr
        clear hd HX HA
        go_wp2_with fail
        refine hcl.mono ?_
        rintro e w1 ⟨rfl, hb1⟩
        have hu1 := hu.trans hb1
        clear hcl c0 c1 hb1
        go_wp2
        go_ret
        (try simp only [Bool.false_eq_true, if_false])
        exact ⟨⟨k, rfl⟩, hu1⟩
      | true =>
        rw [hd] at hcl
        have HN' : Hid (∀ x ∈ xs.take (k + 1), okF x.1 = true) := by
          intro x hx
          rw [List.take_add_one, HY.out] at hx
          simp only [Option.toList_some, List.mem_append, List.mem_singleton] at hx
          rcases hx with hx | rfl
          · exact HN.out x hx
          · exact hd
        clear hd HX HA
        go_wp2_with fail
        refine hcl.mono ?_
        rintro e w1 ⟨rfl, hb1⟩
        have hu1 := hu.trans hb1
        clear hcl c0 c1 hb1
        go_wp2
        go_roundw
        case rel => first | exact ⟨k + 1, by omega, by go_num, HN'.out, hu1⟩ | ((repeat apply Exists.intro); exact ⟨⟨k + 1, by omega, by go_num, HN'.out, hu1⟩, rfl⟩)
        case measure => simp [intOf]; omega
    · obtain rfl : k = n := by omega
      have hr := HA.out (by have := HN.out; rwa [List.take_of_length_le (by omega)] at this)
      subst hr
      clear h HX HA
      go_wp2
      go_ret
      (try simp only [if_true])
      exact ⟨rfl, hu⟩
theorem contains_any (p : Nat → Prop) (w : World) (ao : Option Addr) (n cap : Nat) (xs : List Ix) (h : IR p w ao n xs) :
    Calls Try.prog 85 #[.slice ao n cap, .func (.func 90) #[] #[]] w fun e w' => e = .returned (.bool (!xs.all (fun x => okF x.1))) ∧ Up w w' := by
  have hix := index_item p w ao n cap xs h
  clear h
  cases hr : xs.all (fun x => okF x.1) with
  | true =>
    rw [hr] at hix
    simp only [if_true] at hix
    clear hr
    go_enter Try.func85, Try.ntmps85
    go_wp2_with fail
    refine hix.mono ?_
    rintro e w1 ⟨rfl, hu⟩
    clear hix
    go_wp2
    go_ret
    exact ⟨ret_bool (by simp), hu⟩
  | false =>
    rw [hr] at hix
    simp only [Bool.false_eq_true, if_false] at hix
    clear hr
    go_enter Try.func85, Try.ntmps85
    go_wp2_with fail
    refine hix.mono ?_
    rintro e w1 ⟨⟨i, rfl⟩, hu⟩
    have hi : ¬ ((i : Int) < 0) := by omega
    clear hix
    go_wp2
    go_ret
    exact ⟨ret_bool (by simp), hu⟩

/-- Is a state right whose floor is not too far? -/
def formD (x : Sx) (xs : List Ix) : Bool := formV x.1 x.2.1 && (decide (0 < x.1) || (decide (x.2.2.1 = 0) && decide (x.2.2.2.2.1 = 0))) && xs.all (fun y => okF y.1)

set_option maxRecDepth 10000 in
set_option maxHeartbeats 2000000 in
theorem cutForm_any (p : Nat → Prop) (w : World) (x : Sx) (xs : List Ix) (h : IR p w x.2.2.2.1 x.2.2.2.2.1 xs) (hf : 0 ≤ x.2.2.1 ∧ x.2.2.1 ≤ 1073741824) (hx : OkS x) :
    Calls Try.prog 74 #[sta x] w fun e w' => e = .returned (.bool (formD x xs)) ∧ Up w w' := by
  have hfo := fun W => form_any W x.1 x.2.1
  have hno := fun W => isNone_any W x.1 x.2.1
  have hen := fun W => end_any W x hx
  unfold vid at hfo hno
  unfold sta at *
  obtain ⟨w0, hw0⟩ : ∃ w0, w.alloc (.cells #[.int .u64 (x.1 : Nat), .int .i64 x.2.1, .int .i64 x.2.2.1, .slice x.2.2.2.1 x.2.2.2.2.1 x.2.2.2.2.2] 52) = w0 := ⟨_, rfl⟩
  have hu0 : Up w w0 := by rw [← hw0]; exact (Up.refl _).alloc _
  have hb0 : Bs w.heap.size x w0 := by rw [← hw0]; exact bs_new w x 52
  obtain ⟨r, HR⟩ : ∃ r, Hid (formD x xs = r) := ⟨_, rfl⟩
  rw [HR.out]
  have HI : Hid (IR p w x.2.2.2.1 x.2.2.2.2.1 xs) := h
  obtain ⟨hf0, hf1⟩ := hf
  have hf0' : ¬ (x.2.2.1 < 0) := by omega
  have hf1' : ¬ (1073741824 < x.2.2.1) := by omega
  have hes : endS x = x.2.2.1 + (x.2.2.2.2.1 : Nat) := rfl
  obtain ⟨z0, z1, z2, z3⟩ := hb0
  have hb0 : Bs w.heap.size x w0 := ⟨z0, z1, z2, z3⟩
  clear h hx
  cases hv : formV x.1 x.2.1 with
  | false =>
    have hr : r = false := by rw [← HR.out, formD, hv]; rfl
    subst hr
    simp only [hv] at hfo
    clear hv hen hno HR HI hes
    go_enter Try.func74, Try.ntmps74
    go_wp2_with fail
    (try simp only [hw0])
    refine (hfo _).mono ?_
    rintro e w1 ⟨rfl, hu1⟩
    have hu01 := hu0.trans hu1
    clear hfo hu1 hb0 hu0 hw0 z0 z1 z2 z3
    go_wp2
    go_ret
    exact ⟨rfl, hu01⟩
  | true =>
    simp only [hv] at hfo
    go_enter Try.func74, Try.ntmps74
    go_wp2_with fail
    (try simp only [hw0])
    refine (hfo _).mono ?_
    rintro e w1 ⟨rfl, hu1⟩
    have hu01 := hu0.trans hu1
    obtain ⟨c0, c1, c2, c3⟩ := hb0.up hu1
    have HB1 : Hid (Bs w.heap.size x w1) := ⟨c0, c1, c2, c3⟩
    clear hfo hu1 hb0 hu0 hw0 z0 z1 z2 z3
    cases hn : decide (x.1 = 0) with
    | false =>
      simp only [hn] at hno
      have hn9 : ¬ x.1 = 0 := by simpa using hn
      have hn0 : 0 < x.1 := by omega
      clear hn9
      have hr : r = xs.all (fun y => okF y.1) := by rw [← HR.out, formD, hv, decide_eq_true hn0]; simp
      go_wp2_with fail
      refine (hno _).mono ?_
      rintro e w2 ⟨rfl, hu2⟩
      have hu02 := hu01.trans hu2
      obtain ⟨c0, c1, c2, c3⟩ := HB1.out.up hu2
      have hco := contains_any p w2 x.2.2.2.1 x.2.2.2.2.1 x.2.2.2.2.2 xs (HI.out.keep (Kp.up hu02.bl))
      rw [← hr] at hco
      clear hno hu2 hu01 hr hen HR HI hv hn hn0
      go_wp2_with fail
      refine hco.mono ?_
      rintro e w3 ⟨rfl, hu3⟩
      have hu03 := hu02.trans hu3
      clear hco hu3 hu02
      go_wp2
      go_ret
      exact ⟨ret_bool (by simp), hu03⟩
    | true =>
      simp only [hn] at hno
      have hn0 : x.1 = 0 := by simpa using hn
      have HN0 : Hid (x.1 = 0) := hn0
      clear hn hn0
      go_wp2_with fail
      refine (hno _).mono ?_
      rintro e w2 ⟨rfl, hu2⟩
      have hu02 := hu01.trans hu2
      have HB2 : Hid (Bs w.heap.size x w2) := HB1.out.up hu2
      obtain ⟨c0, c1, c2, c3⟩ := HB2.out
      obtain ⟨en, hen0⟩ : ∃ en, endS x = en := ⟨_, rfl⟩
      simp only [hen0] at hen
      rw [hen0] at hes
      clear hno hu2 hu01
      by_cases he : 0 < en
      · have hr : r = false := by
          rw [← HR.out, formD, hv]
          have h1 : decide (0 < x.1) = false := by have := HN0.out; simp [this]
          have h2 : (decide (x.2.2.1 = 0) && decide (x.2.2.2.2.1 = 0)) = false := by
            by_cases h3 : x.2.2.1 = 0
            · have : ¬ x.2.2.2.2.1 = 0 := by omega
              simp [this]
            · simp [h3]
          rw [h1, h2]; rfl
        subst hr
        clear HR HI hv hes
        go_wp2_with fail
        refine (hen _).mono ?_
        rintro e w3 ⟨rfl, hu3⟩
        have hu03 := hu02.trans hu3
        clear hen hu3 hu02
        go_wp2
        go_ret
        exact ⟨rfl, hu03⟩
      · have hr : r = xs.all (fun y => okF y.1) := by
          rw [← HR.out, formD, hv]
          have h2 : decide (x.2.2.1 = 0) = true := by simp; omega
          have h3 : decide (x.2.2.2.2.1 = 0) = true := by simp; omega
          rw [h2, h3]; simp
        go_wp2_with fail
        refine (hen _).mono ?_
        rintro e w3 ⟨rfl, hu3⟩
        have hu03 := hu02.trans hu3
        obtain ⟨c0, c1, c2, c3⟩ := HB2.out.up hu3
        have hco := contains_any p w3 x.2.2.2.1 x.2.2.2.2.1 x.2.2.2.2.2 xs (HI.out.keep (Kp.up hu03.bl))
        rw [← hr] at hco
        clear hen hu3 hu02 hr HR HI hv hes HB2
        go_wp2_with fail
        refine hco.mono ?_
        rintro e w4 ⟨rfl, hu4⟩
        have hu04 := hu03.trans hu4
        clear hco hu4 hu03
        go_wp2
        go_ret
        exact ⟨ret_bool (by simp), hu04⟩

set_option maxRecDepth 10000 in
set_option maxHeartbeats 2000000 in
theorem refForm6_any (p : Nat → Prop) (w : World) (x : Sx) (xs : List Ix) (h : IR p w x.2.2.2.1 x.2.2.2.2.1 xs) (hf : 0 ≤ x.2.2.1 ∧ x.2.2.1 ≤ 1073741824) :
    Calls Try.prog 57 #[sta x] w fun e w' => e = .returned (.bool (formD x xs)) ∧ Up w w' := by
  have hfo := fun W => refForm_any W x.1 x.2.1
  unfold vid at hfo
  unfold sta at *
  have hl := h.1
  have hmax := h.2.1
  obtain ⟨w0, hw0⟩ : ∃ w0, w.alloc (.cells #[.int .u64 (x.1 : Nat), .int .i64 x.2.1, .int .i64 x.2.2.1, .slice x.2.2.2.1 x.2.2.2.2.1 x.2.2.2.2.2] 52) = w0 := ⟨_, rfl⟩
  have hu0 : Up w w0 := by rw [← hw0]; exact (Up.refl _).alloc _
  have hb0 : Bs w.heap.size x w0 := by rw [← hw0]; exact bs_new w x 52
  have HI : Hid (IR p w0 x.2.2.2.1 x.2.2.2.2.1 xs) := h.keep (Kp.up hu0.bl)
  have HB : Hid (Bs w.heap.size x w0) := hb0
  obtain ⟨r, HR⟩ : ∃ r, Hid (formD x xs = r) := ⟨_, rfl⟩
  rw [HR.out]
  obtain ⟨hf0, hf1⟩ := hf
  clear h hb0
  go_enter Try.func57, Try.ntmps57
  go_wp2_with fail
  (try simp only [hw0])
  go_loopw [3] (fun iv wr => ∃ k : Nat, k ≤ x.2.2.2.2.1 ∧ iv = .int .i64 k ∧ (∀ y ∈ xs.take k, okF y.1 = true) ∧ Up w0 wr) (fun iv _ => x.2.2.2.2.1 - (intOf iv).toNat)
  case atStart => exact ⟨0, by omega, rfl, by simp, by first | exact Up.refl _ | (rw [hw0]; exact Up.refl _)⟩
  case round =>
    obtain ⟨k, hk, rfl, hno, hu⟩ := hrel
    have HN : Hid (∀ y ∈ xs.take k, okF y.1 = true) := hno
    obtain ⟨c0, c1, c2, c3⟩ := HB.out.up hu
    clear hno
    by_cases hlt : k < x.2.2.2.2.1
    · have hltI : (k : Int) < (x.2.2.2.2.1 : Int) := by omega
      obtain ⟨y, hy⟩ : ∃ y, xs[k]? = some y := ⟨xs[k]'(by omega), List.getElem?_eq_getElem (by omega)⟩
      obtain ⟨b, off, hao, _, hc⟩ := (HI.out.keep (Kp.up hu.bl)).2.2.2 (by omega)
      obtain ⟨d0, d1⟩ := hc k y hy
      have HY : Hid (xs[k]? = some y) := hy
      rw [hao] at c3
      have hk0 : ¬ ((k : Int) < 0) := by omega
      have hbad : okF y.1 = false → r = false := fun hd => by
        have : xs.all (fun y => okF y.1) = false := by rw [List.all_eq_false]; exact ⟨y, List.mem_of_getElem? HY.out, by rw [hd]; simp⟩
        rw [← HR.out, formD, this]; simp
      clear hc hy
      by_cases f0 : y.1 < 0
      · have hr := hbad (by simp [okF]; omega)
        subst hr
        clear HR hbad
        go_wp2
        go_ret
        exact ⟨rfl, hu0.trans hu⟩
      · by_cases f1 : 15 < y.1
        · have hr := hbad (by simp [okF]; omega)
          subst hr
          clear HR hbad
          go_wp2
          go_ret
          exact ⟨rfl, hu0.trans hu⟩
        · have HN' : Hid (∀ z ∈ xs.take (k + 1), okF z.1 = true) := by
            intro z hz
            rw [List.take_add_one, HY.out] at hz
            simp only [Option.toList_some, List.mem_append, List.mem_singleton] at hz
            rcases hz with hz | rfl
            · exact HN.out z hz
            · simp [okF]; omega
          clear hbad
          go_wp2
          go_roundw
          case rel => first | exact ⟨k + 1, by omega, by go_num, HN'.out, hu⟩ | ((repeat apply Exists.intro); exact ⟨⟨k + 1, by omega, by go_num, HN'.out, hu⟩, rfl⟩)
          case measure => simp [intOf]; omega
    · have hkn : k = x.2.2.2.2.1 := by omega
      have hltI : ¬ ((k : Int) < (x.2.2.2.2.1 : Int)) := by omega
      have hall : xs.all (fun y => okF y.1) = true := List.all_eq_true.2 (by have := HN.out; rwa [List.take_of_length_le (by omega)] at this)
      have hr : r = (formV x.1 x.2.1 && (decide (0 < x.1) || (decide (x.2.2.1 = 0) && decide (x.2.2.2.2.1 = 0)))) := by rw [← HR.out, formD, hall]; simp
      have hu0r := hu0.trans hu
      have HB1 : Hid (Bs w.heap.size x wr) := HB.out.up hu
      clear HR HI hall HN
      go_wp2_with fail
      refine (hfo _).mono ?_
      rintro e w2 ⟨rfl, hu2⟩
      obtain ⟨c0, c1, c2, c3⟩ := HB1.out.up hu2
      have hu02 := hu0r.trans hu2
      clear hfo hu2 hu0r hu hu0
      have hge : 0 ≤ x.2.2.1 := hf0
      have hle : x.2.2.1 ≤ 1073741824 := hf1
      cases hv : formV x.1 x.2.1 with
      | false =>
        rw [hv] at hr
        simp only [Bool.false_and] at hr
        subst hr
        go_wp2
        go_ret
        exact ⟨rfl, hu02⟩
      | true =>
        rw [hv] at hr
        simp only [Bool.true_and] at hr
        by_cases hn0 : 0 < x.1
        · rw [decide_eq_true hn0] at hr
          simp only [Bool.true_or] at hr
          subst hr
          have hn0I : (0 : Int) < (x.1 : Int) := by omega
          go_wp2
          go_ret
          exact ⟨rfl, hu02⟩
        · have hn0I : ¬ ((0 : Int) < (x.1 : Int)) := by omega
          rw [decide_eq_false hn0] at hr
          simp only [Bool.false_or] at hr
          by_cases h0 : x.2.2.1 = 0
          · have h0b : (x.2.2.1 == 0) = true := by simpa using h0
            rw [decide_eq_true h0] at hr
            simp only [Bool.true_and] at hr
            have hlb : ((x.2.2.2.2.1 : Int) == 0) = decide (x.2.2.2.2.1 = 0) := by
              by_cases e : x.2.2.2.2.1 = 0
              · rw [e]; rfl
              · rw [decide_eq_false e]; simp [e]
            rw [← hlb] at hr
            subst hr
            clear h0 hlb
            go_wp2
            go_ret
            exact ⟨(by first | rfl | exact ret_bool (by first | rfl | (by_cases e : x.2.2.2.2.1 = 0 <;> simp [e]))), hu02⟩
          · have h0b : (x.2.2.1 == 0) = false := by simpa using h0
            rw [decide_eq_false h0] at hr
            simp only [Bool.false_and] at hr
            subst hr
            go_wp2
            go_ret
            exact ⟨rfl, hu02⟩
end Go.Proofs.Ytfemjbaadnjanaa
