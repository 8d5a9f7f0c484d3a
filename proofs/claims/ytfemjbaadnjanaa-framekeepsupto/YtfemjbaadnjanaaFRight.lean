/-
  Which states, items and lists of a frame are right (packages cut and frame).
-/
import Derived.Test.YtfemjbaadnjanaaFBase
namespace Go.Proofs.Ytfemjbaadnjanaa
open Go.RowKit
set_option linter.unusedVariables false
set_option linter.unusedSimpArgs false

theorem ItsX.len {p : Nat → Prop} {w : World} {ao : Option Addr} {n : Nat} {ds : List Di} (h : ItsX p w ao n ds) : ds.length = n := by obtain ⟨xs, _, h2, _⟩ := h; exact h2
theorem ItsX.small {p : Nat → Prop} {w : World} {ao : Option Addr} {n : Nat} {ds : List Di} (h : ItsX p w ao n ds) : n ≤ 4398046511104 := by obtain ⟨xs, h1, _⟩ := h; exact h1.2.1

set_option maxRecDepth 10000 in
theorem rightItems_any (p : Nat → Prop) (w : World) (ao : Option Addr) (n cap : Nat) (ds : List Di) (h : ItsX p w ao n ds) :
    Calls Try.prog 71 #[.slice ao n cap] w fun e w' => e = .returned (.bool (itsB ds)) ∧ Up w w' := by
  have hl := h.len
  have hm := h.small
  by_cases h4 : 4096 < n
  · have HR : Hid (itsB ds = false) := by show itsB ds = false; unfold itsB; rw [hl, decide_eq_false (by omega)]; rfl
    clear h hl
    go_enter Try.func71, Try.ntmps71
    go_wp2
    go_ret
    exact ⟨ret_bool HR.out.symm, Up.refl _⟩
  · obtain ⟨xs, hI, he⟩ := h.all okF
    have hc := containsR_any p w ao n cap xs hI
    rw [he] at hc
    have HR : Hid (itsB ds = ds.all (fun d => okF d.1)) := by show itsB ds = _; unfold itsB; rw [hl, decide_eq_true (by omega)]; rfl
    clear h hl hI he
    go_enter Try.func71, Try.ntmps71
    go_wp2_with fail
    refine hc.mono ?_
    rintro e w1 ⟨rfl, hu⟩
    clear hc
    go_wp2
    go_ret
    exact ⟨ret_bool (by rw [HR.out]; first | done | simp), hu⟩

set_option maxRecDepth 10000 in
set_option maxHeartbeats 1000000 in
theorem cutFormG_any (p : Nat → Prop) (w : World) (x : Sx) (d : Sd) (h : SiX p w x d) :
    Calls Try.prog 74 #[sta x] w fun e w' => e = .returned (.bool (formS d)) ∧ Up w w' := by
  obtain ⟨h1, h2, h3, h4⟩ := h
  have hl := h4.len
  have hsm := h4.small
  obtain ⟨xs, hI, he⟩ := h4.all okF
  by_cases hr : 0 ≤ x.2.2.1 ∧ x.2.2.1 ≤ 1073741824
  · have := cutForm_any p w x xs hI hr ⟨hr.1, by omega, by omega⟩
    have e : formD x xs = formS d := by
      unfold formD formS
      rw [he, ← h1, ← h2, ← h3, hl, decide_eq_true hr.1, decide_eq_true hr.2]
      simp
    rw [e] at this
    exact this
  · have HR : Hid (formS d = false) := by
      show formS d = false
      unfold formS
      rw [← h3]
      by_cases a : 0 ≤ x.2.2.1
      · rw [decide_eq_false (show ¬ x.2.2.1 ≤ 1073741824 by omega)]; simp
      · rw [decide_eq_false a]; simp
    rw [HR.out]
    have hfo := fun W => form_any W x.1 x.2.1
    unfold vid at hfo
    unfold sta at *
    obtain ⟨w0, hw0⟩ : ∃ w0, w.alloc (.cells #[.int .u64 (x.1 : Nat), .int .i64 x.2.1, .int .i64 x.2.2.1, .slice x.2.2.2.1 x.2.2.2.2.1 x.2.2.2.2.2] 52) = w0 := ⟨_, rfl⟩
    have hu0 : Up w w0 := by rw [← hw0]; exact (Up.refl _).alloc _
    have hb0 : Bs w.heap.size x w0 := by rw [← hw0]; exact bs_new w x 52
    obtain ⟨z0, z1, z2, z3⟩ := hb0
    have hb0 : Bs w.heap.size x w0 := ⟨z0, z1, z2, z3⟩
    clear hI he h4 hl HR h1 h2 h3
    cases hv : formV x.1 x.2.1 with
    | false =>
      simp only [hv] at hfo
      clear hv
      go_enter Try.func74, Try.ntmps74
      go_wp2_with fail
      (try simp only [hw0])
      refine (hfo _).mono ?_
      rintro e w1 ⟨rfl, hu1⟩
      have hu01 := hu0.trans hu1
      clear hfo hu1 hb0 hu0 hw0 z0 z1 z2 z3
      go_wp2
      go_ret
      exact ⟨rfl, hu01⟩
    | true =>
      simp only [hv] at hfo
      clear hv
      go_enter Try.func74, Try.ntmps74
      go_wp2_with fail
      (try simp only [hw0])
      refine (hfo _).mono ?_
      rintro e w1 ⟨rfl, hu1⟩
      have hu01 := hu0.trans hu1
      obtain ⟨c0, c1, c2, c3⟩ := hb0.up hu1
      clear hfo hu1 hb0 hu0 hw0 z0 z1 z2 z3
      by_cases a : x.2.2.1 < 0
      · go_wp2
        go_ret
        exact ⟨rfl, hu01⟩
      · have b : 1073741824 < x.2.2.1 := by omega
        go_wp2
        go_ret
        exact ⟨rfl, hu01⟩

set_option maxRecDepth 10000 in
theorem right1_any (p : Nat → Prop) (w : World) (x : Sx) (d : Sd) (h : SiX p w x d) :
    Calls Try.prog 73 #[sta x] w fun e w' => e = .returned (.bool (!stOk d)) ∧ Up w w' := by
  have hl := h.2.2.2.len
  have hsm := h.2.2.2.small
  obtain ⟨w0, hw0⟩ : ∃ w0, w.alloc (.cells #[.int .u64 (x.1 : Nat), .int .i64 x.2.1, .int .i64 x.2.2.1, .slice x.2.2.2.1 x.2.2.2.2.1 x.2.2.2.2.2] 52) = w0 := ⟨_, rfl⟩
  have hu0 : Up w w0 := by rw [← hw0]; exact (Up.refl _).alloc _
  obtain ⟨z0, z1, z2, z3⟩ : Bs w.heap.size x w0 := by rw [← hw0]; exact bs_new w x 52
  have hcf := cutFormG_any p w0 x d (h.keep (Kp.up hu0.bl))
  obtain ⟨f, HF⟩ : ∃ f, Hid (formS d = f) := ⟨_, rfl⟩
  rw [HF.out] at hcf
  by_cases h4 : 4096 < x.2.2.2.2.1
  · have HR : Hid (stOk d = false) := by show stOk d = false; unfold stOk; rw [hl, decide_eq_false (by omega)]; rfl
    rw [HR.out]
    clear h hl hcf HF HR
    unfold sta
    go_enter Try.func73, Try.ntmps73
    go_wp2
    (try simp only [hw0])
    go_ret
    exact ⟨rfl, hu0⟩
  · have HR : Hid (stOk d = f) := by show stOk d = f; unfold stOk; rw [hl, decide_eq_true (by omega), HF.out]; rfl
    rw [HR.out]
    clear h hl HF HR
    unfold sta at *
    go_enter Try.func73, Try.ntmps73
    go_wp2_with fail
    (try simp only [hw0])
    refine hcf.mono ?_
    rintro e w1 ⟨rfl, hu1⟩
    have hu01 := hu0.trans hu1
    clear hcf hu1 hu0 hw0
    go_wp2
    go_ret
    refine ⟨ret_bool ?_, hu01⟩
    have h4I : ¬ ((4096 : Int) < (x.2.2.2.2.1 : Int)) := by omega
    cases f <;> simp [h4I] <;> omega

set_option maxRecDepth 10000 in
set_option maxHeartbeats 1000000 in
theorem index_state (p : Nat → Prop) (w : World) (ao : Option Addr) (n cap : Nat) (ds : List Sd) (h : SsX p w ao n ds) (hmax : n ≤ 4096) :
    Calls Try.prog 87 #[.slice ao n cap, .func (.func 73) #[] #[]] w fun e w' => (if ds.all stOk = true then e = .returned (.int .i64 (-1)) else ∃ i : Nat, e = .returned (.int .i64 (i : Nat))) ∧ Up w w' := by
  obtain ⟨ss, hS, hdl, hsd⟩ := h
  have hl := hS.1
  have HX : Hid (∀ (k : Nat) (x : Sd), ds[k]? = some x → stOk x = false → ds.all stOk = false) := fun k x hx hf => by
    rw [List.all_eq_false]
    exact ⟨x, List.mem_of_getElem? hx, by rw [hf]; simp⟩
  have HA : Hid ((∀ x ∈ ds, stOk x = true) → ds.all stOk = true) := fun h => List.all_eq_true.2 h
  obtain ⟨r, hr⟩ : ∃ r, ds.all stOk = r := ⟨_, rfl⟩
  rw [hr] at HX HA ⊢
  have HS : Hid (SR p w ao n ss ∧ ∀ (j : Nat) (x : Sx) (d : Sd), ss[j]? = some x → ds[j]? = some d → SiX p w x d) := ⟨hS, hsd⟩
  clear hr hS hsd
  go_enter Try.func87, Try.ntmps87
  go_wp2_with fail
  go_loopw [5, 8] (fun _ iv wr => ∃ k : Nat, k ≤ n ∧ iv = .int .i64 k ∧ (∀ x ∈ ds.take k, stOk x = true) ∧ Up w wr) (fun _ iv _ => n - (intOf iv).toNat)
  case atStart => exact ⟨0, by omega, rfl, by simp, Up.refl _⟩
  case round =>
    obtain ⟨k, hk, rfl, hno, hu⟩ := hrel
    have HN : Hid (∀ x ∈ ds.take k, stOk x = true) := hno
    clear hno
    by_cases hlt : k < n
    · have hltI : (k : Int) < (n : Int) := by omega
      obtain ⟨y, hy⟩ : ∃ y, ss[k]? = some y := ⟨ss[k]'(by omega), List.getElem?_eq_getElem (by omega)⟩
      obtain ⟨d, hd⟩ : ∃ d, ds[k]? = some d := ⟨ds[k]'(by omega), List.getElem?_eq_getElem (by omega)⟩
      obtain ⟨b, off, hao, _, hc⟩ := (HS.out.1.up hu.bl).2.2.2 (by omega)
      obtain ⟨c0, c1, c2, c3⟩ := hc k y hy
      have HY : Hid (ds[k]? = some d) := hd
      have hcl := right1_any p wr y d ((HS.out.2 k y d hy hd).keep (Kp.up hu.bl))
      unfold sta at hcl
      subst hao
      clear hc hy hd HS
      have hk0 : ¬ ((k : Int) < 0) := by omega
      cases hd : stOk d with
      | false =>
        rw [hd] at hcl
        have hr := HX.out k d HY.out hd
        subst hr
        clear hd HX HA
        go_wp2_with fail
        refine hcl.mono ?_
        rintro e w1 ⟨rfl, hb1⟩
        have hu1 := hu.trans hb1
        clear hcl c0 c1 c2 c3 hb1
        go_wp2
        go_ret
        (try simp only [Bool.false_eq_true, if_false])
        exact ⟨⟨k, rfl⟩, hu1⟩
      | true =>
        rw [hd] at hcl
        have HN' : Hid (∀ x ∈ ds.take (k + 1), stOk x = true) := by
          intro x hx
          rw [List.take_add_one, HY.out] at hx
          simp only [Option.toList_some, List.mem_append, List.mem_singleton] at hx
          rcases hx with hx | rfl
          · exact HN.out x hx
          · exact hd
        clear hd HX HA
        go_wp2_with fail
        refine hcl.mono ?_
        rintro e w1 ⟨rfl, hb1⟩
        have hu1 := hu.trans hb1
        clear hcl c0 c1 c2 c3 hb1
        go_wp2
        go_roundw
        case rel => first | exact ⟨k + 1, by omega, by go_num, HN'.out, hu1⟩ | ((repeat apply Exists.intro); exact ⟨⟨k + 1, by omega, by go_num, HN'.out, hu1⟩, rfl⟩)
        case measure => simp [intOf]; omega
    · obtain rfl : k = n := by omega
      have hr := HA.out (by have := HN.out; rwa [List.take_of_length_le (by omega)] at this)
      subst hr
      clear HS HX HA
      go_wp2
      go_ret
      (try simp only [if_true])
      exact ⟨rfl, hu⟩
theorem contains_state (p : Nat → Prop) (w : World) (ao : Option Addr) (n cap : Nat) (ds : List Sd) (h : SsX p w ao n ds) (hmax : n ≤ 4096) :
    Calls Try.prog 72 #[.slice ao n cap, .func (.func 73) #[] #[]] w fun e w' => e = .returned (.bool (!ds.all stOk)) ∧ Up w w' := by
  have hix := index_state p w ao n cap ds h hmax
  clear h
  cases hr : ds.all stOk with
  | true =>
    rw [hr] at hix
    simp only [if_true] at hix
    clear hr
    go_enter Try.func72, Try.ntmps72
    go_wp2_with fail
    refine hix.mono ?_
    rintro e w1 ⟨rfl, hu⟩
    clear hix
    go_wp2
    go_ret
    exact ⟨ret_bool (by simp), hu⟩
  | false =>
    rw [hr] at hix
    simp only [Bool.false_eq_true, if_false] at hix
    clear hr
    go_enter Try.func72, Try.ntmps72
    go_wp2_with fail
    refine hix.mono ?_
    rintro e w1 ⟨⟨i, rfl⟩, hu⟩
    have hi : ¬ ((i : Int) < 0) := by omega
    clear hix
    go_wp2
    go_ret
    exact ⟨ret_bool (by simp), hu⟩
end Go.Proofs.Ytfemjbaadnjanaa
