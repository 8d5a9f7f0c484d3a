/-
  Class of a net: those that a node hears, if each of them hears just these.
-/
import Derived.Test.YtagabmhgcmnldaaNHear
namespace Go.Proofs.Ytagabmhgcmnldaa
open Go.RowKit
set_option linter.unusedVariables false

def classS (H : Nat → Nat) (s : Nat) : Nat := if ∀ k ∈ nodes s 16, H k = s then s else 0
def classN (N : Nat) (H : Nat → Nat) (i : Int) : Nat := if isNode N i then classS H (H i.toNat) else 0
theorem nodes_lt {s j k : Nat} (h : (nodes s 16)[j]? = some k) : k < 16 ∧ s.testBit k = true := by
  have := List.mem_of_getElem? h
  unfold nodes at this
  simpa using this
theorem class_nil (w : World) (i : Int) : Calls Try.prog 18 #[.pointer none, .int .i64 i] w fun e w' => e = .returned (.int .u16 0) ∧ w = w' := by
  go_enter Try.func18, Try.ntmps18
  go_wp2_with fail
  refine (node_nil _ _).mono ?_
  rintro e w1 ⟨rfl, rfl⟩
  go_wp2
  go_ret
  exact ⟨rfl, rfl⟩

set_option maxRecDepth 10000 in
set_option maxHeartbeats 1000000 in
theorem class_is {w : World} {p N : Nat} {H : Nat → Nat} {sv : Value} {lost : Nat} {L : List Px} {A : List Pa} (h : NetIs w p N H sv lost L A) (i : Int) :
    Calls Try.prog 18 #[.pointer (some ⟨p, 0, none⟩), .int .i64 i] w fun e w' => e = .returned (.int .u16 (classN N H i : Nat)) ∧ Below w.heap.size w w' := by
  have hn := node_any h i
  have h16 := h.n16
  by_cases hN : 0 ≤ i ∧ i < N
  · obtain ⟨k, rfl⟩ : ∃ k : Nat, i = k := ⟨i.toNat, by omega⟩
    have hk16 : (k : Int) < 16 := by omega
    have e1 : isNode N (k : Int) = true := by unfold isNode; simpa using hN
    have HC : Hid (classN N H (k : Int) = classS H (H k)) := by unfold Hid classN; rw [if_pos e1]; simp
    rw [e1] at hn
    have ck := h.cH k (by omega)
    have HCH : Hid (∀ k, k < 16 → w.cell? ⟨p, 1 + k, none⟩ = some (.int .u16 (H k : Nat))) := h.cH
    have hp : p < w.heap.size := h.obj.lt
    have hl := list_any w (H k) (h.hs k)
    have HS : Hid (∀ j, H j < 65536) := h.hs
    clear h e1
    generalize hs : H k = s at *
    clear hs
    have hcl := cntF_le 16 s
    have HN : Hid ((nodes s 16).length = cntF 16 s) := nodes_len 16 s
    generalize cntF 16 s = c at *
    go_enter Try.func18, Try.ntmps18
    go_wp2_with fail
    refine hn.mono ?_
    rintro e w1 ⟨rfl, rfl⟩
    go_wp2_with fail
    refine hl.mono ?_
    rintro e w2 ⟨v, rfl, hown, hb⟩
    obtain ⟨ao, cap, rfl, hcc, hcm⟩ : ∃ ao cap, v = .slice ao c cap ∧ c ≤ cap ∧ cap ≤ 9223372036854775807 := by
      rcases hown.2 with ⟨rfl, h0⟩ | ⟨g, cap, cur, rfl, _, _, h1, h2, _⟩
      · exact ⟨none, 0, by rw [h0], by omega, by omega⟩
      · exact ⟨_, cap, rfl, h1, by unfold maxLen at h2; omega⟩
    have HO : Hid (w2.ownsRow w.heap.size 3 1 (.slice ao c cap) c (ints (nodes s 16))) := hown
    have HB : Hid (Below w.heap.size w w2) := hb
    clear hown hb hl hn
    go_wp2_with fail
    go_loop [7, 21] (fun _ jv => ∃ j : Nat, j ≤ c ∧ jv = .int .i64 (j : Nat) ∧ ∀ m k, m < j → (nodes s 16)[m]? = some k → H k = s) (fun _ jv => c - (intOf jv).toNat)
    case atStart => exact ⟨0, by omega, rfl, by omega⟩
    case round =>
      obtain ⟨j, hj, rfl, hal⟩ := hrel
      have HA : Hid (∀ m k, m < j → (nodes s 16)[m]? = some k → H k = s) := hal
      clear hal
      by_cases hlt : j < c
      · have hltI : (j : Int) < c := by omega
        obtain ⟨m, hm⟩ : ∃ m, (nodes s 16)[j]? = some m := ⟨_, List.getElem?_eq_getElem (by rw [HN.out]; exact hlt)⟩
        have hm16 := (nodes_lt hm).1
        have hm16I : (m : Int) < 16 := by omega
        obtain ⟨g, rfl⟩ : ∃ g, ao = some ⟨g, 0, none⟩ := by
          rcases HO.out.2 with ⟨h0, _⟩ | ⟨g, cap', cur, h0, _⟩
          · simp only [Value.slice.injEq] at h0; omega
          · simp only [Value.slice.injEq] at h0; exact ⟨g, h0.1⟩
        have hc : w2.cell? ⟨g, j, none⟩ = some (.int .i64 (m : Nat)) := by
          rw [HO.out.cellAt j (by omega)]
          simp [ints, hm]
        have hcm2 : w2.cell? ⟨p, 1 + m, none⟩ = some (.int .u16 (H m : Nat)) := (HB.out.cell hp).trans (HCH.out m hm16)
        have HM : Hid ((nodes s 16)[j]? = some m) := hm
        clear hm
        by_cases he : H m = s
        · have HX : Hid (∀ m k, m < j + 1 → (nodes s 16)[m]? = some k → H k = s) := fun a k ha hk => by
            by_cases e : a = j
            · subst e; rw [HM.out] at hk; cases hk; exact he
            · exact HA.out a k (by omega) hk
          rw [he] at hcm2
          clear he HA HM
          go_wp2
          go_round
          case rel => exact ⟨j + 1, by omega, by go_num, HX.out⟩
          case measure => simp [intOf]; omega
        · have hne : ((H m : Nat) : Int) ≠ (s : Int) := by omega
          have hne2 : (((H m : Nat) : Int) == (s : Int)) = false := by simpa using hne
          have HR : Hid (classS H s = 0) := by
            unfold Hid classS
            rw [if_neg]
            intro hall
            exact he (hall m (List.mem_of_getElem? HM.out))
          generalize H m = hm at *
          clear HA HM
          go_wp2
          go_ret
          exact ⟨ret_int (by rw [HC.out, HR.out]; rfl), HB.out⟩
      · obtain rfl : j = c := by omega
        have HR : Hid (classS H s = s) := by
          unfold Hid classS
          rw [if_pos]
          intro k hk
          obtain ⟨m, hm⟩ := List.getElem?_of_mem hk
          have := (List.getElem?_eq_some_iff.1 hm).1
          rw [HN.out] at this
          exact HA.out m k this hm
        go_wp2
        go_ret
        exact ⟨ret_int (by rw [HC.out, HR.out]), HB.out⟩
  · have e1 : isNode N i = false := by unfold isNode; simpa using hN
    have HC : Hid (classN N H i = 0) := by unfold Hid classN; rw [e1]; rfl
    rw [e1] at hn
    clear h e1
    go_enter Try.func18, Try.ntmps18
    go_wp2_with fail
    refine hn.mono ?_
    rintro e w1 ⟨rfl, rfl⟩
    go_wp2
    go_ret
    exact ⟨ret_int (by rw [HC.out]; rfl), Below.refl _ _⟩
section
variable {w : World} {F : Nat → Prop} {p N : Nat} {H : Nat → Nat} {lost : Nat} {A : List Pa}
theorem len_any (h : Nt w F p N H lost A) : Calls Try.prog 14 #[.pointer (some ⟨p, 0, none⟩)] w fun e w' => e = .returned (.int .i64 (A.length : Nat)) ∧ w = w' := by
  obtain ⟨⟨sv, L, h1, _⟩, _⟩ := h
  exact len_is h1
theorem lost_any (h : Nt w F p N H lost A) : Calls Try.prog 15 #[.pointer (some ⟨p, 0, none⟩)] w fun e w' => e = .returned (.int .i64 (lost : Nat)) ∧ w = w' := by
  obtain ⟨⟨sv, L, h1, _⟩, _⟩ := h
  exact lost_is h1
theorem hear_any (h : Nt w F p N H lost A) (a b : Int) : Calls Try.prog 16 #[.pointer (some ⟨p, 0, none⟩), .int .i64 a, .int .i64 b] w fun e w' => e = .returned (.bool (hears N H a b)) ∧ w = w' := by
  obtain ⟨⟨sv, L, h1, _⟩, _⟩ := h
  exact hear_is h1 a b
theorem class_any (h : Nt w F p N H lost A) (i : Int) : Calls Try.prog 18 #[.pointer (some ⟨p, 0, none⟩), .int .i64 i] w fun e w' => e = .returned (.int .u16 (classN N H i : Nat)) ∧ Below w.heap.size w w' := by
  obtain ⟨⟨sv, L, h1, _⟩, _⟩ := h
  exact class_is h1 i
end
end Go.Proofs.Ytagabmhgcmnldaa
