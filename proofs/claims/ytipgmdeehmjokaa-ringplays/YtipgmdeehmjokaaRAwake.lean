/-
  The document's example; and whether two lists of texts are one.
-/
import Derived.Test.YtipgmdeehmjokaaRFirstS
namespace Go.Proofs.Ytipgmdeehmjokaa
open Go.RowKit
set_option linter.unusedVariables false

/-- A ring of one's own: made behind a world. -/
structure Own (w0 w : World) (p : Nat) (sv : Value) : Prop where
  turned : Turned (fun _ => False) w0 w
  foot : ∀ b, Foot p sv b → w0.heap.size ≤ b
theorem Own.goes {w0 w w' : World} {p : Nat} {sv sv' : Value} (h : Own w0 w p sv) (g : Goes p sv w sv' w') : Own w0 w' p sv' :=
  ⟨h.turned.trans g.turned (fun i hi => .inr (h.foot i hi)), fun b hb => (g.foot b hb).elim (h.foot b) (fun hle => Nat.le_trans h.turned.size hle)⟩
theorem Own.drewN {w0 w : World} {p : Nat} {sv : Value} (h : Own w0 w p sv) (q : Nat) : Own w0 (w.drewN q) p sv := ⟨h.turned.drewN q, h.foot⟩
theorem Own.on {w0 w w' : World} {p : Nat} {sv : Value} {F : Nat → Prop} (h : Own w0 w p sv) (t : Turned F w w') (hF : ∀ i, F i → w0.heap.size ≤ i) : Own w0 w' p sv := ⟨h.turned.trans t (fun i hi => .inr (hF i hi)), h.foot⟩
theorem Own.of_new {w w' : World} (t : Turned (fun _ => False) w w') : Own w w' w.heap.size (.slice none 0 0) := ⟨t, by rintro b (rfl | hb); exact Nat.le_refl _; cases hb⟩
theorem Own.below {w0 w : World} {p : Nat} {sv : Value} (h : Own w0 w p sv) : Below w0.heap.size w0 w := h.turned.below (Nat.le_refl _) (fun _ hf => hf.elim)

theorem one_string (s : ByteArray) : One (.string s) := ⟨rfl, rfl⟩
theorem one_int (k : IntKind) (n : Int) : One (.int k n) := ⟨rfl, rfl⟩
theorem one_bool (b : Bool) : One (.bool b) := ⟨rfl, rfl⟩
theorem one_slice (a : Option Addr) (n c : Nat) : One (.slice a n c) := ⟨rfl, rfl⟩

theorem new2 (w : World) : Calls Try.prog 9 #[.int .i64 2] w fun e w' => e = .returned (.tuple #[.pointer (some ⟨w.heap.size, 0, none⟩), .int .i64 0]) ∧ Ring w' 9 w.heap.size (.slice none 0 0) 2 0 [] ∧ Turned (fun _ => False) w w' := newS_any w 2 (by omega) (by omega)
theorem len1 {w : World} {p : Nat} {sv : Value} {most first : Nat} {x : Value} (h : Ring w 9 p sv most first [x]) : Calls Try.prog 15 #[.pointer (some ⟨p, 0, none⟩)] w fun e w' => e = .returned (.int .i64 1) ∧ w = w' := lenS_any h

set_option maxRecDepth 10000 in
set_option maxHeartbeats 1000000 in
theorem awake_any (w : World) : Calls Try.prog 8 #[] w fun e w' => e = .returned (.bool true) ∧ Turned (fun _ => False) w w' := by
  go_enter Try.func8, Try.ntmps8
  go_wp2_with fail
  refine (new2 _).mono ?_
  rintro e w1 ⟨rfl, r1, t1⟩
  have o1 := Own.of_new t1
  go_wp2_with fail
  refine (putS_any r1 (by simp) _ (one_string _)).mono ?_
  rintro e w2 ⟨rfl, s2, f2, r2, g2⟩
  have o2 := o1.goes g2
  go_wp2_with fail
  refine (putS_any r2 (by simp) _ (one_string _)).mono ?_
  rintro e w3 ⟨rfl, s3, f3, r3, g3⟩
  have o3 := o2.goes g3
  go_wp2_with fail
  refine (putS_busy r3 (by simp) _).mono ?_
  rintro e w4 ⟨rfl, q4, rfl⟩
  have r4 := r3.drewN q4
  have o4 := o3.drewN q4
  go_wp2_with fail
  refine (takeS_any r4).mono ?_
  rintro e w5 ⟨rfl, s5, f5, r5, g5⟩
  have o5 := o4.goes g5
  go_wp2_with fail
  refine (len1 r5).mono ?_
  rintro e w6 ⟨rfl, rfl⟩
  go_wp2
  go_ret
  exact ⟨rfl, o5.turned⟩

/-- A list of texts in memory. -/
def Strs (w : World) (v : Value) (xs : List Value) : Prop :=
  ∃ a c, v = .slice a xs.length c ∧ ∀ j x, xs[j]? = some x → ∃ s ad, x = .string s ∧ a = some ad ∧ w.cell? (ad.add j) = some x

set_option maxRecDepth 10000 in
set_option maxHeartbeats 1000000 in
theorem same_any {w : World} {v1 v2 : Value} {xs : List Value} (h1 : Strs w v1 xs) (h2 : Strs w v2 xs) (hl : xs.length ≤ 1099511627776) :
    Calls Try.prog 13 #[v1, v2] w fun e w' => e = .returned (.bool true) ∧ ∃ q, w' = w.drewN q := by
  obtain ⟨a1, c1, rfl, H1⟩ := h1
  obtain ⟨a2, c2, rfl, H2⟩ := h2
  have X1 : Hid (∀ j x, xs[j]? = some x → ∃ s ad, x = .string s ∧ a1 = some ad ∧ w.cell? (ad.add j) = some x) := H1
  have X2 : Hid (∀ j x, xs[j]? = some x → ∃ s ad, x = .string s ∧ a2 = some ad ∧ w.cell? (ad.add j) = some x) := H2
  obtain ⟨L, HL⟩ : ∃ L, Hid (L = xs.length) := ⟨_, rfl⟩
  rw [← HL.out] at hl ⊢
  clear H1 H2
  go_enter Try.func13, Try.ntmps13
  go_wp2
  go_loopw [5] (fun i wr => ∃ k q : Nat, k ≤ L ∧ i = .int .i64 k ∧ wr = w.drewN q) (fun i _ => L - (intOf i).toNat)
  case atStart => exact ⟨0, 0, by omega, rfl, rfl⟩
  case round =>
    obtain ⟨k, q, hk, rfl, rfl⟩ := hrel
    by_cases hlt : k < L
    · obtain ⟨x, hx⟩ : ∃ x, xs[k]? = some x := ⟨_, List.getElem?_eq_getElem (by rw [← HL.out]; exact hlt)⟩
      obtain ⟨s, ad1, rfl, rfl, d1⟩ := X1.out k x hx
      obtain ⟨s', ad2, _, rfl, d2⟩ := X2.out k _ hx
      clear hx
      have hltI : (k : Int) < L := by omega
      go_wp2_with fail
      go_quiet (fail)
      go_wp2
      go_roundw
      case rel => exact ⟨k + 1, _, by omega, by go_num, rfl⟩
      case measure => simp [intOf]; omega
    · go_wp2
      go_ret
      exact ⟨rfl, q, rfl⟩

end Go.Proofs.Ytipgmdeehmjokaa
