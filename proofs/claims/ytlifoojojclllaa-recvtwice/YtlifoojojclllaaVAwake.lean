/-
  The document's example of a receiver.
-/
import Derived.Test.YtlifoojojclllaaVCall
namespace Go.Proofs.Ytlifoojojclllaa
open Go.RowKit
set_option linter.unusedVariables false

theorem tx_new (w : World) (c : List Value) (hs : ∀ x ∈ c, ∃ s, x = .string s) (hl : c.length ≤ 100000) : Tx (w.alloc (.cells c.toArray 9)) (.slice (some ⟨w.heap.size, 0, none⟩) c.length c.length) c :=
  (lst_new w c hs).tx hl (by rintro ao n c' h; simp at h; omega)
theorem sep_new {w : World} {F : Nat → Prop} (hF : ∀ b, F b → b < w.heap.size) (n c : Nat) : 0 < n → ∀ b, (Value.slice (some ⟨w.heap.size, 0, none⟩) n c).ownBlock = some b → ¬ F b := fun _ b hb hf => by
  have : w.heap.size = b := by simpa [Value.ownBlock] using hb
  have := hF b hf
  omega

theorem vnew2 (w : World) : Calls Try.prog 28 #[.int .i64 2] w fun e w' => ∃ q F, e = .returned (.tuple #[.pointer (some ⟨q, 0, none⟩), .int .i64 0]) ∧ Rcv w' 9 F q 2 0 [] ∧ Turned (fun _ => False) w w' ∧ ∀ b, F b → w.heap.size ≤ b := vnew_any w 2 (by omega) (by omega)
theorem vfirst {w : World} {F : Nat → Prop} {q : Nat} (h : Rcv w 9 F q 2 0 []) (x y z : ByteArray) : Calls Try.prog 30 #[.pointer (some ⟨q, 0, none⟩), .int .u64 0, .slice (some ⟨w.heap.size, 0, none⟩) 3 3] (w.alloc (.cells #[.string x, .string y, .string z] 9)) fun e w' => e = .returned (.tuple #[.int .i64 2, .int .i64 0]) ∧ ∃ F', Rcv w' 9 F' q 2 2 [.string x, .string y] ∧ Goes2 F w F' w' :=
  (voffer_any (h.still ((Turned.refl _ w).alloc (.cells #[.string x, .string y, .string z] 9))) 0 (by omega) (by omega) (some ⟨w.heap.size, 0, none⟩) 3 3 [.string x, .string y, .string z] (tx_new w [.string x, .string y, .string z] (by simp) (by simp)) (sep_new h.lt 3 3) 2 (by simp)).mono (by
    rintro e w' ⟨he, F', h1, h2⟩
    exact ⟨he, F', h1, (Goes2.still ((Turned.refl _ w).alloc _)).trans h2⟩)
theorem vsecond {w : World} {F : Nat → Prop} {q : Nat} {u : Value} (h : Rcv w 9 F q 2 2 [u]) (x y : ByteArray) : Calls Try.prog 30 #[.pointer (some ⟨q, 0, none⟩), .int .u64 1, .slice (some ⟨w.heap.size, 0, none⟩) 2 2] (w.alloc (.cells #[.string x, .string y] 9)) fun e w' => e = .returned (.tuple #[.int .i64 1, .int .i64 0]) ∧ ∃ F', Rcv w' 9 F' q 2 3 [u, .string y] ∧ Goes2 F w F' w' :=
  (voffer_any (h.still ((Turned.refl _ w).alloc (.cells #[.string x, .string y] 9))) 1 (by omega) (by omega) (some ⟨w.heap.size, 0, none⟩) 2 2 [.string x, .string y] (tx_new w [.string x, .string y] (by simp) (by simp)) (sep_new h.lt 2 2) 1 (by simp)).mono (by
    rintro e w' ⟨he, F', h1, h2⟩
    exact ⟨he, F', h1, (Goes2.still ((Turned.refl _ w).alloc _)).trans h2⟩)
theorem vthird {w : World} {F : Nat → Prop} {q : Nat} {xs : List Value} (h : Rcv w 9 F q 2 3 xs) (v : Value) : Calls Try.prog 30 #[.pointer (some ⟨q, 0, none⟩), .int .u64 4, v] w fun e w' => e = .returned (.tuple #[.int .i64 0, .int .i64 1]) ∧ w = w' := voffer_err h 4 (by omega) v

set_option maxRecDepth 10000 in
set_option maxHeartbeats 1000000 in
theorem awake10_any (w : World) : Calls Try.prog 27 #[] w fun e w' => e = .returned (.bool true) ∧ Turned (fun _ => False) w w' := by
  go_enter Try.func27, Try.ntmps27
  go_wp2_with fail
  refine (vnew2 _).mono ?_
  rintro e w1 ⟨q, F1, rfl, s1, t1, b1⟩
  have o1 : Own w w1 F1 := ⟨t1, b1⟩
  clear t1 b1
  go_wp2_with fail
  refine (vfirst s1 _ _ _).mono ?_
  rintro e w2 ⟨rfl, F2, s2, g2⟩
  have o2 := o1.goes g2
  clear s1 g2 o1
  go_wp2_with fail
  refine (vtake_any s2).mono ?_
  rintro e w3 ⟨rfl, F3, s3, g3⟩
  have o3 := o2.goes g3
  clear s2 g3 o2
  go_wp2_with fail
  refine (vsecond s3 _ _).mono ?_
  rintro e w4 ⟨rfl, F4, s4, g4⟩
  have o4 := o3.goes g4
  clear s3 g4 o3
  go_wp2_with fail
  refine (vthird (s4.still ((Turned.refl _ _).alloc _)) _).mono ?_
  rintro e w5 ⟨rfl, rfl⟩
  go_wp2
  go_ret
  exact ⟨rfl, o4.turned.alloc _⟩
end Go.Proofs.Ytlifoojojclllaa
