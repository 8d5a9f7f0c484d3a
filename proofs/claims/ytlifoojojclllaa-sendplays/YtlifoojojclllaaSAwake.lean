/-
  The document's example of a sender; a sender of one's own.
-/
import Derived.Test.YtlifoojojclllaaSList
namespace Go.Proofs.Ytlifoojojclllaa
open Go.RowKit
set_option linter.unusedVariables false

/-- An object of one's own: made behind a world. -/
structure Own (w0 w : World) (F : Nat → Prop) : Prop where
  turned : Turned (fun _ => False) w0 w
  foot : ∀ b, F b → w0.heap.size ≤ b
section
variable {w0 w w' : World} {F F' : Nat → Prop}
theorem Own.goes (h : Own w0 w F) (g : Goes2 F w F' w') : Own w0 w' F' :=
  ⟨h.turned.trans g.turned (fun i hi => .inr (h.foot i hi)), fun b hb => (g.foot b hb).elim (h.foot b) (fun hle => Nat.le_trans h.turned.size hle)⟩
theorem Own.drewN (h : Own w0 w F) (q : Nat) : Own w0 (w.drewN q) F := ⟨h.turned.drewN q, h.foot⟩
theorem Own.on {G : Nat → Prop} (h : Own w0 w F) (t : Turned G w w') (hG : ∀ i, G i → w0.heap.size ≤ i) : Own w0 w' F := ⟨h.turned.trans t (fun i hi => .inr (hG i hi)), h.foot⟩
theorem Own.still (h : Own w0 w F) (t : Turned (fun _ => False) w w') : Own w0 w' F := h.on t (fun _ hf => hf.elim)
theorem Own.below (h : Own w0 w F) : Below w0.heap.size w0 w := h.turned.below (Nat.le_refl _) (fun _ hf => hf.elim)
theorem Own.behind {w1 : World} (t : Turned (fun _ => False) w0 w1) (h : Own w1 w F) : Own w0 w F := ⟨t.trans h.turned (fun _ hf => hf.elim), fun b hb => Nat.le_trans t.size (h.foot b hb)⟩
theorem Snd.still {e : TypeId} {q most win ack : Nat} {xs : List Value} (h : Snd w e F q most win ack xs) (t : Turned (fun _ => False) w w') : Snd w' e F q most win ack xs := h.turned t (fun _ _ hf => hf)
theorem Rcv.still {e : TypeId} {q most next : Nat} {xs : List Value} (h : Rcv w e F q most next xs) (t : Turned (fun _ => False) w w') : Rcv w' e F q most next xs := h.turned t (fun _ _ hf => hf)
/-- A list of one's own beside an object: it stays while the object goes on. -/
theorem Lst.goes {v : Value} {xs : List Value} (h : Lst w v xs) (g : Goes2 F w F' w') (hv : ∀ b, v.ownBlock = some b → ¬ F b) : Lst w' v xs ∧ ∀ b, v.ownBlock = some b → ¬ F' b :=
  ⟨h.turned g.turned hv, fun b hb hf => (g.foot b hf).elim (hv b hb) (fun hle => by have := h.lt b hb; omega)⟩
theorem Lst.still {v : Value} {xs : List Value} (h : Lst w v xs) (t : Turned (fun _ => False) w w') : Lst w' v xs := h.turned t (fun _ _ hf => hf)
end

/-- A new list of texts. -/
theorem lst_new (w : World) (c : List Value) (hs : ∀ x ∈ c, ∃ s, x = .string s) : Lst (w.alloc (.cells c.toArray 9)) (.slice (some ⟨w.heap.size, 0, none⟩) c.length c.length) c := by
  refine ⟨hs, _, c.length, rfl, .inr ⟨w.heap.size, 0, c.length, fun j => (c[j]?).getD (.string ⟨#[]⟩), rfl, ?_, by omega, Nat.le_refl _, fun j x hj => by simp [hj]⟩⟩
  have := World.rowIs_alloc w c.toArray 9 (fun j => (c[j]?).getD (.string ⟨#[]⟩)) (fun i hi => by simp at hi; simp [hi])
  simpa using this
theorem strs2 (w : World) (s t : ByteArray) : Strs (w.alloc (.cells #[.string s, .string t] 9)) (.slice (some ⟨w.heap.size, 0, none⟩) 2 2) [.string s, .string t] :=
  (lst_new w [.string s, .string t] (by simp)).strs

theorem snew32 (w : World) : Calls Try.prog 14 #[.int .i64 3, .int .i64 2] w fun e w' => ∃ q F, e = .returned (.tuple #[.pointer (some ⟨q, 0, none⟩), .int .i64 0]) ∧ Snd w' 9 F q 3 2 0 [] ∧ Turned (fun _ => False) w w' ∧ ∀ b, F b → w.heap.size ≤ b := snewS_any w 3 (by omega) (by omega) 2 (by omega) (by omega)
theorem sack1 {w : World} {F : Nat → Prop} {q : Nat} {x y z : Value} (h : Snd w 9 F q 3 2 0 [x, y, z]) : Calls Try.prog 16 #[.pointer (some ⟨q, 0, none⟩), .int .u64 1] w fun e w' => e = .returned (.int .i64 0) ∧ ∃ F', Snd w' 9 F' q 3 2 1 [y, z] ∧ Goes2 F w F' w' := sackS_any h 1 1 rfl (by simp) (by omega)
theorem sack4 {w : World} {F : Nat → Prop} {q : Nat} {y z : Value} (h : Snd w 9 F q 3 2 1 [y, z]) : Calls Try.prog 16 #[.pointer (some ⟨q, 0, none⟩), .int .u64 4] w fun e w' => e = .returned (.int .i64 1) ∧ ∃ k, w' = w.drewN k := sackS_arg h 4 (by simp) (by omega)
theorem swin32 {w : World} {F : Nat → Prop} {q : Nat} {x y z : ByteArray} (h : Snd w 9 F q 3 2 0 [.string x, .string y, .string z]) :
    Calls Try.prog 17 #[.pointer (some ⟨q, 0, none⟩)] w fun e w' => ∃ ao c, e = .returned (.tuple #[.int .u64 0, .slice ao 2 c]) ∧ Lst w' (.slice ao 2 c) [.string x, .string y] ∧ Turned (fun _ => False) w w' ∧ ∀ b, (Value.slice ao 2 c).ownBlock = some b → w.heap.size ≤ b :=
  (swin_any h (by simp)).mono (by
    rintro e w' ⟨v', rfl, hl, t, hb⟩
    obtain ⟨ao, c, rfl⟩ := hl.shape
    exact ⟨ao, c, rfl, hl, t, hb⟩)
theorem swin21 {w : World} {F : Nat → Prop} {q : Nat} {x y : ByteArray} (h : Snd w 9 F q 3 2 1 [.string x, .string y]) :
    Calls Try.prog 17 #[.pointer (some ⟨q, 0, none⟩)] w fun e w' => ∃ ao c, e = .returned (.tuple #[.int .u64 1, .slice ao 2 c]) ∧ Lst w' (.slice ao 2 c) [.string x, .string y] ∧ Turned (fun _ => False) w w' ∧ ∀ b, (Value.slice ao 2 c).ownBlock = some b → w.heap.size ≤ b :=
  (swin_any h (by simp)).mono (by
    rintro e w' ⟨v', rfl, hl, t, hb⟩
    obtain ⟨ao, c, rfl⟩ := hl.shape
    exact ⟨ao, c, rfl, hl, t, hb⟩)

set_option maxRecDepth 10000 in
set_option maxHeartbeats 1000000 in
theorem awake9_any (w : World) : Calls Try.prog 13 #[] w fun e w' => e = .returned (.bool true) ∧ Turned (fun _ => False) w w' := by
  go_enter Try.func13, Try.ntmps13
  go_wp2_with fail
  refine (snew32 _).mono ?_
  rintro e w1 ⟨q, F1, rfl, s1, t1, b1⟩
  have o1 : Own w w1 F1 := ⟨t1, b1⟩
  clear t1 b1
  go_wp2_with fail
  refine (sputS_any s1 (by simp) _ (one_string _)).mono ?_
  rintro e w2 ⟨rfl, F2, s2, g2⟩
  have o2 := o1.goes g2
  clear s1 g2 o1
  go_wp2_with fail
  refine (sputS_any s2 (by simp) _ (one_string _)).mono ?_
  rintro e w3 ⟨rfl, F3, s3, g3⟩
  have o3 := o2.goes g3
  clear s2 g3 o2
  go_wp2_with fail
  refine (sputS_any s3 (by simp) _ (one_string _)).mono ?_
  rintro e w4 ⟨rfl, F4, s4, g4⟩
  have o4 := o3.goes g4
  clear s3 g4 o3
  go_wp2_with fail
  refine (swin32 s4).mono ?_
  rintro e w5 ⟨ao, c, rfl, l5, t5, hb5⟩
  have o5 := o4.still t5
  have s5 := s4.still t5
  have hv5 : ∀ b, (Value.slice ao 2 c).ownBlock = some b → ¬ F4 b := fun b hb hf => by have := s4.lt b hf; have := hb5 b hb; omega
  clear s4 o4 t5 hb5
  go_wp2_with fail
  refine (sack1 s5).mono ?_
  rintro e w6 ⟨rfl, F6, s6, g6⟩
  have o6 := o5.goes g6
  have l6 := (l5.goes g6 hv5).1
  clear s5 o5 g6 l5 hv5
  go_wp2_with fail
  refine (swin21 s6).mono ?_
  rintro e w7 ⟨ao7, c7, rfl, l7, t7, hb7⟩
  have o7 := o6.still t7
  have s7 := s6.still t7
  have l8 := l6.still t7
  clear s6 o6 t7 hb7 l6
  go_wp2_with fail
  refine (same_any (xs := [.string ⟨#[97]⟩, .string ⟨#[98]⟩]) ?q1 ?q2 (by simp)).mono ?_
  case q1 => exact (l8.still ((Turned.refl _ _).alloc _)).strs
  case q2 => exact strs2 _ _ _
  rintro e w9 ⟨rfl, k9, rfl⟩
  have o9 := (o7.still ((Turned.refl _ _).alloc (.cells #[.string ⟨#[97]⟩, .string ⟨#[98]⟩] 9))).drewN k9
  have s9 := (s7.still ((Turned.refl _ _).alloc (.cells #[.string ⟨#[97]⟩, .string ⟨#[98]⟩] 9))).drewN k9
  have l9 := (l7.still ((Turned.refl _ _).alloc (.cells #[.string ⟨#[97]⟩, .string ⟨#[98]⟩] 9))).still ((Turned.refl _ _).drewN k9)
  clear o7 s7 l7 l8
  generalize (w7.alloc (.cells #[.string ⟨#[97]⟩, .string ⟨#[98]⟩] 9)).drewN k9 = w9 at *
  go_wp2_with fail
  refine (same_any (xs := [.string ⟨#[98]⟩, .string ⟨#[99]⟩]) ?q1 ?q2 (by simp)).mono ?_
  case q1 => exact (l9.still ((Turned.refl _ _).alloc _)).strs
  case q2 => exact strs2 _ _ _
  rintro e w10 ⟨rfl, k10, rfl⟩
  have o10 := (o9.still ((Turned.refl _ _).alloc (.cells #[.string ⟨#[98]⟩, .string ⟨#[99]⟩] 9))).drewN k10
  have s10 := (s9.still ((Turned.refl _ _).alloc (.cells #[.string ⟨#[98]⟩, .string ⟨#[99]⟩] 9))).drewN k10
  clear o9 s9 l9
  generalize (w9.alloc (.cells #[.string ⟨#[98]⟩, .string ⟨#[99]⟩] 9)).drewN k10 = w10 at *
  go_wp2_with fail
  refine (sack4 s10).mono ?_
  rintro e w11 ⟨rfl, k11, rfl⟩
  go_wp2
  go_ret
  exact ⟨rfl, o10.turned.drewN k11⟩
end Go.Proofs.Ytlifoojojclllaa
