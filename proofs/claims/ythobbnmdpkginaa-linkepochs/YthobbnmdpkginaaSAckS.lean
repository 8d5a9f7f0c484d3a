/-
  The call Ack of a sender, for things of one kind.
-/
import Derived.Test.YthobbnmdpkginaaSCallS
namespace Go.Proofs.Ythobbnmdpkginaa
open Go.RowKit
set_option linter.unusedVariables false

theorem sackS_nil (w : World) (n : Int) : Calls Try.prog 34 #[.pointer none, .int .u64 n] w fun e w' => e = .returned (.int .i64 6) ∧ w = w' := by
  go_enter Try.func34, Try.ntmps34
  go_wp2
  go_ret
  exact ⟨rfl, rfl⟩
theorem sackS_stale {w : World} {F : Nat → Prop} {q most win ack : Nat} {xs : List Value} (h : Snd w 9 F q most win ack xs) (n : Nat) (hn : n < ack) : Calls Try.prog 34 #[.pointer (some ⟨q, 0, none⟩), .int .u64 (n : Nat)] w fun e w' => e = .returned (.int .i64 9) ∧ w = w' := by
  obtain ⟨p, sv, first, h, hF⟩ := h
  have hc2 := h.c2
  have hnI : (n : Int) < ack := by omega
  clear h hF
  go_enter Try.func34, Try.ntmps34
  go_wp2
  go_ret
  exact ⟨rfl, rfl⟩
theorem wrap_subS {n ack d : Nat} (h : n = ack + d) (h2 : n < 18446744073709551616) : IntKind.u64.wrap ((n : Int) - (ack : Int)) = (d : Int) := by
  rw [IntKind.wrap_u64]; omega
set_option maxRecDepth 10000 in
theorem sackS_arg {w : World} {F : Nat → Prop} {q most win ack : Nat} {xs : List Value} (h : Snd w 9 F q most win ack xs) (n : Nat) (hn : ack + min win xs.length < n) (hn2 : n < 18446744073709551616) : Calls Try.prog 34 #[.pointer (some ⟨q, 0, none⟩), .int .u64 (n : Nat)] w fun e w' => e = .returned (.int .i64 1) ∧ ∃ k, w' = w.drewN k := by
  have hp := fun wx (e1 : wx.heap = w.heap) => ssentS_any (w := wx) (h.frame (fun b _ => by rw [e1]))
  have hl := h.le
  obtain ⟨p, sv, first, h, hF⟩ := h
  have hc2 := h.c2
  have hnI : ¬ (n : Int) < ack := by omega
  have hM : min win xs.length ≤ 32 := by omega
  generalize min win xs.length = M at *
  clear h hF hl
  obtain ⟨d, HD⟩ : ∃ d, Hid (n = ack + d) := ⟨n - ack, by unfold Hid; omega⟩
  have hwr := wrap_subS HD.out hn2
  have hgI : (M : Int) < (d : Int) := by have := HD.out; omega
  go_enter Try.func34, Try.ntmps34
  go_wp2_with fail
  go_quiet (first | (go_at_call 57; refine Calls.quiet_of (hp _ rfl)))
  go_wp2
  go_ret
  exact ⟨rfl, nq, rfl⟩

set_option maxRecDepth 10000 in
set_option maxHeartbeats 1000000 in
theorem sackS_any {w : World} {F : Nat → Prop} {q most win ack : Nat} {xs : List Value} (h : Snd w 9 F q most win ack xs) (n d : Nat) (hnd : n = ack + d) (hd : d ≤ min win xs.length) (hn2 : n < 18446744073709551616) : Calls Try.prog 34 #[.pointer (some ⟨q, 0, none⟩), .int .u64 (n : Nat)] w fun e w' => e = .returned (.int .i64 0) ∧ ∃ F', Snd w' 9 F' q most win n (xs.drop d) ∧ Goes2 F w F' w' := by
  have hp := fun wx (e1 : wx.heap = w.heap) => ssentS_any (w := wx) (h.frame (fun b _ => by rw [e1]))
  have hl := h.le
  obtain ⟨p, sv, first, h, hF⟩ := h
  have hc2 := h.c2
  have hc0 := h.c0
  have hnI : ¬ (n : Int) < ack := by omega
  have hM : min win xs.length ≤ 32 := by omega
  have hdx : d ≤ xs.length := by omega
  have hwr := wrap_subS hnd hn2
  generalize min win xs.length = M at *
  have H : Hid (∀ k, SndAt (w.drewN k) 9 q p sv most first win ack xs) := fun k => h.drewN k
  have HF : Hid (∀ b, F b ↔ b = q ∨ Foot p sv b) := hF
  clear h hF hl hnd
  have hgI : ¬ (M : Int) < (d : Int) := by omega
  have hd32 : d ≤ 32 := by omega
  go_enter Try.func34, Try.ntmps34
  go_wp2_with fail
  go_quiet (first | (go_at_call 57; refine Calls.quiet_of (hp _ rfl)))
  clear hp
  go_wp2_with fail
  have hr0 := H.out nq
  clear H hc0 hc2
  try simp only [hwr]
  have hdec : decide (M < d) = false := by simp; omega
  try simp only [hdec]
  clear hwr hdec hgI
  have hG0 : Goes2 F w F (w.drewN nq) := Goes2.drewN F w nq
  generalize w.drewN nq = w1 at *
  go_loopw [29] (fun iv wr => ∃ (j first : Nat) (sv : Value), j ≤ d ∧ iv = .int .u64 j ∧ SndAt wr 9 q p sv most first win ack (xs.drop j) ∧ Goes2 F w (fun b => b = q ∨ Foot p sv b) wr) (fun iv _ => d - (intOf iv).toNat)
  case atStart => exact ⟨0, first, sv, by omega, rfl, hr0, ⟨hG0.turned, fun b hb => hG0.foot b ((HF.out b).2 hb)⟩⟩
  case round =>
    clear hr0 hG0
    obtain ⟨j, first, sv, hj, rfl, hr, hg⟩ := hrel
    by_cases hlt : j < d
    · have hltI : (j : Int) < d := by omega
      have hx : xs.drop j = xs[j] :: xs.drop (j + 1) := List.drop_eq_getElem_cons (by omega)
      have hc0 := hr.c0
      have HR : Hid (SndAt wr 9 q p sv most first win ack (xs.drop j)) := hr
      have hring := hr.ring
      rw [hx] at hring
      have ht := takeS_any hring
      clear hring hx hr
      go_wp2_with fail
      refine ht.mono ?_
      rintro e w3 ⟨rfl, sv3, f3, r3, g3⟩
      have h4 := HR.out.goes r3 g3
      have hg4 := hg.trans (goes_foot g3 (fun b => Iff.rfl))
      clear HR r3 g3 hg hc0 ht
      go_wp2
      go_roundw
      case rel => first | exact ⟨j + 1, f3, sv3, by omega, by go_num, h4, hg4⟩ | ((repeat apply Exists.intro); exact ⟨⟨j + 1, f3, sv3, by omega, by go_num, h4, hg4⟩, rfl⟩)
      case measure => simp [intOf]; omega
    · obtain rfl : d = j := by omega
      have hc2 := hr.c2
      have hfr := hr.fr 2
      have h4 := hr.acked n
      have hg4 : Goes2 F w (fun b => b = q ∨ Foot p sv b) (wr.setCell ⟨q, 2, none⟩ (.int .u64 (n : Nat))) := hg.trans ⟨(Turned.refl _ _).setCell (.inl (.inl rfl)) _, fun b hb => .inl hb⟩
      clear hr hg
      go_wp2
      go_ret
      exact ⟨rfl, _, ⟨_, _, _, h4, fun b => Iff.rfl⟩, hg4⟩
end Go.Proofs.Ythobbnmdpkginaa
