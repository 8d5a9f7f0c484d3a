/-
  The calls of an end of a link.
-/
import Derived.Test.YthobbnmdpkginaaLRep
import Derived.Test.YthobbnmdpkginaaLSndS
import Derived.Test.YthobbnmdpkginaaLSndI
import Derived.Test.YthobbnmdpkginaaVCallS
import Derived.Test.YthobbnmdpkginaaVCallI
import Derived.Laws.Rows
namespace Go.Proofs.Ythobbnmdpkginaa
open Go.RowKit
set_option linter.unusedVariables false

theorem lnewA_err1 (w : World) (vn : Nat) (vp most win : Int) (h : most < 1 ∨ 256 < most) : Calls Try.prog 25 #[.agg #[.int .u64 (vn : Nat), .int .i64 vp], .int .i64 most, .int .i64 win] w fun e w' => e = .returned (.tuple #[.pointer none, .int .i64 1]) ∧ Turned (fun _ => False) w w' := by
  go_enter Try.func25, Try.ntmps25
  go_wp2_with fail
  refine (snewS_err1 _ most win h).mono ?_
  rintro e w1 ⟨rfl, rfl⟩
  go_wp2
  go_ret2
  exact ⟨rfl, (Turned.refl _ w).alloc _⟩
theorem lnewA_err2 (w : World) (vn : Nat) (vp : Int) (M : Nat) (h1 : 1 ≤ M) (h2 : M ≤ 256) (win : Int) (h : win < 1 ∨ 32 < win) : Calls Try.prog 25 #[.agg #[.int .u64 (vn : Nat), .int .i64 vp], .int .i64 (M : Nat), .int .i64 win] w fun e w' => e = .returned (.tuple #[.pointer none, .int .i64 1]) ∧ Turned (fun _ => False) w w' := by
  go_enter Try.func25, Try.ntmps25
  go_wp2_with fail
  refine (snewS_err2 _ M h1 h2 win h).mono ?_
  rintro e w1 ⟨rfl, t1⟩
  go_wp2
  go_ret2
  exact ⟨rfl, ((Turned.refl _ w).alloc _).trans t1 (fun _ f => f.elim)⟩
theorem lnewA_any (w : World) (vn : Nat) (vp : Int) (M : Nat) (h1 : 1 ≤ M) (h2 : M ≤ 256) (N : Nat) (h3 : 1 ≤ N) (h4 : N ≤ 32) : Calls Try.prog 25 #[.agg #[.int .u64 (vn : Nat), .int .i64 vp], .int .i64 (M : Nat), .int .i64 (N : Nat)] w fun e w' => ∃ k F, e = .returned (.tuple #[.pointer (some ⟨k, 0, none⟩), .int .i64 0]) ∧ Lnk w' 9 3 F k vn vp M N 0 [] 0 [] ∧ Turned (fun _ => False) w w' ∧ ∀ b, F b → w.heap.size ≤ b := by
  have hb : (w.alloc (.cells #[.int .u64 (vn : Nat), .int .i64 vp] 43)).heap[w.heap.size]? = some (.cells #[.int .u64 (vn : Nat), .int .i64 vp] 43 (0, 0)) := Deep.blk_alloc_new _ _
  have t0 : Turned (fun _ => False) w (w.alloc (.cells #[.int .u64 (vn : Nat), .int .i64 vp] 43)) := (Turned.refl _ w).alloc _
  have hs0 : (w.alloc (.cells #[.int .u64 (vn : Nat), .int .i64 vp] 43)).heap.size = w.heap.size + 1 := by simp
  go_enter Try.func25, Try.ntmps25
  go_wp2_with fail
  generalize w.alloc (.cells #[.int .u64 (vn : Nat), .int .i64 vp] 43) = w0 at *
  have HS : Hid (w0.heap.size = w.heap.size + 1) := hs0
  clear hs0
  refine (snewS_any _ M h1 h2 N h3 h4).mono ?_
  rintro e w1 ⟨qs, FS, rfl, s1, t1, b1⟩
  go_wp2_with fail
  refine (vnewI_any _ M h1 h2).mono ?_
  rintro e w2 ⟨qr, FR, rfl, r2, t2, b2⟩
  have s2 := s1.turned t2 (fun _ _ f => f)
  have hl1 := s1.lt
  have t12 := t1.trans t2 (fun _ f => f.elim)
  have hb2 : w2.heap[w.heap.size]? = some (.cells #[.int .u64 (vn : Nat), .int .i64 vp] 43 (0, 0)) := by
    rw [t12.block w.heap.size (by have := HS.out; omega) (fun f => f)]; exact hb
  have c0 : w2.cell? ⟨w.heap.size, 0, none⟩ = some (.int .u64 (vn : Nat)) := by unfold World.cell?; rw [hb2]; rfl
  have c1 : w2.cell? ⟨w.heap.size, 1, none⟩ = some (.int .i64 vp) := by unfold World.cell?; rw [hb2]; rfl
  have HE : ∀ t, Hid (Lnk (w2.alloc (.cells #[.int .u64 (vn : Nat), .int .i64 vp, .pointer (some ⟨qs, 0, none⟩), .pointer (some ⟨qr, 0, none⟩)] t)) 9 3 (fun b => b = w2.heap.size ∨ FS b ∨ FR b) w2.heap.size vn vp M N 0 [] 0 []) := fun t => lnk_new s2 r2 (fun b h1 h2 => by have := hl1 b h1; have := b2 b h2; omega) vn vp t
  have HT : Hid (Turned (fun _ => False) w w2 ∧ ∀ b, (b = w2.heap.size ∨ FS b ∨ FR b) → w.heap.size ≤ b) := by
    have := t0.size
    have := t1.size
    have := t2.size
    refine ⟨t0.trans t12 (fun _ f => f.elim), ?_⟩
    rintro b (rfl | h | h)
    · omega
    · have := b1 b h; omega
    · have := b2 b h; omega
  clear hb hb2 t0 t1 t2 t12 s1 s2 r2 hl1 b1 b2
  go_wp2
  go_ret2
  exact ⟨_, _, rfl, (HE _).out, HT.out.1.alloc _, HT.out.2⟩

section
variable {w : World} {F : Nat → Prop} {k : Nat} {vn : Nat} {vp : Int} {M N ack next : Nat} {xs ys : List Value}
theorem lputA_busy (h : Lnk w 9 3 F k vn vp M N ack xs next ys) (hf : xs.length = M) (x : Value) : Calls Try.prog 27 #[.pointer (some ⟨k, 0, none⟩), x] w fun e w' => e = .returned (.int .i64 7) ∧ ∃ q, w' = w.drewN q := by
  obtain ⟨qs, qr, FS, FR, h, hF⟩ := h
  have hc2 := h.c2
  have hp := sputS_busy h.snd hf x
  clear h hF
  go_enter Try.func27, Try.ntmps27
  go_wp2_with fail
  refine hp.mono ?_
  rintro e w1 ⟨rfl, q1, rfl⟩
  go_wp2
  go_ret
  exact ⟨rfl, q1, rfl⟩
theorem lputA_any (h : Lnk w 9 3 F k vn vp M N ack xs next ys) (hf : xs.length < M) (x : Value) (hx : One x) : Calls Try.prog 27 #[.pointer (some ⟨k, 0, none⟩), x] w fun e w' => e = .returned (.int .i64 0) ∧ ∃ F', Lnk w' 9 3 F' k vn vp M N ack (xs ++ [x]) next ys ∧ Goes2 F w F' w' := by
  obtain ⟨qs, qr, FS, FR, h, hF⟩ := h
  have hc2 := h.c2
  have hp := sputS_any h.snd hf x hx
  have H : Hid (LnkAt w 9 3 k qs qr FS FR vn vp M N ack xs next ys) := h
  have HF : Hid (∀ b, F b ↔ b = k ∨ FS b ∨ FR b) := hF
  clear h hF
  go_enter Try.func27, Try.ntmps27
  go_wp2_with fail
  refine hp.mono ?_
  rintro e w1 ⟨rfl, F1, s1, g1⟩
  have hE : Hid (∃ F', Lnk w1 9 3 F' k vn vp M N ack (xs ++ [x]) next ys ∧ Goes2 F w F' w1) := ⟨_, ⟨qs, qr, F1, FR, H.out.sent s1 g1, fun b => Iff.rfl⟩, sent_foot HF.out g1⟩
  clear s1 g1
  go_wp2
  go_ret
  exact ⟨rfl, hE.out⟩
theorem ltakeA_none (h : Lnk w 9 3 F k vn vp M N ack xs next []) : Calls Try.prog 26 #[.pointer (some ⟨k, 0, none⟩)] w fun e w' => e = .returned (.tuple #[.int .i64 0, .int .i64 6]) ∧ w = w' := by
  obtain ⟨qs, qr, FS, FR, h, hF⟩ := h
  have hc3 := h.c3
  have hp := vtakeI_none h.rcv
  clear h hF
  go_enter Try.func26, Try.ntmps26
  go_wp2_with fail
  refine hp.mono ?_
  rintro e w1 ⟨rfl, rfl⟩
  go_wp2
  go_ret2
  exact ⟨rfl, rfl⟩
theorem ltakeA_any {y : Value} (h : Lnk w 9 3 F k vn vp M N ack xs next (y :: ys)) : Calls Try.prog 26 #[.pointer (some ⟨k, 0, none⟩)] w fun e w' => e = .returned (.tuple #[y, .int .i64 0]) ∧ ∃ F', Lnk w' 9 3 F' k vn vp M N ack xs next ys ∧ Goes2 F w F' w' := by
  obtain ⟨qs, qr, FS, FR, h, hF⟩ := h
  have hc3 := h.c3
  have hp := vtakeI_any h.rcv
  have H : Hid (LnkAt w 9 3 k qs qr FS FR vn vp M N ack xs next (y :: ys)) := h
  have HF : Hid (∀ b, F b ↔ b = k ∨ FS b ∨ FR b) := hF
  clear h hF
  go_enter Try.func26, Try.ntmps26
  go_wp2_with fail
  refine hp.mono ?_
  rintro e w1 ⟨rfl, F1, s1, g1⟩
  have hE : Hid (∃ F', Lnk w1 9 3 F' k vn vp M N ack xs next ys ∧ Goes2 F w F' w1) := ⟨_, ⟨qs, qr, FS, F1, H.out.came s1 g1, fun b => Iff.rfl⟩, came_foot HF.out g1⟩
  clear s1 g1
  go_wp2
  go_ret2
  exact ⟨rfl, hE.out⟩
theorem lackedA_any (h : Lnk w 9 3 F k vn vp M N ack xs next ys) : Calls Try.prog 21 #[.pointer (some ⟨k, 0, none⟩)] w fun e w' => e = .returned (.int .u64 (ack : Nat)) ∧ w = w' := by
  obtain ⟨qs, qr, FS, FR, h, hF⟩ := h
  have hc2 := h.c2
  have hp := sackedS_any h.snd
  clear h hF
  go_enter Try.func21, Try.ntmps21
  go_wp2_with fail
  refine hp.mono ?_
  rintro e w1 ⟨rfl, rfl⟩
  go_wp2
  go_ret
  exact ⟨rfl, rfl⟩
theorem lgotA_any (h : Lnk w 9 3 F k vn vp M N ack xs next ys) : Calls Try.prog 28 #[.pointer (some ⟨k, 0, none⟩)] w fun e w' => e = .returned (.int .u64 (next : Nat)) ∧ w = w' := by
  obtain ⟨qs, qr, FS, FR, h, hF⟩ := h
  have hc3 := h.c3
  have hp := vnextI_any h.rcv
  clear h hF
  go_enter Try.func28, Try.ntmps28
  go_wp2_with fail
  refine hp.mono ?_
  rintro e w1 ⟨rfl, rfl⟩
  go_wp2
  go_ret
  exact ⟨rfl, rfl⟩
theorem lidleA_true (h : Lnk w 9 3 F k vn vp M N ack [] next ys) : Calls Try.prog 18 #[.pointer (some ⟨k, 0, none⟩)] w fun e w' => e = .returned (.bool true) ∧ w = w' := by
  obtain ⟨qs, qr, FS, FR, h, hF⟩ := h
  have hc2 := h.c2
  have hp := slenS_any h.snd
  simp only [List.length_nil] at hp
  clear h hF
  go_enter Try.func18, Try.ntmps18
  go_wp2_with fail
  refine hp.mono ?_
  rintro e w1 ⟨rfl, rfl⟩
  go_wp2
  go_ret
  exact ⟨rfl, rfl⟩
theorem lroomA_any (h : Lnk w 9 3 F k vn vp M N ack xs next ys) : Calls Try.prog 20 #[.pointer (some ⟨k, 0, none⟩)] w fun e w' => e = .returned (.int .i64 ((M : Int) - xs.length)) ∧ ∃ q, w' = w.drewN q := by
  obtain ⟨qs, qr, FS, FR, h, hF⟩ := h
  have hc2 := h.c2
  have hp := sroomS_any h.snd
  clear h hF
  go_enter Try.func20, Try.ntmps20
  go_wp2_with fail
  refine hp.mono ?_
  rintro e w1 ⟨rfl, q, rfl⟩
  go_wp2
  go_ret
  exact ⟨rfl, q, rfl⟩
end
end Go.Proofs.Ythobbnmdpkginaa
