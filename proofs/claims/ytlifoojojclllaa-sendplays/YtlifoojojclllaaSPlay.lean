/-
  A sender beside the list of all that was put.
-/
import Derived.Test.YtlifoojojclllaaSPart
import Derived.Deep.CutRange
import Derived.Deep.CutBlock
namespace Go.Proofs.Ytlifoojojclllaa.sendPlays
open Go.ChangeShapes Go.WideShapes Go.ChangeAt Go.RowKit
open Go.ChangeMaps (open_string shut_string)
set_option linter.unusedVariables false

/-- What the sender has beside the list of all that was put. -/
structure St (w0 w : World) (q M W A : Nat) (lv : Value) (zs : List Value) : Prop where
  ex : ∃ F, Snd w 9 F q M W A (zs.drop A) ∧ Bes w0 w F lv zs
  le : A ≤ zs.length
section
variable {w0 w w' : World} {q M W A : Nat} {lv : Value} {zs : List Value}
theorem St.still (h : St w0 w q M W A lv zs) (t : Turned (fun _ => False) w w') : St w0 w' q M W A lv zs := by
  obtain ⟨⟨F, s, b⟩, hl⟩ := h
  exact ⟨⟨F, s.still t, b.still t⟩, hl⟩
theorem St.turned (h : St w0 w q M W A lv zs) : Turned (fun _ => False) w0 w := by
  obtain ⟨⟨F, s, b⟩, hl⟩ := h
  exact b.own.turned
theorem St.shape (h : St w0 w q M W A lv zs) : ∃ ao cap, lv = .slice ao zs.length cap := by
  obtain ⟨⟨F, s, b⟩, hl⟩ := h
  exact b.lst.shape
theorem St.room (h : St w0 w q M W A lv zs) : zs.length - A ≤ M ∧ M ≤ 256 ∧ 1 ≤ W ∧ W ≤ 32 := by
  obtain ⟨⟨F, s, b⟩, hl⟩ := h
  have := s.le
  rw [List.length_drop] at this
  omega
/-- Put, where there is room, behind a new block. -/
theorem St.put (h : St w0 w q M W A lv zs) (hr : zs.length - A < M) (o : Obj) (s : ByteArray) : Calls Try.prog 15 #[.pointer (some ⟨q, 0, none⟩), .string s] (w.alloc o) fun e w' => e = .returned (.int .i64 0) ∧ (∀ k, w'.cell? ⟨w.heap.size, k, none⟩ = (w.alloc o).cell? ⟨w.heap.size, k, none⟩) ∧ Hid (∃ F, Snd w' 9 F q M W A (zs.drop A ++ [.string s]) ∧ Bes w0 w' F lv zs) := by
  obtain ⟨⟨F, sn, b⟩, hl⟩ := h
  have t := (Turned.refl (fun _ => False) w).alloc o
  refine (sputS_any (sn.still t) (by rw [List.length_drop]; exact hr) _ (one_string s)).mono ?_
  rintro e w' ⟨rfl, F', s', g'⟩
  exact ⟨rfl, fun k => cell_block (g'.turned.block _ (by simp) (fun hf => by have := sn.lt _ hf; omega)), F', s', (b.still t).goes g' s'.lt⟩
theorem St.appended {F : Nat → Prop} {lv' : Value} {ns : List Value} (s : Snd w 9 F q M W A (zs.drop A ++ ns)) (b : Bes w0 w F lv zs) (hl : A ≤ zs.length) (g : w.grownBy w' lv.ownBlock) (l : Lst w' lv' (zs ++ ns)) (hb : ∀ b, lv'.ownBlock = some b → lv.ownBlock = some b ∨ w.heap.size ≤ b) : St w0 w' q M W A lv' (zs ++ ns) :=
  ⟨⟨F, by rw [List.drop_append_of_le_length hl]; exact b.snd s g, b.appended g l hb⟩, by rw [List.length_append]; omega⟩
/-- Put, where there is none. -/
theorem St.busy (h : St w0 w q M W A lv zs) (hr : zs.length - A = M) (s : ByteArray) : Calls Try.prog 15 #[.pointer (some ⟨q, 0, none⟩), .string s] w fun e w' => e = .returned (.int .i64 7) ∧ ∃ k, w' = w.drewN k := by
  obtain ⟨⟨F, sn, b⟩, hl⟩ := h
  exact sputS_busy sn (by rw [List.length_drop]; exact hr) _
/-- An ack, whatever it is. -/
theorem St.ack (h : St w0 w q M W A lv zs) (hz : zs.length ≤ 1000) (N : Nat) (hN : N < 18446744073709551616) :
    ∃ ev A' : Nat, (N < A → ev = 9 ∧ A' = A) ∧ (¬ N < A → (A + min W (zs.length - A) < N → ev = 1 ∧ A' = A) ∧ (¬ A + min W (zs.length - A) < N → ev = 0 ∧ A' = N)) ∧
    Calls Try.prog 16 #[.pointer (some ⟨q, 0, none⟩), .int .u64 (N : Nat)] w fun e w' => e = .returned (.int .i64 (ev : Nat)) ∧ St w0 w' q M W A' lv zs := by
  obtain ⟨⟨F, sn, b⟩, hl⟩ := h
  by_cases h1 : N < A
  · refine ⟨9, A, fun _ => ⟨rfl, rfl⟩, fun hn => absurd h1 hn, ?_⟩
    refine (sackS_stale sn N h1).mono ?_
    rintro e w' ⟨rfl, rfl⟩
    exact ⟨rfl, ⟨F, sn, b⟩, hl⟩
  · by_cases h2 : A + min W (zs.length - A) < N
    · refine ⟨1, A, fun hn => absurd hn h1, fun _ => ⟨fun _ => ⟨rfl, rfl⟩, fun hn => absurd h2 hn⟩, ?_⟩
      refine (sackS_arg sn N (by rw [List.length_drop]; exact h2) hN).mono ?_
      rintro e w' ⟨rfl, k, rfl⟩
      exact ⟨rfl, ⟨F, sn.drewN k, b.drewN k⟩, hl⟩
    · refine ⟨0, N, fun hn => absurd hn h1, fun _ => ⟨fun hn => absurd hn h2, fun _ => ⟨rfl, rfl⟩⟩, ?_⟩
      refine (sackS_any sn N (N - A) (by omega) (by rw [List.length_drop]; omega) hN).mono ?_
      rintro e w' ⟨rfl, F', s', g'⟩
      rw [List.drop_drop, show A + (N - A) = N by omega] at s'
      exact ⟨rfl, ⟨F', s', b.goes g' s'.lt⟩, by omega⟩
/-- What is to be sent now, beside the same stretch of all. -/
theorem St.window {ao : Option Addr} {L cap : Nat} (h : St w0 w q M W A (.slice ao L cap) zs) (E : Nat) (hE : E = min zs.length (A + W)) :
    ∃ ao' D C, (∀ V, (Instr.slice 28 (.slice ao L cap) (some (.int .i64 (A : Nat))) (some (.int .i64 (E : Nat))) none).run Try.prog V = .ok (.slice ao' D C) V) ∧
    Calls Try.prog 17 #[.pointer (some ⟨q, 0, none⟩)] w fun e w' => ∃ v', e = .returned (.tuple #[.int .u64 (A : Nat), v']) ∧ St w0 w' q M W A (.slice ao L cap) zs ∧ Calls Try.prog 18 #[v', .slice ao' D C] w' fun e w'' => e = .returned (.bool true) ∧ ∃ k, w'' = w'.drewN k := by
  obtain ⟨⟨F, sn, b⟩, hl⟩ := h
  have hle := sn.le
  obtain ⟨ao', h1, h2, h3⟩ := lst_part b.lst A E (by omega) (by omega)
  refine ⟨ao', _, _, h1, ?_⟩
  refine (swin_any sn (fun x hx => b.lst.1 x (List.mem_of_mem_drop hx))).mono ?_
  rintro e w' ⟨v', rfl, l', t', _⟩
  refine ⟨v', rfl, ⟨⟨F, sn.still t', b.still t'⟩, hl⟩, ?_⟩
  have e1 : (zs.drop A).take W = (zs.drop A).take (E - A) := by
    by_cases hc : zs.length ≤ A + W
    · rw [List.take_of_length_le (by rw [List.length_drop]; omega), List.take_of_length_le (by rw [List.length_drop]; omega)]
    · rw [show E - A = W by omega]
  rw [e1] at l'
  exact same_any l'.strs (h2.still t').strs (by rw [List.length_take]; omega)
theorem St.len (h : St w0 w q M W A lv zs) : Calls Try.prog 19 #[.pointer (some ⟨q, 0, none⟩)] w fun e w' => e = .returned (.int .i64 ((zs.length - A : Nat) : Int)) ∧ w = w' := by
  obtain ⟨⟨F, sn, b⟩, hl⟩ := h
  have := slenS_any sn
  rw [List.length_drop] at this
  exact this
theorem St.free (h : St w0 w q M W A lv zs) : Calls Try.prog 20 #[.pointer (some ⟨q, 0, none⟩)] w fun e w' => e = .returned (.int .i64 ((M : Int) - ((zs.length - A : Nat) : Int))) ∧ ∃ k, w' = w.drewN k := by
  obtain ⟨⟨F, sn, b⟩, hl⟩ := h
  have := sroomS_any sn
  rw [List.length_drop] at this
  exact this
theorem St.acked (h : St w0 w q M W A lv zs) : Calls Try.prog 21 #[.pointer (some ⟨q, 0, none⟩)] w fun e w' => e = .returned (.int .u64 (A : Nat)) ∧ w = w' := by
  obtain ⟨⟨F, sn, b⟩, hl⟩ := h
  exact sackedS_any sn
end
end Go.Proofs.Ytlifoojojclllaa.sendPlays
