/-
  Two ends of an epoch, at their beginning; the document's example.
-/
import Derived.Test.YthobbnmdpkginaaLDirA
import Derived.Test.YthobbnmdpkginaaLDirB
namespace Go.Proofs.Ythobbnmdpkginaa
open Go.RowKit
set_option linter.unusedVariables false
set_option linter.unusedSimpArgs false

/-- The colours of two new ends. -/
noncomputable def col0 (q : Nat) (FA FB : Nat → Prop) : Nat → Nat := fun b =>
  haveI := Classical.propDecidable (FA b)
  haveI := Classical.propDecidable (FB b)
  if b = q then 9 else if FA b then 1 else if FB b then 2 else 0
theorem wd_new {w : World} {FA FB : Nat → Prop} {ka kb M N : Nat} (la : Lnk w 9 3 FA ka 4 2 M N 0 [] 0 []) (lb : Lnk w 3 9 FB kb 4 2 M N 0 [] 0 []) (hAB : ∀ b, FA b → ¬ FB b) (t : TypeId) :
    Wd (w.alloc (.cells #[.pointer (some ⟨ka, 0, none⟩), .pointer (some ⟨kb, 0, none⟩), .slice none 0 0, .slice none 0 0, .slice none 0 0, .slice none 0 0, .slice none 0 0, .slice none 0 0] t)) (col0 w.heap.size FA FB) w.heap.size M N ⟨ka, kb, FA, FB, .slice none 0 0, .slice none 0 0, .slice none 0 0, .slice none 0 0, .slice none 0 0, .slice none 0 0⟩ .zero ∧ ∀ b, col0 w.heap.size FA FB b ≠ 0 → b = w.heap.size ∨ FA b ∨ FB b := by
  obtain ⟨o, ho⟩ : ∃ o : Obj, o = .cells #[.pointer (some ⟨ka, 0, none⟩), .pointer (some ⟨kb, 0, none⟩), .slice none 0 0, .slice none 0 0, .slice none 0 0, .slice none 0 0, .slice none 0 0, .slice none 0 0] t := ⟨_, rfl⟩
  have hb : (w.alloc o).heap[w.heap.size]? = some o := Deep.blk_alloc_new _ _
  have tt : Turned (fun _ => False) w (w.alloc o) := (Turned.refl _ w).alloc o
  have e1 : ∀ b, FA b → col0 w.heap.size FA FB b = 1 := fun b hf => by
    have := la.lt b hf
    unfold col0
    rw [if_neg (by omega), if_pos hf]
  have e2 : ∀ b, FB b → col0 w.heap.size FA FB b = 2 := fun b hf => by
    have := lb.lt b hf
    unfold col0
    rw [if_neg (by omega), if_neg (fun h => hAB b h hf), if_pos hf]
  have e9 : col0 w.heap.size FA FB w.heap.size = 9 := by unfold col0; rw [if_pos rfl]
  rw [← ho]
  constructor
  · refine ⟨fun _ => ⟨?_, e9⟩, fun _ => ⟨la.still tt, e1⟩, fun _ => ⟨lb.still tt, e2⟩, fun _ => ⟨lst_nil _ _, fun b hb => by cases hb⟩, fun _ => ⟨lst_nil _ _, fun b hb => by cases hb⟩, fun _ => ⟨lst_nil _ _, fun b hb => by cases hb⟩, fun _ => ⟨lst_nil _ _, fun b hb => by cases hb⟩, fun _ => ⟨⟨rw_nil _ _ _, fun x hx => by cases hx⟩, fun b hb => by cases hb⟩, fun _ => ⟨⟨rw_nil _ _ _, fun x hx => by cases hx⟩, fun b hb => by cases hb⟩⟩
    rw [ho] at hb ⊢
    refine ⟨?_, ?_, ?_, ?_, ?_, ?_, ?_, ?_, fun o => ?_⟩
    all_goals first | (unfold World.cell?; rw [hb]; rfl) | (unfold World.frozen?; rw [hb]; simp)
  · intro b hn
    unfold col0 at hn
    split at hn
    · next h => exact .inl h
    · split at hn
      · next h => exact .inr (.inl h)
      · split at hn
        · next h => exact .inr (.inr h)
        · exact absurd rfl hn

set_option maxRecDepth 10000 in
theorem begin_any (w : World) (most win : Nat) (h1 : most < 256) (h2 : win < 256) (M N : Nat) (hM : M = 1 + most % 12) (hN : N = 1 + win % 8) :
    Calls Try.prog 11 #[.int .u8 (most : Nat), .int .u8 (win : Nat)] w fun e w' => ∃ q col d, e = .returned (.pointer (some ⟨q, 0, none⟩)) ∧ Wd w' col q M N d .zero ∧ Own w w' (fun b => col b ≠ 0) := by
  have hMI : 1 + (most : Int) % 12 = (M : Int) := by omega
  have hNI : 1 + (win : Int) % 8 = (N : Int) := by omega
  have hM1 : 1 ≤ M := by omega
  have hM2 : M ≤ 256 := by omega
  have hN1 : 1 ≤ N := by omega
  have hN2 : N ≤ 32 := by omega
  have hb : (w.alloc (.cells #[.int .u64 4, .int .i64 2] 43)).heap[w.heap.size]? = some (.cells #[.int .u64 4, .int .i64 2] 43 (0, 0)) := Deep.blk_alloc_new _ _
  have t0 : Turned (fun _ => False) w (w.alloc (.cells #[.int .u64 4, .int .i64 2] 43)) := (Turned.refl _ w).alloc _
  have hs0 : w.heap.size < (w.alloc (.cells #[.int .u64 4, .int .i64 2] 43)).heap.size := by simp
  have hnA : ∀ wx, Calls Try.prog 25 #[.agg #[.int .u64 4, .int .i64 2], .int .i64 (M : Nat), .int .i64 (N : Nat)] wx fun e w' => ∃ k F, e = .returned (.tuple #[.pointer (some ⟨k, 0, none⟩), .int .i64 0]) ∧ Lnk w' 9 3 F k 4 2 M N 0 [] 0 [] ∧ Turned (fun _ => False) wx w' ∧ ∀ b, F b → wx.heap.size ≤ b := fun wx => lnewA_any wx 4 2 M hM1 hM2 N hN1 hN2
  have hnB : ∀ wx, Calls Try.prog 30 #[.agg #[.int .u64 4, .int .i64 2], .int .i64 (M : Nat), .int .i64 (N : Nat)] wx fun e w' => ∃ k F, e = .returned (.tuple #[.pointer (some ⟨k, 0, none⟩), .int .i64 0]) ∧ Lnk w' 3 9 F k 4 2 M N 0 [] 0 [] ∧ Turned (fun _ => False) wx w' ∧ ∀ b, F b → wx.heap.size ≤ b := fun wx => lnewB_any wx 4 2 M hM1 hM2 N hN1 hN2
  have c0 : (w.alloc (.cells #[.int .u64 4, .int .i64 2] 43)).cell? ⟨w.heap.size, 0, none⟩ = some (.int .u64 4) := by unfold World.cell?; rw [hb]; rfl
  have c1 : (w.alloc (.cells #[.int .u64 4, .int .i64 2] 43)).cell? ⟨w.heap.size, 1, none⟩ = some (.int .i64 2) := by unfold World.cell?; rw [hb]; rfl
  clear hM hN hM1 hM2 hN1 hN2
  go_enter Try.func11, Try.ntmps11
  go_wp2_with fail
  generalize w.alloc (.cells #[.int .u64 4, .int .i64 2] 43) = w0 at *
  have HS : Hid (w.heap.size < w0.heap.size) := hs0
  clear hs0 hb
  refine (hnA _).mono ?_
  rintro e w1 ⟨ka, FA, rfl, l1, t1, b1⟩
  have d0 : w1.cell? ⟨w.heap.size, 0, none⟩ = some (.int .u64 4) := (cell_block (t1.block _ HS.out (fun f => f))).trans c0
  have d1 : w1.cell? ⟨w.heap.size, 1, none⟩ = some (.int .i64 2) := (cell_block (t1.block _ HS.out (fun f => f))).trans c1
  clear c0 c1
  go_wp2_with fail
  refine (hnB _).mono ?_
  rintro e w2 ⟨kb, FB, rfl, l2, t2, b2⟩
  have HE : ∀ t, Hid (∃ q col d, Ending.returned (.pointer (some ⟨w2.heap.size, 0, none⟩)) = Ending.returned (.pointer (some ⟨q, 0, none⟩)) ∧ Wd (w2.alloc (.cells #[.pointer (some ⟨ka, 0, none⟩), .pointer (some ⟨kb, 0, none⟩), .slice none 0 0, .slice none 0 0, .slice none 0 0, .slice none 0 0, .slice none 0 0, .slice none 0 0] t)) col q M N d .zero ∧ Own w (w2.alloc (.cells #[.pointer (some ⟨ka, 0, none⟩), .pointer (some ⟨kb, 0, none⟩), .slice none 0 0, .slice none 0 0, .slice none 0 0, .slice none 0 0, .slice none 0 0, .slice none 0 0] t)) (fun b => col b ≠ 0)) := fun t => by
    obtain ⟨r1, r2⟩ := wd_new (l1.still t2) l2 (fun b hA hB => by have := l1.lt b hA; have := b2 b hB; omega) t
    refine ⟨_, _, _, rfl, r1, (((t0.trans t1 (fun _ f => f.elim)).trans t2 (fun _ f => f.elim)).alloc _), fun b hb => ?_⟩
    have s0 := t0.size
    have s1 := t1.size
    have s2 := t2.size
    rcases r2 b hb with rfl | h | h
    · omega
    · have := b1 b h; omega
    · have := b2 b h; omega
  clear l1 t1 b1 l2 t2 b2 t0 hnA hnB d0 d1
  go_wp2
  go_ret
  exact (HE _).out
end Go.Proofs.Ythobbnmdpkginaa
