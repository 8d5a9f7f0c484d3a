/-
  The call New.
-/
import Derived.Test.YtofhkfbibdkjgaaBTick
namespace Go.Proofs.Ytofhkfbibdkjgaa
open Go.RowKit
set_option linter.unusedVariables false

theorem cfg_load {w : World} {g : Nat} {N B M W R Q : Int} (hg : w.heap[g]? = some (.cells #[.int .i64 N, .int .i64 B, .int .i64 M, .int .i64 W, .int .i64 R, .int .i64 Q] 23 (0, 0))) : w.cell? ⟨g, 0, none⟩ = some (.int .i64 N) ∧ w.cell? ⟨g, 1, none⟩ = some (.int .i64 B) ∧ w.cell? ⟨g, 2, none⟩ = some (.int .i64 M) := by
  refine ⟨?_, ?_, ?_⟩ <;> (unfold World.cell?; rw [hg]; rfl)

set_option maxRecDepth 20000 in
set_option maxHeartbeats 1000000 in
theorem bnew_err (w : World) (N B M W R Q s : Int) (h : ¬ (Right N B M W R Q ∧ 0 ≤ s ∧ s < N)) : Calls Try.prog 9 #[cfg N B M W R Q, .int .i64 s] w fun e w' => e = .returned (.tuple #[.pointer none, .int .i64 1]) ∧ Turned (fun _ => False) w w' := by
  have hb : ∀ o, ((w.alloc (.cells #[.int .i64 N, .int .i64 B, .int .i64 M, .int .i64 W, .int .i64 R, .int .i64 Q] 23)).alloc o).heap[w.heap.size]? = some (.cells #[.int .i64 N, .int .i64 B, .int .i64 M, .int .i64 W, .int .i64 R, .int .i64 Q] 23 (0, 0)) := fun o => (Below.heap_alloc _ _ _ (by simp)).trans (heap_alloc_new _ _)
  have hc := fun o => (cfg_load (hb o)).1
  clear hb
  have hf := fun w => form_any w N B M W R Q
  by_cases hR : Right N B M W R Q
  · have hno : ¬ (0 ≤ s ∧ s < N) := fun hh => h ⟨hR, hh⟩
    rw [decide_eq_true hR] at hf
    clear h hR
    unfold cfg at hf ⊢
    by_cases h0 : s < 0
    · clear hno
      go_enter Try.func9, Try.ntmps9
      go_wp2_with fail
      refine (hf _).mono ?_
      rintro e w1 ⟨rfl, o, rfl⟩
      go_wp2_with fail
      go_ret2
      exact ⟨rfl, ((Turned.refl _ w).alloc _).alloc _⟩
    · have h1 : N ≤ s := by omega
      clear hno
      go_enter Try.func9, Try.ntmps9
      go_wp2_with fail
      refine (hf _).mono ?_
      rintro e w1 ⟨rfl, o, rfl⟩
      have hco := hc o
      go_wp2_with fail
      go_ret2
      exact ⟨rfl, ((Turned.refl _ w).alloc _).alloc _⟩
  · rw [decide_eq_false hR] at hf
    clear h hR
    unfold cfg at hf ⊢
    go_enter Try.func9, Try.ntmps9
    go_wp2_with fail
    refine (hf _).mono ?_
    rintro e w1 ⟨rfl, o, rfl⟩
    go_wp2_with fail
    go_ret2
    exact ⟨rfl, ((Turned.refl _ w).alloc _).alloc _⟩

theorem bt_new {w : World} {p m : Nat} {V : Nat → Value} {s N B M : Nat} (h : Wh w p m V 0 1 [((s : Int), 1)]) (hs : s < N) (hN : N ≤ 16) (hB1 : 1 ≤ B) (hBM : B < M) (hM : M ≤ 1000) (t : TypeId) :
    Bt (w.alloc (.cells #[.int .i64 (N : Nat), .int .i64 (s : Nat), .int .u64 (B : Nat), .int .u64 (M : Nat), .pointer (some ⟨p, 0, none⟩)] t)) (fun b => b = w.heap.size ∨ Foot p m V b) w.heap.size s N B M 1 1 (fun _ => 0) := by
  have hb : (w.alloc (.cells #[.int .i64 (N : Nat), .int .i64 (s : Nat), .int .u64 (B : Nat), .int .u64 (M : Nat), .pointer (some ⟨p, 0, none⟩)] t)).heap[w.heap.size]? = some (.cells #[.int .i64 (N : Nat), .int .i64 (s : Nat), .int .u64 (B : Nat), .int .u64 (M : Nat), .pointer (some ⟨p, 0, none⟩)] t (0, 0)) := heap_alloc_new _ _
  refine ⟨p, m, V, 0, 1, [((s : Int), 1)], ?_⟩
  exact {
    c0 := by unfold World.cell?; rw [hb]; rfl
    c1 := by unfold World.cell?; rw [hb]; rfl
    c2 := by unfold World.cell?; rw [hb]; rfl
    c3 := by unfold World.cell?; rw [hb]; rfl
    c4 := by unfold World.cell?; rw [hb]; rfl
    wh := h.alloc _
    nq := fun hf => by have := h.foot_lt _ hf; omega
    foot := fun b => Iff.rfl
    nk := by omega
    ak := by omega
    tim := fun i d => by
      unfold Tim
      simp only [List.mem_singleton, Prod.mk.injEq]
      constructor
      · rintro ⟨rfl, rfl⟩; exact .inl ⟨rfl, rfl⟩
      · rintro (⟨rfl, rfl⟩ | ⟨j, _, _, _, h0, _⟩)
        · exact ⟨rfl, rfl⟩
        · omega
    sN := hs
    n16 := hN
    r1 := by omega
    rB := hB1
    b2 := by omega
    m1 := by omega
    m2 := hM }

set_option maxRecDepth 20000 in
set_option maxHeartbeats 1000000 in
theorem bnew_any (w : World) (N B M : Nat) (W R Q : Int) (hR : Right (N : Nat) (B : Nat) (M : Nat) W R Q) (s : Nat) (hs : s < N) : Calls Try.prog 9 #[cfg (N : Nat) (B : Nat) (M : Nat) W R Q, .int .i64 (s : Nat)] w fun e w' =>
    ∃ q F, e = .returned (.tuple #[.pointer (some ⟨q, 0, none⟩), .int .i64 0]) ∧ Bt w' F q s N B M 1 1 (fun _ => 0) ∧ Own w w' F := by
  have hf := fun w => form_any w (N : Nat) (B : Nat) (M : Nat) W R Q
  rw [decide_eq_true hR] at hf
  obtain ⟨⟨hN1, hN⟩, hB1, hBM, hM, _, _, _⟩ := hR
  have g0 : ¬ ((s : Int) < 0) := by omega
  have g1 : ¬ ((N : Int) ≤ (s : Int)) := by omega
  have hb : ∀ o, ((w.alloc (.cells #[.int .i64 (N : Nat), .int .i64 (B : Nat), .int .i64 (M : Nat), .int .i64 W, .int .i64 R, .int .i64 Q] 23)).alloc o).heap[w.heap.size]? = some (.cells #[.int .i64 (N : Nat), .int .i64 (B : Nat), .int .i64 (M : Nat), .int .i64 W, .int .i64 R, .int .i64 Q] 23 (0, 0)) := fun o => (Below.heap_alloc _ _ _ (by simp)).trans (heap_alloc_new _ _)
  have hsz : ∀ o, ((w.alloc (.cells #[.int .i64 (N : Nat), .int .i64 (B : Nat), .int .i64 (M : Nat), .int .i64 W, .int .i64 R, .int .i64 Q] 23)).alloc o).heap.size = w.heap.size + 2 := fun o => by simp
  have HT0 : ∀ o, Hid (Turned (fun _ => False) w ((w.alloc (.cells #[.int .i64 (N : Nat), .int .i64 (B : Nat), .int .i64 (M : Nat), .int .i64 W, .int .i64 R, .int .i64 Q] 23)).alloc o)) := fun o => ((Turned.refl _ w).alloc _).alloc _
  unfold cfg at hf ⊢
  go_enter Try.func9, Try.ntmps9
  go_wp2_with fail
  refine (hf _).mono ?_
  rintro e w1 ⟨rfl, o, rfl⟩
  have hb1 := hb o
  have hsz1 := hsz o
  have ht0 := HT0 o
  clear hb hsz HT0 hf
  generalize (w.alloc (.cells #[.int .i64 (N : Nat), .int .i64 (B : Nat), .int .i64 (M : Nat), .int .i64 W, .int .i64 R, .int .i64 Q] 23)).alloc o = w1 at *
  have c0 := (cfg_load hb1).1
  have HS : Hid (w1.heap.size = w.heap.size + 2) := hsz1
  have HB : Hid (w1.heap[w.heap.size]? = some (.cells #[.int .i64 (N : Nat), .int .i64 (B : Nat), .int .i64 (M : Nat), .int .i64 W, .int .i64 R, .int .i64 Q] 23 (0, 0))) := hb1
  clear hsz1 hb1
  go_wp2_with fail
  refine (new_any w1 0 (by omega)).mono ?_
  rintro e w2 ⟨p, m, V2, rfl, k2, t2, f2⟩
  clear c0
  have harm := arm_any w2 p m V2 0 0 [] k2 (by omega) (s : Int) (in_nat (by omega)) 1 (by omega) (by omega)
  have HA : Hid (∀ w3 V3, Wh w3 p m V3 0 (0 + 1) (([] : List (Int × Nat)).filter (fun x => decide (x.1 ≠ (s : Int))) ++ [((s : Int), 0 + 1)]) → Goes p m V2 w2 V3 w3 →
      (w3.cell? ⟨w.heap.size, 0, none⟩ = some (.int .i64 (N : Nat)) ∧ w3.cell? ⟨w.heap.size, 1, none⟩ = some (.int .i64 (B : Nat)) ∧ w3.cell? ⟨w.heap.size, 2, none⟩ = some (.int .i64 (M : Nat))) ∧
      ∀ t, Hid (Bt (w3.alloc (.cells #[.int .i64 (N : Nat), .int .i64 (s : Nat), .int .u64 (B : Nat), .int .u64 (M : Nat), .pointer (some ⟨p, 0, none⟩)] t)) (fun b => b = w3.heap.size ∨ Foot p m V3 b) w3.heap.size s N B M 1 1 (fun _ => 0) ∧
        Own w (w3.alloc (.cells #[.int .i64 (N : Nat), .int .i64 (s : Nat), .int .u64 (B : Nat), .int .u64 (M : Nat), .pointer (some ⟨p, 0, none⟩)] t)) (fun b => b = w3.heap.size ∨ Foot p m V3 b))) := by
    intro w3 V3 hw hg
    have e1 := HS.out
    have hg2 : w2.heap[w.heap.size]? = w1.heap[w.heap.size]? := t2.block _ (by omega) (fun f => f)
    have hs2 := t2.size
    have hg3 : w3.heap[w.heap.size]? = w2.heap[w.heap.size]? := hg.turned.block _ (by omega) (fun hf => by have := f2 _ hf; omega)
    have hl := cfg_load ((hg3.trans hg2).trans HB.out)
    have hs3 := hg.turned.size
    refine ⟨hl, fun t => ⟨bt_new hw hs (by omega) (by omega) (by omega) (by omega) t, ⟨?_, ?_⟩⟩⟩
    · exact ((ht0.out.trans t2 (fun _ f => f.elim)).trans hg.turned (fun i hi => .inr (by have := f2 i hi; omega))).alloc _
    · rintro b (rfl | hb)
      · omega
      · rcases hg.foot b hb with h1 | h1
        · have := f2 b h1; omega
        · omega
  clear k2 t2 f2
  go_wp2_with fail
  refine harm.mono ?_
  rintro e w3 ⟨rfl, V3, hw, hg⟩
  obtain ⟨⟨d0, d1, d2⟩, HE⟩ := HA.out w3 V3 hw hg
  clear hw hg HA harm
  go_wp2_with fail
  go_ret2
  exact ⟨_, _, rfl, (HE 48).out⟩

end Go.Proofs.Ytofhkfbibdkjgaa
