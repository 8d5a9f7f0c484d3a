/-
  climb: it goes through entries, and tells of each whether its label is above that of the one ahead of it.
-/
import Derived.Test.YtlaihgdfedalmaaGreatECmp
import Derived.RangeFuncNested
import Derived.RangeFuncBound
import Derived.RangeFuncCalls
import Derived.RangeFuncLeaves
import Derived.Shelf.Abstract
import Derived.Shelf.RegionOpen
import Derived.WalkKit
import Derived.OwnWalkIn
import Derived.TacticsInMore
import Derived.LoopNIn
import Derived.LoopIn
namespace Go.Proofs.YtlaihgdfedalmaaGreat
open Go.RowKit Go.Shelf
set_option linter.unusedVariables false
set_option linter.unusedSimpArgs false
attribute [local go_sem] Oper.semAt_some

abbrev Sl := Option Addr × Nat × Nat
def dsl : Lb × Sl := ((0, 0, 0, 0), (none, 0, 0))
/-- Is the k-th label above the one ahead of it? -/
def abv (xs : List (Lb × Sl)) (k : Nat) : Bool := decide (k = 0) || decide (0 < cmpL (xs.getD k dsl).1 (xs.getD (k - 1) dsl).1)
def entS (e : Lb × Sl) : Value := ent e.1 (.slice e.2.1 e.2.2.1 e.2.2.2)
def encs (xs : List (Lb × Sl)) (k : { k : Nat // k < xs.length }) : Array Value := #[entS (xs.getD k.1 dsl), .bool (abv xs k.1)]
/-- Five cells of an entry. -/
def C5 (w : World) (b off : Nat) (e : Lb × Sl) : Prop :=
  w.cell? ⟨b, off, none⟩ = some (.int .u64 (e.1.1 : Nat)) ∧ w.cell? ⟨b, off + 1, none⟩ = some (.int .i64 e.1.2.1) ∧ w.cell? ⟨b, off + 2, none⟩ = some (.int .u64 (e.1.2.2.1 : Nat)) ∧ w.cell? ⟨b, off + 3, none⟩ = some (.int .i64 e.1.2.2.2) ∧ w.cell? ⟨b, off + 4, none⟩ = some (.slice e.2.1 e.2.2.1 e.2.2.2)
/-- What a round must keep: the entries' block, and the box of their list. -/
def Kb (b Bs : Nat) (W W' : World) : Prop := W'.heap[b]? = W.heap[b]? ∧ W'.heap[Bs]? = W.heap[Bs]?
theorem Kb.trans {b Bs : Nat} {A B C : World} (h : Kb b Bs A B) (k : Kb b Bs B C) : Kb b Bs A C := ⟨k.1.trans h.1, k.2.trans h.2⟩
theorem Kb.bl {b Bs : Nat} {A B : World} (u : Below A.heap.size A B) (h1 : b < A.heap.size) (h2 : Bs < A.heap.size) : Kb b Bs A B := ⟨u.block b h1, u.block Bs h2⟩
theorem Kb.cell {b Bs : Nat} {A B : World} (h : Kb b Bs A B) {j : Nat} {v : Value} (hc : A.cell? ⟨b, j, none⟩ = some v) : B.cell? ⟨b, j, none⟩ = some v := (World.cell?_of_block (a := ⟨b, j, none⟩) h.1).trans hc
theorem Kb.cells {b Bs : Nat} {A B : World} (h : Kb b Bs A B) {j : Nat} {v : Value} (hc : A.cell? ⟨Bs, j, none⟩ = some v) : B.cell? ⟨Bs, j, none⟩ = some v := (World.cell?_of_block (a := ⟨Bs, j, none⟩) h.2).trans hc
theorem C5.kb {b Bs off : Nat} {A B : World} {e : Lb × Sl} (h : Kb b Bs A B) (c : C5 A b off e) : C5 B b off e := ⟨h.cell c.1, h.cell c.2.1, h.cell c.2.2.1, h.cell c.2.2.2.1, h.cell c.2.2.2.2⟩
/-- The first k places. -/
def firsts (n : Nat) : (k : Nat) → k ≤ n → List { k : Nat // k < n }
  | 0, _ => []
  | k + 1, h => firsts n k (by omega) ++ [⟨k, by omega⟩]
theorem firsts_len (n : Nat) : ∀ (k : Nat) (h : k ≤ n), (firsts n k h).length = k
  | 0, _ => rfl
  | k + 1, h => by simp [firsts, firsts_len n k]
/-- What a round reads of the list. -/
def Sc (Bs b off cap : Nat) (g : Nat) (k n : Nat) (x : Lb) (s : Sl) (y : Lb) (t : Sl) (w : World) : Prop :=
  w.cell? ⟨Bs, 0, none⟩ = some (.slice (some ⟨b, off, none⟩) n cap) ∧
  w.cell? ⟨g, 0, none⟩ = some (.int .u64 (x.1 : Nat)) ∧ w.cell? ⟨g, 1, none⟩ = some (.int .i64 x.2.1) ∧ w.cell? ⟨g, 2, none⟩ = some (.int .u64 (x.2.2.1 : Nat)) ∧ w.cell? ⟨g, 3, none⟩ = some (.int .i64 x.2.2.2) ∧ w.cell? ⟨g, 4, none⟩ = some (.slice s.1 s.2.1 s.2.2) ∧
  w.cell? ⟨b, off + k * 5, none⟩ = some (.int .u64 (y.1 : Nat)) ∧ w.cell? ⟨b, off + k * 5 + 1, none⟩ = some (.int .i64 y.2.1) ∧ w.cell? ⟨b, off + k * 5 + 2, none⟩ = some (.int .u64 (y.2.2.1 : Nat)) ∧ w.cell? ⟨b, off + k * 5 + 3, none⟩ = some (.int .i64 y.2.2.2) ∧ w.cell? ⟨b, off + k * 5 + 4, none⟩ = some (.slice t.1 t.2.1 t.2.2)

set_option maxRecDepth 100000 in
set_option maxHeartbeats 2000000 in
theorem climb1_in (m : Nat) (hm : 1 ≤ m) (l Bs b off cap : Nat) (xs : List (Lb × Sl)) (hmax : xs.length ≤ 140737488355328) (J Jx : List { k : Nat // k < xs.length } → World → Prop)
    (hY : ∀ pre x W, J pre W → pre.length < xs.length → YieldAt Fence.wide (m - 1) Tryz.prog l (encs xs x) W fun e W' => (e = .returned (.bool true) ∧ J (pre ++ [x]) W' ∧ Kb b Bs W W') ∨ (e = .returned (.bool false) ∧ Jx (pre ++ [x]) W'))
    (W : World) (hJ : ∀ s A B, J s A → A.grownBy B none → J s B) (hBs : W.cell? ⟨Bs, 0, none⟩ = some (.slice (some ⟨b, off, none⟩) xs.length cap)) (hc : ∀ j e, xs[j]? = some e → C5 W b (off + j * 5) e) (h0 : J [] W) :
    CallsIn Fence.wide m Tryz.prog 171 #[.func (.yield l) #[] #[], .pointer (some ⟨Bs, 0, none⟩)] W fun e W' => (∃ v, e = .returned v) ∧
      ((∃ ys, ys = firsts xs.length xs.length (Nat.le_refl _) ∧ J ys W') ∨ (∃ pre, (∃ k h, pre = firsts xs.length k h) ∧ Jx pre W')) := by
  refine callsIn_of_wp Tryz.func171 rfl trivial ?_ rfl
  simp only [Tryz.ntmps171, List.size_toArray, List.length_cons, List.length_nil, Nat.reduceAdd, Nat.reduceSub, Array.replicate_succ, Array.replicate_zero, List.push_toArray, List.append_toArray, List.nil_append, List.cons_append]
  gi_wp2
  gi_loopw [8] (fun i wr => ∃ k : Nat, ∃ h : k ≤ xs.length, i = .int .i64 k ∧ J (firsts xs.length k h) wr ∧ Kb b Bs W wr)
    (fun i _ => xs.length - (intOf i).toNat)
  case atStart => exact ⟨0, Nat.zero_le _, rfl, h0, rfl, rfl⟩
  case round =>
    obtain ⟨k, hk, rfl, hJs, hnx⟩ := hrel
    by_cases hlt : k < xs.length
    · obtain ⟨x, hx⟩ : ∃ x, xs[k]? = some x := ⟨xs[k]'hlt, List.getElem?_eq_getElem hlt⟩
      have hxd : xs.getD k dsl = x := by simp [List.getD, hx]
      have hcx := (hc k x hx).kb hnx
      have hbx := hnx.cells hBs
      have hltI : (k : Int) < (xs.length : Int) := by omega
      have hk0 : ¬ ((k : Int) < 0) := by omega
      obtain ⟨⟨a0, a1, a2, a3⟩, so, sn, sc⟩ := x
      obtain ⟨c0, c1, c2, c3, c4⟩ := id hcx
      simp only at c0 c1 c2 c3 c4
      have hbl : b < wr.heap.size := World.block_lt_of_cell? wr _ c0
      have hBl : Bs < wr.heap.size := World.block_lt_of_cell? wr _ hbx
      have u0 : Below wr.heap.size wr (wr.alloc (.cells #[.int .u64 (a0 : Nat), .int .i64 a1, .int .u64 (a2 : Nat), .int .i64 a3, .slice so sn sc] 41)).drew := (bl1 _ _).drew
      have ex0 : Ex wr.heap.size (a0, a1, a2, a3) (.slice so sn sc) (wr.alloc (.cells #[.int .u64 (a0 : Nat), .int .i64 a1, .int .u64 (a2 : Nat), .int .i64 a3, .slice so sn sc] 41)).drew := ex_new wr (a0, a1, a2, a3) (.slice so sn sc) 41
      have fin : ∀ (W5 : World) (ab : Bool), Below wr.heap.size wr W5 → Ex wr.heap.size (a0, a1, a2, a3) (.slice so sn sc) W5 → abv xs k = ab → YieldAt Fence.wide (m - 1) Tryz.prog l #[.agg #[.int .u64 (a0 : Nat), .int .i64 a1, .int .u64 (a2 : Nat), .int .i64 a3, .slice so sn sc], .bool ab] W5 (fun e W' => (e = .returned (.bool true) ∧ J (firsts xs.length (k + 1) hlt) W' ∧ Kb b Bs W W') ∨ (e = .returned (.bool false) ∧ Jx (firsts xs.length (k + 1) hlt) W')) := by
        intro W5 ab hu hE hab
        have h5 := hY (firsts xs.length k hk) ⟨k, hlt⟩ W5 (hJ _ _ _ hJs ⟨hu.os, hu.tape, hu.output, hu.size, fun i hi _ => hu.block i hi⟩) (by rw [firsts_len]; exact hlt)
        have he : encs xs ⟨k, hlt⟩ = #[.agg #[.int .u64 (a0 : Nat), .int .i64 a1, .int .u64 (a2 : Nat), .int .i64 a3, .slice so sn sc], .bool ab] := by
          unfold encs entS ent
          rw [hxd, hab]
        rw [he] at h5
        obtain ⟨f1, f2, f3, f4, f5, f6⟩ := h5
        refine ⟨f1, f2, f3, f4, f5, f6.mono ?_⟩
        rintro e W' (⟨h1, h2, h3⟩ | h)
        · exact .inl ⟨h1, h2, (hnx.trans (Kb.bl hu hbl hBl)).trans h3⟩
        · exact .inr h
      cases k with
      | zero =>
        have hab : abv xs 0 = true := by simp [abv]
        simp only [Nat.zero_mul, Nat.add_zero] at c0 c1 c2 c3 c4
        gi_wp2_with fail
        refine wpIn_wide.2 ?_
        refine wp_region_noPanic ?_
        refine wp_region_held_drew (S := Ex wr.heap.size (a0, a1, a2, a3) (.slice so sn sc)) (by kernel_rfl) ex0 (fun hHeld => ?_)
        unfold Ex at hHeld
        refine tq 0 ?_
        refine tq 1 ?_
        refine tq 2 ?_
        refine tqS 3 ?_
        refine tqS 4 ?_
        refine tqS 5 ?_
        refine tqS 6 ?_
        refine tqS 7 ?_
        refine tqS 8 ?_
        refine tqS 9 ?_
        refine tqS 10 ?_
        refine tq 11 ?_
        refine tq 12 ?_
        refine wpAnyH_done (by kernel_rfl) ?_ _
        refine NoPanic.normal ?_
        clear hHeld
        obtain ⟨fn, tmps, assign, body, hy, hR⟩ := fin _ true u0 ex0 hab
        obtain ⟨x0, x1, x2, x3, x4⟩ := ex0
        simp only at x0 x1 x2 x3 x4
        gi_wp2
        refine hR.mono ?_
        rintro e W3 (⟨rfl, hJ3, hk3⟩ | ⟨rfl, hJx3⟩)
        · clear fin hY hR
          gi_wp2
          go_roundw
          case rel => exact ⟨0 + 1, hlt, by simp, hJ3, hk3⟩
          case measure => simp [intOf]; omega
        · clear fin hY hR
          gi_wp2
          refine bodyPost_ret (results_none rfl _ _ _) rfl ?_
          exact ⟨⟨_, rfl⟩, .inr ⟨_, ⟨0 + 1, hlt, rfl⟩, hJx3⟩⟩
      | succ k =>
        obtain ⟨y, hy⟩ : ∃ y, xs[k]? = some y := ⟨xs[k]'(by omega), List.getElem?_eq_getElem (by omega)⟩
        have hyd : xs.getD k dsl = y := by simp [List.getD, hy]
        have hcy := (hc k y hy).kb hnx
        have hab : abv xs (k + 1) = decide (0 < cmpL (a0, a1, a2, a3) y.1) := by
          unfold abv
          rw [hxd, show k + 1 - 1 = k by omega, hyd]
          simp
        have hsub : ((k + 1 : Nat) : Int) - 1 = (k : Nat) := by omega
        have hk1 : ((k + 1 : Nat) : Int) ≠ 0 := by omega
        have hkl : ((k : Nat) : Int) < (xs.length : Int) := by omega
        have hkn : ¬ (((k : Nat) : Int) < 0) := by omega
        have hwk : IntKind.i64.wrap (k : Int) = (k : Int) := IntWalk.i64_in _ (by omega)
        have hk00 : (0 : Int) ≤ (k : Int) := by omega
        have hkb : ((k : Int) + 1 == 0) = false := by simp; omega
        obtain ⟨y, t⟩ := y
        have HS : Hid (∀ W', Below wr.heap.size wr W' → Ex wr.heap.size (a0, a1, a2, a3) (.slice so sn sc) W' → Sc Bs b off cap wr.heap.size k xs.length (a0, a1, a2, a3) (so, sn, sc) y t W') := fun W' u e => by
          exact ⟨bl_cell u hbx, e.1, e.2.1, e.2.2.1, e.2.2.2.1, e.2.2.2.2, bl_cell u hcy.1, bl_cell u hcy.2.1, bl_cell u hcy.2.2.1, bl_cell u hcy.2.2.2.1, bl_cell u hcy.2.2.2.2⟩
        have s0 := HS.out _ u0 ex0
        have hcmp := fun W' => compareE_any W' (a0, a1, a2, a3) y (.slice so sn sc) (.slice t.1 t.2.1 t.2.2)
        unfold ent at hcmp
        clear hcy hyd hy
        gi_wp2_with fail
        refine wpIn_wide.2 ?_
        refine wp_region_noPanic ?_
        refine wp_region_held_drew (S := Sc Bs b off cap wr.heap.size k xs.length (a0, a1, a2, a3) (so, sn, sc) y t) (by kernel_rfl) s0 (fun hHeld => ?_)
        unfold Sc at hHeld
        refine tq 0 ?_
        refine tq 1 ?_
        refine tq 2 ?_
        refine tq 3 ?_
        refine tq 4 ?_
        refine tq 5 ?_
        refine tq 6 ?_
        refine tq 7 ?_
        refine tq 8 ?_
        refine comes_up 9 rfl (by kernel_rfl) (fun K hK => ?_)
        go_simp
        refine (hcmp _).mono ?_
        rintro e W2 ⟨rfl, hu2⟩
        have u2 := bl_step u0 hu2.bl
        have ex2 := ex0.bl hu2.bl
        clear hcmp hu2 s0
        go_wp2_with fail
        refine hK.out _ _ (HS.out _ u2 ex2) (fun hHeld => ?_)
        clear hK K
        (try simp only [Act.put, List.setIfInBounds_toArray, List.set_cons_zero, List.set_cons_succ])
        unfold Sc at hHeld
        refine tq 10 ?_
        refine tq 11 ?_
        refine tq 12 ?_
        refine wpAnyH_done (by kernel_rfl) ?_ _
        refine NoPanic.normal ?_
        clear hHeld
        obtain ⟨fn, tmps, assign, body, hy, hR⟩ := fin _ _ u2 ex2 hab
        clear ex0 u0
        obtain ⟨x0, x1, x2, x3, x4⟩ := ex2
        simp only at x0 x1 x2 x3 x4
        gi_wp2
        refine hR.mono ?_
        rintro e W3 (⟨rfl, hJ3, hk3⟩ | ⟨rfl, hJx3⟩)
        · clear fin hY hR
          gi_wp2
          go_roundw
          case rel => exact ⟨k + 1 + 1, hlt, by simp, hJ3, hk3⟩
          case measure => simp [intOf]; omega
        · clear fin hY hR
          gi_wp2
          refine bodyPost_ret (results_none rfl _ _ _) rfl ?_
          exact ⟨⟨_, rfl⟩, .inr ⟨_, ⟨k + 1 + 1, hlt, rfl⟩, hJx3⟩⟩
    · obtain rfl : k = xs.length := by omega
      gi_wp2
      go_end0
      exact ⟨⟨_, rfl⟩, .inl ⟨_, rfl, hJs⟩⟩
set_option maxRecDepth 100000 in
set_option maxHeartbeats 1000000 in
/-- .. of nothing: no round. -/
theorem climb1_nil (m : Nat) (l Bs : Nat) (ao : Option Addr) (cap : Nat) (J : List { k : Nat // k < ([] : List (Lb × Sl)).length } → World → Prop) (W : World) (hBs : W.cell? ⟨Bs, 0, none⟩ = some (.slice ao 0 cap)) (h0 : J [] W) :
    CallsIn Fence.wide m Tryz.prog 171 #[.func (.yield l) #[] #[], .pointer (some ⟨Bs, 0, none⟩)] W fun e W' => (∃ v, e = .returned v) ∧ J [] W' := by
  refine callsIn_of_wp Tryz.func171 rfl trivial ?_ rfl
  simp only [Tryz.ntmps171, List.size_toArray, List.length_cons, List.length_nil, Nat.reduceAdd, Nat.reduceSub, Array.replicate_succ, Array.replicate_zero, List.push_toArray, List.append_toArray, List.nil_append, List.cons_append]
  gi_wp2
  gi_loopw [8] (fun i wr => i = .int .i64 0 ∧ J [] wr) (fun _ _ => 0)
  case atStart => exact ⟨rfl, h0⟩
  case round =>
    obtain ⟨rfl, hJs⟩ := hrel
    gi_wp2
    go_end0
    exact ⟨⟨_, rfl⟩, hJs⟩
set_option maxHeartbeats 1000000 in
theorem climb_any (w : World) (ao : Option Addr) (n cap : Nat) : Calls Tryz.prog 144 #[.slice ao n cap] w fun e w' => e = .returned (.func (.func 171) #[] #[.pointer (some ⟨w.heap.size, 0, none⟩)]) ∧ w' = w.alloc (.cells #[.slice ao n cap] 42) := by
  go_enter Tryz.func144, Tryz.ntmps144
  go_wp2
  go_ret
  exact ⟨rfl, rfl⟩
/-- climb's answer tells all entries in their order, or a beginning of them. -/
theorem climb_stops (m : Nat) (hm : 1 ≤ m) (Bs b off cap : Nat) (ao : Option Addr) (xs : List (Lb × Sl)) (hmax : xs.length ≤ 140737488355328) (w : World) (hBs : w.cell? ⟨Bs, 0, none⟩ = some (.slice ao xs.length cap)) (hao : 0 < xs.length → ao = some ⟨b, off, none⟩) (hc : ∀ j e, xs[j]? = some e → C5 w b (off + j * 5) e) :
    SeqStopsK Fence.wide m Tryz.prog 171 #[.pointer (some ⟨Bs, 0, none⟩)] (encs xs) (Kb b Bs) (fun ys => ys = firsts xs.length xs.length (Nat.le_refl _)) (fun pre => ∃ k h, pre = firsts xs.length k h) xs.length w := fun l J Jx W hW hJ hJx hY h0 => by
  have hc' := bl_cell hW hBs
  by_cases h0l : xs.length = 0
  · have e : xs = [] := List.eq_nil_of_length_eq_zero h0l
    subst e
    exact (climb1_nil m l Bs ao cap J W hc' h0).mono fun e W' ⟨he, hj⟩ => ⟨he, .inl ⟨_, rfl, hj⟩⟩
  · rw [hao (by omega)] at hc'
    refine climb1_in m hm l Bs b off cap xs hmax J Jx hY W (fun s A B hs hg => hJ s A B none hs hg (fun r hr => by cases hr)) hc' (fun j e hj => ?_) h0
    obtain ⟨c0, c1, c2, c3, c4⟩ := hc j e hj
    exact ⟨bl_cell hW c0, bl_cell hW c1, bl_cell hW c2, bl_cell hW c3, bl_cell hW c4⟩
end Go.Proofs.YtlaihgdfedalmaaGreat
