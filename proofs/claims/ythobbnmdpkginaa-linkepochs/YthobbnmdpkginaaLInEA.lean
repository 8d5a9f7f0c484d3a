/-
  The call In of an end of a link, where it is refused.
-/
import Derived.Test.YthobbnmdpkginaaLInA
namespace Go.Proofs.Ythobbnmdpkginaa
open Go.RowKit
set_option linter.unusedVariables false
set_option linter.unusedSimpArgs false

section
variable {w : World} {F : Nat → Prop} {k : Nat} {vn : Nat} {vp : Int} {M N ack next : Nat} {xs ys : List Value}
set_option maxRecDepth 10000 in
theorem linA_stale (h : Lnk w 9 3 F k vn vp M N ack xs next ys) (un : Nat) (up : Int) (hne : ¬ (un = vn ∧ up = vp)) (base : Nat) (v : Value) (hv : One v) (a : Nat) :
    Calls Try.prog 16 #[.pointer (some ⟨k, 0, none⟩), .agg #[.int .u64 (un : Nat), .int .i64 up, .int .u64 (base : Nat), v, .int .u64 (a : Nat)]] w fun e w' => e = .returned (.tuple #[.int .i64 0, .int .i64 9]) ∧ Turned (fun _ => False) w w' := by
  obtain ⟨hv1, hv2⟩ := hv
  obtain ⟨qs, qr, FS, FR, h0, hF⟩ := h
  obtain ⟨o, ho⟩ : ∃ o : Obj, o = .cells #[.int .u64 (un : Nat), .int .i64 up, .int .u64 (base : Nat), v, .int .u64 (a : Nat)] 49 := ⟨_, rfl⟩
  have t0 : Turned (fun _ => False) w (w.alloc o) := (Turned.refl _ w).alloc o
  have HT : Hid (∀ q, Turned (fun _ => False) w ((w.alloc o).drewN q)) := fun q => t0.drewN q
  have hk := t0.block k h0.klt (fun f => f)
  have e0 : (w.alloc o).cell? ⟨k, 0, none⟩ = _ := (cell_block hk).trans h0.c0
  have e1 : (w.alloc o).cell? ⟨k, 1, none⟩ = _ := (cell_block hk).trans h0.c1
  obtain ⟨b0, b1, -, -, -⟩ := box5 w (.int .u64 (un : Nat)) (.int .i64 up) (.int .u64 (base : Nat)) v (.int .u64 (a : Nat)) 49
  clear hk t0 h0 hF
  subst ho
  by_cases hn : un = vn
  · subst hn
    have hp : (up == vp) = false := by simpa using hne
    clear hne
    go_enter Try.func16, Try.ntmps16
    go_wp2_with fail
    go_quiet (fail)
    go_wp2
    go_ret2
    exact ⟨rfl, HT.out _⟩
  · have hp : ((un : Int) == (vn : Int)) = false := by simp; omega
    clear hne hn
    go_enter Try.func16, Try.ntmps16
    go_wp2_with fail
    go_quiet (fail)
    go_wp2
    go_ret2
    exact ⟨rfl, HT.out _⟩
end
theorem lputA_nil (w : World) (x : Value) : Calls Try.prog 27 #[.pointer none, x] w fun e w' => e = .returned (.int .i64 6) ∧ w = w' := by
  go_enter Try.func27, Try.ntmps27
  go_wp2
  go_ret
  exact ⟨rfl, rfl⟩
theorem ltakeA_nil (w : World) : Calls Try.prog 26 #[.pointer none] w fun e w' => e = .returned (.tuple #[.int .i64 0, .int .i64 6]) ∧ w = w' := by
  go_enter Try.func26, Try.ntmps26
  go_wp2
  go_ret2
  exact ⟨rfl, rfl⟩
theorem lroomA_nil (w : World) : Calls Try.prog 20 #[.pointer none] w fun e w' => e = .returned (.int .i64 0) ∧ w = w' := by
  go_enter Try.func20, Try.ntmps20
  go_wp2
  go_ret
  exact ⟨rfl, rfl⟩
theorem lackedA_nil (w : World) : Calls Try.prog 21 #[.pointer none] w fun e w' => e = .returned (.int .u64 0) ∧ w = w' := by
  go_enter Try.func21, Try.ntmps21
  go_wp2
  go_ret
  exact ⟨rfl, rfl⟩
theorem lgotA_nil (w : World) : Calls Try.prog 28 #[.pointer none] w fun e w' => e = .returned (.int .u64 0) ∧ w = w' := by
  go_enter Try.func28, Try.ntmps28
  go_wp2
  go_ret
  exact ⟨rfl, rfl⟩
theorem lidleA_nil (w : World) : Calls Try.prog 18 #[.pointer none] w fun e w' => e = .returned (.bool true) ∧ w = w' := by
  go_enter Try.func18, Try.ntmps18
  go_wp2
  go_ret
  exact ⟨rfl, rfl⟩
theorem linA_nil (w : World) (c : Array Value) : Calls Try.prog 16 #[.pointer none, .agg #[.int .u64 0, .int .i64 0, .int .u64 0, .slice none 0 0, .int .u64 0]] w fun e w' => e = .returned (.tuple #[.int .i64 0, .int .i64 6]) ∧ Turned (fun _ => False) w w' := by
  go_enter Try.func16, Try.ntmps16
  go_wp2
  go_ret2
  exact ⟨rfl, (Turned.refl _ w).alloc _⟩
set_option maxRecDepth 10000 in
theorem loutA_nil (w : World) : Calls Try.prog 15 #[.pointer none] w fun e w' => e = .returned (.agg #[.int .u64 0, .int .i64 0, .int .u64 0, .slice none 0 0, .int .u64 0]) ∧ Turned (fun _ => False) w w' := by
  have hz : (w.alloc (.cells #[.int .u64 0, .int .i64 0, .int .u64 0, .slice none 0 0, .int .u64 0] 45)).heap[w.heap.size]? = some (.cells #[.int .u64 0, .int .i64 0, .int .u64 0, .slice none 0 0, .int .u64 0] 45 (0, 0)) := Deep.blk_alloc_new _ _
  go_enter Try.func15, Try.ntmps15
  go_wp2
  refine bodyPost_ret (results_cellA (g := w.heap.size) Try.results15 rfl (load45 hz rfl)) rfl ?_
  exact ⟨rfl, (Turned.refl _ w).alloc _⟩
end Go.Proofs.Ythobbnmdpkginaa
