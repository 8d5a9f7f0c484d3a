/-
  A frame without what its kind names: kinds 1, 2, 3.
-/
import Derived.Test.YtfemjbaadnjanaaFRight2
import Derived.Test.YtfemjbaadnjanaaFRes
namespace Go.Proofs.Ytfemjbaadnjanaa
open Go.RowKit
set_option linter.unusedVariables false
set_option linter.unusedSimpArgs false

set_option maxRecDepth 20000 in
set_option maxHeartbeats 2000000 in
theorem unnamed_1 (w : World) (frm : Int) (idN : Nat) (idP : Int) (set curN : Nat) (curP : Int) (promN : Nat) (promP : Int) (so : Option Addr) (sn sc base : Nat) (mo : Option Addr) (mn mc : Nat) (io : Option Addr) (inn ic ack safe : Nat) :
    Calls Try.prog 47 #[.agg #[.int .u8 1, .int .i64 frm, .int .u64 (idN : Nat), .int .i64 idP, .int .u16 (set : Nat), .int .u64 (curN : Nat), .int .i64 curP, .int .u64 (promN : Nat), .int .i64 promP, .slice so sn sc, .int .u64 (base : Nat), .slice mo mn mc, .slice io inn ic, .int .u64 (ack : Nat), .int .u64 (safe : Nat)]] w fun e w' => e = .returned (.tuple #[.agg #[.int .u8 0, .int .i64 0, .int .u64 (idN : Nat), .int .i64 idP, .int .u16 (set : Nat), .int .u64 0, .int .i64 0, .int .u64 0, .int .i64 0, .slice so sn sc, .int .u64 (base : Nat), .slice mo mn mc, .slice io inn ic, .int .u64 (ack : Nat), .int .u64 (safe : Nat)], .bool true]) ∧ Up w w' := by
  go_enter Try.func47, Try.ntmps47
  go_wp2
  refine bodyPost_ret (results_cell2 (g := w.heap.size + 1) Try.results47 rfl rfl (load30 (heap_alloc2 _ _ _) rfl)) rfl ?_
  exact ⟨rfl, ((Up.refl _).alloc _).alloc _⟩

set_option maxRecDepth 20000 in
set_option maxHeartbeats 2000000 in
theorem unnamed_2 (w : World) (frm : Int) (idN : Nat) (idP : Int) (set curN : Nat) (curP : Int) (promN : Nat) (promP : Int) (so : Option Addr) (sn sc base : Nat) (mo : Option Addr) (mn mc : Nat) (io : Option Addr) (inn ic ack safe : Nat) :
    Calls Try.prog 47 #[.agg #[.int .u8 2, .int .i64 frm, .int .u64 (idN : Nat), .int .i64 idP, .int .u16 (set : Nat), .int .u64 (curN : Nat), .int .i64 curP, .int .u64 (promN : Nat), .int .i64 promP, .slice so sn sc, .int .u64 (base : Nat), .slice mo mn mc, .slice io inn ic, .int .u64 (ack : Nat), .int .u64 (safe : Nat)]] w fun e w' => e = .returned (.tuple #[.agg #[.int .u8 0, .int .i64 0, .int .u64 0, .int .i64 0, .int .u16 0, .int .u64 (curN : Nat), .int .i64 curP, .int .u64 (promN : Nat), .int .i64 promP, .slice so sn sc, .int .u64 (base : Nat), .slice mo mn mc, .slice io inn ic, .int .u64 (ack : Nat), .int .u64 (safe : Nat)], .bool true]) ∧ Up w w' := by
  go_enter Try.func47, Try.ntmps47
  go_wp2
  refine bodyPost_ret (results_cell2 (g := w.heap.size + 1) Try.results47 rfl rfl (load30 (heap_alloc2 _ _ _) rfl)) rfl ?_
  exact ⟨rfl, ((Up.refl _).alloc _).alloc _⟩

set_option maxRecDepth 20000 in
set_option maxHeartbeats 2000000 in
theorem unnamed_3 (w : World) (frm : Int) (idN : Nat) (idP : Int) (set curN : Nat) (curP : Int) (promN : Nat) (promP : Int) (so : Option Addr) (sn sc base : Nat) (mo : Option Addr) (mn mc : Nat) (io : Option Addr) (inn ic ack safe : Nat) :
    Calls Try.prog 47 #[.agg #[.int .u8 3, .int .i64 frm, .int .u64 (idN : Nat), .int .i64 idP, .int .u16 (set : Nat), .int .u64 (curN : Nat), .int .i64 curP, .int .u64 (promN : Nat), .int .i64 promP, .slice so sn sc, .int .u64 (base : Nat), .slice mo mn mc, .slice io inn ic, .int .u64 (ack : Nat), .int .u64 (safe : Nat)]] w fun e w' => e = .returned (.tuple #[.agg #[.int .u8 0, .int .i64 0, .int .u64 0, .int .i64 0, .int .u16 (set : Nat), .int .u64 (curN : Nat), .int .i64 curP, .int .u64 (promN : Nat), .int .i64 promP, .slice none 0 0, .int .u64 (base : Nat), .slice mo mn mc, .slice io inn ic, .int .u64 (ack : Nat), .int .u64 (safe : Nat)], .bool true]) ∧ Up w w' := by
  go_enter Try.func47, Try.ntmps47
  go_wp2
  refine bodyPost_ret (results_cell2 (g := w.heap.size + 1) Try.results47 rfl rfl (load30 (heap_alloc2 _ _ _) rfl)) rfl ?_
  exact ⟨rfl, ((Up.refl _).alloc _).alloc _⟩
end Go.Proofs.Ytfemjbaadnjanaa
