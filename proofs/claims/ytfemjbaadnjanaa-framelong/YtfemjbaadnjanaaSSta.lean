/-
  By what cut.Join sorts: views' numbers, and of one view's states those that have more.
-/
import Derived.Test.YtfemjbaadnjanaaSVid
namespace Go.Proofs.Ytfemjbaadnjanaa
open Go.RowKit Go.Sort
set_option linter.unusedVariables false

def sta (x : Sx) : Value := .agg #[.int .u64 (x.1 : Nat), .int .i64 x.2.1, .int .i64 x.2.2.1, .slice x.2.2.2.1 x.2.2.2.2.1 x.2.2.2.2.2]
/-- How many messages a state has. -/
def endS (x : Sx) : Int := x.2.2.1 + (x.2.2.2.2.1 : Nat)
/-- A floor and a length that are not too far. -/
def OkS (x : Sx) : Prop := 0 ≤ x.2.2.1 ∧ x.2.2.1 ≤ 1099511627776 ∧ x.2.2.2.2.1 ≤ 281474976710656
set_option maxRecDepth 10000 in
theorem end_any (w : World) (x : Sx) (hx : OkS x) : Calls Try.prog 89 #[sta x] w fun e w' => e = .returned (.int .i64 (endS x)) ∧ Up w w' := by
  obtain ⟨h1, h2, h3⟩ := hx
  obtain ⟨n, p, f, ao, l, c⟩ := x
  unfold sta endS
  simp only at *
  have hr : -9223372036854775808 ≤ f + (l : Int) ∧ f + (l : Int) ≤ 9223372036854775807 := by omega
  go_enter Try.func89, Try.ntmps89
  go_wp2
  go_ret
  exact ⟨rfl, (Up.refl _).alloc _⟩

/-- A state in a block. -/
def Bs (B : Nat) (x : Sx) (wx : World) : Prop :=
  wx.cell? ⟨B, 0, none⟩ = some (.int .u64 (x.1 : Nat)) ∧ wx.cell? ⟨B, 1, none⟩ = some (.int .i64 x.2.1) ∧ wx.cell? ⟨B, 2, none⟩ = some (.int .i64 x.2.2.1) ∧ wx.cell? ⟨B, 3, none⟩ = some (.slice x.2.2.2.1 x.2.2.2.2.1 x.2.2.2.2.2)
theorem Bs.up {B : Nat} {x : Sx} {w w' : World} (h : Bs B x w) (hb : Up w w') : Bs B x w' := ⟨hb.cell h.1, hb.cell h.2.1, hb.cell h.2.2.1, hb.cell h.2.2.2⟩
theorem bs_new (w : World) (x : Sx) (t : TypeId) : Bs w.heap.size x (w.alloc (.cells #[.int .u64 (x.1 : Nat), .int .i64 x.2.1, .int .i64 x.2.2.1, .slice x.2.2.2.1 x.2.2.2.2.1 x.2.2.2.2.2] t)) :=
  ⟨cell_box w _ t 0 _ rfl, cell_box w _ t 1 _ rfl, cell_box w _ t 2 _ rfl, cell_box w _ t 3 _ rfl⟩

end Go.Proofs.Ytfemjbaadnjanaa
