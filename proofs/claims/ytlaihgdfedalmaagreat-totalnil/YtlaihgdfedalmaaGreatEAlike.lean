/-
  The document's Alike: are two summaries one?
-/
import Derived.Test.YtlaihgdfedalmaaGreatESame
namespace Go.Proofs.YtlaihgdfedalmaaGreat
open Go.RowKit
set_option linter.unusedVariables false

def sumv (c o : Value) (nx : Int) (hn : Nat) (hp : Int) : Value := .agg #[c, o, .int .i64 nx, .int .u64 (hn : Nat), .int .i64 hp]
def Sb (B : Nat) (c o : Value) (nx : Int) (hn : Nat) (hp : Int) (w : World) : Prop :=
  w.cell? ⟨B, 0, none⟩ = some c ∧ w.cell? ⟨B, 1, none⟩ = some o ∧ w.cell? ⟨B, 2, none⟩ = some (.int .i64 nx) ∧ w.cell? ⟨B, 3, none⟩ = some (.int .u64 (hn : Nat)) ∧ w.cell? ⟨B, 4, none⟩ = some (.int .i64 hp)
theorem sb_new (w : World) (c o : Value) (nx : Int) (hn : Nat) (hp : Int) (t : TypeId) : Sb w.heap.size c o nx hn hp (w.alloc (.cells #[c, o, .int .i64 nx, .int .u64 (hn : Nat), .int .i64 hp] t)) :=
  ⟨cell_box w _ t 0 _ rfl, cell_box w _ t 1 _ rfl, cell_box w _ t 2 _ rfl, cell_box w _ t 3 _ rfl, cell_box w _ t 4 _ rfl⟩
theorem Sb.bl {B : Nat} {c o : Value} {nx : Int} {hn : Nat} {hp : Int} {w w' : World} (h : Sb B c o nx hn hp w) (u : Below w.heap.size w w') : Sb B c o nx hn hp w' :=
  ⟨bl_cell u h.1, bl_cell u h.2.1, bl_cell u h.2.2.1, bl_cell u h.2.2.2.1, bl_cell u h.2.2.2.2⟩
theorem vid_equal (n1 : Nat) (p1 : Int) (n2 : Nat) (p2 : Int) (w : World) : Sem.run Tryz.prog (Op.equalIn 10000 33 (.agg #[.int .u64 (n1 : Nat), .int .i64 p1]) (.agg #[.int .u64 (n2 : Nat), .int .i64 p2])) w = .ok (decide (n1 = n2) && decide (p1 = p2)) w := vid_equalIn 9998 n1 p1 n2 p2 w

set_option maxRecDepth 10000 in
set_option maxHeartbeats 1000000 in
theorem alike_any (p q : Nat → Prop) (w : World) (ao : Option Addr) (n ac : Nat) (es : List (Lb × List UInt8)) (h : ER p w ao n es) (bo : Option Addr) (m bc : Nat) (ls : List Lb) (g : LR w bo m ls) (nx : Int) (hn : Nat) (hp : Int)
    (ao' : Option Addr) (n' ac' : Nat) (es' : List (Lb × List UInt8)) (h' : ER q w ao' n' es') (bo' : Option Addr) (m' bc' : Nat) (ls' : List Lb) (g' : LR w bo' m' ls') (nx' : Int) (hn' : Nat) (hp' : Int) :
    Calls Tryz.prog 39 #[sumv (.slice ao n ac) (.slice bo m bc) nx hn hp, sumv (.slice ao' n' ac') (.slice bo' m' bc') nx' hn' hp'] w fun e w' => e = .returned (.bool (decide (es = es') && decide (ls = ls') && decide (nx = nx') && (decide (hn = hn') && decide (hp = hp')))) ∧ Up w w' := by
  unfold sumv
  have up0 : Up w ((w.alloc (.cells #[.slice ao n ac, .slice bo m bc, .int .i64 nx, .int .u64 (hn : Nat), .int .i64 hp] 45)).alloc (.cells #[.slice ao' n' ac', .slice bo' m' bc', .int .i64 nx', .int .u64 (hn' : Nat), .int .i64 hp'] 45)) := ((Up.refl _).alloc _).alloc _
  have c1 := (sb_new w (.slice ao n ac) (.slice bo m bc) nx hn hp 45).bl (bl1 _ (.cells #[.slice ao' n' ac', .slice bo' m' bc', .int .i64 nx', .int .u64 (hn' : Nat), .int .i64 hp'] 45))
  have c2 := sb_new (w.alloc (.cells #[.slice ao n ac, .slice bo m bc, .int .i64 nx, .int .u64 (hn : Nat), .int .i64 hp] 45)) (.slice ao' n' ac') (.slice bo' m' bc') nx' hn' hp' 45
  have hsz : (w.alloc (.cells #[.slice ao n ac, .slice bo m bc, .int .i64 nx, .int .u64 (hn : Nat), .int .i64 hp] 45)).heap.size = w.heap.size + 1 := by simp
  rw [hsz] at c2
  have hs1 := fun W (u : Up w W) => sameE_any p q W ao n ac es (h.bl u.bl) ao' n' ac' es' (h'.bl u.bl)
  have hs2 := fun W (u : Up w W) => same_any W bo m bc ls (g.up u.bl) bo' m' bc' ls' (g'.up u.bl)
  have heq := fun W => vid_equal hn hp hn' hp' W
  have C1 := c1
  have C2 := c2
  clear h h' g g' hsz
  obtain ⟨x0, x1, x2, x3, x4⟩ := c1
  obtain ⟨y0, y1, y2, y3, y4⟩ := c2
  cases he : decide (es = es') with
  | false =>
    rw [he] at hs1
    simp only [Bool.false_and]
    go_enter Tryz.func39, Tryz.ntmps39
    go_wp2_with fail
    refine (hs1 _ up0).mono ?_
    rintro e w1 ⟨rfl, hu⟩
    have up1 := up0.trans hu
    clear hs1 hs2 C1 C2 x0 x1 x2 x3 x4 y0 y1 y2 y3 y4 up0 hu heq
    go_wp2
    go_ret
    exact ⟨rfl, up1⟩
  | true =>
    rw [he] at hs1
    simp only [Bool.true_and]
    cases hl : decide (ls = ls') with
    | false =>
      rw [hl] at hs2
      simp only [Bool.false_and]
      go_enter Tryz.func39, Tryz.ntmps39
      go_wp2_with fail
      refine (hs1 _ up0).mono ?_
      rintro e w1 ⟨rfl, hu⟩
      have up1 := up0.trans hu
      have D1 := C1.bl hu.bl
      have D2 := C2.bl hu.bl
      clear hs1 C1 C2 x0 x1 x2 x3 x4 y0 y1 y2 y3 y4 up0 hu heq
      obtain ⟨x0, x1, x2, x3, x4⟩ := D1
      obtain ⟨y0, y1, y2, y3, y4⟩ := D2
      go_wp2_with fail
      refine (hs2 _ up1).mono ?_
      rintro e w2 ⟨rfl, hu⟩
      have up2 := up1.trans hu
      clear hs2 x0 x1 x2 x3 x4 y0 y1 y2 y3 y4 up1 hu
      go_wp2
      go_ret
      exact ⟨rfl, up2⟩
    | true =>
      rw [hl] at hs2
      simp only [Bool.true_and]
      go_enter Tryz.func39, Tryz.ntmps39
      go_wp2_with fail
      refine (hs1 _ up0).mono ?_
      rintro e w1 ⟨rfl, hu⟩
      have up1 := up0.trans hu
      have D1 := C1.bl hu.bl
      have D2 := C2.bl hu.bl
      clear hs1 C1 C2 x0 x1 x2 x3 x4 y0 y1 y2 y3 y4 up0 hu
      obtain ⟨x0, x1, x2, x3, x4⟩ := id D1
      obtain ⟨y0, y1, y2, y3, y4⟩ := id D2
      go_wp2_with fail
      refine (hs2 _ up1).mono ?_
      rintro e w2 ⟨rfl, hu⟩
      have up2 := up1.trans hu
      have E1 := D1.bl hu.bl
      have E2 := D2.bl hu.bl
      clear hs2 x0 x1 x2 x3 x4 y0 y1 y2 y3 y4 up1 hu D1 D2
      obtain ⟨x0, x1, x2, x3, x4⟩ := E1
      obtain ⟨y0, y1, y2, y3, y4⟩ := E2
      by_cases hx : nx = nx'
      · subst hx
        go_wp2
        go_ret
        exact ⟨ret_bool (by simp), up2⟩
      · go_wp2
        go_ret
        exact ⟨ret_bool (by simp [hx]), up2⟩
end Go.Proofs.YtlaihgdfedalmaaGreat
