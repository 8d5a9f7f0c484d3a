/-
  ContentApart: two entries, or two summaries, that are unlike have unlike bytes; an entry's are no summary's. For all of them; no condition.
-/
import Derived.Test.YtpdgoalbknopiaaEArgs2
import Derived.Test.YtpdgoalbknopiaaEMath2
import Derived.Test.YtpdgoalbknopiaaERefR
namespace Go.Proofs.Ytpdgoalbknopiaa.contentApart
open Go.ChangeShapes Go.WideShapes Go.ChangeAt Go.RowKit Go.Deep
set_option linter.unusedVariables false
set_option linter.unusedSimpArgs false

def Cells4 (h : Nat) (x : Lb) (so : Value) (y : Lb) (to : Value) (s t : Smy) (w : World) : Prop :=
  Ex h x so w ∧ Ex (h + 1) y to w ∧ Sb (h + 2) (.slice s.ao s.n s.ac) (.slice s.bo s.m s.bc) s.nx s.hn s.hp w ∧ Sb (h + 3) (.slice t.ao t.n t.ac) (.slice t.bo t.m t.bc) t.nx t.hn t.hp w
theorem Cells4.bl {h : Nat} {x : Lb} {so : Value} {y : Lb} {to : Value} {s t : Smy} {w w' : World} (c : Cells4 h x so y to s t w) (u : Below w.heap.size w w') : Cells4 h x so y to s t w' := ⟨c.1.bl u, c.2.1.bl u, c.2.2.1.bl u, c.2.2.2.bl u⟩
/-- What the last test reads. -/
def S6 (h : Nat) (x : Lb) (so : Value) (m : List UInt8) (y : Lb) (to : Value) (k : List UInt8) (s t : Smy) (a b c d : Value) (A B C D : List UInt8) (w : World) : Prop :=
  (convert 27 9 a).run Try.prog w = .ok (.string (Cd.str A)) w ∧ (convert 27 9 b).run Try.prog w = .ok (.string (Cd.str B)) w ∧ (convert 27 9 c).run Try.prog w = .ok (.string (Cd.str C)) w ∧ (convert 27 9 d).run Try.prog w = .ok (.string (Cd.str D)) w ∧ (convert 27 9 so).run Try.prog w = .ok (.string (Cd.str m)) w ∧ (convert 27 9 to).run Try.prog w = .ok (.string (Cd.str k)) w ∧
  w.cell? ⟨h, 0, none⟩ = some (.int .u64 (x.1 : Nat)) ∧ w.cell? ⟨h, 1, none⟩ = some (.int .i64 x.2.1) ∧ w.cell? ⟨h, 2, none⟩ = some (.int .u64 (x.2.2.1 : Nat)) ∧ w.cell? ⟨h, 3, none⟩ = some (.int .i64 x.2.2.2) ∧ w.cell? ⟨h, 4, none⟩ = some so ∧
  w.cell? ⟨h + 1, 0, none⟩ = some (.int .u64 (y.1 : Nat)) ∧ w.cell? ⟨h + 1, 1, none⟩ = some (.int .i64 y.2.1) ∧ w.cell? ⟨h + 1, 2, none⟩ = some (.int .u64 (y.2.2.1 : Nat)) ∧ w.cell? ⟨h + 1, 3, none⟩ = some (.int .i64 y.2.2.2) ∧ w.cell? ⟨h + 1, 4, none⟩ = some to ∧
  w.cell? ⟨h + 2, 0, none⟩ = some (.slice s.ao s.n s.ac) ∧ w.cell? ⟨h + 2, 1, none⟩ = some (.slice s.bo s.m s.bc) ∧ w.cell? ⟨h + 2, 2, none⟩ = some (.int .i64 s.nx) ∧ w.cell? ⟨h + 2, 3, none⟩ = some (.int .u64 (s.hn : Nat)) ∧ w.cell? ⟨h + 2, 4, none⟩ = some (.int .i64 s.hp) ∧
  w.cell? ⟨h + 3, 0, none⟩ = some (.slice t.ao t.n t.ac) ∧ w.cell? ⟨h + 3, 1, none⟩ = some (.slice t.bo t.m t.bc) ∧ w.cell? ⟨h + 3, 2, none⟩ = some (.int .i64 t.nx) ∧ w.cell? ⟨h + 3, 3, none⟩ = some (.int .u64 (t.hn : Nat)) ∧ w.cell? ⟨h + 3, 4, none⟩ = some (.int .i64 t.hp)

set_option maxRecDepth 20000 in
set_option maxHeartbeats 4000000 in
theorem walk (w : World) (x : Lb) (hx : OkL x) (so : Option Addr) (sn sc : Nat) (ms : List UInt8) (hrx : Cd.Row w so sn sc ms) (y : Lb) (hy : OkL y) (to : Option Addr) (tn tc : Nat) (ks : List UInt8) (hry : Cd.Row w to tn tc ks) (s : Smy) (hs : SmyOk w s) (t : Smy) (ht : SmyOk w t) :
    Calls Try.prog 6 #[ent x (.slice so sn sc), ent y (.slice to tn tc), s.val, t.val] w fun e w' => e = .returned (.bool true) ∧ Below w.heap.size w w' := by
  obtain rfl : sn = ms.length := hrx.1.symm
  obtain rfl : tn = ks.length := hry.1.symm
  have b0 : Below w.heap.size w ((((w.alloc (.cells #[.int .u64 (x.1 : Nat), .int .i64 x.2.1, .int .u64 (x.2.2.1 : Nat), .int .i64 x.2.2.2, .slice so ms.length sc] 29)).alloc (.cells #[.int .u64 (y.1 : Nat), .int .i64 y.2.1, .int .u64 (y.2.2.1 : Nat), .int .i64 y.2.2.2, .slice to ks.length tc] 29)).alloc (.cells #[.slice s.ao s.n s.ac, .slice s.bo s.m s.bc, .int .i64 s.nx, .int .u64 (s.hn : Nat), .int .i64 s.hp] 38)).alloc (.cells #[.slice t.ao t.n t.ac, .slice t.bo t.m t.bc, .int .i64 t.nx, .int .u64 (t.hn : Nat), .int .i64 t.hp] 38)) := bl_step (bl2 _ _ _) (bl2 _ _ _)
  have c0 : Cells4 w.heap.size x (.slice so ms.length sc) y (.slice to ks.length tc) s t ((((w.alloc (.cells #[.int .u64 (x.1 : Nat), .int .i64 x.2.1, .int .u64 (x.2.2.1 : Nat), .int .i64 x.2.2.2, .slice so ms.length sc] 29)).alloc (.cells #[.int .u64 (y.1 : Nat), .int .i64 y.2.1, .int .u64 (y.2.2.1 : Nat), .int .i64 y.2.2.2, .slice to ks.length tc] 29)).alloc (.cells #[.slice s.ao s.n s.ac, .slice s.bo s.m s.bc, .int .i64 s.nx, .int .u64 (s.hn : Nat), .int .i64 s.hp] 38)).alloc (.cells #[.slice t.ao t.n t.ac, .slice t.bo t.m t.bc, .int .i64 t.nx, .int .u64 (t.hn : Nat), .int .i64 t.hp] 38)) := by
    have k1 := ex_new w x (.slice so ms.length sc) 29
    have k2 := ex_new (w.alloc (.cells #[.int .u64 (x.1 : Nat), .int .i64 x.2.1, .int .u64 (x.2.2.1 : Nat), .int .i64 x.2.2.2, .slice so ms.length sc] 29)) y (.slice to ks.length tc) 29
    have k3 := sb_new ((w.alloc (.cells #[.int .u64 (x.1 : Nat), .int .i64 x.2.1, .int .u64 (x.2.2.1 : Nat), .int .i64 x.2.2.2, .slice so ms.length sc] 29)).alloc (.cells #[.int .u64 (y.1 : Nat), .int .i64 y.2.1, .int .u64 (y.2.2.1 : Nat), .int .i64 y.2.2.2, .slice to ks.length tc] 29)) (.slice s.ao s.n s.ac) (.slice s.bo s.m s.bc) s.nx s.hn s.hp 38
    have k4 := sb_new (((w.alloc (.cells #[.int .u64 (x.1 : Nat), .int .i64 x.2.1, .int .u64 (x.2.2.1 : Nat), .int .i64 x.2.2.2, .slice so ms.length sc] 29)).alloc (.cells #[.int .u64 (y.1 : Nat), .int .i64 y.2.1, .int .u64 (y.2.2.1 : Nat), .int .i64 y.2.2.2, .slice to ks.length tc] 29)).alloc (.cells #[.slice s.ao s.n s.ac, .slice s.bo s.m s.bc, .int .i64 s.nx, .int .u64 (s.hn : Nat), .int .i64 s.hp] 38)) (.slice t.ao t.n t.ac) (.slice t.bo t.m t.bc) t.nx t.hn t.hp 38
    have z2 : (w.alloc (.cells #[.int .u64 (x.1 : Nat), .int .i64 x.2.1, .int .u64 (x.2.2.1 : Nat), .int .i64 x.2.2.2, .slice so ms.length sc] 29)).heap.size = w.heap.size + 1 := by simp
    have z3 : ((w.alloc (.cells #[.int .u64 (x.1 : Nat), .int .i64 x.2.1, .int .u64 (x.2.2.1 : Nat), .int .i64 x.2.2.2, .slice so ms.length sc] 29)).alloc (.cells #[.int .u64 (y.1 : Nat), .int .i64 y.2.1, .int .u64 (y.2.2.1 : Nat), .int .i64 y.2.2.2, .slice to ks.length tc] 29)).heap.size = w.heap.size + 2 := by simp
    have z4 : (((w.alloc (.cells #[.int .u64 (x.1 : Nat), .int .i64 x.2.1, .int .u64 (x.2.2.1 : Nat), .int .i64 x.2.2.2, .slice so ms.length sc] 29)).alloc (.cells #[.int .u64 (y.1 : Nat), .int .i64 y.2.1, .int .u64 (y.2.2.1 : Nat), .int .i64 y.2.2.2, .slice to ks.length tc] 29)).alloc (.cells #[.slice s.ao s.n s.ac, .slice s.bo s.m s.bc, .int .i64 s.nx, .int .u64 (s.hn : Nat), .int .i64 s.hp] 38)).heap.size = w.heap.size + 3 := by simp
    rw [z2] at k2
    rw [z3] at k3
    rw [z4] at k4
    exact ⟨((k1.bl (bl1 _ _)).bl (bl1 _ _)).bl (bl1 _ _), (k2.bl (bl1 _ _)).bl (bl1 _ _), k3.bl (bl1 _ _), k4⟩
  obtain ⟨W0, hW0⟩ : ∃ W, Hid (((((w.alloc (.cells #[.int .u64 (x.1 : Nat), .int .i64 x.2.1, .int .u64 (x.2.2.1 : Nat), .int .i64 x.2.2.2, .slice so ms.length sc] 29)).alloc (.cells #[.int .u64 (y.1 : Nat), .int .i64 y.2.1, .int .u64 (y.2.2.1 : Nat), .int .i64 y.2.2.2, .slice to ks.length tc] 29)).alloc (.cells #[.slice s.ao s.n s.ac, .slice s.bo s.m s.bc, .int .i64 s.nx, .int .u64 (s.hn : Nat), .int .i64 s.hp] 38)).alloc (.cells #[.slice t.ao t.n t.ac, .slice t.bo t.m t.bc, .int .i64 t.nx, .int .u64 (t.hn : Nat), .int .i64 t.hp] 38)) = W) := ⟨_, rfl⟩
  rw [hW0.out] at b0 c0
  have hs0 := hs.bl b0
  have ht0 := ht.bl b0
  have rx0 := hrx.below b0 (Nat.le_refl _)
  have ry0 := hry.below b0 (Nat.le_refl _)
  have e1 := hs.em
  have e2 := hs.lm
  have e3 := ht.em
  have e4 := ht.lm
  have e5 := hs.ec
  have e6 := hs.lc
  have e7 := ht.ec
  have e8 := ht.lc
  have hw1 : wrap64 ((s.n : Int) + s.m) = (s.n : Int) + s.m := IntWalk.wrap64_in _ (by omega)
  have hw2 : wrap64 ((s.n : Int) + s.m + t.n) = (s.n : Int) + s.m + t.n := IntWalk.wrap64_in _ (by omega)
  have hw3 : wrap64 ((s.n : Int) + s.m + t.n + t.m) = (s.n : Int) + s.m + t.n + t.m := IntWalk.wrap64_in _ (by omega)
  have haw := fun W => awake_any W
  have fx := fun W => refFormE_any W x so ms.length sc
  have fy := fun W => refFormE_any W y to ks.length tc
  have fs : ∀ W, Below W0.heap.size W0 W → _ := fun W u => refRight_any (fun _ => True) W s.ao s.n s.ac s.es (hs0.er.bl u) s.bo s.m s.bc s.ls (hs0.lr.up u) hs0.lc (Nat.le_trans hs0.lc hs0.lm) s.nx s.hn s.hp
  have ft : ∀ W, Below W0.heap.size W0 W → _ := fun W u => refRight_any (fun _ => True) W t.ao t.n t.ac t.es (ht0.er.bl u) t.bo t.m t.bc t.ls (ht0.lr.up u) ht0.lc (Nat.le_trans ht0.lc ht0.lm) t.nx t.hn t.hp
  unfold ent at fx fy
  unfold sumv at fs ft
  clear e1 e2 e3 e4 e5 e6 e7 e8 hs ht hrx hry
  unfold ent Smy.val sumv
  go_enter Try.func6, Try.ntmps6
  go_wp2_with fail
  rw [hW0.out]
  refine (haw _).mono ?_
  rintro e w1 ⟨rfl, u1⟩
  have c1 := c0.bl u1
  obtain ⟨⟨p0, p1, p2, p3, p4⟩, ⟨q0, q1, q2, q3, q4⟩, ⟨r0, r1, r2, r3, r4⟩, ⟨v0, v1, v2, v3, v4⟩⟩ := id c1
  by_cases hbig : 100 < (s.n : Int) + s.m + t.n + t.m
  · as_aux_lemma =>
    clear fx fy fs ft
    go_wp2_with fail
    refine (haw _).mono ?_
    rintro e wz ⟨rfl, uz⟩
    have uf := bl_step b0 (bl_step u1 uz)
    clear p0 p1 p2 p3 p4 q0 q1 q2 q3 q4 r0 r1 r2 r3 r4 v0 v1 v2 v3 v4 haw
    go_wp2
    go_ret
    exact ⟨rfl, uf⟩
  obtain ⟨d1, hd1⟩ : ∃ d, formE x ms.length = d := ⟨_, rfl⟩
  rw [hd1] at fx
  cases d1 with
  | false =>
    as_aux_lemma =>
    go_wp2_with fail
    refine (fx _).mono ?_
    rintro e w2 ⟨rfl, hu⟩
    have u2 := bl_step u1 hu.bl
    have c2 := c1.bl hu.bl
    clear p0 p1 p2 p3 p4 q0 q1 q2 q3 q4 r0 r1 r2 r3 r4 v0 v1 v2 v3 v4 fx fy fs ft hu
    obtain ⟨⟨p0, p1, p2, p3, p4⟩, ⟨q0, q1, q2, q3, q4⟩, ⟨r0, r1, r2, r3, r4⟩, ⟨v0, v1, v2, v3, v4⟩⟩ := id c2
    go_wp2_with fail
    refine (haw _).mono ?_
    rintro e wz ⟨rfl, uz⟩
    have uf := bl_step b0 (bl_step u2 uz)
    clear p0 p1 p2 p3 p4 q0 q1 q2 q3 q4 r0 r1 r2 r3 r4 v0 v1 v2 v3 v4 haw
    go_wp2
    go_ret
    exact ⟨rfl, uf⟩
  | true =>
    as_aux_lemma =>
    go_wp2_with fail
    refine (fx _).mono ?_
    rintro e w2 ⟨rfl, hu⟩
    have u2 := bl_step u1 hu.bl
    have c2 := c1.bl hu.bl
    clear p0 p1 p2 p3 p4 q0 q1 q2 q3 q4 r0 r1 r2 r3 r4 v0 v1 v2 v3 v4 fx hu
    obtain ⟨⟨p0, p1, p2, p3, p4⟩, ⟨q0, q1, q2, q3, q4⟩, ⟨r0, r1, r2, r3, r4⟩, ⟨v0, v1, v2, v3, v4⟩⟩ := id c2
    obtain ⟨d2, hd2⟩ : ∃ d, formE y ks.length = d := ⟨_, rfl⟩
    rw [hd2] at fy
    cases d2 with
    | false =>
      as_aux_lemma =>
      go_wp2_with fail
      refine (fy _).mono ?_
      rintro e w3 ⟨rfl, hu⟩
      have u3 := bl_step u2 hu.bl
      have c3 := c2.bl hu.bl
      clear p0 p1 p2 p3 p4 q0 q1 q2 q3 q4 r0 r1 r2 r3 r4 v0 v1 v2 v3 v4 fy fs ft hu
      obtain ⟨⟨p0, p1, p2, p3, p4⟩, ⟨q0, q1, q2, q3, q4⟩, ⟨r0, r1, r2, r3, r4⟩, ⟨v0, v1, v2, v3, v4⟩⟩ := id c3
      go_wp2_with fail
      refine (haw _).mono ?_
      rintro e wz ⟨rfl, uz⟩
      have uf := bl_step b0 (bl_step u3 uz)
      clear p0 p1 p2 p3 p4 q0 q1 q2 q3 q4 r0 r1 r2 r3 r4 v0 v1 v2 v3 v4 haw
      go_wp2
      go_ret
      exact ⟨rfl, uf⟩
    | true =>
      as_aux_lemma =>
      go_wp2_with fail
      refine (fy _).mono ?_
      rintro e w3 ⟨rfl, hu⟩
      have u3 := bl_step u2 hu.bl
      have c3 := c2.bl hu.bl
      clear p0 p1 p2 p3 p4 q0 q1 q2 q3 q4 r0 r1 r2 r3 r4 v0 v1 v2 v3 v4 fy hu
      obtain ⟨⟨p0, p1, p2, p3, p4⟩, ⟨q0, q1, q2, q3, q4⟩, ⟨r0, r1, r2, r3, r4⟩, ⟨v0, v1, v2, v3, v4⟩⟩ := id c3
      obtain ⟨d3, hd3⟩ : ∃ d, rightS s.es s.ls s.nx s.hn s.hp = d := ⟨_, rfl⟩
      rw [hd3] at fs
      cases d3 with
      | false =>
        as_aux_lemma =>
        go_wp2_with fail
        refine (fs w3 u3).mono ?_
        rintro e w4 ⟨rfl, hu⟩
        have u4 := bl_step u3 hu.bl
        have c4 := c3.bl hu.bl
        clear p0 p1 p2 p3 p4 q0 q1 q2 q3 q4 r0 r1 r2 r3 r4 v0 v1 v2 v3 v4 fs ft hu
        obtain ⟨⟨p0, p1, p2, p3, p4⟩, ⟨q0, q1, q2, q3, q4⟩, ⟨r0, r1, r2, r3, r4⟩, ⟨v0, v1, v2, v3, v4⟩⟩ := id c4
        go_wp2_with fail
        refine (haw _).mono ?_
        rintro e wz ⟨rfl, uz⟩
        have uf := bl_step b0 (bl_step u4 uz)
        clear p0 p1 p2 p3 p4 q0 q1 q2 q3 q4 r0 r1 r2 r3 r4 v0 v1 v2 v3 v4 haw
        go_wp2
        go_ret
        exact ⟨rfl, uf⟩
      | true =>
        as_aux_lemma =>
        go_wp2_with fail
        refine (fs w3 u3).mono ?_
        rintro e w4 ⟨rfl, hu⟩
        have u4 := bl_step u3 hu.bl
        have c4 := c3.bl hu.bl
        clear p0 p1 p2 p3 p4 q0 q1 q2 q3 q4 r0 r1 r2 r3 r4 v0 v1 v2 v3 v4 fs hu
        obtain ⟨⟨p0, p1, p2, p3, p4⟩, ⟨q0, q1, q2, q3, q4⟩, ⟨r0, r1, r2, r3, r4⟩, ⟨v0, v1, v2, v3, v4⟩⟩ := id c4
        obtain ⟨d4, hd4⟩ : ∃ d, rightS t.es t.ls t.nx t.hn t.hp = d := ⟨_, rfl⟩
        rw [hd4] at ft
        cases d4 with
        | false =>
          as_aux_lemma =>
          go_wp2_with fail
          refine (ft w4 u4).mono ?_
          rintro e w5 ⟨rfl, hu⟩
          have u5 := bl_step u4 hu.bl
          have c5 := c4.bl hu.bl
          clear p0 p1 p2 p3 p4 q0 q1 q2 q3 q4 r0 r1 r2 r3 r4 v0 v1 v2 v3 v4 ft  hu
          obtain ⟨⟨p0, p1, p2, p3, p4⟩, ⟨q0, q1, q2, q3, q4⟩, ⟨r0, r1, r2, r3, r4⟩, ⟨v0, v1, v2, v3, v4⟩⟩ := id c5
          go_wp2_with fail
          refine (haw _).mono ?_
          rintro e wz ⟨rfl, uz⟩
          have uf := bl_step b0 (bl_step u5 uz)
          clear p0 p1 p2 p3 p4 q0 q1 q2 q3 q4 r0 r1 r2 r3 r4 v0 v1 v2 v3 v4 haw
          go_wp2
          go_ret
          exact ⟨rfl, uf⟩
        | true =>
          as_aux_lemma =>
          go_wp2_with fail
          refine (ft w4 u4).mono ?_
          rintro e w5 ⟨rfl, hu⟩
          have u5 := bl_step u4 hu.bl
          have c5 := c4.bl hu.bl
          clear p0 p1 p2 p3 p4 q0 q1 q2 q3 q4 r0 r1 r2 r3 r4 v0 v1 v2 v3 v4 ft hu
          obtain ⟨⟨p0, p1, p2, p3, p4⟩, ⟨q0, q1, q2, q3, q4⟩, ⟨r0, r1, r2, r3, r4⟩, ⟨v0, v1, v2, v3, v4⟩⟩ := id c5
          obtain ⟨xf, xl⟩ : formL x = true ∧ ms.length ≤ 64 := by unfold formE at hd1; simpa using hd1
          obtain ⟨yf, yl⟩ : formL y = true ∧ ks.length ≤ 64 := by unfold formE at hd2; simpa using hd2
          have hsl := hs0.lr.1
          have hsn := hs0.er.1
          have htl := ht0.lr.1
          have htn := ht0.er.1
          obtain ⟨sE, sL, sx1, sx2, sf⟩ := right_parts hd3 (fun e he => ⟨(hs0.eok e he).1, (hs0.eok e he).2.2.1⟩) (fun e he => ⟨(hs0.lok e he).1, (hs0.lok e he).2.2.1⟩)
          obtain ⟨tE, tL, tx1, tx2, tf⟩ := right_parts hd4 (fun e he => ⟨(ht0.eok e he).1, (ht0.eok e he).2.2.1⟩) (fun e he => ⟨(ht0.lok e he).1, (ht0.lok e he).2.2.1⟩)
          obtain ⟨sN, hsN⟩ : ∃ k : Nat, s.nx = k := ⟨s.nx.toNat, by omega⟩
          obtain ⟨tN, htN⟩ : ∃ k : Nat, t.nx = k := ⟨t.nx.toNat, by omega⟩
          have k1 := fun W (u : Below W0.heap.size W0 W) => encodeOne_any W x hx.1 hx.2.2.1 so ms.length sc ms (rx0.below u (Nat.le_refl _)) hd1
          have k2 := fun W (u : Below W0.heap.size W0 W) => encodeOne_any W y hy.1 hy.2.2.1 to ks.length tc ks (ry0.below u (Nat.le_refl _)) hd2
          have k3 := fun W (u : Below W0.heap.size W0 W) => encodeAll_any (fun _ => True) W s.ao s.n s.ac s.es (hs0.er.bl u) (by omega) s.bo s.m s.bc s.ls (hs0.lr.up u) (by omega) hs0.lz sN s.hn s.hp (by rw [← hsN]; exact hd3) sE sL (by omega) hs0.hnl sf
          have k4 := fun W (u : Below W0.heap.size W0 W) => encodeAll_any (fun _ => True) W t.ao t.n t.ac t.es (ht0.er.bl u) (by omega) t.bo t.m t.bc t.ls (ht0.lr.up u) (by omega) ht0.lz tN t.hn t.hp (by rw [← htN]; exact hd4) tE tL (by omega) ht0.hnl tf
          have hAB : Hid (decide ((1 : UInt8) :: encE x ms = 1 :: encE y ks) = (decide (x = y) && decide (ms = ks))) := by
            show _ = _
            have := one_inj (x := (x, ms)) (y := (y, ks)) ⟨hx.1, hx.2.2.1, xf, xl⟩ ⟨hy.1, hy.2.2.1, yf, yl⟩
            rw [Bool.eq_iff_iff]
            simp only [decide_eq_true_eq, Bool.and_eq_true]
            rw [this]
            simp
          have hCD : Hid (decide (allB s.es s.ls sN s.hn s.hp = allB t.es t.ls tN t.hn t.hp) = (decide (s.es = t.es) && decide (s.ls = t.ls) && decide (s.nx = t.nx) && (decide (s.hn = t.hn) && decide (s.hp = t.hp)))) := by
            show _ = _
            have := allB_inj (nx := sN) (nx' := tN) sE tE sL tL (by omega) (by omega) (by omega) (by omega) (by omega) (by omega) hs0.hnl ht0.hnl sf tf
            rw [Bool.eq_iff_iff]
            simp only [decide_eq_true_eq, Bool.and_eq_true]
            rw [this, hsN, htN]
            constructor
            · rintro ⟨h1, h2, h3, h4, h5⟩; exact ⟨⟨⟨h1, h2⟩, by omega⟩, h4, h5⟩
            · rintro ⟨⟨⟨h1, h2⟩, h3⟩, h4, h5⟩; exact ⟨h1, h2, by omega, h4, h5⟩
          have hAC : Hid (decide ((1 : UInt8) :: encE x ms = allB s.es s.ls sN s.hn s.hp) = false) := by
            show _ = _
            simp [allB]
          have kal := fun W (u : Below W0.heap.size W0 W) => alike_any (fun _ => True) (fun _ => True) W s.ao s.n s.ac s.es (hs0.er.bl u) s.bo s.m s.bc s.ls (hs0.lr.up u) s.nx s.hn s.hp t.ao t.n t.ac t.es (ht0.er.bl u) t.bo t.m t.bc t.ls (ht0.lr.up u) t.nx t.hn t.hp
          have HRX : Hid (Cd.Row W0 so ms.length sc ms ∧ Cd.Row W0 to ks.length tc ks) := ⟨rx0, ry0⟩
          unfold ent at k1 k2
          rw [← hsN] at k3
          rw [← htN] at k4
          unfold sumv at k3 k4 kal
          clear hx hy hd1 hd2 hd3 hd4 rx0 ry0 xf xl yf yl sE sL sx1 sx2 sf tE tL tx1 tx2 tf hs0 ht0 hsl hsn htl htn hsN htN hw1 hw2 hw3
          generalize (1 : UInt8) :: encE x ms = A at *
          generalize (1 : UInt8) :: encE y ks = B at *
          generalize allB s.es s.ls sN s.hn s.hp = C at *
          generalize allB t.es t.ls tN t.hn t.hp = D at *
          generalize (decide (s.es = t.es) && decide (s.ls = t.ls) && decide (s.nx = t.nx) && (decide (s.hn = t.hn) && decide (s.hp = t.hp))) = al at *
          as_aux_lemma =>
          have kk := k1 w5 u5
          clear k1
          go_wp2_with fail
          refine kk.mono ?_
          rintro e w6 ⟨zA, rfl, ho, hb⟩
          obtain ⟨oA, gA, rfl, RA, _⟩ := Cd.owns_row ho
          have u6 := bl_step u5 hb
          have c6 := c5.bl hb
          have RA6 := RA
          clear kk ho hb RA p0 p1 p2 p3 p4 q0 q1 q2 q3 q4 r0 r1 r2 r3 r4 v0 v1 v2 v3 v4
          obtain ⟨⟨p0, p1, p2, p3, p4⟩, ⟨q0, q1, q2, q3, q4⟩, ⟨r0, r1, r2, r3, r4⟩, ⟨v0, v1, v2, v3, v4⟩⟩ := id c6
          as_aux_lemma =>
          have kk := k2 w6 u6
          clear k2
          go_wp2_with fail
          refine kk.mono ?_
          rintro e w7 ⟨zB, rfl, ho, hb⟩
          obtain ⟨oB, gB, rfl, RB, _⟩ := Cd.owns_row ho
          have u7 := bl_step u6 hb
          have c7 := c6.bl hb
          have RA7 := RA6.below hb (Nat.le_refl _)
          clear RA6
          have RB7 := RB
          clear kk ho hb RB p0 p1 p2 p3 p4 q0 q1 q2 q3 q4 r0 r1 r2 r3 r4 v0 v1 v2 v3 v4
          obtain ⟨⟨p0, p1, p2, p3, p4⟩, ⟨q0, q1, q2, q3, q4⟩, ⟨r0, r1, r2, r3, r4⟩, ⟨v0, v1, v2, v3, v4⟩⟩ := id c7
          as_aux_lemma =>
          have kk := k3 w7 u7
          clear k3
          go_wp2_with fail
          refine kk.mono ?_
          rintro e w8 ⟨zC, rfl, ho, hb⟩
          obtain ⟨oC, gC, rfl, RC, _⟩ := Cd.owns_row ho
          have u8 := bl_step u7 hb
          have c8 := c7.bl hb
          have RA8 := RA7.below hb (Nat.le_refl _)
          clear RA7
          have RB8 := RB7.below hb (Nat.le_refl _)
          clear RB7
          have RC8 := RC
          clear kk ho hb RC p0 p1 p2 p3 p4 q0 q1 q2 q3 q4 r0 r1 r2 r3 r4 v0 v1 v2 v3 v4
          obtain ⟨⟨p0, p1, p2, p3, p4⟩, ⟨q0, q1, q2, q3, q4⟩, ⟨r0, r1, r2, r3, r4⟩, ⟨v0, v1, v2, v3, v4⟩⟩ := id c8
          as_aux_lemma =>
          have kk := k4 w8 u8
          clear k4
          go_wp2_with fail
          refine kk.mono ?_
          rintro e w9 ⟨zD, rfl, ho, hb⟩
          obtain ⟨oD, gD, rfl, RD, _⟩ := Cd.owns_row ho
          have u9 := bl_step u8 hb
          have c9 := c8.bl hb
          have RA9 := RA8.below hb (Nat.le_refl _)
          clear RA8
          have RB9 := RB8.below hb (Nat.le_refl _)
          clear RB8
          have RC9 := RC8.below hb (Nat.le_refl _)
          clear RC8
          have RD9 := RD
          clear kk ho hb RD p0 p1 p2 p3 p4 q0 q1 q2 q3 q4 r0 r1 r2 r3 r4 v0 v1 v2 v3 v4
          obtain ⟨⟨p0, p1, p2, p3, p4⟩, ⟨q0, q1, q2, q3, q4⟩, ⟨r0, r1, r2, r3, r4⟩, ⟨v0, v1, v2, v3, v4⟩⟩ := id c9
          as_aux_lemma =>
          have tA := Cd.conv_row RA9
          have tC := Cd.conv_row RC9
          have nAC := Cd.str_beq A C
          rw [hAC.out] at nAC
          have nAB := Cd.str_beq A B
          have nCD := Cd.str_beq C D
          have nmk := Cd.str_beq ms ks
          rw [hAB.out] at nAB
          rw [hCD.out] at nCD
          have HS : Hid (∀ W, Below w9.heap.size w9 W → S6 w.heap.size x (.slice so ms.length sc) ms y (.slice to ks.length tc) ks s t (.slice oA A.length gA) (.slice oB B.length gB) (.slice oC C.length gC) (.slice oD D.length gD) A B C D W) := fun W u => by
            have cc := c9.bl u
            have uu := bl_step u9 u
            exact ⟨Cd.conv_row (RA9.below u (Nat.le_refl _)), Cd.conv_row (RB9.below u (Nat.le_refl _)), Cd.conv_row (RC9.below u (Nat.le_refl _)), Cd.conv_row (RD9.below u (Nat.le_refl _)), Cd.conv_row (HRX.out.1.below uu (Nat.le_refl _)), Cd.conv_row (HRX.out.2.below uu (Nat.le_refl _)), cc.1.1, cc.1.2.1, cc.1.2.2.1, cc.1.2.2.2.1, cc.1.2.2.2.2, cc.2.1.1, cc.2.1.2.1, cc.2.1.2.2.1, cc.2.1.2.2.2.1, cc.2.1.2.2.2.2, cc.2.2.1.1, cc.2.2.1.2.1, cc.2.2.1.2.2.1, cc.2.2.1.2.2.2.1, cc.2.2.1.2.2.2.2, cc.2.2.2.1, cc.2.2.2.2.1, cc.2.2.2.2.2.1, cc.2.2.2.2.2.2.1, cc.2.2.2.2.2.2.2⟩
          have ud : Below w9.heap.size w9 w9.drew := (Below.refl _ _).drew
          have s9 := HS.out _ ud
          have heq := fun W => lab_equal x y W
          have B9 : Hid (Below w.heap.size w w9) := bl_step b0 u9
          have kal9 := fun W (u : Below w9.heap.size w9 W) => kal W (bl_step u9 u)
          clear RB9 RD9 p0 p1 p2 p3 p4 q0 q1 q2 q3 q4 r0 r1 r2 r3 r4 v0 v1 v2 v3 v4 c9 hAB hCD hAC kal haw HRX RA9 RC9 b0
          unfold S6 at s9
          go_wp2_with fail
          cases hxy : decide (x = y) with
          | false =>
            as_aux_lemma =>
            rw [hxy] at heq nAB
            simp only [Bool.false_and] at nAB
            clear hxy
            refine wp_region_noPanic ?_
            refine wp_region_held_drew (S := S6 w.heap.size x (.slice so ms.length sc) ms y (.slice to ks.length tc) ks s t (.slice oA A.length gA) (.slice oB B.length gB) (.slice oC C.length gC) (.slice oD D.length gD) A B C D) (by kernel_rfl) s9 (fun hHeld => ?_)
            unfold S6 at hHeld
            refine tq 0 ?_
            refine tq 1 ?_
            refine tq 2 ?_
            refine tq 3 ?_
            refine tq 4 ?_
            refine tq 5 ?_
            refine tq 6 ?_
            refine tq 7 ?_
            refine tq 8 ?_
            refine tq 9 ?_
            refine tq 10 ?_
            refine tqS 11 ?_
            refine tqS 12 ?_
            refine tqS 13 ?_
            refine tqS 14 ?_
            refine tqS 15 ?_
            refine tqS 16 ?_
            refine tqS 17 ?_
            refine tq 18 ?_
            refine tq 19 ?_
            refine tq 20 ?_
            refine tq 21 ?_
            refine tq 22 ?_
            refine tq 23 ?_
            refine tq 24 ?_
            refine tq 25 ?_
            refine tq 26 ?_
            refine tq 27 ?_
            refine comes_up 28 rfl (by kernel_rfl) (fun K hK => ?_)
            go_simp
            refine (kal9 _ ud).mono ?_
            rintro e wa ⟨rfl, hua⟩
            have ua := bl_step ud hua.bl
            clear kal9 hua s9
            go_wp2_with fail
            refine hK.out _ _ (HS.out _ ua) (fun hHeld => ?_)
            clear hK K
            (try simp only [Act.put, List.setIfInBounds_toArray, List.set_cons_zero, List.set_cons_succ])
            refine tq 29 ?_
            refine tq 30 ?_
            refine tq 31 ?_
            refine wpAnyH_done (by kernel_rfl) ?_ _
            refine NoPanic.normal ?_
            clear hHeld
            go_wp2
            go_ret
            exact ⟨rfl, bl_step B9.out ua⟩
          | true =>
            as_aux_lemma =>
            rw [hxy] at heq nAB
            simp only [Bool.true_and] at nAB
            clear hxy
            generalize decide (ms = ks) = mk at *
            refine wp_region_noPanic ?_
            refine wp_region_held_drew (S := S6 w.heap.size x (.slice so ms.length sc) ms y (.slice to ks.length tc) ks s t (.slice oA A.length gA) (.slice oB B.length gB) (.slice oC C.length gC) (.slice oD D.length gD) A B C D) (by kernel_rfl) s9 (fun hHeld => ?_)
            unfold S6 at hHeld
            refine tq 0 ?_
            refine tq 1 ?_
            refine tq 2 ?_
            refine tq 3 ?_
            refine tq 4 ?_
            refine tq 5 ?_
            refine tq 6 ?_
            refine tq 7 ?_
            refine tq 8 ?_
            refine tq 9 ?_
            refine tq 10 ?_
            refine tq 11 ?_
            refine tq 12 ?_
            refine tq 13 ?_
            refine tq 14 ?_
            refine tq 15 ?_
            refine tq 16 ?_
            refine tq 17 ?_
            refine tq 18 ?_
            refine tq 19 ?_
            refine tq 20 ?_
            refine tq 21 ?_
            refine tq 22 ?_
            refine tq 23 ?_
            refine tq 24 ?_
            refine tq 25 ?_
            refine tq 26 ?_
            refine tq 27 ?_
            refine comes_up 28 rfl (by kernel_rfl) (fun K hK => ?_)
            go_simp
            refine (kal9 _ ud).mono ?_
            rintro e wa ⟨rfl, hua⟩
            have ua := bl_step ud hua.bl
            clear kal9 hua s9
            go_wp2_with fail
            refine hK.out _ _ (HS.out _ ua) (fun hHeld => ?_)
            clear hK K
            (try simp only [Act.put, List.setIfInBounds_toArray, List.set_cons_zero, List.set_cons_succ])
            refine tq 29 ?_
            refine tq 30 ?_
            refine tq 31 ?_
            refine wpAnyH_done (by kernel_rfl) ?_ _
            refine NoPanic.normal ?_
            clear hHeld
            go_wp2
            go_ret
            exact ⟨rfl, bl_step B9.out ua⟩
set_option maxRecDepth 100000 in
theorem lifted (os : Os) (started : os.Started) (H : Type) (enc : TypeId × Value → H) :
    ReturnsInHanded {} Try.checked os 6 .any (Rows.contentApartSpec.pre6 enc Try.prog Try.f6 Rows.contentApartRow.domain false) (Rows.contentApartSpec.post enc Try.prog Try.f6 false true false false) := by
  refine returnsInHanded_of_change_sized (C := Try.checked) own started (by kernel_rfl) Try.func6
    (ChangeSpec.witness6 (enc := enc) (C := Try.checked) false ⟨#[], #[.agg #[.int .u64 0, .int .i64 0, .int .u64 0, .int .i64 0, .slice none 0 0], .agg #[.int .u64 0, .int .i64 0, .int .u64 0, .int .i64 0, .slice none 0 0], .agg #[.slice none 0 0, .slice none 0 0, .int .i64 0, .int .u64 0, .int .i64 0], .agg #[.slice none 0 0, .slice none 0 0, .int .i64 0, .int .u64 0, .int .i64 0]], []⟩ 12 (by kernel_rfl) (by kernel_rfl) (by kernel_rfl) (by kernel_rfl)) ?_
  intro W base args ds gs before hval0 hW hcnd hsz0 _
  have hsz : (DataW.weightsEach Try.prog (Try.f6.params.toList ++ Rows.contentApartSpec.plain.varTypes Try.prog) (ds ++ gs)).all (· ≤ reachBytes) = true := hsz0
  have hval : ∀ (j : Nat) t v, Try.f6.params[j]? = some t → args[j]? = some v → Value.okWide Try.prog W .any base t v := hval0
  have hW' := hW
  obtain ⟨p, q, hA0, hV, rfl, hfz, hnd⟩ := hW
  have hA : DataW.TrodAll enc Try.prog W 0 (fun _ => true) true Try.f6.params.toList args.toList ds p := hA0
  rw [Try.params6] at hA hval hsz
  obtain ⟨v0, vs0, d0, ds0, p0, q0, hargs0, rfl, rfl, h0, r0⟩ := trodAll_cons hA
  obtain ⟨v1, vs1, d1, ds1, p1, q1, hargs1, rfl, rfl, h1, r1⟩ := trodAll_cons r0
  obtain ⟨v2, vs2, d2, ds2, p2, q2, hargs2, rfl, rfl, h2, r2⟩ := trodAll_cons r1
  obtain ⟨v3, vs3, d3, ds3, p3, q3, hargs3, rfl, rfl, h3, r3⟩ := trodAll_cons r2
  obtain ⟨rfl, rfl, rfl⟩ := trodAll_nil r3
  obtain rfl : args = #[v0, v1, v2, v3] := by cases args; simp_all
  obtain ⟨rfl, rfl⟩ := trodVars_none hV
  have k0 := h0
  have lt0 : ∀ x ∈ p0, x.block < W.heap.size := by obtain ⟨m, hm⟩ := k0; exact DataW.trod_lt m _ _ _ hm
  obtain ⟨x0, so0, sn0, sc0, ms0, hx0, rfl, hr0⟩ := open_ent (hval 0 29 v0 rfl rfl) h0
  have k1 := h1
  have lt1 : ∀ x ∈ p1, x.block < W.heap.size := by obtain ⟨m, hm⟩ := k1; exact DataW.trod_lt m _ _ _ hm
  obtain ⟨x1, so1, sn1, sc1, ms1, hx1, rfl, hr1⟩ := open_ent (hval 1 29 v1 rfl rfl) h1
  have k2 := h2
  have lt2 : ∀ x ∈ p2, x.block < W.heap.size := by obtain ⟨m, hm⟩ := k2; exact DataW.trod_lt m _ _ _ hm
  obtain ⟨y2, hy2, rfl⟩ := open_sum (hval 2 38 v2 rfl rfl) h2 (fits_of hsz (j := 2) rfl rfl)
  have k3 := h3
  have lt3 : ∀ x ∈ p3, x.block < W.heap.size := by obtain ⟨m, hm⟩ := k3; exact DataW.trod_lt m _ _ _ hm
  obtain ⟨y3, hy3, rfl⟩ := open_sum (hval 3 38 v3 rfl rfl) h3 (fits_of hsz (j := 3) rfl rfl)
  clear hA0 hval0 hsz hsz0
  refine (walk W x0 hx0 so0 sn0 sc0 ms0 hr0 x1 hx1 so1 sn1 sc1 ms1 hr1 y2 hy2 y3 hy3).mono fun e W' ⟨he, bel⟩ => ?_
  subst he
  exact ⟨_, rfl, _, _, _, [], _, [], hW', trodAll_mk1 (shut_bool Try.underlying4 _), (trodAll_cons_mk (Below.trod laidOut (by kernel_rfl) (of_decide_eq_true (by kernel_rfl)) k0 bel lt0) (trodAll_cons_mk (Below.trod laidOut (by kernel_rfl) (of_decide_eq_true (by kernel_rfl)) k1 bel lt1) (trodAll_cons_mk (Below.trod laidOut (by kernel_rfl) (of_decide_eq_true (by kernel_rfl)) k2 bel lt2) (trodAll_cons_mk (Below.trod laidOut (by kernel_rfl) (of_decide_eq_true (by kernel_rfl)) k3 bel lt3) trodAll_mk0)))), rfl, bel.frame _, fun h => by cases h⟩

theorem over : Rows.contentApartRow.holds Try.pinned (OpenSpec.ofChange Rows.contentApartSpec) :=
  OpenClaim.holds_of_wide 6 Try.f6 rfl rfl rfl rfl rfl rfl rfl ⟨rfl, rfl, rfl, rfl, rfl⟩ rfl rfl rfl rfl rfl (by kernel_rfl) Try.func6 (by kernel_rfl)
    (of_decide_eq_true (by kernel_rfl)) (by unfold Func.isWrapper; first | (rw [if_pos (by decide +kernel)]; kernel_rfl) | (rw [if_neg (by decide +kernel)]; exact ⟨rfl, rfl⟩))
    (fun os started H enc _ => lifted os started H enc)

end Go.Proofs.Ytpdgoalbknopiaa.contentApart
namespace Go.Proofs.Ytpdgoalbknopiaa
theorem contentApart_holds : Rows.ContentApartSaid := contentApart.over
#print axioms contentApart_holds
end Go.Proofs.Ytpdgoalbknopiaa
