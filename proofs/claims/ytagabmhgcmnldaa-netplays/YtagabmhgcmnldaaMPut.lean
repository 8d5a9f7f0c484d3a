/-
  put and Put of the document's net.
-/
import Derived.Test.YtagabmhgcmnldaaMClass
import Derived.Test.YtagabmhgcmnldaaNHold
namespace Go.Proofs.Ytagabmhgcmnldaa
open Go.RowKit
set_option linter.unusedVariables false
set_option linter.unusedSimpArgs false

theorem info49z : (Try.prog.info? 49).map (fun i => (i.zero, i.size, i.bytes)) = some (some (.agg #[.int .i64 0, .int .i64 0, .slice none 0 0]), 3, 40) := by kernel_rfl
theorem und29 : Try.prog.underlying 29 = some (.slice 49) := by kernel_rfl
theorem wpList_append_run' {P : Program} {w : World} {ops : Array Oper} {rest : List Oper} {o : Oper} {a : Act} {Q : Exit → Act → World → Prop} (hgd : o.guard = none) (d s : Operand) (t t' : TypeId)
    (ho : o.op = .call { callee := .builtin .append, args := #[d, s], argTypes := #[t, t'] }) (v u : Value) (hd : a.eval d = v) (hs : a.eval s = u) {v' : Value} {w' : World}
    (hr : (Builtin.append_ #[t, t'] o.type #[v, u]).run P w = .ok v' w') (h : wpList P ops Q rest (a.put o.dst v') w') : wpList P ops Q (o :: rest) a w := by
  refine wpList_plain hgd fun K hK => ?_
  unfold Oper.wp execOp
  simp only [ho, resolve, invoke, builtin, Sem.run_bind, Sem.run_pure, Result.andThen_ok, List.map_toArray, List.map_cons, List.map_nil, hd, hs, hr]
  exact hK _ _ h
/-- Bytes behind nothing. -/
theorem append_any {w : World} {ao : Option Addr} {n cap : Nat} {xs : List UInt8} (h : Row w ao n cap xs) (hn : n ≤ 140737488351232) (ty : TypeId) : ∃ vo vc w', (Builtin.append_ #[35, 35] ty #[.slice none 0 0, .slice ao n cap]).run Try.prog w = .ok (.slice vo n vc) w' ∧ w'.ownsRow w.heap.size 5 1 (.slice vo n vc) n (xs.map by8) ∧ Below w.heap.size w w' := by
  obtain ⟨i0, hi0, hz0, hz1, hz2⟩ := info_parts Try.info5
  have hl := h.1
  cases ao with
  | none =>
    obtain ⟨rfl, rfl⟩ := h.2.2.2.1 rfl
    obtain rfl : xs = [] := List.length_eq_zero_iff.1 hl
    exact ⟨none, 0, w, run_append_owned_none (P := Try.prog) w 0 35 ty 5 i0 1 Try.underlying35 hi0 _ 0 _ (World.ownsRow_nil _ _ _ _), World.ownsRow_nil _ _ _ _, Below.refl _ _⟩
  | some a =>
    obtain ⟨v', w', h1, h2, h3, h4, h5⟩ := run_append_own_at (P := Try.prog) w w.heap.size 35 ty 5 i0 _ 1 1 Try.underlying35 hi0 hz0 hz1 hz2 rfl (by omega) (.slice none 0 0) 0 [] (World.ownsRow_nil _ _ _ _) a n cap (xs.map by8) (by simp [hl]) (fun j u hj => h.olds a rfl j u hj) (by8_one xs) (by unfold maxLen; omega) (by omega) (Nat.le_refl _)
    rw [Nat.zero_add, List.nil_append] at h2
    have hbl : Below w.heap.size w w' := ⟨h3.os, h3.tape, h3.output, h3.size, fun k hk => h3.block k hk (by simp [Value.ownBlock])⟩
    rcases h2.2 with ⟨rfl, h0⟩ | ⟨g, c, cur, rfl, _⟩
    · subst h0
      exact ⟨none, 0, w', h1, h2, hbl⟩
    · exact ⟨_, c, w', h1, h2, hbl⟩
theorem own_rowv {w : World} {B n c : Nat} {vo : Option Addr} {xs : List UInt8} (h : w.ownsRow B 5 1 (.slice vo n c) n (xs.map by8)) : Row w vo n c xs := by
  have hl : xs.length = n := by simpa using h.1
  rcases h.2 with ⟨h0, h1⟩ | ⟨g', c', cur, h0, _, _, h1, h2, _⟩
  · simp only [Value.slice.injEq] at h0
    obtain ⟨rfl, _, rfl⟩ := h0
    subst h1
    obtain rfl : xs = [] := List.length_eq_zero_iff.1 hl
    exact ⟨rfl, Nat.le_refl _, by unfold maxLen; omega, fun _ => ⟨rfl, rfl⟩, fun a ha => (by cases ha)⟩
  · simp only [Value.slice.injEq] at h0
    obtain ⟨rfl, _, rfl⟩ := h0
    refine ⟨hl, h1, h2, fun e => (by cases e), fun a ha i hi => ?_⟩
    cases ha
    rw [Addr.add_lit, Nat.zero_add, h.cellAt i (by omega)]
    simp [by8, List.getElem?_eq_getElem (show i < xs.length by omega)]
theorem lrow_append {w : World} {lv : Value} {L : List Mx} (h : w.ownsRow 0 49 3 lv L.length (flatM L)) (hm : L.length ≤ 80) (x : Mx) (b : Nat) (hx : ∀ i u, (cellsM x)[i]? = some u → w.cell? ⟨b, i, none⟩ = some u) (ty : TypeId) :
    ∃ v' w', (Builtin.append_ #[29, 29] ty #[lv, .slice (some ⟨b, 0, none⟩) 1 1]).run Try.prog w = .ok v' w' ∧ w'.ownsRow 0 49 3 v' (L ++ [x]).length (flatM (L ++ [x])) ∧ w.grownBy w' lv.ownBlock ∧ (∀ k, v'.ownBlock = some k → lv.ownBlock = some k ∨ k = w.heap.size) := by
  obtain ⟨i0, hi0, hz0, hz1, hz2⟩ := info_parts info49z
  obtain ⟨v', w', h1, h2, h3, h4, h5⟩ := run_append_own_at (P := Try.prog) w 0 29 ty 49 i0 _ 3 40 und29 hi0 hz0 hz1 hz2 rfl (by omega) lv L.length (flatM L) h ⟨b, 0, none⟩ 1 1 (cellsM x) (by simp [cellsM]) (fun j u hj => by rw [Addr.add_lit, Nat.zero_add]; exact hx j u hj) (fun u hu => flatM_one (ls := [x]) (by simpa [flatM] using hu)) (by unfold maxLen; omega) (by omega) (Nat.zero_le _)
  refine ⟨v', w', h1, ?_, h3, fun k hk => h5.elim (fun e => .inl (by rw [← e]; exact hk)) (fun e => by rw [e] at hk; cases hk; exact .inr rfl)⟩
  rw [flatM_app, List.length_append]
  simpa [flatM] using h2
theorem brow_append {w : World} {bv : Value} {A : List Pa} (h : w.ownsRow 0 3 1 bv A.length (turnsOf A)) (hm : A.length ≤ 80) (a : Pa) (b : Nat) (hx : w.cell? ⟨b, 0, none⟩ = some (.int .i64 (a.ts.length : Nat))) (ty : TypeId) :
    ∃ v' w', (Builtin.append_ #[30, 30] ty #[bv, .slice (some ⟨b, 0, none⟩) 1 1]).run Try.prog w = .ok v' w' ∧ w'.ownsRow 0 3 1 v' (A ++ [a]).length (turnsOf (A ++ [a])) ∧ w.grownBy w' bv.ownBlock ∧ (∀ k, v'.ownBlock = some k → bv.ownBlock = some k ∨ k = w.heap.size) := by
  obtain ⟨i0, hi0, hz0, hz1, hz2⟩ := info_parts info3
  obtain ⟨v', w', h1, h2, h3, h4, h5⟩ := run_append_own_at (P := Try.prog) w 0 30 ty 3 i0 _ 1 8 und30 hi0 hz0 hz1 hz2 rfl (by omega) bv A.length (turnsOf A) h ⟨b, 0, none⟩ 1 1 [.int .i64 (a.ts.length : Nat)] rfl (fun j u hj => by
    have hj0 : j = 0 := by have := (List.getElem?_eq_some_iff.1 hj).1; simp at this; omega
    subst hj0
    simp at hj
    subst hj
    rw [Addr.add_lit]; exact hx) (by simp [Value.oneCell']) (by unfold maxLen; omega) (by omega) (Nat.zero_le _)
  refine ⟨v', w', h1, ?_, h3, fun k hk => h5.elim (fun e => .inl (by rw [← e]; exact hk)) (fun e => by rw [e] at hk; cases hk; exact .inr rfl)⟩
  unfold turnsOf at *
  rw [List.map_append, List.length_append]
  exact h2
theorem slice_shape {w : World} {B e s n : Nat} {v : Value} {xs : List Value} (h : w.ownsRow B e s v n xs) : ∃ a c, v = .slice a n c := by
  rcases h.2 with ⟨rfl, h0⟩ | ⟨g, cap, cur, rfl, _⟩
  · exact ⟨none, 0, by rw [h0]⟩
  · exact ⟨_, cap, rfl⟩
theorem mcell_L {N : Nat} {lv bv v : Value} {D : Nat → Bool} {lost : Nat} (j : Nat) (hj : j < 260) : (if j = 1 then v else mcell N lv bv D lost j) = mcell N v bv D lost j := by
  unfold mcell
  by_cases h0 : j = 0
  · rw [if_neg (by omega), if_pos h0, if_pos h0]
  · by_cases h1 : j = 1
    · rw [if_pos h1, if_neg h0, if_pos h1]
    · rw [if_neg h1, if_neg h0, if_neg h0, if_neg h1, if_neg h1]
theorem mcell_B {N : Nat} {lv bv v : Value} {D : Nat → Bool} {lost : Nat} (j : Nat) (hj : j < 260) : (if j = 2 then v else mcell N lv bv D lost j) = mcell N lv v D lost j := by
  unfold mcell
  by_cases h0 : j = 0
  · rw [if_neg (by omega), if_pos h0, if_pos h0]
  · by_cases h1 : j = 1
    · rw [if_neg (by omega), if_neg h0, if_pos h1, if_neg h0, if_pos h1]
    · by_cases h2 : j = 2
      · rw [if_pos h2, if_neg h0, if_neg h1, if_pos h2]
      · rw [if_neg h2, if_neg h0, if_neg h0, if_neg h1, if_neg h1, if_neg h2, if_neg h2]

section
variable {w : World} {p N : Nat} {lv bv : Value} {D : Nat → Bool} {lost : Nat} {L : List Mx} {A : List Pa}
/-- One more packet in the document's list. -/
theorem MIs.more {w8 : World} {lv' bv' : Value} {x : Mx} {a : Pa} (h : MIs w p N lv bv D lost L A) (hm : L.length < 80) (hobj : w8.rowIs p 34 260 (mcell N lv' bv' D lost)) (hL : w8.ownsRow 0 49 3 lv' (L ++ [x]).length (flatM (L ++ [x]))) (hB : w8.ownsRow 0 3 1 bv' (A ++ [a]).length (turnsOf (A ++ [a])))
    (hkeep : ∀ y ∈ L, ∀ b, y.v.ownBlock = some b → w8.heap[b]? = w.heap[b]?) (hx : MPk w8 x a) (hl' : ∀ b, lv'.ownBlock = some b → lv.ownBlock = some b ∨ w.heap.size ≤ b) (hb' : ∀ b, bv'.ownBlock = some b → bv.ownBlock = some b ∨ w.heap.size ≤ b)
    (hlb : ∀ b, lv'.ownBlock = some b → bv'.ownBlock ≠ some b) (hxn : ∀ b, x.v.ownBlock = some b → w.heap.size ≤ b ∧ lv'.ownBlock ≠ some b ∧ bv'.ownBlock ≠ some b) (hfr : (0 ≤ a.f ∧ a.f < N) ∧ (0 ≤ a.t ∧ a.t < N)) :
    MIs w8 p N lv' bv' D lost (L ++ [x]) (A ++ [a]) := by
  have hpl := h.obj.lt
  have hold : ∀ y ∈ L, ∀ b, y.v.ownBlock = some b → b < w.heap.size := fun y hy b hb => by
    obtain ⟨d, _, hd⟩ := h.get hy
    exact (hd.own.lt b hb).2
  refine { h with
    obj := hobj
    lrow := hL
    brow := hB
    len := by rw [List.length_append, List.length_append, h.len]; rfl
    pk := ?_
    lp := fun e => (hl' p e).elim h.lp (fun hle => by omega)
    bp := fun e => (hb' p e).elim h.bp (fun hle => by omega)
    lb := hlb
    xp := ?_
    xx := ?_
    most := by rw [List.length_append, List.length_singleton]; omega
    frm := fun c hc => (List.mem_append.1 hc).elim (h.frm c) (fun hc => by rw [List.mem_singleton.1 hc]; exact hfr) }
  · intro j y d hy hd
    by_cases hj : j < L.length
    · rw [List.getElem?_append_left hj] at hy
      rw [List.getElem?_append_left (by rw [h.len]; exact hj)] at hd
      exact (h.pk j y d hy hd).of (fun b hb => hkeep y (List.mem_of_getElem? hy) b hb)
    · have hjl : j < (L ++ [x]).length := (List.getElem?_eq_some_iff.1 hy).1
      rw [List.length_append, List.length_singleton] at hjl
      obtain rfl : j = L.length := by omega
      rw [List.getElem?_append_right (Nat.le_refl _)] at hy
      rw [List.getElem?_append_right (by rw [h.len]; exact Nat.le_refl _), h.len] at hd
      simp at hy hd
      subst hy hd
      exact hx
  · intro y hy b hb
    rcases List.mem_append.1 hy with hy | hy
    · have hbl := hold y hy b hb
      exact ⟨(h.xp y hy b hb).1, fun e => (hl' b e).elim (h.xp y hy b hb).2.1 (fun hle => by omega), fun e => (hb' b e).elim (h.xp y hy b hb).2.2 (fun hle => by omega)⟩
    · rw [List.mem_singleton.1 hy] at hb
      exact ⟨by have := (hxn b hb).1; omega, (hxn b hb).2⟩
  · intro i j y z hy hz hij b hb hb2
    have hil : i < (L ++ [x]).length := (List.getElem?_eq_some_iff.1 hy).1
    have hjl : j < (L ++ [x]).length := (List.getElem?_eq_some_iff.1 hz).1
    rw [List.length_append, List.length_singleton] at hil hjl
    by_cases hi : i < L.length
    · rw [List.getElem?_append_left hi] at hy
      by_cases hj : j < L.length
      · rw [List.getElem?_append_left hj] at hz
        exact h.xx i j y z hy hz hij b hb hb2
      · obtain rfl : j = L.length := by omega
        rw [List.getElem?_append_right (Nat.le_refl _)] at hz
        simp at hz
        subst hz
        have := hold y (List.mem_of_getElem? hy) b hb
        have := (hxn b hb2).1
        omega
    · obtain rfl : i = L.length := by omega
      rw [List.getElem?_append_right (Nat.le_refl _)] at hy
      simp at hy
      subst hy
      have hj : j < L.length := by omega
      rw [List.getElem?_append_left hj] at hz
      have := hold z (List.mem_of_getElem? hz) b hb2
      have := (hxn b hb).1
      omega
theorem refput_arg (h : MIs w p N lv bv D lost L A) (f t k : Int) (v : Value) (hn : ¬ ((0 ≤ f ∧ f < N) ∧ (0 ≤ t ∧ t < N))) :
    Calls Try.prog 51 #[.pointer (some ⟨p, 0, none⟩), .agg #[.int .i64 f, .int .i64 t, v], .int .i64 k] w fun e w' => e = .returned (.int .i64 1) ∧ Below w.heap.size w w' := by
  have nf := refNode_any (h.up (bl1 w (.cells #[.int .i64 f, .int .i64 t, v] 49))) f
  have nt := refNode_any (h.up (bl1 w (.cells #[.int .i64 f, .int .i64 t, v] 49))) t
  clear h
  by_cases h1 : 0 ≤ f ∧ f < N
  · have e1 : isNode N f = true := by unfold isNode; simpa using h1
    have e2 : isNode N t = false := by
      have : ¬ (0 ≤ t ∧ t < (N : Int)) := fun h2 => hn ⟨h1, h2⟩
      unfold isNode; simpa using this
    rw [e1] at nf
    rw [e2] at nt
    clear e1 e2 h1 hn
    go_enter Try.func51, Try.ntmps51
    go_wp2_with fail
    refine nf.mono ?_
    rintro e w1 ⟨rfl, rfl⟩
    go_wp2_with fail
    refine nt.mono ?_
    rintro e w1 ⟨rfl, rfl⟩
    go_wp2
    go_ret
    exact ⟨rfl, bl1 _ _⟩
  · have e1 : isNode N f = false := by unfold isNode; simpa using h1
    rw [e1] at nf
    clear e1 h1 hn
    go_enter Try.func51, Try.ntmps51
    go_wp2_with fail
    refine nf.mono ?_
    rintro e w1 ⟨rfl, rfl⟩
    go_wp2
    go_ret
    exact ⟨rfl, bl1 _ _⟩

set_option maxRecDepth 10000 in
set_option maxHeartbeats 2000000 in
theorem refput_is (h : MIs w p N lv bv D lost L A) (f t : Nat) (hf : f < N) (ht : t < N) (ao : Option Addr) (n cap : Nat) (a : Pa) (haf : a.f = f) (hat : a.t = t) (hx : Row w ao n cap a.told) (hn : n ≤ 140737488351232) (hk2 : a.ts.length ≤ 2) (hA : L.length < 80) :
    Calls Try.prog 51 #[.pointer (some ⟨p, 0, none⟩), .agg #[.int .i64 (f : Nat), .int .i64 (t : Nat), .slice ao n cap], .int .i64 (a.ts.length : Nat)] w fun e w' => e = .returned (.int .i64 0) ∧ ∃ lv' bv' L', MIs w' p N lv' bv' D lost L' (A ++ [a]) ∧ Goes (Fm p lv bv L) w (Fm p lv' bv' L') w' := by
  obtain ⟨o, ho⟩ : ∃ o, o = Obj.cells #[.int .i64 (f : Nat), .int .i64 (t : Nat), .slice ao n cap] 49 := ⟨_, rfl⟩
  have h1 := h.up (bl1 w o)
  have nf := refNode_any h1 (f : Int)
  have nt := refNode_any h1 (t : Int)
  rw [show isNode N (f : Int) = true by unfold isNode; simp; omega] at nf
  rw [show isNode N (t : Int) = true by unfold isNode; simp; omega] at nt
  obtain ⟨la, lc, hlv, hlc1, hlc2⟩ := lrow_shape h.lrow
  have c1 := h1.c1
  have c2 := h1.c2
  have HM : Hid (MIs w p N lv bv D lost L A) := h
  have HXL : Hid (a.xs.length = n) := by show _ = _; rw [← Pa.told_len]; exact hx.1
  have hpl : p < w.heap.size := h.obj.lt
  have hb01 := bl1 w o
  obtain ⟨vo, vc, w2, hrun1, hown1, hb2⟩ := append_any (hx.below hb01 (Nat.le_refl _)) hn 35
  have hs1 : (w.alloc o).heap.size = w.heap.size + 1 := by simp
  have hs2 := hb2.size
  have hbw2 : Below w.heap.size w w2 := bl_step hb01 hb2
  have q0 : w2.cell? ⟨w.heap.size, 0, none⟩ = some (.int .i64 (f : Nat)) := by
    rw [hb2.cell (show w.heap.size < _ by omega), ho]; exact cell_box _ _ _ _ _ rfl
  have q1 : w2.cell? ⟨w.heap.size, 1, none⟩ = some (.int .i64 (t : Nat)) := by
    rw [hb2.cell (show w.heap.size < _ by omega), ho]; exact cell_box _ _ _ _ _ rfl
  have h2 := h.up hbw2
  have r1 := h2.c1
  obtain ⟨x, hxx⟩ : ∃ x : Mx, x = ⟨f, t, vo, n, vc⟩ := ⟨_, rfl⟩
  obtain ⟨o3, ho3⟩ : ∃ o3, o3 = Obj.cells #[.int .i64 (f : Nat), .int .i64 (t : Nat), .slice vo n vc] 49 := ⟨_, rfl⟩
  have hb3 : Below w.heap.size w (w2.drew.alloc o3) := hbw2.drew.alloc hbw2.size o3
  have h3 := h.up hb3
  obtain ⟨lv', w4, hrun2, hL4, hg4, hat4⟩ := lrow_append h3.lrow (by omega) x w2.heap.size (fun i u hi => by
    rw [ho3]
    refine cell_box w2.drew _ 49 i u ?_
    rw [hxx] at hi
    simpa [cellsM] using hi) 29
  have hs3 : (w2.drew.alloc o3).heap.size = w2.heap.size + 1 := by simp
  have hs4 := hg4.size
  have hp4 : w4.heap[p]? = (w2.drew.alloc o3).heap[p]? := hg4.block p (by omega) (fun e => h.lp e.symm)
  obtain ⟨la', lc', hlv'⟩ := slice_shape hL4
  obtain ⟨ln', hln'⟩ : ∃ ln', (L ++ [x]).length = ln' := ⟨_, rfl⟩
  obtain ⟨w5, hw5⟩ : ∃ w5, w5 = w4.setCell ⟨p, 1, none⟩ lv' := ⟨_, rfl⟩
  have hs5 : w5.heap.size = w4.heap.size := by rw [hw5]; simp [World.setCell]
  have hobj5 : w5.rowIs p 34 260 (mcell N lv' bv D lost) := by
    rw [hw5]
    exact ((h3.obj.of_block hp4).set 1 lv').congr (fun i hi => mcell_L i hi)
  have hbk5 : ∀ b, b ≠ p → b < w.heap.size → lv.ownBlock ≠ some b → w5.heap[b]? = w.heap[b]? := fun b h1 h2 h3' => by
    rw [hw5, set_block_other h1, hg4.block b (by omega) (fun e => h3' e.symm)]
    exact hb3.block b h2
  have hB5 : w5.ownsRow 0 3 1 bv A.length (turnsOf A) := row_block h.brow (fun b hb => hbk5 b (fun e => h.bp (by rw [hb, e])) ((h.brow.lt b hb).2) (fun e => h.lb b e hb))
  have r2 : w5.cell? ⟨p, 2, none⟩ = some bv := hobj5.cell (i := 2) (by omega)
  obtain ⟨o6, ho6⟩ : ∃ o6, o6 = Obj.cells #[.int .i64 (a.ts.length : Nat)] 3 := ⟨_, rfl⟩
  obtain ⟨bv', w7, hrun3, hB7, hg7, hat7⟩ := brow_append (hB5.alloc o6) (by rw [h.len]; omega) a w5.heap.size (by rw [ho6]; exact cell_box _ _ _ _ _ rfl) 30
  have hs6 : (w5.alloc o6).heap.size = w5.heap.size + 1 := by simp
  have hs7 := hg7.size
  obtain ⟨ba', bc', hbv'⟩ := slice_shape hB7
  obtain ⟨bn', hbn'⟩ : ∃ bn', (A ++ [a]).length = bn' := ⟨_, rfl⟩
  obtain ⟨w8, hw8⟩ : ∃ w8, w8 = w7.setCell ⟨p, 2, none⟩ bv' := ⟨_, rfl⟩
  have hp7 : w7.heap[p]? = w5.heap[p]? := (hg7.block p (by omega) (fun e => h.bp e.symm)).trans (Below.heap_alloc w5 o6 p (by omega))
  have hobj8 : w8.rowIs p 34 260 (mcell N lv' bv' D lost) := by
    rw [hw8]
    exact ((hobj5.of_block hp7).set 2 bv').congr (fun i hi => mcell_B i hi)
  have hlp' : lv'.ownBlock ≠ some p := fun e => (hat4 p e).elim h.lp (fun e => by omega)
  have hbp' : bv'.ownBlock ≠ some p := fun e => (hat7 p e).elim h.bp (fun e => by omega)
  have hlb1 : ∀ b, lv'.ownBlock = some b → bv.ownBlock ≠ some b := fun b hb e => (hat4 b hb).elim (fun e1 => h.lb b e1 e) (fun e1 => by have := (h.brow.lt b e).2; omega)
  have hll : ∀ b, lv'.ownBlock = some b → b < w4.heap.size := fun b hb => (hL4.lt b hb).2
  have hL8 : w8.ownsRow 0 49 3 lv' (L ++ [x]).length (flatM (L ++ [x])) := row_block hL4 (fun b hb => by
    have hbp : b ≠ p := fun e => hlp' (by rw [hb, e])
    have := hll b hb
    rw [hw8, set_block_other hbp, hg7.block b (by omega) (fun e => hlb1 b hb e.symm), Below.heap_alloc w5 o6 b (by omega), hw5, set_block_other hbp])
  have hB8 : w8.ownsRow 0 3 1 bv' (A ++ [a]).length (turnsOf (A ++ [a])) := row_block hB7 (fun b hb => by rw [hw8]; exact set_block_other (fun e => hbp' (by rw [hb, e])))
  have hbk8 : ∀ b, b ≠ p → b < w.heap.size → lv.ownBlock ≠ some b → bv.ownBlock ≠ some b → w8.heap[b]? = w.heap[b]? := fun b h1 h2 h3' h4' => by
    rw [hw8, set_block_other h1, hg7.block b (by omega) (fun e => h4' e.symm), Below.heap_alloc w5 o6 b (by omega)]
    exact hbk5 b h1 h2 h3'
  have hvb : ∀ b, (Value.slice vo n vc).ownBlock = some b → w.heap.size + 1 ≤ b ∧ b < w2.heap.size := fun b hb => by
    have := hown1.lt b hb
    omega
  have hxP : MPk w8 x a := by
    rw [hxx]
    refine { f := haf.symm, t := hat.symm, n := HXL.out.symm, own := ?_, small := by rw [HXL.out]; exact hn, k2 := hk2 }
    refine row_block (owns_mono hown1 (Nat.zero_le _)) (fun b hb => ?_)
    have hbb := hvb b hb
    rw [hw8, set_block_other (by omega), hg7.block b (by omega) (fun e => by have := (h.brow.lt b e.symm).2; omega), Below.heap_alloc w5 o6 b (by omega), hw5, set_block_other (by omega), hg4.block b (by omega) (fun e => by have := (h.lrow.lt b e.symm).2; omega)]
    exact Below.heap_alloc w2.drew o3 b hbb.2
  have hxv : x.v = .slice vo n vc := by rw [hxx]; rfl
  have HE : Hid (∃ lv' bv' L', MIs w8 p N lv' bv' D lost L' (A ++ [a]) ∧ Goes (Fm p lv bv L) w (Fm p lv' bv' L') w8) := by
    refine ⟨lv', bv', L ++ [x], h.more hA hobj8 hL8 hB8 (fun y hy b hb => ?_) hxP (fun b hb => (hat4 b hb).imp id (fun e => by omega)) (fun b hb => (hat7 b hb).imp id (fun e => by omega)) (fun b hb e => ?_) (fun b hb => ?_) (by rw [haf, hat]; omega), ?_, ?_⟩
    · obtain ⟨d, _, hd⟩ := h.get hy
      exact hbk8 b (h.xp y hy b hb).1 (hd.own.lt b hb).2 (h.xp y hy b hb).2.1 (h.xp y hy b hb).2.2
    · have := hll b hb
      rcases hat7 b e with e1 | e1
      · exact hlb1 b hb e1
      · omega
    · rw [hxv] at hb
      have hbb := hvb b hb
      refine ⟨by omega, fun e => (hat4 b e).elim (fun e1 => by have := (h.lrow.lt b e1).2; omega) (fun e1 => by omega), fun e => (hat7 b e).elim (fun e1 => by have := (h.brow.lt b e1).2; omega) (fun e1 => by omega)⟩
    · refine ⟨?_, ?_, ?_, by rw [hw8]; simp [World.setCell]; omega, fun k hk hn => hbk8 k (fun e => hn (.inl e)) hk (fun e => hn (.inr (.inl e))) (fun e => hn (.inr (.inr (.inl e))))⟩
      · rw [hw8]; show w7.os = _; rw [hg7.os]; show w5.os = _; rw [hw5]; show w4.os = _; rw [hg4.os]; exact hb3.os
      · rw [hw8]; show w7.tape = _; rw [hg7.tape]; show w5.tape = _; rw [hw5]; show w4.tape = _; rw [hg4.tape]; exact hb3.tape
      · rw [hw8]; show w7.output = _; rw [hg7.output]; show w5.output = _; rw [hw5]; show w4.output = _; rw [hg4.output]; exact hb3.output
    · rintro b (rfl | hb | hb | ⟨y, hy, hb⟩)
      · exact .inl (.inl rfl)
      · exact (hat4 b hb).elim (fun e => .inl (.inr (.inl e))) (fun e => .inr (by omega))
      · exact (hat7 b hb).elim (fun e => .inl (.inr (.inr (.inl e)))) (fun e => .inr (by omega))
      · rcases List.mem_append.1 hy with hy | hy
        · exact .inl (.inr (.inr (.inr ⟨y, hy, hb⟩)))
        · rw [List.mem_singleton.1 hy, hxv] at hb
          exact .inr (by have := (hvb b hb).1; omega)
  have hp45 : w4.cell? ⟨p, 1, none⟩ = some lv ∧ w4.frozen? ⟨p, 1, none⟩ = false := ⟨(cell_block hp4).trans h3.c1, (frozen_block hp4).trans (h3.free 1)⟩
  have hp78 : w7.cell? ⟨p, 2, none⟩ = some bv ∧ w7.frozen? ⟨p, 2, none⟩ = false := ⟨(cell_block hp7).trans r2, (frozen_block hp7).trans (hobj5.frozen 2)⟩
  have hbx4 : w4.heap[w.heap.size]? = (w2.drew.alloc o3).heap[w.heap.size]? := hg4.block _ (by omega) (fun e => by have := (h.lrow.lt _ e.symm).2; omega)
  have hbx3 : (w2.drew.alloc o3).heap[w.heap.size]? = w2.heap[w.heap.size]? := Below.heap_alloc w2.drew o3 _ (show w.heap.size < w2.heap.size by omega)
  have S2 : w2.cell? ⟨p, 1, none⟩ = some lv ∧ w2.cell? ⟨w.heap.size, 0, none⟩ = some (.int .i64 (f : Nat)) ∧ w2.cell? ⟨w.heap.size, 1, none⟩ = some (.int .i64 (t : Nat)) := ⟨r1, q0, q1⟩
  have S3 : (w2.drew.alloc o3).cell? ⟨p, 1, none⟩ = some lv ∧ (w2.drew.alloc o3).cell? ⟨w.heap.size, 0, none⟩ = some (.int .i64 (f : Nat)) ∧ (w2.drew.alloc o3).cell? ⟨w.heap.size, 1, none⟩ = some (.int .i64 (t : Nat)) := ⟨h3.c1, (cell_block hbx3).trans q0, (cell_block hbx3).trans q1⟩
  have S4 : w4.cell? ⟨p, 1, none⟩ = some lv ∧ w4.cell? ⟨w.heap.size, 0, none⟩ = some (.int .i64 (f : Nat)) ∧ w4.cell? ⟨w.heap.size, 1, none⟩ = some (.int .i64 (t : Nat)) := ⟨hp45.1, (cell_block hbx4).trans S3.2.1, (cell_block hbx4).trans S3.2.2⟩
  rw [hln'] at hlv'
  rw [hbn'] at hbv'
  subst hlv' hbv'
  have HR1 : Hid ((Builtin.append_ #[35, 35] 35 #[.slice none 0 0, .slice ao n cap]).run Try.prog (w.alloc (.cells #[.int .i64 (f : Nat), .int .i64 (t : Nat), .slice ao n cap] 49)) = .ok (.slice vo n vc) w2) := by rw [← ho]; exact hrun1
  have HR2 : Hid ((Builtin.append_ #[29, 29] 29 #[lv, .slice (some ⟨w2.heap.size, 0, none⟩) 1 1]).run Try.prog (w2.drew.alloc o3) = .ok (.slice la' ln' lc') w4) := hrun2
  have HR3 : Hid ((Builtin.append_ #[30, 30] 30 #[bv, .slice (some ⟨w5.heap.size, 0, none⟩) 1 1]).run Try.prog (w5.alloc o6) = .ok (.slice ba' bn' bc') w7) := hrun3
  have HW5 : Hid (w4.setCell ⟨p, 1, none⟩ (.slice la' ln' lc') = w5) := hw5.symm
  have HW8 : Hid (w7.setCell ⟨p, 2, none⟩ (.slice ba' bn' bc') = w8) := hw8.symm
  have hLl : decide ((4096 : Int) ≤ (L.length : Int)) = false := by rw [decide_eq_false_iff_not]; omega
  have hLs : L.length ≤ 9223372036854775807 := by omega
  rw [ho] at nf nt c1 c2
  have cb0 : (w.alloc (.cells #[.int .i64 (f : Nat), .int .i64 (t : Nat), .slice ao n cap] 49)).cell? ⟨w.heap.size, 2, none⟩ = some (.slice ao n cap) := cell_box _ _ _ _ _ rfl
  rw [ho3] at S3 HR2
  rw [ho6] at HR3
  rw [hlv] at c1 S2 S3 S4 HR2 hp45
  clear h h1 h2 h3 hx hrun1 hrun2 hrun3 hown1 hL4 hg4 hat4 hB5 hB7 hg7 hat7 hL8 hB8 hbk5 hbk8 hvb hxP hobj5 hobj8 hlp' hbp' hlb1 hll hp4 hp7 hbx4 hbx3 hw5 hw8 hb01 hb2 hbw2 hb3 hxx ho ho3 ho6 hxv HXL hln' hbn' q0 q1 r1 hlv HM
  clear hA hs1 hs2 hs3 hs4 hs5 hs6 hs7
  generalize L.length = nL at *
  generalize a.ts.length = ka at *
  go_enter Try.func51, Try.ntmps51
  go_wp2_with fail
  refine nf.mono ?_
  rintro e w1 ⟨rfl, rfl⟩
  go_wp2_with fail
  refine nt.mono ?_
  rintro e w1 ⟨rfl, rfl⟩
  go_wp2_with (first | (at_builtin; refine wpList_append_run' rfl _ _ 35 35 rfl _ _ rfl rfl HR1.out ?_) | fail)
  refine wp_region_noPanic ?_
  refine beginE (fun wx => wx.cell? ⟨p, 1, none⟩ = some (.slice la nL lc) ∧ wx.cell? ⟨w.heap.size, 0, none⟩ = some (.int .i64 (f : Nat)) ∧ wx.cell? ⟨w.heap.size, 1, none⟩ = some (.int .i64 (t : Nat))) 15 (by kernel_rfl) S2 (fun hHeld => ?_)
  refine takeE 0 (v := ?_) rfl (by kernel_rfl) (by kernel_rfl) (by kernel_rfl) (by kernel_rfl) (by kernel_rfl) (fun _ _ _ h => h) (Or.inl ⟨by rfl, by intro wx hSw; (try dsimp only at hSw); obtain ⟨hSw1, hSw2, hSw3⟩ := hSw; go_simp; try with_reducible rfl⟩) (by assumption) ?_
  (try simp only [Act.put, List.setIfInBounds_toArray, List.set_cons_zero, List.set_cons_succ])
  refine takeE 1 (v := ?_) rfl (by kernel_rfl) (by kernel_rfl) (by kernel_rfl) (by kernel_rfl) (by kernel_rfl) (fun _ _ _ h => h) (Or.inl ⟨by rfl, by intro wx hSw; (try dsimp only at hSw); obtain ⟨hSw1, hSw2, hSw3⟩ := hSw; go_simp; try with_reducible rfl⟩) (by assumption) ?_
  (try simp only [Act.put, List.setIfInBounds_toArray, List.set_cons_zero, List.set_cons_succ])
  refine takeE 2 (v := ?_) rfl (by kernel_rfl) (by kernel_rfl) (by kernel_rfl) (by kernel_rfl) (by kernel_rfl) (fun _ _ _ h => h) (Or.inl ⟨by rfl, by intro wx hSw; (try dsimp only at hSw); obtain ⟨hSw1, hSw2, hSw3⟩ := hSw; go_simp; try with_reducible rfl⟩) (by assumption) ?_
  (try simp only [Act.put, List.setIfInBounds_toArray, List.set_cons_zero, List.set_cons_succ])
  refine takeE 3 (v := ?_) rfl (by kernel_rfl) (by kernel_rfl) (by kernel_rfl) (by kernel_rfl) (by kernel_rfl) (fun _ _ _ h => h) (Or.inl ⟨by rfl, by intro wx hSw; (try dsimp only at hSw); obtain ⟨hSw1, hSw2, hSw3⟩ := hSw; go_simp; try with_reducible rfl⟩) (by assumption) ?_
  (try simp only [Act.put, List.setIfInBounds_toArray, List.set_cons_zero, List.set_cons_succ])
  refine takeE 4 (v := ?_) rfl (by kernel_rfl) (by kernel_rfl) (by kernel_rfl) (by kernel_rfl) (by kernel_rfl) (fun _ _ _ h => h) (Or.inl ⟨by rfl, by intro wx hSw; (try dsimp only at hSw); obtain ⟨hSw1, hSw2, hSw3⟩ := hSw; go_simp; try with_reducible rfl⟩) (by assumption) ?_
  (try simp only [Act.put, List.setIfInBounds_toArray, List.set_cons_zero, List.set_cons_succ])
  refine takeE 5 (v := ?_) rfl (by kernel_rfl) (by kernel_rfl) (by kernel_rfl) (by kernel_rfl) (by kernel_rfl) (fun _ _ _ h => h) (Or.inl ⟨by rfl, by intro wx hSw; (try dsimp only at hSw); obtain ⟨hSw1, hSw2, hSw3⟩ := hSw; go_simp; try with_reducible rfl⟩) (by assumption) ?_
  (try simp only [Act.put, List.setIfInBounds_toArray, List.set_cons_zero, List.set_cons_succ])
  refine takeE 6 (v := ?_) rfl (by kernel_rfl) (by kernel_rfl) (by kernel_rfl) (by kernel_rfl) (by kernel_rfl) (fun _ _ _ h => h) (Or.inl ⟨by rfl, by intro wx hSw; (try dsimp only at hSw); obtain ⟨hSw1, hSw2, hSw3⟩ := hSw; go_simp; try with_reducible rfl⟩) (by assumption) ?_
  (try simp only [Act.put, List.setIfInBounds_toArray, List.set_cons_zero, List.set_cons_succ])
  refine takeE 7 (v := ?_) rfl (by kernel_rfl) (by kernel_rfl) (by kernel_rfl) (by kernel_rfl) (by kernel_rfl) (fun _ _ _ h => h) (Or.inl ⟨by rfl, by intro wx hSw; (try dsimp only at hSw); obtain ⟨hSw1, hSw2, hSw3⟩ := hSw; go_simp; try with_reducible rfl⟩) (by assumption) ?_
  (try simp only [Act.put, List.setIfInBounds_toArray, List.set_cons_zero, List.set_cons_succ])
  refine takeE 8 (v := ?_) rfl (by kernel_rfl) (by kernel_rfl) (by kernel_rfl) (by kernel_rfl) (by kernel_rfl) (fun _ _ _ h => h) (Or.inl ⟨by rfl, by intro wx hSw; (try dsimp only at hSw); obtain ⟨hSw1, hSw2, hSw3⟩ := hSw; go_simp; try with_reducible rfl⟩) (by assumption) ?_
  (try simp only [Act.put, List.setIfInBounds_toArray, List.set_cons_zero, List.set_cons_succ])
  refine takeE 9 (v := ?_) rfl (by kernel_rfl) (by kernel_rfl) (by kernel_rfl) (by kernel_rfl) (by kernel_rfl) (fun _ _ _ h => h) (Or.inl ⟨by rfl, by intro wx hSw; (try dsimp only at hSw); obtain ⟨hSw1, hSw2, hSw3⟩ := hSw; go_simp; try with_reducible rfl⟩) (by assumption) ?_
  (try simp only [Act.put, List.setIfInBounds_toArray, List.set_cons_zero, List.set_cons_succ])
  refine takeE 10 (v := ?_) rfl (by kernel_rfl) (by kernel_rfl) (by kernel_rfl) (by kernel_rfl) (by kernel_rfl) (fun _ _ _ h => h) (Or.inl ⟨by rfl, by intro wx hSw; (try dsimp only at hSw); obtain ⟨hSw1, hSw2, hSw3⟩ := hSw; go_simp; try with_reducible rfl⟩) (by assumption) ?_
  (try simp only [Act.put, List.setIfInBounds_toArray, List.set_cons_zero, List.set_cons_succ])
  refine upE 11 rfl (by kernel_rfl) (fun K hK => ?_)
  go_simp
  refine hK.out _ _ S3 (fun hHeld => ?_)
  clear hK K
  (try simp only [Act.put, List.setIfInBounds_toArray, List.set_cons_zero, List.set_cons_succ])
  refine upE 12 rfl (by kernel_rfl) (fun K hK => ?_)
  refine step_append_run rfl (.tmp 41) (.tmp 48) 29 rfl (.slice la nL lc) (.slice (some ⟨w2.heap.size, 0, none⟩) 1 1) (.slice la' ln' lc') w4 rfl rfl HR2.out ?_
  refine hK.out _ _ S4 (fun hHeld => ?_)
  clear hK K
  (try simp only [Act.put, List.setIfInBounds_toArray, List.set_cons_zero, List.set_cons_succ])
  obtain ⟨hp5, hp6⟩ := hp45
  refine pureE 13 (v := ?_) rfl (by kernel_rfl) (by kernel_rfl) (by kernel_rfl) (by kernel_rfl) (fun _ _ _ h => h) (Or.inl ⟨by rfl, by intro wx hSw; (try dsimp only at hSw); go_simp; try with_reducible rfl⟩) (by assumption) ?_
  (try simp only [Act.put, List.setIfInBounds_toArray, List.set_cons_zero, List.set_cons_succ])
  refine pureE 14 (v := ?_) rfl (by kernel_rfl) (by kernel_rfl) (by kernel_rfl) (by kernel_rfl) (fun _ _ _ h => h) (Or.inl ⟨by rfl, by intro wx hSw; (try dsimp only at hSw); go_simp; try with_reducible rfl⟩) (by assumption) ?_
  (try simp only [Act.put, List.setIfInBounds_toArray, List.set_cons_zero, List.set_cons_succ])
  refine lastE 15 rfl (by kernel_rfl) (by kernel_rfl) (fun K hK => ?_)
  go_simp
  refine hK.out _ _ ?_
  clear hK K
  (try simp only [Act.put, List.setIfInBounds_toArray, List.set_cons_zero, List.set_cons_succ])
  refine doneE (by kernel_rfl) ?_ _
  refine NoPanic.normal ?_
  rw [HW5.out]
  clear hp5 hp6 S2 S3 S4 HR2 HR1 HW5
  obtain ⟨hp9, hp10⟩ := hp78
  go_wp2_with (first | (at_builtin; refine wpList_append_run' rfl _ _ 30 30 rfl _ _ rfl rfl HR3.out ?_) | fail)
  rw [HW8.out]
  go_ret
  exact ⟨rfl, HE.out⟩
end
end Go.Proofs.Ytagabmhgcmnldaa
