/-
  A node has accepted a proposal (proposal.accept).
-/
import Derived.Test.YtlonbbepoamnmaaDoorMReads
namespace Go.Proofs.YtlonbbepoamnmaaDoor
open Go.RowKit
set_option linter.unusedVariables false

theorem cnt_pow : ∀ k : Fin 16, cntF 16 (2 ^ k.val) = 1 := by decide
theorem cnt_with {s k : Nat} (hk : k < 16) (h : s.testBit k = false) : cntF 16 (withN s (k : Int)) = cntF 16 s + 1 := by
  unfold withN onlyN
  rw [if_pos (by omega), Int.toNat_natCast, cntF_disj, cnt_pow ⟨k, hk⟩]
  rw [and_pow, h]; rfl
theorem state_append {w : World} {v : Value} {n : Nat} {L : List Sx} (h : w.ownsRow 1 45 4 v n (flat L)) (hm : n ≤ 1000) (h1 : 1 ≤ w.heap.size) (x : Sx) (b : Nat) (hx : ∀ j u, (cellsS x)[j]? = some u → w.cell? ⟨b, j, none⟩ = some u) :
    ∃ v' w', (Builtin.append_ #[36, 36] 36 #[v, .slice (some ⟨b, 0, none⟩) 1 1]).run Tryd.prog w = .ok v' w' ∧ w'.ownsRow 1 45 4 v' (n + 1) (flat (L ++ [x])) ∧ w.grownBy w' v.ownBlock ∧ (v'.ownBlock = v.ownBlock ∨ v'.ownBlock = some w.heap.size) := by
  obtain ⟨i0, hi0, hz0, hz1, hz2⟩ := info_parts infoS
  obtain ⟨v', w', a1, a2, a3, a4, a5⟩ := run_append_own_at (P := Tryd.prog) w 1 36 36 45 i0 _ 4 48 und22 hi0 hz0 hz1 hz2 rfl (by omega) v n (flat L) h ⟨b, 0, none⟩ 1 1 (cellsS x) (by simp [cellsS]) (fun j u hj => by rw [Addr.add_lit, Nat.zero_add]; exact hx j u hj) (fun u hu => flat_one (ls := [x]) (by simpa [flat] using hu)) (by unfold maxLen; omega) (by omega) h1
  refine ⟨v', w', a1, ?_, a3, a5⟩
  rw [flat_app]
  simpa [flat] using a2
theorem own_ne {w : World} {base e size n : Nat} {v : Value} {xs : List Value} (h : w.ownsRow base e size v n xs) : ∃ ao cap, v = .slice ao n cap := by
  rcases own_shape h with ⟨rfl, h0⟩ | ⟨g, cap, rfl, _⟩
  · exact ⟨none, 0, by rw [h0]⟩
  · exact ⟨_, _, rfl⟩

section
variable {w : World} {F Z : Nat → Prop} {q p : Nat} {M : Mm} {P : Pp}

/-- The memory behind it. -/
theorem Mb.more (h : Mb w F Z q M (some p)) (hM : M.own = some P) {i : Nat} (hi : i < 16) (hno : P.acc.testBit i = false) (d : Sd) {w1 w2 w3 w4 : World} {o1 o3 : Obj} {x : Sx} {ao : Option Addr} {cap : Nat} {ss : List Sx} {ao' : Option Addr} {cap' : Nat}
    (e1 : w1 = (w.alloc o1).setCell ⟨p, 3, none⟩ (.int .u16 (withN P.acc (i : Nat) : Nat))) (b2 : Below w1.heap.size w1 w2) (hx : Si (fun b => w1.heap.size ≤ b) w2 x d) (e3 : w3 = w2.alloc o3)
    (r1 : w.cell? ⟨p, 4, none⟩ = some (.slice ao P.sts.length cap)) (r3 : ∀ a, ao = some a → F a.block ∧ a.block ≠ p ∧ a.block ≠ q) (r4 : ss.length = P.sts.length) (r5 : ∀ (j : Nat) (x : Sx) (d : Sd), ss[j]? = some x → P.sts[j]? = some d → Si Z w x d)
    (hown : w4.ownsRow 1 45 4 (.slice ao' (P.sts.length + 1) cap') (P.sts.length + 1) (flat (ss ++ [x]))) (hgr : w3.grownBy w4 (Value.slice ao P.sts.length cap).ownBlock) (hat : (Value.slice ao' (P.sts.length + 1) cap').ownBlock = (Value.slice ao P.sts.length cap).ownBlock ∨ (Value.slice ao' (P.sts.length + 1) cap').ownBlock = some w3.heap.size) :
    ∃ F' Z', Sp w F Z (w4.setCell ⟨p, 4, none⟩ (.slice ao' (P.sts.length + 1) cap')) F' Z' ∧ Mb (w4.setCell ⟨p, 4, none⟩ (.slice ao' (P.sts.length + 1) cap')) F' Z' q { M with own := some (P.more (i : Nat) d) } (some p) := by
  obtain ⟨_, hpe, hp⟩ := h.ownSome hM
  cases hpe
  have hpl := h.lt p hp.fp
  have hql := h.lt q h.fq
  have s1 : w1.heap.size = w.heap.size + 1 := by rw [e1]; simp
  have s2 := b2.size
  have s3 : w3.heap.size = w2.heap.size + 1 := by rw [e3]; simp
  have s4 := hgr.size
  -- old blocks but p and the row's own are as they were
  have blk : ∀ b, b < w.heap.size → b ≠ p → (∀ a, ao = some a → b ≠ a.block) → w4.heap[b]? = w.heap[b]? := fun b hb hbp hba => by
    rw [hgr.block b (by omega) (fun e => by
      cases ao with
      | none => simp [Value.ownBlock] at e
      | some a => exact hba a rfl (by simpa [Value.ownBlock] using e)), e3, Below.heap_alloc _ _ _ (by omega), b2.block b (by omega), e1, heap_setCell_other _ _ _ _ hbp, Below.heap_alloc _ _ _ hb]
  have pblk : w4.heap[p]? = w1.heap[p]? := by
    rw [hgr.block p (by omega) (fun e => by
      cases ao with
      | none => simp [Value.ownBlock] at e
      | some a => exact (r3 a rfl).2.1 (by simpa [Value.ownBlock] using e.symm)), e3, Below.heap_alloc _ _ _ (by omega), b2.block p (by omega)]
  have pcell : ∀ j, j ≠ 3 → w4.cell? ⟨p, j, none⟩ = w.cell? ⟨p, j, none⟩ := fun j hj => by
    rw [cell_block pblk, e1, set_other hj, cell_block (Below.heap_alloc _ _ _ hpl)]
  have pcell3 : w4.cell? ⟨p, 3, none⟩ = some (.int .u16 (withN P.acc (i : Nat) : Nat)) := by
    rw [cell_block pblk, e1]
    exact set_cell ((cell_block (Below.heap_alloc _ _ _ hpl)).trans hp.c3)
  have pfr : ∀ j, w4.frozen? ⟨p, j, none⟩ = false := fun j => by
    rw [frozen_block pblk, e1, World.frozen?_setCell, frozen_block (Below.heap_alloc _ _ _ hpl)]; exact hp.fr j
  have newb : ∀ a, ao' = some a → (∃ a0, ao = some a0 ∧ a.block = a0.block) ∨ (a.block = w3.heap.size) := fun a ha => by
    subst ha
    rcases hat with e | e
    · cases ao with
      | none => simp [Value.ownBlock] at e
      | some a0 => exact .inl ⟨a0, rfl, by simpa [Value.ownBlock] using e⟩
    · exact .inr (by simpa [Value.ownBlock] using e)
  have znp : ∀ b, Z b → b ≠ p ∧ b ≠ q ∧ b < w.heap.size ∧ ∀ a, ao = some a → b ≠ a.block := fun b hb => ⟨fun e => h.zf b hb (e ▸ hp.fp), fun e => h.zf b hb (e ▸ h.fq), h.zl b hb, fun a ha e => h.zf b hb (e ▸ (r3 a ha).1)⟩
  have kpZ : Kp Z w (w4.setCell ⟨p, 4, none⟩ (.slice ao' (P.sts.length + 1) cap')) := fun ad v hz hc => by
    obtain ⟨z1, z2, z3, z4⟩ := znp _ hz
    rw [World.cell?_of_block (w := w) ((heap_setCell_other _ _ _ _ z1).trans (blk _ z3 z1 z4))]; exact hc
  have kpN : Kp (fun b => w1.heap.size ≤ b) w2 (w4.setCell ⟨p, 4, none⟩ (.slice ao' (P.sts.length + 1) cap')) := fun ad v hz hc => by
    have hl := World.block_lt_of_cell? w2 _ hc
    have hz' : w1.heap.size ≤ ad.block := hz
    have e : w4.heap[ad.block]? = w2.heap[ad.block]? := by
      rw [hgr.block _ (by omega) (fun e => by
        cases ao with
        | none => simp [Value.ownBlock] at e
        | some a =>
          have : a.block = ad.block := by simpa [Value.ownBlock] using e.symm
          have := h.lt _ (r3 a rfl).1
          omega), e3, Below.heap_alloc _ _ _ hl]
    rw [World.cell?_of_block (w := w2) ((heap_setCell_other _ _ _ _ (by show ad.block ≠ p; omega)).trans e)]; exact hc
  refine ⟨fun b => F b ∨ ∃ a, ao' = some a ∧ b = a.block, fun b => Z b ∨ (w.heap.size ≤ b ∧ b < w4.heap.size ∧ ∀ a, ao' = some a → b ≠ a.block), ⟨⟨?_, ?_, ?_, ?_, ?_⟩, ?_, fun b hb => .inl hb, ?_, ?_⟩, ?_⟩
  · rw [show (w4.setCell ⟨p, 4, none⟩ (.slice ao' (P.sts.length + 1) cap')).os = w4.os from rfl, hgr.os, e3]
    exact b2.os.trans (by rw [e1]; rfl)
  · rw [World.tape_setCell, hgr.tape, e3]
    exact b2.tape.trans (by rw [e1]; rfl)
  · rw [show (w4.setCell ⟨p, 4, none⟩ (.slice ao' (P.sts.length + 1) cap')).output = w4.output from rfl, hgr.output, e3]
    exact b2.output.trans (by rw [e1]; rfl)
  · rw [World.size_setCell]; omega
  · intro b hb hF
    rw [heap_setCell_other _ _ _ _ (by show b ≠ p; exact fun e => hF (e ▸ hp.fp))]
    exact blk b hb (fun e => hF (e ▸ hp.fp)) (fun a ha e => hF (e ▸ (r3 a ha).1))
  · rintro b (hb | ⟨a, ha, rfl⟩)
    · exact .inl hb
    · rcases newb a ha with ⟨a0, h0, e⟩ | e
      · rw [e]; exact .inl (r3 a0 h0).1
      · right; omega
  · rintro b (hb | hb)
    · exact .inl hb
    · exact .inr hb.1
  · rintro b (hb | hb)
    · rw [World.size_setCell]; have := h.zl b hb; omega
    · rw [World.size_setCell]; exact hb.2.1
  · have hqp : q ≠ p := fun e => hp.ne e.symm
    have qblk : (w4.setCell ⟨p, 4, none⟩ (.slice ao' (P.sts.length + 1) cap')).heap[q]? = w.heap[q]? := (heap_setCell_other _ _ _ _ hqp).trans (blk q hql hqp (fun a ha e => (r3 a ha).2.2 e.symm))
    refine { cell := fun k hk => ?_, fr := fun k => ?_, fq := .inl h.fq, lt := ?_, f0 := ?_, zf := ?_, zl := ?_, tab := ?_, n16 := h.n16, sn := h.sn, own := ?_ }
    · rw [cell_block qblk, h.cell k hk]
      rfl
    · rw [frozen_block qblk]; exact h.fr k
    · rintro b (hb | ⟨a, ha, rfl⟩)
      · rw [World.size_setCell]; have := h.lt b hb; omega
      · rw [World.size_setCell]
        subst ha
        exact (hown.lt _ (by simp [Value.ownBlock])).2
    · rintro b (hb | ⟨a, ha, rfl⟩)
      · exact h.f0 b hb
      · rcases newb a ha with ⟨a0, h0, e⟩ | e
        · rw [e]; exact h.f0 _ (r3 a0 h0).1
        · omega
    · rintro b (hb | hb) (hf | ⟨a, ha, e⟩)
      · exact h.zf b hb hf
      · rcases newb a ha with ⟨a0, h0, e0⟩ | e0
        · exact h.zf b hb (by rw [e, e0]; exact (r3 a0 h0).1)
        · have := h.zl b hb; omega
      · have := h.lt b hf; omega
      · exact hb.2.2 a ha e
    · rintro b (hb | hb)
      · rw [World.size_setCell]; have := h.zl b hb; omega
      · rw [World.size_setCell]; exact hb.2.1
    · refine h.tab.keep ?_
      have hp0 := h.f0 p hp.fp
      rw [heap_setCell_other _ _ _ _ (by show 0 ≠ p; omega)]
      exact blk 0 h.tab.lt (by omega) (fun a ha e => by have := h.f0 _ (r3 a ha).1; omega)
    · show Pb _ _ _ _ _ _
      have hw16 := withN_lt P.acc hp.a16 ((i : Nat) : Int)
      refine { ne := hp.ne, fp := .inl hp.fp, c0 := ?_, c1 := ?_, c2 := ?_, c3 := ?_, fr := fun k => ?_, s16 := hp.s16, a16 := hw16, len := ?_, row := ?_ }
      · rw [set_other (by omega), pcell 0 (by omega)]; exact hp.c0
      · rw [set_other (by omega), pcell 1 (by omega)]; exact hp.c1
      · rw [set_other (by omega), pcell 2 (by omega)]; exact hp.c2
      · rw [set_other (by omega)]; exact pcell3
      · rw [World.frozen?_setCell]; exact pfr k
      · show (P.sts ++ [d]).length ≤ cntF 16 (withN P.acc (i : Nat))
        rw [cnt_with hi hno, List.length_append]
        have := hp.len
        simp; omega
      · have hlen : (P.more ((i : Nat) : Int) d).sts.length = P.sts.length + 1 := by simp [Pp.more]
        refine ⟨ao', cap', ss ++ [x], ?_, ?_, fun a ha => ⟨.inr ⟨a, ha, rfl⟩, ?_⟩, ?_, ?_⟩
        · rw [hlen]
          exact set_cell ((pcell 4 (by omega)).trans r1)
        · rw [hlen]
          refine row_block hown (fun b hb => heap_setCell_other _ _ _ _ ?_)
          show b ≠ p
          cases hao : ao' with
          | none => rw [hao] at hb; simp [Value.ownBlock] at hb
          | some a =>
            rw [hao] at hb
            have hab : a.block = b := by simpa [Value.ownBlock] using hb
            rcases newb a hao with ⟨a0, h0, e⟩ | e
            · rw [← hab, e]; exact (r3 a0 h0).2.1
            · omega
        · rcases newb a ha with ⟨a0, h0, e⟩ | e
          · rw [e]; exact (r3 a0 h0).2
          · exact ⟨by omega, by omega⟩
        · rw [hlen, List.length_append, r4]; rfl
        · intro j y d' hy hd'
          have hd2 : (P.sts ++ [d])[j]? = some d' := hd'
          by_cases hj : j < ss.length
          · rw [List.getElem?_append_left hj] at hy
            rw [List.getElem?_append_left (by omega)] at hd2
            exact ((r5 j y d' hy hd2).keep kpZ).imp (fun b _ hb => .inl hb)
          · have hjl := (List.getElem?_eq_some_iff.1 hy).1
            rw [List.length_append] at hjl
            have : j = ss.length := by simp at hjl; omega
            subst this
            rw [List.getElem?_append_right (Nat.le_refl _), Nat.sub_self] at hy
            rw [r4, List.getElem?_append_right (Nat.le_refl _), Nat.sub_self] at hd2
            simp at hy hd2
            subst hy hd2
            refine (hx.imp (q := fun b => w1.heap.size ≤ b ∧ b < w2.heap.size) (fun b hb h1 => ⟨h1, hb⟩)).imp (fun b _ hb => hb) |>.keep (fun ad v hz hc => kpN ad v hz.1 hc) |>.imp (fun b _ hb => .inr ⟨by have := hb.1; omega, by have := hb.2; omega, fun a ha e => ?_⟩)
            rcases newb a ha with ⟨a0, h0, e0⟩ | e0
            · have := h.lt _ (r3 a0 h0).1
              have := hb.1
              omega
            · have := hb.2
              omega

set_option maxRecDepth 10000 in
set_option maxHeartbeats 1000000 in
theorem accept_any (h : Mb w F Z q M (some p)) (hM : M.own = some P) (i : Nat) (hi : i < 16) (hno : P.acc.testBit i = false) (x : Sx) (d : Sd) (hd : Si Z w x d) :
    Calls Tryd.prog 58 #[.pointer (some ⟨p, 0, none⟩), .int .i64 (i : Nat), sta x] w fun e w' => e = .returned (.tuple #[]) ∧ ∃ F' Z', Sp w F Z w' F' Z' ∧ Mb w' F' Z' q { M with own := some (P.more (i : Nat) d) } (some p) := by
  obtain ⟨_, hpe, hp⟩ := h.ownSome hM
  cases hpe
  obtain ⟨ao, cap, ss, r1, r2, r3, r4, r5⟩ := hp.row
  have hpl := h.lt p hp.fp
  have h1z := h.tab.lt
  have hlen1000 : P.sts.length ≤ 16 := Nat.le_trans hp.len (cntF_le 16 _)
  obtain ⟨o1, ho1⟩ : ∃ o1 : Obj, Obj.cells #[.int .u64 (x.1 : Nat), .int .i64 x.2.1, .int .i64 x.2.2.1, .slice x.2.2.2.1 x.2.2.2.2.1 x.2.2.2.2.2] 45 = o1 := ⟨_, rfl⟩
  obtain ⟨w1, hw1⟩ : ∃ w1, (w.alloc o1).setCell ⟨p, 3, none⟩ (.int .u16 (withN P.acc (i : Nat) : Nat)) = w1 := ⟨_, rfl⟩
  have hwith := fun W => with_any W P.acc hp.a16 ((i : Nat) : Int)
  have k3 : (w.alloc o1).cell? ⟨p, 3, none⟩ = some (.int .u16 (P.acc : Nat)) := (cell_block (Below.heap_alloc _ _ _ hpl)).trans hp.c3
  have f3 : (w.alloc o1).frozen? ⟨p, 3, none⟩ = false := (frozen_block (Below.heap_alloc _ _ _ hpl)).trans (hp.fr 3)
  have hB : w1.heap[w.heap.size]? = some (.cells #[.int .u64 (x.1 : Nat), .int .i64 x.2.1, .int .i64 x.2.2.1, .slice x.2.2.2.1 x.2.2.2.2.1 x.2.2.2.2.2] 45 (0, 0)) := by
    rw [← hw1, heap_setCell_other _ _ _ _ (by show w.heap.size ≠ p; omega), ← ho1]; exact heap_alloc_new _ _
  have k4 : w1.cell? ⟨p, 4, none⟩ = some (.slice ao P.sts.length cap) := by
    rw [← hw1, set_other (by omega), cell_block (Below.heap_alloc _ _ _ hpl)]; exact r1
  have f4 : w1.frozen? ⟨p, 4, none⟩ = false := by rw [← hw1, World.frozen?_setCell, frozen_block (Below.heap_alloc _ _ _ hpl)]; exact hp.fr 4
  have b0 := heap_cell (j := 0) hB rfl
  have b1 := heap_cell (j := 1) hB rfl
  have b2 := heap_cell (j := 2) hB rfl
  have b3 := heap_cell (j := 3) hB rfl
  have s1 : w1.heap.size = w.heap.size + 1 := by rw [← hw1]; simp
  have hsi : Si Z w1.drew x d := by
    refine hd.keep (fun ad v hz hc => ?_)
    have hne : ad.block ≠ p := fun e => h.zf _ hz (e ▸ hp.fp)
    have hl := h.zl _ hz
    show w1.cell? ad = some v
    rw [← hw1, World.cell?_of_block (w := w) ((heap_setCell_other _ _ _ _ hne).trans (Below.heap_alloc _ _ _ hl))]; exact hc
  have hcp := copied3_any Z w1.drew x d hsi
  have hrow1 : w1.ownsRow 1 45 4 (.slice ao P.sts.length cap) P.sts.length (flat ss) := by
    refine row_block r2 (fun b hb => ?_)
    cases ao with
    | none => simp [Value.ownBlock] at hb
    | some a =>
      have hab : a.block = b := by simpa [Value.ownBlock] using hb
      subst hab
      rw [← hw1, heap_setCell_other _ _ _ _ (r3 a rfl).2.1]
      exact Below.heap_alloc _ _ _ (h.lt _ (r3 a rfl).1)
  have HW : Hid ((w.alloc o1).setCell ⟨p, 3, none⟩ (.int .u16 (withN P.acc (i : Nat) : Nat)) = w1) := hw1
  have HM : Hid (Mb w F Z q M (some p) ∧ w.cell? ⟨p, 4, none⟩ = some (.slice ao P.sts.length cap) ∧ (∀ a, ao = some a → F a.block ∧ a.block ≠ p ∧ a.block ≠ q) ∧ ss.length = P.sts.length ∧ (∀ (j : Nat) (x : Sx) (d : Sd), ss[j]? = some x → P.sts[j]? = some d → Si Z w x d) ∧ w1.ownsRow 1 45 4 (.slice ao P.sts.length cap) P.sts.length (flat ss)) := ⟨h, r1, r3, r4, r5, hrow1⟩
  have hS : w1.drew.cell? ⟨p, 4, none⟩ = some (.slice ao P.sts.length cap) ∧ w1.drew.cell? ⟨w.heap.size, 0, none⟩ = some (.int .u64 (x.1 : Nat)) ∧ w1.drew.cell? ⟨w.heap.size, 1, none⟩ = some (.int .i64 x.2.1) ∧ w1.drew.cell? ⟨w.heap.size, 2, none⟩ = some (.int .i64 x.2.2.1) ∧ w1.drew.cell? ⟨w.heap.size, 3, none⟩ = some (.slice x.2.2.2.1 x.2.2.2.2.1 x.2.2.2.2.2) := ⟨k4, b0, b1, b2, b3⟩
  have HX : Hid (1 ≤ w.heap.size ∧ p < w.heap.size ∧ P.sts.length ≤ 16 ∧ w1.heap.size = w.heap.size + 1 ∧ w1.frozen? ⟨p, 4, none⟩ = false) := ⟨h1z, hpl, hlen1000, s1, f4⟩
  clear h hp r1 r2 r3 r4 r5 hd hpl h1z hB k4 f4 b0 b1 b2 b3 s1 hsi hrow1 hlen1000
  obtain ⟨wa, hwa⟩ : ∃ wa : Nat, withN P.acc ((i : Nat) : Int) = wa := ⟨_, rfl⟩
  rw [hwa] at hwith HW hw1
  unfold sta at *
  go_enter Tryd.func58, Tryd.ntmps58
  go_wp2_with fail
  (try simp only [ho1])
  refine (hwith _).mono ?_
  rintro e w0 ⟨rfl, rfl⟩
  clear hwith
  go_wp2_with fail
  (try simp only [hw1])
  clear hw1 k3 f3 ho1
  refine wp_region_noPanic ?_
  refine beginE (fun wx => wx.cell? ⟨p, 4, none⟩ = some (.slice ao P.sts.length cap) ∧ wx.cell? ⟨w.heap.size, 0, none⟩ = some (.int .u64 (x.1 : Nat)) ∧ wx.cell? ⟨w.heap.size, 1, none⟩ = some (.int .i64 x.2.1) ∧ wx.cell? ⟨w.heap.size, 2, none⟩ = some (.int .i64 x.2.2.1) ∧ wx.cell? ⟨w.heap.size, 3, none⟩ = some (.slice x.2.2.2.1 x.2.2.2.2.1 x.2.2.2.2.2)) 11 (by kernel_rfl) hS (fun hHeld => ?_)
  refine takeE 0 (v := ?_) rfl (by kernel_rfl) (by kernel_rfl) (by kernel_rfl) (by kernel_rfl) (by kernel_rfl) (fun _ _ _ h => h) (Or.inl ⟨by rfl, by intro wx hSw; (try dsimp only at hSw); obtain ⟨k1, k2, k3, k4, k5⟩ := hSw; go_simp; try with_reducible rfl⟩) (by assumption) ?_
  (try simp only [Act.put, List.setIfInBounds_toArray, List.set_cons_zero, List.set_cons_succ])
  refine takeE 1 (v := ?_) rfl (by kernel_rfl) (by kernel_rfl) (by kernel_rfl) (by kernel_rfl) (by kernel_rfl) (fun _ _ _ h => h) (Or.inl ⟨by rfl, by intro wx hSw; (try dsimp only at hSw); obtain ⟨k1, k2, k3, k4, k5⟩ := hSw; go_simp; try with_reducible rfl⟩) (by assumption) ?_
  (try simp only [Act.put, List.setIfInBounds_toArray, List.set_cons_zero, List.set_cons_succ])
  refine takeE 2 (v := ?_) rfl (by kernel_rfl) (by kernel_rfl) (by kernel_rfl) (by kernel_rfl) (by kernel_rfl) (fun _ _ _ h => h) (Or.inl ⟨by rfl, by intro wx hSw; (try dsimp only at hSw); obtain ⟨k1, k2, k3, k4, k5⟩ := hSw; go_simp; try with_reducible rfl⟩) (by assumption) ?_
  (try simp only [Act.put, List.setIfInBounds_toArray, List.set_cons_zero, List.set_cons_succ])
  refine takeE 3 (v := ?_) rfl (by kernel_rfl) (by kernel_rfl) (by kernel_rfl) (by kernel_rfl) (by kernel_rfl) (fun _ _ _ h => h) (Or.inl ⟨by rfl, by intro wx hSw; (try dsimp only at hSw); obtain ⟨k1, k2, k3, k4, k5⟩ := hSw; go_simp; try with_reducible rfl⟩) (by assumption) ?_
  (try simp only [Act.put, List.setIfInBounds_toArray, List.set_cons_zero, List.set_cons_succ])
  refine takeE 4 (v := ?_) rfl (by kernel_rfl) (by kernel_rfl) (by kernel_rfl) (by kernel_rfl) (by kernel_rfl) (fun _ _ _ h => h) (Or.inl ⟨by rfl, by intro wx hSw; (try dsimp only at hSw); obtain ⟨k1, k2, k3, k4, k5⟩ := hSw; go_simp; try with_reducible rfl⟩) (by assumption) ?_
  (try simp only [Act.put, List.setIfInBounds_toArray, List.set_cons_zero, List.set_cons_succ])
  refine takeE 5 (v := ?_) rfl (by kernel_rfl) (by kernel_rfl) (by kernel_rfl) (by kernel_rfl) (by kernel_rfl) (fun _ _ _ h => h) (Or.inl ⟨by rfl, by intro wx hSw; (try dsimp only at hSw); obtain ⟨k1, k2, k3, k4, k5⟩ := hSw; go_simp; try with_reducible rfl⟩) (by assumption) ?_
  (try simp only [Act.put, List.setIfInBounds_toArray, List.set_cons_zero, List.set_cons_succ])
  refine upE 6 rfl (by kernel_rfl) (fun K hK => ?_)
  go_simp
  refine hcp.mono ?_
  rintro e w2 ⟨ao2, cap2, rfl, hsi2, hb2⟩
  have hb2' : Below w1.heap.size w1 w2 := ⟨hb2.os, hb2.tape, hb2.output, hb2.size, hb2.block⟩
  obtain ⟨x1, x2, x3, x4, x5⟩ := HX.out
  obtain ⟨m1, m2, m3, m4, m5, m6⟩ := HM.out
  obtain ⟨y, hy⟩ : ∃ y : Sx, y = (x.1, x.2.1, x.2.2.1, ao2, x.2.2.2.2.1, cap2) := ⟨_, rfl⟩
  obtain ⟨o3, ho3⟩ : ∃ o3 : Obj, Obj.cells #[.int .u64 (x.1 : Nat), .int .i64 x.2.1, .int .i64 x.2.2.1, .slice ao2 x.2.2.2.2.1 cap2] 45 = o3 := ⟨_, rfl⟩
  have hb3 : Below w1.heap.size w1 (w2.alloc o3) := hb2'.alloc hb2'.size o3
  have hbox : ∀ W, Below w1.heap.size w1 W → W.cell? ⟨p, 4, none⟩ = some (.slice ao P.sts.length cap) ∧ W.cell? ⟨w.heap.size, 0, none⟩ = some (.int .u64 (x.1 : Nat)) ∧ W.cell? ⟨w.heap.size, 1, none⟩ = some (.int .i64 x.2.1) ∧ W.cell? ⟨w.heap.size, 2, none⟩ = some (.int .i64 x.2.2.1) ∧ W.cell? ⟨w.heap.size, 3, none⟩ = some (.slice x.2.2.2.1 x.2.2.2.2.1 x.2.2.2.2.2) := fun W u =>
    ⟨bl_cell u hS.1, bl_cell u hS.2.1, bl_cell u hS.2.2.1, bl_cell u hS.2.2.2.1, bl_cell u hS.2.2.2.2⟩
  obtain ⟨v', w4, hrun, hown4, hgr4, hat4⟩ := state_append (row_block m6 (fun b hb => hb3.block b (m6.lt b hb).2)) (by omega) (by simp) y w2.heap.size (fun j u hj => by
    rw [← ho3]
    refine cell_box w2 _ 45 j u ?_
    rw [hy] at hj
    simpa [cellsS] using hj)
  obtain ⟨ao4, cap4, rfl⟩ := own_ne hown4
  have HR : Hid (∃ F' Z', Sp w F Z (w4.setCell ⟨p, 4, none⟩ (.slice ao4 (P.sts.length + 1) cap4)) F' Z' ∧ Mb (w4.setCell ⟨p, 4, none⟩ (.slice ao4 (P.sts.length + 1) cap4)) F' Z' q { M with own := some (P.more (i : Nat) d) } (some p)) :=
    Mb.more m1 hM hi hno d (by rw [hwa]; exact HW.out.symm) hb2' (by rw [hy]; exact hsi2) rfl m2 m3 m4 m5 hown4 hgr4 hat4
  have hpb : w4.heap[p]? = (w2.alloc o3).heap[p]? := hgr4.block p (by simp; have := hb2'.size; omega) (fun e => by
    cases ao with
    | none => simp [Value.ownBlock] at e
    | some a => exact (m3 a rfl).2.1 (by simpa [Value.ownBlock] using e.symm))
  have hbb : w4.heap[w.heap.size]? = (w2.alloc o3).heap[w.heap.size]? := hgr4.block _ (by simp; have := hb2'.size; omega) (fun e => by
    cases ao with
    | none => simp [Value.ownBlock] at e
    | some a =>
      have e' : a.block = w.heap.size := by simpa [Value.ownBlock] using e.symm
      have := m1.lt _ (m3 a rfl).1
      omega)
  obtain ⟨g1, g2, g3, g4, g5⟩ := hbox _ hb3
  have hbx4 : w4.cell? ⟨p, 4, none⟩ = some (.slice ao P.sts.length cap) ∧ w4.cell? ⟨w.heap.size, 0, none⟩ = some (.int .u64 (x.1 : Nat)) ∧ w4.cell? ⟨w.heap.size, 1, none⟩ = some (.int .i64 x.2.1) ∧ w4.cell? ⟨w.heap.size, 2, none⟩ = some (.int .i64 x.2.2.1) ∧ w4.cell? ⟨w.heap.size, 3, none⟩ = some (.slice x.2.2.2.1 x.2.2.2.2.1 x.2.2.2.2.2) :=
    ⟨(cell_block hpb).trans g1, (cell_block hbb).trans g2, (cell_block hbb).trans g3, (cell_block hbb).trans g4, (cell_block hbb).trans g5⟩
  have f4' : w4.frozen? ⟨p, 4, none⟩ = false := (frozen_block hpb).trans ((hb3.frozen (show p < w1.heap.size by omega)).trans x5)
  have hbx2 := hbox w2 hb2'
  have hbx3 := hbox (w2.alloc o3) hb3
  have HRUN : Hid ((Builtin.append_ #[36, 36] 36 #[.slice ao P.sts.length cap, .slice (some ⟨w2.heap.size, 0, none⟩) 1 1]).run Tryd.prog (w2.alloc o3) = .ok (.slice ao4 (P.sts.length + 1) cap4) w4) := hrun
  rw [← ho3] at hbx3 HRUN
  clear hcp hrun hown4 hgr4 hat4 hsi2 hb2 hb2' hb3 hbox HM HX HW x1 x2 x3 x4 x5 m1 m2 m3 m4 m5 m6 hpb hbb g1 g2 g3 g4 g5 hy hS ho3 hM hwa
  generalize P.sts.length + 1 = n1 at *
  go_wp2_with fail
  refine hK.out _ _ hbx2 (fun hHeld => ?_)
  clear hK K
  (try simp only [Act.put, List.setIfInBounds_toArray, List.set_cons_zero, List.set_cons_succ])
  refine upE 7 rfl (by kernel_rfl) (fun K hK => ?_)
  go_simp
  refine hK.out _ _ hbx3 (fun hHeld => ?_)
  clear hK K
  (try simp only [Act.put, List.setIfInBounds_toArray, List.set_cons_zero, List.set_cons_succ])
  refine upE 8 rfl (by kernel_rfl) (fun K hK => ?_)
  refine step_append_run rfl (.tmp 19) (.tmp 22) 36 rfl (.slice ao P.sts.length cap) (.slice (some ⟨w2.heap.size, 0, none⟩) 1 1) (.slice ao4 n1 cap4) w4 rfl rfl HRUN.out ?_
  refine hK.out _ _ hbx4 (fun hHeld => ?_)
  clear hK K
  (try simp only [Act.put, List.setIfInBounds_toArray, List.set_cons_zero, List.set_cons_succ])
  have c4 := hbx4.1
  refine pureE 9 (v := ?_) rfl (by kernel_rfl) (by kernel_rfl) (by kernel_rfl) (by kernel_rfl) (fun _ _ _ h => h) (Or.inl ⟨by rfl, by intro wx hSw; (try dsimp only at hSw); go_simp; try with_reducible rfl⟩) (by assumption) ?_
  (try simp only [Act.put, List.setIfInBounds_toArray, List.set_cons_zero, List.set_cons_succ])
  refine pureE 10 (v := ?_) rfl (by kernel_rfl) (by kernel_rfl) (by kernel_rfl) (by kernel_rfl) (fun _ _ _ h => h) (Or.inl ⟨by rfl, by intro wx hSw; (try dsimp only at hSw); go_simp; try with_reducible rfl⟩) (by assumption) ?_
  (try simp only [Act.put, List.setIfInBounds_toArray, List.set_cons_zero, List.set_cons_succ])
  refine lastE 11 rfl (by kernel_rfl) (by kernel_rfl) (fun K hK => ?_)
  go_simp
  refine hK.out _ _ ?_
  clear hK K
  (try simp only [Act.put, List.setIfInBounds_toArray, List.set_cons_zero, List.set_cons_succ])
  refine doneE (by kernel_rfl) ?_ _
  refine NoPanic.normal ?_
  go_wp2
  go_end0
  exact ⟨rfl, HR.out⟩
end
end Go.Proofs.YtlonbbepoamnmaaDoor
