/-
  What a node sends to the other nodes of its proposal's set (Member.toOthers).
-/
import Derived.Test.YtlonbbepoamnmaaDoorMOut
namespace Go.Proofs.YtlonbbepoamnmaaDoor
open Go.RowKit
set_option linter.unusedVariables false

/-- Frames to be sent, as they lie in memory. -/
abbrev Ox := Nat × PF × Fa
def flatO (L : List Ox) : List Value := L.flatMap (fun x => ocells x.1 x.2.1 x.2.2)
def plainO (L : List Ox) : List (Nat × PF) := L.map (fun x => (x.1, x.2.1))
def OIn (p : Nat → Prop) (w : World) (L : List Ox) : Prop := ∀ x ∈ L, Ss p w x.2.2.so x.2.1.st.length x.2.1.st
theorem OIn.keep {p : Nat → Prop} {w w' : World} {L : List Ox} (h : OIn p w L) (k : Kp p w w') : OIn p w' L := fun x hx => (h x hx).keep k
theorem OIn.imp {p q : Nat → Prop} {w : World} {L : List Ox} (h : OIn p w L) (k : ∀ b, b < w.heap.size → p b → q b) : OIn q w L := fun x hx => (h x hx).imp k
theorem flatO_app (A B : List Ox) : flatO (A ++ B) = flatO A ++ flatO B := by simp [flatO]
theorem flatO_one (x : Ox) : flatO [x] = ocells x.1 x.2.1 x.2.2 := by simp [flatO]
theorem ocells_len (t : Nat) (F : PF) (a : Fa) : (ocells t F a).length = 16 := rfl
theorem ocells_one (t : Nat) (F : PF) (a : Fa) : ∀ u ∈ ocells t F a, u.oneCell' = true := by
  intro u hu
  simp only [ocells, fcells, List.mem_cons, List.not_mem_nil, or_false] at hu
  rcases hu with rfl | rfl | rfl | rfl | rfl | rfl | rfl | rfl | rfl | rfl | rfl | rfl | rfl | rfl | rfl | rfl <;> rfl
theorem info87z : (Tryd.prog.info? 87).map (fun i => (i.zero, i.size, i.bytes)) = some (some (.agg #[.int .i64 0, .int .u8 0, .int .i64 0, .int .u64 0, .int .i64 0, .int .u16 0, .int .u64 0, .int .i64 0, .int .u64 0, .int .i64 0, .slice none 0 0, .int .u64 0, .slice none 0 0, .slice none 0 0, .int .u64 0, .int .u64 0]), 16, 176) := by kernel_rfl
theorem und49 : Tryd.prog.underlying 49 = some (.slice 87) := by kernel_rfl
theorem own_lower {w : World} {B B' e size n : Nat} {v : Value} {xs : List Value} (h : w.ownsRow B e size v n xs) (hB : B' ≤ B) : w.ownsRow B' e size v n xs := by
  refine ⟨h.1, ?_⟩
  rcases h.2 with hn | ⟨g, cap, cur, rfl, hbg, r⟩
  · exact .inl hn
  · exact .inr ⟨g, cap, cur, rfl, Nat.le_trans hB hbg, r⟩
/-- What is answered where frames are to be sent. -/
def OutsPost (ex : List (Nat × PF)) (w : World) (e : Ending) (w' : World) : Prop := ∃ v L, e = .returned v ∧ plainO L = ex ∧ w'.ownsRow w.heap.size 87 16 v L.length (flatO L) ∧ OIn (fun b => w.heap.size ≤ b ∧ v.ownBlock ≠ some b) w' L ∧ Below w.heap.size w w'
/-- One more frame. -/
theorem row_more {w wr w2 w3 w4 : World} {v v' : Value} {L : List Ox} {t : Nat} {Fr : PF} {a : Fa} {ob : Obj} (hown : wr.ownsRow w.heap.size 87 16 v L.length (flatO L)) (hin : OIn (fun b => w.heap.size ≤ b ∧ v.ownBlock ≠ some b) wr L) (hb : Below w.heap.size w wr)
    (hss : Ss (fun b => wr.heap.size ≤ b) w2 a.so Fr.st.length Fr.st) (b2 : Below wr.heap.size wr w2) (b3 : Below w2.heap.size w2 w3) (hown4 : w4.ownsRow w.heap.size 87 16 v' (L.length + 1) (flatO L ++ ocells t Fr a)) (hgr : (w3.alloc ob).grownBy w4 v.ownBlock) (hat : v'.ownBlock = v.ownBlock ∨ v'.ownBlock = some (w3.alloc ob).heap.size) :
    w4.ownsRow w.heap.size 87 16 v' (L ++ [(t, Fr, a)]).length (flatO (L ++ [(t, Fr, a)])) ∧ OIn (fun b => w.heap.size ≤ b ∧ v'.ownBlock ≠ some b) w4 (L ++ [(t, Fr, a)]) ∧ Below w.heap.size w w4 := by
  have s2 := b2.size
  have s3 := b3.size
  have s0 := hb.size
  have s4 : (w3.alloc ob).heap.size = w3.heap.size + 1 := by simp
  have s5 := hgr.size
  have hvl : ∀ b, v.ownBlock = some b → w.heap.size ≤ b ∧ b < wr.heap.size := fun b hb => hown.lt b hb
  have blk : ∀ b, b < w3.heap.size → v.ownBlock ≠ some b → w4.heap[b]? = w3.heap[b]? := fun b hb hne => (hgr.block b (by omega) (fun e => hne e.symm)).trans (Below.heap_alloc _ _ _ hb)
  refine ⟨?_, ?_, ?_⟩
  · rw [flatO_app, flatO_one, List.length_append]
    exact hown4
  · intro x hx
    rcases List.mem_append.1 hx with hx | hx
    · refine (((hin x hx).imp (q := fun b => w.heap.size ≤ b ∧ v.ownBlock ≠ some b ∧ b < wr.heap.size) (fun b hl h => ⟨h.1, h.2, hl⟩)).keep (fun ad u hz hc => ?_)).imp (fun b _ h => ⟨h.1, fun e => ?_⟩)
      · rw [World.cell?_of_block (w := wr) ((blk _ (by have := hz.2.2; omega) hz.2.1).trans ((b3.block _ (by have := hz.2.2; omega)).trans (b2.block _ hz.2.2)))]; exact hc
      · rcases hat with e' | e'
        · exact h.2.1 (e'.symm.trans e)
        · rw [e'] at e
          have : (w3.alloc ob).heap.size = b := by simpa using e
          have := h.2.2
          omega
    · rw [List.mem_singleton] at hx
      subst hx
      refine ((hss.imp (q := fun b => wr.heap.size ≤ b ∧ b < w2.heap.size) (fun b hl h => ⟨h, hl⟩)).keep (fun ad u hz hc => ?_)).imp (fun b _ h => ⟨by have := h.1; omega, fun e => ?_⟩)
      · rw [World.cell?_of_block (w := w2) ((blk _ (by have := hz.2; omega) (fun e => by have := (hvl _ e).2; have := hz.1; omega)).trans (b3.block _ hz.2))]; exact hc
      · rcases hat with e' | e'
        · have := (hvl b (e'.symm.trans e)).2
          have := h.1
          omega
        · rw [e'] at e
          have : (w3.alloc ob).heap.size = b := by simpa using e
          have := h.2
          omega
  · exact bl_grown ((bl_step (bl_step hb b2) b3).alloc (by omega) ob) (by omega) hgr (fun k hk => (hvl k hk).1)

section
variable {w : World} {F Z : Nat → Prop} {q p : Nat} {M : Mm} {P : Pp} {o : Option Nat}

theorem acc1_any (w : World) (i : Int) : Calls Tryd.prog 75 #[.int .i64 i] w fun e w' => e = .returned (.bool true) ∧ Below w.heap.size w w' := by
  go_enter Tryd.func75, Tryd.ntmps75
  go_wp2
  go_ret
  exact ⟨rfl, Below.refl _ _⟩
theorem remind2_any (hp : Pb w F Z q p P) (B2 : Nat) (b2 : w.cell? ⟨B2, 0, none⟩ = some (.pointer (some ⟨p, 0, none⟩))) (i : Nat) : Calls Tryd.prog 66 #[.int .i64 (i : Nat), .pointer (some ⟨B2, 0, none⟩)] w fun e w' => e = .returned (.bool (!hasN P.acc (i : Nat))) ∧ Below w.heap.size w w' := by
  have c3 := hp.c3
  have hh := fun W => has_any W P.acc hp.a16 ((i : Nat) : Int)
  clear hp
  generalize hasN P.acc ((i : Nat) : Int) = r at *
  go_enter Tryd.func66, Tryd.ntmps66
  go_wp2_with fail
  refine (hh _).mono ?_
  rintro e w1 ⟨rfl, rfl⟩
  go_wp2
  go_ret
  exact ⟨rfl, Below.refl _ _⟩
theorem vid_eq2 (v u : Vid) : decide (v.1 = u.1 ∧ v.2 = u.2) = decide (v = u) := by
  apply decide_eq_decide.2
  exact ⟨fun h => Prod.ext h.1 h.2, fun h => ⟨by rw [h], by rw [h]⟩⟩
theorem remind1_any (h : Mb w F Z q M (some p)) (hp : Pb w F Z q p P) (B1 B2 : Nat) (b1 : w.cell? ⟨B1, 0, none⟩ = some (.pointer (some ⟨q, 0, none⟩))) (b2 : w.cell? ⟨B2, 0, none⟩ = some (.pointer (some ⟨p, 0, none⟩))) (i : Nat) (hi : i < 16) :
    Calls Tryd.prog 64 #[.int .i64 (i : Nat), .pointer (some ⟨B1, 0, none⟩), .pointer (some ⟨B2, 0, none⟩)] w fun e w' => e = .returned (.bool (!decide ((M.told i).1 = P.id))) ∧ Below w.heap.size w w' := by
  have t0 : w.cell? ⟨q, 9 + i * 4, none⟩ = some (.int .u64 ((M.told i).1.1 : Nat)) := by rw [show 9 + i * 4 = 9 + i * 4 + 0 by omega, h.cell _ (by omega), mcell_told _ _ _ _ (by omega)]; rfl
  have t1 : w.cell? ⟨q, 9 + i * 4 + 1, none⟩ = some (.int .i64 (M.told i).1.2) := by rw [h.cell _ (by omega), mcell_told _ _ _ _ (by omega)]; rfl
  have hq := fun W => vid_equal (M.told i).1.1 (M.told i).1.2 P.id.1 P.id.2 W
  rw [← vid_eq2]
  generalize decide ((M.told i).1.1 = P.id.1 ∧ (M.told i).1.2 = P.id.2) = r at *
  generalize (M.told i).1.1 = n1 at *
  generalize (M.told i).1.2 = p1 at *
  have hS : w.drew.cell? ⟨B1, 0, none⟩ = some (.pointer (some ⟨q, 0, none⟩)) ∧ w.drew.cell? ⟨B2, 0, none⟩ = some (.pointer (some ⟨p, 0, none⟩)) ∧ w.drew.cell? ⟨q, 9 + i * 4, none⟩ = some (.int .u64 (n1 : Nat)) ∧ w.drew.cell? ⟨q, 9 + i * 4 + 1, none⟩ = some (.int .i64 p1) ∧ w.drew.cell? ⟨p, 0, none⟩ = some (.int .u64 (P.id.1 : Nat)) ∧ w.drew.cell? ⟨p, 1, none⟩ = some (.int .i64 P.id.2) := ⟨b1, b2, t0, t1, hp.c0, hp.c1⟩
  have i0 : ¬ ((i : Int) < 0) := by omega
  have i1 : (i : Int) < 16 := by omega
  clear h hp b1 b2 t0 t1
  go_enter Tryd.func64, Tryd.ntmps64
  go_wp2_with fail
  refine wp_region_noPanic ?_
  refine wp_region_held_drew (S := fun wx => wx.cell? ⟨B1, 0, none⟩ = some (.pointer (some ⟨q, 0, none⟩)) ∧ wx.cell? ⟨B2, 0, none⟩ = some (.pointer (some ⟨p, 0, none⟩)) ∧ wx.cell? ⟨q, 9 + i * 4, none⟩ = some (.int .u64 (n1 : Nat)) ∧ wx.cell? ⟨q, 9 + i * 4 + 1, none⟩ = some (.int .i64 p1) ∧ wx.cell? ⟨p, 0, none⟩ = some (.int .u64 (P.id.1 : Nat)) ∧ wx.cell? ⟨p, 1, none⟩ = some (.int .i64 P.id.2)) (by kernel_rfl) hS (fun hHeld => ?_)
  refine take_first 0 (v := ?_) rfl (by kernel_rfl) (by kernel_rfl) (by kernel_rfl) (fun _ _ _ h => h) (Or.inl ⟨by rfl, by intro wx hSw; (try dsimp only at hSw); obtain ⟨a1, a2, a3, a4, a5, a6⟩ := hSw; go_simp; try with_reducible rfl⟩) (by assumption) ?_
  (try simp only [Act.put, List.setIfInBounds_toArray, List.set_cons_zero, List.set_cons_succ])
  refine take_first 1 (v := ?_) rfl (by kernel_rfl) (by kernel_rfl) (by kernel_rfl) (fun _ _ _ h => h) (Or.inl ⟨by rfl, by intro wx hSw; (try dsimp only at hSw); obtain ⟨a1, a2, a3, a4, a5, a6⟩ := hSw; go_simp; try with_reducible rfl⟩) (by assumption) ?_
  (try simp only [Act.put, List.setIfInBounds_toArray, List.set_cons_zero, List.set_cons_succ])
  refine take_first 2 (v := ?_) rfl (by kernel_rfl) (by kernel_rfl) (by kernel_rfl) (fun _ _ _ h => h) (Or.inl ⟨by rfl, by intro wx hSw; (try dsimp only at hSw); obtain ⟨a1, a2, a3, a4, a5, a6⟩ := hSw; go_simp; try with_reducible rfl⟩) (by assumption) ?_
  (try simp only [Act.put, List.setIfInBounds_toArray, List.set_cons_zero, List.set_cons_succ])
  refine take_first 3 (v := ?_) rfl (by kernel_rfl) (by kernel_rfl) (by kernel_rfl) (fun _ _ _ h => h) (Or.inl ⟨by rfl, by intro wx hSw; (try dsimp only at hSw); obtain ⟨a1, a2, a3, a4, a5, a6⟩ := hSw; go_simp; try with_reducible rfl⟩) (by assumption) ?_
  (try simp only [Act.put, List.setIfInBounds_toArray, List.set_cons_zero, List.set_cons_succ])
  refine take_first 4 (v := ?_) rfl (by kernel_rfl) (by kernel_rfl) (by kernel_rfl) (fun _ _ _ h => h) (Or.inl ⟨by rfl, by intro wx hSw; (try dsimp only at hSw); obtain ⟨a1, a2, a3, a4, a5, a6⟩ := hSw; go_simp; try with_reducible rfl⟩) (by assumption) ?_
  (try simp only [Act.put, List.setIfInBounds_toArray, List.set_cons_zero, List.set_cons_succ])
  refine take_first 5 (v := ?_) rfl (by kernel_rfl) (by kernel_rfl) (by kernel_rfl) (fun _ _ _ h => h) (Or.inl ⟨by rfl, by intro wx hSw; (try dsimp only at hSw); obtain ⟨a1, a2, a3, a4, a5, a6⟩ := hSw; go_simp; try with_reducible rfl⟩) (by assumption) ?_
  (try simp only [Act.put, List.setIfInBounds_toArray, List.set_cons_zero, List.set_cons_succ])
  refine take_first 6 (v := ?_) rfl (by kernel_rfl) (by kernel_rfl) (by kernel_rfl) (fun _ _ _ h => h) (Or.inl ⟨by rfl, by intro wx hSw; (try dsimp only at hSw); obtain ⟨a1, a2, a3, a4, a5, a6⟩ := hSw; go_simp; try with_reducible rfl⟩) (by assumption) ?_
  (try simp only [Act.put, List.setIfInBounds_toArray, List.set_cons_zero, List.set_cons_succ])
  refine take_first 7 (v := ?_) rfl (by kernel_rfl) (by kernel_rfl) (by kernel_rfl) (fun _ _ _ h => h) (Or.inl ⟨by rfl, by intro wx hSw; (try dsimp only at hSw); obtain ⟨a1, a2, a3, a4, a5, a6⟩ := hSw; go_simp; try with_reducible rfl⟩) (by assumption) ?_
  (try simp only [Act.put, List.setIfInBounds_toArray, List.set_cons_zero, List.set_cons_succ])
  refine take_first 8 (v := ?_) rfl (by kernel_rfl) (by kernel_rfl) (by kernel_rfl) (fun _ _ _ h => h) (Or.inl ⟨by rfl, by intro wx hSw; (try dsimp only at hSw); obtain ⟨a1, a2, a3, a4, a5, a6⟩ := hSw; go_simp; try with_reducible rfl⟩) (by assumption) ?_
  (try simp only [Act.put, List.setIfInBounds_toArray, List.set_cons_zero, List.set_cons_succ])
  refine take_first 9 (v := ?_) rfl (by kernel_rfl) (by kernel_rfl) (by kernel_rfl) (fun _ _ _ h => h) (Or.inl ⟨by rfl, by intro wx hSw; (try dsimp only at hSw); obtain ⟨a1, a2, a3, a4, a5, a6⟩ := hSw; go_simp; try with_reducible rfl⟩) (by assumption) ?_
  (try simp only [Act.put, List.setIfInBounds_toArray, List.set_cons_zero, List.set_cons_succ])
  refine take_first 10 (v := ?_) rfl (by kernel_rfl) (by kernel_rfl) (by kernel_rfl) (fun _ _ _ h => h) (Or.inl ⟨by rfl, by intro wx hSw; (try dsimp only at hSw); obtain ⟨a1, a2, a3, a4, a5, a6⟩ := hSw; go_simp; try with_reducible rfl⟩) (by assumption) ?_
  (try simp only [Act.put, List.setIfInBounds_toArray, List.set_cons_zero, List.set_cons_succ])
  refine take_first 11 (v := ?_) rfl (by kernel_rfl) (by kernel_rfl) (by kernel_rfl) (fun _ _ _ h => h) (Or.inl ⟨by rfl, by intro wx hSw; (try dsimp only at hSw); obtain ⟨a1, a2, a3, a4, a5, a6⟩ := hSw; go_simp; try with_reducible rfl⟩) (by assumption) ?_
  (try simp only [Act.put, List.setIfInBounds_toArray, List.set_cons_zero, List.set_cons_succ])
  refine take_first 12 (v := ?_) rfl (by kernel_rfl) (by kernel_rfl) (by kernel_rfl) (fun _ _ _ h => h) (Or.inl ⟨by rfl, by intro wx hSw; (try dsimp only at hSw); obtain ⟨a1, a2, a3, a4, a5, a6⟩ := hSw; go_simp; try with_reducible rfl⟩) (by assumption) ?_
  (try simp only [Act.put, List.setIfInBounds_toArray, List.set_cons_zero, List.set_cons_succ])
  refine take_first 13 (v := ?_) rfl (by kernel_rfl) (by kernel_rfl) (by kernel_rfl) (fun _ _ _ h => h) (Or.inl ⟨by rfl, by intro wx hSw; (try dsimp only at hSw); obtain ⟨a1, a2, a3, a4, a5, a6⟩ := hSw; go_simp; try with_reducible rfl⟩) (by assumption) ?_
  (try simp only [Act.put, List.setIfInBounds_toArray, List.set_cons_zero, List.set_cons_succ])
  refine wpAnyH_done (by kernel_rfl) ?_ _
  refine NoPanic.normal ?_
  go_wp2
  go_ret
  exact ⟨rfl, (Below.refl _ _).drew⟩
theorem askA_any (hp : Pb w F Z q p P) (hpl : p < w.heap.size) : Calls Tryd.prog 65 #[.pointer (some ⟨p, 0, none⟩)] w fun e w' => ∃ a : Fa, e = .returned (fval (askF P) a) ∧ Ss (fun b => w.heap.size ≤ b) w' a.so (askF P).st.length (askF P).st ∧ Below w.heap.size w w' := by
  refine (ask_any hp hpl).mono ?_
  rintro e w' ⟨h1, h2⟩
  exact ⟨Fa.none, h1, Ss.nil _ _, h2⟩
theorem commitA_any (hp : Pb w F Z q p P) (hpl : ∀ b, F b → b < w.heap.size) (h0 : ∀ b, Z b → b < w.heap.size) : Calls Tryd.prog 63 #[.pointer (some ⟨p, 0, none⟩)] w fun e w' => ∃ a : Fa, e = .returned (fval (commitF P) a) ∧ Ss (fun b => w.heap.size ≤ b) w' a.so (commitF P).st.length (commitF P).st ∧ Below w.heap.size w w' := by
  refine (commit_any hp hpl h0).mono ?_
  rintro e w' ⟨so, sc, h1, h2, h3⟩
  exact ⟨⟨so, sc, none, 0, none, 0⟩, h1, h2, h3⟩

set_option maxRecDepth 20000 in
set_option maxHeartbeats 2000000 in
theorem toOthersA_any (h : Mb w F Z q M (some p)) (hM : M.own = some P) (B2 : Nat) (b2 : w.cell? ⟨B2, 0, none⟩ = some (.pointer (some ⟨p, 0, none⟩))) :
    Calls Tryd.prog 62 #[.pointer (some ⟨q, 0, none⟩), .func (.func 65) #[.pointer (some ⟨p, 0, none⟩)] #[], .func (.func 66) #[] #[.pointer (some ⟨B2, 0, none⟩)]] w fun e w' => OutsPost (((M.others P).filter (fun i => !hasN P.acc (i : Nat))).map (fun i => (i, (askF P).by_ M.self))) w e w' := by
  obtain ⟨EX, hEX⟩ : ∃ EX, ((M.others P).filter (fun i => !hasN P.acc (i : Nat))).map (fun i => (i, (askF P).by_ M.self)) = EX := ⟨_, rfl⟩
  have HEX : Hid (((M.others P).filter (fun i => !hasN P.acc (i : Nat))).map (fun i => (i, (askF P).by_ M.self)) = EX) := hEX
  rw [hEX]
  clear hEX
  obtain ⟨_, hpe, hp⟩ := h.ownSome hM
  cases hpe
  obtain ⟨i0, hi0, hz0, hz1, hz2⟩ := info_parts info87z
  have hself16 : M.self < 16 := Nat.lt_of_lt_of_le h.sn h.n16
  have c8 := h.cell 8 (by omega)
  have c1 := h.cell 1 (by omega)
  unfold mcell at c8 c1
  unfold ptr at c8
  simp only [Option.map_some] at c8
  have hS : w.drew.cell? ⟨q, 8, none⟩ = some (.pointer (some ⟨p, 0, none⟩)) ∧ w.drew.cell? ⟨q, 1, none⟩ = some (.int .i64 (M.self : Nat)) ∧ w.drew.cell? ⟨p, 2, none⟩ = some (.int .u16 (P.set : Nat)) := ⟨c8, c1, hp.c2⟩
  have hwo := fun W => without_any W P.set hp.s16 ((M.self : Nat) : Int)
  have hw16 := withoutN_lt P.set hp.s16 ((M.self : Nat) : Int)
  have hli := list_any w.drew (withoutN P.set ((M.self : Nat) : Int)) hw16
  have HM : Hid (Mb w F Z q M (some p) ∧ Pb w F Z q p P ∧ w.cell? ⟨B2, 0, none⟩ = some (.pointer (some ⟨p, 0, none⟩))) := ⟨h, hp, b2⟩
  have HF : Hid (∀ b, F b → b < w.heap.size) := h.lt
  have HO : Hid (M.others P = nodes (withoutN P.set ((M.self : Nat) : Int)) 16) := rfl
  obtain ⟨L0, hL0⟩ : ∃ L0, nodes (withoutN P.set ((M.self : Nat) : Int)) 16 = L0 := ⟨_, rfl⟩
  obtain ⟨S0, hS0⟩ : ∃ S0, withoutN P.set ((M.self : Nat) : Int) = S0 := ⟨_, rfl⟩
  have HX : Hid (∀ k x, L0[k]? = some x → x < 16) := fun k x hk => nodes_lt (hL0 ▸ hk)
  rw [hL0] at HO hli
  rw [hS0] at hli hwo
  clear h hp c8 c1 hM hw16 hL0 hS0 b2
  go_enter Tryd.func62, Tryd.ntmps62
  go_wp2_with fail
  refine wp_region_noPanic ?_
  refine wp_region_held_drew (S := fun wx => wx.cell? ⟨q, 8, none⟩ = some (.pointer (some ⟨p, 0, none⟩)) ∧ wx.cell? ⟨q, 1, none⟩ = some (.int .i64 (M.self : Nat)) ∧ wx.cell? ⟨p, 2, none⟩ = some (.int .u16 (P.set : Nat))) (by kernel_rfl) hS (fun hHeld => ?_)
  refine take_first 0 (v := ?_) rfl (by kernel_rfl) (by kernel_rfl) (by kernel_rfl) (fun _ _ _ h => h) (Or.inl ⟨by rfl, by intro wx hSw; (try dsimp only at hSw); obtain ⟨a1, a2, a3⟩ := hSw; go_simp; try with_reducible rfl⟩) (by assumption) ?_
  (try simp only [Act.put, List.setIfInBounds_toArray, List.set_cons_zero, List.set_cons_succ])
  refine take_first 1 (v := ?_) rfl (by kernel_rfl) (by kernel_rfl) (by kernel_rfl) (fun _ _ _ h => h) (Or.inl ⟨by rfl, by intro wx hSw; (try dsimp only at hSw); obtain ⟨a1, a2, a3⟩ := hSw; go_simp; try with_reducible rfl⟩) (by assumption) ?_
  (try simp only [Act.put, List.setIfInBounds_toArray, List.set_cons_zero, List.set_cons_succ])
  refine take_first 2 (v := ?_) rfl (by kernel_rfl) (by kernel_rfl) (by kernel_rfl) (fun _ _ _ h => h) (Or.inl ⟨by rfl, by intro wx hSw; (try dsimp only at hSw); obtain ⟨a1, a2, a3⟩ := hSw; go_simp; try with_reducible rfl⟩) (by assumption) ?_
  (try simp only [Act.put, List.setIfInBounds_toArray, List.set_cons_zero, List.set_cons_succ])
  refine take_first 3 (v := ?_) rfl (by kernel_rfl) (by kernel_rfl) (by kernel_rfl) (fun _ _ _ h => h) (Or.inl ⟨by rfl, by intro wx hSw; (try dsimp only at hSw); obtain ⟨a1, a2, a3⟩ := hSw; go_simp; try with_reducible rfl⟩) (by assumption) ?_
  (try simp only [Act.put, List.setIfInBounds_toArray, List.set_cons_zero, List.set_cons_succ])
  refine take_first 4 (v := ?_) rfl (by kernel_rfl) (by kernel_rfl) (by kernel_rfl) (fun _ _ _ h => h) (Or.inl ⟨by rfl, by intro wx hSw; (try dsimp only at hSw); obtain ⟨a1, a2, a3⟩ := hSw; go_simp; try with_reducible rfl⟩) (by assumption) ?_
  (try simp only [Act.put, List.setIfInBounds_toArray, List.set_cons_zero, List.set_cons_succ])
  refine take_first 5 (v := ?_) rfl (by kernel_rfl) (by kernel_rfl) (by kernel_rfl) (fun _ _ _ h => h) (Or.inl ⟨by rfl, by intro wx hSw; (try dsimp only at hSw); obtain ⟨a1, a2, a3⟩ := hSw; go_simp; try with_reducible rfl⟩) (by assumption) ?_
  (try simp only [Act.put, List.setIfInBounds_toArray, List.set_cons_zero, List.set_cons_succ])
  refine take_first 6 (v := ?_) rfl (by kernel_rfl) (by kernel_rfl) (by kernel_rfl) (fun _ _ _ h => h) (Or.inl ⟨by rfl, by intro wx hSw; (try dsimp only at hSw); obtain ⟨a1, a2, a3⟩ := hSw; go_simp; try with_reducible rfl⟩) (by assumption) ?_
  (try simp only [Act.put, List.setIfInBounds_toArray, List.set_cons_zero, List.set_cons_succ])
  refine take_first 7 (v := ?_) rfl (by kernel_rfl) (by kernel_rfl) (by kernel_rfl) (fun _ _ _ h => h) (Or.inl ⟨by rfl, by intro wx hSw; (try dsimp only at hSw); obtain ⟨a1, a2, a3⟩ := hSw; go_simp; try with_reducible rfl⟩) (by assumption) ?_
  (try simp only [Act.put, List.setIfInBounds_toArray, List.set_cons_zero, List.set_cons_succ])
  refine take_first 8 (v := ?_) rfl (by kernel_rfl) (by kernel_rfl) (by kernel_rfl) (fun _ _ _ h => h) (Or.inl ⟨by rfl, by intro wx hSw; (try dsimp only at hSw); obtain ⟨a1, a2, a3⟩ := hSw; go_simp; try with_reducible rfl⟩) (by assumption) ?_
  (try simp only [Act.put, List.setIfInBounds_toArray, List.set_cons_zero, List.set_cons_succ])
  refine take_first 9 (v := ?_) rfl (by kernel_rfl) (by kernel_rfl) (by kernel_rfl) (fun _ _ _ h => h) (Or.inl ⟨by rfl, by intro wx hSw; (try dsimp only at hSw); obtain ⟨a1, a2, a3⟩ := hSw; go_simp; try with_reducible rfl⟩) (by assumption) ?_
  (try simp only [Act.put, List.setIfInBounds_toArray, List.set_cons_zero, List.set_cons_succ])
  refine take_first 10 (v := ?_) rfl (by kernel_rfl) (by kernel_rfl) (by kernel_rfl) (fun _ _ _ h => h) (Or.inl ⟨by rfl, by intro wx hSw; (try dsimp only at hSw); obtain ⟨a1, a2, a3⟩ := hSw; go_simp; try with_reducible rfl⟩) (by assumption) ?_
  (try simp only [Act.put, List.setIfInBounds_toArray, List.set_cons_zero, List.set_cons_succ])
  refine take_first 11 (v := ?_) rfl (by kernel_rfl) (by kernel_rfl) (by kernel_rfl) (fun _ _ _ h => h) (Or.inl ⟨by rfl, by intro wx hSw; (try dsimp only at hSw); obtain ⟨a1, a2, a3⟩ := hSw; go_simp; try with_reducible rfl⟩) (by assumption) ?_
  (try simp only [Act.put, List.setIfInBounds_toArray, List.set_cons_zero, List.set_cons_succ])
  refine take_first 15 (v := ?_) rfl (by kernel_rfl) (by kernel_rfl) (by kernel_rfl) (fun _ _ _ h => h) (Or.inl ⟨by rfl, by intro wx hSw; (try dsimp only at hSw); obtain ⟨a1, a2, a3⟩ := hSw; go_simp; try with_reducible rfl⟩) (by assumption) ?_
  (try simp only [Act.put, List.setIfInBounds_toArray, List.set_cons_zero, List.set_cons_succ])
  refine comes_up 12 rfl (by kernel_rfl) (fun K hK => ?_)
  go_simp
  refine (hwo _).mono ?_
  rintro e w1 ⟨rfl, rfl⟩
  go_wp2_with fail
  refine hK.out _ _ hS (fun hHeld => ?_)
  clear hK K
  (try simp only [Act.put, List.setIfInBounds_toArray, List.set_cons_zero, List.set_cons_succ])
  refine comes_up 13 rfl (by kernel_rfl) (fun K hK => ?_)
  go_simp
  refine hli.mono ?_
  rintro e w1 ⟨v1, rfl, hown1, hb1⟩
  obtain ⟨hn1, ao1, cap1, rfl, hat1⟩ := ints_at hown1
  have hS1 : w1.cell? ⟨q, 8, none⟩ = some (.pointer (some ⟨p, 0, none⟩)) ∧ w1.cell? ⟨q, 1, none⟩ = some (.int .i64 (M.self : Nat)) ∧ w1.cell? ⟨p, 2, none⟩ = some (.int .u16 (P.set : Nat)) := ⟨bl_cell hb1 hS.1, bl_cell hb1 hS.2.1, bl_cell hb1 hS.2.2⟩
  obtain ⟨n, hn⟩ : ∃ n, cntF 16 S0 = n := ⟨_, rfl⟩
  rw [hn] at hn1 hown1
  have hn16 : n ≤ 16 := by rw [← hn]; exact cntF_le 16 S0
  have HN : Hid (L0.length = n) := hn1.symm
  have HA : Hid (∀ k x, L0[k]? = some x → ∃ g, ao1 = some ⟨g, 0, none⟩ ∧ w1.cell? ⟨g, k, none⟩ = some (.int .i64 (x : Nat))) := fun k x hk => by
    obtain ⟨g, e1, _, _, e2⟩ := hat1 k x hk
    exact ⟨g, e1, e2⟩
  have HB : Hid (Below w.heap.size w w1) := bl_step ((Below.refl _ w).drew) hb1
  rw [hn]
  clear hli hwo hown1 hat1 hb1 hn1 hS hn
  go_wp2_with fail
  refine hK.out _ _ hS1 (fun hHeld => ?_)
  clear hK K
  (try simp only [Act.put, List.setIfInBounds_toArray, List.set_cons_zero, List.set_cons_succ])
  refine take_first 14 (v := ?_) rfl (by kernel_rfl) (by kernel_rfl) (by kernel_rfl) (fun _ _ _ h => h) (Or.inl ⟨by rfl, by intro wx hSw; (try dsimp only at hSw); obtain ⟨a1, a2, a3⟩ := hSw; go_simp; try with_reducible rfl⟩) (by assumption) ?_
  (try simp only [Act.put, List.setIfInBounds_toArray, List.set_cons_zero, List.set_cons_succ])
  refine wpAnyH_done (by kernel_rfl) ?_ _
  refine NoPanic.normal ?_
  clear hS1
  go_wp2_with fail
  go_loopw [7, 9, 25] (fun lv _ kv wr => ∃ (k : Nat) (L : List Ox) (v : Value), k ≤ n ∧ kv = .int .i64 (k : Nat) ∧ lv = v ∧ plainO L = ((L0.take k).filter (fun i => !hasN P.acc (i : Nat))).map (fun i => (i, (askF P).by_ M.self)) ∧ L.length ≤ k ∧ wr.ownsRow w1.heap.size 87 16 v L.length (flatO L) ∧ OIn (fun b => w1.heap.size ≤ b ∧ v.ownBlock ≠ some b) wr L ∧ Below w1.heap.size w1 wr) (fun _ _ kv _ => n - (intOf kv).toNat)
  case atStart => exact ⟨0, [], _, by omega, rfl, rfl, rfl, Nat.le_refl _, World.ownsRow_nil _ _ _ _, (fun x hx => by cases hx), Below.refl _ _⟩
  case round =>
    obtain ⟨k, L, lv, hk, rfl, hlv, hpl, hLk, hown, hin, hb⟩ := hrel
    replace hlv := hlv.symm
    subst hlv
    have HL : Hid (plainO L = ((L0.take k).filter (fun i => !hasN P.acc (i : Nat))).map (fun i => (i, (askF P).by_ M.self)) ∧ wr.ownsRow w1.heap.size 87 16 lv L.length (flatO L) ∧ OIn (fun b => w1.heap.size ≤ b ∧ lv.ownBlock ≠ some b) wr L ∧ Below w1.heap.size w1 wr) := ⟨hpl, hown, hin, hb⟩
    by_cases hlt : k < n
    · have hltI : (k : Int) < (n : Int) := by omega
      have hkL : k < L0.length := by rw [HN.out]; exact hlt
      obtain ⟨t, ht⟩ : ∃ t, L0[k]? = some t := ⟨L0[k]'hkL, List.getElem?_eq_getElem hkL⟩
      obtain ⟨g, hg, hc⟩ := HA.out k t ht
      subst hg
      have ht16 := HX.out k t ht
      have hc' := bl_cell hb hc
      have HT : Hid (L0.take (k + 1) = L0.take k ++ [t]) := by unfold Hid; rw [List.take_add_one, ht]; rfl
      have hbw := bl_step HB.out hb
      have hmb := HM.out.1.still hbw
      have hpb := (HM.out.2.1.frame (w' := wr) (Z' := Z) (fun b hbb => hbw.block b (HF.out b hbb)) (Kp.up hbw) (fun _ h => h))
      have hpk := remind2_any hpb B2 (bl_cell hbw HM.out.2.2) t
      have hk0 : ¬ ((k : Int) < 0) := by omega
      obtain ⟨r, hr⟩ : ∃ r : Bool, (!hasN P.acc (t : Nat)) = r := ⟨_, rfl⟩
      have HR : Hid ((!hasN P.acc (t : Nat)) = r) := hr
      (try rw [hr] at hpk)
      clear hpl hin hb hkL ht hc hr hbw
      cases r with
      | false =>
        clear hown hmb hpb
        go_wp2_with fail
        refine hpk.mono ?_
        rintro e w2 ⟨rfl, b2⟩
        have HE : Hid (∃ L', plainO L' = ((L0.take (k + 1)).filter (fun i => !hasN P.acc (i : Nat))).map (fun i => (i, (askF P).by_ M.self)) ∧ L'.length ≤ k + 1 ∧ w2.ownsRow w1.heap.size 87 16 lv L'.length (flatO L') ∧ OIn (fun b => w1.heap.size ≤ b ∧ lv.ownBlock ≠ some b) w2 L' ∧ Below w1.heap.size w1 w2) := by
          obtain ⟨a1, a2, a3, a5⟩ := HL.out
          refine ⟨L, ?_, by omega, row_block a2 (fun b hb => b2.block b (a2.lt b hb).2), a3.keep (Kp.up b2), bl_step a5 b2⟩
          rw [HT.out, List.filter_append, List.map_append, ← a1]
          have hR := HR.out
          simp [List.filter, hR]
        clear hpk b2 HL hc'
        go_wp2_with fail
        go_roundw
        case rel =>
          obtain ⟨L', e1, e2, e3, e4, e5⟩ := HE.out
          first | exact ⟨k + 1, L', _, by omega, by go_num, rfl, e1, e2, e3, e4, e5⟩ | ((repeat apply Exists.intro); exact ⟨⟨k + 1, L', _, by omega, by go_num, rfl, e1, e2, e3, e4, e5⟩, rfl⟩)
        case measure => simp [intOf]; omega
      | true =>
        clear hmb hpb
        go_wp2_with fail
        refine hpk.mono ?_
        rintro e w2 ⟨rfl, b2⟩
        have hbw2 := bl_step (bl_step HB.out HL.out.2.2.2) b2
        have hpb2 := (HM.out.2.1.frame (w' := w2) (Z' := Z) (fun b hbb => hbw2.block b (HF.out b hbb)) (Kp.up hbw2) (fun _ h => h))
        have hmd := askA_any hpb2 (Nat.lt_of_lt_of_le (HF.out p hpb2.fp) hbw2.size)
        clear hpk hpb2
        go_wp2_with fail
        refine hmd.mono ?_
        rintro e w3 ⟨fa, rfl, hss, b3⟩
        have hbw3 := bl_step hbw2 b3
        have hou := out_any (HM.out.1.still hbw3) t (askF P) fa
        clear hmd hc'
        go_wp2_with fail
        refine hou.mono ?_
        rintro e w4 ⟨rfl, b4⟩
        have hown4 := row_block hown (fun b hb => (b4.block b (Nat.lt_of_lt_of_le (hown.lt b hb).2 (Nat.le_trans b2.size b3.size))).trans ((b3.block b (Nat.lt_of_lt_of_le (hown.lt b hb).2 b2.size)).trans (b2.block b (hown.lt b hb).2)))
        have hown5 := fun ob => hown4.alloc ob
        have HK : Hid (Ss (fun b => w2.heap.size ≤ b) w3 fa.so ((askF P)).st.length ((askF P)).st ∧ Below wr.heap.size wr w2 ∧ Below w2.heap.size w2 w3 ∧ Below w3.heap.size w3 w4 ∧ wr.ownsRow w1.heap.size 87 16 lv L.length (flatO L)) := ⟨hss, b2, b3, b4, hown⟩
        have hsz4 : w1.heap.size ≤ w4.heap.size := (bl_step (bl_step (bl_step HL.out.2.2.2 b2) b3) b4).size
        clear hou hss b2 b3 b4 hbw2 hbw3 hown hown4
        obtain ⟨nL, hnL⟩ : ∃ nL, L.length = nL := ⟨_, rfl⟩
        rw [hnL] at hown5 hLk
        have hnL16 : nL ≤ 16 := by omega
        have HNL : Hid (L.length = nL) := hnL
        clear hnL
        unfold oval ocells fcells
        obtain ⟨Fr, hFr⟩ : ∃ Fr, ((askF P)).by_ M.self = Fr := ⟨_, rfl⟩
        have HFR : Hid (((askF P)).by_ M.self = Fr) := hFr
        simp only [hFr]
        clear hFr
        go_wp2_with (at_builtin; refine wpList_append_own_at _ rfl _ _ 49 rfl w1.heap.size 87 i0 _ 16 176 und49 hi0 hz0 hz1 hz2 rfl (by decide) _ nL (flatO L) rfl ?d1 ⟨w4.heap.size, 0, none⟩ 1 1 (ocells t Fr fa) rfl ?d2 ?d3 ?d4 ?d6 ?d7 ?d8 ?_)
        case d1 => exact hown5 _
        case d2 => rfl
        case d3 => exact fun j u hj => by rw [Addr.add_lit, Nat.zero_add]; exact cell_box w4 _ _ j u (by simpa [ocells, fcells] using hj)
        case d4 => exact ocells_one t Fr fa
        case d6 => unfold maxLen; omega
        case d7 => omega
        case d8 => simp; omega
        intro v' w5 hown6 hgrow hnil hat
        have HE : Hid (∃ L', plainO L' = ((L0.take (k + 1)).filter (fun i => !hasN P.acc (i : Nat))).map (fun i => (i, (askF P).by_ M.self)) ∧ L'.length ≤ k + 1 ∧ w5.ownsRow w1.heap.size 87 16 v' L'.length (flatO L') ∧ OIn (fun b => w1.heap.size ≤ b ∧ v'.ownBlock ≠ some b) w5 L' ∧ Below w1.heap.size w1 w5) := by
          obtain ⟨a1, a2, a3, a5⟩ := HL.out
          obtain ⟨k1, k2, k3, k4, k5⟩ := HK.out
          have hL := HNL.out
          have hres := row_more (w := w1) (w2 := w3) (v' := v') (t := t) (Fr := Fr) (a := fa) k5 a3 a5 (by rw [← HFR.out]; exact k1.imp (fun b _ hb => Nat.le_trans k2.size hb)) (bl_step k2 k3) k4 (by rw [hL]; exact hown6) hgrow (by simpa using hat)
          refine ⟨L ++ [(t, Fr, fa)], ?_, by rw [List.length_append, hL]; simp; omega, hres.1, hres.2.1, hres.2.2⟩
          rw [HT.out, List.filter_append, List.map_append, ← a1]
          have hR := HR.out
          simp [List.filter, hR, plainO, HFR.out]
        clear hown5 hown6 hgrow hnil hat HL HK HFR
        go_wp2_with fail
        go_roundw
        case rel =>
          obtain ⟨L', e1, e2, e3, e4, e5⟩ := HE.out
          first | exact ⟨k + 1, L', _, by omega, by go_num, rfl, e1, e2, e3, e4, e5⟩ | ((repeat apply Exists.intro); exact ⟨⟨k + 1, L', _, by omega, by go_num, rfl, e1, e2, e3, e4, e5⟩, rfl⟩)
        case measure => simp [intOf]; omega
    · obtain rfl : k = n := by omega
      have hfull : L0.take k = L0 := List.take_of_length_le (by rw [HN.out]; exact Nat.le_refl _)
      rw [hfull] at HL
      have hs1 := HB.out.size
      have HE : Hid (plainO L = EX ∧ wr.ownsRow w.heap.size 87 16 lv L.length (flatO L) ∧ OIn (fun b => w.heap.size ≤ b ∧ lv.ownBlock ≠ some b) wr L ∧ Below w.heap.size w wr) :=
        ⟨by rw [← HEX.out, HO.out]; exact HL.out.1, own_lower HL.out.2.1 hs1, HL.out.2.2.1.imp (fun b _ h => ⟨Nat.le_trans hs1 h.1, h.2⟩), bl_step HB.out HL.out.2.2.2⟩
      clear hpl hown hin hb HL
      go_wp2
      go_ret
      exact ⟨_, L, rfl, HE.out⟩

end
end Go.Proofs.YtlonbbepoamnmaaDoor
