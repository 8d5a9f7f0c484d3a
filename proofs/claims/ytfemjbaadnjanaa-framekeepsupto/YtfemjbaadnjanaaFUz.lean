/-
  Bytes that may be written: rows in blocks that are not frozen; the readers of messages and of items say so.
-/
import Derived.Test.YtfemjbaadnjanaaFRead3
namespace Go.Proofs.Ytfemjbaadnjanaa
open Go.RowKit
set_option linter.unusedVariables false
set_option linter.unusedSimpArgs false

/-- The blocks of p are as they were. -/
def Kb (p : Nat → Prop) (w w' : World) : Prop := ∀ b, p b → b < w.heap.size → w'.heap[b]? = w.heap[b]?
theorem Kb.kp {p : Nat → Prop} {w w' : World} (h : Kb p w w') : Kp p w w' := fun ad v hb hc => by
  rw [World.cell?_of_block (w := w) (h _ hb (World.block_lt_of_cell? w _ hc))]; exact hc
theorem Kb.up {p : Nat → Prop} {w w' : World} (h : Below w.heap.size w w') : Kb p w w' := fun b _ hb => h.block b hb
theorem Kb.grown {p : Nat → Prop} {w w' : World} {g : Option Nat} (h : w.grownBy w' g) (hp : ∀ b, p b → g ≠ some b) : Kb p w w' := fun b hb hl => h.block b hl (fun e => hp b hb e.symm)
theorem kb_setCell {p : Nat → Prop} {w : World} {g i : Nat} {v : Value} (hp : ∀ b, p b → b ≠ g) : Kb p w (w.setCell ⟨g, i, none⟩ v) := fun b hb _ => Below.heap_setCell _ _ _ _ (hp b hb)
theorem heap_setRow_other (w : World) (g b : Nat) (cs : Array Value) (h : b ≠ g) : (w.setRow g cs).heap[b]? = w.heap[b]? := setRow_other w g b cs h
theorem kb_setRow {p : Nat → Prop} {w : World} {g : Nat} {cs : Array Value} (hp : ∀ b, p b → b ≠ g) : Kb p w (w.setRow g cs) := fun b hb _ => heap_setRow_other w g b cs (hp b hb)
/-- A block that is not frozen. -/
def Uf (w : World) (b : Nat) : Prop := ∀ o, w.frozen? ⟨b, o, none⟩ = false
theorem Uf.keep {p : Nat → Prop} {w w' : World} {b : Nat} (h : Uf w b) (k : Kb p w w') (hb : p b) (hl : b < w.heap.size) : Uf w' b := fun o => by
  rw [World.frozen?_of_block (w := w) (k b hb hl)]; exact h o
def RxU (p : Nat → Prop) (w : World) (ao : Option Addr) (n cap : Nat) (xs : List UInt8) : Prop := Rx p w ao n cap xs ∧ (0 < n → ∀ a, ao = some a → a.block < w.heap.size ∧ p a.block ∧ Uf w a.block)
section
variable {p q : Nat → Prop} {w w' : World} {ao : Option Addr} {n cap : Nat}
theorem RxU.keep {xs : List UInt8} (h : RxU p w ao n cap xs) (k : Kb p w w') (hs : w.heap.size ≤ w'.heap.size) : RxU p w' ao n cap xs :=
  ⟨h.1.keep k.kp, fun h0 a ha => ⟨Nat.lt_of_lt_of_le (h.2 h0 a ha).1 hs, (h.2 h0 a ha).2.1, (h.2 h0 a ha).2.2.keep k (h.2 h0 a ha).2.1 (h.2 h0 a ha).1⟩⟩
theorem RxU.imp {xs : List UInt8} (h : RxU p w ao n cap xs) (k : ∀ b, b < w.heap.size → p b → q b) : RxU q w ao n cap xs :=
  ⟨h.1.imp k, fun h0 a ha => ⟨(h.2 h0 a ha).1, k _ (h.2 h0 a ha).1 (h.2 h0 a ha).2.1, (h.2 h0 a ha).2.2⟩⟩
/-- Bytes of one's own. -/
theorem own_rxu {B : Nat} {v : Value} {xs : List UInt8} (h : w.ownsRow B 5 1 v n (xs.map Cd.by8)) (hm : n ≤ 140737488355328) : ∃ ao cap, v = .slice ao n cap ∧ RxU (fun b => B ≤ b ∧ v.ownBlock = some b) w ao n cap xs := by
  obtain ⟨ao, cap, rfl, hrx⟩ := own_rx h hm
  refine ⟨ao, cap, rfl, hrx, fun h0 a ha => ?_⟩
  subst ha
  rcases h.2 with ⟨e, _⟩ | ⟨g, cp, cur, e, hb, hg, _⟩
  · cases e
  · obtain ⟨rfl, _, rfl⟩ : a = ⟨g, 0, none⟩ ∧ n = n ∧ cap = cp := by simpa using e
    exact ⟨(Array.getElem?_eq_some_iff.1 hg).1, ⟨hb, rfl⟩, fun o => frozen_of_row w g o _ 5 hg⟩
def RmU (p : Nat → Prop) (w : World) (x : Option Addr × Nat × Nat) (d : List UInt8) : Prop := RxU p w x.1 x.2.1 x.2.2 d
def ItU (p : Nat → Prop) (w : World) (x : Ix) (d : Di) : Prop := x.1 = d.1 ∧ RxU p w x.2.1 x.2.2.1 x.2.2.2 d.2
def MsU (p : Nat → Prop) (w : World) (ao : Option Addr) (n : Nat) (ms : List (List UInt8)) : Prop := ∃ xs, MR p w ao n xs ∧ ms.length = n ∧ ∀ (j : Nat) x m, xs[j]? = some x → ms[j]? = some m → RmU p w x m
def ItsU (p : Nat → Prop) (w : World) (ao : Option Addr) (n : Nat) (ds : List Di) : Prop := ∃ xs, IR p w ao n xs ∧ ds.length = n ∧ ∀ (j : Nat) (x : Ix) (d : Di), xs[j]? = some x → ds[j]? = some d → ItU p w x d
theorem RmU.keep {x : Option Addr × Nat × Nat} {d : List UInt8} (h : RmU p w x d) (k : Kb p w w') (hs : w.heap.size ≤ w'.heap.size) : RmU p w' x d := RxU.keep h k hs
theorem RmU.imp {x : Option Addr × Nat × Nat} {d : List UInt8} (h : RmU p w x d) (k : ∀ b, b < w.heap.size → p b → q b) : RmU q w x d := RxU.imp h k
theorem ItU.keep {x : Ix} {d : Di} (h : ItU p w x d) (k : Kb p w w') (hs : w.heap.size ≤ w'.heap.size) : ItU p w' x d := ⟨h.1, h.2.keep k hs⟩
theorem ItU.imp {x : Ix} {d : Di} (h : ItU p w x d) (k : ∀ b, b < w.heap.size → p b → q b) : ItU q w x d := ⟨h.1, h.2.imp k⟩
theorem MsU.keep {ms : List (List UInt8)} (h : MsU p w ao n ms) (k : Kb p w w') (hs : w.heap.size ≤ w'.heap.size) : MsU p w' ao n ms := by
  obtain ⟨xs, h1, h2, h3⟩ := h
  exact ⟨xs, h1.keep k.kp, h2, fun j x d hx hd => (h3 j x d hx hd).keep k hs⟩
theorem MsU.imp {ms : List (List UInt8)} (h : MsU p w ao n ms) (k : ∀ b, b < w.heap.size → p b → q b) : MsU q w ao n ms := by
  obtain ⟨xs, h1, h2, h3⟩ := h
  exact ⟨xs, h1.imp k, h2, fun j x d hx hd => (h3 j x d hx hd).imp k⟩
theorem MsU.nil (p : Nat → Prop) (w : World) : MsU p w none 0 [] := ⟨[], ⟨rfl, by omega, fun _ => rfl, fun h => by omega⟩, rfl, fun j x d hx => by simp at hx⟩
theorem MsU.ms {ms : List (List UInt8)} (h : MsU p w ao n ms) : MsX p w ao n ms := by
  obtain ⟨xs, h1, h2, h3⟩ := h
  exact ⟨xs, h1, h2, fun j x d hx hd => (h3 j x d hx hd).1⟩
theorem ItsU.keep {ds : List Di} (h : ItsU p w ao n ds) (k : Kb p w w') (hs : w.heap.size ≤ w'.heap.size) : ItsU p w' ao n ds := by
  obtain ⟨xs, h1, h2, h3⟩ := h
  exact ⟨xs, h1.keep k.kp, h2, fun j x d hx hd => (h3 j x d hx hd).keep k hs⟩
theorem ItsU.imp {ds : List Di} (h : ItsU p w ao n ds) (k : ∀ b, b < w.heap.size → p b → q b) : ItsU q w ao n ds := by
  obtain ⟨xs, h1, h2, h3⟩ := h
  exact ⟨xs, h1.imp k, h2, fun j x d hx hd => (h3 j x d hx hd).imp k⟩
theorem ItsU.nil (p : Nat → Prop) (w : World) : ItsU p w none 0 [] := ⟨[], ⟨rfl, by omega, fun _ => rfl, fun h => by omega⟩, rfl, fun j x d hx => by simp at hx⟩
theorem ItsU.its {ds : List Di} (h : ItsU p w ao n ds) : ItsX p w ao n ds := by
  obtain ⟨xs, h1, h2, h3⟩ := h
  exact ⟨xs, h1, h2, fun j x d hx hd => ⟨(h3 j x d hx hd).1, (h3 j x d hx hd).2.1⟩⟩
end
section
variable {X D : Type} {In : (Nat → Prop) → World → X → D → Prop} {cells : List X → List Value} {e s B : Nat} {w w' : World} {v : Value} {xs : List X} {ds : List D}
theorem RowG.upU (h : RowG In cells e s B w v xs ds) (hk : ∀ {p : Nat → Prop} {x : X} {d : D}, In p w x d → Kb p w w' → w.heap.size ≤ w'.heap.size → In p w' x d) (u : Below w.heap.size w w') : RowG In cells e s B w' v xs ds :=
  ⟨own_up h.1 u, h.2.1, fun j x d hx hd => hk (h.2.2 j x d hx hd) (Kb.up u) u.size⟩
theorem RowG.keepOldU {r : Nat} (h : RowG In cells e s B w v xs ds) (hk : ∀ {p : Nat → Prop} {x : X} {d : D}, In p w x d → Kb p w w' → w.heap.size ≤ w'.heap.size → In p w' x d) (g : w.grownBy w' (some r)) (hr : r < B) : RowG In cells e s B w' v xs ds := by
  refine ⟨h.1.kept g ?_, h.2.1, fun j x d hx hd => hk (h.2.2 j x d hx hd) (Kb.grown g (fun b hb => by have := hb.1; simp; omega)) g.size⟩
  cases hb : v.ownBlock with
  | none => exact Or.inl rfl
  | some k => exact Or.inr (by have := (h.1.lt k hb).1; simp; omega)
theorem RowG.stepU {c : Nat} {x : X} {d : D} {v' : Value} (h : RowG In cells e s B w v xs ds) (hk : ∀ {p : Nat → Prop} {x : X} {d : D}, In p w x d → Kb p w w' → w.heap.size ≤ w'.heap.size → In p w' x d) (hi : ∀ {p q : Nat → Prop} {w : World} {x : X} {d : D}, In p w x d → (∀ b, b < w.heap.size → p b → q b) → In q w x d)
    (hv : ∀ b, v.ownBlock = some b → b < c) (hx : In (fun b => c ≤ b) w x d) (hc : B ≤ c) (hown : w'.ownsRow B e s v' (xs ++ [x]).length (cells (xs ++ [x]))) (g : w.grownBy w' v.ownBlock) (hat : v'.ownBlock = v.ownBlock ∨ v'.ownBlock = some w.heap.size) : RowG In cells e s B w' v' (xs ++ [x]) (ds ++ [d]) := by
  refine ⟨hown, by rw [List.length_append, List.length_append, h.2.1]; rfl, fun j y z hy hz => ?_⟩
  have kp : Kb (fun b => B ≤ b ∧ v.ownBlock ≠ some b ∧ v'.ownBlock ≠ some b) w w' := Kb.grown g (fun b hb => hb.2.1)
  have hl := h.2.1
  have hne : ∀ b, b < w.heap.size → v.ownBlock ≠ some b → v'.ownBlock ≠ some b := fun b hb hn => by
    rcases hat with e | e
    · rw [e]; exact hn
    · rw [e]; intro h; simp at h; omega
  by_cases hj : j < xs.length
  · rw [List.getElem?_append_left hj] at hy
    rw [List.getElem?_append_left (by omega)] at hz
    have h1 := hi (q := fun b => B ≤ b ∧ v.ownBlock ≠ some b ∧ v'.ownBlock ≠ some b) (h.2.2 j y z hy hz) (fun b hb hp => ⟨hp.1, hp.2, hne b hb hp.2⟩)
    exact hi (hk h1 kp g.size) (fun b _ hp => ⟨hp.1, hp.2.2⟩)
  · have hj2 : j < (xs ++ [x]).length := (List.getElem?_eq_some_iff.1 hy).1
    rw [List.length_append, List.length_singleton] at hj2
    obtain rfl : j = xs.length := by omega
    rw [List.getElem?_append_right (Nat.le_refl _)] at hy
    rw [List.getElem?_append_right (by omega)] at hz
    simp at hy
    have hz' : ds.length = xs.length := hl
    rw [hz', Nat.sub_self] at hz
    simp at hz
    subst hy hz
    have h1 := hi (q := fun b => B ≤ b ∧ v.ownBlock ≠ some b ∧ v'.ownBlock ≠ some b) hx (fun b hb hp => by
      have hn : v.ownBlock ≠ some b := fun e => by have := hv b e; omega
      exact ⟨by omega, hn, hne b hb hn⟩)
    exact hi (hk h1 kp g.size) (fun b _ hp => ⟨hp.1, hp.2.2⟩)
end
theorem RowG.itsU {B : Nat} {w : World} {v : Value} {xs : List Ix} {ds : List Di} (h : RowG ItU cellI 49 2 B w v xs ds) (hn : ds.length ≤ 4096) : ∃ ao cap, v = .slice ao ds.length cap ∧ ItsU (fun b => B ≤ b) w ao ds.length ds := by
  obtain ⟨h1, h2, h3⟩ := h
  rw [← h2] at h1
  rcases IR.own h1 (by omega) with ⟨rfl, h0⟩ | ⟨g, cap, rfl, hg, _, _, hI⟩
  · have : ds = [] := List.eq_nil_of_length_eq_zero h0
    subst this
    exact ⟨none, 0, rfl, ItsU.nil _ _⟩
  · exact ⟨_, cap, rfl, xs, hI.imp (fun b _ hb => by rw [hb]; exact hg), rfl, fun j x d hx hd => (h3 j x d hx hd).imp (fun b _ hb => hb.1)⟩
theorem RowG.mssU {B : Nat} {w : World} {v : Value} {xs : List (Option Addr × Nat × Nat)} {ds : List (List UInt8)} (h : RowG RmU cellM 33 1 B w v xs ds) (hn : ds.length ≤ 4096) : ∃ ao cap, v = .slice ao ds.length cap ∧ MsU (fun b => B ≤ b) w ao ds.length ds := by
  obtain ⟨h1, h2, h3⟩ := h
  rw [← h2] at h1
  rcases own_shape h1 with ⟨rfl, h0⟩ | ⟨g, cap, rfl, hg, _⟩
  · have : ds = [] := List.eq_nil_of_length_eq_zero h0
    subst this
    exact ⟨none, 0, rfl, MsU.nil _ _⟩
  · refine ⟨_, cap, rfl, xs, ⟨h2.symm, by omega, fun e => (by cases e), fun _ => ⟨g, 0, rfl, hg, fun j x hj => ?_⟩⟩, rfl, fun j x d hx hd => (h3 j x d hx hd).imp (fun b _ hb => hb.1)⟩
    rw [Nat.zero_add]
    refine own_cell h1 j _ ?_
    unfold cellM
    rw [List.getElem?_map, hj]
    rfl
set_option maxRecDepth 10000 in
theorem readMessageU (w : World) (r : Nat) (st : St) (h : Cd.Rd w r st) (hl : sl st) :
    Calls Try.prog 66 #[.pointer (some ⟨r, 0, none⟩)] w fun e w' => ∃ x : Option Addr × Nat × Nat, e = .returned (.slice x.1 x.2.1 x.2.2) ∧ RxU (fun b => w.heap.size ≤ b) w' x.1 x.2.1 x.2.2 (rMsg st).1 ∧ Cd.Rd w' r (rMsg st).2 ∧ w.grownBy w' (some r) := by
  have hi := Cd.bytes_rd w r st h 1048576 (by omega) (by omega) (fun xs hx => by have := hl xs hx; omega)
  have HM : Hid (rMsg st = Cd.rBytes st 1048576) := rfl
  have hml : (Cd.rBytes st 1048576).1.length ≤ 1048576 := rMsg_small st
  rw [HM.out]
  generalize Cd.rBytes st 1048576 = rb at *
  obtain ⟨bs, s⟩ := rb
  simp only at *
  clear h hl HM
  go_enter Try.func66, Try.ntmps66
  go_wp2_with fail
  refine hi.mono ?_
  rintro e w1 ⟨v, rfl, hown, hrd, hg⟩
  obtain ⟨ao, cap, rfl, hrx⟩ := own_rxu hown (by omega)
  have HX : Hid (RxU (fun b => w.heap.size ≤ b) w1 ao bs.length cap bs) := hrx.imp (fun b _ hb => hb.1)
  generalize bs.length = n at *
  clear hi hown hrx hml
  go_wp2
  go_ret
  exact ⟨(ao, n, cap), rfl, HX.out, hrd, hg⟩

set_option maxRecDepth 10000 in
set_option maxHeartbeats 1000000 in
theorem readItemU (w : World) (r : Nat) (st : St) (h : Cd.Rd w r st) (hl : sl st) :
    Calls Try.prog 68 #[.pointer (some ⟨r, 0, none⟩)] w fun e w' => ∃ x : Ix, e = .returned (.agg #[.int .i64 x.1, .slice x.2.1 x.2.2.1 x.2.2.2]) ∧ ItU (fun b => w.heap.size ≤ b) w' x (rItem st).1 ∧ Cd.Rd w' r (rItem st).2 ∧ w.grownBy w' (some r) := by
  have hrl := h.lt
  have hn := readNode_any (w.alloc (.cells #[.int .i64 0, .slice none 0 0] 49)) r st (rd_alloc h _)
  have hm := fun W (hW : Cd.Rd W r (Cd.rInt st 15).2) => readMessageU W r (Cd.rInt st 15).2 hW (sl_int hl)
  have HI : Hid (rItem st = (((((Cd.rInt st 15).1 : Nat) : Int), (rMsg (Cd.rInt st 15).2).1), (rMsg (Cd.rInt st 15).2).2)) := rfl
  rw [HI.out]
  generalize Cd.rInt st 15 = ri at *
  obtain ⟨F, s1⟩ := ri
  simp only at *
  generalize rMsg s1 = rm at *
  obtain ⟨bs, s2⟩ := rm
  simp only at *
  clear h hl HI
  go_enter Try.func68, Try.ntmps68
  go_wp2_with fail
  refine hn.mono ?_
  rintro e w1 ⟨rfl, hrd1, hg1⟩
  have hm1 := hm w1 hrd1
  have f1 : w1.heap[w.heap.size]? = some (.cells #[.int .i64 0, .slice none 0 0] 49 (0, 0)) := (hg1.block w.heap.size (by simp) (by simp; omega)).trans (heap_alloc_new _ _)
  have hg01 : w.grownBy w1 (some r) := Cd.grown_trans (gr_alloc0 w _ _) hg1
  have hs1 : w.heap.size < w1.heap.size := by have := hg1.size; simp at this; omega
  clear hn hm hrd1 hg1
  go_wp2_with fail
  refine hm1.mono ?_
  rintro e w2 ⟨⟨bo, bn, bc⟩, rfl, hrx, hrd2, hg2⟩
  simp only at hrx
  have f2 : w2.heap[w.heap.size]? = some (.cells #[.int .i64 0, .slice none 0 0] 49 (0, 0)) := (hg2.block w.heap.size hs1 (by simp; omega)).trans f1
  have hg02 : w.grownBy w2 (some r) := Cd.grown_trans hg01 hg2
  have HE : Hid (Cd.Rd (w2.setRow w.heap.size #[.int .i64 (F : Nat), .slice bo bn bc]) r s2 ∧ w.grownBy (w2.setRow w.heap.size #[.int .i64 (F : Nat), .slice bo bn bc]) (some r) ∧ RxU (fun b => w.heap.size ≤ b) (w2.setRow w.heap.size #[.int .i64 (F : Nat), .slice bo bn bc]) bo bn bc bs) := by
    refine ⟨rd_setRow' hrd2 (by omega), gr_setRow' hg02 (Nat.le_refl _) _, ?_⟩
    have h1 := hrx.imp (q := fun b => w.heap.size ≤ b ∧ b ≠ w.heap.size) (fun b _ hb => by omega)
    exact (h1.keep (p := fun b => w.heap.size ≤ b ∧ b ≠ w.heap.size) (kb_setRow (fun b hb => hb.2)) (by simp [World.setRow])).imp (fun b _ hb => hb.1)
  have hset := setRow_heap w2 w.heap.size _ #[.int .i64 (F : Nat), .slice bo bn bc] 49 (0, 0) f2
  clear hm1 hrx hrd2 hg2 hg01 hg02 f1
  go_wp2_with (first | (refine wpList_store_row rfl 49 (.tmp 2) (.tmp 7) rfl w.heap.size #[.int .i64 (F : Nat), .slice bo bn bc] rfl rfl 49 _ f2 (by kernel_rfl) rfl (by simp [Value.oneCell']) ?_))
  refine bodyPost_ret (results_cell1 (g := w.heap.size) (cs := #[.int .i64 (F : Nat), .slice bo bn bc]) Try.results68 rfl (run_loadVar_row _ w.heap.size 49 49 _ (0, 0) _ hset Try.underlying49 rfl (by kernel_rfl))) rfl ?_
  exact ⟨((F : Nat), bo, bn, bc), rfl, ⟨rfl, HE.out.2.2⟩, HE.out.1, HE.out.2.1⟩
set_option maxRecDepth 10000 in
set_option maxHeartbeats 1000000 in
theorem readListIU (w : World) (r : Nat) (st : St) (h : Cd.Rd w r st) (hl : sl st) :
    Calls Try.prog 67 #[.pointer (some ⟨r, 0, none⟩), .func (.func 68) #[] #[]] w fun e w' => ∃ v xs, e = .returned v ∧ RowG ItU cellI 49 2 w.heap.size w' v xs (rMany rItem st).1 ∧ Cd.Rd w' r (rMany rItem st).2 ∧ w.grownBy w' (some r) := by
  obtain ⟨i0, hi0, hz0, hz1, hz2⟩ := info_parts infoI
  have hrl := h.lt
  have hin := Cd.int_rd w r st h 4096 (by omega) (by omega)
  have hle : (Cd.rInt st 4096).1 ≤ 4096 := rInt_small st 4096
  have hsl1 : sl (Cd.rInt st 4096).2 := sl_int hl
  have HM : Hid (rMany rItem st = rList rItem (Cd.rInt st 4096).1 (Cd.rInt st 4096).2) := rfl
  have HN0 : Hid ((Cd.rInt st 4096).2 = none → (Cd.rInt st 4096).1 = 0) := rInt_none0 st 4096
  generalize Cd.rInt st 4096 = ri at *
  obtain ⟨N, s0⟩ := ri
  simp only at *
  clear h hl
  go_enter Try.func67, Try.ntmps67
  go_wp2_with fail
  refine hin.mono ?_
  rintro e w0 ⟨rfl, hrd0, hg0⟩
  have HR0 : Hid (Cd.Rd w0 r s0 ∧ w.grownBy w0 (some r) ∧ sl s0) := ⟨hrd0, hg0, hsl1⟩
  clear hin hrd0 hg0 hsl1
  go_wp2_with fail
  go_loopw [5, 6, 9] (fun lv _ iv wr => ∃ (k : Nat) (xs : List Ix) (ds : List Di) (sk : St), k ≤ N ∧ iv = .int .i64 k ∧ xs.length = k ∧ RowG ItU cellI 49 2 w.heap.size wr lv xs ds ∧ Cd.Rd wr r sk ∧ w.grownBy wr (some r) ∧ sl sk ∧ (k < N → sk ≠ none) ∧ (0 < k → sk ≠ none) ∧ rList rItem N s0 = comb ds (rList rItem (N - k) sk)) (fun _ _ iv _ => N - (intOf iv).toNat)
  case atStart =>
    refine ⟨0, [], [], s0, by omega, rfl, rfl, RowG.nil _ _ _ _ _ _ rfl, HR0.out.1, HR0.out.2.1, HR0.out.2.2, fun h0 e => ?_, fun h => by omega, ?_⟩
    · have := HN0.out e; omega
    · rw [Nat.sub_zero]; exact (comb_nil_list _ (fun e => rList_none e)).symm
  case round =>
    obtain ⟨k, xs, ds, sk, hk, rfl, hxk, hrow, hrd, hg, hsl, hne, hne0, hrel⟩ := hrel
    have HREL : Hid (rList rItem N s0 = comb ds (rList rItem (N - k) sk)) := hrel
    have HROW : Hid (RowG ItU cellI 49 2 w.heap.size wr u5 xs ds) := hrow
    have HXK : Hid (xs.length = k) := hxk
    clear hrel hrow hxk HR0 HN0
    by_cases hlt : k < N
    · have hltI : (k : Int) < (N : Int) := by omega
      have hel := readItemU wr r sk hrd hsl
      have hsl' : sl (rItem sk).2 := sl_item hsl
      have HST : Hid (rList rItem (N - k) sk = match (rItem sk).2 with
        | none => ([], none)
        | some ys => match (rList rItem (N - (k + 1)) (some ys)).2 with
          | none => ([], none)
          | some zs => ((rItem sk).1 :: (rList rItem (N - (k + 1)) (some ys)).1, some zs)) := by
        show _ = _
        rw [show N - k = (N - (k + 1)) + 1 by omega]
        rfl
      have hws := hg.size
      generalize rItem sk = re at *
      obtain ⟨d, s1⟩ := re
      simp only at *
      clear hne hne0 hsl hrd
      go_wp2_with fail
      refine hel.mono ?_
      rintro e w1 ⟨x, rfl, hx, hrd1, hg1⟩
      have hs1 := hg1.size
      have hg01 := Cd.grown_trans hg hg1
      have hrd2 : Cd.Rd (w1.alloc (.cells #[.int .i64 x.1, .slice x.2.1 x.2.2.1 x.2.2.2] 49)) r s1 := Cd.rd_below hrd1 (bl1 w1 _)
      have hbad := Cd.bad_rd _ r s1 hrd2
      clear hel
      go_wp2_with fail
      refine hbad.mono ?_
      rintro e w9 ⟨rfl, rfl⟩
      clear hbad
      cases s1 with
      | none =>
        have HF : Hid (rMany rItem st = ([], none)) := by
          show _ = _
          rw [HM.out, HREL.out, HST.out]
          rfl
        have HG : Hid (Cd.Rd (w1.alloc (.cells #[.int .i64 x.1, .slice x.2.1 x.2.2.1 x.2.2.2] 49)) r none ∧ w.grownBy (w1.alloc (.cells #[.int .i64 x.1, .slice x.2.1 x.2.2.1 x.2.2.2] 49)) (some r)) := ⟨hrd2, gr_up hg01 (bl1 w1 _)⟩
        clear HREL HST HM HROW HXK hx hrd1 hg1 hg01 hrd2 hg hsl'
        go_wp2
        go_ret
        rw [HF.out]
        exact ⟨_, [], rfl, RowG.nil _ _ _ _ _ _ rfl, HG.out.1, HG.out.2⟩
      | some ys =>
        have HREL2 : Hid (rList rItem N s0 = comb (ds ++ [d]) (rList rItem (N - (k + 1)) (some ys))) := by
          show _ = _
          rw [HREL.out, HST.out]
          exact comb_step _ _ _
        have hb13 : Below w1.heap.size w1 ((w1.alloc (.cells #[.int .i64 x.1, .slice x.2.1 x.2.2.1 x.2.2.2] 49)).alloc (.cells #[.int .i64 x.1, .slice x.2.1 x.2.2.1 x.2.2.2] 49)) := bl2 w1 _ _
        have HROW3 : Hid (RowG ItU cellI 49 2 w.heap.size ((w1.alloc (.cells #[.int .i64 x.1, .slice x.2.1 x.2.2.1 x.2.2.2] 49)).alloc (.cells #[.int .i64 x.1, .slice x.2.1 x.2.2.1 x.2.2.2] 49)) u5 xs ds ∧ ∀ b, u5.ownBlock = some b → b < wr.heap.size) :=
          ⟨(HROW.out.keepOldU (fun h k hs => ItU.keep h k hs) hg1 hrl).upU (fun h k hs => ItU.keep h k hs) hb13, fun b hb => (HROW.out.1.lt b hb).2⟩
        have hown3 := HROW3.out.1.1
        rw [HXK.out] at hown3
        have HG3 : Hid (Cd.Rd ((w1.alloc (.cells #[.int .i64 x.1, .slice x.2.1 x.2.2.1 x.2.2.2] 49)).alloc (.cells #[.int .i64 x.1, .slice x.2.1 x.2.2.1 x.2.2.2] 49)) r (some ys) ∧ w.grownBy ((w1.alloc (.cells #[.int .i64 x.1, .slice x.2.1 x.2.2.1 x.2.2.2] 49)).alloc (.cells #[.int .i64 x.1, .slice x.2.1 x.2.2.1 x.2.2.2] 49)) (some r) ∧ sl (some ys)) := ⟨Cd.rd_below hrd1 hb13, gr_up hg01 hb13, hsl'⟩
        have hcx : ∀ j u, ([.int .i64 x.1, .slice x.2.1 x.2.2.1 x.2.2.2] : List Value)[j]? = some u → ((w1.alloc (.cells #[.int .i64 x.1, .slice x.2.1 x.2.2.1 x.2.2.2] 49)).alloc (.cells #[.int .i64 x.1, .slice x.2.1 x.2.2.1 x.2.2.2] 49)).cell? ((⟨w1.heap.size + 1, 0, none⟩ : Addr).add j) = some u := fun j u hj => by
          rw [Addr.add_lit, Nat.zero_add]
          have := cell_box (w1.alloc (.cells #[.int .i64 x.1, .slice x.2.1 x.2.2.1 x.2.2.2] 49)) #[.int .i64 x.1, .slice x.2.1 x.2.2.1 x.2.2.2] 49 j u (by simpa using hj)
          simpa using this
        have HX3 : Hid (ItU (fun b => wr.heap.size ≤ b) ((w1.alloc (.cells #[.int .i64 x.1, .slice x.2.1 x.2.2.1 x.2.2.2] 49)).alloc (.cells #[.int .i64 x.1, .slice x.2.1 x.2.2.1 x.2.2.2] 49)) x d) := ItU.keep hx (Kb.up hb13) (hb13).size
        have hs3 : ((w1.alloc (.cells #[.int .i64 x.1, .slice x.2.1 x.2.2.1 x.2.2.2] 49)).alloc (.cells #[.int .i64 x.1, .slice x.2.1 x.2.2.1 x.2.2.2] 49)).heap.size = w1.heap.size + 1 + 1 := by simp
        clear HREL HST HROW hx hrd1 hg1 hg01 hrd2 hg hsl' hb13
        go_wp2_with (first | (at_builtin; refine wpList_append_own_at _ rfl _ _ 28 rfl w.heap.size 49 i0 (.agg #[.int .i64 0, .slice none 0 0]) 2 32 und29 hi0 hz0 hz1 hz2 rfl (by decide) _ k _ rfl hown3 ⟨w1.heap.size + 1, 0, none⟩ 1 1 [.int .i64 x.1, .slice x.2.1 x.2.2.1 x.2.2.2] rfl ?d2 ?d3 ?d4 ?d6 ?d7 ?d8 ?_))
        case d2 => rfl
        case d3 => exact hcx
        case d4 => simp [Value.oneCell']
        case d6 => unfold maxLen; omega
        case d7 => omega
        case d8 => omega
        intro v' w4 hown4 hgr4 hnil hat
        have HROW4 : Hid (RowG ItU cellI 49 2 w.heap.size w4 v' (xs ++ [x]) (ds ++ [d])) :=
          HROW3.out.1.stepU (fun h k hs => ItU.keep h k hs) (fun h k => ItU.imp h k) HROW3.out.2 HX3.out (by omega) (by rw [List.length_append, HXK.out, cellI_snoc]; exact hown4) hgr4 (by rw [hs3]; exact hat)
        have HG4 : Hid (Cd.Rd w4 r (some ys) ∧ w.grownBy w4 (some r)) := by
          have hge : ∀ b, u5.ownBlock = some b → w.heap.size ≤ b := fun b hb => (HROW3.out.1.1.lt b hb).1
          refine ⟨rd_grown HG3.out.1 hgr4 (fun b e => by have := hge b e; omega), ?_⟩
          have := HG3.out.2.1
          exact ⟨hgr4.os.trans this.os, hgr4.tape.trans this.tape, hgr4.output.trans this.output, Nat.le_trans this.size hgr4.size, fun i hi hne => (hgr4.block i (by have := this.size; omega) (fun e => by have := hge i e.symm; omega)).trans (this.block i hi hne)⟩
        have HSL : Hid (sl (some ys)) := HG3.out.2.2
        clear HROW3 HX3 hown3 hown4 hgr4 hnil hat hcx HG3 hs3
        go_wp2
        go_roundw
        case rel => first | exact ⟨k + 1, xs ++ [x], ds ++ [d], some ys, by omega, by go_num, by rw [List.length_append, HXK.out]; rfl, HROW4.out, HG4.out.1, HG4.out.2, HSL.out, fun _ => by simp, fun _ => by simp, HREL2.out⟩ | ((repeat apply Exists.intro); exact ⟨⟨k + 1, xs ++ [x], ds ++ [d], some ys, by omega, by go_num, by rw [List.length_append, HXK.out]; rfl, HROW4.out, HG4.out.1, HG4.out.2, HSL.out, fun _ => by simp, fun _ => by simp, HREL2.out⟩, rfl⟩)
        case measure => simp [intOf]; omega
    · obtain rfl : k = N := by omega
      have HF : Hid (rMany rItem st = (ds, sk)) := by
        show _ = _
        rw [HM.out, HREL.out, Nat.sub_self]
        have hdl := HROW.out.2.1
        rw [HXK.out] at hdl
        exact comb_end (fun e => by
          have : ¬ 0 < k := fun h => hne0 h e
          exact List.eq_nil_of_length_eq_zero (by omega))
      clear HREL HM hne hne0 hsl
      go_wp2
      go_ret
      rw [HF.out]
      exact ⟨_, xs, rfl, HROW.out, hrd, hg⟩

set_option maxRecDepth 10000 in
set_option maxHeartbeats 1000000 in
theorem readListMU (w : World) (r : Nat) (st : St) (h : Cd.Rd w r st) (hl : sl st) :
    Calls Try.prog 65 #[.pointer (some ⟨r, 0, none⟩), .func (.func 66) #[] #[]] w fun e w' => ∃ v xs, e = .returned v ∧ RowG RmU cellM 33 1 w.heap.size w' v xs (rMany rMsg st).1 ∧ Cd.Rd w' r (rMany rMsg st).2 ∧ w.grownBy w' (some r) := by
  obtain ⟨i0, hi0, hz0, hz1, hz2⟩ := info_parts infoM33
  have hrl := h.lt
  have hin := Cd.int_rd w r st h 4096 (by omega) (by omega)
  have hle : (Cd.rInt st 4096).1 ≤ 4096 := rInt_small st 4096
  have hsl1 : sl (Cd.rInt st 4096).2 := sl_int hl
  have HM : Hid (rMany rMsg st = rList rMsg (Cd.rInt st 4096).1 (Cd.rInt st 4096).2) := rfl
  have HN0 : Hid ((Cd.rInt st 4096).2 = none → (Cd.rInt st 4096).1 = 0) := rInt_none0 st 4096
  generalize Cd.rInt st 4096 = ri at *
  obtain ⟨N, s0⟩ := ri
  simp only at *
  clear h hl
  go_enter Try.func65, Try.ntmps65
  go_wp2_with fail
  refine hin.mono ?_
  rintro e w0 ⟨rfl, hrd0, hg0⟩
  have HR0 : Hid (Cd.Rd w0 r s0 ∧ w.grownBy w0 (some r) ∧ sl s0) := ⟨hrd0, hg0, hsl1⟩
  clear hin hrd0 hg0 hsl1
  go_wp2_with fail
  go_loopw [5, 6, 9] (fun lv _ iv wr => ∃ (k : Nat) (xs : List (Option Addr × Nat × Nat)) (ds : List (List UInt8)) (sk : St), k ≤ N ∧ iv = .int .i64 k ∧ xs.length = k ∧ RowG RmU cellM 33 1 w.heap.size wr lv xs ds ∧ Cd.Rd wr r sk ∧ w.grownBy wr (some r) ∧ sl sk ∧ (k < N → sk ≠ none) ∧ (0 < k → sk ≠ none) ∧ rList rMsg N s0 = comb ds (rList rMsg (N - k) sk)) (fun _ _ iv _ => N - (intOf iv).toNat)
  case atStart =>
    refine ⟨0, [], [], s0, by omega, rfl, rfl, RowG.nil _ _ _ _ _ _ rfl, HR0.out.1, HR0.out.2.1, HR0.out.2.2, fun h0 e => ?_, fun h => by omega, ?_⟩
    · have := HN0.out e; omega
    · rw [Nat.sub_zero]; exact (comb_nil_list _ (fun e => rList_none e)).symm
  case round =>
    obtain ⟨k, xs, ds, sk, hk, rfl, hxk, hrow, hrd, hg, hsl, hne, hne0, hrel⟩ := hrel
    have HREL : Hid (rList rMsg N s0 = comb ds (rList rMsg (N - k) sk)) := hrel
    have HROW : Hid (RowG RmU cellM 33 1 w.heap.size wr u5 xs ds) := hrow
    have HXK : Hid (xs.length = k) := hxk
    clear hrel hrow hxk HR0 HN0
    by_cases hlt : k < N
    · have hltI : (k : Int) < (N : Int) := by omega
      have hel := readMessageU wr r sk hrd hsl
      have hsl' : sl (rMsg sk).2 := sl_msg hsl
      have HST : Hid (rList rMsg (N - k) sk = match (rMsg sk).2 with
        | none => ([], none)
        | some ys => match (rList rMsg (N - (k + 1)) (some ys)).2 with
          | none => ([], none)
          | some zs => ((rMsg sk).1 :: (rList rMsg (N - (k + 1)) (some ys)).1, some zs)) := by
        show _ = _
        rw [show N - k = (N - (k + 1)) + 1 by omega]
        rfl
      have hws := hg.size
      generalize rMsg sk = re at *
      obtain ⟨d, s1⟩ := re
      simp only at *
      clear hne hne0 hsl hrd
      go_wp2_with fail
      refine hel.mono ?_
      rintro e w1 ⟨x, rfl, hx, hrd1, hg1⟩
      have hs1 := hg1.size
      have hg01 := Cd.grown_trans hg hg1
      have hrd2 : Cd.Rd w1 r s1 := Cd.rd_below hrd1 (Below.refl _ _)
      have hbad := Cd.bad_rd _ r s1 hrd2
      clear hel
      go_wp2_with fail
      refine hbad.mono ?_
      rintro e w9 ⟨rfl, rfl⟩
      clear hbad
      cases s1 with
      | none =>
        have HF : Hid (rMany rMsg st = ([], none)) := by
          show _ = _
          rw [HM.out, HREL.out, HST.out]
          rfl
        have HG : Hid (Cd.Rd w1 r none ∧ w.grownBy w1 (some r)) := ⟨hrd2, gr_up hg01 (Below.refl _ _)⟩
        clear HREL HST HM HROW HXK hx hrd1 hg1 hg01 hrd2 hg hsl'
        go_wp2
        go_ret
        rw [HF.out]
        exact ⟨_, [], rfl, RowG.nil _ _ _ _ _ _ rfl, HG.out.1, HG.out.2⟩
      | some ys =>
        have HREL2 : Hid (rList rMsg N s0 = comb (ds ++ [d]) (rList rMsg (N - (k + 1)) (some ys))) := by
          show _ = _
          rw [HREL.out, HST.out]
          exact comb_step _ _ _
        have hb13 : Below w1.heap.size w1 (w1.alloc (.cells #[.slice x.1 x.2.1 x.2.2] 33)) := bl1 w1 _
        have HROW3 : Hid (RowG RmU cellM 33 1 w.heap.size (w1.alloc (.cells #[.slice x.1 x.2.1 x.2.2] 33)) u5 xs ds ∧ ∀ b, u5.ownBlock = some b → b < wr.heap.size) :=
          ⟨(HROW.out.keepOldU (fun h k hs => RmU.keep h k hs) hg1 hrl).upU (fun h k hs => RmU.keep h k hs) hb13, fun b hb => (HROW.out.1.lt b hb).2⟩
        have hown3 := HROW3.out.1.1
        rw [HXK.out] at hown3
        have HG3 : Hid (Cd.Rd (w1.alloc (.cells #[.slice x.1 x.2.1 x.2.2] 33)) r (some ys) ∧ w.grownBy (w1.alloc (.cells #[.slice x.1 x.2.1 x.2.2] 33)) (some r) ∧ sl (some ys)) := ⟨Cd.rd_below hrd1 hb13, gr_up hg01 hb13, hsl'⟩
        have hcx : ∀ j u, ([.slice x.1 x.2.1 x.2.2] : List Value)[j]? = some u → (w1.alloc (.cells #[.slice x.1 x.2.1 x.2.2] 33)).cell? ((⟨w1.heap.size, 0, none⟩ : Addr).add j) = some u := fun j u hj => by
          rw [Addr.add_lit, Nat.zero_add]
          have := cell_box w1 #[.slice x.1 x.2.1 x.2.2] 33 j u (by simpa using hj)
          simpa using this
        have HX3 : Hid (RmU (fun b => wr.heap.size ≤ b) (w1.alloc (.cells #[.slice x.1 x.2.1 x.2.2] 33)) x d) := RmU.keep hx (Kb.up hb13) (hb13).size
        have hs3 : (w1.alloc (.cells #[.slice x.1 x.2.1 x.2.2] 33)).heap.size = w1.heap.size + 1 := by simp
        clear HREL HST HROW hx hrd1 hg1 hg01 hrd2 hg hsl' hb13
        go_wp2_with (first | (at_builtin; refine wpList_append_own_at _ rfl _ _ 27 rfl w.heap.size 33 i0 (.slice none 0 0) 1 24 und27 hi0 hz0 hz1 hz2 rfl (by decide) _ k _ rfl hown3 ⟨w1.heap.size, 0, none⟩ 1 1 [.slice x.1 x.2.1 x.2.2] rfl ?d2 ?d3 ?d4 ?d6 ?d7 ?d8 ?_))
        case d2 => rfl
        case d3 => exact hcx
        case d4 => simp [Value.oneCell']
        case d6 => unfold maxLen; omega
        case d7 => omega
        case d8 => omega
        intro v' w4 hown4 hgr4 hnil hat
        have HROW4 : Hid (RowG RmU cellM 33 1 w.heap.size w4 v' (xs ++ [x]) (ds ++ [d])) :=
          HROW3.out.1.stepU (fun h k hs => RmU.keep h k hs) (fun h k => RmU.imp h k) HROW3.out.2 HX3.out (by omega) (by rw [List.length_append, HXK.out, cellM_snoc]; exact hown4) hgr4 (by rw [hs3]; exact hat)
        have HG4 : Hid (Cd.Rd w4 r (some ys) ∧ w.grownBy w4 (some r)) := by
          have hge : ∀ b, u5.ownBlock = some b → w.heap.size ≤ b := fun b hb => (HROW3.out.1.1.lt b hb).1
          refine ⟨rd_grown HG3.out.1 hgr4 (fun b e => by have := hge b e; omega), ?_⟩
          have := HG3.out.2.1
          exact ⟨hgr4.os.trans this.os, hgr4.tape.trans this.tape, hgr4.output.trans this.output, Nat.le_trans this.size hgr4.size, fun i hi hne => (hgr4.block i (by have := this.size; omega) (fun e => by have := hge i e.symm; omega)).trans (this.block i hi hne)⟩
        have HSL : Hid (sl (some ys)) := HG3.out.2.2
        clear HROW3 HX3 hown3 hown4 hgr4 hnil hat hcx HG3 hs3
        go_wp2
        go_roundw
        case rel => first | exact ⟨k + 1, xs ++ [x], ds ++ [d], some ys, by omega, by go_num, by rw [List.length_append, HXK.out]; rfl, HROW4.out, HG4.out.1, HG4.out.2, HSL.out, fun _ => by simp, fun _ => by simp, HREL2.out⟩ | ((repeat apply Exists.intro); exact ⟨⟨k + 1, xs ++ [x], ds ++ [d], some ys, by omega, by go_num, by rw [List.length_append, HXK.out]; rfl, HROW4.out, HG4.out.1, HG4.out.2, HSL.out, fun _ => by simp, fun _ => by simp, HREL2.out⟩, rfl⟩)
        case measure => simp [intOf]; omega
    · obtain rfl : k = N := by omega
      have HF : Hid (rMany rMsg st = (ds, sk)) := by
        show _ = _
        rw [HM.out, HREL.out, Nat.sub_self]
        have hdl := HROW.out.2.1
        rw [HXK.out] at hdl
        exact comb_end (fun e => by
          have : ¬ 0 < k := fun h => hne0 h e
          exact List.eq_nil_of_length_eq_zero (by omega))
      clear HREL HM hne hne0 hsl
      go_wp2
      go_ret
      rw [HF.out]
      exact ⟨_, xs, rfl, HROW.out, hrd, hg⟩
end Go.Proofs.Ytfemjbaadnjanaa
