/-
  Reading of lists of items and of messages, and of states (package frame).
-/
import Derived.Test.YtfemjbaadnjanaaFRead
import Derived.Maps.AppendAt
namespace Go.Proofs.Ytfemjbaadnjanaa
open Go.RowKit
set_option linter.unusedVariables false
set_option linter.unusedSimpArgs false

/-- What was read, and what is read behind it. -/
def comb {α : Type} (ds : List α) (r : List α × St) : List α × St := match r.2 with
  | none => ([], none)
  | some zs => (ds ++ r.1, some zs)
theorem rList_none {α : Type} {r : St → α × St} : ∀ {n : Nat} {st : St}, (rList r n st).2 = none → (rList r n st).1 = []
  | 0, st, h => rfl
  | n + 1, st, h => by
    rw [rList] at h ⊢
    cases h1 : (r st).2 with
    | none => rfl
    | some ys =>
      rw [h1] at h
      simp only at h ⊢
      cases h2 : (rList r n (some ys)).2 with
      | none => rfl
      | some zs => rw [h2] at h; cases h
theorem comb_nil_list {α : Type} (r : List α × St) (h : r.2 = none → r.1 = []) : comb [] r = r := by
  obtain ⟨l, s⟩ := r
  cases s with
  | none => rw [show l = [] from h rfl]; rfl
  | some zs => rfl
theorem comb_step {α : Type} (ds : List α) (d : α) (r : List α × St) : comb ds (match r.2 with | none => ([], none) | some zs => (d :: r.1, some zs)) = comb (ds ++ [d]) r := by
  obtain ⟨l, s⟩ := r
  cases s with
  | none => rfl
  | some zs => simp [comb]
theorem comb_end {α : Type} {r : St → α × St} {ds : List α} {sk : St} (h : sk = none → ds = []) : comb ds (rList r 0 sk) = (ds, sk) := by
  cases sk with
  | none => rw [h rfl]; rfl
  | some zs => simp [comb, rList]

/-- A row of one's own, and what its parts say. -/
def RowG {X D : Type} (In : (Nat → Prop) → World → X → D → Prop) (cells : List X → List Value) (e s B : Nat) (w : World) (v : Value) (xs : List X) (ds : List D) : Prop :=
  w.ownsRow B e s v xs.length (cells xs) ∧ ds.length = xs.length ∧ ∀ (j : Nat) (x : X) (d : D), xs[j]? = some x → ds[j]? = some d → In (fun b => B ≤ b ∧ v.ownBlock ≠ some b) w x d
section
variable {X D : Type} {In : (Nat → Prop) → World → X → D → Prop} {cells : List X → List Value} {e s B : Nat} {w w' : World} {v : Value} {xs : List X} {ds : List D}
theorem RowG.nil (In : (Nat → Prop) → World → X → D → Prop) (cells : List X → List Value) (e s B : Nat) (w : World) (hc : cells [] = []) : RowG In cells e s B w (.slice none 0 0) [] [] :=
  ⟨by rw [hc]; exact World.ownsRow_nil _ _ _ _, rfl, fun j x d hx => by simp at hx⟩
theorem RowG.up (h : RowG In cells e s B w v xs ds) (hk : ∀ {p : Nat → Prop} {x : X} {d : D}, In p w x d → Kp p w w' → In p w' x d) (u : Below w.heap.size w w') : RowG In cells e s B w' v xs ds :=
  ⟨own_up h.1 u, h.2.1, fun j x d hx hd => hk (h.2.2 j x d hx hd) (Kp.up u)⟩
theorem RowG.keepOld {r : Nat} (h : RowG In cells e s B w v xs ds) (hk : ∀ {p : Nat → Prop} {x : X} {d : D}, In p w x d → Kp p w w' → In p w' x d) (g : w.grownBy w' (some r)) (hr : r < B) : RowG In cells e s B w' v xs ds := by
  refine ⟨h.1.kept g ?_, h.2.1, fun j x d hx hd => hk (h.2.2 j x d hx hd) (Kp.grown g (fun b hb => by have := hb.1; omega))⟩
  cases hb : v.ownBlock with
  | none => exact Or.inl rfl
  | some k => exact Or.inr (by have := (h.1.lt k hb).1; simp; omega)
theorem RowG.step {c : Nat} {x : X} {d : D} {v' : Value} (h : RowG In cells e s B w v xs ds) (hk : ∀ {p : Nat → Prop} {x : X} {d : D}, In p w x d → Kp p w w' → In p w' x d) (hi : ∀ {p q : Nat → Prop} {w : World} {x : X} {d : D}, In p w x d → (∀ b, b < w.heap.size → p b → q b) → In q w x d)
    (hv : ∀ b, v.ownBlock = some b → b < c) (hx : In (fun b => c ≤ b) w x d) (hc : B ≤ c) (hown : w'.ownsRow B e s v' (xs ++ [x]).length (cells (xs ++ [x]))) (g : w.grownBy w' v.ownBlock) (hat : v'.ownBlock = v.ownBlock ∨ v'.ownBlock = some w.heap.size) : RowG In cells e s B w' v' (xs ++ [x]) (ds ++ [d]) := by
  refine ⟨hown, by rw [List.length_append, List.length_append, h.2.1]; rfl, fun j y z hy hz => ?_⟩
  have kp : Kp (fun b => B ≤ b ∧ v.ownBlock ≠ some b ∧ v'.ownBlock ≠ some b) w w' := fun ad u hb hc => g.cell hc (fun e => hb.2.1 e.symm)
  have hl := h.2.1
  have hne : ∀ b, b < w.heap.size → v.ownBlock ≠ some b → v'.ownBlock ≠ some b := fun b hb hn => by
    rcases hat with e | e
    · rw [e]; exact hn
    · rw [e]; intro h; simp at h; omega
  by_cases hj : j < xs.length
  · rw [List.getElem?_append_left hj] at hy
    rw [List.getElem?_append_left (by omega)] at hz
    have h1 := hi (q := fun b => B ≤ b ∧ v.ownBlock ≠ some b ∧ v'.ownBlock ≠ some b) (h.2.2 j y z hy hz) (fun b hb hp => ⟨hp.1, hp.2, hne b hb hp.2⟩)
    exact hi (hk h1 kp) (fun b _ hp => ⟨hp.1, hp.2.2⟩)
  · have hj2 : j < (xs ++ [x]).length := (List.getElem?_eq_some_iff.1 hy).1
    rw [List.length_append, List.length_singleton] at hj2
    obtain rfl : j = xs.length := by omega
    rw [List.getElem?_append_right (Nat.le_refl _)] at hy
    rw [List.getElem?_append_right (by omega)] at hz
    simp at hy
    have hz' : ds.length = xs.length := hl
    rw [hz', Nat.sub_self] at hz
    simp at hz
    subst hy hz
    have h1 := hi (q := fun b => B ≤ b ∧ v.ownBlock ≠ some b ∧ v'.ownBlock ≠ some b) hx (fun b hb hp => by
      have hn : v.ownBlock ≠ some b := fun e => by have := hv b e; omega
      exact ⟨by omega, hn, hne b hb hn⟩)
    exact hi (hk h1 kp) (fun b _ hp => ⟨hp.1, hp.2.2⟩)
end
theorem ItX.keep {p : Nat → Prop} {w w' : World} {x : Ix} {d : Di} (h : ItX p w x d) (k : Kp p w w') : ItX p w' x d := ⟨h.1, h.2.keep k⟩
theorem ItX.imp {p q : Nat → Prop} {w : World} {x : Ix} {d : Di} (h : ItX p w x d) (k : ∀ b, b < w.heap.size → p b → q b) : ItX q w x d := ⟨h.1, h.2.imp k⟩
theorem SiX.imp {p q : Nat → Prop} {w : World} {x : Sx} {d : Sd} (h : SiX p w x d) (k : ∀ b, b < w.heap.size → p b → q b) : SiX q w x d := ⟨h.1, h.2.1, h.2.2.1, h.2.2.2.imp k⟩
def RmX (p : Nat → Prop) (w : World) (x : Option Addr × Nat × Nat) (d : List UInt8) : Prop := Rx p w x.1 x.2.1 x.2.2 d
theorem RmX.keep {p : Nat → Prop} {w w' : World} {x : Option Addr × Nat × Nat} {d : List UInt8} (h : RmX p w x d) (k : Kp p w w') : RmX p w' x d := Rx.keep h k
theorem RmX.imp {p q : Nat → Prop} {w : World} {x : Option Addr × Nat × Nat} {d : List UInt8} (h : RmX p w x d) (k : ∀ b, b < w.heap.size → p b → q b) : RmX q w x d := Rx.imp h k
def cellM (xs : List (Option Addr × Nat × Nat)) : List Value := xs.map (fun x => .slice x.1 x.2.1 x.2.2)
theorem cellM_snoc (xs : List (Option Addr × Nat × Nat)) (x : Option Addr × Nat × Nat) : cellM (xs ++ [x]) = cellM xs ++ [.slice x.1 x.2.1 x.2.2] := by simp [cellM]
theorem cellI_snoc (xs : List Ix) (x : Ix) : cellI (xs ++ [x]) = cellI xs ++ [.int .i64 x.1, .slice x.2.1 x.2.2.1 x.2.2.2] := by simp [cellI]
theorem flat_snoc (xs : List Sx) (x : Sx) : flat (xs ++ [x]) = flat xs ++ [.int .u64 (x.1 : Nat), .int .i64 x.2.1, .int .i64 x.2.2.1, .slice x.2.2.2.1 x.2.2.2.2.1 x.2.2.2.2.2] := by simp [flat, cellsS]
theorem infoM33 : (Try.prog.info? 33).map (fun i => (i.zero, i.size, i.bytes)) = some (some (.slice none 0 0), 1, 24) := by kernel_rfl
theorem infoS52 : (Try.prog.info? 52).map (fun i => (i.zero, i.size, i.bytes)) = some (some (.agg #[.int .u64 0, .int .i64 0, .int .i64 0, .slice none 0 0]), 4, 48) := by kernel_rfl
theorem und27 : Try.prog.underlying 27 = some (.slice 33) := by kernel_rfl

set_option maxRecDepth 10000 in
set_option maxHeartbeats 1000000 in
theorem readListI_any (w : World) (r : Nat) (st : St) (h : Cd.Rd w r st) (hl : sl st) :
    Calls Try.prog 67 #[.pointer (some ⟨r, 0, none⟩), .func (.func 68) #[] #[]] w fun e w' => ∃ v xs, e = .returned v ∧ RowG ItX cellI 49 2 w.heap.size w' v xs (rMany rItem st).1 ∧ Cd.Rd w' r (rMany rItem st).2 ∧ w.grownBy w' (some r) := by
  obtain ⟨i0, hi0, hz0, hz1, hz2⟩ := info_parts infoI
  have hrl := h.lt
  have hin := Cd.int_rd w r st h 4096 (by omega) (by omega)
  have hle : (Cd.rInt st 4096).1 ≤ 4096 := rInt_small st 4096
  have hsl1 : sl (Cd.rInt st 4096).2 := sl_int hl
  have HM : Hid (rMany rItem st = rList rItem (Cd.rInt st 4096).1 (Cd.rInt st 4096).2) := rfl
  have HN0 : Hid ((Cd.rInt st 4096).2 = none → (Cd.rInt st 4096).1 = 0) := rInt_none0 st 4096
  generalize Cd.rInt st 4096 = ri at *
  obtain ⟨N, s0⟩ := ri
  simp only at *
  clear h hl
  go_enter Try.func67, Try.ntmps67
  go_wp2_with fail
  refine hin.mono ?_
  rintro e w0 ⟨rfl, hrd0, hg0⟩
  have HR0 : Hid (Cd.Rd w0 r s0 ∧ w.grownBy w0 (some r) ∧ sl s0) := ⟨hrd0, hg0, hsl1⟩
  clear hin hrd0 hg0 hsl1
  go_wp2_with fail
  go_loopw [5, 6, 9] (fun lv _ iv wr => ∃ (k : Nat) (xs : List Ix) (ds : List Di) (sk : St), k ≤ N ∧ iv = .int .i64 k ∧ xs.length = k ∧ RowG ItX cellI 49 2 w.heap.size wr lv xs ds ∧ Cd.Rd wr r sk ∧ w.grownBy wr (some r) ∧ sl sk ∧ (k < N → sk ≠ none) ∧ (0 < k → sk ≠ none) ∧ rList rItem N s0 = comb ds (rList rItem (N - k) sk)) (fun _ _ iv _ => N - (intOf iv).toNat)
  case atStart =>
    refine ⟨0, [], [], s0, by omega, rfl, rfl, RowG.nil _ _ _ _ _ _ rfl, HR0.out.1, HR0.out.2.1, HR0.out.2.2, fun h0 e => ?_, fun h => by omega, ?_⟩
    · have := HN0.out e; omega
    · rw [Nat.sub_zero]; exact (comb_nil_list _ (fun e => rList_none e)).symm
  case round =>
    obtain ⟨k, xs, ds, sk, hk, rfl, hxk, hrow, hrd, hg, hsl, hne, hne0, hrel⟩ := hrel
    have HREL : Hid (rList rItem N s0 = comb ds (rList rItem (N - k) sk)) := hrel
    have HROW : Hid (RowG ItX cellI 49 2 w.heap.size wr u5 xs ds) := hrow
    have HXK : Hid (xs.length = k) := hxk
    clear hrel hrow hxk HR0 HN0
    by_cases hlt : k < N
    · have hltI : (k : Int) < (N : Int) := by omega
      have hel := readItem_any wr r sk hrd hsl
      have hsl' : sl (rItem sk).2 := sl_item hsl
      have HST : Hid (rList rItem (N - k) sk = match (rItem sk).2 with
        | none => ([], none)
        | some ys => match (rList rItem (N - (k + 1)) (some ys)).2 with
          | none => ([], none)
          | some zs => ((rItem sk).1 :: (rList rItem (N - (k + 1)) (some ys)).1, some zs)) := by
        show _ = _
        rw [show N - k = (N - (k + 1)) + 1 by omega]
        rfl
      have hws := hg.size
      generalize rItem sk = re at *
      obtain ⟨d, s1⟩ := re
      simp only at *
      clear hne hne0 hsl hrd
      go_wp2_with fail
      refine hel.mono ?_
      rintro e w1 ⟨x, rfl, hx, hrd1, hg1⟩
      have hs1 := hg1.size
      have hg01 := Cd.grown_trans hg hg1
      have hrd2 : Cd.Rd (w1.alloc (.cells #[.int .i64 x.1, .slice x.2.1 x.2.2.1 x.2.2.2] 49)) r s1 := Cd.rd_below hrd1 (bl1 w1 _)
      have hbad := Cd.bad_rd _ r s1 hrd2
      clear hel
      go_wp2_with fail
      refine hbad.mono ?_
      rintro e w9 ⟨rfl, rfl⟩
      clear hbad
      cases s1 with
      | none =>
        have HF : Hid (rMany rItem st = ([], none)) := by
          show _ = _
          rw [HM.out, HREL.out, HST.out]
          rfl
        have HG : Hid (Cd.Rd (w1.alloc (.cells #[.int .i64 x.1, .slice x.2.1 x.2.2.1 x.2.2.2] 49)) r none ∧ w.grownBy (w1.alloc (.cells #[.int .i64 x.1, .slice x.2.1 x.2.2.1 x.2.2.2] 49)) (some r)) := ⟨hrd2, gr_up hg01 (bl1 w1 _)⟩
        clear HREL HST HM HROW HXK hx hrd1 hg1 hg01 hrd2 hg hsl'
        go_wp2
        go_ret
        rw [HF.out]
        exact ⟨_, [], rfl, RowG.nil _ _ _ _ _ _ rfl, HG.out.1, HG.out.2⟩
      | some ys =>
        have HREL2 : Hid (rList rItem N s0 = comb (ds ++ [d]) (rList rItem (N - (k + 1)) (some ys))) := by
          show _ = _
          rw [HREL.out, HST.out]
          exact comb_step _ _ _
        have hb13 : Below w1.heap.size w1 ((w1.alloc (.cells #[.int .i64 x.1, .slice x.2.1 x.2.2.1 x.2.2.2] 49)).alloc (.cells #[.int .i64 x.1, .slice x.2.1 x.2.2.1 x.2.2.2] 49)) := bl2 w1 _ _
        have HROW3 : Hid (RowG ItX cellI 49 2 w.heap.size ((w1.alloc (.cells #[.int .i64 x.1, .slice x.2.1 x.2.2.1 x.2.2.2] 49)).alloc (.cells #[.int .i64 x.1, .slice x.2.1 x.2.2.1 x.2.2.2] 49)) u5 xs ds ∧ ∀ b, u5.ownBlock = some b → b < wr.heap.size) :=
          ⟨(HROW.out.keepOld (fun h k => ItX.keep h k) hg1 hrl).up (fun h k => ItX.keep h k) hb13, fun b hb => (HROW.out.1.lt b hb).2⟩
        have hown3 := HROW3.out.1.1
        rw [HXK.out] at hown3
        have HG3 : Hid (Cd.Rd ((w1.alloc (.cells #[.int .i64 x.1, .slice x.2.1 x.2.2.1 x.2.2.2] 49)).alloc (.cells #[.int .i64 x.1, .slice x.2.1 x.2.2.1 x.2.2.2] 49)) r (some ys) ∧ w.grownBy ((w1.alloc (.cells #[.int .i64 x.1, .slice x.2.1 x.2.2.1 x.2.2.2] 49)).alloc (.cells #[.int .i64 x.1, .slice x.2.1 x.2.2.1 x.2.2.2] 49)) (some r) ∧ sl (some ys)) := ⟨Cd.rd_below hrd1 hb13, gr_up hg01 hb13, hsl'⟩
        have hcx : ∀ j u, ([.int .i64 x.1, .slice x.2.1 x.2.2.1 x.2.2.2] : List Value)[j]? = some u → ((w1.alloc (.cells #[.int .i64 x.1, .slice x.2.1 x.2.2.1 x.2.2.2] 49)).alloc (.cells #[.int .i64 x.1, .slice x.2.1 x.2.2.1 x.2.2.2] 49)).cell? ((⟨w1.heap.size + 1, 0, none⟩ : Addr).add j) = some u := fun j u hj => by
          rw [Addr.add_lit, Nat.zero_add]
          have := cell_box (w1.alloc (.cells #[.int .i64 x.1, .slice x.2.1 x.2.2.1 x.2.2.2] 49)) #[.int .i64 x.1, .slice x.2.1 x.2.2.1 x.2.2.2] 49 j u (by simpa using hj)
          simpa using this
        have HX3 : Hid (ItX (fun b => wr.heap.size ≤ b) ((w1.alloc (.cells #[.int .i64 x.1, .slice x.2.1 x.2.2.1 x.2.2.2] 49)).alloc (.cells #[.int .i64 x.1, .slice x.2.1 x.2.2.1 x.2.2.2] 49)) x d) := ItX.keep hx (Kp.up hb13)
        have hs3 : ((w1.alloc (.cells #[.int .i64 x.1, .slice x.2.1 x.2.2.1 x.2.2.2] 49)).alloc (.cells #[.int .i64 x.1, .slice x.2.1 x.2.2.1 x.2.2.2] 49)).heap.size = w1.heap.size + 1 + 1 := by simp
        clear HREL HST HROW hx hrd1 hg1 hg01 hrd2 hg hsl' hb13
        go_wp2_with (first | (at_builtin; refine wpList_append_own_at _ rfl _ _ 28 rfl w.heap.size 49 i0 (.agg #[.int .i64 0, .slice none 0 0]) 2 32 und29 hi0 hz0 hz1 hz2 rfl (by decide) _ k _ rfl hown3 ⟨w1.heap.size + 1, 0, none⟩ 1 1 [.int .i64 x.1, .slice x.2.1 x.2.2.1 x.2.2.2] rfl ?d2 ?d3 ?d4 ?d6 ?d7 ?d8 ?_))
        case d2 => rfl
        case d3 => exact hcx
        case d4 => simp [Value.oneCell']
        case d6 => unfold maxLen; omega
        case d7 => omega
        case d8 => omega
        intro v' w4 hown4 hgr4 hnil hat
        have HROW4 : Hid (RowG ItX cellI 49 2 w.heap.size w4 v' (xs ++ [x]) (ds ++ [d])) :=
          HROW3.out.1.step (fun h k => ItX.keep h k) (fun h k => ItX.imp h k) HROW3.out.2 HX3.out (by omega) (by rw [List.length_append, HXK.out, cellI_snoc]; exact hown4) hgr4 (by rw [hs3]; exact hat)
        have HG4 : Hid (Cd.Rd w4 r (some ys) ∧ w.grownBy w4 (some r)) := by
          have hge : ∀ b, u5.ownBlock = some b → w.heap.size ≤ b := fun b hb => (HROW3.out.1.1.lt b hb).1
          refine ⟨rd_grown HG3.out.1 hgr4 (fun b e => by have := hge b e; omega), ?_⟩
          have := HG3.out.2.1
          exact ⟨hgr4.os.trans this.os, hgr4.tape.trans this.tape, hgr4.output.trans this.output, Nat.le_trans this.size hgr4.size, fun i hi hne => (hgr4.block i (by have := this.size; omega) (fun e => by have := hge i e.symm; omega)).trans (this.block i hi hne)⟩
        have HSL : Hid (sl (some ys)) := HG3.out.2.2
        clear HROW3 HX3 hown3 hown4 hgr4 hnil hat hcx HG3 hs3
        go_wp2
        go_roundw
        case rel => first | exact ⟨k + 1, xs ++ [x], ds ++ [d], some ys, by omega, by go_num, by rw [List.length_append, HXK.out]; rfl, HROW4.out, HG4.out.1, HG4.out.2, HSL.out, fun _ => by simp, fun _ => by simp, HREL2.out⟩ | ((repeat apply Exists.intro); exact ⟨⟨k + 1, xs ++ [x], ds ++ [d], some ys, by omega, by go_num, by rw [List.length_append, HXK.out]; rfl, HROW4.out, HG4.out.1, HG4.out.2, HSL.out, fun _ => by simp, fun _ => by simp, HREL2.out⟩, rfl⟩)
        case measure => simp [intOf]; omega
    · obtain rfl : k = N := by omega
      have HF : Hid (rMany rItem st = (ds, sk)) := by
        show _ = _
        rw [HM.out, HREL.out, Nat.sub_self]
        have hdl := HROW.out.2.1
        rw [HXK.out] at hdl
        exact comb_end (fun e => by
          have : ¬ 0 < k := fun h => hne0 h e
          exact List.eq_nil_of_length_eq_zero (by omega))
      clear HREL HM hne hne0 hsl
      go_wp2
      go_ret
      rw [HF.out]
      exact ⟨_, xs, rfl, HROW.out, hrd, hg⟩

set_option maxRecDepth 10000 in
set_option maxHeartbeats 1000000 in
theorem readListM_any (w : World) (r : Nat) (st : St) (h : Cd.Rd w r st) (hl : sl st) :
    Calls Try.prog 65 #[.pointer (some ⟨r, 0, none⟩), .func (.func 66) #[] #[]] w fun e w' => ∃ v xs, e = .returned v ∧ RowG RmX cellM 33 1 w.heap.size w' v xs (rMany rMsg st).1 ∧ Cd.Rd w' r (rMany rMsg st).2 ∧ w.grownBy w' (some r) := by
  obtain ⟨i0, hi0, hz0, hz1, hz2⟩ := info_parts infoM33
  have hrl := h.lt
  have hin := Cd.int_rd w r st h 4096 (by omega) (by omega)
  have hle : (Cd.rInt st 4096).1 ≤ 4096 := rInt_small st 4096
  have hsl1 : sl (Cd.rInt st 4096).2 := sl_int hl
  have HM : Hid (rMany rMsg st = rList rMsg (Cd.rInt st 4096).1 (Cd.rInt st 4096).2) := rfl
  have HN0 : Hid ((Cd.rInt st 4096).2 = none → (Cd.rInt st 4096).1 = 0) := rInt_none0 st 4096
  generalize Cd.rInt st 4096 = ri at *
  obtain ⟨N, s0⟩ := ri
  simp only at *
  clear h hl
  go_enter Try.func65, Try.ntmps65
  go_wp2_with fail
  refine hin.mono ?_
  rintro e w0 ⟨rfl, hrd0, hg0⟩
  have HR0 : Hid (Cd.Rd w0 r s0 ∧ w.grownBy w0 (some r) ∧ sl s0) := ⟨hrd0, hg0, hsl1⟩
  clear hin hrd0 hg0 hsl1
  go_wp2_with fail
  go_loopw [5, 6, 9] (fun lv _ iv wr => ∃ (k : Nat) (xs : List (Option Addr × Nat × Nat)) (ds : List (List UInt8)) (sk : St), k ≤ N ∧ iv = .int .i64 k ∧ xs.length = k ∧ RowG RmX cellM 33 1 w.heap.size wr lv xs ds ∧ Cd.Rd wr r sk ∧ w.grownBy wr (some r) ∧ sl sk ∧ (k < N → sk ≠ none) ∧ (0 < k → sk ≠ none) ∧ rList rMsg N s0 = comb ds (rList rMsg (N - k) sk)) (fun _ _ iv _ => N - (intOf iv).toNat)
  case atStart =>
    refine ⟨0, [], [], s0, by omega, rfl, rfl, RowG.nil _ _ _ _ _ _ rfl, HR0.out.1, HR0.out.2.1, HR0.out.2.2, fun h0 e => ?_, fun h => by omega, ?_⟩
    · have := HN0.out e; omega
    · rw [Nat.sub_zero]; exact (comb_nil_list _ (fun e => rList_none e)).symm
  case round =>
    obtain ⟨k, xs, ds, sk, hk, rfl, hxk, hrow, hrd, hg, hsl, hne, hne0, hrel⟩ := hrel
    have HREL : Hid (rList rMsg N s0 = comb ds (rList rMsg (N - k) sk)) := hrel
    have HROW : Hid (RowG RmX cellM 33 1 w.heap.size wr u5 xs ds) := hrow
    have HXK : Hid (xs.length = k) := hxk
    clear hrel hrow hxk HR0 HN0
    by_cases hlt : k < N
    · have hltI : (k : Int) < (N : Int) := by omega
      have hel := readMessage_any wr r sk hrd hsl
      have hsl' : sl (rMsg sk).2 := sl_msg hsl
      have HST : Hid (rList rMsg (N - k) sk = match (rMsg sk).2 with
        | none => ([], none)
        | some ys => match (rList rMsg (N - (k + 1)) (some ys)).2 with
          | none => ([], none)
          | some zs => ((rMsg sk).1 :: (rList rMsg (N - (k + 1)) (some ys)).1, some zs)) := by
        show _ = _
        rw [show N - k = (N - (k + 1)) + 1 by omega]
        rfl
      have hws := hg.size
      generalize rMsg sk = re at *
      obtain ⟨d, s1⟩ := re
      simp only at *
      clear hne hne0 hsl hrd
      go_wp2_with fail
      refine hel.mono ?_
      rintro e w1 ⟨x, rfl, hx, hrd1, hg1⟩
      have hs1 := hg1.size
      have hg01 := Cd.grown_trans hg hg1
      have hrd2 : Cd.Rd w1 r s1 := Cd.rd_below hrd1 (Below.refl _ _)
      have hbad := Cd.bad_rd _ r s1 hrd2
      clear hel
      go_wp2_with fail
      refine hbad.mono ?_
      rintro e w9 ⟨rfl, rfl⟩
      clear hbad
      cases s1 with
      | none =>
        have HF : Hid (rMany rMsg st = ([], none)) := by
          show _ = _
          rw [HM.out, HREL.out, HST.out]
          rfl
        have HG : Hid (Cd.Rd w1 r none ∧ w.grownBy w1 (some r)) := ⟨hrd2, gr_up hg01 (Below.refl _ _)⟩
        clear HREL HST HM HROW HXK hx hrd1 hg1 hg01 hrd2 hg hsl'
        go_wp2
        go_ret
        rw [HF.out]
        exact ⟨_, [], rfl, RowG.nil _ _ _ _ _ _ rfl, HG.out.1, HG.out.2⟩
      | some ys =>
        have HREL2 : Hid (rList rMsg N s0 = comb (ds ++ [d]) (rList rMsg (N - (k + 1)) (some ys))) := by
          show _ = _
          rw [HREL.out, HST.out]
          exact comb_step _ _ _
        have hb13 : Below w1.heap.size w1 (w1.alloc (.cells #[.slice x.1 x.2.1 x.2.2] 33)) := bl1 w1 _
        have HROW3 : Hid (RowG RmX cellM 33 1 w.heap.size (w1.alloc (.cells #[.slice x.1 x.2.1 x.2.2] 33)) u5 xs ds ∧ ∀ b, u5.ownBlock = some b → b < wr.heap.size) :=
          ⟨(HROW.out.keepOld (fun h k => RmX.keep h k) hg1 hrl).up (fun h k => RmX.keep h k) hb13, fun b hb => (HROW.out.1.lt b hb).2⟩
        have hown3 := HROW3.out.1.1
        rw [HXK.out] at hown3
        have HG3 : Hid (Cd.Rd (w1.alloc (.cells #[.slice x.1 x.2.1 x.2.2] 33)) r (some ys) ∧ w.grownBy (w1.alloc (.cells #[.slice x.1 x.2.1 x.2.2] 33)) (some r) ∧ sl (some ys)) := ⟨Cd.rd_below hrd1 hb13, gr_up hg01 hb13, hsl'⟩
        have hcx : ∀ j u, ([.slice x.1 x.2.1 x.2.2] : List Value)[j]? = some u → (w1.alloc (.cells #[.slice x.1 x.2.1 x.2.2] 33)).cell? ((⟨w1.heap.size, 0, none⟩ : Addr).add j) = some u := fun j u hj => by
          rw [Addr.add_lit, Nat.zero_add]
          have := cell_box w1 #[.slice x.1 x.2.1 x.2.2] 33 j u (by simpa using hj)
          simpa using this
        have HX3 : Hid (RmX (fun b => wr.heap.size ≤ b) (w1.alloc (.cells #[.slice x.1 x.2.1 x.2.2] 33)) x d) := RmX.keep hx (Kp.up hb13)
        have hs3 : (w1.alloc (.cells #[.slice x.1 x.2.1 x.2.2] 33)).heap.size = w1.heap.size + 1 := by simp
        clear HREL HST HROW hx hrd1 hg1 hg01 hrd2 hg hsl' hb13
        go_wp2_with (first | (at_builtin; refine wpList_append_own_at _ rfl _ _ 27 rfl w.heap.size 33 i0 (.slice none 0 0) 1 24 und27 hi0 hz0 hz1 hz2 rfl (by decide) _ k _ rfl hown3 ⟨w1.heap.size, 0, none⟩ 1 1 [.slice x.1 x.2.1 x.2.2] rfl ?d2 ?d3 ?d4 ?d6 ?d7 ?d8 ?_))
        case d2 => rfl
        case d3 => exact hcx
        case d4 => simp [Value.oneCell']
        case d6 => unfold maxLen; omega
        case d7 => omega
        case d8 => omega
        intro v' w4 hown4 hgr4 hnil hat
        have HROW4 : Hid (RowG RmX cellM 33 1 w.heap.size w4 v' (xs ++ [x]) (ds ++ [d])) :=
          HROW3.out.1.step (fun h k => RmX.keep h k) (fun h k => RmX.imp h k) HROW3.out.2 HX3.out (by omega) (by rw [List.length_append, HXK.out, cellM_snoc]; exact hown4) hgr4 (by rw [hs3]; exact hat)
        have HG4 : Hid (Cd.Rd w4 r (some ys) ∧ w.grownBy w4 (some r)) := by
          have hge : ∀ b, u5.ownBlock = some b → w.heap.size ≤ b := fun b hb => (HROW3.out.1.1.lt b hb).1
          refine ⟨rd_grown HG3.out.1 hgr4 (fun b e => by have := hge b e; omega), ?_⟩
          have := HG3.out.2.1
          exact ⟨hgr4.os.trans this.os, hgr4.tape.trans this.tape, hgr4.output.trans this.output, Nat.le_trans this.size hgr4.size, fun i hi hne => (hgr4.block i (by have := this.size; omega) (fun e => by have := hge i e.symm; omega)).trans (this.block i hi hne)⟩
        have HSL : Hid (sl (some ys)) := HG3.out.2.2
        clear HROW3 HX3 hown3 hown4 hgr4 hnil hat hcx HG3 hs3
        go_wp2
        go_roundw
        case rel => first | exact ⟨k + 1, xs ++ [x], ds ++ [d], some ys, by omega, by go_num, by rw [List.length_append, HXK.out]; rfl, HROW4.out, HG4.out.1, HG4.out.2, HSL.out, fun _ => by simp, fun _ => by simp, HREL2.out⟩ | ((repeat apply Exists.intro); exact ⟨⟨k + 1, xs ++ [x], ds ++ [d], some ys, by omega, by go_num, by rw [List.length_append, HXK.out]; rfl, HROW4.out, HG4.out.1, HG4.out.2, HSL.out, fun _ => by simp, fun _ => by simp, HREL2.out⟩, rfl⟩)
        case measure => simp [intOf]; omega
    · obtain rfl : k = N := by omega
      have HF : Hid (rMany rMsg st = (ds, sk)) := by
        show _ = _
        rw [HM.out, HREL.out, Nat.sub_self]
        have hdl := HROW.out.2.1
        rw [HXK.out] at hdl
        exact comb_end (fun e => by
          have : ¬ 0 < k := fun h => hne0 h e
          exact List.eq_nil_of_length_eq_zero (by omega))
      clear HREL HM hne hne0 hsl
      go_wp2
      go_ret
      rw [HF.out]
      exact ⟨_, xs, rfl, HROW.out, hrd, hg⟩
end Go.Proofs.Ytfemjbaadnjanaa
