/-
  The writer of package frame: bytes are laid one behind the other; when they become too many it stops.
-/
import Derived.Test.YtfemjbaadnjanaaFBase
import Derived.Test.YtfemjbaadnjanaaCdAll
import Derived.Deep.DeepAppendWide
namespace Go.Proofs.Ytfemjbaadnjanaa
open Go.RowKit
set_option linter.unusedVariables false
set_option linter.unusedSimpArgs false

/-- What a writer holds: so far these bytes; none: they became too many. -/
def Wr (B : Nat) (w : World) (g : Nat) : St → Prop
  | none => B ≤ g ∧ ∃ ao n cap, n ≤ 1048576 ∧ w.heap[g]? = some (.cells #[.slice ao n cap, .bool true] 54 (0, 0)) ∧ ∀ k, (Value.slice ao n cap).ownBlock = some k → k < w.heap.size
  | some xs => B ≤ g ∧ ∃ ao cap, xs.length ≤ 1048576 ∧ w.heap[g]? = some (.cells #[.slice ao xs.length cap, .bool false] 54 (0, 0)) ∧ w.ownsRow (g + 1) 5 1 (.slice ao xs.length cap) xs.length (xs.map Cd.by8)
theorem Wr.ge {B : Nat} {w : World} {g : Nat} {st : St} (h : Wr B w g st) : B ≤ g := by cases st <;> exact h.1
theorem Wr.lt {B : Nat} {w : World} {g : Nat} {st : St} (h : Wr B w g st) : g < w.heap.size := by
  cases st with
  | none => obtain ⟨_, ao, n, cap, _, h, _⟩ := h; exact (Array.getElem?_eq_some_iff.1 h).1
  | some xs => obtain ⟨_, ao, cap, _, h, _⟩ := h; exact (Array.getElem?_eq_some_iff.1 h).1
theorem Wr.up {B : Nat} {w w' : World} {g : Nat} {st : St} (h : Wr B w g st) (u : Below w.heap.size w w') : Wr B w' g st := by
  have hl := h.lt
  cases st with
  | none => obtain ⟨hb, ao, n, cap, hn, h, hk⟩ := h; exact ⟨hb, ao, n, cap, hn, (u.block g hl).trans h, fun k e => by have := hk k e; have := u.size; omega⟩
  | some xs => obtain ⟨hb, ao, cap, hn, h, ho⟩ := h; exact ⟨hb, ao, cap, hn, (u.block g hl).trans h, own_up ho u⟩
/-- What it takes to lay so many bytes more: its two cells. -/
theorem Wr.cells {B : Nat} {w : World} {g : Nat} {st : St} (h : Wr B w g st) : ∃ ao n cap, n ≤ 1048576 ∧ w.cell? ⟨g, 0, none⟩ = some (.slice ao n cap) ∧ w.cell? ⟨g, 1, none⟩ = some (.bool st.isNone) ∧ w.frozen? ⟨g, 0, none⟩ = false ∧ w.frozen? ⟨g, 1, none⟩ = false ∧ (∀ xs, st = some xs → n = xs.length) := by
  cases st with
  | none =>
    obtain ⟨_, ao, n, cap, hn, h, _⟩ := h
    exact ⟨ao, n, cap, hn, by rw [cell_of_row w g 0 _ 54 (0, 0) h]; rfl, by rw [cell_of_row w g 1 _ 54 (0, 0) h]; rfl, frozen_of_row w g 0 _ 54 h, frozen_of_row w g 1 _ 54 h, fun xs e => by cases e⟩
  | some xs =>
    obtain ⟨_, ao, cap, hn, h, _⟩ := h
    exact ⟨ao, xs.length, cap, hn, by rw [cell_of_row w g 0 _ 54 (0, 0) h]; rfl, by rw [cell_of_row w g 1 _ 54 (0, 0) h]; rfl, frozen_of_row w g 0 _ 54 h, frozen_of_row w g 1 _ 54 h, fun ys e => by cases e; rfl⟩
theorem Wr.fault {B : Nat} {w : World} {g : Nat} {st : St} (h : Wr B w g st) : Wr B (w.setCell ⟨g, 1, none⟩ (.bool true)) g none := by
  have hb := h.ge
  cases st with
  | none =>
    obtain ⟨_, ao, n, cap, hn, h, hk⟩ := h
    exact ⟨hb, ao, n, cap, hn, by rw [heap_setCell_same w g 1 _ 54 _ h]; rfl, fun k e => by simpa [World.setCell] using hk k e⟩
  | some xs =>
    obtain ⟨_, ao, cap, hn, h, ho⟩ := h
    exact ⟨hb, ao, xs.length, cap, hn, by rw [heap_setCell_same w g 1 _ 54 _ h]; rfl, fun k e => by simpa [World.setCell] using (ho.lt k e).2⟩

/-- A block that is neither the writer's nor that of its bytes. -/
def Free (w : World) (g c : Nat) : Prop := c < w.heap.size ∧ c ≠ g ∧ ∀ v, w.cell? ⟨g, 0, none⟩ = some v → v.ownBlock ≠ some c
/-- Such blocks stay, and stay such. -/
def Fr (w w' : World) (g : Nat) : Prop := ∀ c, Free w g c → w'.heap[c]? = w.heap[c]? ∧ Free w' g c
theorem Fr.trans {a b c : World} {g : Nat} (h : Fr a b g) (k : Fr b c g) : Fr a c g := fun d hd => ⟨(k d (h d hd).2).1.trans (h d hd).1, (k d (h d hd).2).2⟩
theorem Fr.refl (w : World) (g : Nat) : Fr w w g := fun c hc => ⟨rfl, hc⟩
theorem Fr.up {w w' : World} {g : Nat} (u : Below w.heap.size w w') (hg : g < w.heap.size) : Fr w w' g := fun c hc => ⟨u.block c hc.1, by have := u.size; have := hc.1; omega, hc.2.1, fun v hv => hc.2.2 v (by rw [← hv]; exact (u.cell hg).symm)⟩
theorem Fr.set1 (w : World) (g : Nat) (v : Value) : Fr w (w.setCell ⟨g, 1, none⟩ v) g := fun c hc => ⟨Below.heap_setCell _ _ _ _ hc.2.1, by simpa [World.setCell] using hc.1, hc.2.1, fun u hu => hc.2.2 u (by rw [← hu, World.cell?_setCell_other _ _ _ _ (by simp)])⟩
theorem Wr.owner {B : Nat} {w : World} {g : Nat} {st : St} (h : Wr B w g st) : ∀ v, w.cell? ⟨g, 0, none⟩ = some v → ∀ k, v.ownBlock = some k → k < w.heap.size := by
  intro v hv k hk
  cases st with
  | none =>
    obtain ⟨_, ao, n, cap, _, hg, hk'⟩ := h
    rw [cell_of_row w g 0 _ 54 (0, 0) hg] at hv
    simp at hv
    subst hv
    exact hk' k hk
  | some xs =>
    obtain ⟨_, ao, cap, _, hg, ho⟩ := h
    rw [cell_of_row w g 0 _ 54 (0, 0) hg] at hv
    simp at hv
    subst hv
    exact (ho.lt k hk).2
/-- A block that is made anew is such. -/
theorem Free.new {w : World} {g : Nat} {B : Nat} {st : St} (h : Wr B w g st) {w' : World} (u : Below w.heap.size w w') {c : Nat} (hc : w.heap.size ≤ c) (hc' : c < w'.heap.size) : Free w' g c := by
  have hl := h.lt
  refine ⟨hc', by omega, fun v hv e => ?_⟩
  have := h.owner v (by rw [← hv]; exact (u.cell (show (⟨g, 0, none⟩ : Addr).block < w.heap.size from hl)).symm) c e
  omega

set_option maxRecDepth 10000 in
set_option maxHeartbeats 1000000 in
theorem fits_any (B : Nat) (w : World) (g : Nat) (st : St) (k : Nat) (h : Wr B w g st) (hk : k ≤ 9223372036854775807) :
    Calls Try.prog 75 #[.pointer (some ⟨g, 0, none⟩), .int .i64 (k : Nat)] w fun e w' => e = .returned (.bool (room st k)) ∧ Wr B w' g (if room st k = true then st else none) ∧ w.grownBy w' (some g) ∧ Fr w w' g := by
  obtain ⟨ao, n, cap, hn, c0, c1, f0, f1, hx⟩ := h.cells
  have HW : Hid (Wr B w g st) := h
  have HF : Hid (Wr B (w.setCell ⟨g, 1, none⟩ (.bool true)) g none ∧ w.grownBy (w.setCell ⟨g, 1, none⟩ (.bool true)) (some g) ∧ Fr w (w.setCell ⟨g, 1, none⟩ (.bool true)) g) := ⟨h.fault, Cd.set_grown _, Fr.set1 _ _ _⟩
  clear h
  by_cases hc : (1048576 : Int) - n < k
  · have hr : room st k = false := by
      cases st with
      | none => rfl
      | some xs => simp only [room, decide_eq_false_iff_not]; have := hx xs rfl; omega
    rw [hr]
    clear hr hx
    go_enter Try.func75, Try.ntmps75
    go_wp2
    go_ret
    exact ⟨ret_bool (by simp), by simpa using HF.out.1, HF.out.2⟩
  · cases st with
    | none =>
      clear hx
      go_enter Try.func75, Try.ntmps75
      go_wp2
      go_ret
      exact ⟨ret_bool (by simp [room]), by simpa [room] using HW.out, Cd.grown_refl _ _, Fr.refl _ _⟩
    | some xs =>
      have hr : room (some xs) k = true := by simp only [room, decide_eq_true_eq]; have := hx xs rfl; omega
      rw [hr]
      clear hr hx
      go_enter Try.func75, Try.ntmps75
      go_wp2
      go_ret
      exact ⟨ret_bool (by simp), by simpa using HW.out, Cd.grown_refl _ _, Fr.refl _ _⟩

theorem lay_step {B : Nat} {w0 w1 w2 : World} {g : Nat} {xs ys : List UInt8} {ao : Option Addr} {cap : Nat} {v' : Value} (hB : B ≤ g) (hg : w1.heap[g]? = some (.cells #[.slice ao xs.length cap, .bool false] 54 (0, 0)))
    (ho : w1.ownsRow (g + 1) 5 1 (.slice ao xs.length cap) xs.length (xs.map Cd.by8)) (hown : w2.ownsRow (g + 1) 5 1 v' (xs.length + ys.length) ((xs ++ ys).map Cd.by8)) (hgrow : w1.grownBy w2 (Value.slice ao xs.length cap).ownBlock) (hl : xs.length + ys.length ≤ 1048576) (h01 : Below B w0 w1) :
    Wr B (w2.setCell ⟨g, 0, none⟩ v') g (some (xs ++ ys)) ∧ Below B w0 (w2.setCell ⟨g, 0, none⟩ v') := by
  have hgl := (Array.getElem?_eq_some_iff.1 hg).1
  have hne : ∀ k, (Value.slice ao xs.length cap).ownBlock = some k → g + 1 ≤ k := fun k hk => (ho.lt k hk).1
  have hg2 : w2.heap[g]? = some (.cells #[.slice ao xs.length cap, .bool false] 54 (0, 0)) := by
    rw [hgrow.block g hgl (fun e => by have := hne g e.symm; omega)]
    exact hg
  have hset := heap_setCell_same w2 g 0 _ 54 v' hg2
  have hlen : (xs ++ ys).length = xs.length + ys.length := List.length_append
  have hown2 : (w2.setCell ⟨g, 0, none⟩ v').ownsRow (g + 1) 5 1 v' (xs ++ ys).length ((xs ++ ys).map Cd.by8) := by
    rw [hlen]
    refine hown.kept (Cd.set_grown v') ?_
    cases hb : v'.ownBlock with
    | none => exact Or.inl rfl
    | some k => exact Or.inr (by have := (hown.lt k hb).1; simp; omega)
  have hb2 : Below B w0 w2 := ⟨hgrow.os.trans h01.os, hgrow.tape.trans h01.tape, hgrow.output.trans h01.output, Nat.le_trans h01.size hgrow.size, fun k hk => (hgrow.block k (by omega) (fun e => by have := hne k e.symm; omega)).trans (h01.block k hk)⟩
  refine ⟨⟨hB, ?_⟩, ⟨hb2.os, hb2.tape, hb2.output, by simpa [World.setCell] using hb2.size, fun k hk => (Below.heap_setCell _ _ _ _ (by show k ≠ g; omega)).trans (hb2.block k hk)⟩⟩
  obtain ⟨ao', cap', hv, _⟩ := Cd.owns_row hown
  rw [← hlen] at hv
  subst hv
  exact ⟨ao', cap', by omega, by rw [hset]; rfl, hown2⟩

theorem lay_free {w1 w2 : World} {g : Nat} {xs : List UInt8} {ao : Option Addr} {cap : Nat} {v' : Value} (hg : w1.heap[g]? = some (.cells #[.slice ao xs.length cap, .bool false] 54 (0, 0)))
    (ho : w1.ownsRow (g + 1) 5 1 (.slice ao xs.length cap) xs.length (xs.map Cd.by8)) (hgrow : w1.grownBy w2 (Value.slice ao xs.length cap).ownBlock) (hat : v'.ownBlock = (Value.slice ao xs.length cap).ownBlock ∨ v'.ownBlock = some w1.heap.size) : Fr w1 (w2.setCell ⟨g, 0, none⟩ v') g := fun c hc => by
  obtain ⟨h1, h2, h3⟩ := hc
  have hgl := (Array.getElem?_eq_some_iff.1 hg).1
  have c0 : w1.cell? ⟨g, 0, none⟩ = some (.slice ao xs.length cap) := by rw [cell_of_row w1 g 0 _ 54 (0, 0) hg]; rfl
  have hne := h3 _ c0
  have hg2 : w2.heap[g]? = some (.cells #[.slice ao xs.length cap, .bool false] 54 (0, 0)) := (hgrow.block g hgl (fun e => by have := (ho.lt g e.symm).1; omega)).trans hg
  refine ⟨(Below.heap_setCell _ _ _ _ h2).trans (hgrow.block c h1 (fun e => hne e.symm)), by have := hgrow.size; simp [World.setCell]; omega, h2, fun v hv => ?_⟩
  rw [World.cell?_setCell_same _ _ _ (show w2.cell? ⟨g, 0, none⟩ = some (.slice ao xs.length cap) by rw [cell_of_row w2 g 0 _ 54 (0, 0) hg2]; rfl)] at hv
  simp at hv
  subst hv
  rcases hat with e | e
  · rw [e]; exact hne
  · rw [e]; simp; omega
/-- append of bytes to a row of one's own. -/
theorem append_bytes {w : World} {B n : Nat} {ao : Option Addr} {cap : Nat} {xs ys : List UInt8} {ad : Addr} {c : Nat} {ty : TypeId} (h : w.ownsRow B 5 1 (.slice ao n cap) n (xs.map Cd.by8)) (hB : B ≤ w.heap.size) (hn : n + ys.length ≤ 140737488355328) (hc : ∀ j u, (ys.map Cd.by8)[j]? = some u → w.cell? (ad.add j) = some u) :
    ∃ v' w', (Builtin.append_ #[33, 33] ty #[.slice ao n cap, .slice (some ad) ys.length c]).run Try.prog w = .ok v' w' ∧ w'.ownsRow B 5 1 v' (n + ys.length) ((xs ++ ys).map Cd.by8) ∧ w.grownBy w' (Value.slice ao n cap).ownBlock := by
  obtain ⟨i0, hi0, hz0, hz1, hz2⟩ := info_parts info5
  obtain ⟨v', w', hr, h1, h2, _, _⟩ := run_append_own_at (P := Try.prog) w B 33 ty 5 i0 (.int .u8 0) 1 1 und34 hi0 hz0 hz1 hz2 rfl (by decide) (.slice ao n cap) n (xs.map Cd.by8) h ad ys.length c (ys.map Cd.by8) (by simp) hc (Cd.by8_one ys) (by unfold maxLen; omega) (by omega) hB
  exact ⟨v', w', hr, by simpa using h1, h2⟩

set_option maxRecDepth 10000 in
set_option maxHeartbeats 1000000 in
theorem lay_any (B : Nat) (w : World) (g : Nat) (st : St) (h : Wr B w g st) (yo : Option Addr) (k kc : Nat) (ys : List UInt8) (hy : Rx (fun b => b ≠ g) w yo k kc ys) (hpos : 0 < k) :
    Calls Try.prog 49 #[.pointer (some ⟨g, 0, none⟩), .slice yo k kc] w fun e w' => e = .returned (.tuple #[]) ∧ Wr B w' g (layS st ys) ∧ Below B w w' ∧ Fr w w' g := by
  obtain ⟨i0, hi, hz0, hz1, hz2⟩ := info_parts Cd.Try.info5
  have hyl := hy.1.1
  have hkm := hy.1.2.1
  have hB := h.ge
  have hgl := h.lt
  have hf := fits_any B w g st k h (by omega)
  have HY : Hid (Rx (fun b => b ≠ g) w yo k kc ys) := hy
  clear hy
  cases hr : room st k with
  | false =>
    have HL : Hid (layS st ys = none) := layS_full st ys (by rw [hyl]; exact hr)
    rw [hr] at hf
    simp only [Bool.false_eq_true, if_false] at hf
    clear hr h
    go_enter Try.func49, Try.ntmps49
    go_wp2_with fail
    refine hf.mono ?_
    rintro e w1 ⟨rfl, hw1, hg1, hfr1⟩
    have hb1 : Below B w w1 := ⟨hg1.os, hg1.tape, hg1.output, hg1.size, fun i hi => hg1.block i (by omega) (by simp; omega)⟩
    clear hf hg1
    go_wp2
    go_end0
    rw [HL.out]
    exact ⟨rfl, hw1, hb1, hfr1⟩
  | true =>
    obtain ⟨xs, rfl, hls, hll⟩ := layS_room st ys (by rw [hyl]; exact hr)
    have HL : Hid (layS (some xs) ys = some (xs ++ ys)) := hls
    rw [hr] at hf
    simp only [if_true] at hf
    clear hr h hls
    go_enter Try.func49, Try.ntmps49
    go_wp2_with fail
    refine hf.mono ?_
    rintro e w1 ⟨rfl, hw1, hg1, hfr1⟩
    have hb1 : Below B w w1 := ⟨hg1.os, hg1.tape, hg1.output, hg1.size, fun i hi => hg1.block i (by omega) (by simp; omega)⟩
    obtain ⟨_, ao, cap, hx1, hh, ho⟩ := hw1
    have hy1 := HY.out.keep (Kp.grown (p := fun b => b ≠ g) hg1 (fun b hb => hb))
    have c0 : w1.cell? ⟨g, 0, none⟩ = some (.slice ao xs.length cap) := by rw [cell_of_row w1 g 0 _ 54 (0, 0) hh]; rfl
    have HK : Hid (w1.heap[g]? = some (.cells #[.slice ao xs.length cap, .bool false] 54 (0, 0))) := hh
    have HO : Hid (w1.ownsRow (g + 1) 5 1 (.slice ao xs.length cap) xs.length (xs.map Cd.by8)) := ho
    have hstep : ∀ (v' : Value) (w2 : World), w2.ownsRow (g + 1) 5 1 v' (xs.length + ys.length) ((xs ++ ys).map Cd.by8) → w1.grownBy w2 (Value.slice ao xs.length cap).ownBlock → Wr B (w2.setCell ⟨g, 0, none⟩ v') g (some (xs ++ ys)) ∧ Below B w (w2.setCell ⟨g, 0, none⟩ v') := fun v' w2 h1 h2 => lay_step hB hh ho h1 h2 hll hb1
    have HS : Hid (∀ (v' : Value) (w2 : World), w2.ownsRow (g + 1) 5 1 v' (xs.length + ys.length) ((xs ++ ys).map Cd.by8) → w1.grownBy w2 (Value.slice ao xs.length cap).ownBlock → Wr B (w2.setCell ⟨g, 0, none⟩ v') g (some (xs ++ ys)) ∧ Below B w (w2.setCell ⟨g, 0, none⟩ v')) := hstep
    have hfz : ∀ w2 : World, w1.grownBy w2 (Value.slice ao xs.length cap).ownBlock → w2.frozen? ⟨g, 0, none⟩ = false ∧ ∃ c, w2.cell? ⟨g, 0, none⟩ = some c := fun w2 h2 => by
      have hgl := (Array.getElem?_eq_some_iff.1 hh).1
      have e2 : w2.heap[g]? = _ := (h2.block g hgl (fun e => by have := (ho.lt g e.symm).1; omega)).trans hh
      exact ⟨frozen_of_row w2 g 0 _ 54 e2, _, by rw [cell_of_row w2 g 0 _ 54 (0, 0) e2]; rfl⟩
    have HZ : Hid (∀ w2 : World, w1.grownBy w2 (Value.slice ao xs.length cap).ownBlock → w2.frozen? ⟨g, 0, none⟩ = false ∧ ∃ c, w2.cell? ⟨g, 0, none⟩ = some c) := hfz
    have hgs := hg1.size
    have hgs9 : Hid (w1.heap[g]? = some (.cells #[.slice ao xs.length cap, .bool false] 54 (0, 0)) ∧ w1.ownsRow (g + 1) 5 1 (.slice ao xs.length cap) xs.length (xs.map Cd.by8)) := ⟨hh, ho⟩
    have HC : Hid (∀ w2 : World, w1.grownBy w2 (Value.slice ao xs.length cap).ownBlock → w2.cell? ⟨g, 0, none⟩ = some (.slice ao xs.length cap)) := fun w2 h2 => by
      have hgl := (Array.getElem?_eq_some_iff.1 hh).1
      have e2 : w2.heap[g]? = _ := (h2.block g hgl (fun e => by have := (ho.lt g e.symm).1; omega)).trans hh
      rw [cell_of_row w2 g 0 _ 54 (0, 0) e2]; rfl
    clear hf hg1 hh ho hstep hfz hb1 HK
    obtain ⟨yb, yoff, rfl, _, _⟩ := hy1.1.2.2.2 hpos
    have hol := hy1.row.olds _ rfl
    have ho' := HO.out
    go_wp2_with (first | (at_builtin; refine wpList_append_own_at _ rfl _ _ 33 rfl (g + 1) 5 i0 (.int .u8 0) 1 1 Try.underlying33 hi hz0 hz1 hz2 rfl (by decide) _ _ _ rfl ho' ⟨yb, yoff, none⟩ k kc (ys.map Cd.by8) rfl ?f2 ?f3 ?f4 ?f6 ?f7 ?f8 ?_))
    case f2 => simp [hyl]
    case f3 => exact hol
    case f4 => exact Cd.by8_one ys
    case f6 => unfold maxLen; omega
    case f7 => omega
    case f8 => omega
    · intro v' w2 hown2 hgrow2 _ hat
      obtain ⟨f0, c, hc⟩ := HZ.out w2 hgrow2
      have HR : Hid (Wr B (w2.setCell ⟨g, 0, none⟩ v') g (some (xs ++ ys)) ∧ Below B w (w2.setCell ⟨g, 0, none⟩ v')) := HS.out v' w2 (by rw [hyl]; simpa using hown2) hgrow2
      have hv : ∃ ao' n' cap', v' = .slice ao' n' cap' := by
        rcases own_shape hown2 with ⟨h, _⟩ | ⟨g', c', h, _⟩
        · exact ⟨_, _, _, h⟩
        · exact ⟨_, _, _, h⟩
      have hfr2 : Fr w (w2.setCell ⟨g, 0, none⟩ v') g := hfr1.trans (lay_free hgs9.out.1 hgs9.out.2 hgrow2 hat)
      have HFR : Hid (Fr w (w2.setCell ⟨g, 0, none⟩ v') g) := hfr2
      obtain ⟨ao', n', cap', rfl⟩ := hv
      have c2 : w2.cell? ⟨g, 0, none⟩ = some (.slice ao xs.length cap) := HC.out w2 hgrow2
      clear HS HZ hown2 hgrow2 c0 hol ho' HC HO hc hat hfr2 hfr1
      go_wp2
      go_end0
      rw [HL.out]
      exact ⟨rfl, HR.out.1, HR.out.2, HFR.out⟩
end Go.Proofs.Ytfemjbaadnjanaa
