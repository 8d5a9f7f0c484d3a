/-
  Rows of events of one's own, side by side: one for each node, and one beside them.
-/
import Derived.Test.YthnbijnpbjfoaaaJEq
namespace Go.Proofs.Ythnbijnpbjfoaaa
open Go.RowKit Go.Sort
set_option linter.unusedVariables false

/-- An event, and where its bytes lie. -/
abbrev Ex := Ev × Sr
def cellsE (x : Ex) : List Value := [.int .u8 (x.1.k : Nat), .int .u64 (x.1.n : Nat), .int .i64 x.1.p, .int .u16 (x.1.s : Nat), .int .i64 x.1.f, .slice x.2.1 x.2.2.1 x.2.2.2]
def cellE (xs : List Ex) : List Value := xs.flatMap cellsE
theorem cellE_snoc (xs : List Ex) (x : Ex) : cellE (xs ++ [x]) = cellE xs ++ cellsE x := by simp [cellE]
theorem cellE_app (xs ys : List Ex) : cellE (xs ++ ys) = cellE xs ++ cellE ys := by simp [cellE]
theorem cellE_len (xs : List Ex) : (cellE xs).length = xs.length * 6 := by
  induction xs with
  | nil => rfl
  | cons a r ih => simp [cellE, cellsE] at ih ⊢; omega
theorem cellE_get : ∀ (xs : List Ex) (j : Nat) (x : Ex) (i : Nat), xs[j]? = some x → i < 6 → (cellE xs)[j * 6 + i]? = (cellsE x)[i]?
  | [], j, x, i, h, hi => by simp at h
  | a :: r, 0, x, i, h, hi => by
    simp at h; subst h
    rw [show cellE (a :: r) = cellsE a ++ cellE r from rfl, List.getElem?_append_left (by simp [cellsE]; omega)]; simp
  | a :: r, j + 1, x, i, h, hi => by
    rw [show cellE (a :: r) = cellsE a ++ cellE r from rfl, List.getElem?_append_right (by simp [cellsE]; omega), show (j + 1) * 6 + i - (cellsE a).length = j * 6 + i by simp [cellsE]; omega]
    exact cellE_get r j x i (by simpa using h) hi
theorem cellE_one {xs : List Ex} {u : Value} (h : u ∈ cellE xs) : u.oneCell' = true := by
  obtain ⟨x, _, hx⟩ := List.mem_flatMap.1 h
  simp [cellsE] at hx
  rcases hx with rfl | rfl | rfl | rfl | rfl | rfl <;> rfl
theorem info49E : (Try.prog.info? 49).map (fun i => (i.zero, i.size, i.bytes)) = some (some (.agg #[.int .u8 0, .int .u64 0, .int .i64 0, .int .u16 0, .int .i64 0, .slice none 0 0]), 6, 64) := by kernel_rfl
theorem und41' : Try.prog.underlying 41 = some (.slice 49) := by kernel_rfl
/-- Where an event's bytes lie is below B. -/
def ExOk (B : Nat) (w : World) (x : Ex) : Prop := Cp x.2 ∧ Rw (fun b => b < B) w x.2.1 x.2.2.1 x.1.m
theorem ExOk.keep {B : Nat} {w w' : World} {x : Ex} (h : ExOk B w x) (u : Below B w w') : ExOk B w' x := ⟨h.1, h.2.keep (Kp.below u (fun _ hb => hb))⟩
/-- A row of events of one's own. -/
def EvO (B : Nat) (w : World) (r : Sr) (es : List Ev) : Prop := r.2.1 = es.length ∧ ∃ xs : List Ex, w.ownsRow B 49 6 (slv r) es.length (cellE xs) ∧ xs.map Prod.fst = es ∧ ∀ x ∈ xs, ExOk B w x
theorem EvO.nil (B : Nat) (w : World) : EvO B w (none, 0, 0) [] := ⟨rfl, [], ⟨rfl, .inl ⟨rfl, rfl⟩⟩, rfl, by simp⟩
theorem EvO.kept {B : Nat} {w w' : World} {r : Sr} {es : List Ev} {row : Option Nat} (h : EvO B w r es) (g : w.grownBy w' row) (hne : (slv r).ownBlock = none ∨ (slv r).ownBlock ≠ row) (u : Below B w w') : EvO B w' r es := by
  obtain ⟨h0, xs, h1, h2, h3⟩ := h
  exact ⟨h0, xs, h1.kept g hne, h2, fun x hx => (h3 x hx).keep u⟩
theorem EvO.up {B : Nat} {w w' : World} {r : Sr} {es : List Ev} (h : EvO B w r es) (hB : B ≤ w.heap.size) (u : Below w.heap.size w w') : EvO B w' r es :=
  h.kept (gr_below u none) (by cases (slv r).ownBlock with | none => exact Or.inl rfl | some k => exact Or.inr (by simp)) (u.mono hB)
theorem EvO.blk {B : Nat} {w : World} {r : Sr} {es : List Ev} (h : EvO B w r es) {k : Nat} (hk : (slv r).ownBlock = some k) : B ≤ k ∧ k < w.heap.size ∧ ∃ c, w.heap[k]? = some (.cells c 49 (0, 0)) := by
  obtain ⟨_, xs, h1, _⟩ := h
  exact own_blk h1 hk
theorem EvO.shape {B : Nat} {w : World} {r : Sr} {es : List Ev} (h : EvO B w r es) : (r = (none, 0, 0) ∧ es = []) ∨ ∃ b cap, r = (some ⟨b, 0, none⟩, es.length, cap) ∧ es.length ≤ cap ∧ cap ≤ 9223372036854775807 := by
  obtain ⟨h0, xs, h1, h2, h3⟩ := h
  obtain ⟨ra, rn, rc⟩ := r
  rcases own_shape h1 with ⟨e, h4⟩ | ⟨g, cap, e, _⟩
  · simp [slv] at e
    obtain ⟨rfl, rfl, rfl⟩ := e
    exact .inl ⟨rfl, List.length_eq_zero_iff.1 h4⟩
  · have h1' := h1
    simp only [slv, Value.slice.injEq] at e
    obtain ⟨rfl, rfl, rfl⟩ := e
    have := own_cap h1'
    exact .inr ⟨g, rc, rfl, this.1, this.2⟩
theorem EvO.cp {B : Nat} {w : World} {r : Sr} {es : List Ev} (h : EvO B w r es) : Cp r := by
  rcases h.shape with ⟨rfl, _⟩ | ⟨b, cap, rfl, a, c⟩
  · exact Cp.nil
  · exact ⟨a, c, fun e => (by cases e)⟩
/-- One's own row, read. -/
theorem EvO.evr {B : Nat} {w : World} {r : Sr} {es : List Ev} (h : EvO B w r es) (hn : es.length ≤ 2199023255552) : EvR (fun _ => True) w r.1 r.2.1 es := by
  obtain ⟨h0, xs, h1, h2, h3⟩ := h
  obtain ⟨ra, rn, rc⟩ := r
  simp only at h0
  subst h0
  refine ⟨rfl, hn, fun e => ?_, fun h4 => ?_⟩
  · rcases own_shape h1 with ⟨e', h4⟩ | ⟨g, cap, e', _⟩
    · exact h4
    · simp only [slv, Value.slice.injEq] at e'
      simp only at e
      rw [e] at e'
      simp at e'
  · rcases own_shape h1 with ⟨e', h5⟩ | ⟨g, cap, e', _⟩
    · simp only at h4; omega
    · have h1' := h1
      simp only [slv, Value.slice.injEq] at e'
      obtain ⟨rfl, _, rfl⟩ := e'
      refine ⟨g, 0, rfl, trivial, fun j e hj => ?_⟩
      rw [← h2, List.getElem?_map] at hj
      obtain ⟨x, hx, rfl⟩ := Option.map_eq_some_iff.1 hj
      have hc : ∀ i u, i < 6 → (cellsE x)[i]? = some u → w.cell? ⟨g, 0 + j * 6 + i, none⟩ = some u := fun i u hi hu => by
        rw [Nat.zero_add]
        refine own_cell (by simpa [slv] using h1') _ _ ?_
        rw [cellE_get xs j x i hx hi]
        exact hu
      refine ⟨x.2, ⟨hc 0 _ (by omega) rfl, hc 1 _ (by omega) rfl, hc 2 _ (by omega) rfl, hc 3 _ (by omega) rfl, hc 4 _ (by omega) rfl, hc 5 _ (by omega) rfl⟩, (h3 x (List.mem_of_getElem? hx)).1, (h3 x (List.mem_of_getElem? hx)).2.imp (fun _ _ _ => trivial)⟩
/-- One's own row's first events, as they lie. -/
theorem EvO.cells {B : Nat} {w : World} {r : Sr} {es : List Ev} (h : EvO B w r es) : ∃ xs : List Ex, xs.map Prod.fst = es ∧ (∀ x ∈ xs, ExOk B w x) ∧ ∀ b c, r = (some ⟨b, 0, none⟩, es.length, c) → ∀ j u, (cellE xs)[j]? = some u → w.cell? ⟨b, j, none⟩ = some u := by
  obtain ⟨h0, xs, h1, h2, h3⟩ := h
  refine ⟨xs, h2, h3, fun b c e j u hj => ?_⟩
  subst e
  exact own_cell (by simpa [slv] using h1) _ _ hj
theorem cellE_take (xs : List Ex) (m j : Nat) (u : Value) (h : (cellE (xs.take m))[j]? = some u) : (cellE xs)[j]? = some u := by
  have : cellE xs = cellE (xs.take m) ++ cellE (xs.drop m) := by rw [← cellE_app, List.take_append_drop]
  rw [this, List.getElem?_append_left (List.getElem?_eq_some_iff.1 h).1]
  exact h
set_option maxRecDepth 10000 in
/-- 'append(r, xs...)', as a run. -/
theorem EvO.run {B : Nat} {w : World} {r : Sr} {es : List Ev} (h : EvO B w r es) (xs : List Ex) (hx : ∀ x ∈ xs, ExOk B w x) (hn : es.length + xs.length ≤ 10000) (hB : B ≤ w.heap.size) {a : Addr} (c : Nat) (ha : ∀ j u, (cellE xs)[j]? = some u → w.cell? (a.add j) = some u) :
    ∃ (r' : Sr) (w' : World), (Builtin.append_ #[41, 41] 41 #[slv r, .slice (some a) xs.length c]).run Try.prog w = .ok (slv r') w' ∧ EvO B w' r' (es ++ xs.map Prod.fst) ∧ Below B w w' ∧ w.grownBy w' (slv r).ownBlock ∧ ((slv r').ownBlock = (slv r).ownBlock ∨ ∃ k, (slv r').ownBlock = some k ∧ w.heap.size ≤ k) := by
  obtain ⟨h0, ys, h1, h2, h3⟩ := h
  obtain ⟨i0, hi0, hz0, hz1, hz2⟩ := info_parts info49E
  obtain ⟨v', w', k1, k2, k3, k4, k5⟩ := run_append_own_at (P := Try.prog) (w := w) B 41 41 49 i0 _ 6 64 und41' hi0 hz0 hz1 hz2 rfl (by decide) _ es.length (cellE ys) h1 a xs.length c (cellE xs) (cellE_len xs) ha (fun u hu => cellE_one hu) (by unfold maxLen; omega) (by omega) hB
  have hb : Below B w w' := bl_grown (Below.refl _ _) hB k3 (fun k hk => (own_blk h1 hk).1)
  obtain ⟨ra, rn, rc, rfl⟩ := own_sl k2
  have hrn : rn = es.length + xs.length := by
    rcases own_shape k2 with ⟨e, e2⟩ | ⟨g, cap, e, _⟩
    · simp at e; omega
    · simp at e; omega
  refine ⟨(ra, rn, rc), w', k1, ⟨by simp [hrn], ys ++ xs, ?_, by simp [h2], fun x hx' => ?_⟩, hb, k3, k5.imp id (fun e => ⟨_, e, Nat.le_refl _⟩)⟩
  · rw [cellE_app, List.length_append, List.length_map]; exact k2
  · rw [List.mem_append] at hx'
    rcases hx' with h' | h'
    · exact (h3 x h').keep hb
    · exact (hx x h').keep hb
set_option maxRecDepth 10000 in
theorem EvO.run_none {B : Nat} {w : World} {r : Sr} {es : List Ev} (h : EvO B w r es) : (Builtin.append_ #[41, 41] 41 #[slv r, .slice none 0 0]).run Try.prog w = .ok (slv r) w := by
  obtain ⟨h0, ys, h1, h2, h3⟩ := h
  obtain ⟨i0, hi0, _⟩ := info_parts info49E
  exact run_append_owned_none (P := Try.prog) (w := w) B 41 41 49 i0 6 und41' hi0 _ _ _ h1

def upd {α : Type} (f : Nat → α) (i : Nat) (a : α) : Nat → α := fun j => if j = i then a else f j
theorem upd_same {α : Type} (f : Nat → α) (i : Nat) (a : α) : upd f i a i = a := if_pos rfl
theorem upd_ne {α : Type} (f : Nat → α) {i j : Nat} (a : α) (h : j ≠ i) : upd f i a j = f j := if_neg h
/-- Rows of one's own, m of them; the first n stand in the block g. -/
structure TL (B : Nat) (w : World) (g n m : Nat) (R : Nat → Sr) (X : Nat → List Ev) : Prop where
  sz : B ≤ w.heap.size
  gB : B ≤ g
  blk : ∃ c, w.heap[g]? = some (.cells c 41 (0, 0))
  nm : n ≤ m
  cell : ∀ i, i < n → w.cell? ⟨g, i, none⟩ = some (slv (R i))
  row : ∀ i, i < m → EvO B w (R i) (X i)
  apart : ∀ i j, i < m → j < m → i ≠ j → ∀ b, (slv (R i)).ownBlock = some b → (slv (R j)).ownBlock ≠ some b
theorem TL.glt {B : Nat} {w : World} {g n m : Nat} {R : Nat → Sr} {X : Nat → List Ev} (h : TL B w g n m R X) : g < w.heap.size := by
  obtain ⟨c, hc⟩ := h.blk
  exact (Array.getElem?_eq_some_iff.1 hc).1
theorem TL.fz {B : Nat} {w : World} {g n m : Nat} {R : Nat → Sr} {X : Nat → List Ev} (h : TL B w g n m R X) (i : Nat) : w.frozen? ⟨g, i, none⟩ = false := by
  obtain ⟨c, hc⟩ := h.blk
  simp [World.frozen?, hc]
theorem TL.ng {B : Nat} {w : World} {g n m : Nat} {R : Nat → Sr} {X : Nat → List Ev} (h : TL B w g n m R X) {i : Nat} (hi : i < m) : (slv (R i)).ownBlock ≠ some g := fun e => by
  obtain ⟨c, hc⟩ := h.blk
  obtain ⟨_, _, d, hd⟩ := (h.row i hi).blk e
  rw [hc] at hd
  simp at hd
theorem TL.up {B : Nat} {w w' : World} {g n m : Nat} {R : Nat → Sr} {X : Nat → List Ev} (h : TL B w g n m R X) (u : Below w.heap.size w w') : TL B w' g n m R X :=
  ⟨Nat.le_trans h.sz u.size, h.gB, by obtain ⟨c, hc⟩ := h.blk; exact ⟨c, (u.block g h.glt).trans hc⟩, h.nm, fun i hi => bl_cell u (h.cell i hi), fun i hi => (h.row i hi).up h.sz u, h.apart⟩
/-- A row that isn't in the block is another one. -/
theorem TL.nil {B : Nat} {w : World} {g n m i : Nat} {R : Nat → Sr} {X : Nat → List Ev} (h : TL B w g n m R X) (hi : n ≤ i) (him : i < m) : TL B w g n m (upd R i (none, 0, 0)) (upd X i []) := by
  refine ⟨h.sz, h.gB, h.blk, h.nm, fun j hj => ?_, fun j hj => ?_, fun j k hj hk hjk b hb => ?_⟩
  · rw [upd_ne R _ (by omega)]; exact h.cell j hj
  · by_cases e : j = i
    · subst e; rw [upd_same, upd_same]; exact EvO.nil _ _
    · rw [upd_ne R _ e, upd_ne X _ e]; exact h.row j hj
  · by_cases e : j = i
    · subst e; rw [upd_same] at hb; simp [slv, Value.ownBlock] at hb
    · by_cases e2 : k = i
      · subst e2; rw [upd_same]; simp [slv, Value.ownBlock]
      · rw [upd_ne R _ e] at hb; rw [upd_ne R _ e2]; exact h.apart j k hj hk hjk b hb
/-- Behind an append to a row: all but the block's own cell. -/
theorem TL.grow {B : Nat} {w w' : World} {g n m i : Nat} {R : Nat → Sr} {X : Nat → List Ev} (h : TL B w g n m R X) (hi : i < m) {r' : Sr} {es : List Ev} (ho : EvO B w' r' es) (hb : Below B w w') (hg : w.grownBy w' (slv (R i)).ownBlock) (hat : (slv r').ownBlock = (slv (R i)).ownBlock ∨ ∃ k, (slv r').ownBlock = some k ∧ w.heap.size ≤ k) :
    B ≤ w'.heap.size ∧ (∃ c, w'.heap[g]? = some (.cells c 41 (0, 0))) ∧ (∀ j, j < n → w'.cell? ⟨g, j, none⟩ = some (slv (R j))) ∧ (∀ j, j < m → EvO B w' (upd R i r' j) (upd X i es j)) ∧ (∀ j k, j < m → k < m → j ≠ k → ∀ b, (slv (upd R i r' j)).ownBlock = some b → (slv (upd R i r' k)).ownBlock ≠ some b) := by
  have hgne : some g ≠ (slv (R i)).ownBlock := fun e => h.ng hi e.symm
  have hblk : w'.heap[g]? = w.heap[g]? := hg.block g h.glt hgne
  refine ⟨Nat.le_trans h.sz hb.size, by obtain ⟨c, hc⟩ := h.blk; exact ⟨c, hblk.trans hc⟩, fun j hj => ?_, fun j hj => ?_, fun j k hj hk hjk b hb' => ?_⟩
  · rw [cell_blk (a := ⟨g, j, none⟩) hblk]; exact h.cell j hj
  · by_cases e : j = i
    · subst e; rw [upd_same, upd_same]; exact ho
    · rw [upd_ne R _ e, upd_ne X _ e]
      refine (h.row j hj).kept hg ?_ hb
      cases hc : (slv (R j)).ownBlock with
      | none => exact .inl rfl
      | some k => exact .inr (fun e' => h.apart j i hj hi e k hc e'.symm)
  · by_cases e : j = i
    · subst e
      rw [upd_same] at hb'
      rw [upd_ne R _ (Ne.symm hjk)]
      intro hk'
      rcases hat with e' | ⟨q, e', hq⟩
      · exact h.apart j k hj hk hjk b (e' ▸ hb') hk'
      · have := ((h.row k hk).blk hk').2.1
        rw [e'] at hb'
        simp at hb'; omega
    · rw [upd_ne R _ e] at hb'
      by_cases e2 : k = i
      · subst e2
        rw [upd_same]
        intro hk'
        rcases hat with e' | ⟨q, e', hq⟩
        · exact h.apart j k hj hk hjk b hb' (e' ▸ hk')
        · have := ((h.row j hj).blk hb').2.1
          rw [e'] at hk'
          simp at hk'; omega
      · rw [upd_ne R _ e2]; exact h.apart j k hj hk hjk b hb'
/-- A row beside the block has grown. -/
theorem TL.app {B : Nat} {w w' : World} {g n m i : Nat} {R : Nat → Sr} {X : Nat → List Ev} (h : TL B w g n m R X) (hi : i < m) (hin : n ≤ i) {r' : Sr} {es : List Ev} (ho : EvO B w' r' es) (hb : Below B w w') (hg : w.grownBy w' (slv (R i)).ownBlock) (hat : (slv r').ownBlock = (slv (R i)).ownBlock ∨ ∃ k, (slv r').ownBlock = some k ∧ w.heap.size ≤ k) :
    TL B w' g n m (upd R i r') (upd X i es) := by
  obtain ⟨a, b, c, d, e⟩ := h.grow hi ho hb hg hat
  exact ⟨a, h.gB, b, h.nm, fun j hj => by rw [upd_ne R _ (by omega)]; exact c j hj, d, e⟩
theorem EvO.set {B : Nat} {w : World} {r : Sr} {es : List Ev} (h : EvO B w r es) {g i : Nat} {v : Value} (hg : (slv r).ownBlock ≠ some g) (hB : B ≤ g) : EvO B (w.setCell ⟨g, i, none⟩ v) r es := by
  have hgr : w.grownBy (w.setCell ⟨g, i, none⟩ v) (some g) := ⟨rfl, rfl, rfl, by simp [World.setCell], fun k _ hne => heap_setCell_other _ _ _ _ (fun e => hne (by rw [e]))⟩
  exact h.kept hgr (.inr hg) ⟨rfl, rfl, rfl, by simp [World.setCell], fun k hk => heap_setCell_other _ _ _ _ (by simp; omega)⟩
theorem blk_set {w : World} {g i : Nat} {v : Value} {T : TypeId} {f : Nat × Nat} (h : ∃ c, w.heap[g]? = some (.cells c T f)) : ∃ c, (w.setCell ⟨g, i, none⟩ v).heap[g]? = some (.cells c T f) := by
  obtain ⟨c, hc⟩ := h
  unfold World.setCell
  refine ⟨c.setIfInBounds i v, ?_⟩
  simp [Array.getElem?_modify, hc]
/-- A row of the block has grown, and its place was told. -/
theorem TL.put {B : Nat} {w w' : World} {g n m i : Nat} {R : Nat → Sr} {X : Nat → List Ev} (h : TL B w g n m R X) (hi : i < n) {r' : Sr} {es : List Ev} (ho : EvO B w' r' es) (hb : Below B w w') (hg : w.grownBy w' (slv (R i)).ownBlock) (hat : (slv r').ownBlock = (slv (R i)).ownBlock ∨ ∃ k, (slv r').ownBlock = some k ∧ w.heap.size ≤ k) :
    TL B (w'.setCell ⟨g, i, none⟩ (slv r')) g n m (upd R i r') (upd X i es) := by
  obtain ⟨a, b, c, d, e⟩ := h.grow (Nat.lt_of_lt_of_le hi h.nm) ho hb hg hat
  refine ⟨by simpa [World.setCell] using a, h.gB, blk_set b, h.nm, fun j hj => ?_, fun j hj => ?_, e⟩
  · by_cases e' : j = i
    · subst e'; rw [upd_same]; exact World.cell?_setCell_same' _ _ _ (by rw [c j hj]; rfl)
    · rw [upd_ne R _ e']
      exact setCell_other' (by first | (simp; done) | (simp; omega)) (c j hj)
  · refine (d j hj).set (fun e' => ?_) h.gB
    obtain ⟨q, hq⟩ := b
    obtain ⟨_, _, q', hq'⟩ := (d j hj).blk e'
    rw [hq] at hq'
    simp at hq'
theorem TL.below {B : Nat} {w w' : World} {g : Nat} {i : Nat} {v : Value} (hb : Below B w w') (hg : B ≤ g) : Below B w (w'.setCell ⟨g, i, none⟩ v) :=
  ⟨hb.os, hb.tape, hb.output, by simpa [World.setCell] using hb.size, fun k hk => (heap_setCell_other _ _ _ _ (by simp; omega)).trans (hb.block k hk)⟩
/-- Rows of a block are traces. -/
theorem TL.evs {B : Nat} {w : World} {g n m : Nat} {R : Nat → Sr} {X : Nat → List Ev} (h : TL B w g n m R X) (hn : n ≤ 100) (hX : ∀ i, i < n → (X i).length ≤ 10000) : Evs (fun _ => True) w (some ⟨g, 0, none⟩) n ((List.range n).map X) := by
  have hget : ∀ {α : Type} (f : Nat → α) j y, ((List.range n).map f)[j]? = some y → j < n ∧ y = f j := fun f j y hj => by
    obtain ⟨h1, h2⟩ := List.getElem?_eq_some_iff.1 hj
    simp at h1 h2
    exact ⟨h1, h2.symm⟩
  refine ⟨(List.range n).map R, ⟨by simp, by omega, fun e => (by cases e), fun _ => ⟨g, 0, rfl, trivial, fun j r hj => ?_⟩⟩, by simp, fun r hr => ?_, fun j r x hr hx => ?_⟩
  · obtain ⟨a, rfl⟩ := hget R j r hj
    rw [Nat.zero_add]
    exact h.cell j a
  · obtain ⟨j, hj, rfl⟩ := List.mem_map.1 hr
    exact (h.row j (by have := h.nm; simp at hj; omega)).cp
  · obtain ⟨a, rfl⟩ := hget R j r hr
    obtain ⟨_, rfl⟩ := hget X j x hx
    exact (h.row j (by have := h.nm; omega)).evr (by have := hX j a; omega)
/-- Another box stays as it was. -/
theorem VBx.grown {w w' : World} {V : Nat} {v : Vw} {row : Option Nat} (h : VBx w V v) (hg : w.grownBy w' row) (hr : ∀ k, row = some k → ∃ c, w.heap[k]? = some (.cells c 49 (0, 0))) : VBx w' V v := by
  refine (hg.block V h.lt (fun e => ?_)).trans h
  obtain ⟨c, hc⟩ := hr V e.symm
  unfold VBx at h
  rw [h] at hc
  simp at hc
theorem VBx.setg {w : World} {V g i : Nat} {v : Vw} {u : Value} (h : VBx w V v) (hg : ∃ c, w.heap[g]? = some (.cells c 41 (0, 0))) : VBx (w.setCell ⟨g, i, none⟩ u) V v := by
  refine (heap_setCell_other _ _ _ _ (fun e => ?_)).trans h
  obtain ⟨c, hc⟩ := hg
  unfold VBx at h
  simp at e
  rw [← e, h] at hc
  simp at hc
end Go.Proofs.Ythnbijnpbjfoaaa
