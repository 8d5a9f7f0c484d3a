/-
  Rows of events: one more beside them; parts of one appended to it; it takes another's place.
-/
import Derived.Test.YthnbijnpbjfoaaaJTr1
namespace Go.Proofs.Ythnbijnpbjfoaaa
open Go.RowKit Go.Sort
set_option linter.unusedVariables false

/-- A row beside, empty as yet. -/
theorem TL.extend {B : Nat} {w : World} {g n : Nat} {R : Nat → Sr} {X : Nat → List Ev} (h : TL B w g n n R X) : TL B w g n (n + 1) (upd R n (none, 0, 0)) (upd X n []) := by
  refine ⟨h.sz, h.gB, h.blk, by omega, fun i hi => by rw [upd_ne _ _ (by omega)]; exact h.cell i hi, fun i hi => ?_, fun i j hi hj hij b hb => ?_⟩
  · by_cases e : i = n
    · subst e; rw [upd_same, upd_same]; exact EvO.nil _ _
    · rw [upd_ne _ _ e, upd_ne _ _ e]; exact h.row i (by omega)
  · by_cases e : i = n
    · subst e; rw [upd_same] at hb; simp [slv, Value.ownBlock] at hb
    · by_cases e2 : j = n
      · subst e2; rw [upd_same]; simp [slv, Value.ownBlock]
      · rw [upd_ne _ _ e] at hb; rw [upd_ne _ _ e2]; exact h.apart i j (by omega) (by omega) hij b hb
/-- The row beside takes the place of row k. -/
theorem TL.move {B : Nat} {w : World} {g n k : Nat} {R : Nat → Sr} {X : Nat → List Ev} (h : TL B w g n (n + 1) R X) (hk : k < n) : TL B (w.setCell ⟨g, k, none⟩ (slv (R n))) g n n (upd R k (R n)) (upd X k (X n)) := by
  refine ⟨by simpa [World.setCell] using h.sz, h.gB, blk_set h.blk, Nat.le_refl _, fun i hi => ?_, fun i hi => ?_, fun i j hi hj hij b hb => ?_⟩
  · by_cases e : i = k
    · subst e; rw [upd_same]; exact World.cell?_setCell_same' _ _ _ (by rw [h.cell i hi]; rfl)
    · rw [upd_ne _ _ e]
      exact setCell_other' (by first | (simp; done) | (simp; omega)) (h.cell i hi)
  · by_cases e : i = k
    · subst e; rw [upd_same, upd_same]; exact (h.row n (by omega)).set (h.ng (by omega)) h.gB
    · rw [upd_ne _ _ e, upd_ne _ _ e]; exact (h.row i (by omega)).set (h.ng (by omega)) h.gB
  · by_cases e : i = k
    · subst e
      rw [upd_same] at hb
      rw [upd_ne _ _ (Ne.symm hij)]
      exact h.apart n j (by omega) (by omega) (by omega) b hb
    · rw [upd_ne _ _ e] at hb
      by_cases e2 : j = k
      · subst e2; rw [upd_same]; exact h.apart i n (by omega) (by omega) (by omega) b hb
      · rw [upd_ne _ _ e2]; exact h.apart i j (by omega) (by omega) hij b hb
/-- A block that is no row's turns. -/
theorem TL.setQ {B : Nat} {w : World} {g n m Q i : Nat} {v : Value} {R : Nat → Sr} {X : Nat → List Ev} (h : TL B w g n m R X) (hQ : ∀ j, j < m → (slv (R j)).ownBlock ≠ some Q) (hg : Q ≠ g) (hB : B ≤ Q) : TL B (w.setCell ⟨Q, i, none⟩ v) g n m R X := by
  refine ⟨by simpa [World.setCell] using h.sz, h.gB, ?_, h.nm, fun j hj => setCell_other' (fun e' => hg (Addr.mk.inj e').1.symm) (h.cell j hj), fun j hj => (h.row j hj).set (hQ j hj) hB, h.apart⟩
  obtain ⟨c, hc⟩ := h.blk
  exact ⟨c, (heap_setCell_other _ _ _ _ (fun e => hg (by simpa using e.symm))).trans hc⟩
/-- Events that lie at a are appended to the row beside. -/
theorem TL.side {B : Nat} {w : World} {g n : Nat} {R : Nat → Sr} {X : Nat → List Ev} (h : TL B w g n (n + 1) R X) (xs : List Ex) (hx : ∀ x ∈ xs, ExOk B w x) (hn : (X n).length + xs.length ≤ 10000) {a : Addr} (c : Nat) (ha : ∀ j u, (cellE xs)[j]? = some u → w.cell? (a.add j) = some u) :
    ∃ (r' : Sr) (w5 : World), (Builtin.append_ #[41, 41] 41 #[slv (R n), .slice (some a) xs.length c]).run Try.prog w = .ok (slv r') w5 ∧ TL B w5 g n (n + 1) (upd R n r') (upd X n (X n ++ xs.map Prod.fst)) ∧ Below B w w5 ∧ w.grownBy w5 (slv (R n)).ownBlock ∧ ((slv r').ownBlock = (slv (R n)).ownBlock ∨ ∃ k, (slv r').ownBlock = some k ∧ w.heap.size ≤ k) := by
  obtain ⟨r', w5, h1, h2, h3, h4, h5⟩ := (h.row n (by omega)).run xs hx hn h.sz c ha
  exact ⟨r', w5, h1, h.app (by omega) (Nat.le_refl _) h2 h3 h4 h5, h3, h4, h5⟩
theorem TL.side_none {B : Nat} {w : World} {g n : Nat} {R : Nat → Sr} {X : Nat → List Ev} (h : TL B w g n (n + 1) R X) : (Builtin.append_ #[41, 41] 41 #[slv (R n), .slice none 0 0]).run Try.prog w = .ok (slv (R n)) w := (h.row n (by omega)).run_none
/-- The first m events of row k .. -/
theorem TL.sideHead {B : Nat} {w : World} {g n k m : Nat} {R : Nat → Sr} {X : Nat → List Ev} (h : TL B w g n (n + 1) R X) (hk : k < n) (hm : m ≤ (X k).length) (hn : (X n).length + m ≤ 10000) :
    ∃ (r' : Sr) (w5 : World), (Builtin.append_ #[41, 41] 41 #[slv (R n), .slice (R k).1 m (R k).2.2]).run Try.prog w = .ok (slv r') w5 ∧ TL B w5 g n (n + 1) (upd R n r') (upd X n (X n ++ (X k).take m)) ∧ Below B w w5 ∧ w.grownBy w5 (slv (R n)).ownBlock ∧ ((slv r').ownBlock = (slv (R n)).ownBlock ∨ ∃ k, (slv r').ownBlock = some k ∧ w.heap.size ≤ k) := by
  have hr := h.row k (by omega)
  rcases hr.shape with ⟨e, e2⟩ | ⟨b, cap, e, _⟩
  · rw [e2] at hm ⊢
    obtain rfl : m = 0 := by simpa using hm
    refine ⟨R n, w, by rw [e]; exact h.side_none, ?_, Below.refl _ _, World.grownBy.refl _ _, .inl rfl⟩
    have := h.app (r' := R n) (es := X n) (by omega) (Nat.le_refl _) (h.row n (by omega)) (Below.refl _ _) (World.grownBy.refl _ _) (.inl rfl)
    simpa using this
  · obtain ⟨xs, h1, h2, h3⟩ := hr.cells
    have h4 := h3 b cap e
    have hl : xs.length = (X k).length := by rw [← h1]; simp
    have hlt : (xs.take m).length = m := by rw [List.length_take]; omega
    obtain ⟨r', w5, k1, k2, k3⟩ := h.side (xs.take m) (fun y hy => h2 y (List.mem_of_mem_take hy)) (by rw [hlt]; exact hn) (a := ⟨b, 0, none⟩) cap (fun j u hj => by
      rw [Addr.add_lit, Nat.zero_add]
      exact h4 j u (cellE_take _ _ _ _ hj))
    rw [hlt] at k1
    rw [List.map_take, h1] at k2
    rw [e]
    exact ⟨r', w5, k1, k2, k3⟩
theorem cellE_drop (xs : List Ex) (m j : Nat) (u : Value) (hm : m ≤ xs.length) (h : (cellE (xs.drop m))[j]? = some u) : (cellE xs)[m * 6 + j]? = some u := by
  have e : cellE xs = cellE (xs.take m) ++ cellE (xs.drop m) := by rw [← cellE_app, List.take_append_drop]
  have hl : (cellE (xs.take m)).length = m * 6 := by rw [cellE_len, List.length_take, Nat.min_eq_left hm]
  rw [e, List.getElem?_append_right (by omega), hl, show m * 6 + j - m * 6 = j by omega]
  exact h
theorem slice_from41 (w : World) (b off L cap m : Nat) (hL : m ≤ L) (hc : L ≤ cap) : (Instr.slice 41 (.slice (some ⟨b, off, none⟩) L cap) (some (.int .i64 (m : Nat))) none none).run Try.prog w = .ok (.slice (some (if cap = m then ⟨b, off, none⟩ else ⟨b, off + m * 6, none⟩)) ((L - m : Nat)) ((cap - m : Nat))) w := by
  rw [run_slice_l w 41 (some ⟨b, off, none⟩) L cap und41e .i64 (m : Nat) (by omega) (by omega), size41]
  simp only [Result.andThen_ok, sliced, Int.toNat_natCast]
  congr 2
  split
  · rfl
  · simp [Addr.add_lit]
/-- .. and those from m on. -/
theorem TL.sideTail {B : Nat} {w : World} {g n k m b cap : Nat} {R : Nat → Sr} {X : Nat → List Ev} (h : TL B w g n (n + 1) R X) (hk : k < n) (hm : m ≤ (X k).length) (hn : (X n).length + (X k).length ≤ 10000) (e : R k = (some ⟨b, 0, none⟩, (X k).length, cap)) :
    ∃ (r' : Sr) (w5 : World), (Builtin.append_ #[41, 41] 41 #[slv (R n), .slice (some (if cap = m then ⟨b, 0, none⟩ else ⟨b, 0 + m * 6, none⟩)) ((X k).length - m) (cap - m)]).run Try.prog w = .ok (slv r') w5 ∧ TL B w5 g n (n + 1) (upd R n r') (upd X n (X n ++ (X k).drop m)) ∧ Below B w w5 := by
  have hr := h.row k (by omega)
  obtain ⟨xs, h1, h2, h3⟩ := hr.cells
  have h4 := h3 b cap e
  have hl : xs.length = (X k).length := by rw [← h1]; simp
  have hlt : (xs.drop m).length = (X k).length - m := by rw [List.length_drop]; omega
  have hcap : (X k).length ≤ cap := by have := hr.cp.1; rw [e] at this; exact this
  obtain ⟨r', w5, k1, k2, k3, _⟩ := h.side (xs.drop m) (fun y hy => h2 y (List.mem_of_mem_drop hy)) (by rw [hlt]; omega) (a := if cap = m then ⟨b, 0, none⟩ else ⟨b, 0 + m * 6, none⟩) (cap - m) (fun j u hj => by
    by_cases hc : cap = m
    · have : xs.drop m = [] := List.drop_eq_nil_of_le (by omega)
      rw [this] at hj
      simp [cellE] at hj
    · rw [if_neg hc, Addr.add_lit, Nat.zero_add]
      exact h4 _ u (cellE_drop _ _ _ _ (by omega) hj))
  rw [hlt] at k1
  rw [List.map_drop, h1] at k2
  exact ⟨r', w5, k1, k2, k3⟩
theorem cell_two (w : World) (x : Ex) : ∀ j u, (cellE [x, x])[j]? = some u → (w.alloc (.cells #[.int .u8 (x.1.k : Nat), .int .u64 (x.1.n : Nat), .int .i64 x.1.p, .int .u16 (x.1.s : Nat), .int .i64 x.1.f, .slice x.2.1 x.2.2.1 x.2.2.2, .int .u8 (x.1.k : Nat), .int .u64 (x.1.n : Nat), .int .i64 x.1.p, .int .u16 (x.1.s : Nat), .int .i64 x.1.f, .slice x.2.1 x.2.2.1 x.2.2.2] 49)).cell? ((⟨w.heap.size, 0, none⟩ : Addr).add j) = some u := fun j u hj => by
  rw [Addr.add_lit, Nat.zero_add]
  refine cell_box w _ 49 j u ?_
  have e : cellE [x, x] = cellsE x ++ cellsE x := by simp [cellE]
  rw [e] at hj
  simpa [cellsE] using hj
end Go.Proofs.Ythnbijnpbjfoaaa
