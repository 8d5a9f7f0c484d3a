/-
  What turns when an event comes to the stay that is being filled.
-/
import Derived.Test.YthnbijnpbjfoaaaJStay
namespace Go.Proofs.Ythnbijnpbjfoaaa
open Go.RowKit Go.Sort
set_option linter.unusedVariables false

theorem vid_equalIn (d : Nat) (n1 : Nat) (p1 : Int) (n2 : Nat) (p2 : Int) (w : World) : Sem.run Try.prog (Op.equalIn (d + 2) 44 (.agg #[.int .u64 (n1 : Nat), .int .i64 p1]) (.agg #[.int .u64 (n2 : Nat), .int .i64 p2])) w = .ok (decide (n1 = n2 ∧ p1 = p2)) w := by
  have u3 := Try.underlying3
  have a3 := Try.isAgg3
  have z3 := Try.sizeOf3
  have u26 := Try.underlying42
  have a26 := Try.isAgg42
  have z26 := Try.sizeOf42
  rw [run_equalIn_agg w (d + 1) 44 _ _ (by kernel_rfl) (by kernel_rfl)]
  simp only [Program.fieldsOf, Try.underlying44]
  go_simp
  by_cases h1 : n1 = n2
  · by_cases h2 : p1 = p2 <;> simp [h1, h2]
  · have : ¬ ((n1 : Int) = n2) := by omega
    simp [h1, this]
theorem vid_equal (n1 : Nat) (p1 : Int) (n2 : Nat) (p2 : Int) (w : World) : Sem.run Try.prog (Op.equalIn 10000 44 (.agg #[.int .u64 (n1 : Nat), .int .i64 p1]) (.agg #[.int .u64 (n2 : Nat), .int .i64 p2])) w = .ok (decide (n1 = n2 ∧ p1 = p2)) w := vid_equalIn 9998 n1 p1 n2 p2 w
theorem view_equal (n1 : Nat) (p1 : Int) (s1 : Nat) (n2 : Nat) (p2 : Int) (s2 : Nat) (w : World) : Sem.run Try.prog (Op.equalIn 10000 47 (.agg #[.int .u64 (n1 : Nat), .int .i64 p1, .int .u16 (s1 : Nat)]) (.agg #[.int .u64 (n2 : Nat), .int .i64 p2, .int .u16 (s2 : Nat)])) w = .ok (decide (n1 = n2 ∧ p1 = p2 ∧ s1 = s2)) w := by
  have u32 := Try.underlying45
  have a32 := Try.isAgg45
  have z32 := Try.sizeOf45
  have hv := fun W => vid_equalIn 9997 n1 p1 n2 p2 W
  rw [run_equalIn_agg w 9999 47 _ _ (by kernel_rfl) (by kernel_rfl)]
  simp only [Program.fieldsOf, Try.underlying47]
  go_simp
  have hs : ((s1 : Int) = s2) ↔ s1 = s2 := by omega
  by_cases h1 : n1 = n2 <;> by_cases h2 : p1 = p2 <;> by_cases h3 : s1 = s2 <;> simp [h1, h2, h3, hs]

/-- Of the blocks below Z only q may have turned. -/
structure Tch (q Z : Nat) (w w' : World) : Prop where
  os : w'.os = w.os
  tape : w'.tape = w.tape
  output : w'.output = w.output
  size : w.heap.size ≤ w'.heap.size
  block : ∀ k, k < Z → k ≠ q → w'.heap[k]? = w.heap[k]?
theorem Tch.of {q Z : Nat} {w w' : World} (h : Below Z w w') : Tch q Z w w' := ⟨h.os, h.tape, h.output, h.size, fun k hk _ => h.block k hk⟩
theorem Tch.trans {q Z : Nat} {a b c : World} (h : Tch q Z a b) (k : Tch q Z b c) : Tch q Z a c := ⟨k.os.trans h.os, k.tape.trans h.tape, k.output.trans h.output, Nat.le_trans h.size k.size, fun i hi hn => (k.block i hi hn).trans (h.block i hi hn)⟩
theorem Tch.set {q Z : Nat} (w : World) (i : Nat) (v : Value) : Tch q Z w (w.setCell ⟨q, i, none⟩ v) := ⟨rfl, rfl, rfl, by simp [World.setCell], fun k _ hn => heap_setCell_other _ _ _ _ (by simpa using hn)⟩
theorem Tch.below {q Z B : Nat} {w w' : World} (h : Tch q Z w w') (hq : B ≤ q) (hZ : B ≤ Z) : Below B w w' := ⟨h.os, h.tape, h.output, h.size, fun k hk => h.block k (by omega) (by omega)⟩
theorem Tch.cell {q Z : Nat} {w w' : World} (h : Tch q Z w w') {b o : Nat} {v : Value} (hc : w.cell? ⟨b, o, none⟩ = some v) (hb : b < Z) (hn : b ≠ q) : w'.cell? ⟨b, o, none⟩ = some v := by
  unfold World.cell? at hc ⊢
  rw [h.block b hb hn]
  exact hc
theorem cell_blk {w w' : World} {a : Addr} (e : w'.heap[a.block]? = w.heap[a.block]?) : w'.cell? a = w.cell? a := by
  unfold World.cell?
  rw [e]
theorem Tch.kp {q Z : Nat} {w w' : World} (h : Tch q Z w w') {p : Nat → Prop} (hp : ∀ b, p b → b < Z ∧ b ≠ q) : Kp p w w' := fun ad v hb hc => by
  rw [cell_blk (h.block _ (hp _ hb).1 (hp _ hb).2)]
  exact hc

theorem set_same {w : World} {q i : Nat} {u v : Value} (h : w.cell? ⟨q, i, none⟩ = some u) (h1 : v.oneCell' = true) : (w.setCell ⟨q, i, none⟩ v).cell? ⟨q, i, none⟩ = some v := World.cell?_setCell_same' _ _ _ (by rw [h]; rfl)
theorem set_off {w : World} {q i j : Nat} {u v : Value} (h : w.cell? ⟨q, j, none⟩ = some u) (hn : j ≠ i) : (w.setCell ⟨q, i, none⟩ v).cell? ⟨q, j, none⟩ = some u := setCell_other' (by simp <;> exact hn) h
theorem Y9.set4 {w : World} {q : Nat} {y : Sy} {rs rg : Sr} (h : Y9 w q y rs rg) (r : Sr) (xs : List By) : Y9 (w.setCell ⟨q, 4, none⟩ (.slice r.1 r.2.1 r.2.2)) q { y with sent := xs } r rg := by
  obtain ⟨h0, h1, h2, h3, h4, h5, h6, h7, h8⟩ := h
  exact ⟨set_off h0 (by decide), set_off h1 (by decide), set_off h2 (by decide), set_off h3 (by decide), set_same h4 rfl, set_off h5 (by decide), set_off h6 (by decide), set_off h7 (by decide), set_off h8 (by decide)⟩
theorem Y9.set5 {w : World} {q : Nat} {y : Sy} {rs rg : Sr} (h : Y9 w q y rs rg) (r : Sr) (xs : List Di) : Y9 (w.setCell ⟨q, 5, none⟩ (.slice r.1 r.2.1 r.2.2)) q { y with got := xs } rs r := by
  obtain ⟨h0, h1, h2, h3, h4, h5, h6, h7, h8⟩ := h
  exact ⟨set_off h0 (by decide), set_off h1 (by decide), set_off h2 (by decide), set_off h3 (by decide), set_off h4 (by decide), set_same h5 rfl, set_off h6 (by decide), set_off h7 (by decide), set_off h8 (by decide)⟩
theorem Y9.set6 {w : World} {q : Nat} {y : Sy} {rs rg : Sr} (h : Y9 w q y rs rg) (k : Nat) : Y9 (w.setCell ⟨q, 6, none⟩ (.int .i64 (k : Nat))) q { y with safe := k } rs rg := by
  obtain ⟨h0, h1, h2, h3, h4, h5, h6, h7, h8⟩ := h
  exact ⟨set_off h0 (by decide), set_off h1 (by decide), set_off h2 (by decide), set_off h3 (by decide), set_off h4 (by decide), set_off h5 (by decide), set_same h6 rfl, set_off h7 (by decide), set_off h8 (by decide)⟩
theorem Y9.set7 {w : World} {q : Nat} {y : Sy} {rs rg : Sr} (h : Y9 w q y rs rg) (n : Nat) (p : Int) : Y9 ((w.setCell ⟨q, 7, none⟩ (.int .u64 (n : Nat))).setCell ⟨q, 8, none⟩ (.int .i64 p)) q { y with nn := n, np := p } rs rg := by
  obtain ⟨h0, h1, h2, h3, h4, h5, h6, h7, h8⟩ := h
  exact ⟨set_off (set_off h0 (by decide)) (by decide), set_off (set_off h1 (by decide)) (by decide), set_off (set_off h2 (by decide)) (by decide), set_off (set_off h3 (by decide)) (by decide), set_off (set_off h4 (by decide)) (by decide), set_off (set_off h5 (by decide)) (by decide), set_off (set_off h6 (by decide)) (by decide), set_off (set_same h7 rfl) (by decide), set_same (set_off h8 (by decide)) rfl⟩

theorem OwB.keep {p : Nat → Prop} {B : Nat} {w w' : World} {r : Sr} {xs : List By} (h : OwB p B w r xs) (u : Below w.heap.size w w') : OwB p B w' r xs := by
  obtain ⟨h0, rs, h1, h2, h3, h4⟩ := h
  exact ⟨h0, rs, own_keep h1 u, h2, h3, fun j s x hs hx => (h4 j s x hs hx).keep (Kp.up u)⟩
theorem OwB.other {p : Nat → Prop} {B : Nat} {w w' : World} {r : Sr} {xs : List By} {G : Nat} (h : OwB p B w r xs) (u : w.grownBy w' (some G)) (hG : ∀ k, (Value.slice r.1 r.2.1 r.2.2).ownBlock = some k → k ≠ G) (hp : ∀ b, p b → b ≠ G) : OwB p B w' r xs := by
  obtain ⟨h0, rs, h1, h2, h3, h4⟩ := h
  refine ⟨h0, rs, h1.kept u ?_, h2, h3, fun j s x hs hx => (h4 j s x hs hx).keep (Kp.grown u hp)⟩
  cases hb : Value.ownBlock (.slice r.1 r.2.1 r.2.2) with
  | none => exact Or.inl rfl
  | some k => exact Or.inr (by have := hG k hb; simpa using this)
theorem OwP.other2 {p : Nat → Prop} {B : Nat} {w w' : World} {r : Sr} {xs : List Di} {G : Nat} (h : OwP p B w r xs) (u : w.grownBy w' (some G)) (hG : ∀ k, (Value.slice r.1 r.2.1 r.2.2).ownBlock = some k → k ≠ G) (hp : ∀ b, p b → b ≠ G) : OwP p B w' r xs := by
  obtain ⟨h0, rs, h1, h2, h3⟩ := h
  refine ⟨h0, rs, h1.kept u ?_, h2, fun j s x hs hx => (h3 j s x hs hx).keep (Kp.grown u hp)⟩
  cases hb : Value.ownBlock (.slice r.1 r.2.1 r.2.2) with
  | none => exact Or.inl rfl
  | some k => exact Or.inr (by have := hG k hb; simpa using this)
theorem own_blk {w : World} {B T z n : Nat} {v : Value} {vs : List Value} (h : w.ownsRow B T z v n vs) {k : Nat} (hk : v.ownBlock = some k) : B ≤ k ∧ k < w.heap.size ∧ ∃ c, w.heap[k]? = some (.cells c T (0, 0)) := by
  rcases h.2 with ⟨rfl, _⟩ | ⟨g, cap, cur, rfl, hb, hg, _⟩
  · simp [Value.ownBlock] at hk
  · simp only [Value.ownBlock, Option.some.injEq] at hk
    subst hk
    exact ⟨hb, (Array.getElem?_eq_some_iff.1 hg).1, cur, hg⟩
/-- Rows of unlike types are in unlike blocks. -/
theorem own_apart {w : World} {B B' T T' z z' n n' : Nat} {v v' : Value} {vs vs' : List Value} (h : w.ownsRow B T z v n vs) (h' : w.ownsRow B' T' z' v' n' vs') (hT : T ≠ T') {k : Nat} (hk : v.ownBlock = some k) : v'.ownBlock ≠ some k := fun hk' => by
  obtain ⟨_, _, c, e⟩ := own_blk h hk
  obtain ⟨_, _, c', e'⟩ := own_blk h' hk'
  rw [e] at e'
  simp only [Option.some.injEq, Obj.cells.injEq] at e'
  exact hT e'.2.1
theorem info30 : (Try.prog.info? 30).map (fun i => (i.zero, i.size, i.bytes)) = some (some (.slice none 0 0), 1, 24) := by kernel_rfl
theorem und32' : Try.prog.underlying 32 = some (.slice 30) := by kernel_rfl
/-- 'append(r, x)' of one list of bytes, as a run. -/
theorem OwB.run {p : Nat → Prop} {B : Nat} {w : World} {r : Sr} {xs : List By} (h : OwB p B w r xs) (hp : ∀ b, p b → b < B) (s : Sr) (x : By) (hs : Cp s) (hx : Rw p w s.1 s.2.1 x) (hn : xs.length ≤ 10000) (hB : B ≤ w.heap.size) {a : Addr} (ha : ∀ j u, ([.slice s.1 s.2.1 s.2.2] : List Value)[j]? = some u → w.cell? (a.add j) = some u) :
    ∃ (r' : Sr) (w' : World), (Builtin.append_ #[32, 32] 32 #[.slice r.1 r.2.1 r.2.2, .slice (some a) 1 1]).run Try.prog w = .ok (.slice r'.1 r'.2.1 r'.2.2) w' ∧ OwB p B w' r' (xs ++ [x]) ∧ Below B w w' ∧ w.grownBy w' (Value.slice r.1 r.2.1 r.2.2).ownBlock := by
  obtain ⟨h0, rs, h1, h2, h3, h4⟩ := h
  obtain ⟨i0, hi0, hz0, hz1, hz2⟩ := info_parts info30
  obtain ⟨v', w', k1, k2, k3, _⟩ := run_append_own_at (P := Try.prog) (w := w) B 32 32 30 i0 (.slice none 0 0) 1 24 und32' hi0 hz0 hz1 hz2 rfl (by decide) _ xs.length (rs.map slv) h1 a 1 1 [.slice s.1 s.2.1 s.2.2] rfl ha (fun u hu => by
    simp at hu
    subst hu
    rfl) (by unfold maxLen; omega) (by omega) hB
  have hb : Below B w w' := bl_grown (Below.refl _ _) hB k3 (fun k hk => (h1.lt k hk).1)
  obtain ⟨r', rfl, hr'⟩ := own_row1 k2
  refine ⟨r', w', k1, ⟨by simp [hr'], rs ++ [s], by rw [List.map_append]; simpa [slv] using k2, by simp [h2], fun t ht => ?_, fun j t z ht hz => ?_⟩, hb, k3⟩
  · rw [List.mem_append, List.mem_singleton] at ht
    rcases ht with ht | rfl
    · exact h3 t ht
    · exact hs
  · have kp : Kp p w w' := Kp.below hb hp
    exact each_app (E := fun _ r x => Rw p w' r.1 r.2.1 x) (w := w') h2 (fun j t z ht hz => (h4 j t z ht hz).keep kp) (hx.keep kp) j t z ht hz
end Go.Proofs.Ythnbijnpbjfoaaa
