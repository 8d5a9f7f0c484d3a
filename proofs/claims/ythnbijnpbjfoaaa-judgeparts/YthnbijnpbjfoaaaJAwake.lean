/-
  The document's example of judge.
-/
import Derived.Test.YthnbijnpbjfoaaaJAll1
import Derived.Test.YthnbijnpbjfoaaaJNil
import Derived.Lib.SlBytesConst
namespace Go.Proofs.Ythnbijnpbjfoaaa
open Go.RowKit Go.Sort
set_option linter.unusedVariables false
set_option linter.unusedSimpArgs false

theorem cell_boxF (w : World) (c : Array Value) (t : TypeId) (fr : Nat × Nat) (j : Nat) (v : Value) (hj : c[j]? = some v) : (w.alloc (.cells c t fr)).cell? ⟨w.heap.size, j, none⟩ = some v := by
  have hb : (w.alloc (.cells c t fr)).heap[w.heap.size]? = some (.cells c t fr) := heap_alloc_new _ _
  unfold World.cell?; rw [hb]; simpa using hj
theorem one_get {α : Type} {a : α} {j : Nat} {x : α} (h : [a][j]? = some x) : j = 0 ∧ x = a := by
  cases j with
  | zero => simp at h; exact ⟨rfl, h.symm⟩
  | succ j => simp at h
theorem two_get {α : Type} {a b : α} {j : Nat} {x : α} (h : [a, b][j]? = some x) : j = 0 ∧ x = a ∨ j = 1 ∧ x = b := by
  cases j with
  | zero => simp at h; exact .inl ⟨rfl, h.symm⟩
  | succ j =>
    cases j with
    | zero => simp at h; exact .inr ⟨rfl, h.symm⟩
    | succ j => simp at h
/-- Lists that lie at the front of a block of one's own. -/
theorem rw_one {w : World} {g : Nat} {c : UInt8} (h : w.cell? ⟨g, 0, none⟩ = some (.int .u8 (c.toNat : Int))) : Rw (fun _ => True) w (some ⟨g, 0, none⟩) 1 [c] :=
  ⟨rfl, by omega, (fun e => by cases e), fun _ => ⟨g, 0, rfl, trivial, fun j x hj => by obtain ⟨rfl, rfl⟩ := one_get hj; exact h⟩⟩
theorem its_one {w : World} {g : Nat} {f : Int} {r : Sr} {ys : By} (h0 : w.cell? ⟨g, 0, none⟩ = some (.int .i64 f)) (h1 : w.cell? ⟨g, 1, none⟩ = some (.slice r.1 r.2.1 r.2.2)) (hr : Rw (fun _ => True) w r.1 r.2.1 ys) : Its (fun _ => True) w (some ⟨g, 0, none⟩) 1 [(f, ys)] :=
  ⟨[(f, r)], ⟨rfl, by omega, (fun e => by cases e), fun _ => ⟨g, 0, rfl, trivial, fun j x hj => by obtain ⟨rfl, rfl⟩ := one_get hj; exact ⟨h0, h1⟩⟩⟩, rfl, fun j x d hx hd => by
    obtain ⟨_, rfl⟩ := one_get hx
    obtain ⟨_, rfl⟩ := one_get hd
    exact ⟨rfl, hr⟩⟩
theorem lr_one {α : Type} {E : World → Sr → α → Prop} {w : World} {g : Nat} {r : Sr} {x : α} (h : w.cell? ⟨g, 0, none⟩ = some (.slice r.1 r.2.1 r.2.2)) (hc : Cp r) (hE : E w r x) : Lr E w (some ⟨g, 0, none⟩) 1 [x] :=
  ⟨[r], ⟨rfl, by omega, (fun e => by cases e), fun _ => ⟨g, 0, rfl, trivial, fun j y hj => by obtain ⟨rfl, rfl⟩ := one_get hj; exact h⟩⟩, rfl, fun y hy => by rw [List.mem_singleton] at hy; subst hy; exact hc, fun j s y hs hy => by
    obtain ⟨_, rfl⟩ := one_get hs
    obtain ⟨_, rfl⟩ := one_get hy
    exact hE⟩
theorem lr_two {α : Type} {E : World → Sr → α → Prop} {w : World} {g : Nat} {r s : Sr} {x y : α} (h : w.cell? ⟨g, 0, none⟩ = some (.slice r.1 r.2.1 r.2.2)) (h' : w.cell? ⟨g, 1, none⟩ = some (.slice s.1 s.2.1 s.2.2)) (hc : Cp r) (hc' : Cp s) (hE : E w r x) (hE' : E w s y) : Lr E w (some ⟨g, 0, none⟩) 2 [x, y] :=
  ⟨[r, s], ⟨rfl, by omega, (fun e => by cases e), fun _ => ⟨g, 0, rfl, trivial, fun j u hj => by
    rcases two_get hj with ⟨rfl, rfl⟩ | ⟨rfl, rfl⟩
    · exact h
    · exact h'⟩⟩, rfl, fun u hu => by
      simp at hu
      rcases hu with rfl | rfl
      · exact hc
      · exact hc', fun j u v hu hv => by
    rcases two_get hu with ⟨rfl, rfl⟩ | ⟨rfl, rfl⟩
    · rcases two_get hv with ⟨_, rfl⟩ | ⟨e, _⟩
      · exact hE
      · omega
    · rcases two_get hv with ⟨e, _⟩ | ⟨_, rfl⟩
      · omega
      · exact hE'⟩
def exAcc : List (List By) := [[[97], [98]]]
def exDel : List (List Di) := [[(0, [97])], []]
theorem ex_ok : SeqOk exAcc exDel [(0, [97])] := by
  refine ⟨fun l hl => ?_, .inr (by simp [exDel]), fun k d hd => ?_⟩
  · simp [exDel] at hl
    rcases hl with rfl | rfl
    · exact List.prefix_refl _
    · simp
  · obtain ⟨rfl, rfl⟩ := one_get hd
    exact ⟨by simp, _, rfl, by simp [cnt]⟩
theorem ex_no : ¬ ∃ S, SeqOk [[[97]]] [[((0 : Int), [(98 : UInt8)])]] S := by
  rintro ⟨S, h1, h2, h3⟩
  have : S = [(0, [98])] := by
    have hp := h1 [(0, [98])] (by simp)
    rcases h2 with rfl | h2
    · simp at hp
    · simpa using h2
  subst this
  obtain ⟨_, own, a, b⟩ := h3 0 (0, [98]) rfl
  simp at a
  subst a
  simp [cnt] at b
theorem cp1 (a : Addr) : Cp (some a, 1, 1) := ⟨Nat.le_refl _, by simp, fun e => by cases e⟩
theorem cp2 (a : Addr) : Cp (some a, 2, 2) := ⟨Nat.le_refl _, by simp, fun e => by cases e⟩
/-- What the first call is handed. -/
theorem ex_in1 (w : World) : ∃ W, (((((((w.alloc (.cells #[.int .u8 97] 5 (1, 2))).alloc (.cells #[.int .u8 98] 5 (1, 2))).alloc (.cells #[.slice (some ⟨w.heap.size, 0, none⟩) 1 1, .slice (some ⟨w.heap.size + 1, 0, none⟩) 1 1] 30)).alloc (.cells #[.slice (some ⟨w.heap.size + 1 + 1, 0, none⟩) 2 2] 32)).alloc (.cells #[.int .u8 97] 5 (1, 2))).alloc (.cells #[.int .i64 0, .slice (some ⟨w.heap.size + 1 + 1 + 1 + 1, 0, none⟩) 1 1] 34)).alloc (.cells #[.slice (some ⟨w.heap.size + 1 + 1 + 1 + 1 + 1, 0, none⟩) 1 1, .slice none 0 0] 25)) = W ∧
    Below w.heap.size w W ∧ Bss W (some ⟨w.heap.size + 1 + 1 + 1, 0, none⟩) 1 exAcc ∧ Iss W (some ⟨w.heap.size + 1 + 1 + 1 + 1 + 1 + 1, 0, none⟩) 2 exDel := by
  obtain ⟨n, hn⟩ : ∃ n, w.heap.size = n := ⟨_, rfl⟩
  rw [hn]
  obtain ⟨A0, h0⟩ : ∃ A0, w.alloc (.cells #[.int .u8 97] 5 (1, 2)) = A0 := ⟨_, rfl⟩
  have z0 : A0.heap.size = n + 1 := by rw [← h0]; simp [hn]
  have c0 : A0.cell? ⟨n, 0, none⟩ = some (.int .u8 97) := by rw [← h0, ← hn]; exact cell_boxF w _ 5 (1, 2) 0 _ rfl
  have b0 : Below n w A0 := by rw [← h0]; exact (Below.refl n w).alloc (by omega) _
  rw [h0]
  obtain ⟨A1, h1⟩ : ∃ A, A0.alloc (.cells #[.int .u8 98] 5 (1, 2)) = A := ⟨_, rfl⟩
  have z1 : A1.heap.size = n + 1 + 1 := by rw [← h1]; simp [z0]
  have c1 : A1.cell? ⟨n + 1, 0, none⟩ = some (.int .u8 98) := by rw [← h1, ← z0]; exact cell_boxF A0 _ 5 (1, 2) 0 _ rfl
  have b1 : Below A0.heap.size A0 A1 := by rw [← h1]; exact bl1 _ _
  rw [h1]
  obtain ⟨A2, h2⟩ : ∃ A, A1.alloc (.cells #[.slice (some ⟨n, 0, none⟩) 1 1, .slice (some ⟨n + 1, 0, none⟩) 1 1] 30) = A := ⟨_, rfl⟩
  have z2 : A2.heap.size = n + 1 + 1 + 1 := by rw [← h2]; simp [z1]
  have c2 : A2.cell? ⟨n + 1 + 1, 0, none⟩ = some (.slice (some ⟨n, 0, none⟩) 1 1) := by rw [← h2, ← z1]; exact cell_box A1 _ 30 0 _ rfl
  have c2' : A2.cell? ⟨n + 1 + 1, 1, none⟩ = some (.slice (some ⟨n + 1, 0, none⟩) 1 1) := by rw [← h2, ← z1]; exact cell_box A1 _ 30 1 _ rfl
  have b2 : Below A1.heap.size A1 A2 := by rw [← h2]; exact bl1 _ _
  rw [h2]
  obtain ⟨A3, h3⟩ : ∃ A, A2.alloc (.cells #[.slice (some ⟨n + 1 + 1, 0, none⟩) 2 2] 32) = A := ⟨_, rfl⟩
  have z3 : A3.heap.size = n + 1 + 1 + 1 + 1 := by rw [← h3]; simp [z2]
  have c3 : A3.cell? ⟨n + 1 + 1 + 1, 0, none⟩ = some (.slice (some ⟨n + 1 + 1, 0, none⟩) 2 2) := by rw [← h3, ← z2]; exact cell_box A2 _ 32 0 _ rfl
  have b3 : Below A2.heap.size A2 A3 := by rw [← h3]; exact bl1 _ _
  rw [h3]
  obtain ⟨A4, h4⟩ : ∃ A, A3.alloc (.cells #[.int .u8 97] 5 (1, 2)) = A := ⟨_, rfl⟩
  have z4 : A4.heap.size = n + 1 + 1 + 1 + 1 + 1 := by rw [← h4]; simp [z3]
  have c4 : A4.cell? ⟨n + 1 + 1 + 1 + 1, 0, none⟩ = some (.int .u8 97) := by rw [← h4, ← z3]; exact cell_boxF A3 _ 5 (1, 2) 0 _ rfl
  have b4 : Below A3.heap.size A3 A4 := by rw [← h4]; exact bl1 _ _
  rw [h4]
  obtain ⟨A5, h5⟩ : ∃ A, A4.alloc (.cells #[.int .i64 0, .slice (some ⟨n + 1 + 1 + 1 + 1, 0, none⟩) 1 1] 34) = A := ⟨_, rfl⟩
  have z5 : A5.heap.size = n + 1 + 1 + 1 + 1 + 1 + 1 := by rw [← h5]; simp [z4]
  have c5 : A5.cell? ⟨n + 1 + 1 + 1 + 1 + 1, 0, none⟩ = some (.int .i64 0) := by rw [← h5, ← z4]; exact cell_box A4 _ 34 0 _ rfl
  have c5' : A5.cell? ⟨n + 1 + 1 + 1 + 1 + 1, 1, none⟩ = some (.slice (some ⟨n + 1 + 1 + 1 + 1, 0, none⟩) 1 1) := by rw [← h5, ← z4]; exact cell_box A4 _ 34 1 _ rfl
  have b5 : Below A4.heap.size A4 A5 := by rw [← h5]; exact bl1 _ _
  rw [h5]
  obtain ⟨A6, h6⟩ : ∃ A, A5.alloc (.cells #[.slice (some ⟨n + 1 + 1 + 1 + 1 + 1, 0, none⟩) 1 1, .slice none 0 0] 25) = A := ⟨_, rfl⟩
  have c6 : A6.cell? ⟨n + 1 + 1 + 1 + 1 + 1 + 1, 0, none⟩ = some (.slice (some ⟨n + 1 + 1 + 1 + 1 + 1, 0, none⟩) 1 1) := by rw [← h6, ← z5]; exact cell_box A5 _ 25 0 _ rfl
  have c6' : A6.cell? ⟨n + 1 + 1 + 1 + 1 + 1 + 1, 1, none⟩ = some (.slice none 0 0) := by rw [← h6, ← z5]; exact cell_box A5 _ 25 1 _ rfl
  have b6 : Below A5.heap.size A5 A6 := by rw [← h6]; exact bl1 _ _
  rw [h6]
  have u5 := b6
  have u4 := bl_step b5 u5
  have u3 := bl_step b4 u4
  have u2 := bl_step b3 u3
  have u1 := bl_step b2 u2
  have u0 := bl_step b1 u1
  refine ⟨A6, rfl, hn ▸ bl_step (hn ▸ b0) u0, ?_, ?_⟩
  · exact lr_one (r := (some ⟨n + 1 + 1, 0, none⟩, 2, 2)) (bl_cell u3 c3) (cp2 _) (lr_two (r := (some ⟨n, 0, none⟩, 1, 1)) (s := (some ⟨n + 1, 0, none⟩, 1, 1)) (bl_cell u2 c2) (bl_cell u2 c2') (cp1 _) (cp1 _) (rw_one (bl_cell u0 c0)) (rw_one (bl_cell u1 c1)))
  · exact lr_two (r := (some ⟨n + 1 + 1 + 1 + 1 + 1, 0, none⟩, 1, 1)) (s := (none, 0, 0)) c6 c6' (cp1 _) Cp.nil (its_one (r := (some ⟨n + 1 + 1 + 1 + 1, 0, none⟩, 1, 1)) (bl_cell u5 c5) (bl_cell u5 c5') (rw_one (bl_cell u4 c4))) (Its.nil0 _ _)
/-- .. and the second one. -/
theorem ex_in2 (w : World) : ∃ W, ((((((w.alloc (.cells #[.int .u8 97] 5 (1, 2))).alloc (.cells #[.slice (some ⟨w.heap.size, 0, none⟩) 1 1] 30)).alloc (.cells #[.slice (some ⟨w.heap.size + 1, 0, none⟩) 1 1] 32)).alloc (.cells #[.int .u8 98] 5 (1, 2))).alloc (.cells #[.int .i64 0, .slice (some ⟨w.heap.size + 1 + 1 + 1, 0, none⟩) 1 1] 34)).alloc (.cells #[.slice (some ⟨w.heap.size + 1 + 1 + 1 + 1, 0, none⟩) 1 1] 25)) = W ∧
    Below w.heap.size w W ∧ Bss W (some ⟨w.heap.size + 1 + 1, 0, none⟩) 1 [[[97]]] ∧ Iss W (some ⟨w.heap.size + 1 + 1 + 1 + 1 + 1, 0, none⟩) 1 [[((0 : Int), [(98 : UInt8)])]] := by
  obtain ⟨n, hn⟩ : ∃ n, w.heap.size = n := ⟨_, rfl⟩
  rw [hn]
  obtain ⟨A0, h0⟩ : ∃ A0, w.alloc (.cells #[.int .u8 97] 5 (1, 2)) = A0 := ⟨_, rfl⟩
  have z0 : A0.heap.size = n + 1 := by rw [← h0]; simp [hn]
  have c0 : A0.cell? ⟨n, 0, none⟩ = some (.int .u8 97) := by rw [← h0, ← hn]; exact cell_boxF w _ 5 (1, 2) 0 _ rfl
  have b0 : Below n w A0 := by rw [← h0]; exact (Below.refl n w).alloc (by omega) _
  rw [h0]
  obtain ⟨A1, h1⟩ : ∃ A, A0.alloc (.cells #[.slice (some ⟨n, 0, none⟩) 1 1] 30) = A := ⟨_, rfl⟩
  have z1 : A1.heap.size = n + 1 + 1 := by rw [← h1]; simp [z0]
  have c1 : A1.cell? ⟨n + 1, 0, none⟩ = some (.slice (some ⟨n, 0, none⟩) 1 1) := by rw [← h1, ← z0]; exact cell_box A0 _ 30 0 _ rfl
  have b1 : Below A0.heap.size A0 A1 := by rw [← h1]; exact bl1 _ _
  rw [h1]
  obtain ⟨A2, h2⟩ : ∃ A, A1.alloc (.cells #[.slice (some ⟨n + 1, 0, none⟩) 1 1] 32) = A := ⟨_, rfl⟩
  have z2 : A2.heap.size = n + 1 + 1 + 1 := by rw [← h2]; simp [z1]
  have c2 : A2.cell? ⟨n + 1 + 1, 0, none⟩ = some (.slice (some ⟨n + 1, 0, none⟩) 1 1) := by rw [← h2, ← z1]; exact cell_box A1 _ 32 0 _ rfl
  have b2 : Below A1.heap.size A1 A2 := by rw [← h2]; exact bl1 _ _
  rw [h2]
  obtain ⟨A3, h3⟩ : ∃ A, A2.alloc (.cells #[.int .u8 98] 5 (1, 2)) = A := ⟨_, rfl⟩
  have z3 : A3.heap.size = n + 1 + 1 + 1 + 1 := by rw [← h3]; simp [z2]
  have c3 : A3.cell? ⟨n + 1 + 1 + 1, 0, none⟩ = some (.int .u8 98) := by rw [← h3, ← z2]; exact cell_boxF A2 _ 5 (1, 2) 0 _ rfl
  have b3 : Below A2.heap.size A2 A3 := by rw [← h3]; exact bl1 _ _
  rw [h3]
  obtain ⟨A4, h4⟩ : ∃ A, A3.alloc (.cells #[.int .i64 0, .slice (some ⟨n + 1 + 1 + 1, 0, none⟩) 1 1] 34) = A := ⟨_, rfl⟩
  have z4 : A4.heap.size = n + 1 + 1 + 1 + 1 + 1 := by rw [← h4]; simp [z3]
  have c4 : A4.cell? ⟨n + 1 + 1 + 1 + 1, 0, none⟩ = some (.int .i64 0) := by rw [← h4, ← z3]; exact cell_box A3 _ 34 0 _ rfl
  have c4' : A4.cell? ⟨n + 1 + 1 + 1 + 1, 1, none⟩ = some (.slice (some ⟨n + 1 + 1 + 1, 0, none⟩) 1 1) := by rw [← h4, ← z3]; exact cell_box A3 _ 34 1 _ rfl
  have b4 : Below A3.heap.size A3 A4 := by rw [← h4]; exact bl1 _ _
  rw [h4]
  obtain ⟨A5, h5⟩ : ∃ A, A4.alloc (.cells #[.slice (some ⟨n + 1 + 1 + 1 + 1, 0, none⟩) 1 1] 25) = A := ⟨_, rfl⟩
  have c5 : A5.cell? ⟨n + 1 + 1 + 1 + 1 + 1, 0, none⟩ = some (.slice (some ⟨n + 1 + 1 + 1 + 1, 0, none⟩) 1 1) := by rw [← h5, ← z4]; exact cell_box A4 _ 25 0 _ rfl
  have b5 : Below A4.heap.size A4 A5 := by rw [← h5]; exact bl1 _ _
  rw [h5]
  have u4 := b5
  have u3 := bl_step b4 u4
  have u2 := bl_step b3 u3
  have u1 := bl_step b2 u2
  have u0 := bl_step b1 u1
  refine ⟨A5, rfl, hn ▸ bl_step (hn ▸ b0) u0, ?_, ?_⟩
  · exact lr_one (r := (some ⟨n + 1, 0, none⟩, 1, 1)) (bl_cell u2 c2) (cp1 _) (lr_one (r := (some ⟨n, 0, none⟩, 1, 1)) (bl_cell u1 c1) (cp1 _) (rw_one (bl_cell u0 c0)))
  · exact lr_one (r := (some ⟨n + 1 + 1 + 1 + 1, 0, none⟩, 1, 1)) c5 (cp1 _) (its_one (r := (some ⟨n + 1 + 1 + 1, 0, none⟩, 1, 1)) (bl_cell u4 c4) (bl_cell u4 c4') (rw_one (bl_cell u3 c3)))

theorem conv30 (W : World) (c : Int) (n : Nat) (h : W.heap.size = n) : Sem.run Try.prog (convert 30 30 (.slice (some ⟨n, 0, none⟩) 1 1)) (W.alloc (.cells #[.int .u8 c] 5)) = .ok (.slice (some ⟨n, 0, none⟩) 1 1) (W.alloc (.cells #[.int .u8 c] 5 (1, 2))) := by
  subst h
  exact Lib.run_convert_bytes_const (P := Try.prog) W 30 5 #[.int .u8 c] 1 1 Try.underlying30 Try.underlying5
set_option maxRecDepth 20000 in
set_option maxHeartbeats 4000000 in
theorem awake_any (w : World) : Calls Try.prog 10 #[] w fun e w' => e = .returned (.bool true) ∧ Below w.heap.size w w' := by
  obtain ⟨W1, hW1, hb1, hacc, hdel⟩ := ex_in1 w
  have ht := total_any W1 _ 1 1 exAcc hacc (by omega) _ 2 2 exDel hdel
  have HB1 : Hid (Below w.heap.size w W1) := hb1
  clear hacc hdel hb1
  have hcv30 := fun W c n h => conv30 W c n h
  go_enter Try.func10, Try.ntmps10
  go_wp2_with fail
  (try rw [hW1])
  clear hW1
  refine ht.mono ?_
  rintro e w2 ⟨hp, b2⟩
  obtain ⟨r, rfl, hi⟩ : ∃ r : Sr, e = .returned (.tuple #[.slice r.1 r.2.1 r.2.2, .bool true]) ∧ Its (fun _ => True) w2 r.1 r.2.1 [((0 : Int), [(97 : UInt8)])] := by
    rcases hp with ⟨r, S, e1, h1, h2⟩ | ⟨r, _, _, h2⟩
    · have := h2.unique ex_ok
      subst this
      exact ⟨r, e1, h1⟩
    · exact absurd ⟨_, ex_ok⟩ h2
  obtain ⟨W3, hW3, hb3, hacc, hdel⟩ := ex_in2 w2
  have ht2 := total_any W3 _ 1 1 _ hacc (by omega) _ 1 1 _ hdel
  have HB3 : Hid (Below w.heap.size w W3 ∧ Below w2.heap.size w2 W3) := ⟨bl_step (HB1.out.trans (b2.mono HB1.out.size)) hb3, hb3⟩
  have HI : Hid (Its (fun _ => True) w2 r.1 r.2.1 [((0 : Int), [(97 : UInt8)])]) := hi
  clear hacc hdel hb3 hp hi ht b2
  obtain ⟨ra, rn, rc⟩ := r
  have hrn : rn = 1 := by have := HI.out.len; simpa using this.symm
  subst hrn
  go_wp2_with fail
  (try rw [hW3])
  clear hW3
  refine ht2.mono ?_
  rintro e w4 ⟨hp, b4⟩
  obtain ⟨s, rfl⟩ : ∃ s : Sr, e = .returned (.tuple #[.slice s.1 s.2.1 s.2.2, .bool false]) := by
    rcases hp with ⟨r, S, e1, h1, h2⟩ | ⟨r, e1, _, h2⟩
    · exact absurd ⟨_, h2⟩ ex_no
    · exact ⟨r, e1⟩
  obtain ⟨b, o, t, hra, t0, t1, hr⟩ := (HI.out.up (bl_step HB3.out.2 b4)).at (k := 0) rfl
  have hcv := conv_rw (cap := t.2.2) hr
  have hbe := str_beq [97] [97]
  have hs97 : str [97] = { data := #[97] } := rfl
  have HE : Hid (Below w.heap.size w w4) := bl_step HB3.out.1 b4
  (try simp only at hra)
  subst hra
  clear ht2 hp b4 hr t0
  rw [hs97] at hcv hbe
  go_wp2_with fail
  refine (views_nil _).mono ?_
  rintro e w5 ⟨rfl, rfl⟩
  go_wp2
  go_ret
  exact ⟨rfl, HE.out⟩
end Go.Proofs.Ythnbijnpbjfoaaa
