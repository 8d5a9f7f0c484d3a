/-
  The document's bytes of a label.
-/
import Derived.Test.YtpdgoalbknopiaaLEnc
namespace Go.Proofs.Ytpdgoalbknopiaa
open Go.RowKit
set_option linter.unusedVariables false

set_option maxRecDepth 10000 in
set_option maxHeartbeats 1000000 in
theorem refEncodeL_any (w : World) (x : Lb) (hx : x.1 < 18446744073709551616) (hx2 : x.2.2.1 < 18446744073709551616) (hf : formL x = true) :
    Calls Try.prog 41 #[lab x] w fun e w' => ∃ v, e = .returned v ∧ w'.ownsRow w.heap.size 5 1 v (encL x).length ((encL x).map Cd.by8) ∧ Below w.heap.size w w' := by
  obtain ⟨hv, _, _, hq0, hq15⟩ := formL_parts hf
  obtain ⟨hp0, hp15⟩ := formV_p hv
  have hb0 : Below w.heap.size w (w.alloc (.cells #[.int .u64 (x.1 : Nat), .int .i64 x.2.1, .int .u64 (x.2.2.1 : Nat), .int .i64 x.2.2.2] 26)) := bl1 _ _
  have b0 := bx_new w x.1 x.2.1 x.2.2.1 x.2.2.2 26
  have he := refEncode_any (w.alloc (.cells #[.int .u64 (x.1 : Nat), .int .i64 x.2.1, .int .u64 (x.2.2.1 : Nat), .int .i64 x.2.2.2] 26)) x.1 hx x.2.1 hp0 hp15
  have hun := fun W => Cd.refUint_any W x.2.2.1 hx2
  have hpb := pb_num x.2.2.2 hq0 hq15
  have hwr : IntKind.u8.wrap x.2.2.2 = x.2.2.2 := IntWalk.u8_in _ (by omega)
  have hl1 := Cd.enc_length x.1
  have hl2 := Cd.enc_length x.2.2.1
  have hl3 := enc_pos x.2.2.1
  have HEL : Hid (encL x = (Cd.enc x.1 ++ [pb x.2.1]) ++ Cd.enc x.2.2.1 ++ [pb x.2.2.2] ∧ (encL x).length = (Cd.enc x.1).length + 1 + (Cd.enc x.2.2.1).length + 1) := by
    unfold encL
    refine ⟨by simp, by simp; omega⟩
  obtain ⟨E, HE0⟩ : ∃ E, Hid (Cd.enc x.2.2.1 = E) := ⟨_, rfl⟩
  obtain ⟨A, HA⟩ : ∃ A, Hid (Cd.enc x.1 ++ [pb x.2.1] = A) := ⟨_, rfl⟩
  obtain ⟨L, HLL⟩ : ∃ L, Hid ((Cd.enc x.1).length + 1 = L) := ⟨_, rfl⟩
  have hLb : L + 19 ≤ 100 := by have := HLL.out; omega
  unfold vid at he
  rw [HA.out, HLL.out] at he
  rw [HE0.out] at hun hl2 hl3
  unfold lab at *
  clear hv hl1
  go_enter Try.func41, Try.ntmps41
  go_wp2_with fail
  refine he.mono ?_
  rintro e w1 ⟨v1, rfl, hown1, hb1⟩
  have hbb := bl_step hb0 hb1
  obtain ⟨d0, d1, d2, d3⟩ := (show Bx w.heap.size x.1 x.2.1 x.2.2.1 x.2.2.2 w1 from ⟨(hb1.cell (World.block_lt_of_cell? _ _ b0.1)).trans b0.1, (hb1.cell (World.block_lt_of_cell? _ _ b0.2.1)).trans b0.2.1, (hb1.cell (World.block_lt_of_cell? _ _ b0.2.2.1)).trans b0.2.2.1, (hb1.cell (World.block_lt_of_cell? _ _ b0.2.2.2)).trans b0.2.2.2⟩)
  have HO1 : Hid (w1.ownsRow (w.heap.size + 1) 5 1 v1 L (A.map Cd.by8)) := Cd.owns_mono hown1 (by simp)
  obtain ⟨ao1, cp1, hv1⟩ := row_shape hown1
  subst hv1
  clear he hb1 hb0 b0 hown1
  go_wp2_with fail
  refine (hun _).mono ?_
  rintro e w3 ⟨v3, rfl, hown3, hb3⟩
  have hbb3 := bl_step hbb hb3
  have ho3 : w3.ownsRow (w.heap.size + 1) 5 1 (.slice ao1 L cp1) L (A.map Cd.by8) := own_bytes_below HO1.out hb3
  obtain ⟨g, cg, hv3, _⟩ := row_some hown3 (by omega)
  subst hv3
  have hcs := hown3.cells (g := g) rfl
  have hlt3 : ∀ k, (Value.slice ao1 L cp1).ownBlock = some k → w.heap.size + 1 ≤ k := fun k hk => (ho3.lt k hk).1
  obtain ⟨e0, e1, e2, e3⟩ := (⟨(hb3.cell (World.block_lt_of_cell? _ _ d0)).trans d0, (hb3.cell (World.block_lt_of_cell? _ _ d1)).trans d1, (hb3.cell (World.block_lt_of_cell? _ _ d2)).trans d2, (hb3.cell (World.block_lt_of_cell? _ _ d3)).trans d3⟩ : _ ∧ _ ∧ _ ∧ _)
  have hs3 : w.heap.size + 1 ≤ w3.heap.size := by have := World.block_lt_of_cell? w3 _ e0; simp at this; omega
  clear hun hown3 hb3 hbb HO1 d0 d1 d2 d3
  go_wp2_with (at_builtin; refine wpList_append_bytes rfl (.tmp 7) (.tmp 10) rfl (w.heap.size + 1) _ L A rfl ?d1 ⟨g, 0, none⟩ E.length cg E rfl rfl ?d2 ?d3 ?d4 ?_)
  case d1 => exact ho3
  case d2 => exact hcs
  case d3 => omega
  case d4 => exact hs3
  intro v4 w4 hown4 hg4
  have hbb4 : Below w.heap.size w w4 := bl_grown hbb3 hbb3.size hg4 (fun k hk => by have := hlt3 k hk; omega)
  have k3 := hg4.cell e3 (fun e => by have := hlt3 _ e.symm; simp at this; omega)
  have hs4 : w.heap.size + 1 ≤ w4.heap.size := by have := World.block_lt_of_cell? w4 _ k3; simp at this; omega
  obtain ⟨ao4, cp4, hv4⟩ := row_shape hown4
  subst hv4
  have hlt4 : ∀ k, (Value.slice ao4 (L + E.length) cp4).ownBlock = some k → w.heap.size + 1 ≤ k := fun k hk => (hown4.lt k hk).1
  obtain ⟨AE, HAE⟩ : ∃ AE, Hid (A ++ E = AE) := ⟨_, rfl⟩
  have hown4' : w4.ownsRow (w.heap.size + 1) 5 1 (.slice ao4 (L + E.length) cp4) (L + E.length) (AE.map Cd.by8) := by rw [← HAE.out]; simpa using hown4
  have ho4 := fun o => hown4'.alloc o
  have hone := cell_box w4 #[Value.int .u8 x.2.2.2] 5 0 _ rfl
  clear hg4 hcs ho3 hlt3 e0 e1 e2 e3 hbb3 hs3
  go_wp2_with (at_builtin; refine wpList_append_bytes rfl (.tmp 12) (.tmp 16) rfl (w.heap.size + 1) _ (L + E.length) AE rfl ?d1 ⟨w4.heap.size, 0, none⟩ 1 1 [pb x.2.2.2] rfl rfl ?d2 ?d3 ?d4 ?_)
  case d1 => exact ho4 _
  case d2 =>
    intro j u hj
    obtain rfl : j = 0 := by have := (List.getElem?_eq_some_iff.1 hj).1; simp at this; omega
    simp only [List.map_cons, List.map_nil, List.getElem?_cons_zero, Option.some.injEq] at hj
    subst hj
    rw [hpb]
    exact hone
  case d3 => omega
  case d4 => simp; omega
  intro v5 w5 hown5 hg5
  have hbb5 : Below w.heap.size w w5 := bl_grown (hbb4.alloc hbb4.size _) (by have := hbb4.size; simp; omega) hg5 (fun k hk => by have := hlt4 k hk; omega)
  have HE : Hid (w5.ownsRow w.heap.size 5 1 v5 (encL x).length ((encL x).map Cd.by8) ∧ Below w.heap.size w w5) := by
    rw [HEL.out.2, HEL.out.1, HE0.out, HA.out, HLL.out, HAE.out]
    refine ⟨Cd.owns_mono (B := w.heap.size + 1) ?_ (by omega), hbb5⟩
    rw [← hpb] at hown5
    simpa using hown5
  clear hown4 hown4' hown5 hg5 hlt4 ho4 hone k3 hbb4 hbb5
  go_wp2
  go_ret
  exact ⟨v5, rfl, HE.out⟩
end Go.Proofs.Ytpdgoalbknopiaa
