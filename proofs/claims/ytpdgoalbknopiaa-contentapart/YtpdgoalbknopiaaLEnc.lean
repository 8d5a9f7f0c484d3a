/-
  Labels as bytes: Encode of package label, and the document's answer.
-/
import Derived.Test.YtpdgoalbknopiaaLForm
import Derived.Test.YtpdgoalbknopiaaJRefD
namespace Go.Proofs.Ytpdgoalbknopiaa
open Go.RowKit
set_option linter.unusedVariables false

/-- A label's bytes. -/
def encL (x : Lb) : List UInt8 := Cd.enc x.1 ++ [pb x.2.1] ++ Cd.enc x.2.2.1 ++ [pb x.2.2.2]
theorem formL_parts {x : Lb} (h : formL x = true) : formV x.1 x.2.1 = true ∧ 0 < x.1 ∧ 0 < x.2.2.1 ∧ 0 ≤ x.2.2.2 ∧ x.2.2.2 ≤ 15 := by
  unfold formL at h
  simp only [Bool.and_eq_true, decide_eq_true_eq] at h
  exact ⟨h.1.1.1.1, h.1.1.1.2, h.1.1.2, h.1.2, h.2⟩
theorem formV_p {n : Nat} {p : Int} (h : formV n p = true) : 0 ≤ p ∧ p ≤ 15 := by
  unfold formV at h
  simp only [Bool.and_eq_true, decide_eq_true_eq] at h
  by_cases h0 : n = 0
  · rw [if_pos h0] at h; omega
  · rw [if_neg h0] at h; exact h

/-- Any bytes behind a row of bytes of one's own. -/
theorem wpList_append_bytes {w : World} {ops : Array Oper} {rest : List Oper} {o : Oper} {a : Act} {Q : Exit → Act → World → Prop} (hgd : o.guard = none) (s x : Operand)
    (ho : o.op = .call { callee := .builtin .append, args := #[s, x], argTypes := #[27, 27] }) (base : Nat)
    (v : Value) (n : Nat) (xs : List UInt8) (hs : a.eval s = v) (hown : w.ownsRow base 5 1 v n (xs.map Cd.by8))
    (ad : Addr) (m c : Nat) (ys : List UInt8) (hx : a.eval x = .slice (some ad) m c) (hl : ys.length = m) (hc : ∀ j u, (ys.map Cd.by8)[j]? = some u → w.cell? (ad.add j) = some u)
    (hnm : n + m ≤ 140737488355328) (hbase : base ≤ w.heap.size)
    (h : ∀ v' w', w'.ownsRow base 5 1 v' (n + m) ((xs ++ ys).map Cd.by8) → w.grownBy w' v.ownBlock → wpList Try.prog ops Q rest (a.put o.dst v') w') :
    wpList Try.prog ops Q (o :: rest) a w := by
  obtain ⟨i0, hi0, hz0, hz1, hz2⟩ := info_parts info5
  refine wpList_append_own_at _ hgd s x 27 ho base 5 i0 (.int .u8 0) 1 1 und34 hi0 hz0 hz1 hz2 rfl (by decide) v n (xs.map Cd.by8) hs hown ad m c (ys.map Cd.by8) hx (by simpa using hl) hc (fun u hu => ?_) (by unfold maxLen; omega) (by omega) hbase (fun v' w' a b _ _ => h v' w' (by simpa using a) b)
  obtain ⟨b, _, rfl⟩ := List.mem_map.1 hu
  rfl
theorem enc_pos (N : Nat) : 0 < (Cd.enc N).length := by
  unfold Cd.enc Cd.encF
  split <;> simp
theorem row_some {w : World} {B n : Nat} {v : Value} {xs : List Value} (h : w.ownsRow B 5 1 v n xs) (hn : 0 < n) : ∃ g cap, v = .slice (some ⟨g, 0, none⟩) n cap ∧ B ≤ g := by
  rcases h.2 with ⟨_, h1⟩ | ⟨g, cap, cur, rfl, hB, _⟩
  · omega
  · exact ⟨g, cap, rfl, hB⟩
theorem own_bytes_below {w w' : World} {B n : Nat} {v : Value} {xs : List Value} (h : w.ownsRow B 5 1 v n xs) (u : Below w.heap.size w w') : w'.ownsRow B 5 1 v n xs := by
  refine h.kept (row := none) ⟨u.os, u.tape, u.output, u.size, fun i hi _ => u.block i hi⟩ ?_
  cases v.ownBlock with
  | none => exact Or.inl rfl
  | some g => exact Or.inr (by simp)

set_option maxRecDepth 10000 in
set_option maxHeartbeats 1000000 in
theorem encodeL_bad (w : World) (ao : Option Addr) (n cap : Nat) (xs : List UInt8) (h : Cd.Row w ao n cap xs) (x : Lb) (hx : x.1 < 18446744073709551616) (hf : formL x = false) (hr : n + 11 ≤ 140737488355328) :
    Calls Try.prog 63 #[.slice ao n cap, lab x] w fun e w' => e = .returned (.tuple #[.slice none 0 0, .int .i64 3]) ∧ Below w.heap.size w w' := by
  have hb0 : Below w.heap.size w (w.alloc (.cells #[.int .u64 (x.1 : Nat), .int .i64 x.2.1, .int .u64 (x.2.2.1 : Nat), .int .i64 x.2.2.2] 26)) := bl1 _ _
  have b0 := bx_new w x.1 x.2.1 x.2.2.1 x.2.2.2 26
  have hrow := h.below hb0 (Nat.le_refl _)
  have hform := fun W => formL_any W x
  rw [hf] at hform
  unfold lab at *
  cases hv : formV x.1 x.2.1 with
  | false =>
    have he := encode_bad (w.alloc (.cells #[.int .u64 (x.1 : Nat), .int .i64 x.2.1, .int .u64 (x.2.2.1 : Nat), .int .i64 x.2.2.2] 26)) ao n cap x.1 x.2.1 hv
    unfold vid at he
    clear hform hrow h b0
    go_enter Try.func63, Try.ntmps63
    go_wp2_with fail
    refine he.mono ?_
    rintro e w1 ⟨rfl, hb1⟩
    have hbb := bl_step hb0 hb1
    clear he hb1 hb0
    go_wp2
    go_ret2
    exact ⟨rfl, hbb⟩
  | true =>
    have he := encode_any (w.alloc (.cells #[.int .u64 (x.1 : Nat), .int .i64 x.2.1, .int .u64 (x.2.2.1 : Nat), .int .i64 x.2.2.2] 26)) ao n cap xs hrow x.1 hx x.2.1 hv hr
    unfold vid at he
    clear hrow h
    go_enter Try.func63, Try.ntmps63
    go_wp2_with fail
    refine he.mono ?_
    rintro e w1 ⟨v1, rfl, _, hb1⟩
    have hbb := bl_step hb0 hb1
    obtain ⟨d0, d1, d2, d3⟩ := (show Bx w.heap.size x.1 x.2.1 x.2.2.1 x.2.2.2 w1 from ⟨(hb1.cell (World.block_lt_of_cell? _ _ b0.1)).trans b0.1, (hb1.cell (World.block_lt_of_cell? _ _ b0.2.1)).trans b0.2.1, (hb1.cell (World.block_lt_of_cell? _ _ b0.2.2.1)).trans b0.2.2.1, (hb1.cell (World.block_lt_of_cell? _ _ b0.2.2.2)).trans b0.2.2.2⟩)
    clear he hb1 hb0 b0
    go_wp2_with fail
    refine (hform _).mono ?_
    rintro e w2 ⟨rfl, hu2⟩
    have hbb2 := bl_step hbb hu2.bl
    clear hform hu2 hbb d0 d1 d2 d3
    go_wp2
    go_ret2
    exact ⟨rfl, hbb2⟩

set_option maxRecDepth 10000 in
set_option maxHeartbeats 1000000 in
theorem encodeL_any (w : World) (ao : Option Addr) (n cap : Nat) (xs : List UInt8) (h : Cd.Row w ao n cap xs) (x : Lb) (hx : x.1 < 18446744073709551616) (hx2 : x.2.2.1 < 18446744073709551616) (hf : formL x = true) (hr : n + 30 ≤ 140737488355328) :
    Calls Try.prog 63 #[.slice ao n cap, lab x] w fun e w' => ∃ v, e = .returned (.tuple #[v, .int .i64 0]) ∧ w'.ownsRow w.heap.size 5 1 v (n + (encL x).length) ((xs ++ encL x).map Cd.by8) ∧ Below w.heap.size w w' := by
  obtain ⟨hv, _, _, hq0, hq15⟩ := formL_parts hf
  have hb0 : Below w.heap.size w (w.alloc (.cells #[.int .u64 (x.1 : Nat), .int .i64 x.2.1, .int .u64 (x.2.2.1 : Nat), .int .i64 x.2.2.2] 26)) := bl1 _ _
  have b0 := bx_new w x.1 x.2.1 x.2.2.1 x.2.2.2 26
  have hrow := h.below hb0 (Nat.le_refl _)
  have hform := fun W => formL_any W x
  rw [hf] at hform
  have he := encode_any (w.alloc (.cells #[.int .u64 (x.1 : Nat), .int .i64 x.2.1, .int .u64 (x.2.2.1 : Nat), .int .i64 x.2.2.2] 26)) ao n cap xs hrow x.1 hx x.2.1 hv (by omega)
  have hun := fun W => Cd.uint_any W none 0 0 [] ⟨rfl, Nat.le_refl _, by unfold maxLen; omega, fun _ => ⟨rfl, rfl⟩, fun a ha => by cases ha⟩ x.2.2.1 hx2 (by omega)
  have hpb := pb_num x.2.2.2 hq0 hq15
  have hwr : IntKind.u8.wrap x.2.2.2 = x.2.2.2 := IntWalk.u8_in _ (by omega)
  have hl1 := Cd.enc_length x.1
  have hl2 := Cd.enc_length x.2.2.1
  have hl3 := enc_pos x.2.2.1
  have HEL : Hid (xs ++ encL x = (xs ++ Cd.enc x.1 ++ [pb x.2.1]) ++ Cd.enc x.2.2.1 ++ [pb x.2.2.2] ∧ n + (encL x).length = n + (Cd.enc x.1).length + 1 + (Cd.enc x.2.2.1).length + 1) := by
    unfold encL
    refine ⟨by simp, by simp; omega⟩
  obtain ⟨E, HE0⟩ : ∃ E, Hid (Cd.enc x.2.2.1 = E) := ⟨_, rfl⟩
  obtain ⟨A, HA⟩ : ∃ A, Hid (xs ++ Cd.enc x.1 ++ [pb x.2.1] = A) := ⟨_, rfl⟩
  obtain ⟨L, HLL⟩ : ∃ L, Hid (n + (Cd.enc x.1).length + 1 = L) := ⟨_, rfl⟩
  have hLb : L + 19 ≤ 140737488355328 := by have := HLL.out; omega
  unfold vid at he
  rw [HA.out, HLL.out] at he
  simp only [Nat.zero_add, List.nil_append] at hun
  rw [HE0.out] at hun hl2 hl3
  unfold lab at *
  clear hrow h hv hl1
  go_enter Try.func63, Try.ntmps63
  go_wp2_with fail
  refine he.mono ?_
  rintro e w1 ⟨v1, rfl, hown1, hb1⟩
  have hbb := bl_step hb0 hb1
  have d := (show Bx w.heap.size x.1 x.2.1 x.2.2.1 x.2.2.2 w1 from ⟨(hb1.cell (World.block_lt_of_cell? _ _ b0.1)).trans b0.1, (hb1.cell (World.block_lt_of_cell? _ _ b0.2.1)).trans b0.2.1, (hb1.cell (World.block_lt_of_cell? _ _ b0.2.2.1)).trans b0.2.2.1, (hb1.cell (World.block_lt_of_cell? _ _ b0.2.2.2)).trans b0.2.2.2⟩)
  obtain ⟨d0, d1, d2, d3⟩ := d
  have hsb := hb0.size
  have HO1 : Hid (w1.ownsRow (w.heap.size + 1) 5 1 v1 L (A.map Cd.by8)) := Cd.owns_mono hown1 (by simp)
  obtain ⟨ao1, cp1, hv1⟩ := row_shape hown1
  subst hv1
  clear he hb1 hb0 b0 hown1
  go_wp2_with fail
  refine (hform _).mono ?_
  rintro e w2 ⟨rfl, hu2⟩
  have hbb2 := bl_step hbb hu2.bl
  have HO2 : Hid (w2.ownsRow (w.heap.size + 1) 5 1 (.slice ao1 L cp1) L (A.map Cd.by8)) := own_bytes_below HO1.out hu2.bl
  obtain ⟨d0, d1, d2, d3⟩ := (⟨hu2.cell d0, hu2.cell d1, hu2.cell d2, hu2.cell d3⟩ : _ ∧ _ ∧ _ ∧ _)
  clear hform hu2 hbb HO1
  go_wp2_with fail
  refine (hun _).mono ?_
  rintro e w3 ⟨v3, rfl, hown3, hb3⟩
  have hbb3 := bl_step hbb2 hb3
  have ho3 : w3.ownsRow (w.heap.size + 1) 5 1 (.slice ao1 L cp1) L (A.map Cd.by8) := own_bytes_below HO2.out hb3
  obtain ⟨g, cg, hv3, _⟩ := row_some hown3 (by omega)
  subst hv3
  have hcs := hown3.cells (g := g) rfl
  have hlt3 : ∀ k, (Value.slice ao1 L cp1).ownBlock = some k → w.heap.size + 1 ≤ k := fun k hk => (ho3.lt k hk).1
  obtain ⟨e0, e1, e2, e3⟩ := (⟨(hb3.cell (World.block_lt_of_cell? _ _ d0)).trans d0, (hb3.cell (World.block_lt_of_cell? _ _ d1)).trans d1, (hb3.cell (World.block_lt_of_cell? _ _ d2)).trans d2, (hb3.cell (World.block_lt_of_cell? _ _ d3)).trans d3⟩ : _ ∧ _ ∧ _ ∧ _)
  have hs3 : w.heap.size + 1 ≤ w3.heap.size := by have := World.block_lt_of_cell? w3 _ e0; simp at this; omega
  clear hun hown3 hb3 hbb2 HO2 d0 d1 d2 d3
  go_wp2_with (at_builtin; refine wpList_append_bytes rfl (.tmp 22) (.tmp 25) rfl (w.heap.size + 1) _ L A rfl ?d1 ⟨g, 0, none⟩ E.length cg E rfl rfl ?d2 ?d3 ?d4 ?_)
  case d1 => exact ho3
  case d2 => exact hcs
  case d3 => omega
  case d4 => exact hs3
  intro v4 w4 hown4 hg4
  have hbb4 : Below w.heap.size w w4 := bl_grown hbb3 hbb3.size hg4 (fun k hk => by have := hlt3 k hk; omega)
  have k3 := hg4.cell e3 (fun e => by have := hlt3 _ e.symm; simp at this; omega)
  have hs4 : w.heap.size + 1 ≤ w4.heap.size := by have := World.block_lt_of_cell? w4 _ k3; simp at this; omega
  obtain ⟨ao4, cp4, hv4⟩ := row_shape hown4
  subst hv4
  have hlt4 : ∀ k, (Value.slice ao4 (L + E.length) cp4).ownBlock = some k → w.heap.size + 1 ≤ k := fun k hk => (hown4.lt k hk).1
  obtain ⟨AE, HAE⟩ : ∃ AE, Hid (A ++ E = AE) := ⟨_, rfl⟩
  have hown4' : w4.ownsRow (w.heap.size + 1) 5 1 (.slice ao4 (L + E.length) cp4) (L + E.length) (AE.map Cd.by8) := by rw [← HAE.out]; simpa using hown4
  have ho4 := fun o => hown4'.alloc o
  have hone := cell_box w4 #[Value.int .u8 x.2.2.2] 5 0 _ rfl
  clear hg4 hcs ho3 hlt3 e0 e1 e2 e3 hbb3 hs3
  go_wp2_with (at_builtin; refine wpList_append_bytes rfl (.tmp 27) (.tmp 31) rfl (w.heap.size + 1) _ (L + E.length) AE rfl ?d1 ⟨w4.heap.size, 0, none⟩ 1 1 [pb x.2.2.2] rfl rfl ?d2 ?d3 ?d4 ?_)
  case d1 => exact ho4 _
  case d2 =>
    intro j u hj
    obtain rfl : j = 0 := by have := (List.getElem?_eq_some_iff.1 hj).1; simp at this; omega
    simp only [List.map_cons, List.map_nil, List.getElem?_cons_zero, Option.some.injEq] at hj
    subst hj
    rw [hpb]
    exact hone
  case d3 => omega
  case d4 => simp; omega
  intro v5 w5 hown5 hg5
  have hbb5 : Below w.heap.size w w5 := bl_grown (hbb4.alloc hbb4.size _) (by have := hbb4.size; simp; omega) hg5 (fun k hk => by have := hlt4 k hk; omega)
  have HE : Hid (w5.ownsRow w.heap.size 5 1 v5 (n + (encL x).length) ((xs ++ encL x).map Cd.by8) ∧ Below w.heap.size w w5) := by
    rw [HEL.out.1, HEL.out.2, HE0.out, HA.out, HLL.out, HAE.out]
    refine ⟨Cd.owns_mono (B := w.heap.size + 1) ?_ (by omega), hbb5⟩
    rw [← hpb] at hown5
    simpa using hown5
  clear hown4 hown4' hown5 hg5 hlt4 ho4 hone k3 hbb4 hbb5
  go_wp2
  go_ret2
  exact ⟨v5, rfl, HE.out⟩
end Go.Proofs.Ytpdgoalbknopiaa
