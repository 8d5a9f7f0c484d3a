/-
  How lists of numbers are opened that were handed in; bytes that were appended to nothing.
-/
import Derived.Test.YtagabmhgcmnldaaNArgs
namespace Go.Proofs.Ytagabmhgcmnldaa
open Go.ChangeShapes Go.WideShapes Go.ChangeAt Go.RowKit
set_option linter.unusedVariables false

theorem cells41 : Try.prog.cellsOf 41 = 1 := by kernel_rfl
/-- A list of numbers that was handed in. -/
structure Nums (W : World) (k : IntKind) (a : Option Addr) (len B : Nat) (xs : List Nat) : Prop where
  length : xs.length = len
  max : len ≤ 9223372036854775807
  lt : ∀ j, xs.getD j 0 < B
  cell : 0 < len → ∃ ad, a = some ad ∧ ad.block < W.heap.size ∧ ∀ j, j < len → W.cell? (ad.add j) = some (.int k (xs.getD j 0 : Nat))
theorem Nums.open {W : World} {k : IntKind} {a : Option Addr} {len B : Nat} {xs : List Nat} (h : Nums W k a len B xs) (h0 : 0 < len) : ∃ b off, a = some ⟨b, off, none⟩ ∧ b < W.heap.size ∧ ∀ j, j < len → W.cell? ⟨b, off + j, none⟩ = some (.int k (xs.getD j 0 : Nat)) := by
  obtain ⟨ad, rfl, hb, hc⟩ := h.cell h0
  obtain ⟨b, off, spot⟩ := ad
  have hc0 := hc 0 h0
  have hs : spot = none := by simpa [Addr.add] using World.cell?_spot hc0
  subst hs
  exact ⟨b, off, rfl, hb, fun j hj => by rw [← Addr.add_lit]; exact hc j hj⟩
theorem open_nums {H : Type} {enc : TypeId × Value → H} {W : World} {a : Option Addr} {t e : TypeId} {k : IntKind} {len cap B : Nat} {d : DataW H} {p : List MemPlace} (ht : Try.prog.underlying t = some (.slice e)) (he : Try.prog.underlying e = some (.int k)) (hc : Try.prog.cellsOf e = 1)
    (hB : ∀ z : Int, (Lit.int k z).wf = true → ∃ n : Nat, z = n ∧ n < B) (hB0 : 0 < B) (h : DataW.Trod enc Try.prog W 0 (fun _ => true) true t (.slice a len cap) d p) : ∃ xs, Nums W k a len B xs := by
  obtain ⟨fuel, hf⟩ := h
  rcases open_ints ht he hc hf with ⟨hcs, _⟩ | ⟨x, l, c, zs, hcs, _, hl, hm, hz, hx, hcell, hwz⟩
  · simp [Value.cells] at hcs
    obtain ⟨rfl, rfl, rfl⟩ := hcs
    exact ⟨[], rfl, by omega, fun j => by simpa using hB0, fun h => by omega⟩
  · simp [Value.cells] at hcs
    obtain ⟨rfl, rfl, rfl⟩ := hcs
    simp only [if_true] at hz
    have hw : ∀ j, j < len → ∃ n : Nat, zs.getD j 0 = n ∧ n < B := fun j hj => by
      have hi2 : j < zs.length := by omega
      exact hB _ (hwz (zs.getD j 0) (by simp [List.getD, List.getElem?_eq_getElem hi2]))
    have hg : ∀ j, j < len → ((zs.take len).map Int.toNat).getD j 0 = (zs.getD j 0).toNat := fun j hj => by
      have hi2 : j < zs.length := by omega
      simp [List.getD, hj, List.getElem?_eq_getElem hi2]
    refine ⟨(zs.take len).map Int.toNat, by simp; omega, by unfold maxLen at hm; omega, fun j => ?_, fun h0 => ⟨x, rfl, ?_, fun j hj => ?_⟩⟩
    · by_cases hj : j < len
      · obtain ⟨n, e1, e2⟩ := hw j hj
        rw [hg j hj, e1]
        simpa using e2
      · rw [List.getD_eq_getElem?_getD, List.getElem?_eq_none (by simp; omega)]
        exact hB0
    · have := World.block_lt_of_cell? W _ (hcell 0 (by omega))
      have e : (x.add 0).block = x.block := by unfold Addr.add; split <;> rfl
      rw [e] at this
      exact this
    · rw [hcell j (by omega), hg j hj]
      obtain ⟨n, e1, e2⟩ := hw j hj
      rw [e1]
      rfl

theorem new2 (w : World) : Calls Try.prog 12 #[.int .i64 2] w fun e w' => ∃ p F, e = .returned (.tuple #[.pointer (some ⟨p, 0, none⟩), .int .i64 0]) ∧ Nt w' F p 2 (allN 2) 0 [] ∧ Below w.heap.size w w' ∧ ∀ b, F b → w.heap.size ≤ b := new_any w 2 (by omega) (by omega)
theorem bl_al {w a : World} (h : Below w.heap.size w a) (o : Obj) : Below w.heap.size w (a.alloc o) := h.alloc h.size o
theorem xor_ne (z : UInt8) (r : Nat) (hr : r < 8) : z ^^^ UInt8.ofNat (2 ^ r) ≠ z := by
  intro h
  have h1 := congrArg UInt8.toNat h
  have hp : 2 ^ r ≤ 2 ^ 7 := Nat.pow_le_pow_right (by omega) (by omega)
  have hp0 := Nat.two_pow_pos r
  rw [UInt8.toNat_xor, ofNat_toNat _ (by omega)] at h1
  have h2 := congrArg (z.toNat ^^^ ·) h1
  simp only [← Nat.xor_assoc, Nat.xor_self, Nat.zero_xor] at h2
  omega
theorem flip_ne {xs : List UInt8} {k : Nat} (hk : k / 8 < xs.length) : flip xs k ≠ xs := by
  intro h
  have h1 := congrArg (fun l => l[k / 8]?) h
  unfold flip at h1
  simp only [List.getElem?_set_self hk, List.getElem?_eq_getElem hk] at h1
  have h2 := Option.some.inj h1
  have h3 : xs.getD (k / 8) 0 = xs[k / 8] := by simp [List.getD, List.getElem?_eq_getElem hk]
  rw [h3] at h2
  exact xor_ne _ _ (by omega) h2
theorem append_row {w : World} {ao : Option Addr} {n cap : Nat} {xs : List UInt8} (h : Row w ao n cap xs) (h0 : 0 < n) (hn : n ≤ 140737488355328) (ty : TypeId) : ∃ g c w', (Builtin.append_ #[35, 35] ty #[.slice none 0 0, .slice ao n cap]).run Try.prog w = .ok (.slice (some ⟨g, 0, none⟩) n c) w' ∧ w.heap.size ≤ g ∧ w'.ownsRow w.heap.size 5 1 (.slice (some ⟨g, 0, none⟩) n c) n (xs.map by8) ∧ Below w.heap.size w w' := by
  obtain ⟨i0, hi0, hz0, hz1, hz2⟩ := info_parts Try.info5
  have hl := h.1
  cases ao with
  | none => have := (h.2.2.2.1 rfl).1; omega
  | some a =>
    obtain ⟨v', w', h1, h2, h3, h4, h5⟩ := run_append_own_at (P := Try.prog) w w.heap.size 35 ty 5 i0 _ 1 1 Try.underlying35 hi0 hz0 hz1 hz2 rfl (by omega) (.slice none 0 0) 0 [] (World.ownsRow_nil _ _ _ _) a n cap (xs.map by8) (by simp [hl]) (fun j u hj => h.olds a rfl j u hj) (by8_one xs) (by unfold maxLen; omega) (by omega) (Nat.le_refl _)
    rw [Nat.zero_add, List.nil_append] at h2
    rcases h2.2 with ⟨_, h0'⟩ | ⟨g, c, cur, rfl, hg, _⟩
    · omega
    · exact ⟨g, c, w', h1, hg, h2, ⟨h3.os, h3.tape, h3.output, h3.size, fun k hk => h3.block k hk (by simp [Value.ownBlock])⟩⟩
theorem own_row {w : World} {B g n c : Nat} {xs : List UInt8} (h : w.ownsRow B 5 1 (.slice (some ⟨g, 0, none⟩) n c) n (xs.map by8)) : Row w (some ⟨g, 0, none⟩) n c xs ∧ c ≤ maxLen := by
  have hl : xs.length = n := by simpa using h.1
  rcases h.2 with ⟨h0, _⟩ | ⟨g', c', cur, h0, _, _, h1, h2, _⟩
  · cases h0
  · simp only [Value.slice.injEq] at h0
    obtain ⟨_, _, rfl⟩ := h0
    refine ⟨⟨hl, h1, h2, fun e => (by cases e), fun a ha i hi => ?_⟩, h2⟩
    cases ha
    rw [Addr.add_lit, Nat.zero_add, h.cellAt i (by omega)]
    simp [by8, List.getElem?_eq_getElem (show i < xs.length by omega)]
theorem wpList_append_run {P : Program} {w : World} {ops : Array Oper} {rest : List Oper} {o : Oper} {a : Act} {Q : Exit → Act → World → Prop} (hgd : o.guard = none) (d s : Operand) (t t' : TypeId)
    (ho : o.op = .call { callee := .builtin .append, args := #[d, s], argTypes := #[t, t'] }) (v u : Value) (hd : a.eval d = v) (hs : a.eval s = u) {v' : Value} {w' : World}
    (hr : (Builtin.append_ #[t, t'] o.type #[v, u]).run P w = .ok v' w') (h : wpList P ops Q rest (a.put o.dst v') w') : wpList P ops Q (o :: rest) a w := by
  refine wpList_plain hgd fun K hK => ?_
  unfold Oper.wp execOp
  simp only [ho, resolve, invoke, builtin, Sem.run_bind, Sem.run_pure, Result.andThen_ok, List.map_toArray, List.map_cons, List.map_nil, hd, hs, hr]
  exact hK _ _ h

end Go.Proofs.Ytagabmhgcmnldaa
