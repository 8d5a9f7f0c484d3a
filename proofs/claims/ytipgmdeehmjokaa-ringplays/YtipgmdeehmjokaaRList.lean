/-
  A plain list of texts, as the document has it: put at the end, taken from the front by a new slice of the same memory.
-/
import Derived.Test.YtipgmdeehmjokaaRArgs
import Derived.ArgAppend
namespace Go.Proofs.Ytipgmdeehmjokaa
open Go.RowKit
set_option linter.unusedVariables false

/-- A list of texts in memory of one's own, from any place on. -/
def Lst (w : World) (v : Value) (xs : List Value) : Prop :=
  (∀ x ∈ xs, ∃ s, x = .string s) ∧ ∃ ao cap, v = .slice ao xs.length cap ∧ ((ao = none ∧ xs = [] ∧ cap = 0) ∨ ∃ b off N f, ao = some ⟨b, off, none⟩ ∧ w.rowIs b 9 N f ∧ off + cap ≤ N ∧ xs.length ≤ cap ∧ ∀ j x, xs[j]? = some x → f (off + j) = x)

section
variable {w w' : World} {v : Value} {xs : List Value}
theorem Lst.lt (h : Lst w v xs) : ∀ b, v.ownBlock = some b → b < w.heap.size := by
  intro b hb
  obtain ⟨_, ao, cap, rfl, ⟨rfl, _⟩ | ⟨b', off, N, f, rfl, hr, _⟩⟩ := h
  · cases hb
  · obtain rfl : b' = b := by simpa [Value.ownBlock] using hb
    exact hr.lt
theorem Lst.frame (h : Lst w v xs) (hb : ∀ b, v.ownBlock = some b → w'.heap[b]? = w.heap[b]?) : Lst w' v xs := by
  obtain ⟨h0, ao, cap, rfl, h1 | ⟨b', off, N, f, rfl, hr, h2⟩⟩ := h
  · exact ⟨h0, ao, cap, rfl, .inl h1⟩
  · exact ⟨h0, _, cap, rfl, .inr ⟨b', off, N, f, rfl, hr.of_block (hb b' rfl), h2⟩⟩
theorem Lst.turned {F : Nat → Prop} (h : Lst w v xs) (t : Turned F w w') (hF : ∀ b, v.ownBlock = some b → ¬ F b) : Lst w' v xs := h.frame (fun b hb => t.block b (h.lt b hb) (hF b hb))
theorem lst_nil (w : World) : Lst w (.slice none 0 0) [] := ⟨by simp, none, 0, rfl, .inl ⟨rfl, rfl, rfl⟩⟩
theorem add_flat (b off j : Nat) : (⟨b, off, none⟩ : Addr).add j = ⟨b, off + j, none⟩ := by unfold Addr.add; split <;> simp_all

theorem Lst.strs (h : Lst w v xs) : Strs w v xs := by
  obtain ⟨h0, ao, cap, rfl, ⟨rfl, rfl, rfl⟩ | ⟨b', off, N, f, rfl, hr, h1, h2, h3⟩⟩ := h
  · exact ⟨none, 0, rfl, fun j x hj => by simp at hj⟩
  · refine ⟨_, cap, rfl, fun j x hj => ?_⟩
    obtain ⟨s, rfl⟩ := h0 x (List.mem_of_getElem? hj)
    have hjl := (List.getElem?_eq_some_iff.1 hj).1
    exact ⟨s, _, rfl, rfl, by rw [add_flat, hr.cell (by omega), h3 j _ hj]⟩
/-- The first of them. -/
theorem Lst.take (h : Lst w v xs) (n : Nat) (hn : n ≤ xs.length) : ∃ ao cap, v = .slice ao xs.length cap ∧ xs.length ≤ cap ∧ Lst w (.slice ao n cap) (xs.take n) := by
  obtain ⟨h0, ao, cap, rfl, ⟨rfl, rfl, rfl⟩ | ⟨b', off, N, f, rfl, hr, h1, h2, h3⟩⟩ := h
  · simp only [List.length_nil, Nat.le_zero_eq] at hn
    subst hn
    exact ⟨none, 0, rfl, by simp, by simp, none, 0, rfl, .inl ⟨rfl, rfl, rfl⟩⟩
  · refine ⟨_, cap, rfl, h2, fun x hx => h0 x (List.mem_of_mem_take hx), _, cap, by rw [List.length_take, Nat.min_eq_left hn], .inr ⟨b', off, N, f, rfl, hr, h1, by rw [List.length_take]; omega, fun j x hj => h3 j x ?_⟩⟩
    rw [List.getElem?_take] at hj
    split at hj
    · exact hj
    · cases hj
/-- One less at the front. -/
theorem Lst.tail {x : Value} (h : Lst w v (x :: xs)) : ∃ b off cap s, v = .slice (some ⟨b, off, none⟩) (xs.length + 1) cap ∧ xs.length + 1 ≤ cap ∧ x = .string s ∧ w.cell? ⟨b, off, none⟩ = some (.string s) ∧
    Lst w (.slice (some (if cap = 1 then ⟨b, off, none⟩ else ⟨b, off + 1, none⟩)) xs.length (cap - 1)) xs := by
  obtain ⟨h0, ao, cap, rfl, ⟨_, h1, _⟩ | ⟨b, off, N, f, rfl, hr, h1, h2, h3⟩⟩ := h
  · cases h1
  · simp only [List.length_cons] at h2
    obtain ⟨s, rfl⟩ := h0 x (by simp)
    refine ⟨b, off, cap, s, rfl, h2, rfl, ?_, fun y hy => h0 y (by simp [hy]), _, _, rfl, ?_⟩
    · rw [hr.cell (by omega), ← h3 0 _ rfl]; rfl
    · by_cases hc : cap = 1
      · subst hc
        obtain rfl : xs = [] := List.length_eq_zero_iff.1 (by omega)
        exact .inr ⟨b, off, N, f, by simp, hr, by omega, by simp, by simp⟩
      · refine .inr ⟨b, off + 1, N, f, by rw [if_neg hc], hr, by omega, by omega, fun j y hj => ?_⟩
        rw [← h3 (j + 1) y (by simpa using hj)]
        congr 1
        omega
theorem Lst.at (h : Lst w v xs) {j : Nat} {x : Value} (hj : xs[j]? = some x) : ∃ b off cap s, v = .slice (some ⟨b, off, none⟩) xs.length cap ∧ x = .string s ∧ w.cell? ⟨b, off + j, none⟩ = some (.string s) := by
  obtain ⟨h0, ao, cap, rfl, ⟨_, rfl, _⟩ | ⟨b, off, N, f, rfl, hr, h1, h2, h3⟩⟩ := h
  · simp at hj
  · obtain ⟨s, rfl⟩ := h0 x (List.mem_of_getElem? hj)
    have hjl := (List.getElem?_eq_some_iff.1 hj).1
    exact ⟨b, off, cap, s, rfl, rfl, by rw [hr.cell (by omega), h3 j _ hj]⟩
end

theorem und28 : Try.prog.underlying 28 = some (.slice 9) := by kernel_rfl
theorem info9 : (Try.prog.info? 9).map (fun i => (i.zero, i.size, i.bytes)) = some (some (.string ⟨#[]⟩), 1, 16) := by kernel_rfl
theorem info_parts {e : TypeId} {z : Value} {s b : Nat} (h : (Try.prog.info? e).map (fun i => (i.zero, i.size, i.bytes)) = some (some z, s, b)) : ∃ i, Try.prog.info? e = some i ∧ i.zero = some z ∧ i.size = s ∧ i.bytes = b := by
  obtain ⟨i, hi, hz⟩ := Option.map_eq_some_iff.1 h
  simp only [Prod.mk.injEq] at hz
  exact ⟨i, hi, hz.1, hz.2.1, hz.2.2⟩

/-- A row of one's own is such a list. -/
theorem lst_of_row {w : World} {B : Nat} {v : Value} {xs : List Value} (hs : ∀ x ∈ xs, ∃ s, x = .string s) (h : w.ownsRow B 9 1 v xs.length xs) : Lst w v xs := by
  refine ⟨hs, ?_⟩
  rcases h.2 with ⟨rfl, h0⟩ | ⟨g, cap, cur, rfl, hb, hg, h1, h2, h3, h4⟩
  · obtain rfl : xs = [] := List.length_eq_zero_iff.1 h0
    exact ⟨none, 0, rfl, .inl ⟨rfl, rfl, rfl⟩⟩
  · refine ⟨_, cap, rfl, .inr ⟨g, 0, cur.size, fun j => (cur[j]?).getD (.string ⟨#[]⟩), rfl, ⟨cur, hg, rfl, fun i hi => by simp [Array.getElem?_eq_getElem hi]⟩, by omega, h1, fun j x hj => ?_⟩⟩
    have hjl := (List.getElem?_eq_some_iff.1 hj).1
    rw [← h4, List.getElem?_take, if_pos (by omega)] at hj
    rw [Nat.zero_add]
    show (cur[j]?).getD (.string ⟨#[]⟩) = x
    rw [← Array.getElem?_toList, hj]
    rfl

/-- append of one text. -/
theorem wpList_append_lst {w : World} {ops : Array Oper} {rest : List Oper} {o : Oper} {a : Act} {Q : Exit → Act → World → Prop} (hgd : o.guard = none) (so xo : Operand)
    (ho : o.op = .call { callee := .builtin .append, args := #[so, xo], argTypes := #[28, 28] }) (v : Value) (xs : List Value) (hs : a.eval so = v) (hl : Lst w v xs) (hlen : xs.length ≤ 1000)
    (ad : Addr) (c : Nat) (s : ByteArray) (hx : a.eval xo = .slice (some ad) 1 c) (hnew : w.cell? ad = some (.string s))
    (h : ∀ v' w', Lst w' v' (xs ++ [.string s]) → w.grownBy w' v.ownBlock → (∀ b, v'.ownBlock = some b → v.ownBlock = some b ∨ w.heap.size ≤ b) → wpList Try.prog ops Q rest (a.put o.dst v') w') :
    wpList Try.prog ops Q (o :: rest) a w := by
  obtain ⟨i0, hi0, hz0, hz1, hz2⟩ := info_parts info9
  have hnews : ∀ (j : Nat) (u : Value), [Value.string s][j]? = some u → w.cell? (ad.add j) = some u := by
    intro j u hj
    obtain ⟨h1, h2⟩ := List.getElem?_eq_some_iff.1 hj
    simp at h1 h2
    subst h1
    rw [← h2, show ad.add 0 = ad by unfold Addr.add; simp]
    exact hnew
  have hone : ∀ u ∈ [Value.string s], u.oneCell' = true := by simp [Value.oneCell']
  obtain ⟨h0, ao, cap, rfl, hcase⟩ := hl
  have hstr : ∀ x ∈ xs ++ [Value.string s], ∃ t, x = .string t := fun x hx => (List.mem_append.1 hx).elim (h0 x) (fun hh => ⟨s, List.mem_singleton.1 hh⟩)
  have hgr : ∀ v' w', w'.ownsRow w.heap.size 9 1 v' (xs.length + 1) (xs ++ [Value.string s]) → w.grownBy w' none → wpList Try.prog ops Q rest (a.put o.dst v') w' := fun v' w' hr hg =>
    h v' w' (lst_of_row hstr (by simpa using hr)) ⟨hg.os, hg.tape, hg.output, hg.size, fun k hk _ => hg.block k hk (by simp)⟩ (fun b hb => .inr (hr.lt b hb).1)
  rcases hcase with ⟨rfl, rfl, rfl⟩ | ⟨b, off, N, f, rfl, hr, h1, h2, h3⟩
  · exact wpList_append_grows w hgd so xo 28 ho 9 i0 (.string ⟨#[]⟩) 1 16 und28 hi0 hz0 hz1 hz2 rfl (by decide) none 0 0 [] hs (fun _ => ⟨rfl, rfl⟩) rfl (by simp) ad 1 c [.string s] hx rfl hnews hone (by omega) (by unfold maxLen; omega) (by omega) hgr
  · refine wpList_append_arg w hgd so xo 28 ho 9 i0 (.string ⟨#[]⟩) 1 16 und28 hi0 hz0 hz1 hz2 rfl (by decide) b off xs.length cap xs hs (by simp) (fun j u hj => by rw [hr.cell (by have := (List.getElem?_eq_some_iff.1 hj).1; omega), h3 j u hj]) ad 1 c [.string s] hx rfl hnews hone ?_ (by unfold maxLen; omega) (by omega) ?_ (fun _ => hgr)
    · intro hroom j hj
      simp only [List.length_cons, List.length_nil] at hj
      rw [hr.cell (by omega)]
      exact ⟨rfl, hr.frozen _⟩
    · intro hroom
      refine h _ _ ⟨hstr, _, cap, by simp, .inr ⟨b, off, N, (fun j => if j = off + xs.length * 1 then Value.string s else f j), rfl, ?_, h1, by simpa using hroom, ?_⟩⟩ ?_ (fun b' hb' => .inl hb')
      · exact hr.set _ _
      · intro j x hj
        show (if off + j = off + xs.length * 1 then Value.string s else f (off + j)) = x
        by_cases hjl : j < xs.length
        · rw [List.getElem?_append_left hjl] at hj
          rw [if_neg (by omega)]
          exact h3 j x hj
        · rw [List.getElem?_append_right (by omega)] at hj
          obtain ⟨e1, e2⟩ := List.getElem?_eq_some_iff.1 hj
          simp at e1 e2
          rw [if_pos (by omega), e2]
      · exact ⟨rfl, rfl, rfl, by simp [World.setCells, World.setCell], fun k hk hne => Below.heap_setCell _ _ _ _ (fun e => hne (by rw [e]; rfl))⟩

theorem und28e : Try.prog.underlying 28 = some (.slice (Try.prog.elem 28)) := by kernel_rfl
theorem size28 (w : World) : (sizeOf (Try.prog.elem 28)).run Try.prog w = .ok 1 w := by rfl
theorem slice_to (w : World) (ao : Option Addr) (L cap n : Nat) (hn : n ≤ cap) (hao : ∀ a, ao = some a → a.spot = none) : (Instr.slice 28 (.slice ao L cap) none (some (.int .i64 (n : Nat))) none).run Try.prog w = .ok (.slice ao n cap) w := by
  rw [run_slice_h w 28 ao L cap und28e .i64 (n : Nat) (by omega) (by omega), size28]
  simp only [Result.andThen_ok, sliced, Int.toNat_natCast, Nat.sub_zero, Nat.zero_mul]
  congr 2
  split
  · rfl
  · cases ao with
    | none => rfl
    | some a => simp [Addr.add]
theorem slice_from (w : World) (b off L cap : Nat) (hL : 1 ≤ L) (hc : L ≤ cap) : (Instr.slice 28 (.slice (some ⟨b, off, none⟩) L cap) (some (.int .i64 1)) none none).run Try.prog w = .ok (.slice (some (if cap = 1 then ⟨b, off, none⟩ else ⟨b, off + 1, none⟩)) (L - 1) (cap - 1)) w := by
  rw [run_slice_l w 28 (some ⟨b, off, none⟩) L cap und28e .i64 1 (by omega) (by omega), size28]
  simp only [Result.andThen_ok, sliced]
  congr 2
  split
  · next h => rw [if_pos (by simpa using h)]
  · next h => rw [if_neg (by simpa using h)]; simp [add_flat]
end Go.Proofs.Ytipgmdeehmjokaa
