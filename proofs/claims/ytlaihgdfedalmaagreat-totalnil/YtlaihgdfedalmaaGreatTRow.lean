/-
  Rows of things of one's own, from any place on; append.
-/
import Derived.Test.YtlaihgdfedalmaaGreatQAll
import Derived.ArgAppend
import Derived.Deep.OwnRows
namespace Go.Proofs.YtlaihgdfedalmaaGreat
open Go.RowKit
set_option linter.unusedVariables false

theorem add_flat (b off j : Nat) : (⟨b, off, none⟩ : Addr).add j = ⟨b, off + j, none⟩ := by unfold Addr.add; split <;> simp_all

/-- So many things of sz cells each in a row, of one's own. -/
def Rw (w : World) (e : TypeId) (sz : Nat) (v : Value) (n : Nat) (cs : List Value) : Prop :=
  cs.length = n * sz ∧ (∀ x ∈ cs, x.oneCell' = true) ∧ ∃ ao cap, v = .slice ao n cap ∧ cap ≤ maxLen ∧ ((ao = none ∧ n = 0 ∧ cap = 0) ∨ ∃ b off N f, ao = some ⟨b, off, none⟩ ∧ w.rowIs b e N f ∧ off + cap * sz ≤ N ∧ n ≤ cap ∧ ∀ j x, cs[j]? = some x → f (off + j) = x)
section
variable {w w' : World} {e : TypeId} {sz n : Nat} {v : Value} {cs : List Value}
theorem Rw.lt (h : Rw w e sz v n cs) : ∀ b, v.ownBlock = some b → b < w.heap.size := by
  intro b hb
  obtain ⟨_, _, ao, cap, rfl, _, ⟨rfl, _⟩ | ⟨b', off, N, f, rfl, hr, _⟩⟩ := h
  · cases hb
  · obtain rfl : b' = b := by simpa [Value.ownBlock] using hb
    exact hr.lt
theorem Rw.frame (h : Rw w e sz v n cs) (hb : ∀ b, v.ownBlock = some b → w'.heap[b]? = w.heap[b]?) : Rw w' e sz v n cs := by
  obtain ⟨h0, h1, ao, cap, rfl, hm, h2 | ⟨b', off, N, f, rfl, hr, h2⟩⟩ := h
  · exact ⟨h0, h1, ao, cap, rfl, hm, .inl h2⟩
  · exact ⟨h0, h1, _, cap, rfl, hm, .inr ⟨b', off, N, f, rfl, hr.of_block (hb b' rfl), h2⟩⟩
theorem Rw.shape (h : Rw w e sz v n cs) : ∃ ao cap, v = .slice ao n cap ∧ n ≤ cap ∧ cap ≤ maxLen := by
  obtain ⟨h0, h1, ao, cap, rfl, hm, ⟨_, rfl, rfl⟩ | ⟨b', off, N, f, rfl, hr, h2, h3, _⟩⟩ := h
  · exact ⟨ao, _, rfl, Nat.le_refl _, hm⟩
  · exact ⟨_, cap, rfl, h3, hm⟩
theorem rw_nil (w : World) (e : TypeId) (sz : Nat) : Rw w e sz (.slice none 0 0) 0 [] := ⟨by simp, by simp, none, 0, rfl, Nat.zero_le _, .inl ⟨rfl, rfl, rfl⟩⟩
theorem Rw.cell {ao : Option Addr} {L cap : Nat} (h : Rw w e sz (.slice ao L cap) n cs) {j : Nat} {x : Value} (hj : cs[j]? = some x) : L = n ∧ ∃ b off, ao = some ⟨b, off, none⟩ ∧ b < w.heap.size ∧ w.cell? ⟨b, off + j, none⟩ = some x := by
  obtain ⟨h0, h1, ao', cap', hv, hm, ⟨rfl, rfl, rfl⟩ | ⟨b, off, N, f, rfl, hr, h2, h3, h4⟩⟩ := h
  · rw [Nat.zero_mul] at h0
    rw [List.length_eq_zero_iff.1 h0] at hj
    simp at hj
  · obtain ⟨rfl, rfl, rfl⟩ : ao = some ⟨b, off, none⟩ ∧ L = n ∧ cap = cap' := by simpa using hv
    have hjl := (List.getElem?_eq_some_iff.1 hj).1
    have : L * sz ≤ cap * sz := Nat.mul_le_mul_right _ h3
    exact ⟨rfl, b, off, rfl, hr.lt, by rw [hr.cell (by omega), h4 j x hj]⟩
end

theorem rw_of_own {w : World} {B : Nat} {e : TypeId} {sz n : Nat} {v : Value} {cs : List Value} (h1 : ∀ x ∈ cs, x.oneCell' = true) (h : w.ownsRow B e sz v n cs) : Rw w e sz v n cs ∧ ∀ b, v.ownBlock = some b → B ≤ b := by
  obtain ⟨hl, h⟩ := h
  rcases h with ⟨rfl, rfl⟩ | ⟨g, cap, cur, rfl, hb, hg, h2, h3, h4, h5⟩
  · exact ⟨⟨hl, h1, none, 0, rfl, Nat.zero_le _, .inl ⟨rfl, rfl, rfl⟩⟩, fun b hb => by cases hb⟩
  · refine ⟨⟨hl, h1, _, cap, rfl, h3, .inr ⟨g, 0, cur.size, fun j => (cur[j]?).getD (.string ⟨#[]⟩), rfl, ⟨cur, hg, rfl, fun i hi => by simp [Array.getElem?_eq_getElem hi]⟩, by omega, h2, fun j x hj => ?_⟩⟩, fun b hb' => ?_⟩
    · have hjl := (List.getElem?_eq_some_iff.1 hj).1
      rw [← h5, List.getElem?_take, if_pos (by omega)] at hj
      rw [Nat.zero_add]
      show (cur[j]?).getD (.string ⟨#[]⟩) = x
      rw [← Array.getElem?_toList, hj]
      rfl
    · have : g = b := by simpa [Value.ownBlock] using hb'
      omega

theorem row_setCells {b : Nat} {t : TypeId} {n : Nat} : ∀ (vs : List Value) (o : Nat) (w : World) (f : Nat → Value), w.rowIs b t n f → ∃ g, (w.setCells b o vs).rowIs b t n g ∧ (∀ j, j < o → g j = f j) ∧ ∀ j x, vs[j]? = some x → g (o + j) = x
  | [], o, w, f, h => ⟨f, h, fun _ _ => rfl, fun j x hj => by simp at hj⟩
  | v :: r, o, w, f, h => by
    obtain ⟨g, h1, h2, h3⟩ := row_setCells r (o + 1) _ _ (h.set o v)
    refine ⟨g, h1, fun j hj => by rw [h2 j (by omega), if_neg (by omega)], fun j x hj => ?_⟩
    cases j with
    | zero => rw [Nat.add_zero, h2 o (by omega), if_pos rfl]; simpa using hj
    | succ j => rw [show o + (j + 1) = o + 1 + j by omega]; exact h3 j x (by simpa using hj)
theorem size_setCells (b : Nat) : ∀ (vs : List Value) (o : Nat) (w : World), (w.setCells b o vs).heap.size = w.heap.size ∧ (w.setCells b o vs).os = w.os ∧ (w.setCells b o vs).tape = w.tape ∧ (w.setCells b o vs).output = w.output ∧ ∀ k, k ≠ b → (w.setCells b o vs).heap[k]? = w.heap[k]?
  | [], o, w => ⟨rfl, rfl, rfl, rfl, fun _ _ => rfl⟩
  | v :: r, o, w => by
    obtain ⟨h1, h2, h3, h4, h5⟩ := size_setCells b r (o + 1) (w.setCell ⟨b, o, none⟩ v)
    exact ⟨h1.trans (by simp [World.setCell]), h2, h3, h4, fun k hk => (h5 k hk).trans (Below.heap_setCell _ _ _ _ hk)⟩

/-- append of one thing. -/
theorem rw_append {w : World} {t e : TypeId} {z : Value} {sz bytes : Nat} (ht : Tryz.prog.underlying t = some (.slice e)) (hinfo : (Tryz.prog.info? e).map (fun i => (i.zero, i.size, i.bytes)) = some (some z, sz, bytes)) (hzs : z.cells.size = sz) (h0 : 0 < sz) (hby : bytes ≤ 100)
    {v : Value} {n : Nat} {cs : List Value} (h : Rw w e sz v n cs) (hn : n ≤ 5000) (ad : Addr) (c : Nat) (news : List Value) (hnl : news.length = sz) (hcell : ∀ j u, news[j]? = some u → w.cell? (ad.add j) = some u) (hone : ∀ u ∈ news, u.oneCell' = true) (ty : TypeId) :
    ∃ v' w', (Builtin.append_ #[t, t] ty #[v, .slice (some ad) 1 c]).run Tryz.prog w = .ok v' w' ∧ Rw w' e sz v' (n + 1) (cs ++ news) ∧ w.grownBy w' v.ownBlock ∧ ∀ b, v'.ownBlock = some b → v.ownBlock = some b ∨ w.heap.size ≤ b := by
  obtain ⟨i, hi, hz0, hz1, hz2⟩ := info_parts hinfo
  obtain ⟨hl, h1, ao, cap, rfl, hm, hcase⟩ := h
  have hb1 : n + 1 ≤ maxLen := by unfold maxLen; omega
  have hb2 : (n + 1) * bytes ≤ 140737488355328 := by
    have : (n + 1) * bytes ≤ 5001 * 100 := Nat.mul_le_mul (by omega) hby
    omega
  have hone2 : ∀ x ∈ cs ++ news, x.oneCell' = true := fun x hx => (List.mem_append.1 hx).elim (h1 x) (hone x)
  rcases hcase with ⟨rfl, rfl, rfl⟩ | ⟨b, off, N, f, rfl, hr, hN, hnc, hf⟩
  · obtain rfl : cs = [] := List.length_eq_zero_iff.1 (by simpa using hl)
    obtain ⟨v', w', r1, r2, r3, _⟩ := run_append_own (P := Tryz.prog) w w.heap.size t ty e i z sz bytes ht hi hz0 hz1 hz2 hzs h0 (.slice none 0 0) 0 [] (World.ownsRow_nil w _ e sz) ad 1 c news (by omega) hcell hone hb1 hb2 (Nat.le_refl _)
    obtain ⟨q1, q2⟩ := rw_of_own (by simpa using hone2) r2
    exact ⟨v', w', r1, by simpa using q1, r3, fun b hb => .inr (q2 b hb)⟩
  · by_cases hroom : n + 1 ≤ cap
    · have hcs : (n + 1) * sz ≤ cap * sz := Nat.mul_le_mul_right _ hroom
      rw [Nat.add_mul, Nat.one_mul] at hcs
      have hrun := run_append_room_cells (P := Tryz.prog) w t ty e i ht hi b off n cap ad 1 c news (by rw [hz1]; omega) hcell hone hroom (fun j hj => by rw [hz1, hr.cell (by omega)]; rfl) (fun j hj => hr.frozen _)
      rw [hz1] at hrun
      obtain ⟨g, g1, g2, g3⟩ := row_setCells news (off + n * sz) w f hr
      obtain ⟨s1, s2, s3, s4, s5⟩ := size_setCells b news (off + n * sz) w
      refine ⟨_, _, hrun, ⟨by rw [List.length_append, hl, hnl, Nat.add_mul, Nat.one_mul], hone2, _, cap, rfl, hm, .inr ⟨b, off, N, g, rfl, g1, hN, hroom, fun j x hj => ?_⟩⟩, ⟨s2, s3, s4, by omega, fun k hk hne => s5 k (fun e => hne (by rw [e]; rfl))⟩, fun b' hb' => .inl hb'⟩
      by_cases hjl : j < cs.length
      · rw [List.getElem?_append_left hjl] at hj
        rw [g2 _ (by omega)]
        exact hf j x hj
      · rw [List.getElem?_append_right (by omega)] at hj
        have := g3 _ x hj
        rwa [show off + n * sz + (j - cs.length) = off + j by omega] at this
    · obtain ⟨v', w', r1, r2, r3⟩ := run_append_arg_grows (P := Tryz.prog) w t ty e i z sz bytes ht hi hz0 hz1 hz2 hzs h0 ⟨b, off, none⟩ n cap cs hl (fun j u hj => by
        have hjl := (List.getElem?_eq_some_iff.1 hj).1
        have : n * sz ≤ cap * sz := Nat.mul_le_mul_right _ hnc
        rw [add_flat, hr.cell (by omega), hf j u hj]) ad 1 c news (by omega) hcell (by omega) hb1 hb2
      obtain ⟨q1, q2⟩ := rw_of_own hone2 r2
      exact ⟨v', w', r1, q1, ⟨r3.os, r3.tape, r3.output, r3.size, fun k hk _ => r3.block k hk (by simp)⟩, fun b hb => .inr (q2 b hb)⟩

end Go.Proofs.YtlaihgdfedalmaaGreat
