/-
  What NetOrder leans on: two nets beside one another, bytes behind one, the packets that are left.
-/
import Derived.Test.YtagabmhgcmnldaaNArgs3
namespace Go.Proofs.Ytagabmhgcmnldaa.netOrder
open Go.ChangeShapes Go.WideShapes Go.ChangeAt Go.RowKit
open Go.ChangeMaps (open_string shut_string)
set_option linter.unusedVariables false
set_option linter.unusedSimpArgs false

theorem walk_long (w : World) (ao : Option Addr) (n cap : Nat) (bo : Option Addr) (m bc : Nat) (hn : 60 < n) (hm : n ≤ 9223372036854775807) :
    Calls Try.prog 8 #[.slice ao n cap, .slice bo m bc] w fun e w' => e = .returned (.bool true) ∧ Below w.heap.size w w' := by
  go_enter Try.func8, Try.ntmps8
  go_wp2_with fail
  refine (awake_any _).mono ?_
  rintro e w1 ⟨rfl, b1⟩
  go_wp2_with fail
  refine (awake_any _).mono ?_
  rintro e w2 ⟨rfl, b2⟩
  go_wp2
  go_ret
  exact ⟨rfl, bl_step b1 b2⟩

/-- The packet of a message. -/
def pk (ms : Nat → List UInt8) (i : Nat) : Pa := ⟨0, 1, UInt8.ofNat i :: ms i, []⟩

/-- Two nets of one's own. -/
structure Two (w wr : World) (pa pb : Nat) (Fa Fb : Nat → Prop) (A B : List Pa) : Prop where
  na : Nt wr Fa pa 2 (allN 2) 0 A
  nb : Nt wr Fb pb 2 (allN 2) 0 B
  dj : ∀ b, Fa b → ¬ Fb b
  a0 : ∀ b, Fa b → w.heap.size ≤ b
  b0 : ∀ b, Fb b → w.heap.size ≤ b
  bl : Below w.heap.size w wr
section
variable {w wr w' : World} {pa pb : Nat} {Fa Fb Fa' Fb' : Nat → Prop} {A B A' B' : List Pa}
theorem Two.up (h : Two w wr pa pb Fa Fb A B) (u : Below wr.heap.size wr w') : Two w w' pa pb Fa Fb A B := { h with na := h.na.up u, nb := h.nb.up u, bl := bl_step h.bl u }
theorem Two.goA (h : Two w wr pa pb Fa Fb A B) (hN : Nt w' Fa' pa 2 (allN 2) 0 A') (g : Goes Fa wr Fa' w') : Two w w' pa pb Fa' Fb A' B :=
  { na := hN, nb := h.nb.turned g.turned (fun b hb hf => h.dj b hf hb), dj := fun b hb hf => (g.foot b hb).elim (fun h1 => h.dj b h1 hf) (fun hle => by have := h.nb.2 b hf; omega)
    a0 := fun b hb => (g.foot b hb).elim (h.a0 b) (fun hle => Nat.le_trans h.bl.size hle), b0 := h.b0, bl := h.bl.trans (g.turned.below h.bl.size h.a0) }
theorem Two.goB (h : Two w wr pa pb Fa Fb A B) (hN : Nt w' Fb' pb 2 (allN 2) 0 B') (g : Goes Fb wr Fb' w') : Two w w' pa pb Fa Fb' A B' :=
  { na := h.na.turned g.turned (fun b hb hf => h.dj b hb hf), nb := hN, dj := fun b hb hf => (g.foot b hf).elim (fun h1 => h.dj b hb h1) (fun hle => by have := h.na.2 b hb; omega)
    a0 := h.a0, b0 := fun b hb => (g.foot b hb).elim (h.b0 b) (fun hle => Nat.le_trans h.bl.size hle), bl := h.bl.trans (g.turned.below h.bl.size h.b0) }
end
theorem goes_same {F : Nat → Prop} {w w' : World} (t : Turned F w w') : Goes F w F w' := ⟨t, fun _ h => .inl h⟩
theorem byte_small {i : Nat} (h : i < 60) : (UInt8.ofNat i).toNat = i := ofNat_toNat i (by omega)
theorem map_range_succ (f : Nat → Pa) (i : Nat) : (List.range (i + 1)).map f = (List.range i).map f ++ [f i] := by rw [List.range_succ, List.map_append]; rfl
theorem drop_get (f : Nat → Pa) (m i : Nat) (h : i < m) : (((List.range m).drop i).map f)[0]? = some (f i) := by simp [h]
theorem drop_erase (f : Nat → Pa) (m i : Nat) : (((List.range m).drop i).map f).eraseIdx 0 = ((List.range m).drop (i + 1)).map f := by
  rw [List.eraseIdx_zero, ← List.map_tail, List.tail_drop]
theorem map_erase {α β : Type} (f : α → β) (l : List α) (j : Nat) : (l.map f).eraseIdx j = (l.eraseIdx j).map f := by
  rw [List.eraseIdx_eq_take_drop_succ, List.eraseIdx_eq_take_drop_succ, List.map_append, List.map_take, List.map_drop]

/-- Bytes behind one. -/
theorem append_one {w : World} {B : Nat} {x : UInt8} {ao : Option Addr} {n cap : Nat} {ys : List UInt8} (hB : w.heap[B]? = some (.cells #[by8 x] 5 (0, 0))) (h : Row w ao n cap ys) (hn : n ≤ 140737488351232) (base : Nat) (hb : base ≤ B) (hbw : base ≤ w.heap.size) (ty : TypeId) :
    ∃ g c w', (Builtin.append_ #[35, 35] ty #[.slice (some ⟨B, 0, none⟩) 1 1, .slice ao n cap]).run Try.prog w = .ok (.slice (some ⟨g, 0, none⟩) (n + 1) c) w' ∧ w'.ownsRow base 5 1 (.slice (some ⟨g, 0, none⟩) (n + 1) c) (n + 1) ((x :: ys).map by8) ∧ w.grownBy w' (some B) := by
  obtain ⟨i0, hi0, hz0, hz1, hz2⟩ := info_parts Try.info5
  have hl := h.1
  have hown : w.ownsRow base 5 1 (.slice (some ⟨B, 0, none⟩) 1 1) 1 [by8 x] := ⟨rfl, .inr ⟨B, 1, _, rfl, hb, hB, Nat.le_refl _, by unfold maxLen; omega, rfl, rfl⟩⟩
  cases ao with
  | none =>
    obtain ⟨rfl, rfl⟩ := h.2.2.2.1 rfl
    obtain rfl : ys = [] := List.length_eq_zero_iff.1 hl
    exact ⟨B, 1, w, run_append_owned_none (P := Try.prog) w base 35 ty 5 i0 1 Try.underlying35 hi0 _ 1 _ hown, hown, gr_refl' w B⟩
  | some a =>
    obtain ⟨v', w', h1, h2, h3, h4, h5⟩ := run_append_own_at (P := Try.prog) w base 35 ty 5 i0 _ 1 1 Try.underlying35 hi0 hz0 hz1 hz2 rfl (by omega) _ 1 [by8 x] hown a n cap (ys.map by8) (by simp [hl]) (fun j u hj => h.olds a rfl j u hj) (by8_one ys) (by unfold maxLen; omega) (by omega) hbw
    rw [Nat.add_comm 1 n] at h2
    have h2' : w'.ownsRow base 5 1 v' (n + 1) ((x :: ys).map by8) := h2
    rcases h2'.2 with ⟨_, h0'⟩ | ⟨g, c, cur, rfl, hg, _⟩
    · omega
    · exact ⟨g, c, w', h1, h2', h3⟩
where
  gr_refl' (w : World) (B : Nat) : w.grownBy w (some B) := ⟨rfl, rfl, rfl, Nat.le_refl _, fun _ _ _ => rfl⟩
/-- All bytes but the first. -/
theorem row_tail {w : World} {b : Nat} {x : UInt8} {ys : List UInt8} (h : By w b (x :: ys)) (hm : ys.length ≤ 140737488351232) (off : Nat) (ho : off = 1 ∨ ys.length = 0) : Row w (some ⟨b, off, none⟩) ys.length ys.length ys := by
  refine ⟨rfl, Nat.le_refl _, by unfold maxLen; omega, fun e => (by cases e), fun a ha i hi => ?_⟩
  cases ha
  rcases ho with rfl | h0
  · rw [Addr.add_lit, show 1 + i = i + 1 by omega, h.cell (by simp; omega)]
    simp [List.getD]
  · omega
/-- What is told of the packets that are left. -/
structure Left (ms : Nat → List UInt8) (m i : Nat) (B : List Nat) (S : Nat → Bool) : Prop where
  len : B.length = m - i
  nd : B.Nodup
  lt : ∀ k ∈ B, k < m
  new : ∀ k ∈ B, S k = false
theorem Left.take {ms : Nat → List UInt8} {m i : Nat} {B : List Nat} {S : Nat → Bool} (h : Left ms m i B S) {j k : Nat} (hj : B[j]? = some k) : Left ms m (i + 1) (B.eraseIdx j) (fun x => if x = k then true else S x) := by
  have hjl := (List.getElem?_eq_some_iff.1 hj).1
  have hsub : ∀ x ∈ B.eraseIdx j, x ∈ B := fun x hx => List.mem_of_mem_eraseIdx hx
  refine ⟨by rw [List.length_eraseIdx_of_lt hjl, h.len]; omega, h.nd.sublist (List.eraseIdx_sublist B j), fun x hx => h.lt x (hsub x hx), fun x hx => ?_⟩
  have hne : x ≠ k := by
    rintro rfl
    have hk := (List.getElem?_eq_some_iff.1 hj).2
    rw [List.mem_eraseIdx_iff_getElem?] at hx
    obtain ⟨p, hp, hpx⟩ := hx
    exact hp ((List.getElem?_inj (by exact (List.getElem?_eq_some_iff.1 hpx).1) h.nd).1 (hpx.trans hj.symm))
  rw [if_neg hne]
  exact h.new x (hsub x hx)
end Go.Proofs.Ytagabmhgcmnldaa.netOrder
