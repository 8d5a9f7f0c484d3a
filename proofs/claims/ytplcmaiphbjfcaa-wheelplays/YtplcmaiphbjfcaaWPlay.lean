/-
  A wheel and the document's list, side by side.
-/
import Derived.Test.YtplcmaiphbjfcaaWRef4
namespace Go.Proofs.Ytplcmaiphbjfcaa
open Go.RowKit
set_option linter.unusedVariables false

theorem Wh.now_le {w : World} {p m : Nat} {V : Nat → Value} {now arms : Nat} {A : List (Int × Nat)} (h : Wh w p m V now arms A) : now ≤ 1152921504606846976 := by
  obtain ⟨n, T, S, L, h1, h2, rfl⟩ := h
  exact h2.now

structure Pl (w0 w : World) (p m : Nat) (V : Nat → Value) (na ra : Nat) (A : List (Int × Nat)) (r : Nat) (v : Value) (nb : Nat) (B : List (Int × Nat)) : Prop where
  one : Wh w p m V na ra A
  two : Rf w r v nb B
  f1 : Fresh w0 w p m V
  f2 : ∀ b, FootR r v b → w0.heap.size ≤ b
  sep : ∀ b, Foot p m V b → ¬ FootR r v b
section
variable {w0 w w2 : World} {p m : Nat} {V V2 : Nat → Value} {na ra na' ra' : Nat} {A A' : List (Int × Nat)} {r : Nat} {v v2 : Value} {nb nb' : Nat} {B B' : List (Int × Nat)}
theorem Pl.wheel (h : Pl w0 w p m V na ra A r v nb B) (k : Wh w2 p m V2 na' ra' A') (g : Goes p m V w V2 w2) : Pl w0 w2 p m V2 na' ra' A' r v nb B where
  one := k
  two := h.two.frame (fun b hb => g.turned.block b (h.two.lt b hb) (fun hf => h.sep b hf hb))
  f1 := h.f1.goes g
  f2 := h.f2
  sep := fun b hb hb' => (g.foot b hb).elim (fun h1 => h.sep b h1 hb') (fun hle => by have := h.two.lt b hb'; omega)
theorem Pl.list (h : Pl w0 w p m V na ra A r v nb B) (k : Rf w2 r v2 nb' B') (t : Turned (fun b => b = r) w w2) (hn : ∀ b, v2.ownBlock = some b → w.heap.size ≤ b) : Pl w0 w2 p m V na ra A r v2 nb' B' where
  one := h.one.frame (fun b hb => t.block b (h.one.foot_lt b hb) (fun e => h.sep b hb (.inl e)))
  two := k
  f1 := ⟨h.f1.turned.trans t (fun i hi => .inr (by rw [hi]; exact h.f2 r (.inl rfl))), h.f1.foot⟩
  f2 := fun b hb => hb.elim (fun e => h.f2 b (.inl e)) (fun e => Nat.le_trans h.f1.turned.size (hn b e))
  sep := fun b hb hb' => hb'.elim (fun e => h.sep b hb (.inl e)) (fun e => by have := h.one.foot_lt b hb; have := hn b e; omega)
theorem Pl.other (h : Pl w0 w p m V na ra A r v nb B) (t : Turned (fun _ => False) w w2) : Pl w0 w2 p m V na ra A r v nb B where
  one := h.one.frame (fun b hb => t.block b (h.one.foot_lt b hb) (fun f => f))
  two := h.two.turned t
  f1 := ⟨h.f1.turned.trans t (fun i hi => .inl hi), h.f1.foot⟩
  f2 := h.f2
  sep := h.sep
/-- A variable of the caller's own, beside both. -/
structure Bq (w : World) (bx : Nat) (k : Nat) (id : Int) (inn : Nat) (p m : Nat) (V : Nat → Value) (r : Nat) (v : Value) : Prop where
  at_ : w.heap[bx]? = some (.cells #[.int .u8 (k : Nat), .int .i64 id, .int .u64 (inn : Nat)] 34 (0, 0))
  no1 : ¬ Foot p m V bx
  no2 : ¬ FootR r v bx
variable {bx k inn : Nat} {id : Int}
theorem Bq.lt (h : Bq w bx k id inn p m V r v) : bx < w.heap.size := (Array.getElem?_eq_some_iff.1 h.at_).1
theorem Bq.c1 (h : Bq w bx k id inn p m V r v) : w.cell? ⟨bx, 1, none⟩ = some (.int .i64 id) := by rw [cell_of_row _ _ _ _ 34 (0, 0) h.at_]; rfl
theorem Bq.c2 (h : Bq w bx k id inn p m V r v) : w.cell? ⟨bx, 2, none⟩ = some (.int .u64 (inn : Nat)) := by rw [cell_of_row _ _ _ _ 34 (0, 0) h.at_]; rfl
theorem Bq.c0 (h : Bq w bx k id inn p m V r v) : w.cell? ⟨bx, 0, none⟩ = some (.int .u8 (k : Nat)) := by rw [cell_of_row _ _ _ _ 34 (0, 0) h.at_]; rfl
theorem Bq.wheel (h : Bq w bx k id inn p m V r v) (g : Goes p m V w V2 w2) : Bq w2 bx k id inn p m V2 r v :=
  ⟨by rw [(g.kept h.lt h.no1).1]; exact h.at_, (g.kept h.lt h.no1).2, h.no2⟩
theorem Bq.list (h : Bq w bx k id inn p m V r v) (t : Turned (fun b => b = r) w w2) (hn : ∀ b, v2.ownBlock = some b → w.heap.size ≤ b) : Bq w2 bx k id inn p m V r v2 :=
  ⟨by rw [t.block bx h.lt (fun e => h.no2 (.inl e))]; exact h.at_, h.no1, fun hf => hf.elim (fun e => h.no2 (.inl e)) (fun e => by have := hn bx e; have := h.lt; omega)⟩
theorem Bq.other (h : Bq w bx k id inn p m V r v) (t : Turned (fun _ => False) w w2) : Bq w2 bx k id inn p m V r v :=
  ⟨by rw [t.block bx h.lt (fun f => f)]; exact h.at_, h.no1, h.no2⟩

theorem arm_pl (h : Pl w0 w p m V na ra A r v nb B) (hb : Bq w bx k id inn p m V r v) (hr : ra < 4294967295) (hid : In id) (hin : 0 < inn) (hle : na + inn ≤ 1152921504606846976) :
    Calls Try.prog 12 #[.pointer (some ⟨p, 0, none⟩), .int .i64 id, .int .u64 (inn : Nat)] w fun e w' => e = .returned (.int .i64 0) ∧ ∃ V2, Pl w0 w' p m V2 na (ra + 1) (without A id ++ [(id, na + inn)]) r v nb B ∧ Bq w' bx k id inn p m V2 r v :=
  (arm_any w p m V na ra A h.one hr id hid inn hin hle).mono fun e w' ⟨he, V2, kk, g⟩ => ⟨he, V2, h.wheel kk g, hb.wheel g⟩
theorem rarm_pl (h : Pl w0 w p m V na ra A r v nb B) (hb : Bq w bx k id inn p m V r v) (hl : B.length < 1099511627776) (hin : 0 < inn) (hle : nb + inn ≤ 1152921504606846976) :
    Calls Try.prog 13 #[.pointer (some ⟨r, 0, none⟩), .int .i64 id, .int .u64 (inn : Nat)] w fun e w' => e = .returned (.int .i64 0) ∧ ∃ v2, Pl w0 w' p m V na ra A r v2 nb (without B id ++ [(id, nb + inn)]) ∧ Bq w' bx k id inn p m V r v2 :=
  (rarm_any w r v nb B h.two id inn hin hle hl).mono fun e w' ⟨he, v2, kk, t, hn⟩ => ⟨he, v2, h.list kk t hn, hb.list t hn⟩
theorem cancel_pl (h : Pl w0 w p m V na ra A r v nb B) (hb : Bq w bx k id inn p m V r v) (hr : ra < 4294967296) (hid : In id) :
    Calls Try.prog 14 #[.pointer (some ⟨p, 0, none⟩), .int .i64 id] w fun e w' => e = .returned (.int .i64 (errOf (A.lookup id))) ∧ ∃ V2, Pl w0 w' p m V2 na ra (without A id) r v nb B ∧ Bq w' bx k id inn p m V2 r v :=
  (cancel_any w p m V na ra A h.one hr id hid).mono fun e w' ⟨he, V2, kk, g⟩ => ⟨he, V2, h.wheel kk g, hb.wheel g⟩
theorem rcancel_pl (h : Pl w0 w p m V na ra A r v nb B) (hb : Bq w bx k id inn p m V r v) (hl : B.length < 1099511627776) :
    Calls Try.prog 15 #[.pointer (some ⟨r, 0, none⟩), .int .i64 id] w fun e w' => e = .returned (.bool (decide ((without B id).length < B.length))) ∧ ∃ v2, Pl w0 w' p m V na ra A r v2 nb (without B id) ∧ Bq w' bx k id inn p m V r v2 :=
  (rcancel_any w r v nb B h.two id hl).mono fun e w' ⟨he, v2, kk, t, hn⟩ => ⟨he, v2, h.list kk t hn, hb.list t hn⟩
/-- It was there if it is less now. -/
theorem less_iff (id : Int) : ∀ A : List (Int × Nat), decide ((without A id).length < A.length) = (errOf (A.lookup id) == 0)
  | [] => rfl
  | x :: A => by
    have hle := without_le A id
    have ih := less_iff id A
    unfold without at ih hle ⊢
    rw [List.lookup_cons]
    by_cases e : x.1 = id
    · rw [List.filter_cons_of_neg (by simpa using e)]
      have e2 : (id == x.1) = true := by simp [e]
      rw [e2]
      have hlt : (List.filter (fun x => decide (x.1 ≠ id)) A).length < (x :: A).length := by rw [List.length_cons]; omega
      rw [decide_eq_true hlt]
      rfl
    · rw [List.filter_cons_of_pos (by simpa using e)]
      have e2 : (id == x.1) = false := by simp; exact fun h => e h.symm
      rw [e2, ← ih]
      simp
end
end Go.Proofs.Ytplcmaiphbjfcaa
