/-
  Any bytes: what the code's Decode and the document's tell is the same.
-/
import Derived.Test.YtpdgoalbknopiaaERefD2
import Derived.Test.YtpdgoalbknopiaaEDec0
import Derived.Test.YtpdgoalbknopiaaEDec2
namespace Go.Proofs.Ytpdgoalbknopiaa
open Go.RowKit
set_option linter.unusedVariables false
set_option linter.unusedSimpArgs false

/-- What is told of bytes. -/
structure Tl where
  k : Nat
  x : Lb
  ms : List UInt8
  es : List (Lb × List UInt8)
  ls : List Lb
  nx : Int
  hn : Nat
  hp : Int
  e : Int
def noTl : Tl := ⟨0, (0, 0, 0, 0), [], [], [], 0, 0, 0, 3⟩
def Told (w w' : World) (R : Tl) (v1 v2 : Value) : Prop :=
  ∃ so sc ca cc oa oc, v1 = ent R.x (.slice so R.ms.length sc) ∧ v2 = sumv (.slice ca R.es.length cc) (.slice oa R.ls.length oc) R.nx R.hn R.hp ∧ Cd.Row w' so R.ms.length sc R.ms ∧ ER (fun _ => True) w' ca R.es.length R.es ∧ LR w' oa R.ls.length R.ls ∧ Below w.heap.size w w'
theorem row_nil (w : World) : Cd.Row w none 0 0 [] := ⟨rfl, Nat.le_refl _, by unfold maxLen; omega, fun _ => ⟨rfl, rfl⟩, fun a ha => by cases ha⟩
theorem lr_nil (w : World) : LR w none 0 [] := ⟨rfl, by omega, fun h => by omega⟩
theorem told_no {w w' : World} (u : Below w.heap.size w w') : Told w w' noTl (.agg Ze) (.agg Zs) := ⟨none, 0, none, 0, none, 0, rfl, rfl, row_nil _, ER.nil _ _ _, lr_nil _, u⟩
def Same2 (n : Nat) (xs : List UInt8) (R : Tl) : Prop :=
  (∀ w ao cap, Cd.Row w ao n cap xs → Calls Try.prog 11 #[.slice ao n cap] w fun e w' => ∃ v1 v2, e = .returned (.tuple #[.int .u8 (R.k : Nat), v1, v2, .int .i64 R.e]) ∧ Told w w' R v1 v2) ∧
  (∀ w ao cap, Cd.Row w ao n cap xs → Calls Try.prog 18 #[.slice ao n cap] w fun e w' => ∃ v1 v2, e = .returned (.tuple #[.int .u8 (R.k : Nat), v1, v2]) ∧ Told w w' R v1 v2)
theorem rInt_zero {st : St} {m : Int} (h : (Cd.rInt st m).2 = none) : (Cd.rInt st m).1 = 0 := by
  unfold Cd.rInt at h ⊢
  split
  · rfl
  · rename_i ys hy
    rw [hy] at h
    simp only at h
    split at h
    · rename_i hc
      rw [if_pos hc]
    · cases h
theorem enc_small (k : Nat) (h : k ≤ 2) : Cd.enc k = [UInt8.ofNat k] := Cd.encF_small 9 k (by omega)
theorem kind_other (x : UInt8) (t : List UInt8) (h1 : x.toNat ≠ 1) (h2 : x.toNat ≠ 2) : ∃ st, Cd.rInt (some (x :: t)) 2 = (0, st) := by
  refine ⟨(Cd.rInt (some (x :: t)) 2).2, ?_⟩
  cases h : (Cd.rInt (some (x :: t)) 2).2 with
  | none => exact Prod.ext (rInt_zero h) h
  | some r =>
    obtain ⟨e1, e2, _⟩ := rInt_inv (pr2 h)
    refine Prod.ext ?_ h
    rw [enc_small _ (by omega)] at e1
    simp at e1
    have e3 := congrArg UInt8.toNat e1.1
    have hk : (Cd.rInt (some (x :: t)) 2).1 ≤ 2 := by omega
    rw [Cd.ofNat_toNat _ (by omega)] at e3
    show (Cd.rInt (some (x :: t)) 2).1 = 0
    omega
theorem kind_is (k : Nat) (x : UInt8) (t : List UInt8) (h : x.toNat = k) (hk : k ≤ 2) : Cd.rInt (some (x :: t)) 2 = (k, some t) := by
  have := rInt_enc k (by omega) 2 (by omega) t
  rw [enc_small _ hk] at this
  rw [show x = UInt8.ofNat k from UInt8.toNat_inj.1 (by rw [h, Cd.ofNat_toNat _ (by omega)])]
  exact this
theorem kind_nil : Cd.rInt (some []) 2 = (0, none) := by simp [Cd.rInt, Cd.rUint, Cd.rd, Cd.rdF]
theorem decN_few {α : Type} (f : St → α × St) (E : α → List UInt8) (R : α → Prop) (hf : ∀ st x r, f st = (x, some r) → st = some (E x ++ r) ∧ R x) (c : Nat) (hc : ∀ x, c ≤ (E x).length) (n : Nat) (st : St) (zs : List UInt8) (hz : st = some zs ∨ st = none) : c * (decN f n st).1.length ≤ zs.length := by
  cases h : (decN f n st).2 with
  | none => rw [decN_none f n st h]; simp
  | some r =>
    obtain ⟨h1, h2, h3⟩ := decN_inv f E R hf n st _ _ (pr2 h)
    rcases hz with e | e
    · rw [e] at h2
      simp only [Option.some.injEq] at h2
      have := flatMap_len E c hc (decN f n st).1
      rw [e] at this ⊢
      rw [h2]
      rw [List.length_append]
      rw [← h2]
      omega
    · rw [e] at h2; cases h2
theorem decS_few (t : List UInt8) : 4 * (decS (some t)).1.ls.length ≤ t.length ∧ 5 * (decS (some t)).1.es.length ≤ t.length := by
  have key : ∀ st : St, (∀ ys, st = some ys → ys.length ≤ t.length) → ∃ zs : List UInt8, zs.length ≤ t.length ∧ (st = some zs ∨ st = none) := fun st h => by
    cases st with
    | none => exact ⟨[], by simp, .inr rfl⟩
    | some ys => exact ⟨ys, h ys rfl, .inl rfl⟩
  constructor
  · show 4 * (decN decL _ _).1.length ≤ _
    obtain ⟨zs, h1, h2⟩ := key (Cd.rInt (dE (some t)).2 mx).2 (fun ys h => by
      obtain ⟨us, h3, h4⟩ := Cd.rInt_len _ _ _ h
      obtain ⟨vs, h5, h6⟩ := dE_len _ _ h3
      cases h5
      omega)
    exact Nat.le_trans (decN_few decL encL RL (fun _ _ _ h => decL_inv h) 4 encL_4 _ _ zs h2) h1
  · show 5 * (decN decE _ _).1.length ≤ _
    obtain ⟨zs, h1, h2⟩ := key (Cd.rInt (some t) mx).2 (fun ys h => by
      obtain ⟨us, h3, h4⟩ := Cd.rInt_len _ _ _ h
      cases h3
      omega)
    exact Nat.le_trans (decN_few decE (fun e => encE e.1 e.2) RE (fun _ _ _ h => decE_inv h) 5 encE_5 _ _ zs h2) h1
/-- Where one of the two finds a right summary both find the same. -/
theorem good_same {L M : Int} {t : List UInt8} (hM : (t.length : Int) + 1 ≤ M) (hM2 : M < 18446744073709551616) (h : goodS (decSL L (some t))) : decSL M (some t) = decSL L (some t) := by
  obtain ⟨h1, h2⟩ := h
  obtain ⟨i1, iE, iL, i4, i5, i6⟩ := decSL_inv (pr2 h1)
  have hp := right_parts h2 (fun e he => ⟨(iE e he).1, (iE e he).2.1⟩) (fun y hy => ⟨(iL y hy).1, (iL y hy).2.1⟩)
  have hnx := hp.2.2.2.1
  have few := tail_few (decSL L (some t)).1.es (decSL L (some t)).1.ls (decSL L (some t)).1.nx (decSL L (some t)).1.hn ((decSL L (some t)).1.hp : Int)
  rw [Option.some.injEq] at i1
  rw [← i1] at few
  have := decSL_tail (es := (decSL L (some t)).1.es) (ls := (decSL L (some t)).1.ls) (nx := (decSL L (some t)).1.nx) (hn := (decSL L (some t)).1.hn) (hp := ((decSL L (some t)).1.hp : Int)) M hM2 iE iL (by omega) (by omega) (by omega) i5 i6
  rw [← i1] at this
  rw [this]
  refine Prod.ext ?_ h1.symm
  show DS.mk _ _ _ _ _ = (decSL L (some t)).1
  simp
theorem both (n : Nat) (xs : List UInt8) (hl : xs.length = n) (hn : n ≤ 3000) : ∃ R, Same2 n xs R ∧ R.k < 256 ∧ (R.e = 0 ∧ 0 < R.k ∨ R.e = 3 ∧ R.k = 0) := by
  have no : ∀ {w w' : World} {e : Ending}, e = .returned (.tuple #[.int .u8 0, .agg Ze, .agg Zs, .int .i64 3]) ∧ Below w.heap.size w w' → ∃ v1 v2, e = .returned (.tuple #[.int .u8 (noTl.k : Nat), v1, v2, .int .i64 noTl.e]) ∧ Told w w' noTl v1 v2 := fun h => ⟨_, _, h.1, told_no h.2⟩
  have no2 : ∀ {w w' : World} {e : Ending}, e = .returned (.tuple #[.int .u8 0, .agg Ze, .agg Zs]) ∧ Below w.heap.size w w' → ∃ v1 v2, e = .returned (.tuple #[.int .u8 (noTl.k : Nat), v1, v2]) ∧ Told w w' noTl v1 v2 := fun h => ⟨_, _, h.1, told_no h.2⟩
  cases xs with
  | nil =>
    simp at hl
    subst hl
    exact ⟨noTl, ⟨fun w ao cap h => (decode_none w ao 0 cap [] h (by omega) none kind_nil).mono (fun _ _ h => no h), fun w ao cap h => (refDec_nil w ao cap).mono (fun _ _ h => no2 h)⟩, by decide, .inr ⟨rfl, rfl⟩⟩
  | cons x t =>
    have ht : t.length + 1 = n := by simpa using hl
    by_cases h1 : x.toNat = 1
    · have hk := kind_is 1 x t h1 (by omega)
      by_cases hg : (decE (some t)).2 = some []
      · obtain ⟨_, hre⟩ := decE_inv (pr2 hg)
        have hfe : formE (decE (some t)).1.1 (decE (some t)).1.2.length = true := by
          unfold formE
          rw [Bool.and_eq_true, decide_eq_true_eq]
          exact ⟨hre.2.2.1, hre.2.2.2⟩
        refine ⟨⟨1, (decE (some t)).1.1, (decE (some t)).1.2, [], [], 0, 0, 0, 0⟩, ⟨fun w ao cap h => (decode_one_good w ao n cap _ h (by omega) _ hk (fun ys hy => by cases hy; omega) ⟨hfe, hg⟩).mono ?_, fun w ao cap h => (refDec_one_good w ao n cap x t h (by omega) h1 hg).mono ?_⟩, (show (1 : Nat) < 256 by omega), .inl ⟨rfl, (show 0 < (1 : Nat) by omega)⟩⟩
        · rintro e w' ⟨s, rfl, ho, hb⟩
          obtain ⟨so, sc, rfl, hr, _⟩ := Cd.owns_row ho
          exact ⟨_, _, rfl, so, sc, none, 0, none, 0, rfl, rfl, hr, ER.nil _ _ _, lr_nil _, hb⟩
        · rintro e w' ⟨vo, vc, rfl, hr, hb⟩
          exact ⟨_, _, rfl, vo, vc, none, 0, none, 0, rfl, rfl, hr, ER.nil _ _ _, lr_nil _, hb⟩
      · exact ⟨noTl, ⟨fun w ao cap h => (decode_one_bad w ao n cap _ h (by omega) _ hk (fun ys hy => by cases hy; omega) (fun h => hg h.2)).mono (fun _ _ h => no h), fun w ao cap h => (refDec_one_bad w ao n cap x t h (by omega) h1 hg).mono (fun _ _ h => no2 h)⟩, by decide, .inr ⟨rfl, rfl⟩⟩
    · by_cases h2 : x.toNat = 2
      · have hk := kind_is 2 x t h2 (by omega)
        have few := decS_few t
        have hmx : (t.length : Int) + 1 ≤ mx := by unfold mx; omega
        have hmx2 : mx < 18446744073709551616 := by unfold mx; omega
        by_cases hg : goodS (decS (some t))
        · have hsame : decSL (n : Int) (some t) = decS (some t) := good_same (L := mx) (by omega) (by omega) hg
          refine ⟨⟨2, (0, 0, 0, 0), [], (decS (some t)).1.es, (decS (some t)).1.ls, ((decS (some t)).1.nx : Nat), (decS (some t)).1.hn, ((decS (some t)).1.hp : Nat), 0⟩, ⟨fun w ao cap h => (decode_all_good w ao n cap _ h (by omega) _ hk (fun ys hy => by cases hy; omega) (by omega) (by omega) ⟨hg.2, hg.1⟩).mono ?_, fun w ao cap h => (refDec_all w ao n cap x t h hn h2).mono ?_⟩, (show (2 : Nat) < 256 by omega), .inl ⟨rfl, (show 0 < (2 : Nat) by omega)⟩⟩
          · rintro e w' ⟨ca, cc, oa, oc, rfl, hE, hL, _, _, hb⟩
            exact ⟨_, _, rfl, none, 0, ca, cc, oa, oc, rfl, rfl, row_nil _, hE.mono (fun _ _ => trivial), hL, hb⟩
          · rintro e w' ⟨h, hb⟩
            rw [hsame] at h
            rcases h with ⟨_, ca, cc, oa, oc, rfl, hE, hL⟩ | ⟨h, _⟩
            · exact ⟨_, _, rfl, none, 0, ca, cc, oa, oc, rfl, rfl, row_nil _, hE, hL, hb⟩
            · exact absurd hg h
        · refine ⟨noTl, ⟨fun w ao cap h => (decode_all_bad w ao n cap _ h (by omega) _ hk (fun ys hy => by cases hy; omega) (by omega) (by omega) (fun h => hg ⟨h.2, h.1⟩)).mono (fun _ _ h => no h), fun w ao cap h => (refDec_all w ao n cap x t h hn h2).mono ?_⟩, by decide, .inr ⟨rfl, rfl⟩⟩
          rintro e w' ⟨h, hb⟩
          rcases h with ⟨h, _⟩ | ⟨_, h⟩
          · exact absurd (by rw [decS_is, good_same (L := (n : Int)) hmx hmx2 h]; exact h) hg
          · exact no2 ⟨h, hb⟩
      · obtain ⟨st, hk⟩ := kind_other x t h1 h2
        exact ⟨noTl, ⟨fun w ao cap h => (decode_none w ao n cap _ h (by omega) st hk).mono (fun _ _ h => no h), fun w ao cap h => (refDec_no w ao n cap x t h h1 h2).mono (fun _ _ h => no2 h)⟩, by decide, .inr ⟨rfl, rfl⟩⟩
end Go.Proofs.Ytpdgoalbknopiaa
