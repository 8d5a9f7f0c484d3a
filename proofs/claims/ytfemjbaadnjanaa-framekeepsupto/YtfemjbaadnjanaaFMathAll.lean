/-
  Plain mathematics of frames as bytes: what is written is read, and nothing else is.
  Plain mathematics of frames as bytes: which frames are right; a right frame's bytes are read as it, and bytes that are read as a frame are its.
  Plain mathematics of frames as bytes: bytes that are read as a frame are its; bytes that are laid one behind the other.
-/
import Derived.Test.YtfemjbaadnjanaaJAll
import Derived.Test.YtfemjbaadnjanaaCdAll
namespace Go.Proofs.Ytfemjbaadnjanaa
set_option linter.unusedVariables false

abbrev St := Option (List UInt8)
/-- A state: its view's number, its floor, its items. -/
abbrev Sd := Nat × Int × Int × List Di
/-- A frame. -/
structure PF where
  kind : Nat
  frm : Int
  idN : Nat
  idP : Int
  set : Nat
  curN : Nat
  curP : Int
  promN : Nat
  promP : Int
  st : List Sd
  base : Nat
  ms : List (List UInt8)
  it : List Di
  ack : Nat
  safe : Nat
def zeroF : PF := ⟨0, 0, 0, 0, 0, 0, 0, 0, 0, [], 0, [], [], 0, 0⟩

def encM (m : List UInt8) : List UInt8 := Cd.enc m.length ++ m
def encI (d : Di) : List UInt8 := pb d.1 :: encM d.2
def encV (n : Nat) (p : Int) : List UInt8 := Cd.enc n ++ [pb p]
def encL {α : Type} (en : α → List UInt8) (l : List α) : List UInt8 := Cd.enc l.length ++ l.flatMap en
def encS (s : Sd) : List UInt8 := encV s.1 s.2.1 ++ (Cd.enc s.2.2.1.toNat ++ encL encI s.2.2.2)
def body (F : PF) : List UInt8 :=
  if F.kind = 1 then encV F.curN F.curP ++ encV F.promN F.promP
  else if F.kind = 2 then Cd.enc F.set
  else if F.kind = 3 then encL encS F.st
  else if F.kind = 4 then encV F.promN F.promP
  else if F.kind = 5 then Cd.enc F.set ++ encL encS F.st
  else if F.kind = 6 then Cd.enc F.base ++ (Cd.enc F.ack ++ encL encM F.ms)
  else if F.kind = 7 then Cd.enc F.base ++ (Cd.enc F.ack ++ (Cd.enc F.safe ++ encL encI F.it))
  else []
def headV (F : PF) : List UInt8 := if F.kind = 1 then [] else encV F.idN F.idP
def wire (F : PF) : List UInt8 := [UInt8.ofNat F.kind, pb F.frm] ++ (headV F ++ body F)

/-! ### Reading -/
def rItem (st : St) : Di × St := ((((Cd.rInt st 15).1 : Nat), (Cd.rBytes (Cd.rInt st 15).2 1048576).1), (Cd.rBytes (Cd.rInt st 15).2 1048576).2)
def rMsg (st : St) : List UInt8 × St := Cd.rBytes st 1048576
def rList {α : Type} (r : St → α × St) : Nat → St → List α × St
  | 0, st => ([], st)
  | k + 1, st => match (r st).2 with
    | none => ([], none)
    | some ys => match (rList r k (some ys)).2 with
      | none => ([], none)
      | some zs => ((r st).1 :: (rList r k (some ys)).1, some zs)
def rMany {α : Type} (r : St → α × St) (st : St) : List α × St := rList r (Cd.rInt st 4096).1 (Cd.rInt st 4096).2
def rFloor (m : Int) (st : St) : Nat × St := Cd.rInt (decV st).2 m
def rState (m : Int) (st : St) : Sd × St :=
  (((decV st).1.1, ((decV st).1.2 : Nat), ((rFloor m st).1 : Nat), (rMany rItem (rFloor m st).2).1), (rMany rItem (rFloor m st).2).2)
def rBody (m : Int) (F : PF) (st : St) : PF × St :=
  if F.kind = 1 then ({ F with curN := (decV st).1.1, curP := ((decV st).1.2 : Nat), promN := (decV (decV st).2).1.1, promP := ((decV (decV st).2).1.2 : Nat) }, (decV (decV st).2).2)
  else if F.kind = 2 then ({ F with set := (Cd.rInt st 65535).1 }, (Cd.rInt st 65535).2)
  else if F.kind = 3 then ({ F with st := (rMany (rState m) st).1 }, (rMany (rState m) st).2)
  else if F.kind = 4 then ({ F with promN := (decV st).1.1, promP := ((decV st).1.2 : Nat) }, (decV st).2)
  else if F.kind = 5 then ({ F with set := (Cd.rInt st 65535).1, st := (rMany (rState m) (Cd.rInt st 65535).2).1 }, (rMany (rState m) (Cd.rInt st 65535).2).2)
  else if F.kind = 6 then ({ F with base := (Cd.rUint st).1, ack := (Cd.rUint (Cd.rUint st).2).1, ms := (rMany rMsg (Cd.rUint (Cd.rUint st).2).2).1 }, (rMany rMsg (Cd.rUint (Cd.rUint st).2).2).2)
  else if F.kind = 7 then ({ F with base := (Cd.rUint st).1, ack := (Cd.rUint (Cd.rUint st).2).1, safe := (Cd.rUint (Cd.rUint (Cd.rUint st).2).2).1, it := (rMany rItem (Cd.rUint (Cd.rUint (Cd.rUint st).2).2).2).1 }, (rMany rItem (Cd.rUint (Cd.rUint (Cd.rUint st).2).2).2).2)
  else (F, st)
def rHead (st : St) : PF × St := ({ zeroF with kind := (Cd.rInt st 7).1, frm := ((Cd.rInt (Cd.rInt st 7).2 15).1 : Nat) }, (Cd.rInt (Cd.rInt st 7).2 15).2)
def rIdent (F : PF) (st : St) : PF × St := if F.kind = 1 then (F, st) else ({ F with idN := (decV st).1.1, idP := ((decV st).1.2 : Nat) }, (decV st).2)
def rFrame (m : Int) (st : St) : PF × St := rBody m (rIdent (rHead st).1 (rHead st).2).1 (rIdent (rHead st).1 (rHead st).2).2

/-! ### Strictness: what is read is what is written -/
theorem rdF_strict : ∀ (xs : List UInt8) (i acc n s : Nat), i ≤ 9 → Cd.rdF i acc xs = some (n, s) →
    ∃ ys x t, xs = ys ++ x :: t ∧ (∀ y ∈ ys, 128 ≤ y.toNat) ∧ x.toNat < 128 ∧ (x.toNat ≠ 0 ∨ (ys = [] ∧ i = 0)) ∧ s = i + ys.length + 1 ∧ n = acc + Cd.val (ys ++ [x]) * 128 ^ i ∧ i + ys.length ≤ 9
  | [], i, acc, n, s, hi, h => by simp [Cd.rdF] at h
  | x :: t, i, acc, n, s, hi, h => by
    rw [Cd.rdF] at h
    by_cases h9 : i = 9 ∧ 1 < x.toNat
    · rw [if_pos h9] at h; cases h
    · rw [if_neg h9] at h
      by_cases h1 : 128 ≤ x.toNat
      · rw [if_pos h1] at h
        have hi8 : i + 1 ≤ 9 := by
          by_cases e : i = 9
          · exact absurd ⟨e, by omega⟩ h9
          · omega
        obtain ⟨ys, y, t', rfl, a, b, c, rfl, rfl, d⟩ := rdF_strict t (i + 1) _ n s hi8 h
        refine ⟨x :: ys, y, t', rfl, ?_, b, ?_, by simp only [List.length_cons]; omega, ?_, by simp only [List.length_cons]; omega⟩
        · intro z hz
          rcases List.mem_cons.1 hz with rfl | hz
          · exact h1
          · exact a z hz
        · rcases c with c | c
          · exact .inl c
          · omega
        · simp only [List.cons_append, Cd.val, Nat.pow_succ]
          rw [Nat.add_mul, Nat.add_assoc]
          congr 1
          rw [Nat.mul_comm 128 (Cd.val _), Nat.mul_assoc, Nat.mul_comm 128 (128 ^ i)]
      · rw [if_neg h1] at h
        by_cases h0 : x.toNat = 0 ∧ 0 < i
        · rw [if_pos h0] at h; cases h
        · rw [if_neg h0] at h
          simp only [Option.some.injEq, Prod.mk.injEq] at h
          refine ⟨[], x, t, rfl, by simp, by omega, ?_, by simp; omega, ?_, by simpa using hi⟩
          · by_cases e : x.toNat = 0
            · exact .inr ⟨rfl, by omega⟩
            · exact .inl e
          · simp only [List.nil_append, Cd.val, Nat.mul_zero, Nat.add_zero]
            exact h.1.symm
theorem rd_strict {xs : List UInt8} {n s : Nat} (h : Cd.rd xs = some (n, s)) : xs = Cd.enc n ++ xs.drop s := by
  obtain ⟨ys, x, t, rfl, a, b, c, rfl, rfl, d⟩ := rdF_strict xs 0 0 n s (by omega) h
  have e := Cd.enc_val ys x 9 a b (by rcases c with c | c; exact .inl c; exact .inr c.1) (by omega)
  have e2 : Cd.enc (0 + Cd.val (ys ++ [x]) * 128 ^ 0) = ys ++ [x] := by simpa [Cd.enc] using e
  rw [e2]
  simp [List.drop_append]

theorem rUint_none : Cd.rUint none = (0, none) := rfl
theorem rInt_none (m : Int) : Cd.rInt none m = (0, none) := rfl
theorem rUint_back (n : Nat) (t : List UInt8) (h : n < 18446744073709551616) : Cd.rUint (some (Cd.enc n ++ t)) = (n, some t) := by
  simp only [Cd.rUint, Cd.rd_enc n t h]
  simp
theorem rUint_strict {xs ys : List UInt8} {n : Nat} (h : Cd.rUint (some xs) = (n, some ys)) : xs = Cd.enc n ++ ys ∧ n < 18446744073709551616 := by
  simp only [Cd.rUint] at h
  cases hr : Cd.rd xs with
  | none => rw [hr] at h; simp at h
  | some p =>
    obtain ⟨k, s⟩ := p
    rw [hr] at h
    simp only [Prod.mk.injEq, Option.some.injEq] at h
    obtain ⟨rfl, rfl⟩ := h
    exact ⟨rd_strict hr, Cd.rd_lt hr⟩
theorem rInt_back (n : Nat) (t : List UInt8) (m : Int) (h : n < 18446744073709551616) (hm : (n : Int) ≤ m) : Cd.rInt (some (Cd.enc n ++ t)) m = (n, some t) := by
  simp only [Cd.rInt, rUint_back n t h]
  rw [if_neg (by omega)]
theorem rInt_strict {xs ys : List UInt8} {n : Nat} {m : Int} (h : Cd.rInt (some xs) m = (n, some ys)) : xs = Cd.enc n ++ ys ∧ (n : Int) ≤ m ∧ n < 18446744073709551616 := by
  simp only [Cd.rInt] at h
  cases hu : (Cd.rUint (some xs)).2 with
  | none => rw [hu] at h; simp at h
  | some zs =>
    rw [hu] at h
    simp only at h
    by_cases hc : m < 0 ∨ m < ((Cd.rUint (some xs)).1 : Int)
    · rw [if_pos hc] at h; simp at h
    · rw [if_neg hc] at h
      simp only [Prod.mk.injEq, Option.some.injEq] at h
      obtain ⟨rfl, rfl⟩ := h
      have := rUint_strict (xs := xs) (ys := zs) (n := (Cd.rUint (some xs)).1) (by rw [← hu])
      exact ⟨this.1, by omega, this.2⟩
theorem rInt_some {st : St} {m : Int} {ys : List UInt8} (h : (Cd.rInt st m).2 = some ys) : ∃ xs, st = some xs ∧ xs = Cd.enc (Cd.rInt st m).1 ++ ys ∧ ((Cd.rInt st m).1 : Int) ≤ m ∧ (Cd.rInt st m).1 < 18446744073709551616 := by
  cases st with
  | none => cases h
  | some xs => exact ⟨xs, rfl, rInt_strict (by rw [← h])⟩
theorem rUint_some {st : St} {ys : List UInt8} (h : (Cd.rUint st).2 = some ys) : ∃ xs, st = some xs ∧ xs = Cd.enc (Cd.rUint st).1 ++ ys ∧ (Cd.rUint st).1 < 18446744073709551616 := by
  cases st with
  | none => cases h
  | some xs => exact ⟨xs, rfl, rUint_strict (by rw [← h])⟩
theorem enc_small (n : Nat) (h : n < 128) : Cd.enc n = [UInt8.ofNat n] := Cd.encF_small 9 n h
theorem pb_nat (n : Nat) : pb (n : Int) = UInt8.ofNat n := by simp [pb]

theorem rBytes_back (m : List UInt8) (t : List UInt8) (h : m.length ≤ 1048576) : rMsg (some (encM m ++ t)) = (m, some t) := by
  unfold rMsg encM Cd.rBytes
  rw [List.append_assoc, rInt_back m.length (m ++ t) 1048576 (by omega) (by omega)]
  simp
theorem rMsg_some {st : St} {ys : List UInt8} (h : (rMsg st).2 = some ys) : ∃ xs, st = some xs ∧ xs = encM (rMsg st).1 ++ ys ∧ (rMsg st).1.length ≤ 1048576 := by
  unfold rMsg Cd.rBytes at *
  cases hi : (Cd.rInt st 1048576).2 with
  | none => rw [hi] at h; cases h
  | some zs =>
    rw [hi] at h
    simp only at h ⊢
    obtain ⟨xs, rfl, hx, hle, hlt⟩ := rInt_some hi
    by_cases hc : zs.length < (Cd.rInt (some xs) 1048576).1
    · rw [if_pos hc] at h; cases h
    · rw [if_neg hc] at h ⊢
      simp only [Option.some.injEq] at h
      subst h
      refine ⟨xs, rfl, ?_, by simp; omega⟩
      unfold encM
      simp only [List.length_take]
      rw [Nat.min_eq_left (by omega), List.append_assoc, List.take_append_drop]
      exact hx
theorem rItem_back (d : Di) (t : List UInt8) (h : okF d.1 = true) (hl : d.2.length ≤ 1048576) : rItem (some (encI d ++ t)) = (d, some t) := by
  obtain ⟨f, m⟩ := d
  simp only [okF, Bool.and_eq_true, decide_eq_true_eq] at h
  obtain ⟨n, rfl⟩ : ∃ n : Nat, f = n := ⟨f.toNat, by omega⟩
  have e : encI ((n : Int), m) ++ t = Cd.enc n ++ (encM m ++ t) := by
    unfold encI
    rw [enc_small n (by omega), pb_nat]
    rfl
  unfold rItem
  rw [e, rInt_back n _ 15 (by omega) (by omega)]
  have := rBytes_back m t hl
  unfold rMsg at this
  simp only [this]
theorem rItem_some {st : St} {ys : List UInt8} (h : (rItem st).2 = some ys) : ∃ xs, st = some xs ∧ xs = encI (rItem st).1 ++ ys ∧ okF (rItem st).1.1 = true ∧ (rItem st).1.2.length ≤ 1048576 := by
  have h' : (rMsg (Cd.rInt st 15).2).2 = some ys := h
  obtain ⟨zs, hz, hx, hl⟩ := rMsg_some h'
  obtain ⟨xs, rfl, hx2, hle, _⟩ := rInt_some hz
  refine ⟨xs, rfl, ?_, ?_, hl⟩
  · refine hx2.trans ?_
    rw [enc_small _ (by omega), hx]
    show _ = pb ((Cd.rInt (some xs) 15).1 : Nat) :: _ ++ ys
    rw [pb_nat]
    rfl
  · have e : (rItem (some xs)).1.1 = ((Cd.rInt (some xs) 15).1 : Nat) := rfl
    rw [e]
    simp only [okF, Bool.and_eq_true, decide_eq_true_eq]
    omega

/-! ### Lists -/
theorem rList_back {α : Type} {r : St → α × St} {en : α → List UInt8} : ∀ (l : List α) (t : List UInt8), (∀ x ∈ l, ∀ t, r (some (en x ++ t)) = (x, some t)) → rList r l.length (some (l.flatMap en ++ t)) = (l, some t)
  | [], t, _ => rfl
  | x :: l, t, h => by
    have h1 := h x (by simp) (l.flatMap en ++ t)
    have ih := rList_back l t (fun y hy => h y (by simp [hy]))
    simp only [List.length_cons, List.flatMap_cons, List.append_assoc, rList, h1, ih]
theorem rMany_back {α : Type} {r : St → α × St} {en : α → List UInt8} (l : List α) (t : List UInt8) (hl : l.length ≤ 4096) (h : ∀ x ∈ l, ∀ t, r (some (en x ++ t)) = (x, some t)) : rMany r (some (encL en l ++ t)) = (l, some t) := by
  unfold rMany encL
  rw [List.append_assoc, rInt_back l.length _ 4096 (by omega) (by omega)]
  exact rList_back l t h
theorem rList_some {α : Type} {r : St → α × St} {en : α → List UInt8} {P : α → Prop} (hr : ∀ st ys, (r st).2 = some ys → ∃ xs, st = some xs ∧ xs = en (r st).1 ++ ys ∧ P (r st).1) :
    ∀ (k : Nat) (st : St) (ys : List UInt8), (rList r k st).2 = some ys → ∃ xs, st = some xs ∧ xs = (rList r k st).1.flatMap en ++ ys ∧ (rList r k st).1.length = k ∧ ∀ x ∈ (rList r k st).1, P x
  | 0, st, ys, h => by simp only [rList] at h ⊢; exact ⟨ys, h, by simp, rfl, by simp⟩
  | k + 1, st, ys, h => by
    rw [rList] at h ⊢
    cases h1 : (r st).2 with
    | none => rw [h1] at h; cases h
    | some us =>
      rw [h1] at h
      simp only at h ⊢
      cases h2 : (rList r k (some us)).2 with
      | none => rw [h2] at h; cases h
      | some bs =>
        rw [h2] at h
        simp only [Option.some.injEq] at h ⊢
        subst h
        obtain ⟨xs, rfl, hx, hp⟩ := hr st us h1
        obtain ⟨us', e, hx2, hl, hP⟩ := rList_some hr k (some us) bs h2
        simp only [Option.some.injEq] at e
        subst e
        refine ⟨xs, rfl, ?_, by simp [hl], ?_⟩
        · rw [List.flatMap_cons, List.append_assoc, ← hx2]
          exact hx
        · intro x hx
          rcases List.mem_cons.1 hx with rfl | hx
          · exact hp
          · exact hP x hx
theorem rMany_some {α : Type} {r : St → α × St} {en : α → List UInt8} {P : α → Prop} (hr : ∀ st ys, (r st).2 = some ys → ∃ xs, st = some xs ∧ xs = en (r st).1 ++ ys ∧ P (r st).1) {st : St} {ys : List UInt8} (h : (rMany r st).2 = some ys) :
    ∃ xs, st = some xs ∧ xs = encL en (rMany r st).1 ++ ys ∧ (rMany r st).1.length ≤ 4096 ∧ ∀ x ∈ (rMany r st).1, P x := by
  unfold rMany at *
  obtain ⟨zs, hz, hx, hl, hP⟩ := rList_some hr _ _ _ h
  obtain ⟨xs, rfl, hx2, hle, _⟩ := rInt_some hz
  refine ⟨xs, rfl, ?_, by rw [hl]; omega, hP⟩
  unfold encL
  rw [hl, List.append_assoc, ← hx]
  exact hx2

/-! ### Views' numbers, states, frames -/
theorem formV_p' {n : Nat} {p : Int} (h : formV n p = true) : 0 ≤ p ∧ p ≤ 15 := by
  unfold formV at h
  simp only [Bool.and_eq_true, decide_eq_true_eq] at h
  by_cases h0 : n = 0
  · rw [if_pos h0] at h; omega
  · rw [if_neg h0] at h; omega
theorem decV_back (n : Nat) (p : Int) (t : List UInt8) (h : formV n p = true) (hn : n < 18446744073709551616) : ∃ q : Nat, p = q ∧ decV (some (encV n p ++ t)) = ((n, q), some t) := by
  have h15 := formV_p' h
  obtain ⟨q, rfl⟩ : ∃ q : Nat, p = q := ⟨p.toNat, by omega⟩
  refine ⟨q, rfl, ?_⟩
  have e : encV n (q : Int) ++ t = Cd.enc n ++ (Cd.enc q ++ t) := by
    unfold encV
    rw [enc_small q (by omega), pb_nat, List.append_assoc]
  unfold formV at h
  simp only [Bool.and_eq_true, decide_eq_true_eq] at h
  unfold decV
  rw [e, rUint_back n _ hn]
  simp only
  rw [rInt_back q t _ (by omega) h.2]
theorem decV_some {st : St} {ys : List UInt8} (h : (decV st).2 = some ys) : ∃ xs, st = some xs ∧ xs = encV (decV st).1.1 ((decV st).1.2 : Nat) ++ ys ∧ formV (decV st).1.1 ((decV st).1.2 : Nat) = true ∧ (decV st).1.1 < 18446744073709551616 := by
  unfold decV at *
  cases hi : (Cd.rInt (Cd.rUint st).2 (if (Cd.rUint st).1 = 0 then 0 else 15)).2 with
  | none => rw [hi] at h; cases h
  | some zs =>
    rw [hi] at h
    simp only [Option.some.injEq] at h ⊢
    subst h
    obtain ⟨us, ha, hx, hle, _⟩ := rInt_some hi
    obtain ⟨xs, rfl, hx2, hlt⟩ := rUint_some ha
    generalize hq : (Cd.rInt (Cd.rUint (some xs)).2 (if (Cd.rUint (some xs)).1 = 0 then 0 else 15)).1 = q at *
    have hq15 : q ≤ 15 := by
      by_cases e : (Cd.rUint (some xs)).1 = 0
      · rw [if_pos e] at hle; omega
      · rw [if_neg e] at hle; omega
    refine ⟨xs, rfl, ?_, ?_, hlt⟩
    · unfold encV
      rw [pb_nat, List.append_assoc, ← enc_small q (by omega), ← hx]
      exact hx2
    · unfold formV
      simp only [Bool.and_eq_true, decide_eq_true_eq]
      exact ⟨by omega, hle⟩

/-- What a state must be. -/
def okSt (s : Sd) : Prop := formV s.1 s.2.1 = true ∧ s.1 < 18446744073709551616 ∧ 0 ≤ s.2.2.1 ∧ s.2.2.2.length ≤ 4096 ∧ ∀ d ∈ s.2.2.2, okF d.1 = true ∧ d.2.length ≤ 1048576
theorem rState_back (m : Int) (s : Sd) (t : List UInt8) (h : okSt s) (hm : s.2.2.1 ≤ m) (hm2 : m < 18446744073709551616) : rState m (some (encS s ++ t)) = (s, some t) := by
  obtain ⟨n, p, f, l⟩ := s
  obtain ⟨h1, h2, h3, h4, h5⟩ := h
  simp only at *
  obtain ⟨k, rfl⟩ : ∃ k : Nat, f = k := ⟨f.toNat, by omega⟩
  have e : encS (n, p, (k : Int), l) ++ t = encV n p ++ (Cd.enc k ++ (encL encI l ++ t)) := by
    unfold encS
    simp
  obtain ⟨q, rfl, hd⟩ := decV_back n p (Cd.enc k ++ (encL encI l ++ t)) h1 h2
  have hl := rMany_back (r := rItem) l t h4 (fun d hd t => rItem_back d t (h5 d hd).1 (h5 d hd).2)
  have hk := rInt_back k (encL encI l ++ t) m (by omega) hm
  unfold rState rFloor
  rw [e, hd]
  simp only [hk, hl]
theorem rState_some {m : Int} {st : St} {ys : List UInt8} (h : (rState m st).2 = some ys) : ∃ xs, st = some xs ∧ xs = encS (rState m st).1 ++ ys ∧ (okSt (rState m st).1 ∧ (rState m st).1.2.2.1 ≤ m) := by
  have h' : (rMany rItem (rFloor m st).2).2 = some ys := h
  obtain ⟨us, ha, hx, hl, hP⟩ := rMany_some (r := rItem) (en := encI) (P := fun d => okF d.1 = true ∧ d.2.length ≤ 1048576) (fun st ys h => rItem_some h) h'
  have ha' : (Cd.rInt (decV st).2 m).2 = some us := ha
  obtain ⟨bs, hb, hx2, hle, _⟩ := rInt_some ha'
  obtain ⟨xs, rfl, hx3, hf, hlt⟩ := decV_some hb
  refine ⟨xs, rfl, ?_, ⟨hf, hlt, by simp [rState], hl, hP⟩, hle⟩
  unfold rState encS rFloor
  simp only [Int.toNat_natCast, List.append_assoc]
  unfold rFloor at hx
  rw [← hx, ← hx2]
  exact hx3
end Go.Proofs.Ytfemjbaadnjanaa
namespace Go.Proofs.Ytfemjbaadnjanaa
set_option linter.unusedVariables false
set_option linter.unusedSimpArgs false

/-- Is a state right? -/
def formS (s : Sd) : Bool := formV s.1 s.2.1 && decide (0 ≤ s.2.2.1) && decide (s.2.2.1 ≤ 1073741824) && (decide (0 < s.1) || (decide (s.2.2.1 = 0) && decide (s.2.2.2.length = 0))) && s.2.2.2.all (fun d => okF d.1)
def stOk (s : Sd) : Bool := decide (s.2.2.2.length ≤ 4096) && formS s
def itsB (l : List Di) : Bool := decide (l.length ≤ 4096) && l.all (fun d => okF d.1)
def numsB (F : PF) : Bool := (decide (F.kind = 1) || !decide (F.idN = 0)) && (formV F.idN F.idP && formV F.curN F.curP && formV F.promN F.promP)
def listsB (F : PF) : Bool := (!decide (F.kind = 3) || decide (F.st.length = 1)) && (decide (F.st.length ≤ 4096) && decide (F.ms.length ≤ 4096) && itsB F.it) && F.st.all stOk
def zeroB (F : PF) : Bool := decide (F.kind = 0) && decide (F.frm = 0) && decide (F.set = 0) && decide (F.base = 0) && decide (F.ack = 0) && decide (F.safe = 0) && (decide (F.idN = 0 ∧ F.idP = 0) && decide (F.curN = 0 ∧ F.curP = 0) && decide (F.promN = 0 ∧ F.promP = 0)) && decide (F.st.length = 0) && decide (F.ms.length = 0) && decide (F.it.length = 0)
/-- The frame without what its kind names. -/
def unn (F : PF) : PF :=
  if F.kind = 1 then { F with kind := 0, frm := 0, curN := 0, curP := 0, promN := 0, promP := 0 }
  else if F.kind = 2 then { F with kind := 0, frm := 0, idN := 0, idP := 0, set := 0 }
  else if F.kind = 3 then { F with kind := 0, frm := 0, idN := 0, idP := 0, st := [] }
  else if F.kind = 4 then { F with kind := 0, frm := 0, idN := 0, idP := 0, promN := 0, promP := 0 }
  else if F.kind = 5 then { F with kind := 0, frm := 0, idN := 0, idP := 0, set := 0, st := [] }
  else if F.kind = 6 then { F with kind := 0, frm := 0, idN := 0, idP := 0, base := 0, ms := [], ack := 0 }
  else if F.kind = 7 then { F with kind := 0, frm := 0, idN := 0, idP := 0, base := 0, it := [], ack := 0, safe := 0 }
  else zeroF
def knownB (F : PF) : Bool := decide (1 ≤ F.kind) && decide (F.kind ≤ 7)
def rightF (F : PF) : Bool := okF F.frm && numsB F && listsB F && (knownB F && zeroB (unn F))

def In64 (a : Int) : Prop := -9223372036854775808 ≤ a ∧ a ≤ 9223372036854775807
/-- Numbers that a frame's cells can hold. -/
structure POk (F : PF) : Prop where
  kind : F.kind < 256
  frm : In64 F.frm
  idN : F.idN < 18446744073709551616
  idP : In64 F.idP
  set : F.set < 65536
  curN : F.curN < 18446744073709551616
  curP : In64 F.curP
  promN : F.promN < 18446744073709551616
  promP : In64 F.promP
  st : ∀ s ∈ F.st, s.1 < 18446744073709551616 ∧ In64 s.2.1 ∧ In64 s.2.2.1
  base : F.base < 18446744073709551616
  ack : F.ack < 18446744073709551616
  safe : F.safe < 18446744073709551616
/-- Messages that are not too long. -/
structure Sm (F : PF) : Prop where
  st : ∀ s ∈ F.st, ∀ d ∈ s.2.2.2, d.2.length ≤ 1048576
  ms : ∀ m ∈ F.ms, m.length ≤ 1048576
  it : ∀ d ∈ F.it, d.2.length ≤ 1048576

theorem stOk_ok {s : Sd} (h : stOk s = true) (h1 : s.1 < 18446744073709551616) (h2 : ∀ d ∈ s.2.2.2, d.2.length ≤ 1048576) : okSt s ∧ s.2.2.1 ≤ 1073741824 := by
  unfold stOk formS at h
  simp only [Bool.and_eq_true, decide_eq_true_eq, List.all_eq_true] at h
  obtain ⟨a, ⟨⟨⟨b, c⟩, d⟩, _⟩, e⟩ := h
  exact ⟨⟨b, h1, c, a, fun x hx => ⟨e x hx, h2 x hx⟩⟩, d⟩

theorem rHead_back (F : PF) (t : List UInt8) (hk : F.kind ≤ 7) (hf : okF F.frm = true) : rHead (some ([UInt8.ofNat F.kind, pb F.frm] ++ t)) = ({ zeroF with kind := F.kind, frm := F.frm }, some t) := by
  simp only [okF, Bool.and_eq_true, decide_eq_true_eq] at hf
  obtain ⟨q, hq⟩ : ∃ q : Nat, F.frm = q := ⟨F.frm.toNat, by omega⟩
  rw [hq]
  have e : [UInt8.ofNat F.kind, pb (q : Int)] ++ t = Cd.enc F.kind ++ (Cd.enc q ++ t) := by
    rw [enc_small q (by omega), enc_small F.kind (by omega), pb_nat]
    rfl
  unfold rHead
  rw [e, rInt_back F.kind _ 7 (by omega) (by omega)]
  simp only [rInt_back q t 15 (by omega) (by omega)]

theorem known_cases {F : PF} (h : knownB F = true) : F.kind = 1 ∨ F.kind = 2 ∨ F.kind = 3 ∨ F.kind = 4 ∨ F.kind = 5 ∨ F.kind = 6 ∨ F.kind = 7 := by
  simp only [knownB, Bool.and_eq_true, decide_eq_true_eq] at h
  omega

set_option maxHeartbeats 1000000 in
/-- A right frame's bytes are read as it. -/
theorem rFrame_back (m : Int) (F : PF) (t : List UInt8) (h : rightF F = true) (ho : POk F) (hs : Sm F) (hm : 1073741824 ≤ m) (hm2 : m < 18446744073709551616) : rFrame m (some (wire F ++ t)) = (F, some t) := by
  obtain ⟨_, _, hidN, _, hset, hcurN, _, hpromN, _, hst, hbase, hack, hsafe⟩ := ho
  obtain ⟨hss, hsm, hsi⟩ := hs
  unfold rightF at h
  simp only [Bool.and_eq_true] at h
  obtain ⟨⟨⟨hf, hn⟩, hl⟩, hkn, hz⟩ := h
  have hk := known_cases hkn
  have hH := rHead_back F (headV F ++ (body F ++ t)) (by omega) hf
  unfold numsB at hn
  simp only [Bool.and_eq_true] at hn
  obtain ⟨_, ⟨hfi, hfc⟩, hfp⟩ := hn
  unfold listsB itsB at hl
  simp only [Bool.and_eq_true, decide_eq_true_eq] at hl
  obtain ⟨⟨_, ⟨hl1, hl2⟩, hl3, hl4⟩, hl5⟩ := hl
  have hS : ∀ s ∈ F.st, ∀ t, rState m (some (encS s ++ t)) = (s, some t) := fun s hs' t => by
    have := stOk_ok (List.all_eq_true.1 hl5 s hs') (hst s hs').1 (hss s hs')
    exact rState_back m s t this.1 (by omega) hm2
  have hI : ∀ d ∈ F.it, ∀ t, rItem (some (encI d ++ t)) = (d, some t) := fun d hd t => rItem_back d t (List.all_eq_true.1 hl4 d hd) (hsi d hd)
  have hM : ∀ m ∈ F.ms, ∀ t, rMsg (some (encM m ++ t)) = (m, some t) := fun m hm' t => rBytes_back m t (hsm m hm')
  obtain ⟨kind, frm, idN, idP, set, curN, curP, promN, promP, st, base, ms, it, ack, safe⟩ := F
  simp only at *
  unfold wire
  rw [List.append_assoc, List.append_assoc]
  unfold rFrame
  rw [hH]
  unfold unn zeroB at hz
  simp only [Bool.and_eq_true, decide_eq_true_eq, List.length_eq_zero_iff] at hz
  have hLS := fun t => rMany_back (en := encS) st t hl1 hS
  have hLI := fun t => rMany_back (en := encI) it t hl3 hI
  have hLM := fun t => rMany_back (en := encM) ms t hl2 hM
  obtain ⟨qi, rfl, hdi⟩ : ∃ q : Nat, idP = q ∧ ∀ t, decV (some (encV idN idP ++ t)) = ((idN, q), some t) := by
    obtain ⟨q, rfl, _⟩ := decV_back idN idP [] hfi hidN
    exact ⟨q, rfl, fun t => by obtain ⟨q', hq', h⟩ := decV_back idN q t hfi hidN; rw [show q = q' by omega]; rw [show q = q' by omega] at h; exact h⟩
  obtain ⟨qc, rfl, hdc⟩ : ∃ q : Nat, curP = q ∧ ∀ t, decV (some (encV curN curP ++ t)) = ((curN, q), some t) := by
    obtain ⟨q, rfl, _⟩ := decV_back curN curP [] hfc hcurN
    exact ⟨q, rfl, fun t => by obtain ⟨q', hq', h⟩ := decV_back curN q t hfc hcurN; rw [show q = q' by omega]; rw [show q = q' by omega] at h; exact h⟩
  obtain ⟨qp, rfl, hdp⟩ : ∃ q : Nat, promP = q ∧ ∀ t, decV (some (encV promN promP ++ t)) = ((promN, q), some t) := by
    obtain ⟨q, rfl, _⟩ := decV_back promN promP [] hfp hpromN
    exact ⟨q, rfl, fun t => by obtain ⟨q', hq', h⟩ := decV_back promN q t hfp hpromN; rw [show q = q' by omega]; rw [show q = q' by omega] at h; exact h⟩
  clear hH hS hI hM hfi hfc hfp
  rcases hk with rfl | rfl | rfl | rfl | rfl | rfl | rfl
  · simp at hz
    obtain ⟨⟨⟨⟨⟨⟨⟨rfl, rfl⟩, rfl⟩, rfl⟩, rfl, hz1⟩, rfl⟩, rfl⟩, rfl⟩ := hz
    obtain rfl : qi = 0 := by omega
    simp [rIdent, rBody, headV, body, List.append_assoc, hdc, hdp, zeroF]
  · simp at hz
    obtain ⟨⟨⟨⟨⟨⟨rfl, rfl⟩, rfl⟩, ⟨rfl, hz1⟩, rfl, hz2⟩, rfl⟩, rfl⟩, rfl⟩ := hz
    obtain rfl : qc = 0 := by omega
    obtain rfl : qp = 0 := by omega
    simp [rIdent, rBody, headV, body, List.append_assoc, hdi, zeroF, rInt_back set t 65535 (by omega) (by omega)]
  · simp at hz
    obtain ⟨⟨⟨⟨⟨⟨rfl, rfl⟩, rfl⟩, rfl⟩, ⟨rfl, hz1⟩, rfl, hz2⟩, rfl⟩, rfl⟩ := hz
    obtain rfl : qc = 0 := by omega
    obtain rfl : qp = 0 := by omega
    simp [rIdent, rBody, headV, body, List.append_assoc, hdi, zeroF, hLS]
  · simp at hz
    obtain ⟨⟨⟨⟨⟨⟨⟨rfl, rfl⟩, rfl⟩, rfl⟩, rfl, hz1⟩, rfl⟩, rfl⟩, rfl⟩ := hz
    obtain rfl : qc = 0 := by omega
    simp [rIdent, rBody, headV, body, List.append_assoc, hdi, hdp, zeroF]
  · simp at hz
    obtain ⟨⟨⟨⟨⟨rfl, rfl⟩, rfl⟩, ⟨rfl, hz1⟩, rfl, hz2⟩, rfl⟩, rfl⟩ := hz
    obtain rfl : qc = 0 := by omega
    obtain rfl : qp = 0 := by omega
    simp [rIdent, rBody, headV, body, List.append_assoc, hdi, zeroF, hLS, rInt_back set _ 65535 (show set < 18446744073709551616 by omega) (by omega)]
  · simp at hz
    obtain ⟨⟨⟨⟨rfl, rfl⟩, ⟨rfl, hz1⟩, rfl, hz2⟩, rfl⟩, rfl⟩ := hz
    obtain rfl : qc = 0 := by omega
    obtain rfl : qp = 0 := by omega
    simp [rIdent, rBody, headV, body, List.append_assoc, hdi, zeroF, hLM, rUint_back base _ hbase, rUint_back ack _ hack]
  · simp at hz
    obtain ⟨⟨⟨rfl, ⟨rfl, hz1⟩, rfl, hz2⟩, rfl⟩, rfl⟩ := hz
    obtain rfl : qc = 0 := by omega
    obtain rfl : qp = 0 := by omega
    simp [rIdent, rBody, headV, body, List.append_assoc, hdi, zeroF, hLI, rUint_back base _ hbase, rUint_back ack _ hack, rUint_back safe _ hsafe]
end Go.Proofs.Ytfemjbaadnjanaa
namespace Go.Proofs.Ytfemjbaadnjanaa
set_option linter.unusedVariables false
set_option linter.unusedSimpArgs false

theorem in64_nat {n : Nat} (h : (n : Int) ≤ 9223372036854775807) : In64 (n : Int) := ⟨by omega, h⟩
theorem okSt_in {s : Sd} {m : Int} (h : okSt s) (hm : s.2.2.1 ≤ m) (hm2 : m ≤ 9223372036854775807) : s.1 < 18446744073709551616 ∧ In64 s.2.1 ∧ In64 s.2.2.1 := by
  have := formV_p' h.1
  exact ⟨h.2.1, ⟨by omega, by omega⟩, ⟨by have := h.2.2.1; omega, by omega⟩⟩
theorem formV_in {n p : Nat} (h : formV n (p : Int) = true) : In64 (p : Int) := by
  have := formV_p' h
  exact ⟨by omega, by omega⟩

set_option maxHeartbeats 1000000 in
theorem rBody_some {m : Int} {F : PF} {st : St} {ys : List UInt8} (h : (rBody m F st).2 = some ys) (hm2 : m ≤ 9223372036854775807) :
    (∃ xs, st = some xs ∧ xs = body (rBody m F st).1 ++ ys) ∧ (POk F → Sm F → POk (rBody m F st).1 ∧ Sm (rBody m F st).1) := by
  unfold rBody at *
  have hS : ∀ {st : St} {ys : List UInt8}, (rMany (rState m) st).2 = some ys → ∃ xs, st = some xs ∧ xs = encL encS (rMany (rState m) st).1 ++ ys ∧ (rMany (rState m) st).1.length ≤ 4096 ∧ ∀ x ∈ (rMany (rState m) st).1, (okSt x ∧ x.2.2.1 ≤ m) := fun h => rMany_some (r := rState m) (en := encS) (P := fun s => okSt s ∧ s.2.2.1 ≤ m) (fun st ys h => rState_some h) h
  have hI : ∀ {st : St} {ys : List UInt8}, (rMany rItem st).2 = some ys → ∃ xs, st = some xs ∧ xs = encL encI (rMany rItem st).1 ++ ys ∧ (rMany rItem st).1.length ≤ 4096 ∧ ∀ x ∈ (rMany rItem st).1, (okF x.1 = true ∧ x.2.length ≤ 1048576) := fun h => rMany_some (r := rItem) (en := encI) (P := fun d => okF d.1 = true ∧ d.2.length ≤ 1048576) (fun st ys h => rItem_some h) h
  have hM : ∀ {st : St} {ys : List UInt8}, (rMany rMsg st).2 = some ys → ∃ xs, st = some xs ∧ xs = encL encM (rMany rMsg st).1 ++ ys ∧ (rMany rMsg st).1.length ≤ 4096 ∧ ∀ x ∈ (rMany rMsg st).1, x.length ≤ 1048576 := fun h => rMany_some (r := rMsg) (en := encM) (P := fun d => d.length ≤ 1048576) (fun st ys h => rMsg_some h) h
  by_cases k1 : F.kind = 1
  · rw [if_pos k1] at h ⊢
    simp only at h
    obtain ⟨us, ha, hx, hf, hlt⟩ := decV_some h
    obtain ⟨xs, rfl, hx2, hf2, hlt2⟩ := decV_some ha
    refine ⟨⟨xs, rfl, ?_⟩, fun ho hs => ⟨{ ho with curN := hlt2, curP := formV_in hf2, promN := hlt, promP := formV_in hf }, ⟨hs.st, hs.ms, hs.it⟩⟩⟩
    unfold body
    dsimp only
    rw [if_pos k1]
    simp only [List.append_assoc]
    rw [← hx]; exact hx2
  by_cases k2 : F.kind = 2
  · rw [if_neg k1, if_pos k2] at h ⊢
    simp only at h
    obtain ⟨xs, rfl, hx, hle, hlt⟩ := rInt_some h
    refine ⟨⟨xs, rfl, ?_⟩, fun ho hs => ⟨{ ho with set := (by show (Cd.rInt (some xs) 65535).1 < 65536; omega) }, ⟨hs.st, hs.ms, hs.it⟩⟩⟩
    unfold body
    dsimp only
    rw [if_neg k1, if_pos k2]
    exact hx
  by_cases k3 : F.kind = 3
  · rw [if_neg k1, if_neg k2, if_pos k3] at h ⊢
    simp only at h
    obtain ⟨xs, rfl, hx, hle, hP⟩ := hS h
    refine ⟨⟨xs, rfl, ?_⟩, fun ho hs => ⟨{ ho with st := fun s hs => okSt_in (hP s hs).1 (hP s hs).2 hm2 }, ⟨fun s hs d hd => ((hP s hs).1.2.2.2.2 d hd).2, hs.ms, hs.it⟩⟩⟩
    unfold body
    dsimp only
    rw [if_neg k1, if_neg k2, if_pos k3]
    exact hx
  by_cases k4 : F.kind = 4
  · rw [if_neg k1, if_neg k2, if_neg k3, if_pos k4] at h ⊢
    simp only at h
    obtain ⟨xs, rfl, hx, hf, hlt⟩ := decV_some h
    refine ⟨⟨xs, rfl, ?_⟩, fun ho hs => ⟨{ ho with promN := hlt, promP := formV_in hf }, ⟨hs.st, hs.ms, hs.it⟩⟩⟩
    unfold body
    dsimp only
    rw [if_neg k1, if_neg k2, if_neg k3, if_pos k4]
    exact hx
  by_cases k5 : F.kind = 5
  · rw [if_neg k1, if_neg k2, if_neg k3, if_neg k4, if_pos k5] at h ⊢
    simp only at h
    obtain ⟨us, ha, hx, hle, hP⟩ := hS h
    obtain ⟨xs, rfl, hx2, hle2, hlt⟩ := rInt_some ha
    refine ⟨⟨xs, rfl, ?_⟩, fun ho hs => ⟨{ ho with set := (by show (Cd.rInt (some xs) 65535).1 < 65536; omega), st := fun s hs => okSt_in (hP s hs).1 (hP s hs).2 hm2 }, ⟨fun s hs d hd => ((hP s hs).1.2.2.2.2 d hd).2, hs.ms, hs.it⟩⟩⟩
    unfold body
    dsimp only
    rw [if_neg k1, if_neg k2, if_neg k3, if_neg k4, if_pos k5]
    simp only [List.append_assoc]
    exact hx2.trans (by rw [← hx])
  by_cases k6 : F.kind = 6
  · rw [if_neg k1, if_neg k2, if_neg k3, if_neg k4, if_neg k5, if_pos k6] at h ⊢
    simp only at h
    obtain ⟨us, ha, hx, hle, hP⟩ := hM h
    obtain ⟨bs, hb, hx2, hlt2⟩ := rUint_some ha
    obtain ⟨xs, rfl, hx3, hlt3⟩ := rUint_some hb
    refine ⟨⟨xs, rfl, ?_⟩, fun ho hs => ⟨{ ho with base := hlt3, ack := hlt2 }, ⟨hs.st, hP, hs.it⟩⟩⟩
    unfold body
    dsimp only
    rw [if_neg k1, if_neg k2, if_neg k3, if_neg k4, if_neg k5, if_pos k6]
    simp only [List.append_assoc]
    exact hx3.trans (by rw [← hx, ← hx2])
  by_cases k7 : F.kind = 7
  · rw [if_neg k1, if_neg k2, if_neg k3, if_neg k4, if_neg k5, if_neg k6, if_pos k7] at h ⊢
    simp only at h
    obtain ⟨us, ha, hx, hle, hP⟩ := hI h
    obtain ⟨bs, hb, hx2, hlt2⟩ := rUint_some ha
    obtain ⟨cs, hc, hx3, hlt3⟩ := rUint_some hb
    obtain ⟨xs, rfl, hx4, hlt4⟩ := rUint_some hc
    refine ⟨⟨xs, rfl, ?_⟩, fun ho hs => ⟨{ ho with base := hlt4, ack := hlt3, safe := hlt2 }, ⟨hs.st, hs.ms, fun d hd => (hP d hd).2⟩⟩⟩
    unfold body
    dsimp only
    rw [if_neg k1, if_neg k2, if_neg k3, if_neg k4, if_neg k5, if_neg k6, if_pos k7]
    simp only [List.append_assoc]
    exact hx4.trans (by rw [← hx, ← hx2, ← hx3])
  · simp only [k1, k2, k3, k4, k5, k6, k7, if_false] at h ⊢
    exact ⟨⟨ys, h, by simp [body, k1, k2, k3, k4, k5, k6, k7]⟩, fun ho hs => ⟨ho, hs⟩⟩
theorem rBody_same (m : Int) (F : PF) (st : St) : (rBody m F st).1.kind = F.kind ∧ (rBody m F st).1.frm = F.frm ∧ (rBody m F st).1.idN = F.idN ∧ (rBody m F st).1.idP = F.idP := by
  unfold rBody
  repeat' split
  all_goals exact ⟨rfl, rfl, rfl, rfl⟩
theorem headV_same {F G : PF} (h1 : F.kind = G.kind) (h2 : F.idN = G.idN) (h3 : F.idP = G.idP) : headV F = headV G := by
  unfold headV
  rw [h1, h2, h3]
theorem rIdent_some {F : PF} {st : St} {ys : List UInt8} (h : (rIdent F st).2 = some ys) :
    (∃ xs, st = some xs ∧ xs = headV (rIdent F st).1 ++ ys) ∧ (POk F → Sm F → POk (rIdent F st).1 ∧ Sm (rIdent F st).1) ∧ (rIdent F st).1.kind = F.kind ∧ (rIdent F st).1.frm = F.frm := by
  unfold rIdent at *
  by_cases k1 : F.kind = 1
  · simp only [k1, if_true] at h ⊢
    exact ⟨⟨ys, h, by simp [headV, k1]⟩, fun ho hs => ⟨ho, hs⟩, trivial, trivial⟩
  · simp only [k1, if_false] at h ⊢
    obtain ⟨xs, rfl, hx, hf, hlt⟩ := decV_some h
    refine ⟨⟨xs, rfl, ?_⟩, fun ho hs => ⟨{ ho with idN := hlt, idP := formV_in hf }, ⟨hs.st, hs.ms, hs.it⟩⟩, trivial, trivial⟩
    simp only [headV, k1, if_false]
    exact hx
/-- What is read as a frame is its bytes. -/
theorem rFrame_some {m : Int} {st : St} {ys : List UInt8} (h : (rFrame m st).2 = some ys) (hm2 : m ≤ 9223372036854775807) :
    (∃ xs, st = some xs ∧ xs = wire (rFrame m st).1 ++ ys) ∧ POk (rFrame m st).1 ∧ Sm (rFrame m st).1 := by
  have hz : Sm (rHead st).1 := ⟨fun s hs => absurd hs List.not_mem_nil, fun s hs => absurd hs List.not_mem_nil, fun s hs => absurd hs List.not_mem_nil⟩
  unfold rFrame at *
  obtain ⟨e1, e2, e3, e4⟩ := rBody_same m (rIdent (rHead st).1 (rHead st).2).1 (rIdent (rHead st).1 (rHead st).2).2
  obtain ⟨⟨us0, ha, hxa⟩, hoB⟩ := rBody_some h hm2
  obtain ⟨⟨bs, hb, hxb⟩, hoI, e5, e6⟩ := rIdent_some ha
  have hb' : (Cd.rInt (Cd.rInt st 7).2 15).2 = some bs := hb
  obtain ⟨us, hu, hx, hle, _⟩ := rInt_some hb'
  obtain ⟨xs, hst, hx2, hle2, _⟩ := rInt_some hu
  have ho : POk (rHead st).1 := by
    refine ⟨(by show (Cd.rInt st 7).1 < 256; omega), in64_nat (by omega), ?_, ?_, ?_, ?_, ?_, ?_, ?_, fun s hs => absurd hs List.not_mem_nil, ?_, ?_, ?_⟩
    all_goals simp [rHead, zeroF, In64]
  obtain ⟨ho2, hs2⟩ := hoI ho hz
  refine ⟨⟨xs, hst, ?_⟩, hoB ho2 hs2⟩
  unfold wire
  rw [e1, e2, e5, e6, headV_same e1 e3 e4, List.append_assoc, List.append_assoc, ← hxa, ← hxb]
  show xs = [UInt8.ofNat (Cd.rInt st 7).1, pb ((Cd.rInt (Cd.rInt st 7).2 15).1 : Nat)] ++ bs
  rw [pb_nat]
  refine hx2.trans ?_
  rw [enc_small _ (by omega), hx, enc_small _ (by omega)]
  rfl

/-! ### Bytes that are laid one behind the other, up to so many -/
def layS (st : St) (ys : List UInt8) : St := match st with
  | none => none
  | some xs => if xs.length + ys.length ≤ 1048576 then some (xs ++ ys) else none
theorem layS_layS (st : St) (a b : List UInt8) : layS (layS st a) b = layS st (a ++ b) := by
  cases st with
  | none => rfl
  | some xs =>
    simp only [layS]
    by_cases h : xs.length + a.length ≤ 1048576
    · rw [if_pos h]
      simp only [List.length_append, List.append_assoc]
      by_cases h2 : xs.length + a.length + b.length ≤ 1048576
      · rw [if_pos h2, if_pos (by omega)]
      · rw [if_neg h2, if_neg (by omega)]
    · rw [if_neg h, if_neg (by rw [List.length_append]; omega)]
theorem layS_none (ys : List UInt8) : layS none ys = none := rfl
/-- Room for so many more. -/
def room (st : St) (k : Nat) : Bool := match st with
  | none => false
  | some xs => decide (xs.length + k ≤ 1048576)
theorem layS_room (st : St) (ys : List UInt8) (h : room st ys.length = true) : ∃ xs, st = some xs ∧ layS st ys = some (xs ++ ys) ∧ xs.length + ys.length ≤ 1048576 := by
  cases st with
  | none => cases h
  | some xs =>
    have h' : xs.length + ys.length ≤ 1048576 := by simpa [room] using h
    exact ⟨xs, rfl, by simp only [layS]; rw [if_pos h'], h'⟩
theorem layS_full (st : St) (ys : List UInt8) (h : room st ys.length = false) : layS st ys = none := by
  cases st with
  | none => rfl
  | some xs =>
    have h' : ¬ xs.length + ys.length ≤ 1048576 := by simpa [room] using h
    simp only [layS]
    rw [if_neg h']
theorem room_less {st : St} {k l : Nat} (h : room st k = false) (hl : k ≤ l) : room st l = false := by
  cases st with
  | none => rfl
  | some xs =>
    have h' : ¬ xs.length + k ≤ 1048576 := by simpa [room] using h
    simp only [room, decide_eq_false_iff_not]
    omega

/-! ### Messages are not longer than the bytes that hold them -/
theorem mem_flat_len {α : Type} {en : α → List UInt8} : ∀ {l : List α} {x : α}, x ∈ l → (en x).length ≤ (l.flatMap en).length
  | [], x, h => by cases h
  | a :: l, x, h => by
    rw [List.flatMap_cons, List.length_append]
    rcases List.mem_cons.1 h with rfl | h
    · omega
    · have := mem_flat_len (en := en) h; omega
theorem mem_encL_len {α : Type} {en : α → List UInt8} {l : List α} {x : α} (h : x ∈ l) : (en x).length ≤ (encL en l).length := by
  have := mem_flat_len (en := en) h
  unfold encL
  rw [List.length_append]
  omega
theorem encM_len (m : List UInt8) : m.length ≤ (encM m).length := by simp [encM]
theorem encI_len (d : Di) : d.2.length ≤ (encI d).length := by have := encM_len d.2; simp [encI]; omega
/-- What a right frame's kind does not name is empty; what it names is in its bytes. -/
theorem wire_small {F : PF} (h : rightF F = true) (hl : (wire F).length ≤ 1048576) : Sm F := by
  unfold rightF at h
  simp only [Bool.and_eq_true] at h
  obtain ⟨_, hkn, hz⟩ := h
  have hk := known_cases hkn
  have hb : (body F).length ≤ 1048576 := by
    have : (wire F).length = 2 + ((headV F).length + (body F).length) := by simp [wire]; omega
    omega
  have hS : (encL encS F.st).length ≤ 1048576 → ∀ s ∈ F.st, ∀ d ∈ s.2.2.2, d.2.length ≤ 1048576 := fun h s hs d hd => by
    have h1 := mem_encL_len (en := encS) hs
    have h2 := mem_encL_len (en := encI) hd
    have h3 := encI_len d
    have h4 : (encL encI s.2.2.2).length ≤ (encS s).length := by simp [encS]; omega
    omega
  have hI : (encL encI F.it).length ≤ 1048576 → ∀ d ∈ F.it, d.2.length ≤ 1048576 := fun h d hd => by
    have h1 := mem_encL_len (en := encI) hd
    have h3 := encI_len d
    omega
  have hM : (encL encM F.ms).length ≤ 1048576 → ∀ m ∈ F.ms, m.length ≤ 1048576 := fun h d hd => by
    have h1 := mem_encL_len (en := encM) hd
    have h3 := encM_len d
    omega
  unfold unn zeroB at hz
  simp only [Bool.and_eq_true, decide_eq_true_eq, List.length_eq_zero_iff] at hz
  unfold body at hb
  rcases hk with k | k | k | k | k | k | k
  all_goals simp only [k] at hz hb
  all_goals simp at hz hb
  · exact ⟨by rw [hz.1.1.2]; simp, by rw [hz.1.2]; simp, by rw [hz.2]; simp⟩
  · exact ⟨by rw [hz.1.1.2]; simp, by rw [hz.1.2]; simp, by rw [hz.2]; simp⟩
  · exact ⟨hS hb, by rw [hz.1.2]; simp, by rw [hz.2]; simp⟩
  · exact ⟨by rw [hz.1.1.2]; simp, by rw [hz.1.2]; simp, by rw [hz.2]; simp⟩
  · exact ⟨hS (by omega), by rw [hz.1.2]; simp, by rw [hz.2]; simp⟩
  · exact ⟨by rw [hz.1.2]; simp, hM (by omega), by rw [hz.2]; simp⟩
  · exact ⟨by rw [hz.1.2]; simp, by rw [hz.2]; simp, hI (by omega)⟩
/-- Right frames that have the same bytes are one. -/
theorem wire_inj {F G : PF} (hF : rightF F = true) (hG : rightF G = true) (oF : POk F) (oG : POk G) (sF : Sm F) (sG : Sm G) (h : wire F = wire G) : F = G := by
  have h1 := rFrame_back 1073741824 F [] hF oF sF (by omega) (by omega)
  have h2 := rFrame_back 1073741824 G [] hG oG sG (by omega) (by omega)
  rw [h, h2] at h1
  exact (congrArg Prod.fst h1).symm
/-! ### The frame of some bytes -/
def decF (m : Int) (b : List UInt8) : Nat × PF :=
  if 1048576 < b.length then (2, zeroF)
  else if (Cd.opened b).1 ≠ 0 then ((Cd.opened b).1, zeroF)
  else if (rFrame m (some (Cd.opened b).2)).2 = some [] ∧ rightF (rFrame m (some (Cd.opened b).2)).1 = true then (0, (rFrame m (some (Cd.opened b).2)).1)
  else (3, zeroF)
def sealB (xs : List UInt8) : List UInt8 := xs ++ Cd.le4 (Cd.crcSum xs)
theorem sealB_len (xs : List UInt8) : (sealB xs).length = xs.length + 4 := by simp [sealB, Cd.le4_len]
theorem opened_ok {b : List UInt8} (h : (Cd.opened b).1 = 0) : b = sealB (Cd.opened b).2 := by
  unfold Cd.opened at *
  split at h
  · cases h
  · rename_i h4
    split at h
    · rename_i he
      rw [if_neg h4, if_pos he]
      unfold sealB
      simp only
      rw [he, List.take_append_drop]
    · cases h
theorem opened_seal (xs : List UInt8) : Cd.opened (sealB xs) = (0, xs) := by
  have hl := sealB_len xs
  unfold Cd.opened
  rw [if_neg (by omega), hl]
  have e : xs.length + 4 - 4 = xs.length := by omega
  rw [e]
  have t : (sealB xs).take xs.length = xs := by simp [sealB]
  have d : (sealB xs).drop xs.length = Cd.le4 (Cd.crcSum xs) := by simp [sealB]
  rw [t, d, if_pos rfl]
theorem opened_len (b : List UInt8) : (Cd.opened b).2.length ≤ b.length := by
  unfold Cd.opened
  split
  · simp
  · split <;> simp
/-- How far a floor may be asked does not matter: a right frame's is not that far. -/
theorem decF_any (m m' : Int) (b : List UInt8) (h1 : 1073741824 ≤ m) (h2 : m ≤ 9223372036854775807) (h1' : 1073741824 ≤ m') (h2' : m' ≤ 9223372036854775807) : decF m b = decF m' b := by
  have key : ∀ (m m' : Int), 1073741824 ≤ m → m ≤ 9223372036854775807 → 1073741824 ≤ m' → m' ≤ 9223372036854775807 → ∀ xs, (rFrame m (some xs)).2 = some [] ∧ rightF (rFrame m (some xs)).1 = true → rFrame m' (some xs) = rFrame m (some xs) := fun m m' a1 a2 b1 b2 xs h => by
    obtain ⟨⟨xs', he, hx⟩, ho, hs⟩ := rFrame_some h.1 a2
    simp only [Option.some.injEq] at he
    subst he
    have := rFrame_back m' (rFrame m (some xs)).1 [] h.2 ho hs b1 (by omega)
    rw [← hx] at this
    rw [this, ← h.1]
  unfold decF
  by_cases h0 : 1048576 < b.length
  · rw [if_pos h0, if_pos h0]
  rw [if_neg h0, if_neg h0]
  by_cases h3 : (Cd.opened b).1 ≠ 0
  · rw [if_pos h3, if_pos h3]
  rw [if_neg h3, if_neg h3]
  generalize (Cd.opened b).2 = xs
  by_cases hc : (rFrame m (some xs)).2 = some [] ∧ rightF (rFrame m (some xs)).1 = true
  · rw [if_pos hc, key m m' h1 h2 h1' h2' xs hc, if_pos hc]
  · by_cases hc' : (rFrame m' (some xs)).2 = some [] ∧ rightF (rFrame m' (some xs)).1 = true
    · rw [if_pos hc', key m' m h1' h2' h1 h2 xs hc', if_pos hc']
    · rw [if_neg hc, if_neg hc']
theorem decF_seal (m : Int) (F : PF) (h : rightF F = true) (ho : POk F) (hl : (wire F).length + 4 ≤ 1048576) (h1 : 1073741824 ≤ m) (h2 : m ≤ 9223372036854775807) : decF m (sealB (wire F)) = (0, F) := by
  have hs := wire_small h (by omega)
  have hb := rFrame_back m F [] h ho hs h1 (by omega)
  rw [List.append_nil] at hb
  unfold decF
  rw [sealB_len, if_neg (by omega), opened_seal, if_neg (by simp), hb, if_pos ⟨rfl, h⟩]
theorem decF_ok {m : Int} {b : List UInt8} (h : (decF m b).1 = 0) (h2 : m ≤ 9223372036854775807) : b = sealB (wire (decF m b).2) ∧ rightF (decF m b).2 = true ∧ POk (decF m b).2 ∧ Sm (decF m b).2 := by
  unfold decF at *
  by_cases h0 : 1048576 < b.length
  · rw [if_pos h0] at h; cases h
  rw [if_neg h0] at h ⊢
  by_cases h3 : (Cd.opened b).1 ≠ 0
  · rw [if_pos h3] at h; exact absurd h h3
  rw [if_neg h3] at h ⊢
  by_cases hc : (rFrame m (some (Cd.opened b).2)).2 = some [] ∧ rightF (rFrame m (some (Cd.opened b).2)).1 = true
  · rw [if_pos hc]
    obtain ⟨⟨xs', he, hx⟩, ho, hs⟩ := rFrame_some hc.1 h2
    simp only [Option.some.injEq] at he
    subst he
    rw [List.append_nil] at hx
    refine ⟨?_, hc.2, ho, hs⟩
    rw [← hx]
    exact opened_ok (by simpa using h3)
  · rw [if_neg hc] at h; cases h
end Go.Proofs.Ytfemjbaadnjanaa
