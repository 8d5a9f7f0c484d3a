/-
  Plain mathematics of frames as bytes: what is written is read, and nothing else is.
-/
import Derived.Test.YtfemjbaadnjanaaJRefD
namespace Go.Proofs.Ytfemjbaadnjanaa
set_option linter.unusedVariables false

abbrev St := Option (List UInt8)
/-- A state: its view's number, its floor, its items. -/
abbrev Sd := Nat × Int × Int × List Di
/-- A frame. -/
structure PF where
  kind : Nat
  frm : Int
  idN : Nat
  idP : Int
  set : Nat
  curN : Nat
  curP : Int
  promN : Nat
  promP : Int
  st : List Sd
  base : Nat
  ms : List (List UInt8)
  it : List Di
  ack : Nat
  safe : Nat
def zeroF : PF := ⟨0, 0, 0, 0, 0, 0, 0, 0, 0, [], 0, [], [], 0, 0⟩

def encM (m : List UInt8) : List UInt8 := Cd.enc m.length ++ m
def encI (d : Di) : List UInt8 := pb d.1 :: encM d.2
def encV (n : Nat) (p : Int) : List UInt8 := Cd.enc n ++ [pb p]
def encL {α : Type} (en : α → List UInt8) (l : List α) : List UInt8 := Cd.enc l.length ++ l.flatMap en
def encS (s : Sd) : List UInt8 := encV s.1 s.2.1 ++ (Cd.enc s.2.2.1.toNat ++ encL encI s.2.2.2)
def body (F : PF) : List UInt8 :=
  if F.kind = 1 then encV F.curN F.curP ++ encV F.promN F.promP
  else if F.kind = 2 then Cd.enc F.set
  else if F.kind = 3 then encL encS F.st
  else if F.kind = 4 then encV F.promN F.promP
  else if F.kind = 5 then Cd.enc F.set ++ encL encS F.st
  else if F.kind = 6 then Cd.enc F.base ++ (Cd.enc F.ack ++ encL encM F.ms)
  else if F.kind = 7 then Cd.enc F.base ++ (Cd.enc F.ack ++ (Cd.enc F.safe ++ encL encI F.it))
  else []
def headV (F : PF) : List UInt8 := if F.kind = 1 then [] else encV F.idN F.idP
def wire (F : PF) : List UInt8 := [UInt8.ofNat F.kind, pb F.frm] ++ (headV F ++ body F)

/-! ### Reading -/
def rItem (st : St) : Di × St := ((((Cd.rInt st 15).1 : Nat), (Cd.rBytes (Cd.rInt st 15).2 1048576).1), (Cd.rBytes (Cd.rInt st 15).2 1048576).2)
def rMsg (st : St) : List UInt8 × St := Cd.rBytes st 1048576
def rList {α : Type} (r : St → α × St) : Nat → St → List α × St
  | 0, st => ([], st)
  | k + 1, st => match (r st).2 with
    | none => ([], none)
    | some ys => match (rList r k (some ys)).2 with
      | none => ([], none)
      | some zs => ((r st).1 :: (rList r k (some ys)).1, some zs)
def rMany {α : Type} (r : St → α × St) (st : St) : List α × St := rList r (Cd.rInt st 4096).1 (Cd.rInt st 4096).2
def rFloor (m : Int) (st : St) : Nat × St := Cd.rInt (decV st).2 m
def rState (m : Int) (st : St) : Sd × St :=
  (((decV st).1.1, ((decV st).1.2 : Nat), ((rFloor m st).1 : Nat), (rMany rItem (rFloor m st).2).1), (rMany rItem (rFloor m st).2).2)
def rBody (m : Int) (F : PF) (st : St) : PF × St :=
  if F.kind = 1 then ({ F with curN := (decV st).1.1, curP := ((decV st).1.2 : Nat), promN := (decV (decV st).2).1.1, promP := ((decV (decV st).2).1.2 : Nat) }, (decV (decV st).2).2)
  else if F.kind = 2 then ({ F with set := (Cd.rInt st 65535).1 }, (Cd.rInt st 65535).2)
  else if F.kind = 3 then ({ F with st := (rMany (rState m) st).1 }, (rMany (rState m) st).2)
  else if F.kind = 4 then ({ F with promN := (decV st).1.1, promP := ((decV st).1.2 : Nat) }, (decV st).2)
  else if F.kind = 5 then ({ F with set := (Cd.rInt st 65535).1, st := (rMany (rState m) (Cd.rInt st 65535).2).1 }, (rMany (rState m) (Cd.rInt st 65535).2).2)
  else if F.kind = 6 then ({ F with base := (Cd.rUint st).1, ack := (Cd.rUint (Cd.rUint st).2).1, ms := (rMany rMsg (Cd.rUint (Cd.rUint st).2).2).1 }, (rMany rMsg (Cd.rUint (Cd.rUint st).2).2).2)
  else if F.kind = 7 then ({ F with base := (Cd.rUint st).1, ack := (Cd.rUint (Cd.rUint st).2).1, safe := (Cd.rUint (Cd.rUint (Cd.rUint st).2).2).1, it := (rMany rItem (Cd.rUint (Cd.rUint (Cd.rUint st).2).2).2).1 }, (rMany rItem (Cd.rUint (Cd.rUint (Cd.rUint st).2).2).2).2)
  else (F, st)
def rHead (st : St) : PF × St := ({ zeroF with kind := (Cd.rInt st 7).1, frm := ((Cd.rInt (Cd.rInt st 7).2 15).1 : Nat) }, (Cd.rInt (Cd.rInt st 7).2 15).2)
def rIdent (F : PF) (st : St) : PF × St := if F.kind = 1 then (F, st) else ({ F with idN := (decV st).1.1, idP := ((decV st).1.2 : Nat) }, (decV st).2)
def rFrame (m : Int) (st : St) : PF × St := rBody m (rIdent (rHead st).1 (rHead st).2).1 (rIdent (rHead st).1 (rHead st).2).2

/-! ### Strictness: what is read is what is written -/
theorem rdF_strict : ∀ (xs : List UInt8) (i acc n s : Nat), i ≤ 9 → Cd.rdF i acc xs = some (n, s) →
    ∃ ys x t, xs = ys ++ x :: t ∧ (∀ y ∈ ys, 128 ≤ y.toNat) ∧ x.toNat < 128 ∧ (x.toNat ≠ 0 ∨ (ys = [] ∧ i = 0)) ∧ s = i + ys.length + 1 ∧ n = acc + Cd.val (ys ++ [x]) * 128 ^ i ∧ i + ys.length ≤ 9
  | [], i, acc, n, s, hi, h => by simp [Cd.rdF] at h
  | x :: t, i, acc, n, s, hi, h => by
    rw [Cd.rdF] at h
    by_cases h9 : i = 9 ∧ 1 < x.toNat
    · rw [if_pos h9] at h; cases h
    · rw [if_neg h9] at h
      by_cases h1 : 128 ≤ x.toNat
      · rw [if_pos h1] at h
        have hi8 : i + 1 ≤ 9 := by
          by_cases e : i = 9
          · exact absurd ⟨e, by omega⟩ h9
          · omega
        obtain ⟨ys, y, t', rfl, a, b, c, rfl, rfl, d⟩ := rdF_strict t (i + 1) _ n s hi8 h
        refine ⟨x :: ys, y, t', rfl, ?_, b, ?_, by simp only [List.length_cons]; omega, ?_, by simp only [List.length_cons]; omega⟩
        · intro z hz
          rcases List.mem_cons.1 hz with rfl | hz
          · exact h1
          · exact a z hz
        · rcases c with c | c
          · exact .inl c
          · omega
        · simp only [List.cons_append, Cd.val, Nat.pow_succ]
          rw [Nat.add_mul, Nat.add_assoc]
          congr 1
          rw [Nat.mul_comm 128 (Cd.val _), Nat.mul_assoc, Nat.mul_comm 128 (128 ^ i)]
      · rw [if_neg h1] at h
        by_cases h0 : x.toNat = 0 ∧ 0 < i
        · rw [if_pos h0] at h; cases h
        · rw [if_neg h0] at h
          simp only [Option.some.injEq, Prod.mk.injEq] at h
          refine ⟨[], x, t, rfl, by simp, by omega, ?_, by simp; omega, ?_, by simpa using hi⟩
          · by_cases e : x.toNat = 0
            · exact .inr ⟨rfl, by omega⟩
            · exact .inl e
          · simp only [List.nil_append, Cd.val, Nat.mul_zero, Nat.add_zero]
            exact h.1.symm
theorem rd_strict {xs : List UInt8} {n s : Nat} (h : Cd.rd xs = some (n, s)) : xs = Cd.enc n ++ xs.drop s := by
  obtain ⟨ys, x, t, rfl, a, b, c, rfl, rfl, d⟩ := rdF_strict xs 0 0 n s (by omega) h
  have e := Cd.enc_val ys x 9 a b (by rcases c with c | c; exact .inl c; exact .inr c.1) (by omega)
  have e2 : Cd.enc (0 + Cd.val (ys ++ [x]) * 128 ^ 0) = ys ++ [x] := by simpa [Cd.enc] using e
  rw [e2]
  simp [List.drop_append]

theorem rUint_none : Cd.rUint none = (0, none) := rfl
theorem rInt_none (m : Int) : Cd.rInt none m = (0, none) := rfl
theorem rUint_back (n : Nat) (t : List UInt8) (h : n < 18446744073709551616) : Cd.rUint (some (Cd.enc n ++ t)) = (n, some t) := by
  simp only [Cd.rUint, Cd.rd_enc n t h]
  simp
theorem rUint_strict {xs ys : List UInt8} {n : Nat} (h : Cd.rUint (some xs) = (n, some ys)) : xs = Cd.enc n ++ ys ∧ n < 18446744073709551616 := by
  simp only [Cd.rUint] at h
  cases hr : Cd.rd xs with
  | none => rw [hr] at h; simp at h
  | some p =>
    obtain ⟨k, s⟩ := p
    rw [hr] at h
    simp only [Prod.mk.injEq, Option.some.injEq] at h
    obtain ⟨rfl, rfl⟩ := h
    exact ⟨rd_strict hr, Cd.rd_lt hr⟩
theorem rInt_back (n : Nat) (t : List UInt8) (m : Int) (h : n < 18446744073709551616) (hm : (n : Int) ≤ m) : Cd.rInt (some (Cd.enc n ++ t)) m = (n, some t) := by
  simp only [Cd.rInt, rUint_back n t h]
  rw [if_neg (by omega)]
theorem rInt_strict {xs ys : List UInt8} {n : Nat} {m : Int} (h : Cd.rInt (some xs) m = (n, some ys)) : xs = Cd.enc n ++ ys ∧ (n : Int) ≤ m ∧ n < 18446744073709551616 := by
  simp only [Cd.rInt] at h
  cases hu : (Cd.rUint (some xs)).2 with
  | none => rw [hu] at h; simp at h
  | some zs =>
    rw [hu] at h
    simp only at h
    by_cases hc : m < 0 ∨ m < ((Cd.rUint (some xs)).1 : Int)
    · rw [if_pos hc] at h; simp at h
    · rw [if_neg hc] at h
      simp only [Prod.mk.injEq, Option.some.injEq] at h
      obtain ⟨rfl, rfl⟩ := h
      have := rUint_strict (xs := xs) (ys := zs) (n := (Cd.rUint (some xs)).1) (by rw [← hu])
      exact ⟨this.1, by omega, this.2⟩
theorem rInt_some {st : St} {m : Int} {ys : List UInt8} (h : (Cd.rInt st m).2 = some ys) : ∃ xs, st = some xs ∧ xs = Cd.enc (Cd.rInt st m).1 ++ ys ∧ ((Cd.rInt st m).1 : Int) ≤ m ∧ (Cd.rInt st m).1 < 18446744073709551616 := by
  cases st with
  | none => cases h
  | some xs => exact ⟨xs, rfl, rInt_strict (by rw [← h])⟩
theorem rUint_some {st : St} {ys : List UInt8} (h : (Cd.rUint st).2 = some ys) : ∃ xs, st = some xs ∧ xs = Cd.enc (Cd.rUint st).1 ++ ys ∧ (Cd.rUint st).1 < 18446744073709551616 := by
  cases st with
  | none => cases h
  | some xs => exact ⟨xs, rfl, rUint_strict (by rw [← h])⟩
theorem enc_small (n : Nat) (h : n < 128) : Cd.enc n = [UInt8.ofNat n] := Cd.encF_small 9 n h
theorem pb_nat (n : Nat) : pb (n : Int) = UInt8.ofNat n := by simp [pb]

theorem rBytes_back (m : List UInt8) (t : List UInt8) (h : m.length ≤ 1048576) : rMsg (some (encM m ++ t)) = (m, some t) := by
  unfold rMsg encM Cd.rBytes
  rw [List.append_assoc, rInt_back m.length (m ++ t) 1048576 (by omega) (by omega)]
  simp
theorem rMsg_some {st : St} {ys : List UInt8} (h : (rMsg st).2 = some ys) : ∃ xs, st = some xs ∧ xs = encM (rMsg st).1 ++ ys ∧ (rMsg st).1.length ≤ 1048576 := by
  unfold rMsg Cd.rBytes at *
  cases hi : (Cd.rInt st 1048576).2 with
  | none => rw [hi] at h; cases h
  | some zs =>
    rw [hi] at h
    simp only at h ⊢
    obtain ⟨xs, rfl, hx, hle, hlt⟩ := rInt_some hi
    by_cases hc : zs.length < (Cd.rInt (some xs) 1048576).1
    · rw [if_pos hc] at h; cases h
    · rw [if_neg hc] at h ⊢
      simp only [Option.some.injEq] at h
      subst h
      refine ⟨xs, rfl, ?_, by simp; omega⟩
      unfold encM
      simp only [List.length_take]
      rw [Nat.min_eq_left (by omega), List.append_assoc, List.take_append_drop]
      exact hx
theorem rItem_back (d : Di) (t : List UInt8) (h : okF d.1 = true) (hl : d.2.length ≤ 1048576) : rItem (some (encI d ++ t)) = (d, some t) := by
  obtain ⟨f, m⟩ := d
  simp only [okF, Bool.and_eq_true, decide_eq_true_eq] at h
  obtain ⟨n, rfl⟩ : ∃ n : Nat, f = n := ⟨f.toNat, by omega⟩
  have e : encI ((n : Int), m) ++ t = Cd.enc n ++ (encM m ++ t) := by
    unfold encI
    rw [enc_small n (by omega), pb_nat]
    rfl
  unfold rItem
  rw [e, rInt_back n _ 15 (by omega) (by omega)]
  have := rBytes_back m t hl
  unfold rMsg at this
  simp only [this]
theorem rItem_some {st : St} {ys : List UInt8} (h : (rItem st).2 = some ys) : ∃ xs, st = some xs ∧ xs = encI (rItem st).1 ++ ys ∧ okF (rItem st).1.1 = true ∧ (rItem st).1.2.length ≤ 1048576 := by
  have h' : (rMsg (Cd.rInt st 15).2).2 = some ys := h
  obtain ⟨zs, hz, hx, hl⟩ := rMsg_some h'
  obtain ⟨xs, rfl, hx2, hle, _⟩ := rInt_some hz
  refine ⟨xs, rfl, ?_, ?_, hl⟩
  · refine hx2.trans ?_
    rw [enc_small _ (by omega), hx]
    show _ = pb ((Cd.rInt (some xs) 15).1 : Nat) :: _ ++ ys
    rw [pb_nat]
    rfl
  · have e : (rItem (some xs)).1.1 = ((Cd.rInt (some xs) 15).1 : Nat) := rfl
    rw [e]
    simp only [okF, Bool.and_eq_true, decide_eq_true_eq]
    omega

/-! ### Lists -/
theorem rList_back {α : Type} {r : St → α × St} {en : α → List UInt8} : ∀ (l : List α) (t : List UInt8), (∀ x ∈ l, ∀ t, r (some (en x ++ t)) = (x, some t)) → rList r l.length (some (l.flatMap en ++ t)) = (l, some t)
  | [], t, _ => rfl
  | x :: l, t, h => by
    have h1 := h x (by simp) (l.flatMap en ++ t)
    have ih := rList_back l t (fun y hy => h y (by simp [hy]))
    simp only [List.length_cons, List.flatMap_cons, List.append_assoc, rList, h1, ih]
theorem rMany_back {α : Type} {r : St → α × St} {en : α → List UInt8} (l : List α) (t : List UInt8) (hl : l.length ≤ 4096) (h : ∀ x ∈ l, ∀ t, r (some (en x ++ t)) = (x, some t)) : rMany r (some (encL en l ++ t)) = (l, some t) := by
  unfold rMany encL
  rw [List.append_assoc, rInt_back l.length _ 4096 (by omega) (by omega)]
  exact rList_back l t h
theorem rList_some {α : Type} {r : St → α × St} {en : α → List UInt8} {P : α → Prop} (hr : ∀ st ys, (r st).2 = some ys → ∃ xs, st = some xs ∧ xs = en (r st).1 ++ ys ∧ P (r st).1) :
    ∀ (k : Nat) (st : St) (ys : List UInt8), (rList r k st).2 = some ys → ∃ xs, st = some xs ∧ xs = (rList r k st).1.flatMap en ++ ys ∧ (rList r k st).1.length = k ∧ ∀ x ∈ (rList r k st).1, P x
  | 0, st, ys, h => by simp only [rList] at h ⊢; exact ⟨ys, h, by simp, rfl, by simp⟩
  | k + 1, st, ys, h => by
    rw [rList] at h ⊢
    cases h1 : (r st).2 with
    | none => rw [h1] at h; cases h
    | some us =>
      rw [h1] at h
      simp only at h ⊢
      cases h2 : (rList r k (some us)).2 with
      | none => rw [h2] at h; cases h
      | some bs =>
        rw [h2] at h
        simp only [Option.some.injEq] at h ⊢
        subst h
        obtain ⟨xs, rfl, hx, hp⟩ := hr st us h1
        obtain ⟨us', e, hx2, hl, hP⟩ := rList_some hr k (some us) bs h2
        simp only [Option.some.injEq] at e
        subst e
        refine ⟨xs, rfl, ?_, by simp [hl], ?_⟩
        · rw [List.flatMap_cons, List.append_assoc, ← hx2]
          exact hx
        · intro x hx
          rcases List.mem_cons.1 hx with rfl | hx
          · exact hp
          · exact hP x hx
theorem rMany_some {α : Type} {r : St → α × St} {en : α → List UInt8} {P : α → Prop} (hr : ∀ st ys, (r st).2 = some ys → ∃ xs, st = some xs ∧ xs = en (r st).1 ++ ys ∧ P (r st).1) {st : St} {ys : List UInt8} (h : (rMany r st).2 = some ys) :
    ∃ xs, st = some xs ∧ xs = encL en (rMany r st).1 ++ ys ∧ (rMany r st).1.length ≤ 4096 ∧ ∀ x ∈ (rMany r st).1, P x := by
  unfold rMany at *
  obtain ⟨zs, hz, hx, hl, hP⟩ := rList_some hr _ _ _ h
  obtain ⟨xs, rfl, hx2, hle, _⟩ := rInt_some hz
  refine ⟨xs, rfl, ?_, by rw [hl]; omega, hP⟩
  unfold encL
  rw [hl, List.append_assoc, ← hx]
  exact hx2

/-! ### Views' numbers, states, frames -/
theorem formV_p' {n : Nat} {p : Int} (h : formV n p = true) : 0 ≤ p ∧ p ≤ 15 := by
  unfold formV at h
  simp only [Bool.and_eq_true, decide_eq_true_eq] at h
  by_cases h0 : n = 0
  · rw [if_pos h0] at h; omega
  · rw [if_neg h0] at h; omega
theorem decV_back (n : Nat) (p : Int) (t : List UInt8) (h : formV n p = true) (hn : n < 18446744073709551616) : ∃ q : Nat, p = q ∧ decV (some (encV n p ++ t)) = ((n, q), some t) := by
  have h15 := formV_p' h
  obtain ⟨q, rfl⟩ : ∃ q : Nat, p = q := ⟨p.toNat, by omega⟩
  refine ⟨q, rfl, ?_⟩
  have e : encV n (q : Int) ++ t = Cd.enc n ++ (Cd.enc q ++ t) := by
    unfold encV
    rw [enc_small q (by omega), pb_nat, List.append_assoc]
  unfold formV at h
  simp only [Bool.and_eq_true, decide_eq_true_eq] at h
  unfold decV
  rw [e, rUint_back n _ hn]
  simp only
  rw [rInt_back q t _ (by omega) h.2]
theorem decV_some {st : St} {ys : List UInt8} (h : (decV st).2 = some ys) : ∃ xs, st = some xs ∧ xs = encV (decV st).1.1 ((decV st).1.2 : Nat) ++ ys ∧ formV (decV st).1.1 ((decV st).1.2 : Nat) = true ∧ (decV st).1.1 < 18446744073709551616 := by
  unfold decV at *
  cases hi : (Cd.rInt (Cd.rUint st).2 (if (Cd.rUint st).1 = 0 then 0 else 15)).2 with
  | none => rw [hi] at h; cases h
  | some zs =>
    rw [hi] at h
    simp only [Option.some.injEq] at h ⊢
    subst h
    obtain ⟨us, ha, hx, hle, _⟩ := rInt_some hi
    obtain ⟨xs, rfl, hx2, hlt⟩ := rUint_some ha
    generalize hq : (Cd.rInt (Cd.rUint (some xs)).2 (if (Cd.rUint (some xs)).1 = 0 then 0 else 15)).1 = q at *
    have hq15 : q ≤ 15 := by
      by_cases e : (Cd.rUint (some xs)).1 = 0
      · rw [if_pos e] at hle; omega
      · rw [if_neg e] at hle; omega
    refine ⟨xs, rfl, ?_, ?_, hlt⟩
    · unfold encV
      rw [pb_nat, List.append_assoc, ← enc_small q (by omega), ← hx]
      exact hx2
    · unfold formV
      simp only [Bool.and_eq_true, decide_eq_true_eq]
      exact ⟨by omega, hle⟩

/-- What a state must be. -/
def okSt (s : Sd) : Prop := formV s.1 s.2.1 = true ∧ s.1 < 18446744073709551616 ∧ 0 ≤ s.2.2.1 ∧ s.2.2.2.length ≤ 4096 ∧ ∀ d ∈ s.2.2.2, okF d.1 = true ∧ d.2.length ≤ 1048576
theorem rState_back (m : Int) (s : Sd) (t : List UInt8) (h : okSt s) (hm : s.2.2.1 ≤ m) (hm2 : m < 18446744073709551616) : rState m (some (encS s ++ t)) = (s, some t) := by
  obtain ⟨n, p, f, l⟩ := s
  obtain ⟨h1, h2, h3, h4, h5⟩ := h
  simp only at *
  obtain ⟨k, rfl⟩ : ∃ k : Nat, f = k := ⟨f.toNat, by omega⟩
  have e : encS (n, p, (k : Int), l) ++ t = encV n p ++ (Cd.enc k ++ (encL encI l ++ t)) := by
    unfold encS
    simp
  obtain ⟨q, rfl, hd⟩ := decV_back n p (Cd.enc k ++ (encL encI l ++ t)) h1 h2
  have hl := rMany_back (r := rItem) l t h4 (fun d hd t => rItem_back d t (h5 d hd).1 (h5 d hd).2)
  have hk := rInt_back k (encL encI l ++ t) m (by omega) hm
  unfold rState rFloor
  rw [e, hd]
  simp only [hk, hl]
theorem rState_some {m : Int} {st : St} {ys : List UInt8} (h : (rState m st).2 = some ys) : ∃ xs, st = some xs ∧ xs = encS (rState m st).1 ++ ys ∧ (okSt (rState m st).1 ∧ (rState m st).1.2.2.1 ≤ m) := by
  have h' : (rMany rItem (rFloor m st).2).2 = some ys := h
  obtain ⟨us, ha, hx, hl, hP⟩ := rMany_some (r := rItem) (en := encI) (P := fun d => okF d.1 = true ∧ d.2.length ≤ 1048576) (fun st ys h => rItem_some h) h'
  have ha' : (Cd.rInt (decV st).2 m).2 = some us := ha
  obtain ⟨bs, hb, hx2, hle, _⟩ := rInt_some ha'
  obtain ⟨xs, rfl, hx3, hf, hlt⟩ := decV_some hb
  refine ⟨xs, rfl, ?_, ⟨hf, hlt, by simp [rState], hl, hP⟩, hle⟩
  unfold rState encS rFloor
  simp only [Int.toNat_natCast, List.append_assoc]
  unfold rFloor at hx
  rw [← hx, ← hx2]
  exact hx3
end Go.Proofs.Ytfemjbaadnjanaa
