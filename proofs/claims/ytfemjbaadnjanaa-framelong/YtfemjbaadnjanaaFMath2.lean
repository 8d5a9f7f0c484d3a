/-
  Plain mathematics of frames as bytes: which frames are right; a right frame's bytes are read as it, and bytes that are read as a frame are its.
-/
import Derived.Test.YtfemjbaadnjanaaFMath
namespace Go.Proofs.Ytfemjbaadnjanaa
set_option linter.unusedVariables false
set_option linter.unusedSimpArgs false

/-- Is a state right? -/
def formS (s : Sd) : Bool := formV s.1 s.2.1 && decide (0 ≤ s.2.2.1) && decide (s.2.2.1 ≤ 1073741824) && (decide (0 < s.1) || (decide (s.2.2.1 = 0) && decide (s.2.2.2.length = 0))) && s.2.2.2.all (fun d => okF d.1)
def stOk (s : Sd) : Bool := decide (s.2.2.2.length ≤ 4096) && formS s
def itsB (l : List Di) : Bool := decide (l.length ≤ 4096) && l.all (fun d => okF d.1)
def numsB (F : PF) : Bool := (decide (F.kind = 1) || !decide (F.idN = 0)) && (formV F.idN F.idP && formV F.curN F.curP && formV F.promN F.promP)
def listsB (F : PF) : Bool := (!decide (F.kind = 3) || decide (F.st.length = 1)) && (decide (F.st.length ≤ 4096) && decide (F.ms.length ≤ 4096) && itsB F.it) && F.st.all stOk
def zeroB (F : PF) : Bool := decide (F.kind = 0) && decide (F.frm = 0) && decide (F.set = 0) && decide (F.base = 0) && decide (F.ack = 0) && decide (F.safe = 0) && (decide (F.idN = 0 ∧ F.idP = 0) && decide (F.curN = 0 ∧ F.curP = 0) && decide (F.promN = 0 ∧ F.promP = 0)) && decide (F.st.length = 0) && decide (F.ms.length = 0) && decide (F.it.length = 0)
/-- The frame without what its kind names. -/
def unn (F : PF) : PF :=
  if F.kind = 1 then { F with kind := 0, frm := 0, curN := 0, curP := 0, promN := 0, promP := 0 }
  else if F.kind = 2 then { F with kind := 0, frm := 0, idN := 0, idP := 0, set := 0 }
  else if F.kind = 3 then { F with kind := 0, frm := 0, idN := 0, idP := 0, st := [] }
  else if F.kind = 4 then { F with kind := 0, frm := 0, idN := 0, idP := 0, promN := 0, promP := 0 }
  else if F.kind = 5 then { F with kind := 0, frm := 0, idN := 0, idP := 0, set := 0, st := [] }
  else if F.kind = 6 then { F with kind := 0, frm := 0, idN := 0, idP := 0, base := 0, ms := [], ack := 0 }
  else if F.kind = 7 then { F with kind := 0, frm := 0, idN := 0, idP := 0, base := 0, it := [], ack := 0, safe := 0 }
  else zeroF
def knownB (F : PF) : Bool := decide (1 ≤ F.kind) && decide (F.kind ≤ 7)
def rightF (F : PF) : Bool := okF F.frm && numsB F && listsB F && (knownB F && zeroB (unn F))

def In64 (a : Int) : Prop := -9223372036854775808 ≤ a ∧ a ≤ 9223372036854775807
/-- Numbers that a frame's cells can hold. -/
structure POk (F : PF) : Prop where
  kind : F.kind < 256
  frm : In64 F.frm
  idN : F.idN < 18446744073709551616
  idP : In64 F.idP
  set : F.set < 65536
  curN : F.curN < 18446744073709551616
  curP : In64 F.curP
  promN : F.promN < 18446744073709551616
  promP : In64 F.promP
  st : ∀ s ∈ F.st, s.1 < 18446744073709551616 ∧ In64 s.2.1 ∧ In64 s.2.2.1
  base : F.base < 18446744073709551616
  ack : F.ack < 18446744073709551616
  safe : F.safe < 18446744073709551616
/-- Messages that are not too long. -/
structure Sm (F : PF) : Prop where
  st : ∀ s ∈ F.st, ∀ d ∈ s.2.2.2, d.2.length ≤ 1048576
  ms : ∀ m ∈ F.ms, m.length ≤ 1048576
  it : ∀ d ∈ F.it, d.2.length ≤ 1048576

theorem stOk_ok {s : Sd} (h : stOk s = true) (h1 : s.1 < 18446744073709551616) (h2 : ∀ d ∈ s.2.2.2, d.2.length ≤ 1048576) : okSt s ∧ s.2.2.1 ≤ 1073741824 := by
  unfold stOk formS at h
  simp only [Bool.and_eq_true, decide_eq_true_eq, List.all_eq_true] at h
  obtain ⟨a, ⟨⟨⟨b, c⟩, d⟩, _⟩, e⟩ := h
  exact ⟨⟨b, h1, c, a, fun x hx => ⟨e x hx, h2 x hx⟩⟩, d⟩

theorem rHead_back (F : PF) (t : List UInt8) (hk : F.kind ≤ 7) (hf : okF F.frm = true) : rHead (some ([UInt8.ofNat F.kind, pb F.frm] ++ t)) = ({ zeroF with kind := F.kind, frm := F.frm }, some t) := by
  simp only [okF, Bool.and_eq_true, decide_eq_true_eq] at hf
  obtain ⟨q, hq⟩ : ∃ q : Nat, F.frm = q := ⟨F.frm.toNat, by omega⟩
  rw [hq]
  have e : [UInt8.ofNat F.kind, pb (q : Int)] ++ t = Cd.enc F.kind ++ (Cd.enc q ++ t) := by
    rw [enc_small q (by omega), enc_small F.kind (by omega), pb_nat]
    rfl
  unfold rHead
  rw [e, rInt_back F.kind _ 7 (by omega) (by omega)]
  simp only [rInt_back q t 15 (by omega) (by omega)]

theorem known_cases {F : PF} (h : knownB F = true) : F.kind = 1 ∨ F.kind = 2 ∨ F.kind = 3 ∨ F.kind = 4 ∨ F.kind = 5 ∨ F.kind = 6 ∨ F.kind = 7 := by
  simp only [knownB, Bool.and_eq_true, decide_eq_true_eq] at h
  omega

set_option maxHeartbeats 1000000 in
/-- A right frame's bytes are read as it. -/
theorem rFrame_back (m : Int) (F : PF) (t : List UInt8) (h : rightF F = true) (ho : POk F) (hs : Sm F) (hm : 1073741824 ≤ m) (hm2 : m < 18446744073709551616) : rFrame m (some (wire F ++ t)) = (F, some t) := by
  obtain ⟨_, _, hidN, _, hset, hcurN, _, hpromN, _, hst, hbase, hack, hsafe⟩ := ho
  obtain ⟨hss, hsm, hsi⟩ := hs
  unfold rightF at h
  simp only [Bool.and_eq_true] at h
  obtain ⟨⟨⟨hf, hn⟩, hl⟩, hkn, hz⟩ := h
  have hk := known_cases hkn
  have hH := rHead_back F (headV F ++ (body F ++ t)) (by omega) hf
  unfold numsB at hn
  simp only [Bool.and_eq_true] at hn
  obtain ⟨_, ⟨hfi, hfc⟩, hfp⟩ := hn
  unfold listsB itsB at hl
  simp only [Bool.and_eq_true, decide_eq_true_eq] at hl
  obtain ⟨⟨_, ⟨hl1, hl2⟩, hl3, hl4⟩, hl5⟩ := hl
  have hS : ∀ s ∈ F.st, ∀ t, rState m (some (encS s ++ t)) = (s, some t) := fun s hs' t => by
    have := stOk_ok (List.all_eq_true.1 hl5 s hs') (hst s hs').1 (hss s hs')
    exact rState_back m s t this.1 (by omega) hm2
  have hI : ∀ d ∈ F.it, ∀ t, rItem (some (encI d ++ t)) = (d, some t) := fun d hd t => rItem_back d t (List.all_eq_true.1 hl4 d hd) (hsi d hd)
  have hM : ∀ m ∈ F.ms, ∀ t, rMsg (some (encM m ++ t)) = (m, some t) := fun m hm' t => rBytes_back m t (hsm m hm')
  obtain ⟨kind, frm, idN, idP, set, curN, curP, promN, promP, st, base, ms, it, ack, safe⟩ := F
  simp only at *
  unfold wire
  rw [List.append_assoc, List.append_assoc]
  unfold rFrame
  rw [hH]
  unfold unn zeroB at hz
  simp only [Bool.and_eq_true, decide_eq_true_eq, List.length_eq_zero_iff] at hz
  have hLS := fun t => rMany_back (en := encS) st t hl1 hS
  have hLI := fun t => rMany_back (en := encI) it t hl3 hI
  have hLM := fun t => rMany_back (en := encM) ms t hl2 hM
  obtain ⟨qi, rfl, hdi⟩ : ∃ q : Nat, idP = q ∧ ∀ t, decV (some (encV idN idP ++ t)) = ((idN, q), some t) := by
    obtain ⟨q, rfl, _⟩ := decV_back idN idP [] hfi hidN
    exact ⟨q, rfl, fun t => by obtain ⟨q', hq', h⟩ := decV_back idN q t hfi hidN; rw [show q = q' by omega]; rw [show q = q' by omega] at h; exact h⟩
  obtain ⟨qc, rfl, hdc⟩ : ∃ q : Nat, curP = q ∧ ∀ t, decV (some (encV curN curP ++ t)) = ((curN, q), some t) := by
    obtain ⟨q, rfl, _⟩ := decV_back curN curP [] hfc hcurN
    exact ⟨q, rfl, fun t => by obtain ⟨q', hq', h⟩ := decV_back curN q t hfc hcurN; rw [show q = q' by omega]; rw [show q = q' by omega] at h; exact h⟩
  obtain ⟨qp, rfl, hdp⟩ : ∃ q : Nat, promP = q ∧ ∀ t, decV (some (encV promN promP ++ t)) = ((promN, q), some t) := by
    obtain ⟨q, rfl, _⟩ := decV_back promN promP [] hfp hpromN
    exact ⟨q, rfl, fun t => by obtain ⟨q', hq', h⟩ := decV_back promN q t hfp hpromN; rw [show q = q' by omega]; rw [show q = q' by omega] at h; exact h⟩
  clear hH hS hI hM hfi hfc hfp
  rcases hk with rfl | rfl | rfl | rfl | rfl | rfl | rfl
  · simp at hz
    obtain ⟨⟨⟨⟨⟨⟨⟨rfl, rfl⟩, rfl⟩, rfl⟩, rfl, hz1⟩, rfl⟩, rfl⟩, rfl⟩ := hz
    obtain rfl : qi = 0 := by omega
    simp [rIdent, rBody, headV, body, List.append_assoc, hdc, hdp, zeroF]
  · simp at hz
    obtain ⟨⟨⟨⟨⟨⟨rfl, rfl⟩, rfl⟩, ⟨rfl, hz1⟩, rfl, hz2⟩, rfl⟩, rfl⟩, rfl⟩ := hz
    obtain rfl : qc = 0 := by omega
    obtain rfl : qp = 0 := by omega
    simp [rIdent, rBody, headV, body, List.append_assoc, hdi, zeroF, rInt_back set t 65535 (by omega) (by omega)]
  · simp at hz
    obtain ⟨⟨⟨⟨⟨⟨rfl, rfl⟩, rfl⟩, rfl⟩, ⟨rfl, hz1⟩, rfl, hz2⟩, rfl⟩, rfl⟩ := hz
    obtain rfl : qc = 0 := by omega
    obtain rfl : qp = 0 := by omega
    simp [rIdent, rBody, headV, body, List.append_assoc, hdi, zeroF, hLS]
  · simp at hz
    obtain ⟨⟨⟨⟨⟨⟨⟨rfl, rfl⟩, rfl⟩, rfl⟩, rfl, hz1⟩, rfl⟩, rfl⟩, rfl⟩ := hz
    obtain rfl : qc = 0 := by omega
    simp [rIdent, rBody, headV, body, List.append_assoc, hdi, hdp, zeroF]
  · simp at hz
    obtain ⟨⟨⟨⟨⟨rfl, rfl⟩, rfl⟩, ⟨rfl, hz1⟩, rfl, hz2⟩, rfl⟩, rfl⟩ := hz
    obtain rfl : qc = 0 := by omega
    obtain rfl : qp = 0 := by omega
    simp [rIdent, rBody, headV, body, List.append_assoc, hdi, zeroF, hLS, rInt_back set _ 65535 (show set < 18446744073709551616 by omega) (by omega)]
  · simp at hz
    obtain ⟨⟨⟨⟨rfl, rfl⟩, ⟨rfl, hz1⟩, rfl, hz2⟩, rfl⟩, rfl⟩ := hz
    obtain rfl : qc = 0 := by omega
    obtain rfl : qp = 0 := by omega
    simp [rIdent, rBody, headV, body, List.append_assoc, hdi, zeroF, hLM, rUint_back base _ hbase, rUint_back ack _ hack]
  · simp at hz
    obtain ⟨⟨⟨rfl, ⟨rfl, hz1⟩, rfl, hz2⟩, rfl⟩, rfl⟩ := hz
    obtain rfl : qc = 0 := by omega
    obtain rfl : qp = 0 := by omega
    simp [rIdent, rBody, headV, body, List.append_assoc, hdi, zeroF, hLI, rUint_back base _ hbase, rUint_back ack _ hack, rUint_back safe _ hsafe]
end Go.Proofs.Ytfemjbaadnjanaa
