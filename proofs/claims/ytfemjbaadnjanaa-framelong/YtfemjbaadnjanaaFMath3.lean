/-
  Plain mathematics of frames as bytes: bytes that are read as a frame are its; bytes that are laid one behind the other.
-/
import Derived.Test.YtfemjbaadnjanaaFMath2
import Derived.Test.YtfemjbaadnjanaaCdRefOpen
namespace Go.Proofs.Ytfemjbaadnjanaa
set_option linter.unusedVariables false
set_option linter.unusedSimpArgs false

theorem in64_nat {n : Nat} (h : (n : Int) ≤ 9223372036854775807) : In64 (n : Int) := ⟨by omega, h⟩
theorem okSt_in {s : Sd} {m : Int} (h : okSt s) (hm : s.2.2.1 ≤ m) (hm2 : m ≤ 9223372036854775807) : s.1 < 18446744073709551616 ∧ In64 s.2.1 ∧ In64 s.2.2.1 := by
  have := formV_p' h.1
  exact ⟨h.2.1, ⟨by omega, by omega⟩, ⟨by have := h.2.2.1; omega, by omega⟩⟩
theorem formV_in {n p : Nat} (h : formV n (p : Int) = true) : In64 (p : Int) := by
  have := formV_p' h
  exact ⟨by omega, by omega⟩

set_option maxHeartbeats 1000000 in
theorem rBody_some {m : Int} {F : PF} {st : St} {ys : List UInt8} (h : (rBody m F st).2 = some ys) (hm2 : m ≤ 9223372036854775807) :
    (∃ xs, st = some xs ∧ xs = body (rBody m F st).1 ++ ys) ∧ (POk F → Sm F → POk (rBody m F st).1 ∧ Sm (rBody m F st).1) := by
  unfold rBody at *
  have hS : ∀ {st : St} {ys : List UInt8}, (rMany (rState m) st).2 = some ys → ∃ xs, st = some xs ∧ xs = encL encS (rMany (rState m) st).1 ++ ys ∧ (rMany (rState m) st).1.length ≤ 4096 ∧ ∀ x ∈ (rMany (rState m) st).1, (okSt x ∧ x.2.2.1 ≤ m) := fun h => rMany_some (r := rState m) (en := encS) (P := fun s => okSt s ∧ s.2.2.1 ≤ m) (fun st ys h => rState_some h) h
  have hI : ∀ {st : St} {ys : List UInt8}, (rMany rItem st).2 = some ys → ∃ xs, st = some xs ∧ xs = encL encI (rMany rItem st).1 ++ ys ∧ (rMany rItem st).1.length ≤ 4096 ∧ ∀ x ∈ (rMany rItem st).1, (okF x.1 = true ∧ x.2.length ≤ 1048576) := fun h => rMany_some (r := rItem) (en := encI) (P := fun d => okF d.1 = true ∧ d.2.length ≤ 1048576) (fun st ys h => rItem_some h) h
  have hM : ∀ {st : St} {ys : List UInt8}, (rMany rMsg st).2 = some ys → ∃ xs, st = some xs ∧ xs = encL encM (rMany rMsg st).1 ++ ys ∧ (rMany rMsg st).1.length ≤ 4096 ∧ ∀ x ∈ (rMany rMsg st).1, x.length ≤ 1048576 := fun h => rMany_some (r := rMsg) (en := encM) (P := fun d => d.length ≤ 1048576) (fun st ys h => rMsg_some h) h
  by_cases k1 : F.kind = 1
  · rw [if_pos k1] at h ⊢
    simp only at h
    obtain ⟨us, ha, hx, hf, hlt⟩ := decV_some h
    obtain ⟨xs, rfl, hx2, hf2, hlt2⟩ := decV_some ha
    refine ⟨⟨xs, rfl, ?_⟩, fun ho hs => ⟨{ ho with curN := hlt2, curP := formV_in hf2, promN := hlt, promP := formV_in hf }, ⟨hs.st, hs.ms, hs.it⟩⟩⟩
    unfold body
    dsimp only
    rw [if_pos k1]
    simp only [List.append_assoc]
    rw [← hx]; exact hx2
  by_cases k2 : F.kind = 2
  · rw [if_neg k1, if_pos k2] at h ⊢
    simp only at h
    obtain ⟨xs, rfl, hx, hle, hlt⟩ := rInt_some h
    refine ⟨⟨xs, rfl, ?_⟩, fun ho hs => ⟨{ ho with set := (by show (Cd.rInt (some xs) 65535).1 < 65536; omega) }, ⟨hs.st, hs.ms, hs.it⟩⟩⟩
    unfold body
    dsimp only
    rw [if_neg k1, if_pos k2]
    exact hx
  by_cases k3 : F.kind = 3
  · rw [if_neg k1, if_neg k2, if_pos k3] at h ⊢
    simp only at h
    obtain ⟨xs, rfl, hx, hle, hP⟩ := hS h
    refine ⟨⟨xs, rfl, ?_⟩, fun ho hs => ⟨{ ho with st := fun s hs => okSt_in (hP s hs).1 (hP s hs).2 hm2 }, ⟨fun s hs d hd => ((hP s hs).1.2.2.2.2 d hd).2, hs.ms, hs.it⟩⟩⟩
    unfold body
    dsimp only
    rw [if_neg k1, if_neg k2, if_pos k3]
    exact hx
  by_cases k4 : F.kind = 4
  · rw [if_neg k1, if_neg k2, if_neg k3, if_pos k4] at h ⊢
    simp only at h
    obtain ⟨xs, rfl, hx, hf, hlt⟩ := decV_some h
    refine ⟨⟨xs, rfl, ?_⟩, fun ho hs => ⟨{ ho with promN := hlt, promP := formV_in hf }, ⟨hs.st, hs.ms, hs.it⟩⟩⟩
    unfold body
    dsimp only
    rw [if_neg k1, if_neg k2, if_neg k3, if_pos k4]
    exact hx
  by_cases k5 : F.kind = 5
  · rw [if_neg k1, if_neg k2, if_neg k3, if_neg k4, if_pos k5] at h ⊢
    simp only at h
    obtain ⟨us, ha, hx, hle, hP⟩ := hS h
    obtain ⟨xs, rfl, hx2, hle2, hlt⟩ := rInt_some ha
    refine ⟨⟨xs, rfl, ?_⟩, fun ho hs => ⟨{ ho with set := (by show (Cd.rInt (some xs) 65535).1 < 65536; omega), st := fun s hs => okSt_in (hP s hs).1 (hP s hs).2 hm2 }, ⟨fun s hs d hd => ((hP s hs).1.2.2.2.2 d hd).2, hs.ms, hs.it⟩⟩⟩
    unfold body
    dsimp only
    rw [if_neg k1, if_neg k2, if_neg k3, if_neg k4, if_pos k5]
    simp only [List.append_assoc]
    exact hx2.trans (by rw [← hx])
  by_cases k6 : F.kind = 6
  · rw [if_neg k1, if_neg k2, if_neg k3, if_neg k4, if_neg k5, if_pos k6] at h ⊢
    simp only at h
    obtain ⟨us, ha, hx, hle, hP⟩ := hM h
    obtain ⟨bs, hb, hx2, hlt2⟩ := rUint_some ha
    obtain ⟨xs, rfl, hx3, hlt3⟩ := rUint_some hb
    refine ⟨⟨xs, rfl, ?_⟩, fun ho hs => ⟨{ ho with base := hlt3, ack := hlt2 }, ⟨hs.st, hP, hs.it⟩⟩⟩
    unfold body
    dsimp only
    rw [if_neg k1, if_neg k2, if_neg k3, if_neg k4, if_neg k5, if_pos k6]
    simp only [List.append_assoc]
    exact hx3.trans (by rw [← hx, ← hx2])
  by_cases k7 : F.kind = 7
  · rw [if_neg k1, if_neg k2, if_neg k3, if_neg k4, if_neg k5, if_neg k6, if_pos k7] at h ⊢
    simp only at h
    obtain ⟨us, ha, hx, hle, hP⟩ := hI h
    obtain ⟨bs, hb, hx2, hlt2⟩ := rUint_some ha
    obtain ⟨cs, hc, hx3, hlt3⟩ := rUint_some hb
    obtain ⟨xs, rfl, hx4, hlt4⟩ := rUint_some hc
    refine ⟨⟨xs, rfl, ?_⟩, fun ho hs => ⟨{ ho with base := hlt4, ack := hlt3, safe := hlt2 }, ⟨hs.st, hs.ms, fun d hd => (hP d hd).2⟩⟩⟩
    unfold body
    dsimp only
    rw [if_neg k1, if_neg k2, if_neg k3, if_neg k4, if_neg k5, if_neg k6, if_pos k7]
    simp only [List.append_assoc]
    exact hx4.trans (by rw [← hx, ← hx2, ← hx3])
  · simp only [k1, k2, k3, k4, k5, k6, k7, if_false] at h ⊢
    exact ⟨⟨ys, h, by simp [body, k1, k2, k3, k4, k5, k6, k7]⟩, fun ho hs => ⟨ho, hs⟩⟩
theorem rBody_same (m : Int) (F : PF) (st : St) : (rBody m F st).1.kind = F.kind ∧ (rBody m F st).1.frm = F.frm ∧ (rBody m F st).1.idN = F.idN ∧ (rBody m F st).1.idP = F.idP := by
  unfold rBody
  repeat' split
  all_goals exact ⟨rfl, rfl, rfl, rfl⟩
theorem headV_same {F G : PF} (h1 : F.kind = G.kind) (h2 : F.idN = G.idN) (h3 : F.idP = G.idP) : headV F = headV G := by
  unfold headV
  rw [h1, h2, h3]
theorem rIdent_some {F : PF} {st : St} {ys : List UInt8} (h : (rIdent F st).2 = some ys) :
    (∃ xs, st = some xs ∧ xs = headV (rIdent F st).1 ++ ys) ∧ (POk F → Sm F → POk (rIdent F st).1 ∧ Sm (rIdent F st).1) ∧ (rIdent F st).1.kind = F.kind ∧ (rIdent F st).1.frm = F.frm := by
  unfold rIdent at *
  by_cases k1 : F.kind = 1
  · simp only [k1, if_true] at h ⊢
    exact ⟨⟨ys, h, by simp [headV, k1]⟩, fun ho hs => ⟨ho, hs⟩, trivial, trivial⟩
  · simp only [k1, if_false] at h ⊢
    obtain ⟨xs, rfl, hx, hf, hlt⟩ := decV_some h
    refine ⟨⟨xs, rfl, ?_⟩, fun ho hs => ⟨{ ho with idN := hlt, idP := formV_in hf }, ⟨hs.st, hs.ms, hs.it⟩⟩, trivial, trivial⟩
    simp only [headV, k1, if_false]
    exact hx
/-- What is read as a frame is its bytes. -/
theorem rFrame_some {m : Int} {st : St} {ys : List UInt8} (h : (rFrame m st).2 = some ys) (hm2 : m ≤ 9223372036854775807) :
    (∃ xs, st = some xs ∧ xs = wire (rFrame m st).1 ++ ys) ∧ POk (rFrame m st).1 ∧ Sm (rFrame m st).1 := by
  have hz : Sm (rHead st).1 := ⟨fun s hs => absurd hs List.not_mem_nil, fun s hs => absurd hs List.not_mem_nil, fun s hs => absurd hs List.not_mem_nil⟩
  unfold rFrame at *
  obtain ⟨e1, e2, e3, e4⟩ := rBody_same m (rIdent (rHead st).1 (rHead st).2).1 (rIdent (rHead st).1 (rHead st).2).2
  obtain ⟨⟨us0, ha, hxa⟩, hoB⟩ := rBody_some h hm2
  obtain ⟨⟨bs, hb, hxb⟩, hoI, e5, e6⟩ := rIdent_some ha
  have hb' : (Cd.rInt (Cd.rInt st 7).2 15).2 = some bs := hb
  obtain ⟨us, hu, hx, hle, _⟩ := rInt_some hb'
  obtain ⟨xs, hst, hx2, hle2, _⟩ := rInt_some hu
  have ho : POk (rHead st).1 := by
    refine ⟨(by show (Cd.rInt st 7).1 < 256; omega), in64_nat (by omega), ?_, ?_, ?_, ?_, ?_, ?_, ?_, fun s hs => absurd hs List.not_mem_nil, ?_, ?_, ?_⟩
    all_goals simp [rHead, zeroF, In64]
  obtain ⟨ho2, hs2⟩ := hoI ho hz
  refine ⟨⟨xs, hst, ?_⟩, hoB ho2 hs2⟩
  unfold wire
  rw [e1, e2, e5, e6, headV_same e1 e3 e4, List.append_assoc, List.append_assoc, ← hxa, ← hxb]
  show xs = [UInt8.ofNat (Cd.rInt st 7).1, pb ((Cd.rInt (Cd.rInt st 7).2 15).1 : Nat)] ++ bs
  rw [pb_nat]
  refine hx2.trans ?_
  rw [enc_small _ (by omega), hx, enc_small _ (by omega)]
  rfl

/-! ### Bytes that are laid one behind the other, up to so many -/
def layS (st : St) (ys : List UInt8) : St := match st with
  | none => none
  | some xs => if xs.length + ys.length ≤ 1048576 then some (xs ++ ys) else none
theorem layS_layS (st : St) (a b : List UInt8) : layS (layS st a) b = layS st (a ++ b) := by
  cases st with
  | none => rfl
  | some xs =>
    simp only [layS]
    by_cases h : xs.length + a.length ≤ 1048576
    · rw [if_pos h]
      simp only [List.length_append, List.append_assoc]
      by_cases h2 : xs.length + a.length + b.length ≤ 1048576
      · rw [if_pos h2, if_pos (by omega)]
      · rw [if_neg h2, if_neg (by omega)]
    · rw [if_neg h, if_neg (by rw [List.length_append]; omega)]
theorem layS_none (ys : List UInt8) : layS none ys = none := rfl
/-- Room for so many more. -/
def room (st : St) (k : Nat) : Bool := match st with
  | none => false
  | some xs => decide (xs.length + k ≤ 1048576)
theorem layS_room (st : St) (ys : List UInt8) (h : room st ys.length = true) : ∃ xs, st = some xs ∧ layS st ys = some (xs ++ ys) ∧ xs.length + ys.length ≤ 1048576 := by
  cases st with
  | none => cases h
  | some xs =>
    have h' : xs.length + ys.length ≤ 1048576 := by simpa [room] using h
    exact ⟨xs, rfl, by simp only [layS]; rw [if_pos h'], h'⟩
theorem layS_full (st : St) (ys : List UInt8) (h : room st ys.length = false) : layS st ys = none := by
  cases st with
  | none => rfl
  | some xs =>
    have h' : ¬ xs.length + ys.length ≤ 1048576 := by simpa [room] using h
    simp only [layS]
    rw [if_neg h']
theorem room_less {st : St} {k l : Nat} (h : room st k = false) (hl : k ≤ l) : room st l = false := by
  cases st with
  | none => rfl
  | some xs =>
    have h' : ¬ xs.length + k ≤ 1048576 := by simpa [room] using h
    simp only [room, decide_eq_false_iff_not]
    omega

/-! ### Messages are not longer than the bytes that hold them -/
theorem mem_flat_len {α : Type} {en : α → List UInt8} : ∀ {l : List α} {x : α}, x ∈ l → (en x).length ≤ (l.flatMap en).length
  | [], x, h => by cases h
  | a :: l, x, h => by
    rw [List.flatMap_cons, List.length_append]
    rcases List.mem_cons.1 h with rfl | h
    · omega
    · have := mem_flat_len (en := en) h; omega
theorem mem_encL_len {α : Type} {en : α → List UInt8} {l : List α} {x : α} (h : x ∈ l) : (en x).length ≤ (encL en l).length := by
  have := mem_flat_len (en := en) h
  unfold encL
  rw [List.length_append]
  omega
theorem encM_len (m : List UInt8) : m.length ≤ (encM m).length := by simp [encM]
theorem encI_len (d : Di) : d.2.length ≤ (encI d).length := by have := encM_len d.2; simp [encI]; omega
/-- What a right frame's kind does not name is empty; what it names is in its bytes. -/
theorem wire_small {F : PF} (h : rightF F = true) (hl : (wire F).length ≤ 1048576) : Sm F := by
  unfold rightF at h
  simp only [Bool.and_eq_true] at h
  obtain ⟨_, hkn, hz⟩ := h
  have hk := known_cases hkn
  have hb : (body F).length ≤ 1048576 := by
    have : (wire F).length = 2 + ((headV F).length + (body F).length) := by simp [wire]; omega
    omega
  have hS : (encL encS F.st).length ≤ 1048576 → ∀ s ∈ F.st, ∀ d ∈ s.2.2.2, d.2.length ≤ 1048576 := fun h s hs d hd => by
    have h1 := mem_encL_len (en := encS) hs
    have h2 := mem_encL_len (en := encI) hd
    have h3 := encI_len d
    have h4 : (encL encI s.2.2.2).length ≤ (encS s).length := by simp [encS]; omega
    omega
  have hI : (encL encI F.it).length ≤ 1048576 → ∀ d ∈ F.it, d.2.length ≤ 1048576 := fun h d hd => by
    have h1 := mem_encL_len (en := encI) hd
    have h3 := encI_len d
    omega
  have hM : (encL encM F.ms).length ≤ 1048576 → ∀ m ∈ F.ms, m.length ≤ 1048576 := fun h d hd => by
    have h1 := mem_encL_len (en := encM) hd
    have h3 := encM_len d
    omega
  unfold unn zeroB at hz
  simp only [Bool.and_eq_true, decide_eq_true_eq, List.length_eq_zero_iff] at hz
  unfold body at hb
  rcases hk with k | k | k | k | k | k | k
  all_goals simp only [k] at hz hb
  all_goals simp at hz hb
  · exact ⟨by rw [hz.1.1.2]; simp, by rw [hz.1.2]; simp, by rw [hz.2]; simp⟩
  · exact ⟨by rw [hz.1.1.2]; simp, by rw [hz.1.2]; simp, by rw [hz.2]; simp⟩
  · exact ⟨hS hb, by rw [hz.1.2]; simp, by rw [hz.2]; simp⟩
  · exact ⟨by rw [hz.1.1.2]; simp, by rw [hz.1.2]; simp, by rw [hz.2]; simp⟩
  · exact ⟨hS (by omega), by rw [hz.1.2]; simp, by rw [hz.2]; simp⟩
  · exact ⟨by rw [hz.1.2]; simp, hM (by omega), by rw [hz.2]; simp⟩
  · exact ⟨by rw [hz.1.2]; simp, by rw [hz.2]; simp, hI (by omega)⟩
/-- Right frames that have the same bytes are one. -/
theorem wire_inj {F G : PF} (hF : rightF F = true) (hG : rightF G = true) (oF : POk F) (oG : POk G) (sF : Sm F) (sG : Sm G) (h : wire F = wire G) : F = G := by
  have h1 := rFrame_back 1073741824 F [] hF oF sF (by omega) (by omega)
  have h2 := rFrame_back 1073741824 G [] hG oG sG (by omega) (by omega)
  rw [h, h2] at h1
  exact (congrArg Prod.fst h1).symm
/-! ### The frame of some bytes -/
def decF (m : Int) (b : List UInt8) : Nat × PF :=
  if 1048576 < b.length then (2, zeroF)
  else if (Cd.opened b).1 ≠ 0 then ((Cd.opened b).1, zeroF)
  else if (rFrame m (some (Cd.opened b).2)).2 = some [] ∧ rightF (rFrame m (some (Cd.opened b).2)).1 = true then (0, (rFrame m (some (Cd.opened b).2)).1)
  else (3, zeroF)
def sealB (xs : List UInt8) : List UInt8 := xs ++ Cd.le4 (Cd.crcSum xs)
theorem sealB_len (xs : List UInt8) : (sealB xs).length = xs.length + 4 := by simp [sealB, Cd.le4_len]
theorem opened_ok {b : List UInt8} (h : (Cd.opened b).1 = 0) : b = sealB (Cd.opened b).2 := by
  unfold Cd.opened at *
  split at h
  · cases h
  · rename_i h4
    split at h
    · rename_i he
      rw [if_neg h4, if_pos he]
      unfold sealB
      simp only
      rw [he, List.take_append_drop]
    · cases h
theorem opened_seal (xs : List UInt8) : Cd.opened (sealB xs) = (0, xs) := by
  have hl := sealB_len xs
  unfold Cd.opened
  rw [if_neg (by omega), hl]
  have e : xs.length + 4 - 4 = xs.length := by omega
  rw [e]
  have t : (sealB xs).take xs.length = xs := by simp [sealB]
  have d : (sealB xs).drop xs.length = Cd.le4 (Cd.crcSum xs) := by simp [sealB]
  rw [t, d, if_pos rfl]
theorem opened_len (b : List UInt8) : (Cd.opened b).2.length ≤ b.length := by
  unfold Cd.opened
  split
  · simp
  · split <;> simp
/-- How far a floor may be asked does not matter: a right frame's is not that far. -/
theorem decF_any (m m' : Int) (b : List UInt8) (h1 : 1073741824 ≤ m) (h2 : m ≤ 9223372036854775807) (h1' : 1073741824 ≤ m') (h2' : m' ≤ 9223372036854775807) : decF m b = decF m' b := by
  have key : ∀ (m m' : Int), 1073741824 ≤ m → m ≤ 9223372036854775807 → 1073741824 ≤ m' → m' ≤ 9223372036854775807 → ∀ xs, (rFrame m (some xs)).2 = some [] ∧ rightF (rFrame m (some xs)).1 = true → rFrame m' (some xs) = rFrame m (some xs) := fun m m' a1 a2 b1 b2 xs h => by
    obtain ⟨⟨xs', he, hx⟩, ho, hs⟩ := rFrame_some h.1 a2
    simp only [Option.some.injEq] at he
    subst he
    have := rFrame_back m' (rFrame m (some xs)).1 [] h.2 ho hs b1 (by omega)
    rw [← hx] at this
    rw [this, ← h.1]
  unfold decF
  by_cases h0 : 1048576 < b.length
  · rw [if_pos h0, if_pos h0]
  rw [if_neg h0, if_neg h0]
  by_cases h3 : (Cd.opened b).1 ≠ 0
  · rw [if_pos h3, if_pos h3]
  rw [if_neg h3, if_neg h3]
  generalize (Cd.opened b).2 = xs
  by_cases hc : (rFrame m (some xs)).2 = some [] ∧ rightF (rFrame m (some xs)).1 = true
  · rw [if_pos hc, key m m' h1 h2 h1' h2' xs hc, if_pos hc]
  · by_cases hc' : (rFrame m' (some xs)).2 = some [] ∧ rightF (rFrame m' (some xs)).1 = true
    · rw [if_pos hc', key m' m h1' h2' h1 h2 xs hc', if_pos hc']
    · rw [if_neg hc, if_neg hc']
theorem decF_seal (m : Int) (F : PF) (h : rightF F = true) (ho : POk F) (hl : (wire F).length + 4 ≤ 1048576) (h1 : 1073741824 ≤ m) (h2 : m ≤ 9223372036854775807) : decF m (sealB (wire F)) = (0, F) := by
  have hs := wire_small h (by omega)
  have hb := rFrame_back m F [] h ho hs h1 (by omega)
  rw [List.append_nil] at hb
  unfold decF
  rw [sealB_len, if_neg (by omega), opened_seal, if_neg (by simp), hb, if_pos ⟨rfl, h⟩]
theorem decF_ok {m : Int} {b : List UInt8} (h : (decF m b).1 = 0) (h2 : m ≤ 9223372036854775807) : b = sealB (wire (decF m b).2) ∧ rightF (decF m b).2 = true ∧ POk (decF m b).2 ∧ Sm (decF m b).2 := by
  unfold decF at *
  by_cases h0 : 1048576 < b.length
  · rw [if_pos h0] at h; cases h
  rw [if_neg h0] at h ⊢
  by_cases h3 : (Cd.opened b).1 ≠ 0
  · rw [if_pos h3] at h; exact absurd h h3
  rw [if_neg h3] at h ⊢
  by_cases hc : (rFrame m (some (Cd.opened b).2)).2 = some [] ∧ rightF (rFrame m (some (Cd.opened b).2)).1 = true
  · rw [if_pos hc]
    obtain ⟨⟨xs', he, hx⟩, ho, hs⟩ := rFrame_some hc.1 h2
    simp only [Option.some.injEq] at he
    subst he
    rw [List.append_nil] at hx
    refine ⟨?_, hc.2, ho, hs⟩
    rw [← hx]
    exact opened_ok (by simpa using h3)
  · rw [if_neg hc] at h; cases h
end Go.Proofs.Ytfemjbaadnjanaa
