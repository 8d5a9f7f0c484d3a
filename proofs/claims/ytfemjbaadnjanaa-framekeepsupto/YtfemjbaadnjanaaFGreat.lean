/-
  How much a frame holds, by the document's answer; frames that do not hold much have few bytes.
-/
import Derived.Test.YtfemjbaadnjanaaFRight2
namespace Go.Proofs.Ytfemjbaadnjanaa
open Go.RowKit
set_option linter.unusedVariables false
set_option linter.unusedSimpArgs false

def mtot (l : List (List UInt8)) : Nat := (l.map List.length).sum
def itot (l : List Di) : Nat := (l.map (fun d => d.2.length)).sum
def stot (l : List Sd) : Nat := (l.map (fun s => s.2.2.2.length + itot s.2.2.2)).sum
def tot (F : PF) : Nat := F.ms.length + F.it.length + F.st.length + mtot F.ms + itot F.it + stot F.st
theorem sum_take {α : Type} (f : α → Nat) {l : List α} {k : Nat} {x : α} (h : l[k]? = some x) : ((l.take (k + 1)).map f).sum = ((l.take k).map f).sum + f x := by
  rw [List.take_add_one, h]
  simp
theorem sum_take_le {α : Type} (f : α → Nat) (l : List α) (k : Nat) : ((l.take k).map f).sum ≤ (l.map f).sum := by
  have h := congrArg (fun l => (l.map f).sum) (List.take_append_drop k l)
  simp only [List.map_append, List.sum_append] at h
  omega
theorem mem_sum {α : Type} (f : α → Nat) {l : List α} {x : α} (h : x ∈ l) : f x ≤ (l.map f).sum := by
  induction l with
  | nil => cases h
  | cons a l ih =>
    rw [List.map_cons, List.sum_cons]
    rcases List.mem_cons.1 h with rfl | h
    · omega
    · have := ih h; omega
theorem flat_le {α : Type} (en : α → List UInt8) (f : α → Nat) (c : Nat) (h : ∀ x, (en x).length ≤ c + f x) : ∀ l : List α, (l.flatMap en).length ≤ c * l.length + (l.map f).sum
  | [] => by simp
  | a :: l => by
    have h1 := flat_le en f c h l
    have h2 := h a
    rw [List.flatMap_cons, List.length_append, List.map_cons, List.sum_cons, List.length_cons, Nat.mul_add]
    omega
theorem encM_le (m : List UInt8) : (encM m).length ≤ 10 + m.length := by
  have := Cd.enc_length m.length
  unfold encM
  rw [List.length_append]; omega
theorem encI_le (d : Di) : (encI d).length ≤ 11 + d.2.length := by
  have := encM_le d.2
  simp [encI]; omega
theorem encV_le (n : Nat) (p : Int) : (encV n p).length ≤ 11 := by
  have := Cd.enc_length n
  simp [encV]; omega
theorem encL_le {α : Type} (en : α → List UInt8) (f : α → Nat) (c : Nat) (h : ∀ x, (en x).length ≤ c + f x) (l : List α) : (encL en l).length ≤ 10 + (c * l.length + (l.map f).sum) := by
  have h1 := flat_le en f c h l
  have h2 := Cd.enc_length l.length
  unfold encL
  rw [List.length_append]; omega
theorem encS_le (s : Sd) : (encS s).length ≤ 31 + 11 * (s.2.2.2.length + itot s.2.2.2) := by
  have h1 := encV_le s.1 s.2.1
  have h2 := Cd.enc_length s.2.2.1.toNat
  have h3 := encL_le encI (fun d => d.2.length) 11 encI_le s.2.2.2
  have h4 : (s.2.2.2.map (fun d => d.2.length)).sum = itot s.2.2.2 := rfl
  unfold encS
  rw [List.length_append, List.length_append]
  omega
theorem sum_mul {α : Type} (c : Nat) (f : α → Nat) : ∀ l : List α, (l.map (fun x => c * f x)).sum = c * (l.map f).sum
  | [] => by simp
  | a :: l => by rw [List.map_cons, List.sum_cons, List.map_cons, List.sum_cons, sum_mul c f l, Nat.mul_add]
theorem wire_le (F : PF) : (wire F).length ≤ 200 + 40 * tot F := by
  have h1 := encV_le F.idN F.idP
  have h2 := encV_le F.curN F.curP
  have h3 := encV_le F.promN F.promP
  have h4 := Cd.enc_length F.set
  have h5 := Cd.enc_length F.base
  have h6 := Cd.enc_length F.ack
  have h7 := Cd.enc_length F.safe
  have h8 := encL_le encM List.length 10 encM_le F.ms
  have h9 := encL_le encI (fun d => d.2.length) 11 encI_le F.it
  have h10 := encL_le encS (fun s => 11 * (s.2.2.2.length + itot s.2.2.2)) 31 encS_le F.st
  rw [sum_mul 11 (fun s : Sd => s.2.2.2.length + itot s.2.2.2)] at h10
  have e8 : (F.ms.map List.length).sum = mtot F.ms := rfl
  have e9 : (F.it.map (fun d => d.2.length)).sum = itot F.it := rfl
  have e10 : (F.st.map (fun s => s.2.2.2.length + itot s.2.2.2)).sum = stot F.st := rfl
  rw [e8] at h8
  rw [e9] at h9
  rw [e10] at h10
  have ht : tot F = F.ms.length + F.it.length + F.st.length + mtot F.ms + itot F.it + stot F.st := rfl
  have hh : (headV F).length ≤ 11 := by
    unfold headV
    by_cases hk : F.kind = 1
    · rw [if_pos hk]; simp
    · rw [if_neg hk]; exact h1
  have hb : (body F).length ≤ 150 + 40 * tot F := by
    unfold body
    repeat' split
    all_goals (try simp only [List.length_append, List.length_nil])
    all_goals omega
  have : (wire F).length = 2 + ((headV F).length + (body F).length) := by simp [wire]; omega
  omega

set_option maxRecDepth 20000 in
set_option maxHeartbeats 2000000 in
theorem great_any' (p : Nat → Prop) (w : World) (F : PF) (a : Fa) (h : FIn p w F a) (hb : tot F ≤ 1048576) :
    Calls Try.prog 10 #[fval F a] w fun e w' => e = .returned (.bool (decide (20000 < tot F))) ∧ Up w w' := by
  obtain ⟨w0, hw0, hu0, hb0⟩ := boxed w F a
  have HI : Hid (FIn p w0 F a) := h.up hu0.bl
  have c9 := hb0.c9
  have c11 := hb0.c11
  have c12 := hb0.c12
  have ht : tot F = F.ms.length + F.it.length + F.st.length + mtot F.ms + itot F.it + stot F.st := rfl
  obtain ⟨sn, hsn⟩ : ∃ sn, F.st.length = sn := ⟨_, rfl⟩
  obtain ⟨mn, hmn⟩ : ∃ mn, F.ms.length = mn := ⟨_, rfl⟩
  obtain ⟨inn, hinn⟩ : ∃ inn, F.it.length = inn := ⟨_, rfl⟩
  obtain ⟨MS, hms, hml, hmx⟩ := HI.out.ms
  obtain ⟨IS, his, hil, hix⟩ := HI.out.it
  obtain ⟨SS, hss, hsl, hsx⟩ := HI.out.st
  rw [hsn, hmn, hinn] at ht
  rw [hmn] at hms
  rw [hinn] at his
  rw [hsn] at hss
  have HT : Hid (tot F = mn + inn + sn + mtot F.ms + itot F.it + stot F.st) := ht
  have HM : Hid (MR p w0 a.mo mn MS ∧ ∀ (j : Nat) x m, MS[j]? = some x → F.ms[j]? = some m → Rx p w0 x.1 x.2.1 x.2.2 m) := ⟨hms, hmx⟩
  have HIT : Hid (IR p w0 a.io inn IS ∧ ∀ (j : Nat) (x : Ix) (d : Di), IS[j]? = some x → F.it[j]? = some d → ItX p w0 x d) := ⟨his, hix⟩
  have HST : Hid (SR p w0 a.so sn SS ∧ ∀ (j : Nat) (x : Sx) (d : Sd), SS[j]? = some x → F.st[j]? = some d → SiX p w0 x d) := ⟨hss, hsx⟩
  have HL : Hid (MS.length = mn ∧ IS.length = inn ∧ SS.length = sn ∧ F.ms.length = mn ∧ F.it.length = inn ∧ F.st.length = sn) := ⟨hms.1, his.1, hss.1, hmn, hinn, hsn⟩
  unfold fval fcells
  simp only [hsn, hmn, hinn] at hw0 c9 c11 c12 ⊢
  have HB : Hid (mn + inn + sn + mtot F.ms + itot F.it + stot F.st ≤ 1048576) := by show _ ≤ _; omega
  obtain ⟨r, HR⟩ : ∃ r, Hid (decide (20000 < tot F) = r) := ⟨_, rfl⟩
  rw [HR.out]
  have hmn9 : mn ≤ 1048576 := by have := HB.out; omega
  have hin9 : inn ≤ 1048576 := by have := HB.out; omega
  have hsn9 : sn ≤ 1048576 := by have := HB.out; omega
  clear h hb0 ht hms hmx his hix hss hsx hml hil hsl hmn hinn hsn HI hb
  go_enter Try.func10, Try.ntmps10
  go_wp2
  go_loop [3, 4] (fun nv iv => ∃ k : Nat, k ≤ mn ∧ iv = .int .i64 k ∧ nv = .int .i64 ((mn + inn + sn + mtot (F.ms.take k) : Nat) : Int)) (fun _ iv => mn - (intOf iv).toNat)
  case atStart => exact ⟨0, by omega, rfl, by simp [mtot]⟩
  case round =>
    obtain ⟨k, hk, rfl, rfl⟩ := hrel
    have hk0 : ¬ ((k : Int) < 0) := by omega
    have HP : Hid (mn + inn + sn + mtot (F.ms.take k) ≤ 1048576) := by have := HB.out; have := sum_take_le List.length F.ms k; show _ ≤ _; unfold mtot at *; omega
    by_cases hlt : k < mn
    · have hltI : (k : Int) < (mn : Int) := by omega
      obtain ⟨hL1, _, _, hL4, _, _⟩ := HL.out
      obtain ⟨x, hx⟩ : ∃ x, MS[k]? = some x := ⟨MS[k]'(by omega), List.getElem?_eq_getElem (by omega)⟩
      obtain ⟨m, hm⟩ : ∃ m, F.ms[k]? = some m := ⟨F.ms[k]'(by omega), List.getElem?_eq_getElem (by omega)⟩
      obtain ⟨b, off, hao, _, hc⟩ := HM.out.1.2.2.2 (by omega)
      have e0 := hc k x hx
      have hxl := (HM.out.2 k x m hx hm).1.1
      have HS : Hid (mtot (F.ms.take (k + 1)) = mtot (F.ms.take k) + x.2.1) := by show _ = _; unfold mtot; rw [sum_take List.length hm, hxl]
      have hx9 : mn + inn + sn + mtot (F.ms.take k) + x.2.1 ≤ 1048576 := by
        have := HB.out
        have h2 := sum_take_le List.length F.ms (k + 1)
        have h3 := HS.out
        unfold mtot at *
        omega
      generalize mtot (F.ms.take k) = T at *
      rw [hao] at c11
      clear hc hx hm hxl hL1 hL4
      go_wp2
      go_round
      case rel => exact ⟨k + 1, by omega, by go_num, by rw [HS.out]; go_num⟩
      case measure => simp [intOf]; omega
    · obtain rfl : k = mn := by omega
      have HE : Hid (mtot (F.ms.take k) = mtot F.ms) := by show _ = _; rw [List.take_of_length_le (by have := HL.out.2.2.2.1; omega)]
      rw [HE.out] at HP ⊢
      have hp9 := HP.out
      obtain ⟨A, hA⟩ : ∃ A, k + inn + sn + mtot F.ms = A := ⟨_, rfl⟩
      have HA : Hid (k + inn + sn + mtot F.ms = A) := hA
      rw [hA] at hp9 ⊢
      have hltI : ¬ ((k : Int) < (k : Int)) := by omega
      clear hA HM HE HP
      go_wp2
      go_loop [3, 5] (fun nv iv => ∃ j : Nat, j ≤ inn ∧ iv = .int .i64 j ∧ nv = .int .i64 ((A + itot (F.it.take j) : Nat) : Int)) (fun _ iv => inn - (intOf iv).toNat)
      case atStart => exact ⟨0, by omega, rfl, by simp [itot]⟩
      case round =>
        obtain ⟨j, hj, rfl, rfl⟩ := hrel
        have hj0 : ¬ ((j : Int) < 0) := by omega
        have HP : Hid (A + itot (F.it.take j) ≤ 1048576) := by have := HB.out; have := HA.out; have := sum_take_le (fun d : Di => d.2.length) F.it j; show _ ≤ _; unfold itot at *; omega
        by_cases hlt : j < inn
        · have hltJ : (j : Int) < (inn : Int) := by omega
          obtain ⟨_, hL1, _, _, hL4, _⟩ := HL.out
          obtain ⟨x, hx⟩ : ∃ x, IS[j]? = some x := ⟨IS[j]'(by omega), List.getElem?_eq_getElem (by omega)⟩
          obtain ⟨d, hd⟩ : ∃ d, F.it[j]? = some d := ⟨F.it[j]'(by omega), List.getElem?_eq_getElem (by omega)⟩
          obtain ⟨b, off, hao, _, hc⟩ := HIT.out.1.2.2.2 (by omega)
          have e1 := (hc j x hx).2
          have hxl := (HIT.out.2 j x d hx hd).2.1.1
          have HS : Hid (itot (F.it.take (j + 1)) = itot (F.it.take j) + x.2.2.1) := by show _ = _; unfold itot; rw [sum_take (fun d : Di => d.2.length) hd, hxl]
          have hx9 : A + itot (F.it.take j) + x.2.2.1 ≤ 1048576 := by
            have := HB.out
            have := HA.out
            have h2 := sum_take_le (fun d : Di => d.2.length) F.it (j + 1)
            have h3 := HS.out
            unfold itot at *
            omega
          generalize itot (F.it.take j) = T at *
          rw [hao] at c12
          clear hc hx hd hxl hL1 hL4
          go_wp2
          go_round
          case rel => exact ⟨j + 1, by omega, by go_num, by rw [HS.out]; go_num⟩
          case measure => simp [intOf]; omega
        · obtain rfl : j = inn := by omega
          have HE : Hid (itot (F.it.take j) = itot F.it) := by show _ = _; rw [List.take_of_length_le (by have := HL.out.2.2.2.2.1; omega)]
          rw [HE.out] at HP ⊢
          have hq9 := HP.out
          obtain ⟨A2, hA2⟩ : ∃ A2, A + itot F.it = A2 := ⟨_, rfl⟩
          have HA2 : Hid (A + itot F.it = A2) := hA2
          rw [hA2] at hq9 ⊢
          have hltJ : ¬ ((j : Int) < (j : Int)) := by omega
          clear hA2 HIT HE HP
          go_wp2
          go_loop [3, 6, 7] (fun nv iv _ => ∃ i : Nat, i ≤ sn ∧ iv = .int .i64 i ∧ nv = .int .i64 ((A2 + stot (F.st.take i) : Nat) : Int)) (fun _ iv _ => sn - (intOf iv).toNat)
          case atStart => exact ⟨0, by omega, rfl, by simp [stot]⟩
          case round =>
            obtain ⟨i, hi, rfl, rfl⟩ := hrel
            have hi0 : ¬ ((i : Int) < 0) := by omega
            have HP : Hid (A2 + stot (F.st.take i) ≤ 1048576) := by have := HB.out; have := HA.out; have := HA2.out; have := sum_take_le (fun s : Sd => s.2.2.2.length + itot s.2.2.2) F.st i; show _ ≤ _; unfold stot at *; omega
            by_cases hlt : i < sn
            · have hltI2 : (i : Int) < (sn : Int) := by omega
              obtain ⟨_, _, hL1, _, _, hL4⟩ := HL.out
              obtain ⟨x, hx⟩ : ∃ x, SS[i]? = some x := ⟨SS[i]'(by omega), List.getElem?_eq_getElem (by omega)⟩
              obtain ⟨d, hd⟩ : ∃ d, F.st[i]? = some d := ⟨F.st[i]'(by omega), List.getElem?_eq_getElem (by omega)⟩
              obtain ⟨b, off, hao, _, hc⟩ := HST.out.1.2.2.2 (by omega)
              have e3 := (hc i x hx).2.2.2
              obtain ⟨ZS, hzs, hzl, hzx⟩ := (HST.out.2 i x d hx hd).2.2.2
              have hxl : d.2.2.2.length = x.2.2.2.2.1 := hzl
              have HS : Hid (stot (F.st.take (i + 1)) = stot (F.st.take i) + (x.2.2.2.2.1 + itot d.2.2.2)) := by show _ = _; unfold stot; rw [sum_take (fun s : Sd => s.2.2.2.length + itot s.2.2.2) hd, hxl]
              have hx9 : A2 + stot (F.st.take i) + (x.2.2.2.2.1 + itot d.2.2.2) ≤ 1048576 := by
                have := HB.out
                have := HA.out
                have := HA2.out
                have h2 := sum_take_le (fun s : Sd => s.2.2.2.length + itot s.2.2.2) F.st (i + 1)
                have h3 := HS.out
                unfold stot at *
                omega
              have HZ : Hid (IR p w0 x.2.2.2.1 x.2.2.2.2.1 ZS ∧ (∀ (j : Nat) (y : Ix) (d' : Di), ZS[j]? = some y → d.2.2.2[j]? = some d' → ItX p w0 y d') ∧ d.2.2.2.length = x.2.2.2.2.1) := ⟨hzs, hzx, hxl⟩
              generalize stot (F.st.take i) = T at *
              have HT9 : Hid (A2 + T + (x.2.2.2.2.1 + itot d.2.2.2) ≤ 1048576) := hx9
              have hxn : x.2.2.2.2.1 ≤ 1048576 := by omega
              have hsum : A2 + T + x.2.2.2.2.1 ≤ 1048576 := by omega
              have c9' := c9
              rw [hao] at c9'
              clear hc hx hd hxl hL1 hL4 hzs hzx hzl hx9
              go_wp2
              go_loop [3, 7] (fun nv iv => ∃ q : Nat, q ≤ x.2.2.2.2.1 ∧ iv = .int .i64 q ∧ nv = .int .i64 ((A2 + T + x.2.2.2.2.1 + itot (d.2.2.2.take q) : Nat) : Int)) (fun _ iv => x.2.2.2.2.1 - (intOf iv).toNat)
              case atStart => exact ⟨0, by omega, rfl, by simp [itot]⟩
              case round =>
                obtain ⟨q, hq, rfl, rfl⟩ := hrel
                have hq0 : ¬ ((q : Int) < 0) := by omega
                by_cases hlt : q < x.2.2.2.2.1
                · have hltQ : (q : Int) < (x.2.2.2.2.1 : Int) := by omega
                  have hZl := HZ.out.1.1
                  have hdl := HZ.out.2.2
                  obtain ⟨y, hy⟩ : ∃ y, ZS[q]? = some y := ⟨ZS[q]'(by omega), List.getElem?_eq_getElem (by omega)⟩
                  obtain ⟨d', hd'⟩ : ∃ d', d.2.2.2[q]? = some d' := ⟨d.2.2.2[q]'(by omega), List.getElem?_eq_getElem (by omega)⟩
                  obtain ⟨b2, off2, hao2, _, hc2⟩ := HZ.out.1.2.2.2 (by omega)
                  have e4 := (hc2 q y hy).2
                  have hyl := (HZ.out.2.1 q y d' hy hd').2.1.1
                  have HS2 : Hid (itot (d.2.2.2.take (q + 1)) = itot (d.2.2.2.take q) + y.2.2.1) := by show _ = _; unfold itot; rw [sum_take (fun d : Di => d.2.length) hd', hyl]
                  have hy9 : A2 + T + x.2.2.2.2.1 + itot (d.2.2.2.take q) + y.2.2.1 ≤ 1048576 := by
                    have := HT9.out
                    have h2 := sum_take_le (fun d : Di => d.2.length) d.2.2.2 (q + 1)
                    have h3 := HS2.out
                    unfold itot at *
                    omega
                  generalize itot (d.2.2.2.take q) = U at *
                  rw [hao2] at e3
                  clear hc2 hy hd' hyl hZl hdl
                  go_wp2
                  go_round
                  case rel => exact ⟨q + 1, by omega, by go_num, by rw [HS2.out]; go_num⟩
                  case measure => simp [intOf]; omega
                · have hltQ : ¬ ((q : Int) < (x.2.2.2.2.1 : Int)) := by omega
                  have HE2 : Hid (itot (d.2.2.2.take q) = itot d.2.2.2) := by show _ = _; rw [List.take_of_length_le (by have := HZ.out.2.2; omega)]
                  rw [HE2.out]
                  have HN : Hid (A2 + T + x.2.2.2.2.1 + itot d.2.2.2 = A2 + stot (F.st.take (i + 1))) := by show _ = _; rw [HS.out]; omega
                  rw [HN.out]
                  have hq1 : q = x.2.2.2.2.1 := by omega
                  subst hq1
                  go_wp2
                  go_round
                  case rel => exact ⟨i + 1, by omega, by go_num, rfl⟩
                  case measure => simp [intOf]; omega
            · obtain rfl : i = sn := by omega
              have HE : Hid (stot (F.st.take i) = stot F.st) := by show _ = _; rw [List.take_of_length_le (by have := HL.out.2.2.2.2.2; omega)]
              rw [HE.out] at HP ⊢
              have hr9 := HP.out
              obtain ⟨A3, hA3⟩ : ∃ A3, A2 + stot F.st = A3 := ⟨_, rfl⟩
              have HA3 : Hid (A2 + stot F.st = A3) := hA3
              rw [hA3] at hr9 ⊢
              have hltI2 : ¬ ((i : Int) < (i : Int)) := by omega
              have HFIN : Hid (tot F = A3) := by have := HT.out; have := HA.out; have := HA2.out; have := HA3.out; show _ = _; omega
              clear hA3 HST HE HP
              go_wp2
              go_ret
              refine ⟨ret_bool ?_, by first | exact hu0 | (rw [← hw0] at hu0; exact hu0)⟩
              rw [← HR.out, HFIN.out]
              by_cases hg : 20000 < A3
              · rw [decide_eq_true hg]; simp; omega
              · rw [decide_eq_false hg]; simp; omega
end Go.Proofs.Ytfemjbaadnjanaa
