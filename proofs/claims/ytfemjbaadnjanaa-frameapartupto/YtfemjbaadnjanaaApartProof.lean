/-
  Proved: for every two frames f and g, FrameApart(f, g) returns true, where what the two hold together, counted each time it is reached, is of bulk at most 1048576: two right frames have the same bytes just where they are the same. Condition: that bound on what is handed in.
-/
import Derived.Test.YtfemjbaadnjanaaRows
import Derived.Test.YtfemjbaadnjanaaFAwake
import Derived.Test.YtfemjbaadnjanaaFRefG
import Derived.Test.YtfemjbaadnjanaaFSameH
import Derived.Test.YtfemjbaadnjanaaFGreat
import Derived.Test.YtfemjbaadnjanaaFArgs2
import Derived.JoinedCond
namespace Go.Proofs.Ytfemjbaadnjanaa.frameApart
open Go.ChangeShapes Go.WideShapes Go.ChangeAt Go.RowKit
set_option linter.unusedVariables false
set_option linter.unusedSimpArgs false

/-- What the last region reads: the two frames, their bytes. -/
def Sx5 (B1 B2 : Nat) (F G : PF) (a b : Fa) (po : Option Addr) (pn pc : Nat) (s : ByteArray) (qo : Option Addr) (qn qc : Nat) (t : ByteArray) (wx : World) : Prop :=
  Bf B1 F a wx ∧ Bf B2 G b wx ∧ (convert 33 9 (.slice po pn pc)).run Try.prog wx = .ok (.string s) wx ∧ (convert 33 9 (.slice qo qn qc)).run Try.prog wx = .ok (.string t) wx

theorem seal_inj {x y : List UInt8} (h : sealB x = sealB y) : x = y := by
  have h1 := opened_seal x
  have h2 := opened_seal y
  rw [h, h2] at h1
  exact ((Prod.mk.inj h1).2).symm
theorem bytes_eq {F G : PF} (hF : rightF F = true) (hG : rightF G = true) (oF : POk F) (oG : POk G) (lF : (wire F).length ≤ 1048576) (lG : (wire G).length ≤ 1048576) : ((Cd.str (sealB (wire F))).toList == (Cd.str (sealB (wire G))).toList) = eqB F G := by
  rw [Cd.str_beq]
  by_cases h : F = G
  · rw [eqB_true h, h]
    exact decide_eq_true rfl
  · rw [eqB_false h]
    exact decide_eq_false (fun e => h (wire_inj hF hG oF oG (wire_small hF lF) (wire_small hG lG) (seal_inj e)))

set_option maxRecDepth 20000 in
set_option maxHeartbeats 8000000 in
theorem walk (w : World) (F : PF) (a : Fa) (h : FIn (fun _ => True) w F a) (ho : POk F) (ht : tot F ≤ 1048576) (G : PF) (b : Fa) (h' : FIn (fun _ => True) w G b) (ho' : POk G) (ht' : tot G ≤ 1048576) :
    Calls Try.prog 8 #[fval F a, fval G b] w fun e w' => e = .returned (.bool true) ∧ Below w.heap.size w w' := by
  obtain ⟨w0, hw0, hu0, hb0⟩ := boxed w F a
  obtain ⟨w1, hw1, hu1, hb1⟩ := boxed w0 G b
  have hs0 : w0.heap.size = w.heap.size + 1 := by rw [← hw0]; simp
  rw [hs0] at hb1
  have HB : Hid (∀ V, Below w1.heap.size w1 V → Bf w.heap.size F a V ∧ Bf (w.heap.size + 1) G b V) := fun V u => ⟨(hb0.up hu1.bl).up u, hb1.up u⟩
  have hu01 := hu0.trans hu1
  have HF : Hid (∀ V, Below w1.heap.size w1 V → FIn (fun _ => True) V F a ∧ FIn (fun _ => True) V G b) := fun V u => ⟨h.up (bl_step hu01.bl u), h'.up (bl_step hu01.bl u)⟩
  have hgF := fun V (u : Below w1.heap.size w1 V) => great_any' _ V F a (HF.out V u).1 ht
  have hgG := fun V (u : Below w1.heap.size w1 V) => great_any' _ V G b (HF.out V u).2 ht'
  have hmF := fun V (u : Below w1.heap.size w1 V) => refForm7_any (fun _ => True) V F a (HF.out V u).1 ho.frm ho.kind
  have hmG := fun V (u : Below w1.heap.size w1 V) => refForm7_any (fun _ => True) V G b (HF.out V u).2 ho'.frm ho'.kind
  have heF := fun V (u : Below w1.heap.size w1 V) => encodeF_any (fun _ => True) V F a (HF.out V u).1 ho
  have heG := fun V (u : Below w1.heap.size w1 V) => encodeF_any (fun _ => True) V G b (HF.out V u).2 ho'
  have hsm := fun V (u : Below w1.heap.size w1 V) => sameF_any _ _ V F G a b (HF.out V u).1 (HF.out V u).2
  have HO : Hid (POk F ∧ POk G) := ⟨ho, ho'⟩
  have HU : Hid (Below w.heap.size w w1) := hu01.bl
  have HU0 : Hid (Below w1.heap.size w1 w1) := Below.refl _ _
  have HLF : Hid (¬ 20000 < tot F → (wire F).length + 4 ≤ 1048576) := fun hh => by have := wire_le F; omega
  have HLG : Hid (¬ 20000 < tot G → (wire G).length + 4 ≤ 1048576) := fun hh => by have := wire_le G; omega
  obtain ⟨d0, d1, d2, d3, d4, d5, d6, d7, d8, d9, d10, d11, d12, d13, d14⟩ := (HB.out w1 HU0.out).1
  obtain ⟨e0, e1, e2, e3, e4, e5, e6, e7, e8, e9, e10, e11, e12, e13, e14⟩ := (HB.out w1 HU0.out).2
  unfold fval fcells at *
  clear h ho h' ho' hu0 hu1 hb0 hb1 ht ht'
  go_enter Try.func8, Try.ntmps8
  go_wp2_with fail
  (try simp only [hw0, hw1])
  refine (hgF _ HU0.out).mono ?_
  rintro e w2 ⟨rfl, hu2⟩
  have hb2 : Below w1.heap.size w1 w2 := hu2.bl
  clear hgF hu2 d0 d1 d2 d3 d4 d5 d6 d7 d8 d9 d10 d11 d12 d13 d14 e0 e1 e2 e3 e4 e5 e6 e7 e8 e9 e10 e11 e12 e13 e14
  obtain ⟨d0, d1, d2, d3, d4, d5, d6, d7, d8, d9, d10, d11, d12, d13, d14⟩ := (HB.out w2 hb2).1
  obtain ⟨e0, e1, e2, e3, e4, e5, e6, e7, e8, e9, e10, e11, e12, e13, e14⟩ := (HB.out w2 hb2).2
  by_cases gF : 20000 < tot F
  · simp only [gF, decide_true]
    go_wp2_with fail
    refine (awake_any _).mono ?_
    rintro e wz ⟨rfl, hbz⟩
    have hb0z := bl_step HU.out (bl_step hb2 hbz)
    clear d0 d1 d2 d3 d4 d5 d6 d7 d8 d9 d10 d11 d12 d13 d14 e0 e1 e2 e3 e4 e5 e6 e7 e8 e9 e10 e11 e12 e13 e14
    go_wp2
    go_ret
    exact ⟨rfl, hb0z⟩
  have lF := HLF.out gF
  simp only [gF, decide_false]
  go_wp2_with fail
  refine (hgG _ hb2).mono ?_
  rintro e w3 ⟨rfl, hu3⟩
  have hb3 : Below w1.heap.size w1 w3 := bl_step hb2 hu3.bl
  clear hgG hu3 hb2 gF HLF d0 d1 d2 d3 d4 d5 d6 d7 d8 d9 d10 d11 d12 d13 d14 e0 e1 e2 e3 e4 e5 e6 e7 e8 e9 e10 e11 e12 e13 e14
  obtain ⟨d0, d1, d2, d3, d4, d5, d6, d7, d8, d9, d10, d11, d12, d13, d14⟩ := (HB.out w3 hb3).1
  obtain ⟨e0, e1, e2, e3, e4, e5, e6, e7, e8, e9, e10, e11, e12, e13, e14⟩ := (HB.out w3 hb3).2
  by_cases gG : 20000 < tot G
  · simp only [gG, decide_true]
    go_wp2_with fail
    refine (awake_any _).mono ?_
    rintro e wz ⟨rfl, hbz⟩
    have hb0z := bl_step HU.out (bl_step hb3 hbz)
    clear d0 d1 d2 d3 d4 d5 d6 d7 d8 d9 d10 d11 d12 d13 d14 e0 e1 e2 e3 e4 e5 e6 e7 e8 e9 e10 e11 e12 e13 e14
    go_wp2
    go_ret
    exact ⟨rfl, hb0z⟩
  have lG := HLG.out gG
  simp only [gG, decide_false]
  go_wp2_with fail
  refine (awake_any _).mono ?_
  rintro e w4 ⟨rfl, hb4'⟩
  have hb4 : Below w1.heap.size w1 w4 := bl_step hb3 hb4'
  clear hb4' hb3 gG HLG d0 d1 d2 d3 d4 d5 d6 d7 d8 d9 d10 d11 d12 d13 d14 e0 e1 e2 e3 e4 e5 e6 e7 e8 e9 e10 e11 e12 e13 e14
  obtain ⟨d0, d1, d2, d3, d4, d5, d6, d7, d8, d9, d10, d11, d12, d13, d14⟩ := (HB.out w4 hb4).1
  obtain ⟨e0, e1, e2, e3, e4, e5, e6, e7, e8, e9, e10, e11, e12, e13, e14⟩ := (HB.out w4 hb4).2
  go_wp2_with fail
  refine (hmF _ hb4).mono ?_
  rintro e w5 ⟨rfl, hu5⟩
  have hb5 : Below w1.heap.size w1 w5 := bl_step hb4 hu5.bl
  clear hmF hu5 hb4 d0 d1 d2 d3 d4 d5 d6 d7 d8 d9 d10 d11 d12 d13 d14 e0 e1 e2 e3 e4 e5 e6 e7 e8 e9 e10 e11 e12 e13 e14
  obtain ⟨d0, d1, d2, d3, d4, d5, d6, d7, d8, d9, d10, d11, d12, d13, d14⟩ := (HB.out w5 hb5).1
  obtain ⟨e0, e1, e2, e3, e4, e5, e6, e7, e8, e9, e10, e11, e12, e13, e14⟩ := (HB.out w5 hb5).2
  cases rF : rightF F with
  | false =>
    go_wp2_with fail
    refine (awake_any _).mono ?_
    rintro e wz ⟨rfl, hbz⟩
    have hb0z := bl_step HU.out (bl_step hb5 hbz)
    clear d0 d1 d2 d3 d4 d5 d6 d7 d8 d9 d10 d11 d12 d13 d14 e0 e1 e2 e3 e4 e5 e6 e7 e8 e9 e10 e11 e12 e13 e14
    go_wp2
    go_ret
    exact ⟨rfl, hb0z⟩
  | true =>
    go_wp2_with fail
    refine (hmG _ hb5).mono ?_
    rintro e w6 ⟨rfl, hu6⟩
    have hb6 : Below w1.heap.size w1 w6 := bl_step hb5 hu6.bl
    clear hmG hu6 hb5 d0 d1 d2 d3 d4 d5 d6 d7 d8 d9 d10 d11 d12 d13 d14 e0 e1 e2 e3 e4 e5 e6 e7 e8 e9 e10 e11 e12 e13 e14
    obtain ⟨d0, d1, d2, d3, d4, d5, d6, d7, d8, d9, d10, d11, d12, d13, d14⟩ := (HB.out w6 hb6).1
    obtain ⟨e0, e1, e2, e3, e4, e5, e6, e7, e8, e9, e10, e11, e12, e13, e14⟩ := (HB.out w6 hb6).2
    cases rG : rightF G with
    | false =>
      go_wp2_with fail
      refine (awake_any _).mono ?_
      rintro e wz ⟨rfl, hbz⟩
      have hb0z := bl_step HU.out (bl_step hb6 hbz)
      clear d0 d1 d2 d3 d4 d5 d6 d7 d8 d9 d10 d11 d12 d13 d14 e0 e1 e2 e3 e4 e5 e6 e7 e8 e9 e10 e11 e12 e13 e14
      go_wp2
      go_ret
      exact ⟨rfl, hb0z⟩
    | true =>
      have HRR : Hid (rightF F = true ∧ rightF G = true) := ⟨rF, rG⟩
      have HEQ : Hid (((Cd.str (sealB (wire F))).toList == (Cd.str (sealB (wire G))).toList) = eqB F G) := bytes_eq rF rG HO.out.1 HO.out.2 (by omega) (by omega)
      have HLL : Hid ((wire F).length + 4 ≤ 1048576 ∧ (wire G).length + 4 ≤ 1048576) := ⟨lF, lG⟩
      clear rF rG lF lG
      go_wp2_with fail
      refine (heF _ hb6).mono ?_
      rintro e w7 ⟨hans, hb7'⟩
      unfold EncAns at hans
      rw [HRR.out.1, if_neg (by simp), if_neg (by have := HLL.out; omega)] at hans
      obtain ⟨v, rfl, hown⟩ := hans
      have hb7 : Below w1.heap.size w1 w7 := bl_step hb6 hb7'
      obtain ⟨po, pc, rfl, hrow, _⟩ := Cd.owns_row hown
      obtain ⟨pl, hpl⟩ : ∃ pl, (wire F).length + 4 = pl := ⟨_, rfl⟩
      rw [hpl] at hrow ⊢
      have HRP : Hid (∀ V, Below w7.heap.size w7 V → (convert 33 9 (.slice po pl pc)).run Try.prog V = .ok (.string (Cd.str (sealB (wire F)))) V) := fun V u => Cd.conv_row (hrow.below u (Nat.le_refl _))
      clear heF hb6 hb7' hown hrow hpl d0 d1 d2 d3 d4 d5 d6 d7 d8 d9 d10 d11 d12 d13 d14 e0 e1 e2 e3 e4 e5 e6 e7 e8 e9 e10 e11 e12 e13 e14
      obtain ⟨d0, d1, d2, d3, d4, d5, d6, d7, d8, d9, d10, d11, d12, d13, d14⟩ := (HB.out w7 hb7).1
      obtain ⟨e0, e1, e2, e3, e4, e5, e6, e7, e8, e9, e10, e11, e12, e13, e14⟩ := (HB.out w7 hb7).2
      go_wp2_with fail
      refine (heG _ hb7).mono ?_
      rintro e w8 ⟨hans, hb8'⟩
      unfold EncAns at hans
      rw [HRR.out.2, if_neg (by simp), if_neg (by have := HLL.out; omega)] at hans
      obtain ⟨v, rfl, hown⟩ := hans
      have hb8 : Below w1.heap.size w1 w8 := bl_step hb7 hb8'
      obtain ⟨qo, qc, rfl, hrow, _⟩ := Cd.owns_row hown
      obtain ⟨ql, hql⟩ : ∃ ql, (wire G).length + 4 = ql := ⟨_, rfl⟩
      rw [hql] at hrow ⊢
      have HRQ : Hid (∀ V, Below w8.heap.size w8 V → (convert 33 9 (.slice qo ql qc)).run Try.prog V = .ok (.string (Cd.str (sealB (wire G)))) V) := fun V u => Cd.conv_row (hrow.below u (Nat.le_refl _))
      have HS : Hid (∀ V, Below w8.heap.size w8 V → Sx5 w.heap.size (w.heap.size + 1) F G a b po pl pc (Cd.str (sealB (wire F))) qo ql qc (Cd.str (sealB (wire G))) V) := fun V u => ⟨(HB.out V (bl_step hb8 u)).1, (HB.out V (bl_step hb8 u)).2, HRP.out V (bl_step hb8' u), HRQ.out V u⟩
      obtain ⟨s, hs⟩ : ∃ s, Cd.str (sealB (wire F)) = s := ⟨_, rfl⟩
      obtain ⟨t, ht⟩ : ∃ t, Cd.str (sealB (wire G)) = t := ⟨_, rfl⟩
      obtain ⟨r, hr⟩ : ∃ r, eqB F G = r := ⟨_, rfl⟩
      have hst : (s.toList == t.toList) = r := by rw [← hs, ← ht, ← hr]; exact HEQ.out
      rw [hs, ht] at HS
      simp only [hr] at hsm
      clear heG hb7 hown hrow hql hs ht hr HEQ HRP HRQ HF d0 d1 d2 d3 d4 d5 d6 d7 d8 d9 d10 d11 d12 d13 d14 e0 e1 e2 e3 e4 e5 e6 e7 e8 e9 e10 e11 e12 e13 e14
      go_wp2_with fail
      have u8 : Below w8.heap.size w8 w8.drew := ((Up.refl w8).drew).bl
      have ud : Below w1.heap.size w1 w8.drew := bl_step hb8 u8
      refine wp_region_noPanic ?_
      refine wp_region_held_drew (S := Sx5 w.heap.size (w.heap.size + 1) F G a b po pl pc s qo ql qc t) (by kernel_rfl) (HS.out _ u8) (fun hHeld => ?_)
      refine take_first 0 (v := ?_) rfl (by kernel_rfl) (by kernel_rfl) (by kernel_rfl) (fun _ _ _ h => h) (Or.inl ⟨by rfl, by intro wx hSw; (try dsimp only at hSw); obtain ⟨⟨x0, x1, x2, x3, x4, x5, x6, x7, x8, x9, x10, x11, x12, x13, x14⟩, ⟨y0, y1, y2, y3, y4, y5, y6, y7, y8, y9, y10, y11, y12, y13, y14⟩, hcv, hcw⟩ := hSw; go_simp; try with_reducible rfl⟩) (by assumption) ?_
      (try simp only [Act.put, List.setIfInBounds_toArray, List.set_cons_zero, List.set_cons_succ])
      refine take_first 1 (v := ?_) rfl (by kernel_rfl) (by kernel_rfl) (by kernel_rfl) (fun _ _ _ h => h) (Or.inl ⟨by rfl, by intro wx hSw; (try dsimp only at hSw); obtain ⟨⟨x0, x1, x2, x3, x4, x5, x6, x7, x8, x9, x10, x11, x12, x13, x14⟩, ⟨y0, y1, y2, y3, y4, y5, y6, y7, y8, y9, y10, y11, y12, y13, y14⟩, hcv, hcw⟩ := hSw; go_simp; try with_reducible rfl⟩) (by assumption) ?_
      (try simp only [Act.put, List.setIfInBounds_toArray, List.set_cons_zero, List.set_cons_succ])
      refine take_first 2 (v := ?_) rfl (by kernel_rfl) (by kernel_rfl) (by kernel_rfl) (fun _ _ _ h => h) (Or.inl ⟨by rfl, by intro wx hSw; (try dsimp only at hSw); obtain ⟨⟨x0, x1, x2, x3, x4, x5, x6, x7, x8, x9, x10, x11, x12, x13, x14⟩, ⟨y0, y1, y2, y3, y4, y5, y6, y7, y8, y9, y10, y11, y12, y13, y14⟩, hcv, hcw⟩ := hSw; go_simp; try with_reducible rfl⟩) (by assumption) ?_
      (try simp only [Act.put, List.setIfInBounds_toArray, List.set_cons_zero, List.set_cons_succ])
      refine take_first 3 (v := ?_) rfl (by kernel_rfl) (by kernel_rfl) (by kernel_rfl) (fun _ _ _ h => h) (Or.inl ⟨by rfl, by intro wx hSw; (try dsimp only at hSw); obtain ⟨⟨x0, x1, x2, x3, x4, x5, x6, x7, x8, x9, x10, x11, x12, x13, x14⟩, ⟨y0, y1, y2, y3, y4, y5, y6, y7, y8, y9, y10, y11, y12, y13, y14⟩, hcv, hcw⟩ := hSw; go_simp; try with_reducible rfl⟩) (by assumption) ?_
      (try simp only [Act.put, List.setIfInBounds_toArray, List.set_cons_zero, List.set_cons_succ])
      refine take_first 4 (v := ?_) rfl (by kernel_rfl) (by kernel_rfl) (by kernel_rfl) (fun _ _ _ h => h) (Or.inl ⟨by rfl, by intro wx hSw; (try dsimp only at hSw); obtain ⟨⟨x0, x1, x2, x3, x4, x5, x6, x7, x8, x9, x10, x11, x12, x13, x14⟩, ⟨y0, y1, y2, y3, y4, y5, y6, y7, y8, y9, y10, y11, y12, y13, y14⟩, hcv, hcw⟩ := hSw; go_simp; try with_reducible rfl⟩) (by assumption) ?_
      (try simp only [Act.put, List.setIfInBounds_toArray, List.set_cons_zero, List.set_cons_succ])
      refine take_first 5 (v := ?_) rfl (by kernel_rfl) (by kernel_rfl) (by kernel_rfl) (fun _ _ _ h => h) (Or.inl ⟨by rfl, by intro wx hSw; (try dsimp only at hSw); obtain ⟨⟨x0, x1, x2, x3, x4, x5, x6, x7, x8, x9, x10, x11, x12, x13, x14⟩, ⟨y0, y1, y2, y3, y4, y5, y6, y7, y8, y9, y10, y11, y12, y13, y14⟩, hcv, hcw⟩ := hSw; go_simp; try with_reducible rfl⟩) (by assumption) ?_
      (try simp only [Act.put, List.setIfInBounds_toArray, List.set_cons_zero, List.set_cons_succ])
      refine take_first 6 (v := ?_) rfl (by kernel_rfl) (by kernel_rfl) (by kernel_rfl) (fun _ _ _ h => h) (Or.inl ⟨by rfl, by intro wx hSw; (try dsimp only at hSw); obtain ⟨⟨x0, x1, x2, x3, x4, x5, x6, x7, x8, x9, x10, x11, x12, x13, x14⟩, ⟨y0, y1, y2, y3, y4, y5, y6, y7, y8, y9, y10, y11, y12, y13, y14⟩, hcv, hcw⟩ := hSw; go_simp; try with_reducible rfl⟩) (by assumption) ?_
      (try simp only [Act.put, List.setIfInBounds_toArray, List.set_cons_zero, List.set_cons_succ])
      refine take_first 7 (v := ?_) rfl (by kernel_rfl) (by kernel_rfl) (by kernel_rfl) (fun _ _ _ h => h) (Or.inl ⟨by rfl, by intro wx hSw; (try dsimp only at hSw); obtain ⟨⟨x0, x1, x2, x3, x4, x5, x6, x7, x8, x9, x10, x11, x12, x13, x14⟩, ⟨y0, y1, y2, y3, y4, y5, y6, y7, y8, y9, y10, y11, y12, y13, y14⟩, hcv, hcw⟩ := hSw; go_simp; try with_reducible rfl⟩) (by assumption) ?_
      (try simp only [Act.put, List.setIfInBounds_toArray, List.set_cons_zero, List.set_cons_succ])
      refine take_first 8 (v := ?_) rfl (by kernel_rfl) (by kernel_rfl) (by kernel_rfl) (fun _ _ _ h => h) (Or.inl ⟨by rfl, by intro wx hSw; (try dsimp only at hSw); obtain ⟨⟨x0, x1, x2, x3, x4, x5, x6, x7, x8, x9, x10, x11, x12, x13, x14⟩, ⟨y0, y1, y2, y3, y4, y5, y6, y7, y8, y9, y10, y11, y12, y13, y14⟩, hcv, hcw⟩ := hSw; go_simp; try with_reducible rfl⟩) (by assumption) ?_
      (try simp only [Act.put, List.setIfInBounds_toArray, List.set_cons_zero, List.set_cons_succ])
      refine take_first 9 (v := ?_) rfl (by kernel_rfl) (by kernel_rfl) (by kernel_rfl) (fun _ _ _ h => h) (Or.inl ⟨by rfl, by intro wx hSw; (try dsimp only at hSw); obtain ⟨⟨x0, x1, x2, x3, x4, x5, x6, x7, x8, x9, x10, x11, x12, x13, x14⟩, ⟨y0, y1, y2, y3, y4, y5, y6, y7, y8, y9, y10, y11, y12, y13, y14⟩, hcv, hcw⟩ := hSw; go_simp; try with_reducible rfl⟩) (by assumption) ?_
      (try simp only [Act.put, List.setIfInBounds_toArray, List.set_cons_zero, List.set_cons_succ])
      refine take_first 10 (v := ?_) rfl (by kernel_rfl) (by kernel_rfl) (by kernel_rfl) (fun _ _ _ h => h) (Or.inl ⟨by rfl, by intro wx hSw; (try dsimp only at hSw); obtain ⟨⟨x0, x1, x2, x3, x4, x5, x6, x7, x8, x9, x10, x11, x12, x13, x14⟩, ⟨y0, y1, y2, y3, y4, y5, y6, y7, y8, y9, y10, y11, y12, y13, y14⟩, hcv, hcw⟩ := hSw; go_simp; try with_reducible rfl⟩) (by assumption) ?_
      (try simp only [Act.put, List.setIfInBounds_toArray, List.set_cons_zero, List.set_cons_succ])
      refine take_first 11 (v := ?_) rfl (by kernel_rfl) (by kernel_rfl) (by kernel_rfl) (fun _ _ _ h => h) (Or.inl ⟨by rfl, by intro wx hSw; (try dsimp only at hSw); obtain ⟨⟨x0, x1, x2, x3, x4, x5, x6, x7, x8, x9, x10, x11, x12, x13, x14⟩, ⟨y0, y1, y2, y3, y4, y5, y6, y7, y8, y9, y10, y11, y12, y13, y14⟩, hcv, hcw⟩ := hSw; go_simp; try with_reducible rfl⟩) (by assumption) ?_
      (try simp only [Act.put, List.setIfInBounds_toArray, List.set_cons_zero, List.set_cons_succ])
      refine take_first 12 (v := ?_) rfl (by kernel_rfl) (by kernel_rfl) (by kernel_rfl) (fun _ _ _ h => h) (Or.inl ⟨by rfl, by intro wx hSw; (try dsimp only at hSw); obtain ⟨⟨x0, x1, x2, x3, x4, x5, x6, x7, x8, x9, x10, x11, x12, x13, x14⟩, ⟨y0, y1, y2, y3, y4, y5, y6, y7, y8, y9, y10, y11, y12, y13, y14⟩, hcv, hcw⟩ := hSw; go_simp; try with_reducible rfl⟩) (by assumption) ?_
      (try simp only [Act.put, List.setIfInBounds_toArray, List.set_cons_zero, List.set_cons_succ])
      refine take_first 13 (v := ?_) rfl (by kernel_rfl) (by kernel_rfl) (by kernel_rfl) (fun _ _ _ h => h) (Or.inl ⟨by rfl, by intro wx hSw; (try dsimp only at hSw); obtain ⟨⟨x0, x1, x2, x3, x4, x5, x6, x7, x8, x9, x10, x11, x12, x13, x14⟩, ⟨y0, y1, y2, y3, y4, y5, y6, y7, y8, y9, y10, y11, y12, y13, y14⟩, hcv, hcw⟩ := hSw; go_simp; try with_reducible rfl⟩) (by assumption) ?_
      (try simp only [Act.put, List.setIfInBounds_toArray, List.set_cons_zero, List.set_cons_succ])
      refine comes_up 14 rfl (by kernel_rfl) (fun K hK => ?_)
      go_simp
      refine (hsm _ ud).mono ?_
      rintro e w9 ⟨rfl, hu9⟩
      have u9 : Below w8.heap.size w8 w9 := bl_step u8 hu9.bl
      have hb9 := bl_step HU.out (bl_step hb8 u9)
      clear hHeld hsm hu9
      go_wp2_with fail
      refine hK.out _ _ (HS.out w9 u9) (fun hHeld => ?_)
      clear hK K
      (try simp only [Act.put, List.setIfInBounds_toArray, List.set_cons_zero, List.set_cons_succ])
      refine take_first 15 (v := ?_) rfl (by kernel_rfl) (by kernel_rfl) (by kernel_rfl) (fun _ _ _ h => h) (Or.inl ⟨by rfl, by intro wx hSw; (try dsimp only at hSw); obtain ⟨⟨x0, x1, x2, x3, x4, x5, x6, x7, x8, x9, x10, x11, x12, x13, x14⟩, ⟨y0, y1, y2, y3, y4, y5, y6, y7, y8, y9, y10, y11, y12, y13, y14⟩, hcv, hcw⟩ := hSw; go_simp; try with_reducible rfl⟩) (by assumption) ?_
      (try simp only [Act.put, List.setIfInBounds_toArray, List.set_cons_zero, List.set_cons_succ])
      refine take_first 16 (v := ?_) rfl (by kernel_rfl) (by kernel_rfl) (by kernel_rfl) (fun _ _ _ h => h) (Or.inl ⟨by rfl, by intro wx hSw; (try dsimp only at hSw); obtain ⟨⟨x0, x1, x2, x3, x4, x5, x6, x7, x8, x9, x10, x11, x12, x13, x14⟩, ⟨y0, y1, y2, y3, y4, y5, y6, y7, y8, y9, y10, y11, y12, y13, y14⟩, hcv, hcw⟩ := hSw; go_simp; try with_reducible rfl⟩) (by assumption) ?_
      (try simp only [Act.put, List.setIfInBounds_toArray, List.set_cons_zero, List.set_cons_succ])
      refine take_first 17 (v := ?_) rfl (by kernel_rfl) (by kernel_rfl) (by kernel_rfl) (fun _ _ _ h => h) (Or.inl ⟨by rfl, by intro wx hSw; (try dsimp only at hSw); obtain ⟨⟨x0, x1, x2, x3, x4, x5, x6, x7, x8, x9, x10, x11, x12, x13, x14⟩, ⟨y0, y1, y2, y3, y4, y5, y6, y7, y8, y9, y10, y11, y12, y13, y14⟩, hcv, hcw⟩ := hSw; go_simp; try with_reducible rfl⟩) (by assumption) ?_
      (try simp only [Act.put, List.setIfInBounds_toArray, List.set_cons_zero, List.set_cons_succ])
      refine wpAnyH_done (by kernel_rfl) ?_ _
      refine NoPanic.normal ?_
      clear hHeld
      go_wp2
      go_ret
      exact ⟨ret_bool (by simp), hb9⟩
set_option maxRecDepth 20000 in
theorem contract (H : Type) (enc : TypeId × Value → H) (W : World) (base : Nat) (args : Array Value) (ds gs : List (DataW H)) (before : List MemPlace)
    (hval : ∀ (j : Nat) t v, Try.f8.params[j]? = some t → args[j]? = some v → Value.okWide Try.prog W .any base t v)
    (hW : DataW.Whole enc Try.prog Try.f8.params.toList Rows.frameApartSpec.vars false W args.toList ds gs before) (hk : Rows.uptoSmall H (ds ++ gs) = true) :
    Calls Try.prog 8 args W fun e W' => ∃ v, e = .returned v ∧ Rows.frameApartSpec.post enc Try.prog Try.f8 false true false false W args v W' := by
  have hW' := hW
  obtain ⟨p, q, hA0, hV, rfl, hfz, hnd⟩ := hW
  have hA : DataW.TrodAll enc Try.prog W 0 (fun _ => true) true Try.f8.params.toList args.toList ds p := hA0
  rw [Try.params8] at hA hval
  obtain ⟨v0, vs0, d0, ds0, p0, q0, hargs0, rfl, rfl, h0, r0⟩ := trodAll_cons hA
  obtain ⟨v1, vs1, d1, ds1, p1, q1, hargs1, rfl, rfl, h1, r1⟩ := trodAll_cons r0
  obtain ⟨rfl, rfl, rfl⟩ := trodAll_nil r1
  obtain rfl : args = #[v0, v1] := by cases args; simp_all
  obtain ⟨rfl, rfl⟩ := trodVars_none hV
  have hbl : Rows.uptoBulkAll ([d0, d1] ++ []) ≤ 1048576 := of_decide_eq_true hk
  have hf0 : Rows.uptoBulk d0 ≤ 1048576 := Nat.le_trans (part_le (by simp)) hbl
  have k0 := h0
  have lt0 : ∀ x ∈ p0, x.block < W.heap.size := by obtain ⟨m, hm⟩ := k0; exact DataW.trod_lt m _ _ _ hm
  obtain ⟨F0, a0, rfl, hin0, hok0, ht0⟩ := open_frame (hval 0 30 v0 rfl rfl) h0 hf0
  have hf1 : Rows.uptoBulk d1 ≤ 1048576 := Nat.le_trans (part_le (by simp)) hbl
  have k1 := h1
  have lt1 : ∀ x ∈ p1, x.block < W.heap.size := by obtain ⟨m, hm⟩ := k1; exact DataW.trod_lt m _ _ _ hm
  obtain ⟨F1, a1, rfl, hin1, hok1, ht1⟩ := open_frame (hval 1 30 v1 rfl rfl) h1 hf1
  clear hA0 hbl
  refine (walk W F0 a0 hin0 hok0 ht0 F1 a1 hin1 hok1 ht1).mono fun e W' ⟨he, bel⟩ => ?_
  subst he
  exact ⟨_, rfl, _, _, _, [], _, [], hW', trodAll_mk1 (shut_bool Try.underlying4 _), (trodAll_cons_mk (Below.trod laidOut (by kernel_rfl) (of_decide_eq_true (by kernel_rfl)) k0 bel lt0) (trodAll_cons_mk (Below.trod laidOut (by kernel_rfl) (of_decide_eq_true (by kernel_rfl)) k1 bel lt1) trodAll_mk0)), rfl, bel.frame _, fun h => by cases h⟩

set_option maxRecDepth 100000 in
theorem lifted (os : Os) (started : os.Started) (H : Type) (enc : TypeId × Value → H) (I : Stop.Interp) :
    ReturnsInHanded {} Try.checked os 8 .any ((Rows.OpenSpec.upto Rows.frameApartSpec).pre6 enc Try.prog Try.f8 Rows.frameApartUptoRow.domain false) (((Rows.OpenSpec.upto Rows.frameApartSpec).at I).post enc Try.prog Try.f8 false true false false) := by
  refine returnsInHanded_of_cond (C := Try.checked) (s := Rows.OpenSpec.upto Rows.frameApartSpec) (k := Rows.uptoSmall) rfl own started (by kernel_rfl) Try.func8
    (OpenSpec.witness (enc := enc) (C := Try.checked) (s := Rows.OpenSpec.upto Rows.frameApartSpec) (k := Rows.uptoSmall) rfl false ⟨#[], #[.agg #[.int .u8 0, .int .i64 0, .int .u64 0, .int .i64 0, .int .u16 0, .int .u64 0, .int .i64 0, .int .u64 0, .int .i64 0, .slice none 0 0, .int .u64 0, .slice none 0 0, .slice none 0 0, .int .u64 0, .int .u64 0], .agg #[.int .u8 0, .int .i64 0, .int .u64 0, .int .i64 0, .int .u16 0, .int .u64 0, .int .i64 0, .int .u64 0, .int .i64 0, .slice none 0 0, .int .u64 0, .slice none 0 0, .slice none 0 0, .int .u64 0, .int .u64 0]], []⟩ 8 (by kernel_rfl) (by kernel_rfl) (by kernel_rfl)
      (x := ([.agg [.lit (.int .u8 0), .lit (.int .i64 0), .agg [.lit (.int .u64 0), .lit (.int .i64 0)], .lit (.int .u16 0), .agg [.lit (.int .u64 0), .lit (.int .i64 0)], .agg [.lit (.int .u64 0), .lit (.int .i64 0)], .nil, .lit (.int .u64 0), .nil, .nil, .lit (.int .u64 0), .lit (.int .u64 0)], .agg [.lit (.int .u8 0), .lit (.int .i64 0), .agg [.lit (.int .u64 0), .lit (.int .i64 0)], .lit (.int .u16 0), .agg [.lit (.int .u64 0), .lit (.int .i64 0)], .agg [.lit (.int .u64 0), .lit (.int .i64 0)], .nil, .lit (.int .u64 0), .nil, .nil, .lit (.int .u64 0), .lit (.int .u64 0)]], [], [])) (by kernel_rfl) rfl (by kernel_rfl)) ?_
  intro W base args ds gs before hval hW _ hk _
  exact contract H enc W base args ds gs before hval hW hk

theorem over : Rows.FrameApartUptoSaid :=
  OpenClaim.holds_of_cond 8 Try.f8 rfl rfl rfl rfl rfl rfl rfl ⟨rfl, rfl, rfl, rfl, rfl⟩ rfl rfl rfl rfl rfl (by kernel_rfl) Try.func8 (by kernel_rfl)
    (of_decide_eq_true (by kernel_rfl)) (by unfold Func.isWrapper; first | (rw [if_pos (by decide +kernel)]; kernel_rfl) | (rw [if_neg (by decide +kernel)]; exact ⟨rfl, rfl⟩))
    (fun os started H enc _ I => lifted os started H enc I)

end Go.Proofs.Ytfemjbaadnjanaa.frameApart
namespace Go.Proofs.Ytfemjbaadnjanaa
theorem frameApartUpto_holds : Rows.FrameApartUptoSaid := frameApart.over
#print axioms frameApartUpto_holds
end Go.Proofs.Ytfemjbaadnjanaa
